/- The checking package's Put of layer 9. Conditions: the fields' names rise. -/
import Derived.Test.YtjjphpklifbipaaDoorIb3
namespace Go.Proofs.YtjjphpklifbipaaDoor.Ia
open Go.ChangeShapes Go.WideShapes Go.ChangeAt Go.RowKit
set_option maxHeartbeats 16000000 in
set_option maxRecDepth 100000 in
theorem refPut_fits (w : World) (k : Int) (tx : ByteArray) (a : Option Addr) (c len : Nat) (n t : ByteArray) (l A M B : List Fd) (hs : Split n l A M B) (hlen : len = l.length) (hcap : l.length ≤ c) (hcap2 : c ≤ 9223372036854775807) (hl : l.length ≤ 1000) (hI : InF w a l) (hk : k ≠ 1) (hb : (n.size ≤ 512 ∧ t.size ≤ 4096) ∧ (there M = true ∨ l.length < 256)) :
    Calls Tryd.prog 23 #[.agg #[.int .i64 k, .string tx, .slice a len c], .string n, .string t] w fun e w' => ∃ v, e = .returned (.tuple #[v, .bool (!there M), .int .i64 0]) ∧ ItV w' v ⟨2, ⟨#[]⟩, A ++ [(n, t)] ++ B⟩ ∧ Below w.heap.size w w' := by
  subst hlen
  have HF := Lib.hid (fun W (h : Below w.heap.size w W) => refGet_calls W k tx a c _ n l A M B hs rfl hcap hcap2 (hI.below (Nat.le_refl _) h) hk)
  have HC := Lib.hid (fun O => (Cell3.new w (.int .i64 k) (.string tx) (.slice a l.length c) 24).alloc O)
  have HD := Lib.hid (fun O => Cell3.new2 (w.alloc O) (w.heap.size + 1) (by simp) (.int .i64 0) (.string ⟨#[]⟩) (.slice none 0 0) 24)
  have HI := Lib.hid hI
  have HS := Lib.hid (fun i (hi : i < l.length) => hs.eqs hi)
  have HPF := Lib.hid (hs.putF (t := t))
  have hkb : (k == 1) = false := by rw [beq_eq_false_iff_ne]; exact hk
  have hn1 : ¬ (512 : Int) < (n.size : Int) := by have := hb.1.1; omega
  have ht1 : ¬ (4096 : Int) < (t.size : Int) := by have := hb.1.2; omega
  have hor : Hid ((there M = true) ∨ (there M = false ∧ ¬ (256 : Int) ≤ (l.length : Int))) := Lib.hid (by
    cases h : there M with
    | true => exact .inl rfl
    | false =>
      refine .inr ⟨rfl, ?_⟩
      rcases hb.2 with h2 | h2
      · rw [h] at h2; cases h2
      · omega)
  have HMt : Hid (txt M = txt M) := Lib.hid rfl
  generalize txt M = tm at *
  generalize there M = m at *
  clear hI hk hs hb HMt
  go_enter Tryd.func23, Tryd.ntmps23
  go_wp2_with fail
  refine (HF.out _ (bstep (bbox _) (bbox _))).mono ?_
  rintro e w2 ⟨rfl, hb⟩
  have HB := Lib.hid (bstep (bstep (bbox _) (bbox _)) hb)
  have HC2 := Lib.hid ((HC.out _).below hb)
  have HD2 := Lib.hid ((HD.out _).below hb)
  have c0 := HC2.out.c0
  have c1 := HC2.out.c1
  have c2 := HC2.out.c2
  have HP0 : Hid (∀ T, PW w (w2.alloc (.cells #[.int .i64 2, .string ⟨#[]⟩, .slice none 0 0] T)) w2.heap.size (.slice none 0 0) []) := Lib.hid (fun T =>
    ⟨rowB_nil _ _ _ (HB.out.trans ((bbox _).mono HB.out.size)), by simp, HD2.out.lt, HD2.out.alloc _, Cell3.new _ _ _ _ _⟩)
  have hNb : w.heap.size + 1 < w2.heap.size := HD2.out.lt
  have hNb0 : w.heap.size < w2.heap.size := HC2.out.lt
  have x2 := fun O => (HC2.out.alloc O).c2
  clear hb HC HD HF
  rcases hor.out with rfl | ⟨rfl, hlt⟩
  · go_wp2_with fail
    have HP1 := Lib.hid (HP0.out 24)
    clear HP0 HC2 HD2 c0 c1 c2 x2
    generalize w2.heap.size = Nb at *
    go_loopg [13, 15, 50] (l.length + 1) (fun g pv _ vi wr => ∃ (j : Nat) (o0 : List Fd) (p : Bool) (va : Option Addr) (vn vc : Nat), vi = .int .i64 j ∧ pv = .bool p ∧ j ≤ l.length ∧ l.length - j ≤ g ∧ o0.length ≤ 2 * j ∧ Hid (putF n t (l.take j) = (o0, p)) ∧ Hid (PW w wr Nb (.slice va vn vc) o0))
    case atStart => exact ⟨0, [], false, none, 0, 0, rfl, rfl, by omega, by omega, by simp, Lib.hid rfl, HP1⟩
    case round =>
      obtain ⟨j, o0, p, va, vn, vc, rfl, rfl, hj, hg, hol, HF, HP⟩ := hrel
      have f2 := HP.out.h2.c2
      have y2 := HP.out.h2.f 2 (by omega)
      have hNs := HP.out.sz
      by_cases hjl : j < l.length
      case neg =>
        have hjc : ¬ ((j : Int) < (l.length : Int)) := by omega
        obtain rfl : j = l.length := by omega
        rw [List.take_length] at HF
        cases p
        case true =>
          have HFin : o0 = A ++ (n, t) :: B := by have h := HPF.out; rw [HF.out] at h; simpa using h
          have d0 := HP.out.h1.c0
          have d1 := HP.out.h1.c1
          have d2 := HP.out.h1.c2
          have g0 := HP.out.h1.f 0 (by omega)
          have g1 := HP.out.h1.f 1 (by omega)
          have g2 := HP.out.h1.f 2 (by omega)
          have f0 := HP.out.h2.c0
          have f1 := HP.out.h2.c1
          have HR2 : Hid (∀ x y z, RowF w (((wr.setCell ⟨w.heap.size + 1, 0, none⟩ x).setCell ⟨w.heap.size + 1, 1, none⟩ y).setCell ⟨w.heap.size + 1, 2, none⟩ z) (.slice va vn vc) (A ++ (n, t) :: B)) := Lib.hid (fun x y z => by rw [← HFin]; exact (((HP.out.row.set (by omega) (by omega) _ _).set (by omega) (by omega) _ _).set (by omega) (by omega) _ _).toF (by omega))
          clear HFin
          go_wp2_with fail
          exact bodyPost_ret (v := .tuple #[.agg #[.int .i64 2, .string ⟨#[]⟩, .slice va vn vc], .bool (false), .int .i64 0]) (by simp [results, Tryd.results23, go_sem, d0, d1, d2]) rfl ⟨_, rfl, (HR2.out _ _ _).itv 2 ⟨#[]⟩, (HR2.out _ _ _).bel⟩
        case false =>
          have HFin : o0 ++ [(n, t)] = A ++ (n, t) :: B := by have h := HPF.out; rw [HF.out] at h; simpa using h
          go_wp2_with (at_builtin; refine put_push HP.out rfl _ _ rfl rfl (n, t) _ _ _ rfl (by first | rfl | simp) rfl ?hl ?_)
          case hl => omega
          intro va3 m3 vc3 w3 hP3 z0 z1 hst
          have HP3 := Lib.hid hP3
          have d0 := hP3.h1.c0
          have d1 := hP3.h1.c1
          have d2 := hP3.h1.c2
          have g0 := hP3.h1.f 0 (by omega)
          have g1 := hP3.h1.f 1 (by omega)
          have g2 := hP3.h1.f 2 (by omega)
          have f0 := hP3.h2.c0
          have f1 := hP3.h2.c1
          have f3 := hP3.h2.c2
          have HR2 : Hid (∀ x y z, RowF w ((((w3.setCell ⟨Nb, 2, none⟩ (.slice va3 m3 vc3)).setCell ⟨w.heap.size + 1, 0, none⟩ x).setCell ⟨w.heap.size + 1, 1, none⟩ y).setCell ⟨w.heap.size + 1, 2, none⟩ z) (.slice va3 m3 vc3) (A ++ (n, t) :: B)) := Lib.hid (fun x y z => (((hP3.row.set (by omega) (by omega) _ _).set (by omega) (by omega) _ _).set (by omega) (by omega) _ _).toF (by omega))
          clear hP3 hst HFin
          go_wp2_with fail
          exact bodyPost_ret (v := .tuple #[.agg #[.int .i64 2, .string ⟨#[]⟩, .slice va3 m3 vc3], .bool (false), .int .i64 0]) (by simp [results, Tryd.results23, go_sem, d0, d1, d2]) rfl ⟨_, rfl, by rw [List.append_assoc]; exact (HR2.out _ _ _).itv 2 ⟨#[]⟩, (HR2.out _ _ _).bel⟩
      case pos =>
      have hjc : (j : Int) < (l.length : Int) := by omega
      obtain ⟨b, o, rfl, hlt2, hcs⟩ := HI.out (by omega)
      obtain ⟨c0, c1⟩ := hcs j hjl
      have e : ∀ j, wr.cell? ⟨b, j, none⟩ = w.cell? ⟨b, j, none⟩ := fun j => HP.out.row.2.cell (p := ⟨b, j, none⟩) hlt2
      rw [← e] at c0 c1
      have HT := Lib.hid (putF_take (n := n) (t := t) hjl)
      have hE := HS.out j hjl
      clear hcs e hlt2
      generalize l[j] = q at *
      obtain ⟨x, y⟩ := q
      have c0 : wr.cell? ⟨b, o + j * 2, none⟩ = some (.string x) := c0
      have c1 : wr.cell? ⟨b, o + j * 2 + 1, none⟩ = some (.string y) := c1
      have HPa := Lib.hid (fun O => HP.out.alloc O)
      have f2a := fun O => (HP.out.alloc O).h2.c2
      have hbx : some wr.heap.size ≠ (Value.slice va vn vc).ownBlock := fun e => by have := (HP.out.row.lt _ e.symm).2; omega
      have hE3 : ((x.toList == n.toList) = false ∧ (n.toList == x.toList) = false ∧ Op.bytesLess n.toList x.toList = false) ∨ ((x.toList == n.toList) = true ∧ (n.toList == x.toList) = true ∧ Op.bytesLess n.toList x.toList = false) ∨ ((x.toList == n.toList) = false ∧ (n.toList == x.toList) = false ∧ Op.bytesLess n.toList x.toList = true) := by
        rcases hE with ⟨-, h2, h3, h4⟩ | ⟨-, -, -, -, h2, h3, h4⟩ | ⟨-, h2, h3, h4⟩
        · exact .inl ⟨h2, h3, h4⟩
        · exact .inr (.inl ⟨h2, h3, h4⟩)
        · exact .inr (.inr ⟨h2, h3, h4⟩)
      have hlt2 : ((x.toList == n.toList) = false → Op.bytesLess n.toList x.toList = false → (!Op.bytesLess x.toList n.toList) = false) ∧ ((x.toList == n.toList) = true → (!Op.bytesLess x.toList n.toList) = true) ∧ (Op.bytesLess n.toList x.toList = true → (!Op.bytesLess x.toList n.toList) = true) := by
        refine ⟨fun e1 e2 => ?_, fun e1 => ?_, fun e1 => ?_⟩
        · cases h : Op.bytesLess x.toList n.toList with
          | true => rfl
          | false => rw [lt_total (a := x) (b := n) h e2] at e1; simp at e1
        · rw [ba_eq (eq_of_beq e1)]; have := lt_irrefl n; unfold lt at this; rw [this]; rfl
        · have := lt_asymm (a := n) (b := x) e1; unfold lt at this; rw [this]; rfl
      clear hE
      rcases hE3 with ⟨h2, h3, h4⟩ | ⟨h2, h3, h4⟩ | ⟨h2, h3, h4⟩ <;> cases p
      · -- a, placed false
        have h5 := hlt2.1 h2 h4
        clear hlt2
        have hne : (!(x.toList == n.toList)) = true := by rw [h2]; rfl
        have HT2 : Hid (putF n t (l.take (j + 1)) = (o0 ++ [(x, y)], false)) := Lib.hid (by rw [HT.out, HF.out]; simp [putS, h2, h3, h4])
        clear HF HT
        go_wp2_with (at_builtin; refine put_push (HPa.out _) rfl _ _ rfl rfl (x, y) _ _ _ rfl (by simp) rfl ?hl ?_)
        case hl => omega
        intro va3 m3 vc3 w3 hP3 z0 z1 hst
        have HP3 := Lib.hid hP3
        clear hP3 hst
        go_wp2_with fail
        go_roundg (gk - 1)
        case measure => omega
        case rel => exact ⟨j + 1, o0 ++ [(x, y)], false, _, _, _, by go_num, rfl, by omega, by omega, by first | omega | (simp only [List.length_append, List.length_cons, List.length_nil]; omega), HT2, Lib.hid HP3.out⟩
      · -- a, placed true
        have h5 := hlt2.1 h2 h4
        clear hlt2
        have hne : (!(x.toList == n.toList)) = true := by rw [h2]; rfl
        have HT2 : Hid (putF n t (l.take (j + 1)) = (o0 ++ [(x, y)], true)) := Lib.hid (by rw [HT.out, HF.out]; simp [putS, h2, h3, h4])
        clear HF HT
        go_wp2_with (at_builtin; refine put_push (HPa.out _) rfl _ _ rfl rfl (x, y) _ _ _ rfl (by simp) rfl ?hl ?_)
        case hl => omega
        intro va3 m3 vc3 w3 hP3 z0 z1 hst
        have HP3 := Lib.hid hP3
        clear hP3 hst
        go_wp2_with fail
        go_roundg (gk - 1)
        case measure => omega
        case rel => exact ⟨j + 1, o0 ++ [(x, y)], true, _, _, _, by go_num, rfl, by omega, by omega, by first | omega | (simp only [List.length_append, List.length_cons, List.length_nil]; omega), HT2, Lib.hid HP3.out⟩
      · -- m, placed false
        have h5 := hlt2.2.1 h2
        clear hlt2
        have hne : (!(x.toList == n.toList)) = false := by rw [h2]; rfl
        have HT2 : Hid (putF n t (l.take (j + 1)) = (o0 ++ [(n, t)], true)) := Lib.hid (by rw [HT.out, HF.out]; simp [putS, h2, h3, h4])
        clear HF HT
        go_wp2_with (at_builtin; refine put_push (HPa.out _) rfl _ _ rfl rfl (n, t) _ _ _ rfl (by simp) rfl ?hl ?_)
        case hl => omega
        intro va3 m3 vc3 w3 hP3 z0 z1 hst
        have e0 : w3.cell? ⟨wr.heap.size, 0, none⟩ = some (.string x) := (hst wr.heap.size 0 (by simp) hbx).trans (by rw [World.cell?_alloc_new]; rfl)
        have e1 : w3.cell? ⟨wr.heap.size, 1, none⟩ = some (.string y) := (hst wr.heap.size 1 (by simp) hbx).trans (by rw [World.cell?_alloc_new]; rfl)
        have hnx : ¬ (Nb = wr.heap.size) := by omega
        have hnx2 : ¬ (wr.heap.size = Nb) := by omega
        have HP3 := Lib.hid hP3
        clear hP3 hst
        go_wp2_with fail
        go_roundg (gk - 1)
        case measure => omega
        case rel => exact ⟨j + 1, o0 ++ [(n, t)], true, _, _, _, by go_num, rfl, by omega, by omega, by first | omega | (simp only [List.length_append, List.length_cons, List.length_nil]; omega), HT2, Lib.hid HP3.out⟩
      · -- m, placed true
        have h5 := hlt2.2.1 h2
        clear hlt2
        have hne : (!(x.toList == n.toList)) = false := by rw [h2]; rfl
        have HT2 : Hid (putF n t (l.take (j + 1)) = (o0, true)) := Lib.hid (by rw [HT.out, HF.out]; simp [putS, h2, h3, h4])
        clear HF HT
        go_wp2_with fail
        go_roundg (gk - 1)
        case measure => omega
        case rel => exact ⟨j + 1, o0, true, _, _, _, by go_num, rfl, by omega, by omega, by first | omega | (simp only [List.length_append, List.length_cons, List.length_nil]; omega), HT2, Lib.hid (HPa.out _)⟩
      · -- b, placed false
        have h5 := hlt2.2.2 h4
        clear hlt2
        have hne : (!(x.toList == n.toList)) = true := by rw [h2]; rfl
        have HT2 : Hid (putF n t (l.take (j + 1)) = (o0 ++ [(n, t), (x, y)], true)) := Lib.hid (by rw [HT.out, HF.out]; simp [putS, h2, h3, h4])
        clear HF HT
        go_wp2_with (at_builtin; refine put_push (HPa.out _) rfl _ _ rfl rfl (n, t) _ _ _ rfl (by simp) rfl ?hl ?_)
        case hl => omega
        intro va3 m3 vc3 w3 hP3 z0 z1 hst
        have e0 : w3.cell? ⟨wr.heap.size, 0, none⟩ = some (.string x) := (hst wr.heap.size 0 (by simp) hbx).trans (by rw [World.cell?_alloc_new]; rfl)
        have e1 : w3.cell? ⟨wr.heap.size, 1, none⟩ = some (.string y) := (hst wr.heap.size 1 (by simp) hbx).trans (by rw [World.cell?_alloc_new]; rfl)
        have hnx : ¬ (Nb = wr.heap.size) := by omega
        have hnx2 : ¬ (wr.heap.size = Nb) := by omega
        have HP3 := Lib.hid hP3
        clear hP3 hst
        have x2 := fun O => (HP3.out.alloc O).h2.c2
        have k2 := HP3.out.h2.c2
        go_wp2_with (at_builtin; refine put_push HP3.out rfl _ _ rfl rfl (x, y) _ _ _ rfl (by first | rfl | simp [World.setCell]) rfl ?hl ?_)
        case hl => simp only [List.length_append, List.length_cons, List.length_nil]; omega
        intro va4 m4 vc4 w4 hP4 q0 q1 hst4
        have HP4 := Lib.hid hP4
        clear hP4 hst4
        go_wp2_with fail
        go_roundg (gk - 1)
        case measure => omega
        case rel => exact ⟨j + 1, o0 ++ [(n, t), (x, y)], true, _, _, _, by go_num, rfl, by omega, by omega, by first | omega | (simp only [List.length_append, List.length_cons, List.length_nil]; omega), HT2, Lib.hid HP4.out⟩
      · -- b, placed true
        have h5 := hlt2.2.2 h4
        clear hlt2
        have hne : (!(x.toList == n.toList)) = true := by rw [h2]; rfl
        have HT2 : Hid (putF n t (l.take (j + 1)) = (o0 ++ [(x, y)], true)) := Lib.hid (by rw [HT.out, HF.out]; simp [putS, h2, h3, h4])
        clear HF HT
        go_wp2_with (at_builtin; refine put_push (HPa.out _) rfl _ _ rfl rfl (x, y) _ _ _ rfl (by simp) rfl ?hl ?_)
        case hl => omega
        intro va3 m3 vc3 w3 hP3 z0 z1 hst
        have HP3 := Lib.hid hP3
        clear hP3 hst
        go_wp2_with fail
        go_roundg (gk - 1)
        case measure => omega
        case rel => exact ⟨j + 1, o0 ++ [(x, y)], true, _, _, _, by go_num, rfl, by omega, by omega, by first | omega | (simp only [List.length_append, List.length_cons, List.length_nil]; omega), HT2, Lib.hid HP3.out⟩
  · go_wp2_with fail
    have HP1 := Lib.hid (HP0.out 24)
    clear HP0 HC2 HD2 c0 c1 c2 x2
    generalize w2.heap.size = Nb at *
    go_loopg [13, 15, 50] (l.length + 1) (fun g pv _ vi wr => ∃ (j : Nat) (o0 : List Fd) (p : Bool) (va : Option Addr) (vn vc : Nat), vi = .int .i64 j ∧ pv = .bool p ∧ j ≤ l.length ∧ l.length - j ≤ g ∧ o0.length ≤ 2 * j ∧ Hid (putF n t (l.take j) = (o0, p)) ∧ Hid (PW w wr Nb (.slice va vn vc) o0))
    case atStart => exact ⟨0, [], false, none, 0, 0, rfl, rfl, by omega, by omega, by simp, Lib.hid rfl, HP1⟩
    case round =>
      obtain ⟨j, o0, p, va, vn, vc, rfl, rfl, hj, hg, hol, HF, HP⟩ := hrel
      have f2 := HP.out.h2.c2
      have y2 := HP.out.h2.f 2 (by omega)
      have hNs := HP.out.sz
      by_cases hjl : j < l.length
      case neg =>
        have hjc : ¬ ((j : Int) < (l.length : Int)) := by omega
        obtain rfl : j = l.length := by omega
        rw [List.take_length] at HF
        cases p
        case true =>
          have HFin : o0 = A ++ (n, t) :: B := by have h := HPF.out; rw [HF.out] at h; simpa using h
          have d0 := HP.out.h1.c0
          have d1 := HP.out.h1.c1
          have d2 := HP.out.h1.c2
          have g0 := HP.out.h1.f 0 (by omega)
          have g1 := HP.out.h1.f 1 (by omega)
          have g2 := HP.out.h1.f 2 (by omega)
          have f0 := HP.out.h2.c0
          have f1 := HP.out.h2.c1
          have HR2 : Hid (∀ x y z, RowF w (((wr.setCell ⟨w.heap.size + 1, 0, none⟩ x).setCell ⟨w.heap.size + 1, 1, none⟩ y).setCell ⟨w.heap.size + 1, 2, none⟩ z) (.slice va vn vc) (A ++ (n, t) :: B)) := Lib.hid (fun x y z => by rw [← HFin]; exact (((HP.out.row.set (by omega) (by omega) _ _).set (by omega) (by omega) _ _).set (by omega) (by omega) _ _).toF (by omega))
          clear HFin
          go_wp2_with fail
          exact bodyPost_ret (v := .tuple #[.agg #[.int .i64 2, .string ⟨#[]⟩, .slice va vn vc], .bool (true), .int .i64 0]) (by simp [results, Tryd.results23, go_sem, d0, d1, d2]) rfl ⟨_, rfl, (HR2.out _ _ _).itv 2 ⟨#[]⟩, (HR2.out _ _ _).bel⟩
        case false =>
          have HFin : o0 ++ [(n, t)] = A ++ (n, t) :: B := by have h := HPF.out; rw [HF.out] at h; simpa using h
          go_wp2_with (at_builtin; refine put_push HP.out rfl _ _ rfl rfl (n, t) _ _ _ rfl (by first | rfl | simp) rfl ?hl ?_)
          case hl => omega
          intro va3 m3 vc3 w3 hP3 z0 z1 hst
          have HP3 := Lib.hid hP3
          have d0 := hP3.h1.c0
          have d1 := hP3.h1.c1
          have d2 := hP3.h1.c2
          have g0 := hP3.h1.f 0 (by omega)
          have g1 := hP3.h1.f 1 (by omega)
          have g2 := hP3.h1.f 2 (by omega)
          have f0 := hP3.h2.c0
          have f1 := hP3.h2.c1
          have f3 := hP3.h2.c2
          have HR2 : Hid (∀ x y z, RowF w ((((w3.setCell ⟨Nb, 2, none⟩ (.slice va3 m3 vc3)).setCell ⟨w.heap.size + 1, 0, none⟩ x).setCell ⟨w.heap.size + 1, 1, none⟩ y).setCell ⟨w.heap.size + 1, 2, none⟩ z) (.slice va3 m3 vc3) (A ++ (n, t) :: B)) := Lib.hid (fun x y z => (((hP3.row.set (by omega) (by omega) _ _).set (by omega) (by omega) _ _).set (by omega) (by omega) _ _).toF (by omega))
          clear hP3 hst HFin
          go_wp2_with fail
          exact bodyPost_ret (v := .tuple #[.agg #[.int .i64 2, .string ⟨#[]⟩, .slice va3 m3 vc3], .bool (true), .int .i64 0]) (by simp [results, Tryd.results23, go_sem, d0, d1, d2]) rfl ⟨_, rfl, by rw [List.append_assoc]; exact (HR2.out _ _ _).itv 2 ⟨#[]⟩, (HR2.out _ _ _).bel⟩
      case pos =>
      have hjc : (j : Int) < (l.length : Int) := by omega
      obtain ⟨b, o, rfl, hlt2, hcs⟩ := HI.out (by omega)
      obtain ⟨c0, c1⟩ := hcs j hjl
      have e : ∀ j, wr.cell? ⟨b, j, none⟩ = w.cell? ⟨b, j, none⟩ := fun j => HP.out.row.2.cell (p := ⟨b, j, none⟩) hlt2
      rw [← e] at c0 c1
      have HT := Lib.hid (putF_take (n := n) (t := t) hjl)
      have hE := HS.out j hjl
      clear hcs e hlt2
      generalize l[j] = q at *
      obtain ⟨x, y⟩ := q
      have c0 : wr.cell? ⟨b, o + j * 2, none⟩ = some (.string x) := c0
      have c1 : wr.cell? ⟨b, o + j * 2 + 1, none⟩ = some (.string y) := c1
      have HPa := Lib.hid (fun O => HP.out.alloc O)
      have f2a := fun O => (HP.out.alloc O).h2.c2
      have hbx : some wr.heap.size ≠ (Value.slice va vn vc).ownBlock := fun e => by have := (HP.out.row.lt _ e.symm).2; omega
      have hE3 : ((x.toList == n.toList) = false ∧ (n.toList == x.toList) = false ∧ Op.bytesLess n.toList x.toList = false) ∨ ((x.toList == n.toList) = true ∧ (n.toList == x.toList) = true ∧ Op.bytesLess n.toList x.toList = false) ∨ ((x.toList == n.toList) = false ∧ (n.toList == x.toList) = false ∧ Op.bytesLess n.toList x.toList = true) := by
        rcases hE with ⟨-, h2, h3, h4⟩ | ⟨-, -, -, -, h2, h3, h4⟩ | ⟨-, h2, h3, h4⟩
        · exact .inl ⟨h2, h3, h4⟩
        · exact .inr (.inl ⟨h2, h3, h4⟩)
        · exact .inr (.inr ⟨h2, h3, h4⟩)
      have hlt2 : ((x.toList == n.toList) = false → Op.bytesLess n.toList x.toList = false → (!Op.bytesLess x.toList n.toList) = false) ∧ ((x.toList == n.toList) = true → (!Op.bytesLess x.toList n.toList) = true) ∧ (Op.bytesLess n.toList x.toList = true → (!Op.bytesLess x.toList n.toList) = true) := by
        refine ⟨fun e1 e2 => ?_, fun e1 => ?_, fun e1 => ?_⟩
        · cases h : Op.bytesLess x.toList n.toList with
          | true => rfl
          | false => rw [lt_total (a := x) (b := n) h e2] at e1; simp at e1
        · rw [ba_eq (eq_of_beq e1)]; have := lt_irrefl n; unfold lt at this; rw [this]; rfl
        · have := lt_asymm (a := n) (b := x) e1; unfold lt at this; rw [this]; rfl
      clear hE
      rcases hE3 with ⟨h2, h3, h4⟩ | ⟨h2, h3, h4⟩ | ⟨h2, h3, h4⟩ <;> cases p
      · -- a, placed false
        have h5 := hlt2.1 h2 h4
        clear hlt2
        have hne : (!(x.toList == n.toList)) = true := by rw [h2]; rfl
        have HT2 : Hid (putF n t (l.take (j + 1)) = (o0 ++ [(x, y)], false)) := Lib.hid (by rw [HT.out, HF.out]; simp [putS, h2, h3, h4])
        clear HF HT
        go_wp2_with (at_builtin; refine put_push (HPa.out _) rfl _ _ rfl rfl (x, y) _ _ _ rfl (by simp) rfl ?hl ?_)
        case hl => omega
        intro va3 m3 vc3 w3 hP3 z0 z1 hst
        have HP3 := Lib.hid hP3
        clear hP3 hst
        go_wp2_with fail
        go_roundg (gk - 1)
        case measure => omega
        case rel => exact ⟨j + 1, o0 ++ [(x, y)], false, _, _, _, by go_num, rfl, by omega, by omega, by first | omega | (simp only [List.length_append, List.length_cons, List.length_nil]; omega), HT2, Lib.hid HP3.out⟩
      · -- a, placed true
        have h5 := hlt2.1 h2 h4
        clear hlt2
        have hne : (!(x.toList == n.toList)) = true := by rw [h2]; rfl
        have HT2 : Hid (putF n t (l.take (j + 1)) = (o0 ++ [(x, y)], true)) := Lib.hid (by rw [HT.out, HF.out]; simp [putS, h2, h3, h4])
        clear HF HT
        go_wp2_with (at_builtin; refine put_push (HPa.out _) rfl _ _ rfl rfl (x, y) _ _ _ rfl (by simp) rfl ?hl ?_)
        case hl => omega
        intro va3 m3 vc3 w3 hP3 z0 z1 hst
        have HP3 := Lib.hid hP3
        clear hP3 hst
        go_wp2_with fail
        go_roundg (gk - 1)
        case measure => omega
        case rel => exact ⟨j + 1, o0 ++ [(x, y)], true, _, _, _, by go_num, rfl, by omega, by omega, by first | omega | (simp only [List.length_append, List.length_cons, List.length_nil]; omega), HT2, Lib.hid HP3.out⟩
      · -- m, placed false
        have h5 := hlt2.2.1 h2
        clear hlt2
        have hne : (!(x.toList == n.toList)) = false := by rw [h2]; rfl
        have HT2 : Hid (putF n t (l.take (j + 1)) = (o0 ++ [(n, t)], true)) := Lib.hid (by rw [HT.out, HF.out]; simp [putS, h2, h3, h4])
        clear HF HT
        go_wp2_with (at_builtin; refine put_push (HPa.out _) rfl _ _ rfl rfl (n, t) _ _ _ rfl (by simp) rfl ?hl ?_)
        case hl => omega
        intro va3 m3 vc3 w3 hP3 z0 z1 hst
        have e0 : w3.cell? ⟨wr.heap.size, 0, none⟩ = some (.string x) := (hst wr.heap.size 0 (by simp) hbx).trans (by rw [World.cell?_alloc_new]; rfl)
        have e1 : w3.cell? ⟨wr.heap.size, 1, none⟩ = some (.string y) := (hst wr.heap.size 1 (by simp) hbx).trans (by rw [World.cell?_alloc_new]; rfl)
        have hnx : ¬ (Nb = wr.heap.size) := by omega
        have hnx2 : ¬ (wr.heap.size = Nb) := by omega
        have HP3 := Lib.hid hP3
        clear hP3 hst
        go_wp2_with fail
        go_roundg (gk - 1)
        case measure => omega
        case rel => exact ⟨j + 1, o0 ++ [(n, t)], true, _, _, _, by go_num, rfl, by omega, by omega, by first | omega | (simp only [List.length_append, List.length_cons, List.length_nil]; omega), HT2, Lib.hid HP3.out⟩
      · -- m, placed true
        have h5 := hlt2.2.1 h2
        clear hlt2
        have hne : (!(x.toList == n.toList)) = false := by rw [h2]; rfl
        have HT2 : Hid (putF n t (l.take (j + 1)) = (o0, true)) := Lib.hid (by rw [HT.out, HF.out]; simp [putS, h2, h3, h4])
        clear HF HT
        go_wp2_with fail
        go_roundg (gk - 1)
        case measure => omega
        case rel => exact ⟨j + 1, o0, true, _, _, _, by go_num, rfl, by omega, by omega, by first | omega | (simp only [List.length_append, List.length_cons, List.length_nil]; omega), HT2, Lib.hid (HPa.out _)⟩
      · -- b, placed false
        have h5 := hlt2.2.2 h4
        clear hlt2
        have hne : (!(x.toList == n.toList)) = true := by rw [h2]; rfl
        have HT2 : Hid (putF n t (l.take (j + 1)) = (o0 ++ [(n, t), (x, y)], true)) := Lib.hid (by rw [HT.out, HF.out]; simp [putS, h2, h3, h4])
        clear HF HT
        go_wp2_with (at_builtin; refine put_push (HPa.out _) rfl _ _ rfl rfl (n, t) _ _ _ rfl (by simp) rfl ?hl ?_)
        case hl => omega
        intro va3 m3 vc3 w3 hP3 z0 z1 hst
        have e0 : w3.cell? ⟨wr.heap.size, 0, none⟩ = some (.string x) := (hst wr.heap.size 0 (by simp) hbx).trans (by rw [World.cell?_alloc_new]; rfl)
        have e1 : w3.cell? ⟨wr.heap.size, 1, none⟩ = some (.string y) := (hst wr.heap.size 1 (by simp) hbx).trans (by rw [World.cell?_alloc_new]; rfl)
        have hnx : ¬ (Nb = wr.heap.size) := by omega
        have hnx2 : ¬ (wr.heap.size = Nb) := by omega
        have HP3 := Lib.hid hP3
        clear hP3 hst
        have x2 := fun O => (HP3.out.alloc O).h2.c2
        have k2 := HP3.out.h2.c2
        go_wp2_with (at_builtin; refine put_push HP3.out rfl _ _ rfl rfl (x, y) _ _ _ rfl (by first | rfl | simp [World.setCell]) rfl ?hl ?_)
        case hl => simp only [List.length_append, List.length_cons, List.length_nil]; omega
        intro va4 m4 vc4 w4 hP4 q0 q1 hst4
        have HP4 := Lib.hid hP4
        clear hP4 hst4
        go_wp2_with fail
        go_roundg (gk - 1)
        case measure => omega
        case rel => exact ⟨j + 1, o0 ++ [(n, t), (x, y)], true, _, _, _, by go_num, rfl, by omega, by omega, by first | omega | (simp only [List.length_append, List.length_cons, List.length_nil]; omega), HT2, Lib.hid HP4.out⟩
      · -- b, placed true
        have h5 := hlt2.2.2 h4
        clear hlt2
        have hne : (!(x.toList == n.toList)) = true := by rw [h2]; rfl
        have HT2 : Hid (putF n t (l.take (j + 1)) = (o0 ++ [(x, y)], true)) := Lib.hid (by rw [HT.out, HF.out]; simp [putS, h2, h3, h4])
        clear HF HT
        go_wp2_with (at_builtin; refine put_push (HPa.out _) rfl _ _ rfl rfl (x, y) _ _ _ rfl (by simp) rfl ?hl ?_)
        case hl => omega
        intro va3 m3 vc3 w3 hP3 z0 z1 hst
        have HP3 := Lib.hid hP3
        clear hP3 hst
        go_wp2_with fail
        go_roundg (gk - 1)
        case measure => omega
        case rel => exact ⟨j + 1, o0 ++ [(x, y)], true, _, _, _, by go_num, rfl, by omega, by omega, by first | omega | (simp only [List.length_append, List.length_cons, List.length_nil]; omega), HT2, Lib.hid HP3.out⟩
end Go.Proofs.YtjjphpklifbipaaDoor.Ia
