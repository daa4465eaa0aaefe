/- Package lines' objects further: Feed onto what waits, Next at a command with more behind it, at what is no command, behind that. Conditions: what start-up lays ('PCtx'); the variable MaxLen holds some int; bounds. -/
import Derived.Test.YtenhgjpoigkdgaaGreatDoorLo2
namespace Go.Proofs.YtenhgjpoigkdgaaGreatDoor.Ln
open Go.ChangeShapes Go.WideShapes Go.ChangeAt Go.RowKit

theorem own_more {B : Nat} {w : World} {v : Value} {l : List UInt8} {ops : Array Oper} {rest : List Oper} {o : Oper} {a : Act} {Q : Exit → Act → World → Prop} (hr0 : w.ownsRow B 5 1 v l.length (cellsB l)) (hBw : B ≤ w.heap.size) (hgd : o.guard = none) (s x : Operand)
    (ho : o.op = .call { callee := .builtin .append, args := #[s, x], argTypes := #[22, 22] }) (hs : a.eval s = v) (bs : List UInt8) (ad : Addr) (m c : Nat)
    (hx : a.eval x = .slice (some ad) m c) (hm : m = bs.length) (hnews : ∀ j u, (cellsB bs)[j]? = some u → w.cell? (ad.add j) = some u) (hl : l.length + bs.length ≤ 100000000000)
    (h : ∀ v' w', w'.ownsRow B 5 1 v' (l ++ bs).length (cellsB (l ++ bs)) → w.grownBy w' v.ownBlock → wpList Tryz.prog ops Q rest (a.put o.dst v') w') : wpList Tryz.prog ops Q (o :: rest) a w := by
  obtain ⟨i0, hi, hz0, hz1, hz2⟩ := info_parts i5
  subst hm
  have e1 : (cellsB l).length = l.length := cellsB_len l
  have e2 : (cellsB bs).length = bs.length := cellsB_len bs
  refine wpList_append_own _ hgd s x 22 ho B 5 i0 (.int .u8 0) 1 1 Tryz.underlying22 hi hz0 hz1 hz2 rfl (by decide) v l.length (cellsB l) hs hr0 ad bs.length c (cellsB bs) hx (by omega) hnews (cellsB_one bs) (by unfold maxLen; omega) (by omega) hBw ?_
  intro v' w' hr hg _
  refine h v' w' ?_ hg
  rw [List.length_append, cellsB_app]
  exact hr
/-- An object of package lines in block L, not failed, of which the bytes l wait in a row of its own behind block B. -/
structure Own (L B : Nat) (w : World) (l : List UInt8) : Prop where
  lt : L < B
  le : B ≤ w.heap.size
  row : ∃ v, w.cell? ⟨L, 0, none⟩ = some v ∧ w.ownsRow B 5 1 v l.length (cellsB l)
  c1 : w.cell? ⟨L, 1, none⟩ = some (.bool false)
  f0 : w.frozen? ⟨L, 0, none⟩ = false
  f1 : w.frozen? ⟨L, 1, none⟩ = false
/-- .. of which the bytes l wait, wherever. -/
structure Waits (L : Nat) (w : World) (l : List UInt8) : Prop where
  row : ∃ a c, w.cell? ⟨L, 0, none⟩ = some (.slice a l.length c) ∧ InB w a c l ∧ (a = none → c = 0) ∧ ∀ ad, a = some ad → ad.block ≠ L
  c1 : w.cell? ⟨L, 1, none⟩ = some (.bool false)
  f0 : w.frozen? ⟨L, 0, none⟩ = false
  f1 : w.frozen? ⟨L, 1, none⟩ = false
/-- .. failed. -/
structure Failed (L : Nat) (w : World) : Prop where
  c0 : w.cell? ⟨L, 0, none⟩ = some (.slice none 0 0)
  c1 : w.cell? ⟨L, 1, none⟩ = some (.bool true)
theorem Own.mid {L B : Nat} {w : World} {l : List UInt8} (h : Own L B w l) : Waits L w l := by
  obtain ⟨v, hv, hr⟩ := h.row
  refine ⟨?_, h.c1, h.f0, h.f1⟩
  have hlt : ∀ ad n c, v = .slice (some ad) n c → ad.block ≠ L := by
    rcases hr.2 with ⟨rfl, -⟩ | ⟨g, cap, cur, rfl, hg, -⟩
    · intro ad n c e; cases e
    · intro ad n c e
      injection e with e _ _
      injection e with e
      subst e
      have := h.lt
      show g ≠ L
      omega
  obtain ⟨a, c, rfl, hB, h0⟩ := inb_of_own hr
  exact ⟨a, c, hv, hB, h0, fun ad e => hlt ad _ _ (by rw [e])⟩
theorem Waits.below {L : Nat} {w w' : World} {l : List UInt8} (h : Waits L w l) (hb : Below w.heap.size w w') : Waits L w' l := by
  obtain ⟨a, c, h0, hB, hn, hne⟩ := h.row
  have hL : L < w.heap.size := World.block_lt_of_cell? w _ h0
  exact ⟨⟨a, c, (hb.cell (p := ⟨L, 0, none⟩) hL).trans h0, hB.below hb, hn, hne⟩, (hb.cell (p := ⟨L, 1, none⟩) hL).trans h.c1, (hb.frozen (p := ⟨L, 0, none⟩) hL).trans h.f0, (hb.frozen (p := ⟨L, 1, none⟩) hL).trans h.f1⟩
theorem Own.below {L B : Nat} {w w' : World} {l : List UInt8} (h : Own L B w l) (hb : Below w.heap.size w w') : Own L B w' l := by
  obtain ⟨v, h0, hr⟩ := h.row
  have hL : L < w.heap.size := World.block_lt_of_cell? w _ h0
  exact ⟨h.lt, Nat.le_trans h.le hb.size, ⟨v, (hb.cell (p := ⟨L, 0, none⟩) hL).trans h0, hr.kept (grow_of0 hb) (by cases hv : v.ownBlock <;> simp)⟩, (hb.cell (p := ⟨L, 1, none⟩) hL).trans h.c1, (hb.frozen (p := ⟨L, 0, none⟩) hL).trans h.f0, (hb.frozen (p := ⟨L, 1, none⟩) hL).trans h.f1⟩
set_option maxHeartbeats 4000000 in
theorem feed_more (L B : Nat) (w : World) (l : List UInt8) (hO : Own L B w l) (a : Option Addr) (c : Nat) (b : List UInt8) (hB : InB w a c b) (hb0 : 0 < b.length) (hm : l.length + b.length ≤ 1000000) :
    Calls Tryz.prog 9 #[.pointer (some ⟨L, 0, none⟩), .slice a b.length c] w fun e w' => e = .returned (.tuple #[]) ∧ Own L B w' (l ++ b) ∧ Below L w w' := by
  obtain ⟨ad, rfl, hnews⟩ := hB.news hb0
  obtain ⟨v, h0, hr⟩ := hO.row
  have h1 := hO.c1
  have f0 := hO.f0
  have HN := Lib.hid hnews
  have HR := Lib.hid hr
  have HO := Lib.hid hO
  have hLs : L < w.heap.size := World.block_lt_of_cell? w _ h0
  clear hnews hB hr hO
  go_enter Tryz.func9, Tryz.ntmps9
  go_wp2_with (at_builtin; refine own_more HR.out HO.out.le rfl _ _ rfl rfl b ad _ _ rfl rfl HN.out ?hl1 ?_)
  case hl1 => omega
  intro v2 w2 hr2 hg2
  have hblk : v.ownBlock ≠ some L := by
    rcases HR.out.2 with ⟨rfl, -⟩ | ⟨g, cap, cur, rfl, hg, -⟩
    · intro e; cases e
    · intro e
      have e : some g = some L := e
      injection e with e
      have := HO.out.lt
      omega
  have hLb : w2.heap[L]? = w.heap[L]? := hg2.block L hLs (fun e => hblk e.symm)
  have gcell : ∀ i, w2.cell? ⟨L, i, none⟩ = w.cell? ⟨L, i, none⟩ := fun i => by simp only [World.cell?, hLb]
  have gfro : ∀ i, w2.frozen? ⟨L, i, none⟩ = w.frozen? ⟨L, i, none⟩ := fun i => by simp only [World.frozen?, hLb]
  have g0 : w2.cell? ⟨L, 0, none⟩ = some v := (gcell 0).trans h0
  have gf : w2.frozen? ⟨L, 0, none⟩ = false := (gfro 0).trans f0
  have g1 : w2.cell? ⟨L, 1, none⟩ = some (.bool false) := (gcell 1).trans h1
  have gf1 : w2.frozen? ⟨L, 1, none⟩ = false := (gfro 1).trans HO.out.f1
  have HZ : Hid (Own L B (w2.setCell ⟨L, 0, none⟩ v2) (l ++ b) ∧ Below L w (w2.setCell ⟨L, 0, none⟩ v2)) := Lib.hid (by
    refine ⟨⟨HO.out.lt, by simp only [World.size_setCell]; exact Nat.le_trans HO.out.le hg2.size, ⟨v2, World.cell?_setCell_same w2 _ _ g0, by rw [List.length_append]; exact ownsRow_setCell_below hr2 (a := ⟨L, 0, none⟩) HO.out.lt _⟩, (World.cell?_setCell_other _ _ _ _ (addr_ne (.inr (by show (0 : Nat) ≠ 1; decide)))).trans g1, by rw [World.frozen?_setCell]; exact gf, by rw [World.frozen?_setCell]; exact gf1⟩, ?_⟩
    refine Below.setCell (p := ⟨L, 0, none⟩) ?_ (Nat.le_refl _) _
    refine ((Below.refl L w).grown hg2 (Nat.le_of_lt hLs) fun k hk => ?_)
    rcases HR.out.2 with ⟨rfl, -⟩ | ⟨g, cap, cur, rfl, hg, -⟩
    · cases hk
    · have hk : some g = some k := hk
      injection hk with hk
      have := HO.out.lt
      omega)
  obtain ⟨a2, c2, rfl, -, -⟩ := inb_of_own (by rw [List.length_append]; exact hr2 : w2.ownsRow B 5 1 v2 (l ++ b).length (cellsB (l ++ b)))
  clear hr2 hg2 hblk hLb gcell gfro
  go_wp2_with fail
  go_end0
  exact ⟨rfl, by have h := HZ.out; rw [List.length_append] at h; exact h⟩
set_option maxHeartbeats 1000000 in
theorem feed_failed (L : Nat) (w : World) (h : Failed L w) (v : Value) : Calls Tryz.prog 9 #[.pointer (some ⟨L, 0, none⟩), v] w fun e w' => e = .returned (.tuple #[]) ∧ w' = w := by
  have h1 := h.c1
  go_enter Tryz.func9, Tryz.ntmps9
  go_wp2_with fail
  go_end0
  exact ⟨rfl, rfl⟩
set_option maxHeartbeats 1000000 in
theorem next_failed (L : Nat) (w : World) (h : Failed L w) : Calls Tryz.prog 10 #[.pointer (some ⟨L, 0, none⟩)] w fun e w' => e = .returned (.tuple #[.slice none 0 0, .bool false, .int .i64 61]) ∧ w' = w := by
  have h1 := h.c1
  go_enter Tryz.func10, Tryz.ntmps10
  go_wp2_with fail
  refine wp_loop_rounds 1 ?_
  rw [rounds_succ]
  go_wp2_with fail
  go_ret3
  exact ⟨rfl, rfl⟩
set_option maxHeartbeats 1000000 in
theorem drop_failed (L : Nat) (u : Int) (v : Value) (w : World) (h0 : w.cell? ⟨L, 0, none⟩ = some v) (h1 : w.cell? ⟨L, 1, none⟩ = some (.bool true)) (f0 : w.frozen? ⟨L, 0, none⟩ = false) :
    Calls Tryz.prog 19 #[.pointer (some ⟨L, 0, none⟩), .int .i64 u] w fun e w' => e = .returned (.tuple #[]) ∧ w' = w.setCell ⟨L, 0, none⟩ (.slice none 0 0) := by
  go_enter Tryz.func19, Tryz.ntmps19
  go_wp2
  (try simp only [Exit.inBlock, Exit.then])
  exact bodyPost_ret (results_none rfl _ _ _) rfl ⟨rfl, rfl⟩
set_option maxHeartbeats 1000000 in
theorem drop_part (L : Nat) (a a2 : Option Addr) (n c u : Nat) (hu : u < n) (w : World) (h0 : w.cell? ⟨L, 0, none⟩ = some (.slice a n c)) (h1 : w.cell? ⟨L, 1, none⟩ = some (.bool false)) (f0 : w.frozen? ⟨L, 0, none⟩ = false)
    (hfrom : ∀ wx, (Instr.slice 22 (.slice a n c) (some (.int .i64 u)) none none).run Tryz.prog wx = .ok (.slice a2 (n - u) (c - u)) wx) :
    Calls Tryz.prog 19 #[.pointer (some ⟨L, 0, none⟩), .int .i64 (u : Nat)] w fun e w' => e = .returned (.tuple #[]) ∧ w' = w.setCell ⟨L, 0, none⟩ (.slice a2 (n - u) (c - u)) := by
  have hne : ((u : Int) == (n : Int)) = false := by rw [beq_eq_false_iff_ne]; omega
  go_enter Tryz.func19, Tryz.ntmps19
  go_wp2_with fail
  go_end0
  exact ⟨rfl, rfl⟩
theorem InB.setCell {w : World} {a : Option Addr} {c L : Nat} {l : List UInt8} (h : InB w a c l) (hne : ∀ ad, a = some ad → ad.block ≠ L) (i : Nat) (x : Value) : InB (w.setCell ⟨L, i, none⟩ x) a c l :=
  ⟨h.cap, h.max, fun hl => by
    obtain ⟨g, o, e, hc⟩ := h.cell hl
    refine ⟨g, o, e, fun j hj => ?_⟩
    rw [World.cell?_setCell_other _ _ _ _ (addr_ne (.inl (fun e2 => hne _ e e2.symm)))]
    exact hc j hj⟩
/-- What Next leaves where it read a command with more behind it. -/
def NextMore (L : Nat) (ws : List (List UInt8)) (l : List UInt8) (w : World) (e : Ending) (w' : World) : Prop := ∃ v, e = .returned (.tuple #[v, .bool true, .int .i64 0]) ∧ Lie w.heap.size w' v ws ∧ Below L w w' ∧ Waits L w' l
set_option maxHeartbeats 8000000 in
set_option maxRecDepth 1000000 in
theorem next_more (L : Nat) (w : World) (l : List UInt8) (hW : Waits L w l) (hm : l.length ≤ 1000000) (hc : PCtx w) (hmx : MaxOk w) (ws : List (List UInt8)) (u : Nat) (hp : Lw.parseR l = .got ws u) (hul : u < l.length) (hws : 0 < ws.length) :
    Calls Tryz.prog 10 #[.pointer (some ⟨L, 0, none⟩)] w (NextMore L ws (l.drop u) w) := by
  obtain ⟨a, c, h0, hB, hnil, hne⟩ := hW.row
  have h1 := hW.c1
  have f0 := hW.f0
  have f1 := hW.f1
  have hP := parse_calls l hm a c hnil w hc hmx hB
  rw [hp] at hP
  have HP := Lib.hid hP
  have hLs : L < w.heap.size := World.block_lt_of_cell? w _ h0
  have hg := Lw.parseR_got hp
  have hu0 : (0 : Int) < (u : Int) := by omega
  obtain ⟨a2, hB2, hfrom⟩ := hB.drop u (by omega)
  have hne2 : ∀ ad, a2 = some ad → ad.block ≠ L := by
    obtain ⟨g, o, rfl, -⟩ := hB.cell (by omega)
    have hx := hfrom w
    have hcap := hB.cap
    have hmax := hB.max
    have hel : Tryz.prog.underlying 22 = some (.slice (Tryz.prog.elem 22)) := by kernel_rfl
    have hsz : (sizeOf (Tryz.prog.elem 22)).run Tryz.prog w = .ok 1 w := by kernel_rfl
    rw [run_slice_l w _ _ l.length c hel .i64 u (by omega) (by omega), hsz] at hx
    simp only [Result.andThen, sliced] at hx
    intro ad e
    subst e
    injection hx with hx _
    injection hx with hx _ _
    rw [Int.toNat_natCast] at hx
    split at hx
    · injection hx with hx
      rw [← hx]
      exact hne _ rfl
    · have hx2 : some ((⟨g, o, none⟩ : Addr).add (u * 1)) = some ad := hx
      injection hx2 with hx2
      rw [← hx2]
      rw [show ((⟨g, o, none⟩ : Addr).add (u * 1)).block = g by rw [Addr.add_lit]]
      exact hne ⟨g, o, none⟩ rfl
  have HD := Lib.hid (fun w2 g0 g1 gf => drop_part L a a2 l.length c u hul w2 g0 g1 gf hfrom)
  have HB2 := Lib.hid hB2
  have hca : u < c := by have := hB.cap; omega
  have hn2 : Hid (a2 = none → c - u = 0) := Lib.hid (fun e => by
    obtain ⟨g, o, e2, -⟩ := hB2.cell (by rw [List.length_drop]; omega)
    rw [e] at e2
    cases e2)
  clear hP hp hc hmx hB hnil hg hW hB2 hfrom
  go_enter Tryz.func10, Tryz.ntmps10
  go_wp2_with fail
  refine wp_loop_rounds 1 ?_
  rw [rounds_succ]
  go_wp2_with fail
  refine HP.out.mono ?_; rintro en w2 ⟨hb2, hans⟩
  rcases hans with ⟨h, -⟩ | ⟨h, -⟩ | ⟨ws2, u2, v, h, rfl, hS⟩
  · cases h
  · cases h
  injection h with e1 e2
  subst e1 e2
  have g0 : w2.cell? ⟨L, 0, none⟩ = some (.slice a l.length c) := (hb2.cell (p := ⟨L, 0, none⟩) hLs).trans h0
  have g1 : w2.cell? ⟨L, 1, none⟩ = some (.bool false) := (hb2.cell (p := ⟨L, 1, none⟩) hLs).trans h1
  have gf0 : w2.frozen? ⟨L, 0, none⟩ = false := (hb2.frozen (p := ⟨L, 0, none⟩) hLs).trans f0
  have gf1 : w2.frozen? ⟨L, 1, none⟩ = false := (hb2.frozen (p := ⟨L, 1, none⟩) hLs).trans f1
  have Hb2 := Lib.hid hb2
  have HS := Lib.hid hS
  obtain ⟨av, cv, rfl, -, -⟩ := hS.slice
  rw [cellsS_len] at *
  clear hb2 hS
  go_wp2_with fail
  have k0 : (w2.setCell ⟨L, 1, none⟩ (.bool false)).cell? ⟨L, 0, none⟩ = some (.slice a l.length c) := (World.cell?_setCell_other _ _ _ _ (addr_ne (.inr (by show (1 : Nat) ≠ 0; decide)))).trans g0
  have k1 : (w2.setCell ⟨L, 1, none⟩ (.bool false)).cell? ⟨L, 1, none⟩ = some (.bool false) := World.cell?_setCell_same w2 _ _ g1
  have kf : (w2.setCell ⟨L, 1, none⟩ (.bool false)).frozen? ⟨L, 0, none⟩ = false := by rw [World.frozen?_setCell]; exact gf0
  have kf1 : (w2.setCell ⟨L, 1, none⟩ (.bool false)).frozen? ⟨L, 1, none⟩ = false := by rw [World.frozen?_setCell]; exact gf1
  have hlt2 := Hb2.out.size
  have HS3 : Hid (Lie w.heap.size (w2.setCell ⟨L, 1, none⟩ (.bool false)) (.slice av ws.length cv) ws ∧ Below L w (w2.setCell ⟨L, 1, none⟩ (.bool false)) ∧ InB (w2.setCell ⟨L, 1, none⟩ (.bool false)) a2 (c - u) (l.drop u)) := Lib.hid ⟨ownsRow_setCell_below (Lie.of HS.out) (a := ⟨L, 1, none⟩) hLs _, (Hb2.out.mono (Nat.le_of_lt hLs)).trans (Below.setCell (p := ⟨L, 1, none⟩) (Below.refl L w2) (Nat.le_refl _) _), (HB2.out.below Hb2.out).setCell hne2 1 _⟩
  generalize w2.setCell ⟨L, 1, none⟩ (.bool false) = W3 at *
  refine (HD.out _ k0 k1 kf).mono ?_; rintro en w4 ⟨rfl, rfl⟩
  have j0 : (W3.setCell ⟨L, 0, none⟩ (.slice a2 (l.length - u) (c - u))).cell? ⟨L, 0, none⟩ = some (.slice a2 (l.length - u) (c - u)) := World.cell?_setCell_same W3 _ _ k0
  have j1 : (W3.setCell ⟨L, 0, none⟩ (.slice a2 (l.length - u) (c - u))).cell? ⟨L, 1, none⟩ = some (.bool false) := (World.cell?_setCell_other _ _ _ _ (addr_ne (.inr (by show (0 : Nat) ≠ 1; decide)))).trans k1
  have HS4 : Hid (Lie w.heap.size (W3.setCell ⟨L, 0, none⟩ (.slice a2 (l.length - u) (c - u))) (.slice av ws.length cv) ws ∧ Below L w (W3.setCell ⟨L, 0, none⟩ (.slice a2 (l.length - u) (c - u))) ∧ Waits L (W3.setCell ⟨L, 0, none⟩ (.slice a2 (l.length - u) (c - u))) (l.drop u)) :=
    Lib.hid ⟨ownsRow_setCell_below HS3.out.1 (a := ⟨L, 0, none⟩) hLs _, HS3.out.2.1.trans (Below.setCell (p := ⟨L, 0, none⟩) (Below.refl L W3) (Nat.le_refl _) _),
      ⟨⟨a2, c - u, by rw [List.length_drop]; exact j0, HS3.out.2.2.setCell hne2 0 _, hn2.out, hne2⟩, j1, by rw [World.frozen?_setCell]; exact kf, by rw [World.frozen?_setCell]; exact kf1⟩⟩
  clear k0 k1 kf g0 g1 gf0 gf1 kf1
  generalize W3.setCell ⟨L, 0, none⟩ (.slice a2 (l.length - u) (c - u)) = W4 at *
  have hws0 : (0 : Int) < (ws.length : Int) := by omega
  go_wp2_with fail
  go_ret3
  have e : decide (0 < u) = true := decide_eq_true (by omega)
  refine ⟨.slice av ws.length cv, ?_, HS4.out.1, HS4.out.2.1, HS4.out.2.2⟩
  show Ending.returned (.tuple #[.slice av ws.length cv, .bool (decide (0 < u)), .int .i64 0]) = _
  rw [e]
set_option maxHeartbeats 8000000 in
set_option maxRecDepth 1000000 in
theorem next_bad (L : Nat) (w : World) (l : List UInt8) (hW : Waits L w l) (hm : l.length ≤ 1000000) (hc : PCtx w) (hmx : MaxOk w) (hp : Lw.parseR l = .bad) :
    Calls Tryz.prog 10 #[.pointer (some ⟨L, 0, none⟩)] w fun e w' => e = .returned (.tuple #[.slice none 0 0, .bool false, .int .i64 61]) ∧ Failed L w' ∧ Below L w w' := by
  obtain ⟨a, c, h0, hB, hnil, hne⟩ := hW.row
  have h1 := hW.c1
  have f0 := hW.f0
  have f1 := hW.f1
  have hP := parse_calls l hm a c hnil w hc hmx hB
  rw [hp] at hP
  have HP := Lib.hid hP
  have hLs : L < w.heap.size := World.block_lt_of_cell? w _ h0
  have HD := Lib.hid (fun w2 g0 g1 gf => drop_failed L 0 (.slice a l.length c) w2 g0 g1 gf)
  clear hP hp hc hmx hB hnil hW
  go_enter Tryz.func10, Tryz.ntmps10
  go_wp2_with fail
  refine wp_loop_rounds 2 ?_
  rw [rounds_succ]
  go_wp2_with fail
  refine HP.out.mono ?_; rintro en w2 ⟨hb2, hans⟩
  rcases hans with ⟨-, rfl⟩ | ⟨h, -⟩ | ⟨ws2, u2, v, h, -, -⟩
  · have g0 : w2.cell? ⟨L, 0, none⟩ = some (.slice a l.length c) := (hb2.cell (p := ⟨L, 0, none⟩) hLs).trans h0
    have g1 : w2.cell? ⟨L, 1, none⟩ = some (.bool false) := (hb2.cell (p := ⟨L, 1, none⟩) hLs).trans h1
    have gf0 : w2.frozen? ⟨L, 0, none⟩ = false := (hb2.frozen (p := ⟨L, 0, none⟩) hLs).trans f0
    have gf1 : w2.frozen? ⟨L, 1, none⟩ = false := (hb2.frozen (p := ⟨L, 1, none⟩) hLs).trans f1
    have Hb2 := Lib.hid hb2
    clear hb2
    go_wp2_with fail
    have k0 : (w2.setCell ⟨L, 1, none⟩ (.bool true)).cell? ⟨L, 0, none⟩ = some (.slice a l.length c) := (World.cell?_setCell_other _ _ _ _ (addr_ne (.inr (by show (1 : Nat) ≠ 0; decide)))).trans g0
    have k1 : (w2.setCell ⟨L, 1, none⟩ (.bool true)).cell? ⟨L, 1, none⟩ = some (.bool true) := World.cell?_setCell_same w2 _ _ g1
    have kf : (w2.setCell ⟨L, 1, none⟩ (.bool true)).frozen? ⟨L, 0, none⟩ = false := by rw [World.frozen?_setCell]; exact gf0
    have HS3 : Hid (Below L w (w2.setCell ⟨L, 1, none⟩ (.bool true))) := Lib.hid ((Hb2.out.mono (Nat.le_of_lt hLs)).trans (Below.setCell (p := ⟨L, 1, none⟩) (Below.refl L w2) (Nat.le_refl _) _))
    generalize w2.setCell ⟨L, 1, none⟩ (.bool true) = W3 at *
    refine (HD.out _ k0 k1 kf).mono ?_; rintro en w4 ⟨rfl, rfl⟩
    have j0 : (W3.setCell ⟨L, 0, none⟩ (.slice none 0 0)).cell? ⟨L, 0, none⟩ = some (.slice none 0 0) := World.cell?_setCell_same W3 _ _ k0
    have j1 : (W3.setCell ⟨L, 0, none⟩ (.slice none 0 0)).cell? ⟨L, 1, none⟩ = some (.bool true) := (World.cell?_setCell_other _ _ _ _ (addr_ne (.inr (by show (0 : Nat) ≠ 1; decide)))).trans k1
    have HS4 : Hid (Below L w (W3.setCell ⟨L, 0, none⟩ (.slice none 0 0))) := Lib.hid (HS3.out.trans (Below.setCell (p := ⟨L, 0, none⟩) (Below.refl L W3) (Nat.le_refl _) _))
    clear k0 k1 kf g0 g1 gf0 gf1
    generalize W3.setCell ⟨L, 0, none⟩ (.slice none 0 0) = W4 at *
    go_wp2_with fail
    rw [rounds_succ]
    go_wp2_with fail
    go_ret3
    exact ⟨rfl, ⟨j0, j1⟩, HS4.out⟩
  · cases h
  · cases h
end Go.Proofs.YtenhgjpoigkdgaaGreatDoor.Ln
