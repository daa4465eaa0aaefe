/- The walk of the law ReaderNames (written by gen_re3.py). Conditions: what start-up lays ('PCtx'); the variable MaxLen holds some int. -/
import Derived.Test.YtimgkbpiengnjaaGreatDoorRe2
namespace Go.Proofs.YtimgkbpiengnjaaGreatDoor.Ln
open Go.ChangeShapes Go.WideShapes Go.ChangeAt Go.RowKit

theorem inb_addr {w : World} {C : Array Value} {fr : Nat × Nat} : AddrB (w.alloc (.cells C 5 fr)).heap.size (some ⟨w.heap.size, 0, none⟩) := fun ad e => by
  injection e with e
  subst e
  simp
theorem parsec_broke (w : World) (h : PCtx w ∧ MaxOk w) (q : List UInt8) (C : Array Value) (hC : C = (cellsB q).toArray) (fr : Nat × Nat) (n : Nat) (hn : n = q.length) (hm : q.length ≤ 1000000) (hF : FrameIs q (stop brokeV)) :
    Calls Tryz.prog 5 #[.slice (some ⟨w.heap.size, 0, none⟩) n n] (w.alloc (.cells C 5 fr)) fun en w' => en = .returned (.tuple #[ansV 0 ⟨#[]⟩, .int .i64 0, .int .i64 51]) ∧ Below w.heap.size w w' := by
  subst hn
  exact (parse_broke _ _ _ q (inb_new w C q hC fr hm) inb_addr (h.1.below (bbox _)) (h.2.below (bbox _)) hF).mono fun _ _ ⟨h1, h2⟩ => ⟨h1, bstep (bbox _) h2⟩
theorem parsec_short (w : World) (h : PCtx w ∧ MaxOk w) (q : List UInt8) (C : Array Value) (hC : C = (cellsB q).toArray) (fr : Nat × Nat) (n : Nat) (hn : n = q.length) (hm : q.length ≤ 1000000) (hF : FrameIs q (stop shortV)) :
    Calls Tryz.prog 5 #[.slice (some ⟨w.heap.size, 0, none⟩) n n] (w.alloc (.cells C 5 fr)) fun en w' => en = .returned (.tuple #[ansV 0 ⟨#[]⟩, .int .i64 0, .int .i64 0]) ∧ Below w.heap.size w w' := by
  subst hn
  exact (parse_short _ _ _ q (inb_new w C q hC fr hm) inb_addr (h.1.below (bbox _)) (h.2.below (bbox _)) hF).mono fun _ _ ⟨h1, h2⟩ => ⟨h1, bstep (bbox _) h2⟩
theorem parsec_ok (w : World) (h : PCtx w ∧ MaxOk w) (q t : List UInt8) (k : Int) (T : ByteArray) (u : Int) (hu : (q.length : Int) - t.length = u) (htq : t.length ≤ q.length) (C : Array Value) (hC : C = (cellsB q).toArray) (fr : Nat × Nat) (n : Nat) (hn : n = q.length) (hm : q.length ≤ 1000000) (hF : FrameGives q t k T) :
    Calls Tryz.prog 5 #[.slice (some ⟨w.heap.size, 0, none⟩) n n] (w.alloc (.cells C 5 fr)) fun en w' => en = .returned (.tuple #[ansV k T, .int .i64 u, .int .i64 0]) ∧ Below w.heap.size w w' := by
  subst hn hu
  exact (parse_ok _ _ _ q t k T htq hm (inb_new w C q hC fr hm) inb_addr (h.1.below (bbox _)) (h.2.below (bbox _)) hF).mono fun _ _ ⟨h1, h2⟩ => ⟨h1, bstep (bbox _) h2⟩
set_option maxRecDepth 100000 in
set_option maxHeartbeats 1000000 in
theorem readerNames (w : World) (hc : PCtx w) (hmx : MaxOk w) : Calls Tryz.prog 3 #[] w fun e w' => e = .returned (.bool true) ∧ Below w.heap.size w w' := by
  have HA := Lib.hid (ralive_calls w hc hmx)
  have HC : Hid (∀ w', Below w.heap.size w w' → PCtx w' ∧ MaxOk w') := Lib.hid (fun w' hb => ⟨hc.below hb, hmx.below hb⟩)
  have kc := fun (w : World) (C : Array Value) (n c : Nat) => Lib.run_convert_bytes_const (P := Tryz.prog) w 30 5 C n c Tryz.underlying30 Tryz.underlying5
  clear hc hmx
  go_enter Tryz.func3, Tryz.ntmps3
  go_wp2_with fail
  refine HA.out.mono ?_; rintro en w1 ⟨rfl, hb1⟩
  have HP1 := Lib.hid (parsec_ok w1 (HC.out _ hb1) [42, 45, 49, 13, 10, 58, 53] [58, 53] 6 ⟨#[]⟩ 5 (by decide) (by decide) #[.int .u8 42, .int .u8 45, .int .u8 49, .int .u8 13, .int .u8 10, .int .u8 58, .int .u8 53] rfl (7, 8) 7 rfl (by decide) f3)
  have HB1 := Lib.hid hb1
  clear hb1 HA
  go_wp2_with fail
  refine HP1.out.mono ?_; rintro en w2 ⟨rfl, hb2⟩
  have e2 : (w2.alloc (.cells #[.int .i64 6, .string ⟨#[]⟩, .int .i64 0, .float .f64 0, .bool false, .slice none 0 0] 26)).heap.size = w2.heap.size + 1 := by simp
  have HB2 : Hid (Below w.heap.size w (w2.alloc (.cells #[.int .i64 6, .string ⟨#[]⟩, .int .i64 0, .float .f64 0, .bool false, .slice none 0 0] 26))) := Lib.hid (bstep (bstep HB1.out hb2) (bbox _))
  have kc2 := kc (w2.alloc (.cells #[.int .i64 6, .string ⟨#[]⟩, .int .i64 0, .float .f64 0, .bool false, .slice none 0 0] 26)) #[.int .u8 63] 1 1
  have hp2 := parsec_broke (w2.alloc (.cells #[.int .i64 6, .string ⟨#[]⟩, .int .i64 0, .float .f64 0, .bool false, .slice none 0 0] 26)) (HC.out _ HB2.out) [63] #[.int .u8 63] rfl (1, 2) 1 rfl (by decide) f4
  rw [e2] at kc2 hp2
  have HP2 := Lib.hid hp2
  clear hp2 e2 hb2 HP1 HB1
  go_wp2_with fail
  refine HP2.out.mono ?_; rintro en w3 ⟨rfl, hq3⟩
  clear kc2
  have HB3x : Hid (Below w.heap.size w w3) := Lib.hid (HB2.out.trans (hq3.mono (by first | exact HB2.out.size | (have := HB2.out.size; simp at this; omega))))
  have CA3 : Hid (w3.cell? ⟨w2.heap.size, 0, none⟩ = some (.int .i64 6) ∧ w2.heap.size < w3.heap.size) := Lib.hid ⟨(hq3.cell (p := ⟨w2.heap.size, 0, none⟩) (Nat.lt_succ_self _)).trans (by simp), Nat.lt_of_lt_of_le (by simp) hq3.size⟩
  clear hq3
  have e3 : (w3.alloc (.cells #[.int .i64 0, .string ⟨#[]⟩, .int .i64 0, .float .f64 0, .bool false, .slice none 0 0] 26)).heap.size = w3.heap.size + 1 := by simp
  have HB3 : Hid (Below w.heap.size w (w3.alloc (.cells #[.int .i64 0, .string ⟨#[]⟩, .int .i64 0, .float .f64 0, .bool false, .slice none 0 0] 26))) := Lib.hid (bstep HB3x.out (bbox _))
  have kc3 := kc (w3.alloc (.cells #[.int .i64 0, .string ⟨#[]⟩, .int .i64 0, .float .f64 0, .bool false, .slice none 0 0] 26)) #[.int .u8 42, .int .u8 49, .int .u8 13, .int .u8 10] 4 4
  have hp3 := parsec_short (w3.alloc (.cells #[.int .i64 0, .string ⟨#[]⟩, .int .i64 0, .float .f64 0, .bool false, .slice none 0 0] 26)) (HC.out _ HB3.out) [42, 49, 13, 10] #[.int .u8 42, .int .u8 49, .int .u8 13, .int .u8 10] rfl (4, 5) 4 rfl (by decide) f5
  rw [e3] at kc3 hp3
  have HP3 := Lib.hid hp3
  clear hp3 e3 HP2 HB2 HB3x
  go_wp2_with fail
  refine HP3.out.mono ?_; rintro en w4 ⟨rfl, hq4⟩
  clear kc3
  have HB4x : Hid (Below w.heap.size w w4) := Lib.hid (HB3.out.trans (hq4.mono (by first | exact HB3.out.size | (have := HB3.out.size; simp at this; omega))))
  have CA4 : Hid (w4.cell? ⟨w2.heap.size, 0, none⟩ = some (.int .i64 6) ∧ w2.heap.size < w4.heap.size) := Lib.hid ⟨(hq4.cell (p := ⟨w2.heap.size, 0, none⟩) (Nat.lt_succ_of_lt CA3.out.2)).trans (((bbox (w := w3) _).cell (p := ⟨w2.heap.size, 0, none⟩) CA3.out.2).trans CA3.out.1), Nat.lt_of_lt_of_le (Nat.lt_of_lt_of_le CA3.out.2 (bbox (w := w3) _).size) hq4.size⟩
  clear CA3
  clear hq4
  have e4 : (w4.alloc (.cells #[.int .i64 0, .string ⟨#[]⟩, .int .i64 0, .float .f64 0, .bool false, .slice none 0 0] 26)).heap.size = w4.heap.size + 1 := by simp
  have HB4 : Hid (Below w.heap.size w (w4.alloc (.cells #[.int .i64 0, .string ⟨#[]⟩, .int .i64 0, .float .f64 0, .bool false, .slice none 0 0] 26))) := Lib.hid (bstep HB4x.out (bbox _))
  have kc4 := kc (w4.alloc (.cells #[.int .i64 0, .string ⟨#[]⟩, .int .i64 0, .float .f64 0, .bool false, .slice none 0 0] 26)) #[.int .u8 42, .int .u8 49, .int .u8 13, .int .u8 10, .int .u8 62, .int .u8 49, .int .u8 13, .int .u8 10] 8 8
  have hp4 := parsec_broke (w4.alloc (.cells #[.int .i64 0, .string ⟨#[]⟩, .int .i64 0, .float .f64 0, .bool false, .slice none 0 0] 26)) (HC.out _ HB4.out) [42, 49, 13, 10, 62, 49, 13, 10] #[.int .u8 42, .int .u8 49, .int .u8 13, .int .u8 10, .int .u8 62, .int .u8 49, .int .u8 13, .int .u8 10] rfl (8, 9) 8 rfl (by decide) f6
  rw [e4] at kc4 hp4
  have HP4 := Lib.hid hp4
  clear hp4 e4 HP3 HB3 HB4x
  go_wp2_with fail
  refine HP4.out.mono ?_; rintro en w5 ⟨rfl, hq5⟩
  clear kc4
  have HB5x : Hid (Below w.heap.size w w5) := Lib.hid (HB4.out.trans (hq5.mono (by first | exact HB4.out.size | (have := HB4.out.size; simp at this; omega))))
  have CA5 : Hid (w5.cell? ⟨w2.heap.size, 0, none⟩ = some (.int .i64 6) ∧ w2.heap.size < w5.heap.size) := Lib.hid ⟨(hq5.cell (p := ⟨w2.heap.size, 0, none⟩) (Nat.lt_succ_of_lt CA4.out.2)).trans (((bbox (w := w4) _).cell (p := ⟨w2.heap.size, 0, none⟩) CA4.out.2).trans CA4.out.1), Nat.lt_of_lt_of_le (Nat.lt_of_lt_of_le CA4.out.2 (bbox (w := w4) _).size) hq5.size⟩
  clear CA4
  clear hq5
  obtain ⟨W5, hW5⟩ : ∃ W, W = w5.alloc (.cells #[.int .i64 0, .string ⟨#[]⟩, .int .i64 0, .float .f64 0, .bool false, .slice none 0 0] 26) := ⟨_, rfl⟩
  have HB5 : Hid (Below w.heap.size w W5) := Lib.hid (by rw [hW5]; exact bstep HB5x.out (bbox _))
  have CA : Hid (W5.cell? ⟨w2.heap.size, 0, none⟩ = some (.int .i64 6) ∧ w2.heap.size < W5.heap.size) := Lib.hid (by rw [hW5]; exact ⟨((bbox (w := w5) _).cell (p := ⟨w2.heap.size, 0, none⟩) CA5.out.2).trans CA5.out.1, Nat.lt_of_lt_of_le CA5.out.2 (bbox (w := w5) _).size⟩)
  have e5 : W5.heap.size = w5.heap.size + 1 := by rw [hW5]; simp
  have HN := rnew_calls W5
  have HR0 := RS.start W5
  have HX5 : Hid (Ctx0 W5.heap.size W5) := Lib.hid (fun w' hb => HC.out _ (bstep HB5.out hb))
  have HBL : Hid (w.heap.size ≤ W5.heap.size) := Lib.hid HB5.out.size
  obtain ⟨L, hL⟩ : ∃ L, L = W5.heap.size := ⟨_, rfl⟩
  rw [← hL] at HR0 HX5 HBL
  rw [e5] at hL
  rw [hW5, show (w5.alloc (.cells #[.int .i64 0, .string ⟨#[]⟩, .int .i64 0, .float .f64 0, .bool false, .slice none 0 0] 26)).heap.size = w5.heap.size + 1 by simp, ← hL] at HN
  have HN5 := Lib.hid HN
  have HCAL : Hid (w2.heap.size < L) := Lib.hid (by have := CA.out.2; omega)
  clear HN HP4 HB4 HB5x CA5 HC
  go_wp2_with fail
  refine HN5.out.mono ?_; rintro en w6 ⟨rfl, hw6⟩
  rw [← hW5] at hw6
  have HR6 : Hid (RS L W5 w6 []) := Lib.hid (by rw [hw6]; exact HR0)
  clear hw6 HR0 hL e5 HN5
  have HF6 := Lib.hid (HR6.out.feedc [58, 48, 49, 13, 10] #[.int .u8 58, .int .u8 48, .int .u8 49, .int .u8 13, .int .u8 10] rfl (5, 6) 5 rfl (by decide))
  clear HR6 hW5
  go_wp2_with fail
  refine HF6.out.mono ?_; rintro en w7 ⟨rfl, hr7⟩
  have HX7 := Lib.hid (hr7.broke (by decide) (by decide) HX5.out f7)
  clear hr7 HF6
  go_wp2_with fail
  refine HX7.out.mono ?_; rintro en w8 ⟨rfl, hf8, hb8⟩
  have e8 : (w8.alloc (.cells #[.int .i64 0, .string ⟨#[]⟩, .int .i64 0, .float .f64 0, .bool false, .slice none 0 0] 26)).heap.size = w8.heap.size + 1 := by simp
  have kc8 := kc (w8.alloc (.cells #[.int .i64 0, .string ⟨#[]⟩, .int .i64 0, .float .f64 0, .bool false, .slice none 0 0] 26)) #[.int .u8 58, .int .u8 49, .int .u8 13, .int .u8 10] 4 4
  rw [e8] at kc8
  have hL8 : L ≤ w8.heap.size := Nat.le_of_lt (World.block_lt_of_cell? w8 ⟨L, 0, none⟩ hf8.c0)
  have hbb : Below w8.heap.size w8 ((w8.alloc (.cells #[.int .i64 0, .string ⟨#[]⟩, .int .i64 0, .float .f64 0, .bool false, .slice none 0 0] 26)).alloc (.cells #[.int .u8 58, .int .u8 49, .int .u8 13, .int .u8 10] 5 (4, 5))) := bstep (bbox _) (bbox _)
  have HF9 := Lib.hid (rfeed_failed L _ (hf8.below hbb) (.slice (some ⟨w8.heap.size + 1, 0, none⟩) 4 4))
  have HX9 := Lib.hid (rnext_failed L _ (hf8.below hbb))
  have HG8 := Lib.hid (hf8.below hbb)
  have HB8 := Lib.hid (hb8.trans (hbb.mono hL8))
  clear hf8 hb8 hbb e8 hL8 HX7
  go_wp2_with fail
  refine HF9.out.mono ?_; rintro en w9 ⟨rfl, hw9⟩
  subst hw9
  clear HF9
  go_wp2_with fail
  refine HX9.out.mono ?_; rintro en w10 ⟨rfl, hb10⟩
  have HG10 := Lib.hid ((HG8.out.below hb10).below (bbox (.cells #[.int .i64 0, .string ⟨#[]⟩, .int .i64 0, .float .f64 0, .bool false, .slice none 0 0] 26)))
  have hLs := Nat.le_of_lt (World.block_lt_of_cell? _ ⟨L, 0, none⟩ HG8.out.c0)
  have HB10 := Lib.hid ((HB8.out.trans (hb10.mono hLs)).trans ((bbox (.cells #[.int .i64 0, .string ⟨#[]⟩, .int .i64 0, .float .f64 0, .bool false, .slice none 0 0] 26)).mono (Nat.le_trans hLs hb10.size)))
  clear hb10 hLs HX9
  have ca := (HB10.out.cell (p := ⟨w2.heap.size, 0, none⟩) HCAL.out).trans CA.out.1
  have HL10 := Lib.hid (rleft_calls L none 0 0 _ HG10.out.c0)
  go_wp2_with fail
  refine HL10.out.mono ?_; rintro en w11 ⟨rfl, rfl⟩
  go_wp2_with fail
  go_ret
  exact ⟨rfl, HB5.out.trans (HB10.out.mono HBL.out)⟩
end Go.Proofs.YtimgkbpiengnjaaGreatDoor.Ln
