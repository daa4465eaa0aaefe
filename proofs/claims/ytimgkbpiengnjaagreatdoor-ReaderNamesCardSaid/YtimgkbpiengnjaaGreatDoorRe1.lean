/- Package reader's example: New, Feed, Next, Feed, Next, Left. Conditions: what start-up lays ('PCtx'); the variable MaxLen holds some int. -/
import Derived.Test.YtimgkbpiengnjaaGreatDoorRd3
namespace Go.Proofs.YtimgkbpiengnjaaGreatDoor.Ln
open Go.ChangeShapes Go.WideShapes Go.ChangeAt Go.RowKit

def t1 : List UInt8 := [36, 50, 13, 10, 97]
def t2 : List UInt8 := [98, 13, 10]
theorem f1 : FrameIs t1 (stop shortV) := fun S B w h hC => frame_short S B w [97] 999 0 (by decide) h hC
theorem f2 : FrameGives (t1 ++ t2) [] 4 ⟨#[97, 98]⟩ := fun S B w h hC => frame_bulk S B w [97, 98] [] 999 0 rfl h hC
theorem f3 : FrameGives [42, 45, 49, 13, 10, 58, 53] [58, 53] 6 ⟨#[]⟩ := fun S B w h hC => frame_nil S B w [58, 53] 999 0 h hC
theorem f4 : FrameIs [63] (stop brokeV) := fun S B w h _ => frame_q S B w [] 999 0 h
theorem f5 : FrameIs [42, 49, 13, 10] (stop shortV) := fun S B w h hC => frame_list S B w [] shortV 999 (by omega) (by omega) h hC fun w' h' _ => frame_none S B w' 998 1 h'
theorem f6 : FrameIs [42, 49, 13, 10, 62, 49, 13, 10] (stop brokeV) := fun S B w h hC => frame_list S B w [62, 49, 13, 10] brokeV 999 (by omega) (by omega) h hC fun w' h' hC' => frame_push S B w' [] 998 (by omega) (by omega) h' hC'
theorem f7 : FrameIs [58, 48, 49, 13, 10] (stop brokeV) := fun S B w h hC => frame_bad S B w [] 999 0 h hC
/-- A new reader. -/
theorem wt_new (w : World) : Wt w.heap.size (w.heap.size + 1) w.heap.size (w.alloc (.cells #[.slice none 0 0, .bool false] 41)) [] :=
  ⟨by omega, by simp, ⟨none, 0, by simp, ⟨Nat.le_refl _, Nat.zero_le _, fun h => absurd h (Nat.lt_irrefl _)⟩, fun _ => rfl, fun ad e => by cases e⟩, by simp, by simp, by simp⟩
/-- The state of a walk over one reader, made in the world w0 at block L. -/
structure RS (L : Nat) (w0 w : World) (l : List UInt8) : Prop where
  wt : ∃ G, L ≤ G ∧ G < w.heap.size ∧ Wt L (L + 1) G w l
  bel : Below L w0 w
theorem RS.below {L : Nat} {w0 w w' : World} {l : List UInt8} (h : RS L w0 w l) (hb : Below w.heap.size w w') : RS L w0 w' l := by
  obtain ⟨G, h1, h2, h3⟩ := h.wt
  exact ⟨⟨G, h1, Nat.lt_of_lt_of_le h2 hb.size, h3.below hb⟩, h.bel.trans (hb.mono (Nat.le_of_lt h3.lo))⟩
theorem RS.feed {L : Nat} {w0 w : World} {l : List UInt8} (h : RS L w0 w l) {a : Option Addr} {c : Nat} {q : List UInt8} (hB : InB w a c q) (hm : l.length + q.length ≤ 1000000) :
    Calls Tryz.prog 7 #[.pointer (some ⟨L, 0, none⟩), .slice a q.length c] w fun e w' => e = .returned (.tuple #[]) ∧ RS L w0 w' (l ++ q) := by
  obtain ⟨G, h1, h2, h3⟩ := h.wt
  refine (feed_wt L (L + 1) G w l h3 a c q hB hm).mono ?_
  rintro e w' ⟨rfl, G', h4, h5, h6⟩
  refine ⟨rfl, ⟨G', ?_, ?_, h4⟩, h.bel.trans (h5.below (Nat.le_of_lt h3.lo) fun i hi => by omega)⟩
  · rcases h6 with rfl | h6
    · exact h1
    · have := h3.lo; omega
  · rcases h6 with rfl | h6
    · exact Nat.lt_of_lt_of_le h2 h5.size
    · exact h6.2
theorem RS.wait {L : Nat} {w0 w : World} {l : List UInt8} (h : RS L w0 w l) (hl : 0 < l.length) (hll : l.length ≤ 1000000) (hC : Ctx0 L w0) (hF : FrameIs l (stop shortV)) :
    Calls Tryz.prog 8 #[.pointer (some ⟨L, 0, none⟩)] w fun e w' => e = .returned (.tuple #[ansV 0 ⟨#[]⟩, .bool false, .int .i64 0]) ∧ RS L w0 w' l := by
  obtain ⟨G, h1, h2, h3⟩ := h.wt
  refine (next_none L (L + 1) G w l h3 h2 hl hll (hC _ h.bel).1 (hC _ h.bel).2 hF).mono ?_
  rintro e w' ⟨rfl, h4, h5⟩
  exact ⟨rfl, ⟨G, h1, Nat.lt_of_lt_of_le h2 h5.size, h4⟩, h.bel.trans (h5.below (Nat.le_of_lt h3.lo) fun i hi => by omega)⟩
theorem RS.ok {L : Nat} {w0 w : World} {l : List UInt8} {k : Int} {T : ByteArray} (h : RS L w0 w l) (hl : 0 < l.length) (hll : l.length ≤ 1000000) (hC : Ctx0 L w0) (hF : FrameGives l [] k T) :
    Calls Tryz.prog 8 #[.pointer (some ⟨L, 0, none⟩)] w fun e w' => e = .returned (.tuple #[ansV k T, .bool true, .int .i64 0]) ∧ RS L w0 w' [] := by
  obtain ⟨G, h1, h2, h3⟩ := h.wt
  refine (next_ok L (L + 1) G w l k T h3 h2 hl hll (hC _ h.bel).1 (hC _ h.bel).2 hF).mono ?_
  rintro e w' ⟨rfl, h4, h5⟩
  exact ⟨rfl, ⟨G, h1, Nat.lt_of_lt_of_le h2 h5.size, h4⟩, h.bel.trans (h5.below (Nat.le_of_lt h3.lo) fun i hi => by omega)⟩
theorem RS.broke {L : Nat} {w0 w : World} {l : List UInt8} (h : RS L w0 w l) (hl : 0 < l.length) (hll : l.length ≤ 1000000) (hC : Ctx0 L w0) (hF : FrameIs l (stop brokeV)) :
    Calls Tryz.prog 8 #[.pointer (some ⟨L, 0, none⟩)] w fun e w' => e = .returned (.tuple #[ansV 0 ⟨#[]⟩, .bool false, .int .i64 51]) ∧ RFailed L w' ∧ Below L w0 w' := by
  obtain ⟨G, h1, h2, h3⟩ := h.wt
  refine (next_broke L (L + 1) G w l h3 hl hll (hC _ h.bel).1 (hC _ h.bel).2 hF).mono ?_
  rintro e w' ⟨rfl, h4, h5⟩
  exact ⟨rfl, h4, h.bel.trans (h5.below (Nat.le_of_lt h3.lo) fun i hi => by omega)⟩
theorem RS.left {L : Nat} {w0 w : World} {l : List UInt8} (h : RS L w0 w l) : Calls Tryz.prog 9 #[.pointer (some ⟨L, 0, none⟩)] w fun e w' => e = .returned (.int .i64 (l.length : Nat)) ∧ w = w' := by
  obtain ⟨G, -, -, h3⟩ := h.wt
  obtain ⟨a, c, h0, -⟩ := h3.row
  exact rleft_calls L a l.length c w h0
theorem RS.start (w : World) : RS w.heap.size w (w.alloc (.cells #[.slice none 0 0, .bool false] 41)) [] :=
  ⟨⟨w.heap.size, Nat.le_refl _, by simp, wt_new w⟩, bbox _⟩
end Go.Proofs.YtimgkbpiengnjaaGreatDoor.Ln
