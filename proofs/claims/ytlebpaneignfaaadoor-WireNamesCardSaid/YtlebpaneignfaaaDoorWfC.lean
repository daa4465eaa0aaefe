/- wire.Bytes in the older protocol, at any value that can be. Conditions: what start-up lays; bounds. -/
import Derived.Test.YtlebpaneignfaaaDoorWfB
import Derived.Test.YtlebpaneignfaaaDoorWc1
import Derived.Test.YtlebpaneignfaaaDoorWc3
namespace Go.Proofs.YtlebpaneignfaaaDoor
set_option linter.unusedVariables false
set_option linter.unusedSimpArgs false
open Go.ChangeShapes Go.WideShapes Go.ChangeAt Go.RowKit
/-- How many stand in one another. -/
def Val.deep : Val → Nat
  | .no => 0
  | .mk _ _ _ _ _ _ _ n K => 1 + maxTo (fun i => (K i).deep) n
set_option maxHeartbeats 1000000 in
theorem ends2_calls : ∀ (v : Val) (S : Nat → Prop) (w : World) (b o room : Nat), Lies S w v → At w b o v → v.deep ≤ room → room ≤ 65536 →
    Calls Tryd.prog 7 #[.pointer (some ⟨b, o, none⟩), .int .i64 room] w fun e w' => e = .returned (.bool true) ∧ w = w' := by
  intro v
  induction v with
  | no => exact fun _ _ _ _ _ hl => hl.elim
  | mk k t z r f a c n K ih =>
    intro S w b o room hl ha hn hr
    obtain ⟨⟨-, -, -, -, -, -, hnc, hcm, hnm⟩, hadr, hkids⟩ := hl
    obtain ⟨-, -, -, -, -, h5⟩ := ha
    have hroom : ((room : Int) == 0) = false := by
      unfold Val.deep at hn
      rw [beq_eq_false_iff_ne]; omega
    have hroom1 : (1 : Int) ≤ room := by unfold Val.deep at hn; omega
    have hN : ∀ i, i < n → (K i).deep ≤ room - 1 := fun i hi => by
      unfold Val.deep at hn
      have := maxTo_le (g := fun i => (K i).deep) hi
      omega
    have HN := Lib.hid hN
    have Hadr := Lib.hid hadr
    have Hk := Lib.hid hkids
    have Hih := Lib.hid ih
    clear hadr hkids ih hn hN
    go_enter Tryd.func7, Tryd.ntmps7
    go_wp2_with fail
    go_loop [13] (fun i => ∃ j : Nat, j ≤ n ∧ i = .int .i64 j) (fun i => n - (intOf i).toNat)
    case atStart => exact ⟨0, by omega, rfl⟩
    case round =>
      obtain ⟨j, hj, rfl⟩ := hrel
      by_cases hlt : j < n
      · obtain ⟨b2, o2, rfl, hb2⟩ := Hadr.out (by omega)
        have hjn : j < c := by omega
        obtain ⟨hat, hls⟩ := Hk.out j hlt
        have hcall := Hih.out j S w b2 (o2 + j * 6) (room - 1) hls (hat b2 o2 rfl) (HN.out j hlt) (by omega)
        rw [show ((room - 1 : Nat) : Int) = (room : Int) - 1 by omega] at hcall
        have Hcall := Lib.hid hcall
        clear hcall hat hls
        go_wp2_with fail
        refine Hcall.out.mono ?_; rintro en w' ⟨rfl, rfl⟩
        go_wp2_with fail
        go_round
        case rel => exact ⟨j + 1, by omega, by go_num⟩
        case measure => simp [intOf]; omega
      · obtain rfl : j = n := by omega
        go_wp2_with fail
        go_ret
        exact ⟨rfl, rfl⟩

/-- The bytes l in a row of the call's own; all that lay stands. -/
def Sent2 (w : World) (l : List UInt8) (e : Ending) (w' : World) : Prop := ∃ v', e = .returned v' ∧ Below w.heap.size w w' ∧ ∃ wb, Buf wb w' v' l
theorem box2_facts (w : World) (k : Int) (t : ByteArray) (z : Int) (r : Nat) (f : Bool) (a : Option Addr) (c n : Nat) (K : Nat → Val) :
    Below w.heap.size w (w.alloc (.cells #[.int .i64 k, .string t, .int .i64 z, .float .f64 r, .bool f, .slice a n c] 26)) ∧
    (w.alloc (.cells #[.int .i64 k, .string t, .int .i64 z, .float .f64 r, .bool f, .slice a n c] 26)).heap.size = w.heap.size + 1 ∧
    At (w.alloc (.cells #[.int .i64 k, .string t, .int .i64 z, .float .f64 r, .bool f, .slice a n c] 26)) w.heap.size 0 (.mk k t z r f a c n K) := by
  refine ⟨(Below.refl _ _).alloc (Nat.le_refl _) _, by simp, ⟨?_, ?_, ?_, ?_, ?_, ?_⟩⟩ <;> go_simp
theorem box2_room (w : World) (v0 v1 v2 v3 v4 v5 : Value) : Room (w.alloc (.cells #[v0, v1, v2, v3, v4, v5] 26)) w.heap.size 6 :=
  ⟨by simp, fun p hp => by
    rw [World.cell?_alloc_new]
    match p, hp with
    | 0, _ => rfl
    | 1, _ => rfl
    | 2, _ => rfl
    | 3, _ => rfl
    | 4, _ => rfl
    | 5, _ => rfl, fun p => by simp⟩
set_option maxHeartbeats 2000000 in
set_option maxRecDepth 100000 in
theorem wbytes_new2 (x : Val) (S : Nat → Prop) (w : World) (hc : WCtx w) (hS : ∀ b, S b → b < w.heap.size) (hl : Lies S w x) (hok : okV x) (hn : x.deep ≤ 65536) (hlen : (encV false x).length ≤ 99999999000) :
    Calls Tryd.prog 5 #[x.agg, .int .i64 3] w (Sent2 w (encV false x)) := by
  cases x with
  | no => exact hl.elim
  | mk k t z r f a c n K =>
    obtain ⟨q1, q2, q3⟩ := box2_facts w k t z r f a c n K
    have hl2 := hl.below q1 hS
    have h1 := ends2_calls (.mk k t z r f a c n K) S _ _ 0 65536 hl2 q3 hn (by omega)
    have h2 := appendValue_calls (w.alloc (.cells #[.int .i64 k, .string t, .int .i64 z, .float .f64 r, .bool f, .slice a n c] 26)) false (hc.below q1) (.mk k t z r f a c n K) S w.heap.size 0 (fun b hb => Nat.lt_of_lt_of_le (hS b hb) q1.size) hl2 hok (by omega) q3 _ (.slice none 0 0) [] (Buf.nil _) (by simpa using hlen)
    rw [List.nil_append] at h2
    have H1 := Lib.hid h1
    have H2 := Lib.hid h2
    have Q1 := Lib.hid q1
    clear h1 h2 q1 q2 q3 hl hl2 hok hc hn hlen
    unfold Val.agg
    generalize hL : encV false _ = L at *
    clear hL
    go_enter Tryd.func5, Tryd.ntmps5
    go_wp2_with fail
    refine H1.out.mono ?_; rintro en w1 ⟨rfl, rfl⟩
    go_wp2_with fail
    refine H2.out.mono ?_; rintro en w2 ⟨v2, rfl, hO⟩
    have HO := Lib.hid hO
    clear hO
    go_wp2_with fail
    go_ret
    exact ⟨v2, rfl, bstep Q1.out HO.out.bel, _, HO.out⟩
set_option maxHeartbeats 4000000 in
set_option maxRecDepth 100000 in
theorem wbytes_old (x : Val) (S : Nat → Prop) (w : World) (p : Int) (hp : (p == 3) = false) (hc : WCtx w) (hm : MaxW w) (hS : ∀ b, S b → b < w.heap.size) (hl : Lies S w x) (hok : okV x) (hn : x.deep ≤ 65536) (L : List UInt8) (hL : ∀ y, Dn x y → okV y ∧ encV true y = L) (hlen : L.length ≤ 99999999000) :
    Calls Tryd.prog 5 #[x.agg, .int .i64 p] w (Sent2 w L) := by
  cases x with
  | no => exact hl.elim
  | mk k t z r f a c n K =>
    obtain ⟨q1, q2, q3⟩ := box2_facts w k t z r f a c n K
    have hl2 := hl.below q1 hS
    have H1 := Lib.hid (ends2_calls (.mk k t z r f a c n K) S _ _ 0 65536 hl2 q3 hn (by omega))
    have H2 := Lib.hid (downOf_calls (.mk k t z r f a c n K) S _ _ 0 (hc.below q1) (hm.below q1) (fun b hb => Nat.lt_of_lt_of_le (hS b hb) q1.size) hl2 hok (by omega) q3)
    have HR := Lib.hid (box2_room w (.int .i64 k) (.string t) (.int .i64 z) (.float .f64 r) (.bool f) (.slice a n c))
    have Q1 := Lib.hid q1
    have Q2 := Lib.hid q2
    have HC := Lib.hid hc
    have HL := Lib.hid hL
    have HLn := Lib.hid hlen
    clear q1 q2 q3 hl hl2 hok hc hm hn hlen hL
    unfold Val.agg
    go_enter Tryd.func5, Tryd.ntmps5
    go_wp2_with fail
    refine H1.out.mono ?_; rintro en w1 ⟨rfl, rfl⟩
    go_wp2_with fail
    refine H2.out.mono ?_; rintro en w2 ⟨y, rfl, hy, hly, hb2⟩
    cases y with
    | no => exact hly.elim
    | mk k' t' z' r' f' a' c' n' K' =>
    obtain ⟨hoy, hey⟩ := HL.out _ hy
    have hR := HR.out.below hb2
    have hbel := bstep Q1.out hb2
    have hq2 := Q2.out
    have hb4 := put6_below hbel (Nat.le_refl _) 0 (.int .i64 k') (.string t') (.int .i64 z') (.float .f64 r') (.bool f') (.slice a' n' c')
    have h3 := appendValue_calls (put6 w2 w.heap.size 0 (.int .i64 k') (.string t') (.int .i64 z') (.float .f64 r') (.bool f') (.slice a' n' c')) true (HC.out.below hb4) (.mk k' t' z' r' f' a' c' n' K')
      (fun q => w.heap.size + 1 ≤ q ∧ q < w2.heap.size) w.heap.size 0 (fun q hq => by rw [put6_size]; exact hq.2)
      (put6_lies (fun q hq => by omega) (hly.wide fun q hq => ⟨by omega, hq.2⟩) _ _ _ _ _ _ _) hoy (by rw [put6_size]; exact hR.lt) (put6_at hR (by omega)) _ (.slice none 0 0) [] (Buf.nil _) (by rw [hey]; simpa using HLn.out)
    rw [List.nil_append, hey] at h3
    have H3 := Lib.hid h3
    have HB4 := Lib.hid hb4
    obtain ⟨u0, g0⟩ := Option.isSome_iff_exists.1 (hR.cell 0 (by omega))
    obtain ⟨u1, g1⟩ := Option.isSome_iff_exists.1 (hR.cell 1 (by omega))
    obtain ⟨u2, g2⟩ := Option.isSome_iff_exists.1 (hR.cell 2 (by omega))
    obtain ⟨u3, g3⟩ := Option.isSome_iff_exists.1 (hR.cell 3 (by omega))
    obtain ⟨u4, g4⟩ := Option.isSome_iff_exists.1 (hR.cell 4 (by omega))
    obtain ⟨u5, g5⟩ := Option.isSome_iff_exists.1 (hR.cell 5 (by omega))
    have f0 := hR.fz 0
    have f1 := hR.fz 1
    have f2 := hR.fz 2
    have f3 := hR.fz 3
    have f4 := hR.fz 4
    have f5 := hR.fz 5
    clear hR hb4 h3 hy hly hb2 hoy hey hbel H1 H2
    unfold Val.agg
    simp only
    go_wp2_with fail
    refine H3.out.mono ?_; rintro en w3 ⟨v3, rfl, hO⟩
    have HO := Lib.hid hO
    clear hO
    go_wp2_with fail
    go_ret
    exact ⟨v3, rfl, bstep HB4.out HO.out.bel, _, HO.out⟩
end Go.Proofs.YtlebpaneignfaaaDoor
/- WireNames: plain. No condition. -/
namespace Go.Proofs.YtlebpaneignfaaaDoor
set_option linter.unusedVariables false
set_option linter.unusedSimpArgs false
open Go.ChangeShapes Go.WideShapes Go.ChangeAt Go.RowKit
def nk : Nat → Val := fun _ => .no
/-- The values of the statement. -/
def kv : Nat → Val
  | 0 => .mk 6 ⟨#[]⟩ 0 0 false none 0 0 nk
  | 1 => .mk 8 ⟨#[]⟩ 0 0 true none 0 0 nk
  | 2 => .mk 7 ⟨#[]⟩ 0 4609434218613702656 false none 0 0 nk
  | 3 => .mk 9 ⟨#[49, 50]⟩ 0 0 false none 0 0 nk
  | 4 => .mk 11 ⟨#[116, 120, 116, 58, 104, 105]⟩ 0 0 false none 0 0 nk
  | 5 => .mk 10 ⟨#[69, 10]⟩ 0 0 false none 0 0 nk
  | 6 => .mk 13 ⟨#[]⟩ 0 0 false none 0 0 nk
  | _ => .no
def xP (g : Nat) : Val := .mk 14 ⟨#[]⟩ 0 0 false (some ⟨g, 0, none⟩) 7 7 kv
def xM (g : Nat) : Val := .mk 12 ⟨#[]⟩ 0 0 false (some ⟨g, 0, none⟩) 7 2 kv
theorem tx15 : textOf 4609434218613702656 = [49, 46, 53] := by first | kernel_rfl | decide +kernel
theorem it0 : Lib.itoa 0 = [48] := by first | kernel_rfl | decide +kernel
theorem it1 : Lib.itoa 1 = [49] := by first | kernel_rfl | decide +kernel
theorem it2 : Lib.itoa 2 = [50] := by first | kernel_rfl | decide +kernel
theorem it3 : Lib.itoa 3 = [51] := by first | kernel_rfl | decide +kernel
theorem it6 : Lib.itoa 6 = [54] := by first | kernel_rfl | decide +kernel
theorem it7 : Lib.itoa 7 = [55] := by first | kernel_rfl | decide +kernel
def l3 : List UInt8 := [62, 55, 13, 10, 95, 13, 10, 35, 116, 13, 10, 44, 49, 46, 53, 13, 10, 40, 49, 50, 13, 10, 61, 54, 13, 10, 116, 120, 116, 58, 104, 105, 13, 10, 33, 50, 13, 10, 69, 10, 13, 10, 126, 48, 13, 10]
def l2 : List UInt8 := [42, 55, 13, 10, 36, 45, 49, 13, 10, 58, 49, 13, 10, 36, 51, 13, 10, 49, 46, 53, 13, 10, 36, 50, 13, 10, 49, 50, 13, 10, 36, 50, 13, 10, 104, 105, 13, 10, 45, 69, 32, 13, 10, 42, 48, 13, 10]
def lM : List UInt8 := [37, 49, 13, 10, 95, 13, 10, 35, 116, 13, 10]
theorem c7 (g : Nat → List UInt8) : catTo g 7 = ((((((([] ++ g 0) ++ g 1) ++ g 2) ++ g 3) ++ g 4) ++ g 5) ++ g 6) := rfl
theorem enc_xP (g : Nat) : encV false (xP g) = l3 := by
  have e0 : encV false (kv 0) = [95, 13, 10] := rfl
  have e1 : encV false (kv 1) = [35, 116, 13, 10] := rfl
  have e2 : encV false (kv 2) = [44, 49, 46, 53, 13, 10] := by
    show lineOf 44 (textOf 4609434218613702656) = _
    rw [tx15]; rfl
  have e3 : encV false (kv 3) = [40, 49, 50, 13, 10] := rfl
  have e4 : encV false (kv 4) = [61, 54, 13, 10, 116, 120, 116, 58, 104, 105, 13, 10] := by
    show lineOf 61 (Lib.itoa 6) ++ _ = _
    rw [it6]; rfl
  have e5 : encV false (kv 5) = [33, 50, 13, 10, 69, 10, 13, 10] := by
    show lineOf 33 (Lib.itoa 2) ++ _ = _
    rw [it2]; rfl
  have e6 : encV false (kv 6) = [126, 48, 13, 10] := by
    show lineOf 126 (Lib.itoa 0) ++ _ = _
    rw [it0]; rfl
  show lineOf 62 (Lib.itoa 7) ++ catTo (fun i => encV false (kv i)) 7 = _
  rw [it7, c7, e0, e1, e2, e3, e4, e5, e6]; rfl
theorem enc_xM (g : Nat) : encV false (xM g) = lM := by
  have e0 : encV false (kv 0) = [95, 13, 10] := rfl
  have e1 : encV false (kv 1) = [35, 116, 13, 10] := rfl
  show lineOf 37 (Lib.itoa 1) ++ (([] ++ encV false (kv 0)) ++ encV false (kv 1)) = _
  rw [it1, e0, e1]; rfl
theorem Leaf.eq {k : Int} {t : ByteArray} {z : Int} {y : Val} (h : Leaf k t z y) : ∃ K, y = .mk k t z 0 false none 0 0 K := by
  cases y with
  | no => exact h.elim
  | mk k' t' z' r' f' a' c' n' K' =>
    obtain ⟨rfl, rfl, rfl, rfl, rfl, rfl, rfl, rfl⟩ := h
    exact ⟨K', rfl⟩
theorem ok_leaf (k : Int) (t : ByteArray) (z : Int) (a : Option Addr) (c : Nat) (K : Nat → Val) (hz : -9223372036854775808 ≤ z ∧ z ≤ 9223372036854775807) (h : headB k t z 0 false 0 = true) : okV (.mk k t z 0 false a c 0 K) :=
  ⟨h, ⟨by decide, hz.1, hz.2, by decide⟩, fun i hi => absurd hi (Nat.not_lt_zero _)⟩
theorem ok_kv : ∀ i, i < 7 → okV (kv i)
  | 0, _ => ⟨by decide +kernel, ⟨by decide, by decide, by decide, by decide⟩, fun i hi => absurd hi (Nat.not_lt_zero _)⟩
  | 1, _ => ⟨by decide +kernel, ⟨by decide, by decide, by decide, by decide⟩, fun i hi => absurd hi (Nat.not_lt_zero _)⟩
  | 2, _ => ⟨by decide +kernel, ⟨by decide, by decide, by decide, by decide⟩, fun i hi => absurd hi (Nat.not_lt_zero _)⟩
  | 3, _ => ⟨by decide +kernel, ⟨by decide, by decide, by decide, by decide⟩, fun i hi => absurd hi (Nat.not_lt_zero _)⟩
  | 4, _ => ⟨by decide +kernel, ⟨by decide, by decide, by decide, by decide⟩, fun i hi => absurd hi (Nat.not_lt_zero _)⟩
  | 5, _ => ⟨by decide +kernel, ⟨by decide, by decide, by decide, by decide⟩, fun i hi => absurd hi (Nat.not_lt_zero _)⟩
  | 6, _ => ⟨by decide +kernel, ⟨by decide, by decide, by decide, by decide⟩, fun i hi => absurd hi (Nat.not_lt_zero _)⟩
  | _ + 7, h => absurd h (by omega)
theorem ok_xP (g : Nat) : okV (xP g) := ⟨by decide +kernel, ⟨by decide, by decide, by decide, by decide⟩, ok_kv⟩
theorem ok_xM (g : Nat) : okV (xM g) := ⟨by decide +kernel, ⟨by decide, by decide, by decide, by decide⟩, fun i hi => ok_kv i (by omega)⟩
theorem oneE : oneL [69, 10] = [69, 32] := by decide +kernel
theorem cutT : (⟨#[116, 120, 116, 58, 104, 105]⟩ : ByteArray).extract (min 4 6) 6 = ⟨#[104, 105]⟩ := by decide +kernel
end Go.Proofs.YtlebpaneignfaaaDoor
/- WireNames: what an older reader is sent. No condition. -/
namespace Go.Proofs.YtlebpaneignfaaaDoor
set_option linter.unusedVariables false
set_option linter.unusedSimpArgs false
open Go.ChangeShapes Go.WideShapes Go.ChangeAt Go.RowKit
section
variable {t : ByteArray} {z : Int} {r : Nat} {f : Bool} {a : Option Addr} {c n : Nat} {K : Nat → Val} {y : Val}
theorem dn7 (h : Dn (.mk 7 t z r f a c n K) y) : Leaf 4 ⟨(textOf r).toArray⟩ 0 y := by
  unfold Dn at h
  rwa [if_pos rfl] at h
theorem dn8 (h : Dn (.mk 8 t z r f a c n K) y) : Leaf 3 ⟨#[]⟩ (if f then 1 else 0) y := by
  unfold Dn at h
  rwa [if_neg (by decide), if_pos rfl] at h
theorem dn9 (h : Dn (.mk 9 t z r f a c n K) y) : Leaf 4 t 0 y := by
  unfold Dn at h
  rwa [if_neg (by decide), if_neg (by decide), if_pos rfl] at h
theorem dn11 (h : Dn (.mk 11 t z r f a c n K) y) : Leaf 4 (t.extract (min 4 t.size) t.size) 0 y := by
  unfold Dn at h
  rwa [if_neg (by decide), if_neg (by decide), if_neg (by decide), if_pos rfl] at h
theorem dn10 (h : Dn (.mk 10 t z r f a c n K) y) : Leaf 2 ⟨(oneL t.data.toList).toArray⟩ 0 y := by
  unfold Dn at h
  rwa [if_neg (by decide), if_neg (by decide), if_neg (by decide), if_neg (by decide), if_pos rfl] at h
theorem dn6 (h : Dn (.mk 6 t z r f a c n K) y) : ∃ a' c' K', y = .mk 6 t z r f a' c' n K' := by
  unfold Dn at h
  rw [if_neg (by decide), if_neg (by decide), if_neg (by decide), if_neg (by decide), if_neg (by decide)] at h
  obtain ⟨a', c', K', e, -⟩ := h
  rw [if_neg (by decide)] at e
  exact ⟨a', c', K', e⟩
theorem dn13 (h : Dn (.mk 13 t z r f a c n K) y) : ∃ a' c' K', y = .mk 5 ⟨#[]⟩ 0 0 false a' c' n K' := by
  unfold Dn at h
  rw [if_neg (by decide), if_neg (by decide), if_neg (by decide), if_neg (by decide), if_neg (by decide)] at h
  obtain ⟨a', c', K', e, -⟩ := h
  rw [if_pos (by decide)] at e
  exact ⟨a', c', K', e⟩
theorem dn14 (h : Dn (.mk 14 t z r f a c n K) y) : ∃ a' c' K', y = .mk 5 ⟨#[]⟩ 0 0 false a' c' n K' ∧ ∀ i, i < n → Dn (K i) (K' i) := by
  unfold Dn at h
  rw [if_neg (by decide), if_neg (by decide), if_neg (by decide), if_neg (by decide), if_neg (by decide)] at h
  obtain ⟨a', c', K', e, hk⟩ := h
  rw [if_pos (by decide)] at e
  exact ⟨a', c', K', e, hk⟩
end
theorem dn_xP (g : Nat) (y : Val) (h : Dn (xP g) y) : okV y ∧ encV true y = l2 := by
  obtain ⟨a', c', K', rfl, hk⟩ := dn14 h
  obtain ⟨b0, d0, k0, e0⟩ := dn6 (hk 0 (by omega))
  obtain ⟨k1, e1⟩ := (dn8 (hk 1 (by omega))).eq
  obtain ⟨k2, e2⟩ := (dn7 (hk 2 (by omega))).eq
  obtain ⟨k3, e3⟩ := (dn9 (hk 3 (by omega))).eq
  obtain ⟨k4, e4⟩ := (dn11 (hk 4 (by omega))).eq
  obtain ⟨k5, e5⟩ := (dn10 (hk 5 (by omega))).eq
  obtain ⟨b6, d6, k6, e6⟩ := dn13 (hk 6 (by omega))
  rw [tx15] at e2
  have e4 : K' 4 = .mk 4 ⟨#[104, 105]⟩ 0 0 false none 0 0 k4 := by rw [← cutT]; exact e4
  have e5 : K' 5 = .mk 2 ⟨#[69, 32]⟩ 0 0 false none 0 0 k5 := by
    have h2 : oneL (⟨#[69, 10]⟩ : ByteArray).data.toList = [69, 32] := oneE
    rw [h2] at e5
    exact e5
  have e2 : K' 2 = .mk 4 ⟨#[49, 46, 53]⟩ 0 0 false none 0 0 k2 := e2
  have e1 : K' 1 = .mk 3 ⟨#[]⟩ 1 0 false none 0 0 k1 := e1
  constructor
  · refine ⟨by decide +kernel, ⟨by decide, by decide, by decide, by decide⟩, fun i hi => ?_⟩
    match i, hi with
    | 0, _ => rw [e0]; exact ok_leaf _ _ _ _ _ _ (by decide) (by decide +kernel)
    | 1, _ => rw [e1]; exact ok_leaf _ _ _ _ _ _ (by decide) (by decide +kernel)
    | 2, _ => rw [e2]; exact ok_leaf _ _ _ _ _ _ (by decide) (by decide +kernel)
    | 3, _ => rw [e3]; exact ok_leaf _ _ _ _ _ _ (by decide) (by decide +kernel)
    | 4, _ => rw [e4]; exact ok_leaf _ _ _ _ _ _ (by decide) (by decide +kernel)
    | 5, _ => rw [e5]; exact ok_leaf _ _ _ _ _ _ (by decide) (by decide +kernel)
    | 6, _ => rw [e6]; exact ok_leaf _ _ _ _ _ _ (by decide) (by decide +kernel)
    | i + 7, h => exact absurd h (by omega)
  · have f0 : encV true (K' 0) = [36, 45, 49, 13, 10] := by rw [e0]; rfl
    have f1 : encV true (K' 1) = [58, 49, 13, 10] := by
      rw [e1]
      show lineOf 58 (Lib.itoa 1) = _
      rw [it1]; rfl
    have f2 : encV true (K' 2) = [36, 51, 13, 10, 49, 46, 53, 13, 10] := by
      rw [e2]
      show lineOf 36 (Lib.itoa 3) ++ _ = _
      rw [it3]; rfl
    have f3 : encV true (K' 3) = [36, 50, 13, 10, 49, 50, 13, 10] := by
      rw [e3]
      show lineOf 36 (Lib.itoa 2) ++ _ = _
      rw [it2]; rfl
    have f4 : encV true (K' 4) = [36, 50, 13, 10, 104, 105, 13, 10] := by
      rw [e4]
      show lineOf 36 (Lib.itoa 2) ++ _ = _
      rw [it2]; rfl
    have f5 : encV true (K' 5) = [45, 69, 32, 13, 10] := by rw [e5]; rfl
    have f6 : encV true (K' 6) = [42, 48, 13, 10] := by
      rw [e6]
      show lineOf 42 (Lib.itoa 0) ++ _ = _
      rw [it0]; rfl
    show lineOf 42 (Lib.itoa 7) ++ catTo (fun i => encV true (K' i)) 7 = _
    rw [it7, c7, f0, f1, f2, f3, f4, f5, f6]; rfl
end Go.Proofs.YtlebpaneignfaaaDoor
