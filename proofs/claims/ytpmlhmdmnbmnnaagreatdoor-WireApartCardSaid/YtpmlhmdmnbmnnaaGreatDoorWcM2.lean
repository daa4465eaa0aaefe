/- wire.Command: its bytes, at any texts that lie. No condition but bounds. -/
import Derived.Test.YtpmlhmdmnbmnnaaGreatDoorWa3
import Derived.Test.YtpmlhmdmnbmnnaaGreatDoorVqM
namespace Go.Proofs.YtpmlhmdmnbmnnaaGreatDoor
open Go.ChangeShapes Go.WideShapes Go.ChangeAt Go.RowKit

def bulkB (t : ByteArray) : List UInt8 := (36 :: (Lib.itoa t.size ++ [13, 10])) ++ (t.data.toList ++ [13, 10])
def commandB (T : Nat → ByteArray) (n : Nat) : List UInt8 := (42 :: (Lib.itoa n ++ [13, 10])) ++ catTo (fun i => bulkB (T i)) n
theorem bulkB_len (t : ByteArray) (h : t.size ≤ 1000) : (bulkB t).length ≤ 1026 := by
  have h1 := itoa_len (t.size : Int) (by omega) (by omega)
  have h2 : t.data.toList.length = t.size := Array.length_toList
  unfold bulkB
  simp only [List.length_append, List.length_cons, List.length_nil]
  omega
theorem bulks_len (T : Nat → ByteArray) (n : Nat) (h : ∀ i, i < n → (T i).size ≤ 1000) : (catTo (fun i => bulkB (T i)) n).length ≤ 1026 * n := by
  induction n with
  | zero => exact Nat.le_refl _
  | succ n ih =>
    have h1 := ih fun i hi => h i (by omega)
    have h2 := bulkB_len (T n) (h n (by omega))
    rw [catTo_succ, List.length_append]
    omega
set_option maxHeartbeats 4000000 in
set_option maxRecDepth 100000 in
theorem command_calls (w : World) (hc : WCtx w) (a : Option Addr) (c n : Nat) (T : Nat → ByteArray) (hnc : n ≤ c) (hcm : c ≤ 9223372036854775807) (hn : n ≤ 1000) (hT : ∀ i, i < n → (T i).size ≤ 1000)
    (hadr : 0 < n → ∃ b o, a = some ⟨b, o, none⟩ ∧ b < w.heap.size) (hcell : ∀ i, i < n → ∀ b o, a = some ⟨b, o, none⟩ → w.cell? ⟨b, o + i, none⟩ = some (.string (T i))) :
    Calls Tryz.prog 29 #[.slice a n c] w (Added w (commandB T n)) := by
  have HC := Lib.hid hc
  have HT := Lib.hid hT
  have Hadr := Lib.hid hadr
  have Hcell := Lib.hid hcell
  have m5 := mark_of w 5 (by decide) 42 rfl hc
  have hlen := itoa_len (n : Int) (by omega) (by omega)
  have Hlen := Lib.hid hlen
  have H0 := Lib.hid (fun w2 (h2 : Buf w w2 (.slice none 0 0) []) => appendCount_calls w w2 (.slice none 0 0) [] 42 n h2 hc (by omega) (by simp))
  clear hc hT hadr hcell hlen
  go_enter Tryz.func29, Tryz.ntmps29
  go_wp2_with fail
  refine (H0.out w (Buf.nil w)).mono ?_; rintro en w1 ⟨v1, rfl, hO1⟩
  rw [List.nil_append] at hO1
  have HO1 := Lib.hid hO1
  clear hO1 H0
  go_wp2_with fail
  go_loopw [3, 5, 13] (fun v _ i wr => ∃ j : Nat, j ≤ n ∧ i = .int .i64 j ∧ Buf w wr v ((42 :: (Lib.itoa n ++ [13, 10])) ++ catTo (fun i => bulkB (T i)) j)) (fun _ _ i _ => n - (intOf i).toNat)
  case atStart => exact ⟨0, by omega, rfl, by rw [show catTo (fun i => bulkB (T i)) 0 = [] from rfl, List.append_nil]; exact HO1.out⟩
  case round =>
    obtain ⟨j, hj, rfl, hB⟩ := hrel
    have HB := Lib.hid hB
    clear hB
    by_cases hlt : j < n
    · obtain ⟨b2, o2, rfl, hb2⟩ := Hadr.out (by omega)
      have hjn : j < c := by omega
      have hx : wr.cell? ⟨b2, o2 + j, none⟩ = some (.string (T j)) := (HB.out.bel.cell (p := ⟨b2, o2 + j, none⟩) hb2).trans (Hcell.out j hlt b2 o2 rfl)
      have m4 := mark_of wr 4 (by decide) 36 rfl (HC.out.below HB.out.bel)
      have hlj := bulks_len T j fun i hi => HT.out i (by omega)
      have htj := HT.out j hlt
      have hl21 := Hlen.out
      have hcall := fun v => appendText_calls w wr v ((42 :: (Lib.itoa n ++ [13, 10])) ++ catTo (fun i => bulkB (T i)) j) 36 (T j)
      have Hcall := Lib.hid hcall
      clear hcall
      have Hsz : Hid ((T j).size ≤ 1000000000 ∧ ((42 :: (Lib.itoa n ++ [13, 10])) ++ catTo (fun i => bulkB (T i)) j).length + (T j).size + 27 ≤ 100000000000) := Lib.hid ⟨by omega, by simp only [List.length_append, List.length_cons, List.length_nil]; omega⟩
      clear hlj htj hl21
      go_wp2_with fail
      refine (Hcall.out _ HB.out HC.out Hsz.out.1 Hsz.out.2).mono ?_
      rintro en w3 ⟨v3, rfl, hO3⟩
      have HO3 := Lib.hid hO3
      clear hO3
      go_wp2_with fail
      go_roundw
      case rel =>
        refine ⟨j + 1, by omega, by go_num, ?_⟩
        rw [catTo_succ, ← List.append_assoc]
        have h := HO3.out
        rw [List.append_assoc _ (36 :: _) _] at h
        exact h
      case measure => simp [intOf]; omega
    · obtain rfl : j = n := by omega
      go_wp2_with fail
      go_ret
      refine ⟨_, rfl, ?_⟩
      exact HB.out
end Go.Proofs.YtpmlhmdmnbmnnaaGreatDoor
/- The call wireAlive of layer 4: true. No condition but the tables. -/
namespace Go.Proofs.YtpmlhmdmnbmnnaaGreatDoor
open Go.ChangeShapes Go.WideShapes Go.ChangeAt Go.RowKit

/-- string(b), of an own row of bytes. -/
theorem buf_conv {wb w : World} {v : Value} {l : List UInt8} (h : Buf wb w v l) (hl : l ≠ []) : (convert 39 9 v).run Tryz.prog w = .ok (.string ⟨l.toArray⟩) w := by
  obtain ⟨hx, hr⟩ := h.row
  rcases hr with ⟨-, hn⟩ | ⟨g, cap, cur, rfl, -, hg, -, -, hsz, htk⟩
  · exact absurd (List.eq_nil_of_length_eq_zero hn) hl
  · refine run_convert_bytes_back w _ _ 5 ⟨g, 0, none⟩ cap l Tryz.underlying39 Tryz.underlying5 Tryz.underlying9 fun j hj => ?_
    have hc : cur.toList[j]? = some (.int .u8 (l[j].toNat : Int)) := by
      have h1 : (cur.toList.take (l.length * 1))[j]? = cur.toList[j]? := List.getElem?_take_of_lt (by omega)
      rw [← h1, htk]
      simp [Lib.byteCells, hj]
    rw [Addr.add_lit, Nat.zero_add]
    simp only [World.cell?, hg]
    simpa using hc
set_option maxHeartbeats 4000000 in
set_option maxRecDepth 100000 in
theorem walive_calls (w : World) (hc : WCtx w) : Calls Tryz.prog 20 #[] w fun e w' => e = .returned (.bool true) ∧ Below w.heap.size w w' := by
  have HC := Lib.hid hc
  have hcmd := fun w2 (h2 : Below w.heap.size w w2) b (hb : b < w2.heap.size) (hx : w2.cell? ⟨b, 0, none⟩ = some (.string ⟨#[97]⟩)) =>
    command_calls w2 (hc.below h2) (some ⟨b, 0, none⟩) 1 1 (fun _ => ⟨#[97]⟩) (by omega) (by omega) (by omega) (fun _ _ => by decide) (fun _ => ⟨b, 0, rfl, hb⟩) (fun i hi b2 o2 e => by
      obtain rfl : i = 0 := by omega
      injection e with e; injection e with e1 e2; subst e1; subst e2; exact hx)
  have Hcmd := Lib.hid hcmd
  clear hcmd hc
  go_enter Tryz.func20, Tryz.ntmps20
  go_wp2_with fail
  generalize hW : w.alloc _ = W at *
  have hb : Below w.heap.size w W := by subst hW; exact (Below.refl _ _).alloc (Nat.le_refl _) _
  have hx : W.cell? ⟨w.heap.size, 0, none⟩ = some (.string ⟨#[97]⟩) := by subst hW; go_simp
  have hz : w.heap.size < W.heap.size := by subst hW; simp
  refine (Hcmd.out W hb w.heap.size hz hx).mono ?_; rintro en w3 ⟨v3, rfl, hO3⟩
  have HO3 := Lib.hid hO3
  have Hb := Lib.hid hb
  clear hO3 hb hx hz hW Hcmd
  go_wp2_with fail
  rw [buf_conv HO3.out (by unfold commandB; simp)]
  have hB : (⟨(commandB (fun _ => ⟨#[97]⟩) 1).toArray⟩ : ByteArray) = ⟨#[42, 49, 13, 10, 36, 49, 13, 10, 97, 13, 10]⟩ := by
    have e1 : Lib.itoa ((1 : Nat) : Int) = [49] := by first | kernel_rfl | decide +kernel
    have e2 : (⟨#[97]⟩ : ByteArray).size = 1 := rfl
    have e3 : catTo (fun _ : Nat => bulkB ⟨#[97]⟩) 1 = bulkB ⟨#[97]⟩ := rfl
    unfold commandB
    rw [e3]
    unfold bulkB
    rw [e2, e1]
    rfl
  rw [hB]
  clear hB
  go_wp2_with fail
  go_ret
  exact ⟨rfl, bstep Hb.out HO3.out.bel⟩
theorem step_conv {P : Program} {ops : Array Oper} {o : Oper} {a : Act} {w : World} {K : Act → World → Prop} {Q : Exit → Act → World → Prop} {E : Prop} (hg : o.guard = none) (t1 t2 : TypeId) (x : Operand)
    (hop : o.op = Op.convert t1 t2 x) (v u : Value) (hx : a.eval x = v) (hrun : (convert t1 t2 v).run P w = .ok u w) (hK : K (a.put o.dst u) w) :
    if Region.wanted o (yielded ops a.tmps) = true then Oper.wp P o a w K Q else E := by
  have hw : Region.wanted o (yielded ops a.tmps) = true := by simp [Region.wanted, hg]
  rw [if_pos hw]
  unfold Oper.wp
  simp [execOp, hop, hx, hrun, Result.andThen]
  exact hK
end Go.Proofs.YtpmlhmdmnbmnnaaGreatDoor
/- wire.ends and wire.Bytes in the newer protocol, at any value that can be and lies. Conditions: the tables ('WCtx'). -/
namespace Go.Proofs.YtpmlhmdmnbmnnaaGreatDoor
open Go.ChangeShapes Go.WideShapes Go.ChangeAt Go.RowKit

set_option maxHeartbeats 1000000 in
theorem ends_calls : ∀ (v : Val) (S : Nat → Prop) (w : World) (b o room : Nat), Lies S w v → At w b o v → v.nest ≤ room → room ≤ 65536 →
    Calls Tryz.prog 48 #[.pointer (some ⟨b, o, none⟩), .int .i64 room] w fun e w' => e = .returned (.bool true) ∧ w = w' := by
  intro v
  induction v with
  | no => exact fun _ _ _ _ _ hl => hl.elim
  | mk k t z r f a c n K ih =>
    intro S w b o room hl ha hn hr
    obtain ⟨⟨-, -, -, -, -, -, hnc, hcm, hnm⟩, hadr, hkids⟩ := hl
    obtain ⟨-, -, -, -, -, h5⟩ := ha
    have hroom : ((room : Int) == 0) = false := by
      unfold Val.nest at hn
      rw [beq_eq_false_iff_ne]; omega
    have hroom1 : (1 : Int) ≤ room := by unfold Val.nest at hn; omega
    have hN : ∀ i, i < n → (K i).nest ≤ room - 1 := fun i hi => by
      unfold Val.nest at hn
      have := maxTo_le (g := fun i => (K i).nest) hi
      omega
    have HN := Lib.hid hN
    have Hadr := Lib.hid hadr
    have Hk := Lib.hid hkids
    have Hih := Lib.hid ih
    clear hadr hkids ih hn hN
    go_enter Tryz.func48, Tryz.ntmps48
    go_wp2_with fail
    go_loop [13] (fun i => ∃ j : Nat, j ≤ n ∧ i = .int .i64 j) (fun i => n - (intOf i).toNat)
    case atStart => exact ⟨0, by omega, rfl⟩
    case round =>
      obtain ⟨j, hj, rfl⟩ := hrel
      by_cases hlt : j < n
      · obtain ⟨b2, o2, rfl, hb2⟩ := Hadr.out (by omega)
        have hjn : j < c := by omega
        obtain ⟨hat, hls⟩ := Hk.out j hlt
        have hcall := Hih.out j S w b2 (o2 + j * 6) (room - 1) hls (hat b2 o2 rfl) (HN.out j hlt) (by omega)
        rw [show ((room - 1 : Nat) : Int) = (room : Int) - 1 by omega] at hcall
        have Hcall := Lib.hid hcall
        clear hcall hat hls
        go_wp2_with fail
        refine Hcall.out.mono ?_; rintro en w' ⟨rfl, rfl⟩
        go_wp2_with fail
        go_round
        case rel => exact ⟨j + 1, by omega, by go_num⟩
        case measure => simp [intOf]; omega
      · obtain rfl : j = n := by omega
        go_wp2_with fail
        go_ret
        exact ⟨rfl, rfl⟩

/-- The bytes l in a row of the call's own; all that lay stands. -/
def Sent (w : World) (l : List UInt8) (e : Ending) (w' : World) : Prop := ∃ v', e = .returned v' ∧ Below w.heap.size w w' ∧ ∃ wb, Buf wb w' v' l
set_option maxHeartbeats 1000000 in
set_option maxRecDepth 100000 in
theorem wbytes_new (x : Val) (S : Nat → Prop) (w : World) (hc : WCtx w) (hS : ∀ b, S b → b < w.heap.size) (hl : Lies S w x) (hok : okV x) (hn : x.nest ≤ 65536) (hlen : (encV false x).length ≤ 99999999000) :
    Calls Tryz.prog 23 #[x.agg, .int .i64 3] w (Sent w (encV false x)) := by
  cases x with
  | no => exact hl.elim
  | mk k t z r f a c n K =>
    obtain ⟨q1, q2, q3⟩ := box_facts w k t z r f a c n K
    have hl2 := hl.below q1 hS
    have h1 := ends_calls (.mk k t z r f a c n K) S _ _ 0 65536 hl2 q3 hn (by omega)
    have h2 := appendValue_calls (w.alloc (.cells #[.int .i64 k, .string t, .int .i64 z, .float .f64 r, .bool f, .slice a n c] 36)) false (hc.below q1) (.mk k t z r f a c n K) S w.heap.size 0 (fun b hb => Nat.lt_of_lt_of_le (hS b hb) q1.size) hl2 hok (by omega) q3 _ (.slice none 0 0) [] (Buf.nil _) (by simpa using hlen)
    rw [List.nil_append] at h2
    have H1 := Lib.hid h1
    have H2 := Lib.hid h2
    have Q1 := Lib.hid q1
    clear h1 h2 q1 q2 q3 hl hl2 hok hc hn hlen
    unfold Val.agg
    generalize hL : encV false _ = L at *
    clear hL
    go_enter Tryz.func23, Tryz.ntmps23
    go_wp2_with fail
    refine H1.out.mono ?_; rintro en w1 ⟨rfl, rfl⟩
    go_wp2_with fail
    refine H2.out.mono ?_; rintro en w2 ⟨v2, rfl, hO⟩
    have HO := Lib.hid hO
    clear hO
    go_wp2_with fail
    go_ret
    exact ⟨v2, rfl, bstep Q1.out HO.out.bel, _, HO.out⟩

/-- Out of the check: a value that can be. -/
theorem okV_of : ∀ (x : Val) (S : Nat → Prop) (w : World), Lies S w x → gs x = true → okV x := by
  intro x
  induction x with
  | no => exact fun _ _ hl => hl.elim
  | mk k t z r f a c n K ih =>
    intro S w hl hg
    have hg : (headB k t z r f n && allTo (fun i => (K i).kind != 14 && gs (K i)) n) = true := hg
    rw [Bool.and_eq_true] at hg
    obtain ⟨⟨-, -, -, hz0, hz1, hr, hnc, hcm, hnm⟩, hadr, hkids⟩ := hl
    refine ⟨hg.1, ⟨hr, hz0, hz1, by omega⟩, fun i hi => ih i S w (hkids i hi).2 ?_⟩
    have hall : ∀ (p : Nat → Bool) (m : Nat), allTo p m = true → ∀ i, i < m → p i = true := by
      intro p m
      induction m with
      | zero => exact fun _ i hi => absurd hi (by omega)
      | succ m ihm =>
        intro h i hi
        rw [allTo_succ, Bool.and_eq_true] at h
        by_cases e : i = m
        · exact e ▸ h.2
        · exact ihm h.1 i (by omega)
    have := hall _ _ hg.2 i hi
    rw [Bool.and_eq_true] at this
    exact this.2
theorem okV_of_check {x : Val} {S : Nat → Prop} {w : World} (hl : Lies S w x) (h : (checkN x == 0) = true) : okV x := by
  rw [← right_check, Bool.and_eq_true, Bool.and_eq_true] at h
  exact okV_of x S w hl (allN_gs x 0 h.1.1)
end Go.Proofs.YtpmlhmdmnbmnnaaGreatDoor
