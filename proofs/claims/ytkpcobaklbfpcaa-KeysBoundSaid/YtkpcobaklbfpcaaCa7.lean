/- Package recent: Clear, Oldest. Conditions: an object as it lies; bounds. -/
import Derived.Test.YtkpcobaklbfpcaaCa6
import Derived.LaidEqlPtr
namespace Go.Proofs.Ytkpcobaklbfpcaa.Ca
open Go.ChangeShapes Go.WideShapes Go.ChangeAt Go.RowKit Go.Maps Go.WideMaps
theorem cells_of {w : World} {a j : Nat} {v : Value} (h : w.cell? ⟨a, j, none⟩ = some v) : ∃ c t f, w.heap[a]? = some (.cells c t f) := by
  unfold World.cell? at h
  split at h
  · rename_i e; exact ⟨_, _, _, e⟩
  · cases h
/-- Two pointers to blocks that differ, none of them frozen, differ. -/
theorem run_sameAddr_apart {P : Program} (w : World) {a b j i : Nat} {u v : Value} (hne : a ≠ b) (ha : w.cell? ⟨a, j, none⟩ = some u) (hb : w.cell? ⟨b, i, none⟩ = some v) (fa : ∀ n, w.frozen? ⟨a, n, none⟩ = false) (fb : ∀ n, w.frozen? ⟨b, n, none⟩ = false) :
    (sameAddr ⟨a, 0, none⟩ ⟨b, 0, none⟩).run P w = .ok false w := by
  obtain ⟨ca, ta, fra, ea⟩ := cells_of ha
  obtain ⟨cb, tb, frb, eb⟩ := cells_of hb
  simp [sameAddr, hne, fa, fb, ea, eb, noView, viewAt, World.shape?, mayBeOne, stringish]
theorem iLink : ∃ j, Try.prog.info? 77 = some j ∧ j.size ≠ 0 := by
  have h : (Try.prog.info? 77).any (fun j => j.size != 0) = true := by kernel_rfl
  cases e : Try.prog.info? 77 with
  | none => rw [e] at h; cases h
  | some j => rw [e] at h; exact ⟨j, rfl, by simpa using h⟩
theorem neqP (w : World) {a b j i : Nat} {u v : Value} (hne : a ≠ b) (ha : w.cell? ⟨a, j, none⟩ = some u) (hb : w.cell? ⟨b, i, none⟩ = some v) (fa : ∀ n, w.frozen? ⟨a, n, none⟩ = false) (fb : ∀ n, w.frozen? ⟨b, n, none⟩ = false) :
    (binOp .neq 73 (.pointer (some ⟨a, 0, none⟩)) (.pointer (some ⟨b, 0, none⟩))).run Try.prog w = .ok (.bool true) w := by
  obtain ⟨q, hq, hz⟩ := iLink
  have hu := Try.underlying73
  have h : ∀ d : Nat, (Op.equalIn (d + 1) 73 (.pointer (some ⟨a, 0, none⟩)) (.pointer (some ⟨b, 0, none⟩))).run Try.prog w = .ok false w := fun d => by
    simp [Op.equalIn, run_underlying hu, sizeOf, typeInfo, hq, hz, run_sameAddr_apart w hne ha hb fa fb]
  simp only [binOp]
  simp [Op.equal, Op.maxDepth, h 9999]
theorem eqlP (w : World) (a : Nat) : (binOp .neq 73 (.pointer (some ⟨a, 0, none⟩)) (.pointer (some ⟨a, 0, none⟩))).run Try.prog w = .ok (.bool false) w := by
  obtain ⟨q, hq, -⟩ := iLink
  have hu := Try.underlying73
  have h : ∀ d : Nat, (Op.equalIn (d + 1) 73 (.pointer (some ⟨a, 0, none⟩)) (.pointer (some ⟨a, 0, none⟩))).run Try.prog w = .ok true w := fun d => by
    simp [Op.equalIn, run_underlying hu, sizeOf, typeInfo, hq, run_sameAddr_same]
  simp only [binOp]
  simp [Op.equal, Op.maxDepth, h 9999]
theorem beq_eq {x y : ByteArray} (h : x = y) : (x.toList == y.toList) = true := by rw [h]; exact beq_self_eq_true _
theorem ba_inj {x y : ByteArray} (h : x.toList = y.toList) : x = y := by
  rw [ByteArray.toList_eq, ByteArray.toList_eq] at h
  obtain ⟨x⟩ := x
  obtain ⟨y⟩ := y
  exact congrArg ByteArray.mk (Array.toList_inj.1 h)
theorem beq_ne {x y : ByteArray} (h : x ≠ y) : (x.toList == y.toList) = false := by
  rw [beq_eq_false_iff_ne]; exact fun e => h (ba_inj e)
theorem oldK_at {l : List ByteArray} {but : ByteArray} {j : Nat} (hj : j < l.length) (h : ∀ m (hm : m < l.length), m < j → l[m] = but) (hn : l[j] ≠ but) : oldK but l = some l[j] := by
  unfold oldK
  rw [List.find?_eq_some_iff_getElem]
  refine ⟨by simpa using hn, j, hj, rfl, fun m hm => ?_⟩
  simp [h m (by omega) hm]
theorem oldK_end {l : List ByteArray} {but : ByteArray} (h : ∀ m (hm : m < l.length), l[m] = but) : oldK but l = none := by
  unfold oldK
  rw [List.find?_eq_none]
  intro x hx
  obtain ⟨i, hi, rfl⟩ := List.mem_iff_getElem.1 hx
  simp [h i hi]
set_option maxHeartbeats 4000000 in
set_option maxRecDepth 100000 in
theorem oldest_calls {w : World} {T M E : Nat} {L : Lk} {D : DataW Unit} (h : RAt w T M E L D) (but : ByteArray) (o : Option ByteArray) (ho : Hid (oldK but (L.map (·.2)) = o)) :
    Calls Try.prog 34 #[.pointer (some ⟨T, 0, none⟩), .string but] w fun e w' => e = .returned (.tuple #[.string (o.getD ⟨#[]⟩), .bool o.isSome]) ∧ w = w' := by
  have d1 := h.c1
  have HH := Lib.hid h
  have e0 := h.ring.up 0 (Nat.zero_le _)
  rw [nd_zero] at e0
  clear h
  go_enter Try.func34, Try.ntmps34
  go_wp2_with fail
  go_loopg [6] (L.length + 1) (fun g vi wr => ∃ i : Nat, vi = .pointer (some ⟨nd E L (i + 1), 0, none⟩) ∧ i ≤ L.length ∧ L.length - i ≤ g ∧ Hid (∀ m (hm : m < (L.map (·.2)).length), m < i → (L.map (·.2))[m] = but) ∧ w = wr)
  case atStart => exact ⟨0, rfl, Nat.zero_le _, by omega, Lib.hid (fun _ _ h => absurd h (Nat.not_lt_zero _)), rfl⟩
  case round =>
    obtain ⟨i, rfl, hi, hg, HI, rfl⟩ := hrel
    by_cases hil : i < L.length
    case pos =>
      have hx := nd_succ (E := E) hil
      have hne : nd E L (i + 1) ≠ E := fun e => by have := HH.out.ring.ne (i + 1) 0 (by omega) (by omega) e; omega
      have k0 := HH.out.ring.key i hil
      have k2 := HH.out.ring.up (i + 1) (by omega)
      rw [← hx] at k0
      have HX := Lib.hid hx
      have hnq := neqP w hne k2 e0 (fun n => HH.out.ring.fz _ n (by omega)) (fun n => HH.out.ring.fz 0 n (Nat.zero_le _))
      have hil2 : i < (L.map (·.2)).length := by rw [List.length_map]; exact hil
      have HK : Hid ((L.map (·.2))[i]'hil2 = L[i].2) := Lib.hid (by simp)
      clear hx
      generalize hkk : L[i].2 = k at *
      have HK := Lib.hid HK.out
      clear hkk
      by_cases hb : k = but
      case pos =>
        have hbe := beq_eq hb
        go_wp2_with fail
        go_roundg (gk - 1)
        case measure => omega
        case rel => exact ⟨i + 1, rfl, by omega, by omega, Lib.hid (fun m hm hlt => by
          by_cases hmi : m = i
          · subst hmi; rw [HK.out, hb]
          · exact HI.out m hm (by omega)), rfl⟩
      case neg =>
        have hbe := beq_ne hb
        go_wp2_with fail
        go_ret2
        have e := oldK_at hil2 (fun m hm hlt => HI.out m hm hlt) (by rw [HK.out]; exact hb)
        rw [HK.out, ho.out] at e
        subst e
        exact ⟨rfl, rfl⟩
    case neg =>
      have hx : nd E L (i + 1) = E := nd_end (by omega)
      rw [hx]
      have hnq := eqlP w E
      go_wp2_with fail
      go_ret2
      have e := oldK_end (l := L.map (·.2)) (but := but) (fun m hm => HI.out m hm (by rw [List.length_map] at hm; omega))
      rw [ho.out] at e
      subst e
      exact ⟨rfl, rfl⟩
end Go.Proofs.Ytkpcobaklbfpcaa.Ca
