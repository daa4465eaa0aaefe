/- Package recent: Clear, Oldest. Conditions: an object as it lies; bounds. -/
import Derived.Test.YtljobmohmbeafaaCa6
import Derived.LaidEqlPtr
namespace Go.Proofs.Ytljobmohmbeafaa.Ca
open Go.ChangeShapes Go.WideShapes Go.ChangeAt Go.RowKit Go.Maps Go.WideMaps
theorem cells_of {w : World} {a j : Nat} {v : Value} (h : w.cell? ⟨a, j, none⟩ = some v) : ∃ c t f, w.heap[a]? = some (.cells c t f) := by
  unfold World.cell? at h
  split at h
  · rename_i e; exact ⟨_, _, _, e⟩
  · cases h
/-- Two pointers to blocks that differ, none of them frozen, differ. -/
theorem run_sameAddr_apart {P : Program} (w : World) {a b j i : Nat} {u v : Value} (hne : a ≠ b) (ha : w.cell? ⟨a, j, none⟩ = some u) (hb : w.cell? ⟨b, i, none⟩ = some v) (fa : ∀ n, w.frozen? ⟨a, n, none⟩ = false) (fb : ∀ n, w.frozen? ⟨b, n, none⟩ = false) :
    (sameAddr ⟨a, 0, none⟩ ⟨b, 0, none⟩).run P w = .ok false w := by
  obtain ⟨ca, ta, fra, ea⟩ := cells_of ha
  obtain ⟨cb, tb, frb, eb⟩ := cells_of hb
  simp [sameAddr, hne, fa, fb, ea, eb, noView, viewAt, World.shape?, mayBeOne, stringish]
theorem iLink : ∃ j, Try.prog.info? 43 = some j ∧ j.size ≠ 0 := by
  have h : (Try.prog.info? 43).any (fun j => j.size != 0) = true := by kernel_rfl
  cases e : Try.prog.info? 43 with
  | none => rw [e] at h; cases h
  | some j => rw [e] at h; exact ⟨j, rfl, by simpa using h⟩
theorem neqP (w : World) {a b j i : Nat} {u v : Value} (hne : a ≠ b) (ha : w.cell? ⟨a, j, none⟩ = some u) (hb : w.cell? ⟨b, i, none⟩ = some v) (fa : ∀ n, w.frozen? ⟨a, n, none⟩ = false) (fb : ∀ n, w.frozen? ⟨b, n, none⟩ = false) :
    (binOp .neq 41 (.pointer (some ⟨a, 0, none⟩)) (.pointer (some ⟨b, 0, none⟩))).run Try.prog w = .ok (.bool true) w := by
  obtain ⟨q, hq, hz⟩ := iLink
  have hu := Try.underlying41
  have h : ∀ d : Nat, (Op.equalIn (d + 1) 41 (.pointer (some ⟨a, 0, none⟩)) (.pointer (some ⟨b, 0, none⟩))).run Try.prog w = .ok false w := fun d => by
    simp [Op.equalIn, run_underlying hu, sizeOf, typeInfo, hq, hz, run_sameAddr_apart w hne ha hb fa fb]
  simp only [binOp]
  simp [Op.equal, Op.maxDepth, h 9999]
theorem eqlP (w : World) (a : Nat) : (binOp .neq 41 (.pointer (some ⟨a, 0, none⟩)) (.pointer (some ⟨a, 0, none⟩))).run Try.prog w = .ok (.bool false) w := by
  obtain ⟨q, hq, -⟩ := iLink
  have hu := Try.underlying41
  have h : ∀ d : Nat, (Op.equalIn (d + 1) 41 (.pointer (some ⟨a, 0, none⟩)) (.pointer (some ⟨a, 0, none⟩))).run Try.prog w = .ok true w := fun d => by
    simp [Op.equalIn, run_underlying hu, sizeOf, typeInfo, hq, run_sameAddr_same]
  simp only [binOp]
  simp [Op.equal, Op.maxDepth, h 9999]
set_option maxHeartbeats 4000000 in
set_option maxRecDepth 100000 in
theorem clear_calls {w : World} {T M E : Nat} {L : Lk} {D : DataW Unit} (h : RAt w T M E L D) :
    Calls Try.prog 10 #[.pointer (some ⟨T, 0, none⟩)] w fun e w' => e = .returned (.tuple #[]) ∧ ∃ M' E', Mv T M E L w M' E' [] (.map []) w' := by
  have HN := Lib.hid (new_calls w)
  have HH := Lib.hid h
  clear h
  go_enter Try.func10, Try.ntmps10
  go_wp2_with fail
  refine HN.out.mono ?_; rintro en w1 ⟨T2, M2, E2, rfl, h2, hb, hO⟩
  have c0 := h2.c0
  have c1 := h2.c1
  have hh := HH.out.below hb
  have d0 := hh.c0
  have d1 := hh.c1
  have f0 := hh.ft 0
  have f1 := hh.ft 1
  have H2 := Lib.hid h2
  have H1 := Lib.hid hh
  have HB := Lib.hid hb
  have HO := Lib.hid hO
  clear h2 hh hb hO HN
  go_wp2_with fail
  go_end0
  have hTl := HH.out.head.lt
  have hs := set2_of w1 (a := ⟨T, 0, none⟩) (b := ⟨T, 1, none⟩) (u := .map (some M2)) (v := .pointer (some ⟨E2, 0, none⟩)) (addr_ne (.inr (by decide))) d0 d1
  generalize (w1.setCell ⟨T, 0, none⟩ (.map (some M2))).setCell ⟨T, 1, none⟩ (.pointer (some ⟨E2, 0, none⟩)) = w2 at *
  have hE2 := HO.out E2 (.inr (.inr ⟨0, Nat.zero_le _, rfl⟩))
  have hM2 := HO.out M2 (.inr (.inl rfl))
  refine ⟨rfl, M2, E2, ⟨hs.ca, hs.cb, fun j => (hs.fz _).trans (H1.out.ft j), map_same H2.out.map (hs.fr.block M2 H2.out.map.lt (fun e => by rcases e with e | e <;> (simp at e; omega))), KI.new, H2.out.ring.keep fun i hi => ?_, List.nodup_nil, fun i hi e => ?_⟩, ?_, ?_⟩
  · obtain rfl : i = 0 := by simpa using hi
    exact hs.fr.block _ (H2.out.ring.lt (Nat.zero_le _)) (fun e => by rw [nd_zero] at e; rcases e with e | e <;> (simp at e; omega))
  · obtain rfl : i = 0 := by simpa using hi
    rw [nd_zero] at e; omega
  · exact (Fr.of_below HB.out).trans (hs.fr.mono fun i e => by rcases e with e | e <;> exact .inl e)
  · rintro x (e | e | ⟨i, hi, e⟩)
    · exact .inl (.inl e)
    · exact .inr (by omega)
    · obtain rfl : i = 0 := by simpa using hi
      rw [nd_zero] at e
      exact .inr (by omega)
theorem beq_eq {x y : ByteArray} (h : x = y) : (x.toList == y.toList) = true := by rw [h]; exact beq_self_eq_true _
theorem ba_inj {x y : ByteArray} (h : x.toList = y.toList) : x = y := by
  rw [ByteArray.toList_eq, ByteArray.toList_eq] at h
  obtain ⟨x⟩ := x
  obtain ⟨y⟩ := y
  exact congrArg ByteArray.mk (Array.toList_inj.1 h)
theorem beq_ne {x y : ByteArray} (h : x ≠ y) : (x.toList == y.toList) = false := by
  rw [beq_eq_false_iff_ne]; exact fun e => h (ba_inj e)
theorem oldK_at {l : List ByteArray} {but : ByteArray} {j : Nat} (hj : j < l.length) (h : ∀ m (hm : m < l.length), m < j → l[m] = but) (hn : l[j] ≠ but) : oldK but l = some l[j] := by
  unfold oldK
  rw [List.find?_eq_some_iff_getElem]
  refine ⟨by simpa using hn, j, hj, rfl, fun m hm => ?_⟩
  simp [h m (by omega) hm]
theorem oldK_end {l : List ByteArray} {but : ByteArray} (h : ∀ m (hm : m < l.length), l[m] = but) : oldK but l = none := by
  unfold oldK
  rw [List.find?_eq_none]
  intro x hx
  obtain ⟨i, hi, rfl⟩ := List.mem_iff_getElem.1 hx
  simp [h i hi]
set_option maxHeartbeats 4000000 in
set_option maxRecDepth 100000 in
theorem oldest_calls {w : World} {T M E : Nat} {L : Lk} {D : DataW Unit} (h : RAt w T M E L D) (but : ByteArray) (o : Option ByteArray) (ho : Hid (oldK but (L.map (·.2)) = o)) :
    Calls Try.prog 13 #[.pointer (some ⟨T, 0, none⟩), .string but] w fun e w' => e = .returned (.tuple #[.string (o.getD ⟨#[]⟩), .bool o.isSome]) ∧ w = w' := by
  have d1 := h.c1
  have HH := Lib.hid h
  have e0 := h.ring.up 0 (Nat.zero_le _)
  rw [nd_zero] at e0
  clear h
  go_enter Try.func13, Try.ntmps13
  go_wp2_with fail
  go_loopg [6] (L.length + 1) (fun g vi wr => ∃ i : Nat, vi = .pointer (some ⟨nd E L (i + 1), 0, none⟩) ∧ i ≤ L.length ∧ L.length - i ≤ g ∧ Hid (∀ m (hm : m < (L.map (·.2)).length), m < i → (L.map (·.2))[m] = but) ∧ w = wr)
  case atStart => exact ⟨0, rfl, Nat.zero_le _, by omega, Lib.hid (fun _ _ h => absurd h (Nat.not_lt_zero _)), rfl⟩
  case round =>
    obtain ⟨i, rfl, hi, hg, HI, rfl⟩ := hrel
    by_cases hil : i < L.length
    case pos =>
      have hx := nd_succ (E := E) hil
      have hne : nd E L (i + 1) ≠ E := fun e => by have := HH.out.ring.ne (i + 1) 0 (by omega) (by omega) e; omega
      have k0 := HH.out.ring.key i hil
      have k2 := HH.out.ring.up (i + 1) (by omega)
      rw [← hx] at k0
      have HX := Lib.hid hx
      have hnq := neqP w hne k2 e0 (fun n => HH.out.ring.fz _ n (by omega)) (fun n => HH.out.ring.fz 0 n (Nat.zero_le _))
      have hil2 : i < (L.map (·.2)).length := by rw [List.length_map]; exact hil
      have HK : Hid ((L.map (·.2))[i]'hil2 = L[i].2) := Lib.hid (by simp)
      clear hx
      generalize hkk : L[i].2 = k at *
      have HK := Lib.hid HK.out
      clear hkk
      by_cases hb : k = but
      case pos =>
        have hbe := beq_eq hb
        go_wp2_with fail
        go_roundg (gk - 1)
        case measure => omega
        case rel => exact ⟨i + 1, rfl, by omega, by omega, Lib.hid (fun m hm hlt => by
          by_cases hmi : m = i
          · subst hmi; rw [HK.out, hb]
          · exact HI.out m hm (by omega)), rfl⟩
      case neg =>
        have hbe := beq_ne hb
        go_wp2_with fail
        go_ret2
        have e := oldK_at hil2 (fun m hm hlt => HI.out m hm hlt) (by rw [HK.out]; exact hb)
        rw [HK.out, ho.out] at e
        subst e
        exact ⟨rfl, rfl⟩
    case neg =>
      have hx : nd E L (i + 1) = E := nd_end (by omega)
      rw [hx]
      have hnq := eqlP w E
      go_wp2_with fail
      go_ret2
      have e := oldK_end (l := L.map (·.2)) (but := but) (fun m hm => HI.out m hm (by rw [List.length_map] at hm; omega))
      rw [ho.out] at e
      subst e
      exact ⟨rfl, rfl⟩
end Go.Proofs.Ytljobmohmbeafaa.Ca
