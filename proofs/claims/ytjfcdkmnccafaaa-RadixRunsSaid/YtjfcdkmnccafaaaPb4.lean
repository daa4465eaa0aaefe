/- find, common, next, mark, idle of a node. Conditions: the tree as it lies. -/
import Derived.Test.YtjfcdkmnccafaaaPb3
namespace Go.Proofs.Ytjfcdkmnccafaaa.Pb
open Go.ChangeShapes Go.WideShapes Go.ChangeAt Go.RowKit
/-- The byte by which c goes on behind b. -/
def nb (t : Tr) (b c : Nat) : Nat := (((t.tx c)[(t.tx b).length]?).map UInt8.toNat).getD 0
theorem nb_ext {t : Tr} {b c : Nat} {x : UInt8} (h : t.tx b ++ [x] <+: t.tx c) : nb t b c = x.toNat := by
  obtain ⟨r, hr⟩ := h
  unfold nb
  rw [← hr]
  simp
theorem nb_get {t : Tr} {b c : Nat} (h : (t.tx b).length < (t.tx c).length) : ((t.tx c)[(t.tx b).length]'h).toNat = nb t b c := by
  unfold nb
  rw [List.getElem?_eq_getElem h]; rfl
namespace Ok
variable {t : Tr} (h : Ok t)
include h
theorem klen {b c : Nat} (hb : b ∈ t.B) (hc : c ∈ t.ks b) : (t.tx b).length < (t.tx c).length := by
  obtain ⟨-, h1, h2⟩ := h.kin b hb c hc
  rcases Nat.lt_or_eq_of_le h1.length_le with h3 | h3
  · exact h3
  · exact absurd (h1.eq_of_length h3) h2
theorem nbs {b : Nat} (hb : b ∈ t.B) : ((t.ks b).map (nb t b)).Pairwise (· < ·) := by
  rw [List.pairwise_map]
  refine (h.srt b hb).imp_of_mem ?_
  intro c d hc hd hcd
  obtain ⟨x, hx⟩ := h.kext hb hc
  obtain ⟨y, hy⟩ := h.kext hb hd
  rw [nb_ext hx, nb_ext hy]
  exact hcd x y hx hy
end Ok
set_option maxHeartbeats 4000000 in
set_option maxRecDepth 100000 in
theorem find_calls {w : World} {t : Tr} {vs : Nat → Value} (h : TrAt w t vs) (ho : Ok t) {b : Nat} (hb : b ∈ t.B) (x k : Nat) (th : Bool) (hF : Fnd ((t.ks b).map (nb t b)) x k th) (hl : (t.ks b).length ≤ 1000000) :
    Calls Try.prog 32 #[.pointer (some ⟨b, 0, none⟩), .int .u8 x] w fun e w' => e = .returned (.tuple #[.int .i64 k, .bool th]) ∧ Below w.heap.size w w' := by
  obtain ⟨a, cp, hv, hc1, hc2, hI⟩ := (h.row b hb).slice
  have hN := h.nod b hb
  have hbb := bbox (w := w) (.cells #[.pointer (some ⟨b, 0, none⟩)] 46)
  have b3 : (w.alloc (.cells #[.pointer (some ⟨b, 0, none⟩)] 46)).cell? ⟨b, 3, none⟩ = some (vs b) := (hbb.cell (p := ⟨b, 3, none⟩) hN.lt).trans hN.c3
  rw [hv] at b3
  have HB := Lib.hid (bsearch_calls (w.alloc (.cells #[.pointer (some ⟨b, 0, none⟩)] 46)) a cp (t.ks b) ((t.ks b).map (nb t b)) b w.heap.size x k th (bs (t.tx b)) hl (by simp) hF (World.cell?_alloc_new w _ _ 0) ((hbb.cell (p := ⟨b, 0, none⟩) hN.lt).trans hN.c0)
    (fun i hi => by
      obtain ⟨g, e, hg, hc⟩ := hI i hi
      exact ⟨g, e, Nat.lt_of_lt_of_le hg hbb.size, (hbb.cell (p := ⟨g, i, none⟩) hg).trans hc⟩)
    (fun i hi => by
      have hm := List.getElem_mem hi
      have hL := ho.klen hb hm
      have hM := h.nod _ (ho.kin b hb _ hm).1
      refine ⟨bs (t.tx (t.ks b)[i]), by rw [bs_size, bs_size]; exact hL, (hbb.cell (p := ⟨(t.ks b)[i], 0, none⟩) hM.lt).trans hM.c0, ?_⟩
      rw [bs_get]
      simp only [bs_size]
      rw [nb_get hL]
      simp))
  have HBB := Lib.hid hbb
  clear hbb hI hc1 hc2 hv hN hF h ho
  generalize (t.ks b).length = n at *
  go_enter Try.func32, Try.ntmps32
  go_wp2_with fail
  refine HB.out.mono ?_; rintro en w2 ⟨rfl, hb2⟩
  go_wp2_with fail
  go_ret2
  exact ⟨rfl, bstep HBB.out hb2⟩
theorem dlen (K : ByteArray) : K.data.toList.length = K.size := Array.length_toList
theorem dget (K : ByteArray) (i : Nat) (h : i < K.data.toList.length) : K.data.toList[i] = K[i]'(by rw [dlen] at h; exact h) := by
  show _ = K.data[i]'_
  rw [Array.getElem_toList]
theorem lcp_get : ∀ (a b : T) (i : Nat) (ha : i < a.length) (hb : i < b.length), i ≤ (lcp a b).length → (a[i] = b[i] ↔ i < (lcp a b).length)
  | [], _, i, ha, _, _ => absurd ha (Nat.not_lt_zero _)
  | _ :: _, [], i, _, hb, _ => absurd hb (Nat.not_lt_zero _)
  | x :: a, y :: b, 0, _, _, _ => by
    show x = y ↔ _
    unfold lcp
    by_cases h : x = y
    · rw [if_pos h]; exact ⟨fun _ => by simp, fun _ => h⟩
    · rw [if_neg h]; exact ⟨fun e => absurd e h, fun e => absurd e (by simp)⟩
  | x :: a, y :: b, i + 1, ha, hb, hi => by
    unfold lcp at hi ⊢
    by_cases h : x = y
    · rw [if_pos h] at hi ⊢
      have := lcp_get a b i (Nat.lt_of_succ_lt_succ ha) (Nat.lt_of_succ_lt_succ hb) (Nat.le_of_succ_le_succ hi)
      show a[i]'(Nat.lt_of_succ_lt_succ ha) = b[i]'(Nat.lt_of_succ_lt_succ hb) ↔ _
      rw [this]
      exact Nat.succ_lt_succ_iff.symm
    · rw [if_neg h] at hi
      exact absurd hi (by simp)
set_option maxHeartbeats 4000000 in
set_option maxRecDepth 100000 in
theorem common_calls (w : World) (b c : Nat) (p q : T) (K : ByteArray) (b0 : w.cell? ⟨b, 0, none⟩ = some (.string (bs p))) (c0 : w.cell? ⟨c, 0, none⟩ = some (.string (bs q))) (h1 : p <+: q) (h2 : p <+: K.data.toList) (hq : q.length ≤ 1000000) (hK : K.size ≤ 1000000) :
    Calls Try.prog 34 #[.pointer (some ⟨b, 0, none⟩), .pointer (some ⟨c, 0, none⟩), .string K] w fun e w' => e = .returned (.int .i64 (lcp q K.data.toList).length) ∧ Below w.heap.size w w' := by
  have hpl := (lcp_max h1 h2).length_le
  have hl1 := (lcp_left q K.data.toList).length_le
  have hl2 : (lcp q K.data.toList).length ≤ K.size := by
    have := (lcp_right q K.data.toList).length_le
    rw [dlen] at this
    exact this
  have HG : Hid (∀ i (h1 : i < (bs q).size) (h2 : i < K.size), i ≤ (lcp q K.data.toList).length → (((bs q)[i]'h1 = K[i]'h2) ↔ i < (lcp q K.data.toList).length)) := Lib.hid (fun i g1 g2 hi => by
    rw [bs_get]
    rw [bs_size] at g1
    have := lcp_get q K.data.toList i g1 (by rw [dlen]; exact g2) hi
    rw [← this, dget])
  have hqs : (bs q).size = q.length := bs_size q
  have hps : (bs p).size = p.length := bs_size p
  generalize bs q = Q at *
  generalize bs p = P at *
  generalize (lcp q K.data.toList).length = n at *
  have hpq := h1.length_le
  clear h1 h2
  have hlt2 : n ≤ Q.size ∧ n ≤ K.size := ⟨by omega, by omega⟩
  obtain ⟨hnQ, hnK⟩ := hlt2
  have hPn : P.size ≤ n := by omega
  have hQm : Q.size ≤ 1000000 := by omega
  clear hps hqs hpl hl1 hl2 hpq hq
  go_enter Try.func34, Try.ntmps34
  go_wp2_with fail
  rcases Nat.lt_or_ge K.size Q.size with hm | hm
  · have hmc : ¬ (Q.size : Int) ≤ (K.size : Int) := by omega
    go_quiet (fail)
    go_wp2_with fail
    go_loopg [7] (n + 1) (fun g vi wr => ∃ i m : Nat, vi = .int .i64 i ∧ i ≤ n ∧ n - i ≤ g ∧ wr = w.drewN m)
    case atStart => exact ⟨P.size, _, rfl, by omega, by omega, rfl⟩
    case round =>
      obtain ⟨i, m, rfl, hi, hg, rfl⟩ := hrel
      by_cases hiE : i < K.size
      · have hic : (i : Int) < (K.size : Int) := by omega
        have hik : (i : Int) < (Q.size : Int) := by omega
        have hG := HG.out i (by omega) hiE hi
        by_cases hin : i < n
        · have hb : (((Q[i]'(by omega)).toNat : Int) == ((K[i]'(by omega)).toNat : Int)) = true := by rw [hG.2 hin]; exact beq_self_eq_true _
          go_wp2_with fail
          go_quiet (fail)
          go_wp2_with fail
          go_roundg (gk - 1)
          case measure => omega
          case rel => exact ⟨i + 1, _, by go_num, by omega, by omega, rfl⟩
        · have hb : (((Q[i]'(by omega)).toNat : Int) == ((K[i]'(by omega)).toNat : Int)) = false := by
            rw [beq_eq_false_iff_ne]
            intro e
            exact hin (hG.1 (UInt8.toNat_inj.1 (Int.ofNat.inj e)))
          go_wp2_with fail
          go_quiet (fail)
          go_wp2_with fail
          go_ret
          obtain rfl : i = n := by omega
          exact ⟨rfl, bstep (bdrew w m) (bdrew (w.drewN m) _)⟩
      · have hic : ¬ (i : Int) < (K.size : Int) := by omega
        have hid : decide ((i : Int) < (K.size : Int)) = false := decide_eq_false hic
        go_wp2_with fail
        go_quiet (fail)
        go_wp2_with fail
        go_ret
        obtain rfl : i = n := by omega
        exact ⟨rfl, bstep (bdrew w m) (bdrew (w.drewN m) _)⟩
  · have hmc : (Q.size : Int) ≤ (K.size : Int) := by omega
    go_quiet (fail)
    go_wp2_with fail
    go_loopg [7] (n + 1) (fun g vi wr => ∃ i m : Nat, vi = .int .i64 i ∧ i ≤ n ∧ n - i ≤ g ∧ wr = w.drewN m)
    case atStart => exact ⟨P.size, _, rfl, by omega, by omega, rfl⟩
    case round =>
      obtain ⟨i, m, rfl, hi, hg, rfl⟩ := hrel
      by_cases hiE : i < Q.size
      · have hic : (i : Int) < (Q.size : Int) := by omega
        have hik : (i : Int) < (K.size : Int) := by omega
        have hG := HG.out i hiE (by omega) hi
        by_cases hin : i < n
        · have hb : (((Q[i]'hiE).toNat : Int) == ((K[i]'(by omega)).toNat : Int)) = true := by rw [hG.2 hin]; exact beq_self_eq_true _
          go_wp2_with fail
          go_quiet (fail)
          go_wp2_with fail
          go_roundg (gk - 1)
          case measure => omega
          case rel => exact ⟨i + 1, _, by go_num, by omega, by omega, rfl⟩
        · have hb : (((Q[i]'hiE).toNat : Int) == ((K[i]'(by omega)).toNat : Int)) = false := by
            rw [beq_eq_false_iff_ne]
            intro e
            exact hin (hG.1 (UInt8.toNat_inj.1 (Int.ofNat.inj e)))
          go_wp2_with fail
          go_quiet (fail)
          go_wp2_with fail
          go_ret
          obtain rfl : i = n := by omega
          exact ⟨rfl, bstep (bdrew w m) (bdrew (w.drewN m) _)⟩
      · have hic : ¬ (i : Int) < (Q.size : Int) := by omega
        have hid : decide ((i : Int) < (Q.size : Int)) = false := decide_eq_false hic
        go_wp2_with fail
        go_quiet (fail)
        go_wp2_with fail
        go_ret
        obtain rfl : i = n := by omega
        exact ⟨rfl, bstep (bdrew w m) (bdrew (w.drewN m) _)⟩
/-- A node that is none of those below, or is one. -/
def ptrO : Option Nat → Value
  | none => .pointer none
  | some c => .pointer (some ⟨c, 0, none⟩)
/-- The next node on the way to a key. -/
def Nx (t : Tr) (b : Nat) (K : T) (o : Option Nat) : Prop :=
  (o = none ∧ (K.length ≤ (t.tx b).length ∨ ∀ c ∈ t.ks b, ¬ t.tx c <+: K ∧ ¬ K <+: t.tx c)) ∨ ((t.tx b).length < K.length ∧ ∃ c ∈ t.ks b, o = some c ∧ (t.tx c <+: K ∨ K <+: t.tx c))
end Go.Proofs.Ytjfcdkmnccafaaa.Pb
