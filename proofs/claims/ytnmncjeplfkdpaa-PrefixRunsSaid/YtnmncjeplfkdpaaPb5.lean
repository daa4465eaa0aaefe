/- next, idle, mark of a node. Conditions: the tree as it lies. -/
import Derived.Test.YtnmncjeplfkdpaaPbA
namespace Go.Proofs.Ytnmncjeplfkdpaa.Pb
open Go.ChangeShapes Go.WideShapes Go.ChangeAt Go.RowKit
/-- As far as both go, behind what both have: alike just where one is a beginning of the other. -/
theorem cut_pre {p q k : T} (h1 : p <+: q) (h2 : p <+: k) : ((q.take (min q.length k.length)).drop p.length = (k.take (min q.length k.length)).drop p.length) ↔ (q <+: k ∨ k <+: q) := by
  obtain ⟨r, rfl⟩ := h1
  obtain ⟨s, rfl⟩ := h2
  have e : ∀ u : T, ∀ n, p.length ≤ n → ((p ++ u).take n).drop p.length = u.take (n - p.length) := fun u n hn => by
    rw [List.take_append, List.take_of_length_le hn, List.drop_left]
  rw [e r _ (by simp), e s _ (by simp)]
  have hm : min (p ++ r).length (p ++ s).length - p.length = min r.length s.length := by simp
  rw [hm, List.prefix_append_right_inj, List.prefix_append_right_inj]
  rcases Nat.le_total r.length s.length with h | h
  · rw [Nat.min_eq_left h, List.take_length]
    constructor
    · intro e; exact .inl (by rw [e]; exact List.take_prefix ..)
    · rintro (hp | hp)
      · exact List.prefix_iff_eq_take.1 hp
      · have := hp.eq_of_length (Nat.le_antisymm hp.length_le h)
        rw [this, List.take_length]
  · rw [Nat.min_eq_right h, List.take_length]
    constructor
    · intro e; exact .inr (by rw [← e]; exact List.take_prefix ..)
    · rintro (hp | hp)
      · have := hp.eq_of_length (Nat.le_antisymm hp.length_le h)
        rw [← this, List.take_length]
      · exact (List.prefix_iff_eq_take.1 hp).symm
/-- What find says of where a key goes on. -/
theorem Fnd.kid {t : Tr} (ho : Ok t) {b k : Nat} (hb : b ∈ t.B) {y : UInt8} {th : Bool} (hF : Fnd ((t.ks b).map (nb t b)) y.toNat k th) :
    (th = false ∧ ∀ c ∈ t.ks b, ¬ t.tx b ++ [y] <+: t.tx c) ∨ (th = true ∧ ∃ h : k < (t.ks b).length, t.tx b ++ [y] <+: t.tx ((t.ks b)[k]'h)) := by
  have hle := hF.le
  rw [List.length_map] at hle
  have ext : ∀ c ∈ t.ks b, ∀ z, t.tx b ++ [z] <+: t.tx c → nb t b c = y.toNat → z = y := fun c _ z hz e => UInt8.toNat_inj.1 (by rw [← nb_ext hz]; exact e)
  cases th with
  | true =>
    refine .inr ⟨rfl, ?_⟩
    have hk : k < (t.ks b).length := by
      rcases Nat.lt_or_eq_of_le hle with h | h
      · exact h
      · have := hF.no (by rw [List.length_map]; omega)
        cases this
    refine ⟨hk, ?_⟩
    have h1 := (hF.at_ (by rw [List.length_map]; exact hk)).1 rfl
    rw [List.getElem_map] at h1
    obtain ⟨z, hz⟩ := ho.kext hb (List.getElem_mem hk)
    have := ext _ (List.getElem_mem hk) z hz h1
    subst this; exact hz
  | false =>
    refine .inl ⟨rfl, fun c hc hy => ?_⟩
    obtain ⟨i, hi, rfl⟩ := List.mem_iff_getElem.1 hc
    have e := nb_ext hy
    have hml : ((t.ks b).map (nb t b)).length = (t.ks b).length := List.length_map ..
    rcases Nat.lt_trichotomy i k with h | h | h
    · have := hF.lo i (by omega) h
      rw [List.getElem_map] at this
      omega
    · subst h
      have := (hF.at_ (by omega)).2 (by rw [List.getElem_map]; exact e)
      cases this
    · have h1 := hF.hi k (by omega) (Nat.le_refl _)
      have h2 := List.pairwise_iff_getElem.1 (ho.nbs hb) k i (by omega) (by omega) h
      rw [List.getElem_map] at h1 h2
      rw [List.getElem_map] at h2
      omega
set_option maxHeartbeats 4000000 in
set_option maxRecDepth 100000 in
theorem next_calls {w : World} {t : Tr} {vs : Nat → Value} (h : TrAt w t vs) (ho : Ok t) {b : Nat} (hb : b ∈ t.B) (key : ByteArray) (hp : t.tx b <+: key.data.toList ∨ key.size ≤ (t.tx b).length) (hl : (t.ks b).length ≤ 1000000) (_hK : key.size ≤ 140737488351232) (hT : ∀ c ∈ t.B, (t.tx c).length ≤ 140737488351232) :
    Calls Try.prog 55 #[.pointer (some ⟨b, 0, none⟩), .string key] w fun e w' => ∃ o, e = .returned (ptrO o) ∧ Nx t b key.data.toList o ∧ Below w.heap.size w w' := by
  have hN := h.nod b hb
  have b0 := hN.c0
  have b3 := hN.c3
  obtain ⟨a, cp, hv, hc1, hc2, hI⟩ := (h.row b hb).slice
  rw [hv] at b3
  by_cases hlen : key.size ≤ (t.tx b).length
  · have hlc : (key.size : Int) ≤ ((bs (t.tx b)).size : Int) := by rw [bs_size]; omega
    have HX : Hid (Nx t b key.data.toList none) := Lib.hid (.inl ⟨rfl, .inl (by rw [dlen]; exact hlen)⟩)
    clear hp hl hT hI hc1 hc2 hv hN hlen h ho
    generalize bs (t.tx b) = P at *
    go_enter Try.func55, Try.ntmps55
    go_wp2_with fail
    go_ret
    exact ⟨none, rfl, HX.out, Below.refl _ _⟩
  · have hpk : t.tx b <+: key.data.toList := by
      rcases hp with hp | hp
      · exact hp
      · exact absurd hp hlen
    have hlt : (t.tx b).length < key.data.toList.length := by rw [dlen]; omega
    obtain ⟨y, hy⟩ := ext_of hpk (fun e => by rw [e] at hlt; exact absurd hlt (Nat.lt_irrefl _))
    obtain ⟨k, th, hF⟩ := fnd_ex _ (ho.nbs hb) y.toNat
    have hps : (bs (t.tx b)).size = (t.tx b).length := bs_size _
    have hxk : (bs (t.tx b)).size < key.size := by omega
    have hyk : (key[(bs (t.tx b)).size]'hxk) = y := by
      rw [← dget key _ (by rw [dlen]; exact hxk)]
      obtain ⟨r, hr⟩ := hy
      have : key.data.toList[(bs (t.tx b)).size]? = some y := by rw [← hr, hps]; simp
      rw [List.getElem?_eq_getElem (by rw [dlen]; exact hxk)] at this
      exact Option.some.inj this
    have HFc := Lib.hid (fun k0 th0 (hF : Fnd ((t.ks b).map (nb t b)) y.toNat k0 th0) => find_calls h ho hb y.toNat k0 th0 hF hl)
    have HF0 := Lib.hid (HFc.out k th hF)
    rw [← hyk] at HF0
    have hnk : ¬ (key.size : Int) ≤ ((bs (t.tx b)).size : Int) := by omega
    have hkc : ((bs (t.tx b)).size : Int) < (key.size : Int) := by omega
    rcases hF.kid ho hb with ⟨rfl, hno⟩ | ⟨rfl, hkl, hky⟩
    · have HX : Hid (Nx t b key.data.toList none) := Lib.hid (.inl ⟨rfl, .inr fun c hc => by
        obtain ⟨z, hz⟩ := ho.kext hb hc
        refine ⟨fun hh => ?_, fun hh => hno c hc (hy.trans hh)⟩
        have := ext_one (hz.trans hh) hy
        subst this
        exact hno c hc hz⟩)
      clear hp hl hT hI hc1 hc2 hv hN hlen h ho hpk hlt hy hF hps hyk HFc hno
      generalize bs (t.tx b) = P at *
      go_enter Try.func55, Try.ntmps55
      go_wp2_with fail
      refine HF0.out.mono ?_; rintro en w2 ⟨rfl, hb2⟩
      have HB2 := Lib.hid hb2
      clear hb2 HF0
      go_wp2_with fail
      go_ret
      exact ⟨none, rfl, HX.out, HB2.out⟩
    · have hm := List.getElem_mem hkl
      have hkB := (ho.kin b hb _ hm).1
      have hcl := ho.klen hb hm
      have hcb := (ho.kin b hb _ hm).2.1
      have hNc := h.nod _ hkB
      obtain ⟨g, rfl, hgl, hrow⟩ := hI k hkl
      have hcut := cut_pre hcb hpk
      have HX : Hid (∀ B : Bool, (B = true ↔ (t.tx (t.ks b)[k] <+: key.data.toList ∨ key.data.toList <+: t.tx (t.ks b)[k])) → ∃ o, ptrO o = (if B then ptrO (some (t.ks b)[k]) else .pointer none) ∧ Nx t b key.data.toList o) := Lib.hid (fun B hB => by
        cases B with
        | true => exact ⟨some (t.ks b)[k], rfl, .inr ⟨hlt, _, hm, rfl, hB.1 rfl⟩⟩
        | false =>
          refine ⟨none, rfl, .inl ⟨rfl, .inr fun c hc => ?_⟩⟩
          have key2 : ∀ z, t.tx b ++ [z] <+: t.tx c → z = y → c = (t.ks b)[k] := fun z hz e => ho.kone hb hc hm (by rw [← e]; exact hz) hky
          obtain ⟨z, hz⟩ := ho.kext hb hc
          refine ⟨fun hh => ?_, fun hh => ?_⟩
          · have e := key2 z hz (ext_one (hz.trans hh) hy)
            have := hB.2 (.inl (by rw [← e]; exact hh))
            cases this
          · have e := key2 z hz (ext_one hz (hy.trans hh))
            have := hB.2 (.inr (by rw [← e]; exact hh))
            cases this)
      have c0 := hNc.c0
      have hsc : (bs (t.tx (t.ks b)[k])).size = (t.tx (t.ks b)[k]).length := bs_size _
      have hcut2 : ∀ e, e = min (bs (t.tx (t.ks b)[k])).size key.size → (((((bs (t.tx (t.ks b)[k])).extract (bs (t.tx b)).size e).toList == (key.extract (bs (t.tx b)).size e).toList) = true) ↔ (t.tx (t.ks b)[k] <+: key.data.toList ∨ key.data.toList <+: t.tx (t.ks b)[k])) := fun e he => by
        rw [beq_iff_eq, ByteArray.toList_eq, ByteArray.toList_eq, Lib.extract_data, Lib.extract_data, data_bs, hps, he, hsc, ← hcut, dlen, List.drop_take, List.drop_take]
      have HC2 := Lib.hid hcut2
      have hxc : (bs (t.tx b)).size < (bs (t.tx (t.ks b)[k])).size := by omega
      simp only [ptr] at hrow
      have HN := Lib.hid (fun w2 (hb2 : Below w.heap.size w w2) => (⟨(hb2.cell (p := ⟨b, 3, none⟩) hN.lt).trans b3, (hb2.cell (p := ⟨g, k, none⟩) hgl).trans hrow, (hb2.cell (p := ⟨(t.ks b)[k], 0, none⟩) hNc.lt).trans c0⟩ : w2.cell? ⟨b, 3, none⟩ = some (.slice (some ⟨g, 0, none⟩) (t.ks b).length cp) ∧ w2.cell? ⟨g, k, none⟩ = some (.pointer (some ⟨(t.ks b)[k], 0, none⟩)) ∧ w2.cell? ⟨(t.ks b)[k], 0, none⟩ = some (.string (bs (t.tx (t.ks b)[k])))))
      have hQ6 : (bs (t.tx (t.ks b)[k])).size ≤ 140737488351232 := by rw [hsc]; exact hT _ hkB
      clear hp hl hT hI hc1 hc2 hv hN hlen h ho hpk hlt hy hF hps hyk HFc hky hm hkB hcl hcb hNc hgl hrow hcut c0 hsc hcut2 b3
      generalize (t.ks b)[k] = c at *
      generalize bs (t.tx b) = P at *
      generalize bs (t.tx c) = Q at *
      generalize (t.ks b).length = nk at *
      have hkc2 : (k : Int) < (nk : Int) := by omega
      go_enter Try.func55, Try.ntmps55
      go_wp2_with fail
      refine HF0.out.mono ?_; rintro en w2 ⟨rfl, hb2⟩
      have HB2 := Lib.hid hb2
      obtain ⟨d3, dr, dc⟩ := HN.out w2 hb2
      clear hb2 HF0 b0 HN
      have hP1 : (P.size : Int) ≤ (Q.size : Int) := by omega
      have hP2 : (P.size : Int) ≤ (key.size : Int) := by omega
      rcases Nat.lt_or_ge key.size Q.size with hm | hm
      · have hmc : ¬ (Q.size : Int) ≤ (key.size : Int) := by omega
        have hmc2 : (key.size : Int) ≤ (Q.size : Int) := by omega
        have hD := HC2.out key.size (by omega)
        cases hDe : ((Q.extract P.size key.size).toList == (key.extract P.size key.size).toList)
        · rw [hDe] at hD
          obtain ⟨o, ho1, ho2⟩ := HX.out _ hD
          have HO := Lib.hid ho1
          clear hD ho1
          go_wp2_with fail
          go_quiet (fail)
          go_wp2_with fail
          go_ret
          exact ⟨o, by rw [HO.out]; rfl, ho2, bstep HB2.out (bdrew _ _)⟩
        · rw [hDe] at hD
          obtain ⟨o, ho1, ho2⟩ := HX.out _ hD
          have HO := Lib.hid ho1
          clear hD ho1
          go_wp2_with fail
          go_quiet (fail)
          go_wp2_with fail
          go_ret
          exact ⟨o, by rw [HO.out]; rfl, ho2, bstep HB2.out (bdrew _ _)⟩
      · have hmc : (Q.size : Int) ≤ (key.size : Int) := by omega
        have hD := HC2.out Q.size (by omega)
        cases hDe : ((Q.extract P.size Q.size).toList == (key.extract P.size Q.size).toList)
        · rw [hDe] at hD
          obtain ⟨o, ho1, ho2⟩ := HX.out _ hD
          have HO := Lib.hid ho1
          clear hD ho1
          go_wp2_with fail
          go_quiet (fail)
          go_wp2_with fail
          go_ret
          exact ⟨o, by rw [HO.out]; rfl, ho2, bstep HB2.out (bdrew _ _)⟩
        · rw [hDe] at hD
          obtain ⟨o, ho1, ho2⟩ := HX.out _ hD
          have HO := Lib.hid ho1
          clear hD ho1
          go_wp2_with fail
          go_quiet (fail)
          go_wp2_with fail
          go_ret
          exact ⟨o, by rw [HO.out]; rfl, ho2, bstep HB2.out (bdrew _ _)⟩
set_option maxHeartbeats 4000000 in
set_option maxRecDepth 100000 in
theorem idle_calls {w : World} {b : Nat} {tx : T} {m : Option Int} {v : Value} {l : List Nat} (hN : NdAt w b tx m v) (hR : KsAt w v l) (i : Bool) (hi : Hid ((!m.isSome && decide (l.length < 2)) = i)) :
    Calls Try.prog 52 #[.pointer (some ⟨b, 0, none⟩)] w fun e w' => e = .returned (.bool i) ∧ w = w' := by
  have c1 := hN.c1
  have c3 := hN.c3
  obtain ⟨a, cp, hv, -, -, -⟩ := hR.slice
  rw [hv] at c3
  clear hN hR hv
  generalize l.length = n at *
  cases hm : m.isSome
  · rw [hm] at c1 hi
    by_cases hn : n < 2
    · have hnc : (n : Int) < 2 := by omega
      have hi2 : Hid (true = i) := Lib.hid (by rw [← hi.out, decide_eq_true hn]; rfl)
      clear hi
      go_enter Try.func52, Try.ntmps52
      go_wp2_with fail
      go_ret
      exact ⟨by rw [← hi2.out]; rfl, rfl⟩
    · have hnc : ¬ (n : Int) < 2 := by omega
      have hi2 : Hid (false = i) := Lib.hid (by rw [← hi.out, decide_eq_false hn]; rfl)
      clear hi
      go_enter Try.func52, Try.ntmps52
      go_wp2_with fail
      go_ret
      exact ⟨by rw [← hi2.out]; rfl, rfl⟩
  · rw [hm] at c1 hi
    have hi2 : Hid (false = i) := Lib.hid (by rw [← hi.out]; rfl)
    clear hi
    go_enter Try.func52, Try.ntmps52
    go_wp2_with fail
    go_ret
    exact ⟨by rw [← hi2.out]; rfl, rfl⟩
end Go.Proofs.Ytnmncjeplfkdpaa.Pb
