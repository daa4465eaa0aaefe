/- Walk: the marks that begin so. Conditions: the tree as it lies; bounds. -/
import Derived.Test.YtjfcdkmnccafaaaPbn
import Derived.Sort.CutIn
namespace Go.Proofs.Ytjfcdkmnccafaaa.Pb
open Go.RowKit Go.Shelf
attribute [local go_sem] Oper.semAt_some
/-- What Walk answers. -/
def WalkL (t : Tr) (K : T) (ys : List Pa.Mk) : Prop := ∃ b, Lst t K b ∧ (((t.tx b).length < K.length ∧ ys = []) ∨ (K.length ≤ (t.tx b).length ∧ ys = mkL t (sub t 1000000 b)))
/-- What is left to do. -/
structure WI (t : Tr) (b g : Nat) (out : List Pa.Mk) (st : List Nat) : Prop where
  inb : ∀ c ∈ st, c ∈ t.B
  eq : mkL t (sub t 1000000 b) = out ++ mkL t (left t 1000000 st)
  ln : (left t 1000000 st).length < g
  gl : g ≤ 1000001
theorem mkL_cons (t : Tr) (c : Nat) (l : List Nat) : mkL t (c :: l) = mkL t [c] ++ mkL t l := by
  unfold mkL
  rw [← List.filterMap_append]
  rfl
theorem WI.out_le {t : Tr} (ho : Ok t) (hM : ∀ b ∈ t.B, (t.tx b).length ≤ 1000000) {b g : Nat} {out : List Pa.Mk} {st : List Nat} (h : WI t b g out st) (hb : b ∈ t.B) : out.length ≤ t.B.length := by
  have h1 := congrArg List.length h.eq
  rw [List.length_append] at h1
  have h2 := mkL_le t (sub t 1000000 b)
  have h3 := sub_le ho hM hb
  omega
theorem WI.next {t : Tr} (ho : Ok t) (hM : ∀ b ∈ t.B, (t.tx b).length ≤ 1000000) {b g c : Nat} {out : List Pa.Mk} {st : List Nat} (h : WI t b g out (st ++ [c])) : WI t b (g - 1) (out ++ mkL t [c]) (st ++ (t.ks c).reverse) ∧ 0 < g ∧ st.length + (t.ks c).length ≤ 1000000 ∧ c ∈ t.B ∧ st.length + 1 ≤ 1000000 := by
  have hc := h.inb c (by simp)
  have e := left_pop ho hM st hc
  have h1 := h.ln
  have h2 := h.gl
  have hin : ∀ d ∈ st ++ (t.ks c).reverse, d ∈ t.B := fun d hd => by
    rcases List.mem_append.1 hd with hd | hd
    · exact h.inb d (List.mem_append.2 (.inl hd))
    · exact (ho.kin c hc d (List.mem_reverse.1 hd)).1
  have h3 := left_len ho hM hin
  have h4 := left_len ho hM h.inb
  rw [List.length_append] at h3 h4
  rw [List.length_reverse] at h3
  have h6 : [c].length = 1 := rfl
  have h5 : (left t 1000000 (st ++ [c])).length = (left t 1000000 (st ++ (t.ks c).reverse)).length + 1 := by rw [e, List.length_cons]
  refine ⟨⟨hin, ?_, by omega, by omega⟩, by omega, by omega, hc, by omega⟩
  rw [h.eq, e, mkL_cons, List.append_assoc]
set_option maxRecDepth 100000 in
set_option maxHeartbeats 16000000 in
theorem walk_calls {w : World} {A : Nat} {t : Tr} {vs : Nat → Value} {m : Nat} (h : TObj w A t vs m) (key : ByteArray) (hK : key.size ≤ 1000000) (hN : t.B.length ≤ 1000000) :
    Calls Try.prog 20 #[.pointer (some ⟨A, 0, none⟩), .string key] w fun e w' => ∃ v, e = .returned v ∧ ∃ ys, Pa.RowM w w' v ys ∧ WalkL t key.data.toList ys := by
  have HE := Lib.hid (end_lst h key hK)
  refine (callsIn_wide (n := 3)).1 ?_
  refine callsIn_of_wp_marks Try.func20 rfl trivial ?_ rfl
  simp only [Try.ntmps20, List.size_toArray, List.length_cons, List.length_nil, Nat.reduceAdd, Nat.reduceSub, Array.replicate_succ, Array.replicate_zero, List.push_toArray, List.append_toArray, List.nil_append, List.cons_append]
  gi_wp2
  refine ⟨trivial, (callsIn_wide.2 HE.out).mono ?_⟩
  rintro e w1 ⟨b, rfl, hL, hB⟩
  have hT1 := h.below hB
  have b0 := (hT1.tr.nod b hL.on.1).c0
  have hps : (bs (t.tx b)).size = (t.tx b).length := bs_size _
  have hdk := dlen key
  have HL := Lib.hid hL
  clear HE hL
  by_cases hl : ((bs (t.tx b)).size : Int) < (key.size : Int)
  · gi_wp2
    exact ⟨_, results_tmp rfl _ _ _, _, rfl, [], ⟨World.ownsRow_nil _ _ _ _, hB⟩, b, HL.out, .inl ⟨by omega, rfl⟩⟩
  · gi_wp2
    refine wpIn_loop_ghost_k (fun g a wr => ∃ (ds : List Nat) (u6 u8 u10 u17 u18 u19 u20 u21 u24 u25 u26 u27 u28 u29 u30 u31 u32 u33 u34 u35 u36 u37 u38 u39 u40 u41 u42 u43 u44 u45 u46 u47 u48 u49 u50 u51 u52 u53 u54 u55 u56 u57 u58 : Value), a = { tmps := #[.pointer (some ⟨A, 0, none⟩), .string key, undef, undef, .slice none 0 0, .pointer (some ⟨b, 0, none⟩), u6, .pointer (some ⟨w1.heap.size + 1, 0, none⟩), u8, undef, u10, .pointer (some ⟨A, 0, none⟩), .string key, .pointer (some ⟨b, 0, none⟩), .pointer (some ⟨b, 0, none⟩), .pointer (some ⟨b, 0, none⟩), .pointer (some ⟨b, 0, none⟩), u17, u18, u19, u20, u21, .pointer (some ⟨b, 0, none⟩), .slice (some ⟨w1.heap.size, 0, none⟩) 1 1, u24, u25, u26, u27, u28, u29, u30, u31, u32, u33, u34, u35, u36, u37, u38, u39, u40, u41, u42, u43, u44, u45, u46, u47, u48, u49, u50, u51, u52, u53, u54, u55, u56, u57, u58], defers := recs ds } ∧ ∃ out st vst, Hid (WS w1 wr ds u6 out st vst) ∧ Hid (WI t b g out st)) ((sub t 1000000 b).length + 1) ?start ?round
    case start =>
      have hsl := sub_le h.ok h.ln HL.out.on.1
      refine ⟨[], _, _, _, _, _, _, _, _, _, _, _, _, _, _, _, _, _, _, _, _, _, _, _, _, _, _, _, _, _, _, _, _, _, _, _, _, _, _, _, _, _, _, _, rfl, [], [b], .slice (some ⟨w1.heap.size, 0, none⟩) 1 1, Lib.hid ⟨((Below.refl _ w1).alloc (Nat.le_refl _) _).alloc (by simp) _, World.ownsRow_nil _ _ _ _, ?_, ?_, Rec.nil _ _⟩, Lib.hid ⟨fun c hc => by rw [List.mem_singleton.1 hc]; exact HL.out.on.1, by rw [left_one]; rfl, by rw [left_one]; omega, by omega⟩⟩
      · have hbx := Boxed.new (w1.alloc (.cells #[.pointer (some ⟨b, 0, none⟩)] 46)) 47 (.slice (some ⟨w1.heap.size, 0, none⟩) 1 1)
        rw [World.size_alloc] at hbx
        exact hbx
      · exact ⟨rfl, .inr ⟨w1.heap.size, 1, #[ptr b], rfl, Nat.le_refl _, (Below.heap_alloc _ _ _ (by simp)).trans (World.alloc_heap_new w1 _), Nat.le_refl _, by unfold maxLen; exact by decide, rfl, rfl⟩⟩
    case round =>
      intro gk a wr hinv
      obtain ⟨ds, u6, u8, u10, u17, u18, u19, u20, u21, u24, u25, u26, u27, u28, u29, u30, u31, u32, u33, u34, u35, u36, u37, u38, u39, u40, u41, u42, u43, u44, u45, u46, u47, u48, u49, u50, u51, u52, u53, u54, u55, u56, u57, u58, rfl, out, st, vst, HW, HI⟩ := hinv
      intro _ _ _ _
      obtain ⟨sa, scp, rfl, hcap, -, hcells⟩ := (ownsRow_ks HW.out.srow).slice
      have hbc := HW.out.box.cell
      have hbf := HW.out.box.frozen
      by_cases hst : st = []
      · subst hst
        clear hcells hcap
        have HHL := Lib.hid hl
        have HPS := Lib.hid hps
        have HDK := Lib.hid hdk
        clear hl hps hdk
        gi_wp2
        refine leaves_many ds wr HW.out.rcs fun w' hf => ?_
        have hbw : Below w1.heap.size wr w' := ⟨hf.os, hf.tape, hf.output, hf.size, fun k hk => hf.block k (Nat.lt_of_lt_of_le hk HW.out.bel.size) (fun hm => by have := (HW.out.rcs.at_ k hm).1; omega)⟩
        have hlen : key.data.toList.length ≤ (t.tx b).length := by
          have h1 := HHL.out
          have h2 := HPS.out
          have h3 := HDK.out
          omega
        exact ⟨_, results_tmp rfl _ _ _, _, rfl, out, ⟨row_mono hB.size (ownsRow_recs HW.out.row HW.out.rcs hf), hB.trans ((HW.out.bel.trans hbw).mono hB.size)⟩, b, HL.out, .inr ⟨hlen, by rw [HI.out.eq, left_nil]; simp [mkL]⟩⟩
      · obtain ⟨st', c, rfl⟩ : ∃ st' c, st = st' ++ [c] := ⟨st.dropLast, st.getLast hst, (List.dropLast_concat_getLast hst).symm⟩
        obtain ⟨k, hk⟩ : ∃ k, st'.length = k := ⟨_, rfl⟩
        have hk1 : (st' ++ [c]).length = k + 1 := by rw [List.length_append, hk]; rfl
        obtain ⟨g0, rfl, hg0, hcc⟩ := hcells k (by omega)
        have hck : (st' ++ [c])[k]'(by omega) = c := by
          rw [List.getElem_append_right (by omega)]
          simp
        rw [hck] at hcc
        rw [hk1] at hbc HW
        simp only [ptr] at hcc
        obtain ⟨hI2, hgp, hkk, hcB, hkl⟩ := HI.out.next h.ok h.ln
        have HOL := Lib.hid (HI.out.out_le h.ok h.ln HL.out.on.1)
        rw [hk] at hkk hkl
        have hcp : k ≤ scp := by omega
        have hw64 : wrap64 ((k : Int) + 1 - 1) = k := by rw [show (k : Int) + 1 - 1 = k by omega]; exact IntWalk.wrap64_in _ (by omega)
        have HP := Lib.hid (HW.out.pop hk)
        have HI2 := Lib.hid hI2
        have hnc := (hT1.below HP.out.bel).tr.nod c hcB
        have y1 := hnc.c1
        obtain ⟨a2, c2, hv2, -, -, hks⟩ := (hT1.tr.row c hcB).slice
        have HKS := Lib.hid hks
        have HV2 := Lib.hid hv2
        have HNC := Lib.hid hnc
        have HKL := Lib.hid hk
        have HPS := Lib.hid hps
        have HHL := Lib.hid hl
        have HGP := Lib.hid hgp
        have HKK := Lib.hid hkk
        clear hcells hcap hck hst hk1 hk hps hl hI2 hks hv2 hnc hgp hkk HW HI
        gi_upto_if 41 with (fail)
        gi_cut [6] from 41 (fun v6 wc => Hid (WS w1 wc ds v6 (out ++ mkL t [c]) st' (.slice (some ⟨g0, 0, none⟩) k scp)))
        case first =>
          cases hnm : t.nm c with
          | none =>
            simp only [Option.isSome_none]
            gi_wp2
            gi_meet
            case rel =>
              rw [show mkL t [c] = [] by simp [mkL, hnm], List.append_nil]
              exact HP
          | some n =>
            simp only [Option.isSome_some]
            have HNC2 := Lib.hid (fun (W2 : World) (hb2 : Below (wr.setCell ⟨w1.heap.size + 1, 0, none⟩ (.slice (some ⟨g0, 0, none⟩) k scp)).heap.size (wr.setCell ⟨w1.heap.size + 1, 0, none⟩ (.slice (some ⟨g0, 0, none⟩) k scp)) W2) => mark_calls (HNC.out.keep (hb2.block _ HNC.out.lt)))
            rw [hnm] at HNC2
            simp only [Option.getD_some] at HNC2
            clear HNC
            gi_wp2
            refine ⟨trivial, (callsIn_wide.2 (HNC2.out _ (Below.refl _ _))).mono ?_⟩
            rintro e w6 ⟨rfl, hb6⟩
            have H6 := Lib.hid (HP.out.on hb6)
            clear HP hb6 HNC2
            gi_wp2_with (gi_at_builtin; go_loud (refine mark_pushI H6.out.row H6.out.bel.size rfl (.tmp 42) (.tmp 45) rfl rfl (bs (t.tx c), n) _ rfl (by have := HOL.out; omega) ?_; intro v5 w5 hown5 hg5; have H7 := Lib.hid (H6.out.pushM hown5 hg5); clear hown5 hg5))
            gi_meet
            case rel =>
              rw [show mkL t [c] = [(bs (t.tx c), n)] by simp [mkL, hnm]]
              exact H7
        case rest =>
          have HC := hcut
          clear hcut HP HNC y1 hbc hbf hcc hw64
          have hnc2 := (hT1.below HC.out.bel).tr.nod c hcB
          have y3 := hnc2.c3
          rw [HV2.out] at y3
          clear hnc2
          gi_wp2
          refine ⟨trivial, (callsIn_wide.2 (back_calls _ _ _ _)).mono ?_⟩
          rintro e w3 ⟨rfl, rfl⟩
          gi_wp2
          have hB1 := HC.out.bel.size
          have hBx := Boxed.new wc 47 (.slice a2 (t.ks c).length c2)
          have hWB := HC.out.more (.cells #[.slice a2 (t.ks c).length c2] 47)
          have hsz : (wc.alloc (.cells #[.slice a2 (t.ks c).length c2] 47)).heap.size = wc.heap.size + 1 := by simp
          have hb7 := HC.out.box.lt
          refine' wpIn_rangeFunc_ownF rfl (by omega) (gf := 40) (lb := #[.pointer (some ⟨wc.heap.size, 0, none⟩)]) (by simp [Act.eval]) trivial (enters_of Try.func40 (by kernel_rfl) rfl)
            (back_stops (3 - 1) (by omega) wc.heap.size w1.heap.size a2 c2 (t.ks c) (by have := HKK.out; omega) _ (by omega) hBx.cell (fun i hi => by
              obtain ⟨g, h1, h2, h3⟩ := HKS.out i hi
              exact ⟨g, h1, h2, (hWB.bel.cell (p := ⟨g, i, none⟩) h2).trans h3⟩)) (fun h k => Kps.trans h k) (Kps.put (by omega) (by omega)) (Below.refl _ _) (fun _ => rfl)
            (fun pre W => (∃ v, WS w1 W ds u6 (out ++ mkL t [c]) (st' ++ pre.map (·.2)) v) ∧ Boxed W wc.heap.size 47 (.slice a2 (t.ks c).length c2))
            (fun _ _ _ => False)
            (OwnFrom.and (WS.own (by omega) (fun D hD => by have := HC.out.rcs.lt hD; omega) (fun pre : List (Nat × Nat) => st' ++ pre.map (·.2))) (Own.from (boxed_keeps _ _ _) _))
            (fun _ _ _ _ _ hs _ _ => hs)
            ⟨⟨_, by rw [List.map_nil, List.append_nil]; exact hWB⟩, hBx⟩
            _ ?assign ?body ?done ?stop
          case assign =>
            intro l x W K hK
            gi_wp2
            exact hK
          case body =>
            rintro l pre x W ⟨⟨v, HS⟩, hbx⟩ hpl
            have vc := HS.box.cell
            have vf := HS.box.frozen
            have hln : (st' ++ pre.map (·.2)).length ≤ 1000000000 := by
              have h1 := HKL.out
              have h2 := HKK.out
              rw [List.length_append, List.length_map]
              omega
            have HS2 := Lib.hid HS
            have HBX := Lib.hid hbx
            have HLN := Lib.hid hln
            clear HS hbx hln hpl
            gi_wp2_with (gi_at_builtin; refine ptr_pushI HS2.out.srow HS2.out.bel.size rfl (.tmp 54) (.tmp 56) rfl rfl x.2 _ rfl HLN.out ?_; intro v5 w5 hown5 hg5; obtain ⟨g5, c5, rfl⟩ := ownsRow_succ hown5; have HZ := Lib.hid (HS2.out.pushS hown5 hg5); have HX := Lib.hid (HS2.out.pushBox (v' := .slice (some ⟨g5, 0, none⟩) ((st' ++ pre.map (·.2)).length + 1) c5) HBX.out (by omega) hg5); have zc := HZ.out.1.cell; have zf := HZ.out.1.frozen; clear hown5 hg5)
            have e7 : (st' ++ pre.map (·.2)).length = st'.length + pre.length := by rw [List.length_append, List.length_map]
            rw [e7] at HZ HX
            refine ⟨HZ.out.2.1, fun y hy => ?_, ⟨.slice (some ⟨g5, 0, none⟩) (st'.length + pre.length + 1) c5, ?_⟩, HX.out⟩
            · rcases hy with hy | rfl
              · exact HZ.out.2.2.1.block y hy
              · exact (show _ = _ from HX.out).trans (show _ = _ from HBX.out).symm
            · rw [List.map_append, ← List.append_assoc]
              exact HZ.out.2.2.2
          case done =>
            rintro D ys W hD hys ⟨⟨v, HS⟩, -⟩ hKd
            have hD2 : D ∉ ds := fun hm => by
              have := HC.out.rcs.lt hm
              omega
            have HS2 := HS.rec_ hD2 (by omega) hKd
            have e5 : ys.map (·.2) = (t.ks c).reverse := by rw [hys, backL_all]
            rw [e5] at HS2
            have HF := Lib.hid HS2
            clear HS HS2
            gi_wp2
            refine Handed.intro (gk - 1) (by have := HGP.out; omega) ?_
            first | gi_step | go_step
            exact ⟨D :: ds, _, _, _, _, _, _, _, _, _, _, _, _, _, _, _, _, _, _, _, _, _, _, _, _, _, _, _, _, _, _, _, _, _, _, _, _, _, _, _, _, _, _, _, rfl, _, _, v, HF, HI2⟩
          case stop =>
            rintro D c pre W _ _ h _
            exact h.elim
end Go.Proofs.Ytjfcdkmnccafaaa.Pb
