/- skip. Conditions: the tree as it lies; at most one node below the one that goes. -/
import Derived.Test.YtjfcdkmnccafaaaPd3
namespace Go.Proofs.Ytjfcdkmnccafaaa.Pb
open Go.ChangeShapes Go.WideShapes Go.ChangeAt Go.RowKit
set_option maxHeartbeats 8000000 in
set_option maxRecDepth 100000 in
theorem skip_calls {w : World} {A : Nat} {t : Tr} {vs : Nat → Value} {m : Nat} (h : TObj w A t vs m) {b x : Nat} (hb : b ∈ t.B) (hx : x ∈ t.ks b) (h1 : (t.ks x).length ≤ 1) :
    Calls Try.prog 26 #[.pointer (some ⟨b, 0, none⟩), .pointer (some ⟨x, 0, none⟩)] w fun e w' => e = .returned (.tuple #[]) ∧ ∃ l vs', (∃ L R, t.ks b = L ++ x :: R ∧ l = L ++ (t.ks x ++ R)) ∧ Ok (t.skip b x l) ∧
      w'.cell? ⟨A, 2, none⟩ = some (.int .i64 t.B.length) ∧ w'.frozen? ⟨A, 2, none⟩ = false ∧ TObj (w'.setCell ⟨A, 2, none⟩ (.int .i64 ((t.B.length : Int) - 1))) A (t.skip b x l) vs' m ∧
      Fr (own A t vs) w (w'.setCell ⟨A, 2, none⟩ (.int .i64 ((t.B.length : Int) - 1))) ∧ ∀ y, own A (t.skip b x l) vs' y → own A t vs y ∨ w.heap.size ≤ y := by
  obtain ⟨hxB, hbx, hbxn⟩ := h.ok.kin b hb x hx
  obtain ⟨y, hy⟩ := h.ok.kext hb hx
  obtain ⟨k, th, hF⟩ := fnd_ex _ (h.ok.nbs hb) y.toNat
  have hkle := h.ok.kle hb
  obtain ⟨rfl, hkl, hkx⟩ : th = true ∧ ∃ hk : k < (t.ks b).length, (t.ks b)[k] = x := by
    rcases hF.kid h.ok hb with ⟨-, hn⟩ | ⟨e, hk, hc⟩
    · exact absurd hy (hn x hx)
    · exact ⟨e, hk, h.ok.kone hb (List.getElem_mem hk) hx hc hy⟩
  have hD : Below w.heap.size w w.drew := (Below.refl _ _).drew
  have hps : (bs (t.tx b)).size = (t.tx b).length := bs_size _
  have hxk : (bs (t.tx b)).size < (bs (t.tx x)).size := by
    rw [bs_size, bs_size]
    have := hy.length_le
    rw [List.length_append] at this
    have : [y].length = 1 := rfl
    omega
  have hyk : ((bs (t.tx x))[(bs (t.tx b)).size]'hxk) = y := by
    rw [bs_get]
    obtain ⟨r, hr⟩ := hy
    have : (t.tx x)[(bs (t.tx b)).size]? = some y := by rw [← hr, hps]; simp
    rw [List.getElem?_eq_getElem (by rw [← bs_size (t.tx x)]; exact hxk)] at this
    exact Option.some.inj this
  have HFc := Lib.hid (find_calls (h.below hD).tr h.ok hb y.toNat k true hF (by omega))
  rw [← hyk] at HFc
  have hAC : t.ks b = (t.ks b).take k ++ x :: (t.ks b).drop (k + 1) := by
    rw [← hkx, ← List.drop_eq_getElem_cons hkl, List.take_append_drop]
  have hok := h.ok.skip hb hx hAC rfl h1
  have nb := h.tr.nod b hb
  have nx := h.tr.nod x hxB
  have b0 : w.cell? ⟨b, 0, none⟩ = some (.string (bs (t.tx b))) := nb.c0
  have x0 : w.cell? ⟨x, 0, none⟩ = some (.string (bs (t.tx x))) := nx.c0
  have hne : (vs x).ownBlock = none ∨ (vs x).ownBlock ≠ (vs b).ownBlock := by
    cases e : (vs x).ownBlock with
    | none => exact .inl rfl
    | some g => exact .inr fun e2 => hbxn (by rw [h.tr.rap x hxB b hb g e e2.symm])
  have HB3 := Lib.hid (fun w2 (hb2 : Below w.heap.size w w2) => (⟨(hb2.cell (p := ⟨b, 3, none⟩) nb.lt).trans nb.c3, (hb2.cell (p := ⟨x, 3, none⟩) nx.lt).trans nx.c3⟩ : w2.cell? ⟨b, 3, none⟩ = some (vs b) ∧ w2.cell? ⟨x, 3, none⟩ = some (vs x)))
  have HR := Lib.hid (fun w2 (hb2 : Below w.heap.size w w2) => replace_calls (w := w2) ((h.below hb2).tr.row b hb) ((h.below hb2).tr.row x hxB) h1 hne hkl)
  have HL := Lib.hid (fun w2 (hb2 : Below w.heap.size w w2) w3 v' (hi : Ins w2 w3 (vs b) v' _) => skip_mem h hb hx hb2 hi hok)
  have HOK := Lib.hid hok
  have HAC := Lib.hid hAC
  have hw1 : IntKind.i64.wrap ((k : Int) + 1) = (k : Int) + 1 := by rw [IntKind.wrap_i64]; omega
  have HD := Lib.hid hD
  clear h hF hy hyk hps hkle hbx hbxn hxB hne hD nb nx hok hAC hkx
  generalize hvb : vs b = v at *
  generalize hvx : vs x = v2 at *
  generalize hlL : (t.ks b).take k ++ (t.ks x ++ (t.ks b).drop (k + 1)) = l' at *
  have HLL := Lib.hid hlL
  have HVB := Lib.hid hvb
  have HVX := Lib.hid hvx
  clear hlL hvb hvx
  go_enter Try.func26, Try.ntmps26
  go_wp2_with fail
  go_region_with (go_at_call 32; refine HFc.out.mono ?_; rintro en w2 ⟨rfl, hb2⟩; have HB2 := Lib.hid (bstep HD.out hb2); clear hb2)
  all_goals
    have HB4 := Lib.hid (bstep HB2.out ((Below.refl _ w2).drew))
    obtain ⟨b3, x3⟩ := HB3.out _ HB4.out
    have HRc := Lib.hid (HR.out _ HB4.out)
    clear HR HB3 HFc b0 x0
    go_wp2_with fail
    go_region_with (go_at_call 39; refine HRc.out.mono ?_; rintro en w3 ⟨v', rfl, hi⟩; have HLc := Lib.hid (HL.out _ HB4.out _ _ hi); obtain ⟨a', cp', rfl, -, -, -⟩ := hi.row.slice; obtain ⟨c3, f3, -, -⟩ := HLc.out.2.2.1; clear hi)
    all_goals
      go_wp2_with fail
      go_end0
      obtain ⟨T5, F5, ⟨-, -, dA, fA⟩, O5⟩ := HLc.out
      exact ⟨rfl, l', _, ⟨_, _, HAC.out, HLL.out.symm⟩, HOK.out, dA, fA, T5, F5, O5⟩
end Go.Proofs.Ytjfcdkmnccafaaa.Pb
