/- Package table: Step. Conditions: what is always so of a table. -/
import Derived.Test.YtpbblijnfigapaaTa7
namespace Go.Proofs.Ytpbblijnfigapaa.Ta
open Go.ChangeShapes Go.WideShapes Go.ChangeAt Go.RowKit
set_option maxHeartbeats 4000000 in
set_option maxRecDepth 100000 in
theorem step_calls (w : World) (T G1 G2 : Nat) (s : St) (hT : TAt w T G1 G2 s) (hO : OkS 0 s) :
    Calls Try.prog 16 #[.pointer (some ⟨T, 0, none⟩)] w fun en w' => en = .returned (.tuple #[]) ∧ ∃ G1' G2', TAt w' T G1' G2' (step s) ∧ Fr (own T G1 G2 s) w w' ∧ ∀ i, own T G1' G2' (step s) i → own T G1 G2 s i := by
  obtain ⟨b0, hb0, hb1⟩ := hT.b.c0
  have HM := Lib.hid (moving_calls w T b0 s.nxt.length hb0)
  have HT := Lib.hid hT
  have HO := Lib.hid hO
  clear hT
  by_cases hn : s.nxt.length = 0
  · have hn0 : ¬ (0 < s.nxt.length) := by omega
    have HZ : Hid (step s = s) := Lib.hid (by unfold step; rw [if_pos hn])
    rw [decide_eq_false hn0] at HM
    clear hb1 hb0 hO
    go_enter Try.func16, Try.ntmps16
    go_wp2_with fail
    refine HM.out.mono ?_; rintro en w2 ⟨rfl, rfl⟩
    go_wp2_with fail
    (try simp only [Exit.inBlock, Exit.then])
    refine bodyPost_ret (results_none rfl _ _ _) rfl ?_
    exact ⟨rfl, G1, G2, by rw [HZ.out]; exact HT.out, Fr.of_below (Below.refl _ _), fun i hi => by rw [HZ.out] at hi; exact hi⟩
  · have hn0 : 0 < s.nxt.length := by omega
    rw [decide_eq_true hn0] at HM
    have HJ : Hid (∀ j : Nat, j < 4 → Ok (j : Int) (mvN j s) → (mvN j s).now.length = s.now.length → (mvN j s).nxt.length = s.nxt.length → (mvN j s).mv = s.mv + j → (mvN j s).mv < (mvN j s).now.length ∧ Ok ((j + 1 : Nat) : Int) (mvN (j + 1) s) ∧ (mvN (j + 1) s).now.length = s.now.length ∧ (mvN (j + 1) s).nxt.length = s.nxt.length ∧ (mvN (j + 1) s).mv = s.mv + (j + 1)) := Lib.hid (fun j hj hok h1 h2 h3 => by
      have hm := hO.mn hn0
      have h8 := hO.p1.facts
      have h4 := hO.m4
      obtain ⟨x1, y1, z1⟩ := mv1_len (mvN j s)
      have hlt : (mvN j s).mv < (mvN j s).now.length := by omega
      have := mv1_ok hok (by omega) (by omega) hlt
      refine ⟨hlt, ?_, x1.trans h1, y1.trans h2, by show (mv1 (mvN j s)).mv = _; omega⟩
      rw [show ((j + 1 : Nat) : Int) = (j : Int) + 1 by omega]
      exact this)
    clear hb1 hb0 hO
    go_enter Try.func16, Try.ntmps16
    go_wp2_with fail
    refine HM.out.mono ?_; rintro en w2 ⟨rfl, rfl⟩
    go_wp2_with fail
    go_loopg [2, 6] 5 (fun g _ vi wr => ∃ j : Nat, vi = .int .i64 j ∧ j ≤ 4 ∧ 4 - j ≤ g ∧ Hid (TAt wr T G1 G2 (mvN j s)) ∧ Hid (Fr (own T G1 G2 s) w wr) ∧ Hid (Ok (j : Int) (mvN j s)) ∧ Hid ((mvN j s).now.length = s.now.length ∧ (mvN j s).nxt.length = s.nxt.length ∧ (mvN j s).mv = s.mv + j))
    case atStart => exact ⟨0, rfl, by omega, by omega, HT, Lib.hid (Fr.of_below (Below.refl _ _)), Lib.hid HO.out.toOk, Lib.hid ⟨rfl, rfl, rfl⟩⟩
    case round =>
      obtain ⟨j, rfl, hj, hg, HTj, HFj, HOj, HLj⟩ := hrel
      by_cases hj4 : j < 4
      case pos =>
        have hj4c : (j : Int) < 4 := by omega
        obtain ⟨hlt, hok', hl'⟩ := HJ.out j hj4 HOj.out HLj.out.1 HLj.out.2.1 HLj.out.2.2
        have HOK' := Lib.hid hok'
        have HL' := Lib.hid hl'
        clear hok' hl'
        have hun : Hid (0 < (mvN j s).nxt.length) := Lib.hid (by have := HLj.out; omega)
        have HOU := Lib.hid (fun i (h : own T G1 G2 (mvN j s) i) => (by
          rcases h with e | e | ⟨_, e⟩
          · exact .inl e
          · exact .inr (.inl e)
          · exact .inr (.inr ⟨hn0, e⟩) : own T G1 G2 s i))
        have HMV : Hid (mvN (j + 1) s = mv1 (mvN j s)) := Lib.hid rfl
        rw [HMV.out] at HOK' HL'
        generalize mvN j s = u at *
        obtain ⟨a0, c0, ha0⟩ := HTj.out.a.c0
        obtain rfl := ha0 (by omega)
        have c6 := HTj.out.m
        obtain ⟨g0, g1, g2⟩ := HTj.out.a.pl u.mv hlt
        have HQ := Lib.hid (pAt_lt hlt)
        have hmc : 0 ≤ (u.mv : Int) ∧ (u.mv : Int) < (u.now.length : Int) := by omega
        have hmc2 : (u.mv : Int) < (u.now.length : Int) := by omega
        have HB1 := Lib.hid HOj.out.b1
        generalize hqi : u.now[u.mv].i = qi at *
        have hb1 := HB1.out
        cases hq1 : (qi == (1 : Int))
        case false =>
          have HN := Lib.hid (fun w3 hb => mv_none (w3 := w3) HTj.out (by rw [HQ.out, hqi]; exact hq1) hb)
          go_wp2_with fail
          go_quiet (fail)
          obtain ⟨n6, nf, nt, nfr⟩ := HN.out (wr.drewN nq) (drewN_below _ _)
          have HNT := Lib.hid nt
          have HNF := Lib.hid (HFj.out.trans (nfr.mono HOU.out))
          clear nt nfr c0 c6 g0 g1 g2
          generalize wr.drewN nq = W1 at *
          go_wp2_with fail
          go_roundg (gk - 1)
          case measure => omega
          case rel => exact ⟨j + 1, by go_num, by omega, by omega, by rw [HMV.out]; exact HNT, HNF, by rw [HMV.out]; exact HOK', by rw [HMV.out]; exact HL'⟩
        case true =>
          go_wp2_with fail
          go_quiet (fail)
          have HT1 := Lib.hid (HTj.out.below (drewN_below wr nq))
          have HF1 := Lib.hid (HFj.out.trans (Fr.drewN wr nq))
          have c0 : (wr.drewN nq).cell? ⟨T, 0, none⟩ = some (.slice (some ⟨G1, 0, none⟩) u.now.length u.now.length) := c0
          have c6 : (wr.drewN nq).cell? ⟨T, 6, none⟩ = some (.int .i64 u.mv) := c6
          clear g0 g1 g2
          generalize wr.drewN nq = W1 at *
          have HBu := Lib.hid (buried HT1.out hlt hb1 HOj.out.a.rng)
          have HSb : Hid (∀ W', Below W1.heap.size W1 W' → (fun w' : World => w'.cell? ⟨T, 0, none⟩ = some (.slice (some ⟨G1, 0, none⟩) u.now.length u.now.length) ∧ w'.cell? ⟨T, 6, none⟩ = some (.int .i64 u.mv)) W') := Lib.hid (fun W' hb => ⟨(hb.cell (p := ⟨T, 0, none⟩) HT1.out.a.lt).trans c0, (hb.cell (p := ⟨T, 6, none⟩) HT1.out.a.lt).trans c6⟩)
          have E1 : Hid (∀ args w, (callFunc 22 args).run Try.prog w = .ok (.enter 22 args) w) := Lib.hid (enters_of_fn Try.func22 (by kernel_rfl) rfl)
          go_wp2_with fail
          go_cut [2] (fun v2 wc => ∃ b : Nat, v2 = .pointer (some ⟨b, 0, none⟩) ∧ Hid (Buried W1 wc T G1 u b))
          case first =>
            go_region_held3 (fun w' : World => w'.cell? ⟨T, 0, none⟩ = some (.slice (some ⟨G1, 0, none⟩) u.now.length u.now.length) ∧ w'.cell? ⟨T, 6, none⟩ = some (.int .i64 u.mv))
              (first | exact HSb.out _ (Below.refl _ _).drew | exact HSb.out _ ((Below.refl _ _).alloc (Nat.le_refl _) _).drew | exact S3.out | exact HS3.out _ | exact HS4.out _ _ _)
              (first
                | (refine step_callG ?hw 22 _ _ rfl #[.pointer (some ⟨T, 0, none⟩), .int .i64 (u.mv : Nat)] ?hx E1.out (HBu.out _ ?hb) ?_; (case hw => first | rfl | (simp [Region.wanted, yielded]; done)); (case hx => simp [Act.eval]; done); (case hb => first | exact (Below.refl _ _).drew | exact ((Below.refl _ _).alloc (Nat.le_refl _) _).drew); rintro v3 w3 ⟨rfl, hr3⟩; have HR3 := Lib.hid hr3; have S3 := Lib.hid (hr3.keeps (Nat.lt_of_le_of_lt (Nat.zero_le _) hlt) c6); (try obtain ⟨z0, z1, z2, y0, y1, y2⟩ := hr3.cells); have HS4 := Lib.hid (hr3.keeps4 HT1.out.a.lt (Nat.lt_of_le_of_lt (Nat.zero_le _) hlt) c6); have HS3 := Lib.hid (hr3.keeps2 (Nat.lt_of_le_of_lt (Nat.zero_le _) hlt) c6); clear hr3))
            · have HZ := Lib.hid (HR3.out.done1 55)
              go_wp2_with fail
              go_meet
              case rel => exact ⟨_, rfl, HZ⟩
            · have HZ := Lib.hid (HR3.out.done2 HT1.out.a.lt (HT1.out.a.ltG (Nat.lt_of_le_of_lt (Nat.zero_le _) hlt)) ⟨_, z0⟩ ⟨_, z1⟩ ⟨_, z2⟩)
              go_wp2_with fail
              go_meet
              case rel => exact ⟨_, rfl, HZ⟩
          case rest =>
            obtain ⟨b, rfl, HB⟩ := hcut
            have HP3 := Lib.hid (HT1.out.b.ch HB.out.k (.inr (Nat.le_refl _)) (fun hn => fun e => HT1.out.g hn e.symm))
            have HAd := Lib.hid (fun W (hb : Below wc.heap.size wc W) => add_calls W T 3 G2 u.nxt u.e2 u.d2 (HP3.out.below hb) (pAt u.now u.mv).k (hk (pAt u.now u.mv).k) (hsh_lt _) (pAt u.now u.mv).n (by have := HOj.out.b2; omega) hun.out (HOj.out.nxt0 (by omega) hun.out) (by have := HOj.out.b.rng; have := HOj.out.b2; omega) (by have := HOj.out.b.rng; have := HOj.out.b2; omega))
            have HHa := Lib.hid (fun W => hash_calls W (pAt u.now u.mv).k (by have := HOj.out.a.at_k u.mv; omega))
            obtain ⟨F, hF⟩ : ∃ F : Nat → World, ∀ x, F x = wc.drewN x := ⟨fun x => wc.drewN x, fun _ => rfl⟩
            have f1 : ∀ x, (F x).cell? ⟨b, 1, none⟩ = some (.string (pAt u.now u.mv).k) := fun x => by rw [hF]; exact HB.out.b1
            have f2 : ∀ x, (F x).cell? ⟨b, 2, none⟩ = some (.int .i64 (pAt u.now u.mv).n) := fun x => by rw [hF]; exact HB.out.b2
            have f3 : ∃ x, wc.drew = F x := ⟨1, by rw [hF]; rfl⟩
            have HF := Lib.hid hF
            have HMF := Lib.hid (fun w2 w3 hb p3 k3 => mv_full (w2 := w2) (w3 := w3) HT1.out hun.out (by rw [HQ.out, hqi]; exact hq1) HB.out.p HB.out.k hb p3 k3)
            clear hF c0 c6
            generalize pAt u.now u.mv = q at *
            generalize q.k = qk at *
            generalize q.n = qn at *
            go_upto_region 5 with fail
            refine wp_region_tail F 10 (by kernel_rfl) (by kernel_rfl) f3 ?_
            simp only [List.take_succ_cons, List.take_zero, List.drop_succ_cons, List.drop_zero]
            repeat (go_big_quiet_step ((go_at_call 17; exact quietD (HHa.out _))))
            refine wpQuiet_nil ?_
            intro x1
            have HB4 := Lib.hid (by rw [HF.out]; exact drewN_below wc x1 : Below wc.heap.size wc (F x1))
            clear f1 f2 f3 HF
            generalize F x1 = W2 at *
            go_wp2_with fail
            refine (HAd.out _ HB4.out).mono ?_; rintro en w4 ⟨rfl, hp4, hk4⟩
            obtain ⟨n6, nf, nt, nfr⟩ := HMF.out W2 w4 HB4.out hp4 hk4
            have HNT := Lib.hid nt
            have HNF := Lib.hid (HF1.out.trans (nfr.mono HOU.out))
            clear hp4 hk4 nt nfr
            go_wp2_with fail
            go_roundg (gk - 1)
            case measure => omega
            case rel => exact ⟨j + 1, by go_num, by omega, by omega, by rw [HMV.out]; exact HNT, HNF, by rw [HMV.out]; exact HOK', by rw [HMV.out]; exact HL'⟩
      case neg =>
        have hj4e : j = 4 := by omega
        have hj4c : ¬ ((j : Int) < 4) := by omega
        have HSP : Hid (step s = fin (mvN j s)) := Lib.hid (by rw [hj4e]; unfold step; rw [if_neg hn]; rfl)
        have HOU := Lib.hid (fun i (h : own T G1 G2 (mvN j s) i) => (by
          rcases h with e | e | ⟨_, e⟩
          · exact .inl e
          · exact .inr (.inl e)
          · exact .inr (.inr ⟨hn0, e⟩) : own T G1 G2 s i))
        have hun : Hid (0 < (mvN j s).nxt.length) := Lib.hid (by have := HLj.out; omega)
        generalize mvN j s = u at *
        obtain ⟨a0, c0, ha0⟩ := HTj.out.a.c0
        have c6 := HTj.out.m
        have HRo := Lib.hid (fun k => room_calls (wr.drewN k) T 0 a0 u.now.length c0)
        clear ha0
        by_cases he : u.mv = u.now.length
        · have heb : ((u.mv : Int) == (u.now.length : Int)) = true := by rw [he]; exact beq_self_eq_true _
          have Hhe := Lib.hid he
          clear he
          go_wp2_with fail
          go_quiet ((go_at_call 29; exact Calls.quiet_of_same ((HRo.out _).mono fun _ _ ⟨a, b⟩ => ⟨a, b.symm⟩)))
          have HTW := Lib.hid (HTj.out.below (drewN_below wr nq))
          have HFW := Lib.hid (HFj.out.trans (Fr.drewN wr nq))
          clear c0 c6
          generalize wr.drewN nq = W at *
          obtain ⟨x0, c0, -⟩ := HTW.out.a.c0
          obtain ⟨x3, c3, hx3⟩ := HTW.out.b.c0
          obtain rfl := hx3 hun.out
          have c1 := HTW.out.a.c1
          have c2 := HTW.out.a.c2
          have c4 := HTW.out.b.c1
          have c5 := HTW.out.b.c2
          have c6 := HTW.out.m
          have hft := HTW.out.a.ft
          have HZ := Lib.hid (setT_done (e := u.e2) (d := u.d2) HTW.out HTW.out.b.pl (HTW.out.b.fg hun.out) (HTW.out.b.ne hun.out))
          go_wp2_with fail
          go_end0
          have hS : step s = ⟨u.nxt, u.e2, u.d2, [], 0, 0, 0⟩ := by rw [HSP.out]; unfold fin; rw [if_pos Hhe.out]
          exact ⟨rfl, G2, G2, by rw [hS]; exact HZ.out.1, HFW.out.trans (HZ.out.2.mono fun i e => .inl e), fun i hi => by
            rw [hS] at hi
            rcases hi with e | e | ⟨e, -⟩
            · exact .inl e
            · exact .inr (.inr ⟨hn0, e⟩)
            · exact absurd e (Nat.lt_irrefl _)⟩
        · have heb : ((u.mv : Int) == (u.now.length : Int)) = false := beq_eq_false_iff_ne.2 (by omega)
          have HZ : Hid (step s = u) := Lib.hid (by rw [HSP.out]; unfold fin; rw [if_neg he])
          clear he
          go_wp2_with fail
          go_quiet ((go_at_call 29; exact Calls.quiet_of_same ((HRo.out _).mono fun _ _ ⟨a, b⟩ => ⟨a, b.symm⟩)))
          go_wp2_with fail
          go_end0
          exact ⟨rfl, G1, G2, by rw [HZ.out]; exact HTj.out.below (drewN_below _ _), HFj.out.trans (Fr.drewN _ _), fun i hi => by rw [HZ.out] at hi; exact HOU.out i hi⟩
end Go.Proofs.Ytpbblijnfigapaa.Ta
