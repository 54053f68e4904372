import PyProof.Rows.All
import Wide.All
import OpenK.AllK
import Wide.FinOn
import HandS.ForSpec
import HandS.ForMost
import HandS.ExcInit
import HandS.IsInst
import HandS.Lambda
import HandS.Flow
import HandS.Codes
import HandS.Walk
import HandS.DictComp
import HandS.ExcIs
import HandS.ExcValue
import HandS.ExcField
import PyProof.ReprRoads
import KE.KExcSuper
import KE.KExcIs
import PySem.Challenge.RW_presumebooks_k01_errors_by_hand
set_option Elab.async false
set_option linter.all false
set_option maxRecDepth 100000
set_option maxHeartbeats 2000000
namespace Draw
open PySem PySem.Spec PyProof.Rows L2
def top (i : Nat) : Stmt := PySem.Challenge.pw_presumebooks_k01_errors_by_hand.main.body.getD i (.Pass ⟨0, 0, 0, 0⟩)
abbrev sBegun : Stmt := top 17
abbrev sMixed : Stmt := top 18
abbrev sTake : Stmt := top 19
abbrev sPick : Stmt := top 20
theorem scBegun : FnScope ["script", "wide", "grain"] ["script"] (defScope sBegun) := ⟨rfl, rfl, rfl, by decide +kernel, rfl, by decide +kernel, by decide +kernel⟩
theorem scMixed : FnScope ["draw", "turn", "found", "prime", "blend", "grain"] ["draw"] (defScope sMixed) := ⟨rfl, rfl, rfl, by decide +kernel, rfl, by decide +kernel, by decide +kernel⟩
theorem scTake : FnScope ["draw", "size", "found"] ["draw", "size"] (defScope sTake) := ⟨rfl, rfl, rfl, by decide +kernel, rfl, by decide +kernel, by decide +kernel⟩
theorem scPick : FnScope ["draw", "some"] ["draw", "some"] (defScope sPick) := ⟨rfl, rfl, rfl, by decide +kernel, rfl, by decide +kernel, by decide +kernel⟩
/-- the names of the module that the drawing reads: built-ins that nothing covers -/
structure Bare (mg : Str → Option Value) : Prop where
  abs : mg "abs" = none
  int : mg "int" = none
  len : mg "len" = none
  range : mg "range" = none
  min : mg "min" = none
/-- a stock of draws: the dict at d, its lists at w and c; n is the most turns so far -/
structure Stock (H : Hp) (d w c : Addr) (n : Nat) : Prop where
  own : ∃ (rest turn : Int), 0 ≤ rest ∧ 0 ≤ turn ∧ turn ≤ n ∧ H d = some (.dK [(Sum.inr "wide", .ref w), (Sum.inr "cells", .ref c), (Sum.inr "rest", .int rest), (Sum.inr "turn", .int turn)])
  wide : ∃ ws : List Int, ws.length ≤ 63 ∧ (∀ x ∈ ws, 0 ≤ x) ∧ H w = some (.lst (ws.map V.int))
  cells : ∃ cs : List Int, cs.length ≤ 63 ∧ (∀ x ∈ cs, 0 ≤ x ∧ x < 2147483629) ∧ H c = some (.lst (cs.map V.int))
  apart : c ≠ w
/-- what stood stands, but for two -/
def But (d w : Addr) (H H' : Hp) : Prop := ∀ b o, b ≠ d → b ≠ w → H b = some o → H' b = some o
theorem sameNew {H : Hp} {p : Addr} {o : HO} (h : H p = none) : Same H (upd H p o) := fun b u e => by
  rw [upd_ne (ne_of_none e h)]
  exact e
theorem samePut {H H' : Hp} {p : Addr} {o : HO} (s : Same H H') (h : H p = none) : Same H (upd H' p o) := fun b u e => by
  rw [upd_ne (ne_of_none e h)]
  exact s b u e
theorem intAt {ns : List Int} {i : Nat} {x : V} (h : (ns.map V.int)[i]? = some x) : ∃ z, ns[i]? = some z ∧ x = .int z := by
  rw [List.getElem?_map] at h
  cases e : ns[i]? with
  | none => rw [e] at h; cases h
  | some z => rw [e] at h; exact ⟨z, rfl, (Option.some.inj h).symm⟩
theorem powTen : CPow 10 18 := ⟨by decide, by decide, by decide⟩
theorem lt_line {n : Nat} (h : n < 1000) : n < sizeLine := Nat.lt_trans h (by decide)
def spBegun (K : PySem.W.Frag) : Sp := fun vs H Q _ => ∃ (a : Addr) (ns : List Int), vs = [.ref a] ∧ SqL K H a (ns.map V.int) ∧ ns.length ≤ 63 ∧
  ∀ (H' : Hp) (d w c : Addr), Same H H' → H d = none → H w = none → H c = none → Stock H' d w c 0 → Q (.ref d) H'
section
variable {P : Program} {w : World} {K : PySem.W.Frag} {mg : Str → Option Value} {base : Heap}
theorem ok_begun {f : Addr} {fd : FuncData} (F : Fun K "_law_begun" "_law_begun" sBegun f fd) (B : Bare mg) : FnOk P w K mg base CX0 1 f fd ["script"] (spBegun K) := by
  refine F.ok scBegun (fun vs H Q E h => ?_) (fun cdv A outer s H vs Q E hr h => ?_)
  · obtain ⟨a, ns, rfl, _⟩ := h
    rfl
  · obtain ⟨a, ns, rfl, hS, hn, k⟩ := h
    refine ⟨_, pss_cons (ps_setLc (i := 1) (own := [("grain", 2)]) (g := gName 2) rfl scBegun.nd rfl rfl (sw_true rfl rfl rfl (by decide +kernel)) (pi_list (pv 0))
        (blkOk_by (N := ["script", "wide", "grain"]) (sc := defScope sBegun) (by decide +kernel)) (fun _ _ _ _ _ => pg_name (i := 2) scBegun.nd rfl (Or.inl rfl))
        (fun _ _ _ _ _ => pts_one (pt_cmpR op_ge (pe_callB call_abs (by rfl) B.abs (by decide +kernel) (pa_cons (pv 2) pa_nil)) (pe_op op_pow pe_int pe_int) (nomark _)))
        (fun _ _ _ _ _ => pe_op op_sub (pe_callB call_abs (by rfl) B.abs (by decide +kernel) (pa_cons (pv 2) pa_nil)) (pe_op op_pow pe_int pe_int)))
      (pss_one (ps_ret (pe_disp (pps_cons pe_str (pv 1) (pps_cons pe_str
        (pe_lc (own := [("grain", 2)]) (g := gName 2) rfl scBegun.nd (pi_list (pv 0)) (blkOk_by (N := ["script", "wide", "grain"]) (sc := defScope sBegun) (by decide +kernel))
          (fun _ _ _ _ _ => pg_name (i := 2) scBegun.nd rfl (Or.inl rfl)) (fun _ _ _ _ _ => pts_nil)
          (fun _ _ _ _ _ => pe_op op_mod (pe_callTy call_int1 (by rfl) B.int (by decide +kernel) (pa_cons (pe_callB call_abs (by rfl) B.abs (by decide +kernel) (pa_cons (pv 2) pa_nil)) pa_nil)) pe_int))
        (pps_cons pe_str pe_int (pps_cons pe_str pe_int pps_nil)))) (by rfl) (by rfl) (fun z => by cases z) (by decide)))), ?_⟩
    refine ⟨_, rfl, a, rfl, ⟨_, hS⟩, fun D hD => lc_list (K := K) (a := a) (xs := ns.map V.int)
      (fun i H' => ∃ ws : List Int, ws.length ≤ i ∧ (∀ x ∈ ws, 0 ≤ x) ∧ H' D = some (.lst (ws.map V.int)) ∧ Same H H') ⟨[], Nat.le_refl _, by simp, upd_same, sameNew hD⟩ (fun i H' _ ⟨_, _, _, _, sm⟩ => sm.seq hS) (fun i x H' hi ⟨ws, l1, l2, l3, sm⟩ => ?_) (fun H' ⟨ws, l1, l2, l3, sm⟩ => ?_)⟩
    · obtain ⟨z, hz, rfl⟩ := intAt hi
      refine ⟨rfl, _, rfl, _, rfl, _, _, rfl, rfl, powTen, _, _, rfl, rfl, _, rfl, ?_⟩
      refine ite2 (fun e => ?_) (fun _ => ⟨ws, Nat.le_succ_of_le l1, l2, l3, sm⟩)
      refine ⟨_, rfl, _, rfl, _, _, rfl, rfl, powTen, _, _, rfl, rfl, _, l3, ?_, ws ++ [(if z < 0 then -z else z) - 10 ^ Int.toNat 18], ?_, ?_, ?_, samePut sm hD⟩
      · rw [List.length_map]
        have hi' := (List.getElem?_eq_some_iff.mp hi).1
        rw [List.length_map] at hi'
        exact lt_line (by omega)
      · rw [List.length_append]
        show ws.length + 1 ≤ i + 1
        omega
      · intro y hy
        rcases List.mem_append.mp hy with q | q
        · exact l2 y q
        · have e' := of_decide_eq_true e
          rw [List.mem_singleton] at q
          rw [q]
          exact Int.sub_nonneg.mpr e'
      · rw [upd_same, List.map_append]
        rfl
    · rw [List.length_map] at l1
      intro p hp
      have pD : D ≠ p := fun q => by rw [← q, l3] at hp; cases hp
      refine ⟨_, rfl, _, rfl, a, rfl, ⟨_, (sm.trans (sameNew hp)).seq hS⟩, fun C hC => lc_list (K := K) (a := a) (xs := ns.map V.int)
        (fun i H'' => ∃ cs : List Int, cs.length ≤ i ∧ (∀ x ∈ cs, 0 ≤ x ∧ x < 2147483629) ∧ H'' C = some (.lst (cs.map V.int)) ∧ Same (upd H' p (.dK [])) H'') ⟨[], Nat.le_refl _, by simp, upd_same, sameNew hC⟩
          (fun i H'' _ ⟨_, _, _, _, sm'⟩ => (sm.trans ((sameNew hp).trans sm')).seq hS) (fun i x H'' hi ⟨cs, m1, m2, m3, sm'⟩ => ?_) (fun H'' ⟨cs, m1, m2, m3, sm'⟩ => ?_)⟩
      · obtain ⟨z, hz, rfl⟩ := intAt hi
        refine ⟨rfl, _, rfl, _, rfl, Or.inl ⟨_, rfl, _, _, rfl, rfl, (by show (0 : Int) < 2147483629; decide), _, m3, ?_, cs ++ [(if z < 0 then -z else z) % 2147483629], ?_, ?_, ?_, samePut sm' hC⟩⟩
        · rw [List.length_map]
          have hi' := (List.getElem?_eq_some_iff.mp hi).1
          rw [List.length_map] at hi'
          exact lt_line (by omega)
        · rw [List.length_append]
          show cs.length + 1 ≤ i + 1
          omega
        · intro y hy
          rcases List.mem_append.mp hy with q | q
          · exact m2 y q
          · rw [List.mem_singleton] at q
            rw [q]
            exact ⟨Int.emod_nonneg _ (by decide), Int.emod_lt_of_pos _ (by decide)⟩
        · rw [upd_same, List.map_append]
          rfl
      · rw [List.length_map] at m1
        have hp' : H'' p = some (.dK []) := sm' p _ upd_same
        have hD' : H'' D = some (.lst (ws.map V.int)) := sm' D _ (by rw [upd_ne pD]; exact l3)
        have pC : C ≠ p := fun q => by rw [q, upd_same] at hC; cases hC
        refine ⟨hp', [(Sum.inr "wide", .ref D), (Sum.inr "cells", .ref C), (Sum.inr "rest", .int 0), (Sum.inr "turn", .int 0)], rfl, (by show 4 ≤ 15; decide), ?_⟩
        refine k _ p D C (fun b o e => ?_) ?_ hD ?_ ⟨⟨0, 0, Int.le_refl _, Int.le_refl _, Int.le_refl _, ?_⟩, ⟨ws, by omega, l2, ?_⟩, ⟨cs, by omega, m2, ?_⟩, ?_⟩
        · have bp : b ≠ p := fun q => by rw [q] at e; rw [sm p o e] at hp; cases hp
          rw [upd_ne bp]
          exact sm' b o (by rw [upd_ne bp]; exact sm b o e)
        · exact sm.free hp
        · exact sm.free ((sameNew hp).free hC)
        · rw [upd_same]
          rfl
        · rw [upd_ne pD]
          exact hD'
        · rw [upd_ne pC]
          exact m3
        · intro q
          rw [q, upd_ne pD, l3] at hC
          cases hC
theorem stockMono {H : Hp} {d w c : Addr} {n m : Nat} (S : Stock H d w c n) (h : n ≤ m) : Stock H d w c m :=
  let ⟨r, t, a, b, e, z⟩ := S.own
  ⟨⟨r, t, a, b, by omega, z⟩, S.wide, S.cells, S.apart⟩
theorem stockNe {H : Hp} {d w c : Addr} {n : Nat} (S : Stock H d w c n) : d ≠ w ∧ d ≠ c := by
  obtain ⟨r, t, _, _, _, z⟩ := S.own
  obtain ⟨ws, _, _, zw⟩ := S.wide
  obtain ⟨cs, _, _, zc⟩ := S.cells
  exact ⟨ne_of z zw (by intro q; cases q), ne_of z zc (by intro q; cases q)⟩
def But1 (d : Addr) (H H' : Hp) : Prop := ∀ b o, b ≠ d → H b = some o → H' b = some o
def spMixed : Sp := fun vs H Q _ => ∃ (d w c : Addr) (n : Nat), vs = [.ref d] ∧ Stock H d w c n ∧ n < 1000000 ∧
  ∀ (H' : Hp) (x : Int), But1 d H H' → Stock H' d w c (n + 1) → 0 ≤ x → Q (.int x) H'
abbrev drw (w c : Addr) (r t : Int) : List (Key × V) := [(Sum.inr "wide", .ref w), (Sum.inr "cells", .ref c), (Sum.inr "rest", .int r), (Sum.inr "turn", .int t)]
theorem drw_wide (w c : Addr) (r t : Int) : valV (drw w c r t) (Sum.inr "wide") = some (.ref w) := rfl
theorem drw_cells (w c : Addr) (r t : Int) : valV (drw w c r t) (Sum.inr "cells") = some (.ref c) := rfl
theorem drw_rest (w c : Addr) (r t : Int) : valV (drw w c r t) (Sum.inr "rest") = some (.int r) := rfl
theorem drw_turn (w c : Addr) (r t : Int) : valV (drw w c r t) (Sum.inr "turn") = some (.int t) := rfl
theorem drw_pt (w c : Addr) (r t u : Int) : putK (drw w c r t) (Sum.inr "turn") (.int u) = drw w c r u := rfl
theorem drw_pr (w c : Addr) (r t u : Int) : putK (drw w c r t) (Sum.inr "rest") (.int u) = drw w c u t := rfl
theorem gTurn {H : Hp} {d w c : Addr} {r t : Int} (h : H d = some (.dK (drw w c r t))) : DGet H d (.str "turn") (some (.int t)) := DGet.k (k := Sum.inr "turn") h
theorem gCells {H : Hp} {d w c : Addr} {r t : Int} (h : H d = some (.dK (drw w c r t))) : DGet H d (.str "cells") (some (.ref c)) := DGet.k (k := Sum.inr "cells") h
theorem gWide {H : Hp} {d w c : Addr} {r t : Int} (h : H d = some (.dK (drw w c r t))) : DGet H d (.str "wide") (some (.ref w)) := DGet.k (k := Sum.inr "wide") h
theorem gRest {H : Hp} {d w c : Addr} {r t : Int} (h : H d = some (.dK (drw w c r t))) : DGet H d (.str "rest") (some (.int r)) := DGet.k (k := Sum.inr "rest") h
theorem pTurn {H : Hp} {d w c : Addr} {r t u : Int} (h : H d = some (.dK (drw w c r t))) : DPut H d (.str "turn") (.int u) (upd H d (.dK (drw w c r u))) := DPut.k (k := Sum.inr "turn") h (by show 4 < sizeLine; decide)
theorem pRest {H : Hp} {d w c : Addr} {r t u : Int} (h : H d = some (.dK (drw w c r t))) : DPut H d (.str "rest") (.int u) (upd H d (.dK (drw w c u t))) := DPut.k (k := Sum.inr "rest") h (by show 4 < sizeLine; decide)
theorem ok_mixed {f : Addr} {fd : FuncData} (F : Fun K "_law_mixed" "_law_mixed" sMixed f fd) (B : Bare mg) : FnOk P w K mg base CX0 1 f fd ["draw"] spMixed := by
  refine F.ok scMixed (fun vs H Q E h => ?_) (fun cdv A outer s H vs Q E hr h => ?_)
  · obtain ⟨d, w, c, n, rfl, _⟩ := h
    rfl
  · obtain ⟨d, w, c, n, rfl, S, hn, k⟩ := h
    refine ⟨_, pss_cons (ps_par (i := 1) (j := 2) (by rfl) scMixed.nd rfl rfl (by decide) rfl rfl (pa_cons (pe_op op_add (pe_dget (hu_of hr) (pv 0) pe_str (fun _ _ => rfl)) pe_int) (pa_cons pe_int pa_nil)) (by rfl))
      (pss_cons (ps_dput (hu_of hr) (pv 0) pe_str (pv 1) rfl)
      (pss_cons (ps_for PassesOwn.never rfl (pi_list (pe_lst (pa_cons pe_int (pa_cons pe_int (pa_cons pe_int (pa_cons pe_int pa_nil)))))) (pg_name (i := 3) scMixed.nd rfl (Or.inl rfl))
        (pss_cons (ps_set (i := 4) scMixed.nd rfl (Or.inl rfl) (pe_op op_add (pe_op op_mul pe_int (pv 1)) (pe_op op_fdiv (pv 3) pe_int)))
        (pss_cons (ps_for PassesOwn.never rfl (pi_list (pe_dget (hu_of hr) (pv 0) pe_str (fun _ _ => rfl))) (pg_name (i := 5) scMixed.nd rfl (Or.inl rfl))
          (pss_one (ps_set (i := 4) scMixed.nd rfl (Or.inl rfl) (pe_op op_mod (pe_callTy call_int1 (by rfl) B.int (by decide +kernel) (pa_cons (pe_op op_add (pe_op op_add (pe_op op_mul (pv 4) pe_int) (pv 5)) (pv 1)) pa_nil)) (pv 3)))))
        (pss_one (ps_set (i := 2) scMixed.nd rfl (Or.inl rfl) (pe_op op_add (pe_op op_mul (pv 2) pe_int) (pe_op op_mod (pe_callTy call_int1 (by rfl) B.int (by decide +kernel) (pa_cons (pe_op op_pow (pv 4) pe_int) pa_nil)) (pv 3))))))))
      (pss_one (ps_ret (pv 2))))), ?_⟩
    obtain ⟨r, t, r0, t0, tn, hd⟩ := S.own
    obtain ⟨ws, lw, pw, hw⟩ := S.wide
    obtain ⟨cs, lc, pc, hc⟩ := S.cells
    have hne := stockNe S
    refine ⟨_, rfl, d, _, rfl, gTurn hd, _, _, rfl, rfl, _, _, rfl, _, rfl, _, rfl, d, _, rfl, pTurn hd, (by show 4 ≤ sizeLine; decide), fun l hl => ?_⟩
    have ld : l ≠ d := fun q => by rw [q, upd_same] at hl; cases hl
    have hl0 : H l = none := by rw [upd_ne ld] at hl; exact hl
    have cl : c ≠ l := fun q => by rw [← q, hc] at hl0; cases hl0
    have wl : w ≠ l := fun q => by rw [← q, hw] at hl0; cases hl0
    generalize hZ : upd (upd H d (.dK (drw w c r (t + 1)))) l (.lst ([2147483647, 2147483629, 2147483587, 2147483579].map V.int)) = Z
    have Zl : Z l = some (.lst ([2147483647, 2147483629, 2147483587, 2147483579].map V.int)) := by rw [← hZ, upd_same]
    have Zd : Z d = some (.dK (drw w c r (t + 1))) := by rw [← hZ, upd_ne (Ne.symm ld), upd_same]
    have Zc : Z c = some (.lst (cs.map V.int)) := by rw [← hZ, upd_ne cl, upd_ne (Ne.symm hne.2)]; exact hc
    have Zw : Z w = some (.lst (ws.map V.int)) := by rw [← hZ, upd_ne wl, upd_ne (Ne.symm hne.1)]; exact hw
    have Zk : But1 d H Z := fun b o bd e => by
      rw [← hZ, upd_ne (ne_of_none e hl0), upd_ne bd]
      exact e
    refine ⟨l, rfl, ⟨_, .inl (.inl (by rw [← hZ] at Zl; exact Zl))⟩, for_list (K := K) (a := l) (xs := [2147483647, 2147483629, 2147483587, 2147483579].map V.int)
      (fun i σ H' => ∃ (x : Int) (v1 v2 v3 : Option V), σ = [some (.ref d), some (.int (t + 1)), some (.int x), v1, v2, v3] ∧ 0 ≤ x ∧ Z = H') ⟨0, none, none, none, rfl, Int.le_refl _, hZ.symm⟩ (fun i σ H' _ ⟨_, _, _, _, _, _, e⟩ => .inl (.inl (by rw [← e]; exact Zl))) ?_ ?_⟩
    · rintro i y σ H' hi ⟨x, v1, v2, v3, rfl, hx, rfl⟩
      obtain ⟨p, hp, rfl⟩ := intAt hi
      have pp : 0 < p ∧ p ≤ 2147483647 := by
        have q := List.mem_of_getElem? hp
        simp only [List.mem_cons, List.not_mem_nil, or_false] at q
        omega
      have p1 := pp.1
      have p2 := pp.2
      refine ⟨_, rfl, _, _, rfl, rfl, .inl ⟨by decide, by decide⟩, _, rfl, _, _, rfl, rfl, ⟨by decide, by decide⟩, _, _, rfl, rfl, _, rfl, d, _, rfl, gCells Zd, c, rfl, ⟨_, .inl (.inl Zc)⟩,
        for_list (K := K) (a := c) (xs := cs.map V.int) (fun i σ H' => ∃ (b : Int) (v3 : Option V), σ = [some (.ref d), some (.int (t + 1)), some (.int x), some (.int p), some (.int b), v3] ∧ 0 ≤ b ∧ b < 2 ^ 60 ∧ Z = H')
          ⟨_, v3, rfl, ?_, ?_, rfl⟩ (fun i σ H' _ ⟨_, _, _, _, _, e⟩ => .inl (.inl (by rw [← e]; exact Zc))) ?_ ?_⟩
      · have q := Int.ediv_nonneg (a := p) (b := 23) (by omega) (by decide)
        show (0 : Int) ≤ 69621 * (t + 1) + p / 23
        omega
      · have q := Int.ediv_le_self 23 (a := p) (by omega)
        show 69621 * (t + 1) + p / 23 < 2 ^ 60
        omega
      · rintro j y σ H' hj ⟨b, v3, rfl, b0, b1, rfl⟩
        obtain ⟨z, hz, rfl⟩ := intAt hj
        refine ⟨_, rfl, _, _, rfl, rfl, .inl ⟨by omega, by omega⟩, _, rfl, _, _, rfl, rfl, _, rfl, _, _, rfl, rfl, Or.inl ⟨_, rfl, _, rfl, _, _, rfl, rfl, p1, _, _, rfl, ?_, ?_, rfl⟩⟩
        · exact Int.emod_nonneg _ (by omega)
        · have q := Int.emod_lt_of_pos (b * 48271 + z + (t + 1)) p1
          show (b * 48271 + z + (t + 1)) % p < 2 ^ 60
          omega
      · rintro σ H' ⟨b, v3, rfl, b0, b1, rfl⟩
        refine ⟨_, rfl, _, _, rfl, rfl, .inr ⟨by decide, by decide⟩, _, rfl, _, _, rfl, rfl, ⟨by decide, by decide, by omega⟩, Or.inl ⟨_, rfl, _, rfl, _, _, rfl, rfl, p1, _, _, rfl, rfl, _, _, _, _, rfl, ?_, rfl⟩⟩
        have q := Int.emod_nonneg (b ^ Int.toNat 5) (show p ≠ 0 by omega)
        show (0 : Int) ≤ x * 2147483647 + b ^ Int.toNat 5 % p
        omega
    · rintro σ H' ⟨x, v1, v2, v3, rfl, hx, rfl⟩
      exact ⟨_, rfl, k _ _ Zk ⟨⟨r, t + 1, r0, by omega, by omega, Zd⟩, ⟨ws, lw, pw, Zw⟩, ⟨cs, lc, pc, Zc⟩, S.apart⟩ hx⟩
def spTake : Sp := fun vs H Q _ => ∃ (d w c : Addr) (n : Nat) (z : Int), vs = [.ref d, .int z] ∧ Stock H d w c n ∧ n < 1000000 ∧ 0 < z ∧ z < 1000000 ∧
  ∀ (H' : Hp) (x : Int), But d w H H' → Stock H' d w c (n + 1) → 0 ≤ x → x < z → Q (.int x) H'
theorem dpInts {K : PySem.W.Frag} {H : Hp} : ∀ ws : List Int, DpAll K H (ws.map V.int) (ws.map PyData.int)
  | [] => .nil
  | x :: r => .cons (.int x) (dpInts r)
theorem layInts : ∀ ws : List Int, PyData.canLayAll0 (ws.map PyData.int) = true
  | [] => by simp only [List.map_nil, PyData.canLayAll0]
  | x :: r => by simp only [List.map_cons, PyData.canLayAll0, PyData.canLay0, layInts r, Bool.and_self]
theorem deepInts : ∀ ws : List Int, PyData.depthAll (ws.map PyData.int) = 0
  | [] => by simp only [List.map_nil, PyData.depthAll]
  | x :: r => by simp only [List.map_cons, PyData.depthAll, PyData.depth, deepInts r, Nat.max_self]
theorem shapedInts (ws : List Int) : SeqAt.shaped (.list (ws.map PyData.int)) = true := by
  unfold SeqAt.shaped
  simp only [PyData.canLay0, PyData.depth, layInts, deepInts]
  decide
theorem idx0 {n : Nat} (h : 0 < n) : seqIndex? 0 n = some 0 := by
  unfold seqIndex?
  have e : n ≠ 0 := by omega
  simp [e]
theorem eqNil (ws : List Int) : PyData.eqv (.list (ws.map PyData.int)) (.list []) = ws.isEmpty := by
  cases ws with
  | nil => rfl
  | cons x r => rfl
theorem ok_take {f fM : Addr} {fd fdM : FuncData} (F : Fun K "_law_take" "_law_take" sTake f fd) (B : Bare mg) (FM : Fun K "_law_mixed" "_law_mixed" sMixed fM fdM) (gM : mg "_law_mixed" = some (.ref fM)) (bM : Binds K fdM ["draw"] []) :
    FnOk P w K mg base CX0 2 f fd ["draw", "size"] spTake := by
  have GM : FnOk P w K mg base CX0 1 fM fdM ["draw"] spMixed := ok_mixed FM B
  refine F.ok scTake (fun vs H Q E h => ?_) (fun cdv A outer s H vs Q E hr h => ?_)
  · obtain ⟨d, w, c, n, z, rfl, _⟩ := h
    rfl
  · obtain ⟨d, w, c, n, z, rfl, S, hn, z0, z1, k⟩ := h
    refine ⟨_, C8.pss_cut (ps_if (pt_cmpR op_eq (pe_dget (hu_of hr) (pv 0) pe_str (fun _ _ => rfl)) pe_int (nomark _))
        (pss_one (ps_dput (hu_of hr) (pv 0) pe_str (pe_ifExp (pt_cmpR (op_neD hr.units) (pe_dget (hu_of hr) (pv 0) pe_str (fun _ _ => rfl)) (pe_lst pa_nil) (nomark _))
          (pe_bm PySem.F.plainAttrs_list PySem.F.slot_list_pop PySem.F.type_list_pop mt_popAt (pe_dget (hu_of hr) (pv 0) pe_str (fun _ _ => rfl)) (pa_cons pe_int pa_nil))
          (pe_call GM hr rfl gM FM.kp bM .nil pass0 (pa_cons (pv 0) pa_nil))) rfl)) pss_nil)
      (pss_cons (ps_set (i := 2) scTake.nd rfl (Or.inl rfl) (pe_op op_mod (pe_callTy call_int1 (by rfl) B.int (by decide +kernel) (pa_cons (pe_dget (hu_of hr) (pv 0) pe_str (fun _ _ => rfl)) pa_nil)) (pv 1)))
      (pss_cons (ps_dput (hu_of hr) (pv 0) pe_str (pe_op op_fdiv (pe_dget (hu_of hr) (pv 0) pe_str (fun _ _ => rfl)) (pv 1)) rfl)
      (pss_one (ps_ret (pv 2))))), ?_⟩
    have hne := stockNe S
    obtain ⟨r, t, r0, t0, tn, hd⟩ := S.own
    obtain ⟨ws, lw, pw, hw⟩ := S.wide
    obtain ⟨cs, lc, pc, hc⟩ := S.cells
    refine ⟨fun σ' H' => But d w H H' ∧ Stock H' d w c (n + 1) ∧ σ' = [some (.ref d), some (.int z), none], ?_, ?_⟩
    · refine ⟨_, rfl, d, _, rfl, gRest hd, rfl, _, rfl, ?_⟩
      refine ite2 (fun _ => ?_) (fun _ => ⟨fun b o _ _ e => e, stockMono S (Nat.le_succ n), rfl⟩)
      refine ⟨_, rfl, d, _, rfl, gWide hd, Nat.zero_le _, fun l hl => ?_⟩
      have ld : l ≠ d := fun q => by rw [q, hd] at hl; cases hl
      have lw' : l ≠ w := fun q => by rw [q, hw] at hl; cases hl
      have lc' : l ≠ c := fun q => by rw [q, hc] at hl; cases hl
      generalize hZ : upd H l (.lst []) = Z
      have Zl : Z l = some (.lst []) := by rw [← hZ, upd_same]
      have Zd : Z d = some (.dK (drw w c r t)) := by rw [← hZ, upd_ne (Ne.symm ld)]; exact hd
      have Zc : Z c = some (.lst (cs.map V.int)) := by rw [← hZ, upd_ne (Ne.symm lc')]; exact hc
      have Zw : Z w = some (.lst (ws.map V.int)) := by rw [← hZ, upd_ne (Ne.symm lw')]; exact hw
      have Zs : Same H Z := by rw [← hZ]; exact sameNew hl
      refine ⟨.list (ws.map PyData.int), .list [], ?_, ?_, ?_, rfl, _, rfl, ?_⟩
      · exact Dp.lst (.inl (.inl Zw)) (dpInts ws)
      · exact Dp.lst (.inl (.inl Zl)) .nil
      · exact shapedInts ws
      · cases ws with
        | nil =>
          refine ⟨_, rfl, d, w, c, n, rfl, ⟨⟨r, t, r0, t0, tn, Zd⟩, ⟨[], lw, pw, Zw⟩, ⟨cs, lc, pc, Zc⟩, S.apart⟩, hn, fun H' x b1 S' x0 => ?_⟩
          obtain ⟨r', t', r0', t0', tn', hd'⟩ := S'.own
          refine ⟨_, rfl, d, _, rfl, pRest hd', fun b o bd bw e => ?_, ⟨⟨x, t', x0, t0', tn', upd_same⟩, ?_, ?_, S.apart⟩, rfl⟩
          · rw [upd_ne bd]
            exact b1 b o bd (Zs b o e)
          · obtain ⟨ws, lw, pw, hw⟩ := S'.wide
            exact ⟨ws, lw, pw, by rw [upd_ne (Ne.symm hne.1)]; exact hw⟩
          · obtain ⟨cs, lc, pc, hc⟩ := S'.cells
            exact ⟨cs, lc, pc, by rw [upd_ne (Ne.symm hne.2)]; exact hc⟩
        | cons y rest =>
          refine ⟨_, rfl, d, _, rfl, gWide Zd, .inl ⟨rfl, _, .inl (.inl Zw)⟩, w, _, 0, 0, _, rfl, rfl, Zw, by decide, by decide, idx0 (by rw [List.length_map]; exact Nat.succ_pos _), rfl, ?_⟩
          have hdw : upd Z w (.lst (List.eraseIdx (List.map V.int (y :: rest)) 0)) d = some (.dK (drw w c r t)) := by rw [upd_ne hne.1]; exact Zd
          have cw : c ≠ w := S.apart
          refine ⟨_, rfl, d, _, rfl, pRest hdw, fun b o bd bw e => ?_, ⟨⟨y, t, pw y List.mem_cons_self, t0, by omega, upd_same⟩, ⟨rest, ?_, fun x hx => pw x (List.mem_cons_of_mem _ hx), ?_⟩, ⟨cs, lc, pc, ?_⟩, S.apart⟩, rfl⟩
          · rw [upd_ne bd, upd_ne bw]
            exact Zs b o e
          · have q : rest.length + 1 ≤ 63 := lw
            omega
          · rw [upd_ne (Ne.symm hne.1), upd_same]
            rfl
          · rw [upd_ne (Ne.symm hne.2), upd_ne cw]
            exact Zc
    · rintro σ' H' ⟨bt, S', rfl⟩
      obtain ⟨r, t, r0, t0, tn, hd⟩ := S'.own
      refine ⟨_, rfl, d, _, rfl, gRest hd, Or.inl ⟨_, rfl, _, rfl, _, _, rfl, rfl, z0, _, rfl, d, _, rfl, gRest hd, _, rfl, _, _, rfl, rfl, ⟨z0, by omega⟩, _, rfl, d, _, rfl, pRest hd, _, rfl, ?_⟩⟩
      have hne := stockNe S'
      refine k _ _ (fun b o bd bw e => ?_) ⟨⟨_, t, ?_, t0, tn, upd_same⟩, ?_, ?_, S'.apart⟩ (Int.emod_nonneg _ (by omega)) (Int.emod_lt_of_pos _ z0)
      · rw [upd_ne bd]
        exact bt b o bd bw e
      · exact Int.ediv_nonneg r0 (by omega)
      · obtain ⟨ws, lw, pw, hw⟩ := S'.wide
        exact ⟨ws, lw, pw, by rw [upd_ne (Ne.symm hne.1)]; exact hw⟩
      · obtain ⟨cs, lc, pc, hc⟩ := S'.cells
        exact ⟨cs, lc, pc, by rw [upd_ne (Ne.symm hne.2)]; exact hc⟩
/-- xs stands at l, as a list or as a tuple -/
def Seq (K : PySem.W.Frag) (H : Hp) (l : Addr) (xs : List V) : Prop := SqL K H l xs ∨ SqT K H l xs
theorem But.lst {d w l : Addr} {H H' : Hp} {xs : List V} {kvs : List (Key × V)} (b : But d w H H') (hd : H d = some (.dK kvs)) (nw : l ≠ w) (h : SqL K H l xs) : SqL K H' l xs := by
  rcases h with (h | ⟨o, h⟩) | h
  · exact .inl (.inl (b _ _ (ne_of h hd (by intro q; cases q)) nw h))
  · exact .inl (.inr ⟨o, b _ _ (ne_of h hd (by intro q; cases q)) nw h⟩)
  · exact .inr h
theorem But.tup {d w l : Addr} {H H' : Hp} {xs : List V} {kvs : List (Key × V)} {ys : List V} (b : But d w H H') (hd : H d = some (.dK kvs)) (hw : H w = some (.lst ys)) (h : SqT K H l xs) : SqT K H' l xs := by
  rcases h with (h | ⟨o, h⟩) | h
  · exact .inl (.inl (b _ _ (ne_of h hd (by intro q; cases q)) (ne_of h hw (by intro q; cases q)) h))
  · exact .inl (.inr ⟨o, b _ _ (ne_of h hd (by intro q; cases q)) (ne_of h hw (by intro q; cases q)) h⟩)
  · exact .inr h
/-- one of the items -/
def spPick (K : PySem.W.Frag) : Sp := fun vs H Q _ => ∃ (d w c l : Addr) (n : Nat) (xs : List V), vs = [.ref d, .ref l] ∧ Stock H d w c n ∧ n < 1000000 ∧ Seq K H l xs ∧ l ≠ w ∧ 0 < xs.length ∧ xs.length < 1000 ∧
  ∀ (H' : Hp) (i : Nat) (x : V), xs[i]? = some x → But d w H H' → Stock H' d w c (n + 1) → Q x H'
theorem ok_pick {f fT : Addr} {fd fdT : FuncData} (F : Fun K "_law_pick" "_law_pick" sPick f fd) (B : Bare mg) (GT : FnOk P w K mg base CX0 2 fT fdT ["draw", "size"] spTake) (gT : mg "_law_take" = some (.ref fT)) (kT : PySem.W.keepIn K (.ref fT) = true) (bT : Binds K fdT ["draw", "size"] []) :
    FnOk P w K mg base CX0 3 f fd ["draw", "some"] (spPick K) := by
  refine F.ok scPick (fun vs H Q E h => ?_) (fun cdv A outer s H vs Q E hr h => ?_)
  · obtain ⟨d, w, c, l, n, xs, rfl, _⟩ := h
    rfl
  · obtain ⟨d, w, c, l, n, xs, rfl, S, hn, hl, nw, l0, l1, k⟩ := h
    refine ⟨_, pss_one (ps_ret (pe_ix ix_seq (pv 1) (pe_call GT hr rfl gT kT bT .nil pass0 (pa_cons (pv 0) (pa_cons (pe_callB call_len_seq (by rfl) B.len PySem.boot_len (pa_cons (pv 1) pa_nil)) pa_nil))) (fun _ _ => rfl))), ?_⟩
    obtain ⟨r, t, r0, t0, tn, hd⟩ := S.own
    obtain ⟨ws, lw, pw, hw⟩ := S.wide
    refine ⟨_, rfl, _, rfl, _, rfl, l, xs, rfl, hl, d, w, c, n, _, rfl, S, hn, by omega, by omega, fun H' x bt S' x0 x1 => ?_⟩
    have hx : x.toNat < xs.length := by omega
    have e : xs[x.toNat]? = some xs[x.toNat] := List.getElem?_eq_getElem hx
    have ex : ((x.toNat : Nat) : Int) = x := Int.toNat_of_nonneg x0
    have ea : atI xs x = some xs[x.toNat] := by
      have q := atI_nat e
      rw [ex] at q
      exact q
    rcases hl with hl | hl
    · exact .inl ⟨l, xs, x, _, rfl, rfl, bt.lst hd nw hl, ea, k _ _ _ e bt S'⟩
    · exact .inr (.inl ⟨l, xs, x, _, rfl, rfl, bt.tup hd hw hl, ea, k _ _ _ e bt S'⟩)
end
end Draw
namespace Gd
open PySem PySem.Spec PyProof.Rows L2
/-! A def's promise where no repr is under way: what FnOk says, and besides that the stack of displays is known to be empty. -/
structure FnG (P : Program) (w : World) (K : PySem.W.Frag) (mg : Str → Option Value) (base : Heap) (CX : CXT) (k : Nat) (f : Addr) (fd : FuncData) (ps : List Str) (sp : Sp) : Prop where
  arity : ∀ vs H Q E, sp vs H Q E → vs.length = ps.length
  goes : ∀ (A : Around) (outer : List Env) (s : Shared) (H : Hp) (args : Args) (us : List Value) (vs : List V) (Q : VK) (E : XK), Room k A → A.guards = some [] →
    Env0 P w K mg base A outer s H → BindsTo s fd args (ps.zip us) → Vals vs us → sp vs H Q E → codeAny (model P w) A (.call (.ref f) args) (CR CX outer P w H s Q E) s
section
variable {P : Program} {w : World} {K : PySem.W.Frag} {mg : Str → Option Value} {base : Heap} {CX : CXT} {k : Nat} {f : Addr} {fd : FuncData} {ps : List Str} {sp : Sp}
theorem ofOk (F : FnOk P w K mg base CX k f fd ps sp) : FnG P w K mg base CX k f fd ps sp :=
  ⟨F.len, fun A outer s H args us vs Q E r _ e b v h => F.run A outer s H args us vs Q E r e b v h⟩
theorem bodyG {x qual : Str} {st : Stmt} {N : List Str} (F : Fun K x qual st f fd) (S : FnScope N ps (defScope st)) (ar : ∀ vs H Q E, sp vs H Q E → vs.length = ps.length)
    (hb : ∀ (cdv : Value) (A : Around) (outer : List Env) (s : Shared) (H : Hp) (vs : List V) (Q : VK) (E : XK), Room k (A.deeper (envOfC qual (defScope st) s.heap.objs.size f cdv)) →
      (cxOf CX P w K mg base N qual (defScope st) f cdv A outer s H E).A.guards = some [] → sp vs H Q E →
      ∃ t, PSs (cxOf CX P w K mg base N qual (defScope st) f cdv A outer s H E) (defBody st) t ∧ t { nx := fun _ H' => Q .non H', rt := Q } (start N vs) H) :
    FnG P w K mg base CX (k + 1) f fd ps sp := by
  obtain ⟨oc, od, kV, doc, pm, an, cdv, ct, osl, rfl, look, code⟩ := F.ex
  constructor
  · exact ar
  intro A outer s H args us vs Q E room gd env binds vals want
  have inK : K.In s.heap := env.mod.kin.keeps fun b o z => (env.bs b o z).1
  have noLim : s.heap.NoLimit := env.mod.nolimit.keeps fun b o z => (env.bs b o z).1
  have kinds : ∀ y ∈ ps.zip us, (defScope st).names.lookup y.1 = some .local ∨ ((defScope st).names.lookup y.1 = some .cell ∧ ((cellsFrom (s.heap.objs.size + 1) (defScope st).names []).lookup y.1).isSome = true) := by
    rintro ⟨n, v⟩ hy
    have z := S.par n (List.of_mem_zip hy).1
    exact z.imp (fun q => q) fun q => ⟨q, PySem.W.cellsFrom_some _ _ _ (.inl q)⟩
  apply codeAny_call_function room.depth (inK _ _ look) rfl S.co S.gen rfl (PySem.W.codeRec_of inK code)
  apply binds
  refine wpAny_newFunctionEnv_cells S.kind kinds fun ev hev s1 laid => ?_
  subst hev
  refine And.intro (noLim.keeps laid.toInCall.keep) (codeAny_func ?_)
  obtain ⟨t, ht, hq⟩ := hb cdv A outer s H vs Q E (room.deeper _) gd want
  have I := inv_start (CX := CX) (P := P) (w := w) (N := N) (E := E) S room.hd env (ar _ _ _ _ want) vals laid
  refine wpAny_mono (ht.run [] s1 (start N vs) H _ I hq) (fun fl s' out => ?_) fun e s' out => out
  match fl, out with
  | .ret u, ⟨v, σ', H', J, rv, q⟩ => exact ⟨v, H', J.os, J.bare, J.base, J.hok, rv, q⟩
  | .next, ⟨σ', H', J, q⟩ => exact ⟨V.non, H', J.os, J.bare, J.base, J.hok, rfl, q⟩
  | .brk, ⟨_, _, _, q⟩ => exact q.elim
  | .cont, ⟨_, _, _, q⟩ => exact q.elim
/-- the same for a def that no exception leaves -/
theorem bodyG0 {x qual : Str} {st : Stmt} {N : List Str} (F : Fun K x qual st f fd) (S : FnScope N ps (defScope st)) (ar : ∀ vs H Q E, sp vs H Q E → vs.length = ps.length)
    (hb : ∀ (cdv : Value) (A : Around) (outer : List Env) (s : Shared) (H : Hp) (vs : List V) (Q : VK) (E : XK), Room k (A.deeper (envOfC qual (defScope st) s.heap.objs.size f cdv)) →
      (cxOf CX0 P w K mg base N qual (defScope st) f cdv A outer s H E).nox.A.guards = some [] → sp vs H Q E →
      ∃ t, PSs (cxOf CX0 P w K mg base N qual (defScope st) f cdv A outer s H E).nox (defBody st) t ∧ t { nx := fun _ H' => Q .non H', rt := Q } (start N vs) H) :
    FnG P w K mg base CX0 (k + 1) f fd ps sp := by
  refine bodyG F S ar fun cdv A outer s H vs Q E room gd want => ?_
  obtain ⟨t, ht, hq⟩ := hb cdv A outer s H vs Q E room gd want
  exact ⟨t, ht.nox, hq⟩
end
section
variable {X : Cx} {CX : CXT} {k : Nat} {f : Addr} {fd : FuncData} {ps : List Str} {sp : Sp} {dvs : List V} {ds : List Value} {E : XK} {x : Str} {p pos : Pos} {e : Expr} {es : List Expr} {t : TA}
theorem runG {pins : List (Addr × Obj)} {σ : L2.St} {H : Hp} {s : Shared} {Q : VK} {us : List Value} {vs : List V} (F : FnG X.prog X.w X.K X.mg X.base CX k f fd ps sp) (room : Room k X.A) (gd : X.A.guards = some []) (bi : Binds X.K fd ps ds) (dv : Vals dvs ds)
    (px : Passes CX X E) (I : Inv X pins σ H s) (r : Vals vs us) (want : sp (vs ++ dvs) H Q E) : wpAny (model X.prog X.w) X.A (call (.ref f) us) (EP X pins σ Q) X.xe s := by
  have both := r.append dv
  have ll : (us ++ ds).length = ps.length := both.length.symm.trans (F.arity _ _ _ _ want)
  have run := F.goes X.A X.stack s H ⟨us, []⟩ _ _ Q E room gd I.env0 (bi s us I.kIn ll) both want
  refine wpAny_call (codeAny_mono run fun res s' out => ?_)
  match res, out with
  | .error er, out => exact px pins σ H s er s' I out
  | .ok (.ret u), out => exact I.after out
  | .ok .next, out => exact (show False from out).elim
  | .ok .brk, out => exact (show False from out).elim
  | .ok .cont, out => exact (show False from out).elim
/-- f(e, ..) -/
theorem pe_callG (F : FnG X.prog X.w X.K X.mg X.base CX k f fd ps sp) (room : Room k X.A) (gd : X.A.guards = some []) (hg : Gl X x) (hm : X.mg x = some (.ref f)) (kp : PySem.W.keepIn X.K (.ref f) = true) (bi : Binds X.K fd ps ds) (dv : Vals dvs ds)
    (px : Passes CX X E) (ha : PA X (e :: es) t) (n1 : (x == ("__debug__" : Str)) = false := by decide) (n2 : starEach (e :: es) X.env = (false, eval e X.env) :: starEach es X.env := by rfl)
    (n3 : (backTo pos (starEach es X.env)).any (·.1) = false := by rfl) : PE X (.Call (.Name x p) (e :: es) [] pos) (tCall sp dvs E t) := by
  constructor
  intro pins s σ H Q I want
  apply wpAny_Call_Name_kw
  apply ld_glob I hg hm _ n1
  apply PySem.W.callWith_K (h₀ := X.base) I.ok.mod.kin kp _ n2 n3
  exact thn (ha.run pos pins s σ H _ I want) fun us s1 ⟨vs, H1, I1, r, q⟩ => ⟨I1.kIn, runG F room gd bi dv px I1 r q⟩
/-- what stands in H under x, whatever the run, is the datum d -/
def Shown (P : Program) (w : World) (K : PySem.W.Frag) (H : Hp) (x : V) (d : PyData) : Prop := ∀ (X : Cx), X.prog = P → X.w = w → X.K = K → ∀ (pins : List (Addr × Obj)) (σ : L2.St) (s : Shared) (u : Value), Inv X pins σ H s → RelV x u → ∃ as, Reads s.heap u d as ∧ (d.hasDict = true → sysModules ∉ as)
theorem shown_dp {P : Program} {w : World} {K : PySem.W.Frag} {H : Hp} {x : V} {d : PyData} (h : Dp K H x d) (nd : d.hasDict = false) : Shown P w K H x d := fun X _ _ eK pins σ s u I r => by
  subst eK
  obtain ⟨as, q⟩ := Dp.reads I d x u h r
  exact ⟨as, q, fun z => by rw [nd] at z; cases z⟩
/-- repr(x) -/
def rShow (P : Program) (w : World) (K : PySem.W.Frag) : List V → Hp → VK → Prop := fun xs H Q => ∃ (x : V) (d : PyData), xs = [x] ∧ Shown P w K H x d ∧ d.showable = true ∧ d.depth ≤ 40 ∧ d.shown.length ≤ sizeLine ∧ Q (.str d.shown) H
theorem call_show (gd : X.A.guards = some []) (hu : X.A.units + 64 < cLine) : CallR X (.builtin "repr") (rShow X.prog X.w X.K) := by
  intro pins s σ H xs us Q I r h
  obtain ⟨x, d, rfl, hd, h1, h3, h4, q⟩ := h
  obtain ⟨u, rfl, rx⟩ := vals1 r
  obtain ⟨as, rd, hm⟩ := hd X rfl rfl rfl pins σ s u I rx
  have out : ∀ (h' : Heap) (u' : Tok) (tk : Nat), (∀ b o, s.heap.get? b = some o → h'.get? b = some o) → EP X pins σ Q (.str d.shown u') { s with heap := h', toks := tk } := fun h' u' tk kp =>
    ⟨.str d.shown, H, I.kept kp, ⟨u', rfl⟩, q⟩
  cases u with
  | ref a => exact repr_of_reads' rd h1 hm gd (by omega) (fun b o e => e) out h4
  | none => cases rd; exact PySem.P.repr_of_none (out s.heap _ _ fun _ _ e => e)
  | bool b => cases rd; exact PySem.P.repr_of_bool (out s.heap _ _ fun _ _ e => e)
  | int i t => cases rd; exact PySem.P.repr_of_int (of_decide_eq_true h1) (out s.heap _ _ fun _ _ e => e)
  | str z t => cases rd; exact PySem.P.repr_of_str (out s.heap _ _ fun _ _ e => e) h4
  | _ => cases rd
/-- the same within a comprehension -/
theorem call_showB {Y : Cx} {A0 : Around} {P : Program} {w : World} {K : PySem.W.Frag} (gd : A0.guards = some []) (hu : A0.units + 64 < cLine) (e1 : Y.A = A0) (e2 : Y.prog = P) (e3 : Y.w = w) (e4 : Y.K = K) : CallR Y (.builtin "repr") (rShow P w K) := by
  subst e1 e2 e3 e4
  exact call_show gd hu
/-- a dict of one text key and an int -/
theorem shown_dict1 {P : Program} {w : World} {K : PySem.W.Frag} {H : Hp} {a : Addr} {k : Str} {i : Int} (h : H a = some (.dK [(Sum.inr k, .int i)])) : Shown P w K H (.ref a) (.dict [(.str k, .int i)]) := fun X _ _ _ pins σ s u I r => by
  obtain rfl : u = Value.ref a := r
  obtain ⟨hz, hsys, vs, kv, o, es, ep, h1, h2, h3, h4, h5, h6⟩ := I.hok a _ h
  cases kv with
  | cons q r2 =>
    cases r2
    rename_i pr
    obtain ⟨pk, pv⟩ := pr
    obtain ⟨e1, t, e2⟩ := q
    dsimp only at e1 e2
    subst e1 e2
    have hes : ∃ e, es.toList = [e] ∧ keyIs (Sum.inr k) e.key = true ∧ e.val = .int i t := by
      cases hE : es.toList with
      | nil => rw [hE] at h5; cases h5
      | cons e rest =>
        rw [hE] at h5
        cases h5 with
        | cons p1 p2 p3 =>
          cases p3
          exact ⟨e, rfl, p1, p2⟩
    obtain ⟨e, hE, hk, hv⟩ := hes
    obtain ⟨tk, ek⟩ := Value.isStrOf_shape (x := k) (v := e.key) hk
    refine ⟨_, Reads.dict h1 h2.1 h3 (as := []) (bs := []) ?_ ?_, fun _ m => ?_⟩
    · rw [hE]
      show ReadsAll _ [e.key] _ _
      rw [ek]
      exact ReadsAll.cons (as := []) (bs := []) (Reads.str _ _) .nil
    · rw [hE]
      show ReadsAll _ [e.val] _ _
      rw [hv]
      exact ReadsAll.cons (as := []) (bs := []) (Reads.int _ _) .nil
    · have q : sysModules = a := by simpa using m
      rw [q] at hsys
      simp at hsys
end
/-! ### the law's own call: no display is under way there -/
section
variable {P : Program} {w : World} {K : PySem.W.Frag} {mg mb : Str → Option Value} {k : Nat} {fa a : Addr} {fd : FuncData} {x : Str} {sp : Sp} {s : Shared} {vs : List Value} {ns : List Int}
theorem lawG (inK : K.In s.heap) (gl : s.heap.Ns mainGlobals mg) (bl : s.heap.Ns builtinsNs mb) (blt : ∀ y : Str, y ≠ "__name__" → mb y = bootBuiltins y) (noLim : s.heap.NoLimit) (gens : s.gens = #[])
    (obj : s.heap.get? a = some { cls := .type "list", data := .seq vs.toArray }) (nums : IntsAre vs ns) (len : ns.length ≤ sizeLine) (room : Room k callerA)
    (F : ∀ base : Heap, K.In base → base.Ns mainGlobals mg → FnG P w K mg base CX0 k fa fd [x] sp) (bind : ∀ (s : Shared) (u : Value), BindsTo s fd ⟨[u], []⟩ [(x, u)])
    (want : ∀ H : Hp, SqL K H a (ns.map V.int) → sp [.ref a] H (fun v _ => v = .bl true) fun _ _ _ => False) :
    codeAny (model P w) callerA (.call (.ref fa) ⟨[.ref a], []⟩) (fun r s' => r = .ok (.ret (.bool true)) ∧ OldK s.heap s'.heap ∧ s'.os = s.os ∧ AllBare s'.gens) s := by
  have rel := vals_ints nums
  have main : ∀ H : Hp, SqL K H a (ns.map V.int) → HOk P w H s.heap → (∀ b u, H b = some u → b = a ∧ K.lookup a = none ∧ ∃ o xs, u = .frz o (.lst xs)) →
      codeAny (model P w) callerA (.call (.ref fa) ⟨[.ref a], []⟩) (fun r s' => r = .ok (.ret (.bool true)) ∧ OldK s.heap s'.heap ∧ s'.os = s.os ∧ AllBare s'.gens) s := by
    intro H sq ok only
    have isDict : ∀ {b : Addr} {o : Obj} {es : Array DictEntry} {n : Nat}, s.heap.get? b = some o → o.data = .dict es n → H b = none := by
      intro b o es n g d
      cases hb : H b with
      | none => rfl
      | some u =>
        obtain ⟨rfl, _, _⟩ := only b u hb
        rw [obj] at g
        cases g
        cases (show Data.seq vs.toArray _ = Data.dict es n from d)
    have ns' : ∀ {b : Addr} {m : Str → Option Value}, s.heap.Ns b m → (hidT s.heap H).Ns b m := fun ⟨o, es, n, g, d, r⟩ => ⟨o, es, n, hidT_get g (isDict g d), d, r⟩
    have inK' : K.In (hidT s.heap H) := fun b o g => hidT_get (inK b o g) (by
      cases hb : H b with
      | none => rfl
      | some u =>
        obtain ⟨rfl, q, _⟩ := only b u hb
        rw [q] at g
        cases g)
    obtain ⟨mc, c1, c2⟩ := noLim
    have env : Env0 P w K mg (hidT s.heap H) callerA [] s H := by
      constructor
      · rfl
      · exact ⟨inK', ns' gl, ⟨mb, ns' bl, blt⟩, ⟨mc, ns' c1, c2⟩⟩
      · exact fun b o g => of_hidT g
      · exact Nat.le_of_eq (hidT_size _ _)
      · trivial
      · intro b hb
        exact nomatch hb
      · exact ok
      · exact .of_eq gens
    have run := (F _ inK' (ns' gl)).goes callerA [] s H ⟨[.ref a], []⟩ [.ref a] [.ref a] _ _ room rfl env (bind s (.ref a)) (.cons rfl .nil) (want H sq)
    refine codeAny_mono run fun r s' out => ?_
    match r, out with
    | .error e, out => exact (show False from out).elim
    | .ok .next, out => exact (show False from out).elim
    | .ok .brk, out => exact (show False from out).elim
    | .ok .cont, out => exact (show False from out).elim
    | .ok (.ret u), ⟨v, H', os, bare, un, ok', rv, q⟩ =>
      subst q
      obtain rfl : u = Value.bool true := rv
      refine ⟨rfl, OldK.of_keep fun b o g => ?_, os, bare⟩
      cases hb : H b with
      | none => exact un.keep b o g hb (fun z => nomatch z) (fun z => nomatch z)
      | some u =>
        obtain ⟨_, _, ob, xs, rfl⟩ := only b u hb
        have g1 := (show s.heap.get? b = some ob from (ok b _ hb).1)
        have g2 := (show s'.heap.get? b = some ob from (ok' b _ (un.frzs b ob _ hb)).1)
        rw [g1] at g
        cases g
        exact g2
  cases hk : K.lookup a with
  | some o =>
    have g := inK a o hk
    rw [obj] at g
    cases g
    exact main (fun _ => none) (.inr ⟨_, vs.toArray, _, hk, rfl, rfl, rfl, by rw [List.size_toArray, nums.length]; exact len, by simpa using rel⟩) (fun b u z => nomatch z) fun b u z => nomatch z
  | none =>
    have at_a : ∀ {b : Addr} {u : HO}, (fun b => if b = a then some (HO.frz { cls := .type "list", data := .seq vs.toArray } (.lst (ns.map V.int))) else none) b = some u → b = a ∧ u = .frz { cls := .type "list", data := .seq vs.toArray } (.lst (ns.map V.int)) := by
      intro b u z
      dsimp only at z
      split at z
      · cases z
        exact ⟨by assumption, rfl⟩
      · cases z
    refine main (fun b => if b = a then some (.frz { cls := .type "list", data := .seq vs.toArray } (.lst (ns.map V.int))) else none) (.inl (.inr ⟨_, if_pos rfl⟩)) (fun b u z => ?_) fun b u z => ?_
    · obtain ⟨rfl, rfl⟩ := at_a z
      exact ⟨obj, by rw [List.length_map]; exact len, vs, _, rel, obj⟩
    · obtain ⟨rfl, rfl⟩ := at_a z
      exact ⟨rfl, hk, _, _, rfl⟩
/-- the end of a law's row -/
theorem walkG {l : PySem.W.OpenLaw} {n k : Nat} {q : Program} {loose : List Str} {XP : (Str → Option Value) → Heap → Prop} {YP : World → Heap → Prop} {d : DefRec} {K : Params → PySem.W.Frag} {sp : PySem.W.Frag → Sp} {x : Str}
    (most : l.most = some n) (small : n ≤ sizeLine) (noD : d.params.defaults = []) (room : Room k callerA) (inK : ∀ (w : World) (h : Heap), YP w h → (K w.params).In h)
    (F : ∀ (w : World) (mg : Str → Option Value) (fa : Addr) (h : Heap), (K w.params).In h → h.Ns mainGlobals mg → mg d.name = some (.ref fa) →
      ∃ fd : FuncData, (∀ (s : Shared) (u : Value), BindsTo s fd ⟨[u], []⟩ [(x, u)]) ∧ ∀ base : Heap, (K w.params).In base → base.Ns mainGlobals mg → FnG l.prog w (K w.params) mg base CX0 k fa fd [x] (sp (K w.params)))
    (want : ∀ (K : PySem.W.Frag) (H : Hp) (a : Addr) (ns : List Int), ns.length ≤ n → SqL K H a (ns.map V.int) → sp K [.ref a] H (fun v _ => v = .bl true) fun _ _ _ => False) :
    PySem.W.WalkO q loose XP YP l.row.toRowW d [] (fun f vs => PySem.call f vs) := by
  refine Att.attach_call most noD fun w s₀ s mg mb fa o pm cd doc a vs ns G Y _ _ _ named obj nums len gens => ?_
  have X := inK w _ Y
  obtain ⟨fd, bind, prom⟩ := F w mg fa _ X G.T.g named
  exact lawG X G.T.g G.T.b G.T.builtins G.T.nolimit gens obj nums (Nat.le_trans len small) room prom bind fun H sq => want _ H a ns len sq
end
end Gd
namespace Kx
open PySem
/-! An own error made by a call with keywords. -/
section
variable {M : Model} {A : Around} {E : Value → Shared → Prop} {h : Heap} {g : Array GenState} {d : Drawn} {t : Nat} {os : OsState}
variable {nm q : Str} {C N : Addr} {bs bm bmB : List Value} {hdct : Bool} {sn : List Str} {sub : List Value} {ab : Bool} {col : Option Bool} {dd : Option Addr} {k0 k1 k2 k3 k5 : Option Value} {B newId initId : String}
theorem newAsk (F : ExcBaseFacts B newId initId bmB) (has : ∀ X : String, bm.contains (.type X) = bmB.contains (.type X)) {pos : List Value} {kw : List (Str × Value)} {Q : Unit → Shared → Prop}
    (hC : h.get? C = some (excClassObj nm q C N bs bm hdct sn sub ab col dd k0 k1 k2 k3 k5 newId)) (want : Q () ⟨h, g, d, t, os⟩) : wpAny M A (checkBuiltinCall newId ⟨.ref C :: pos, kw⟩) Q E ⟨h, g, d, t, os⟩ := by
  have isB : (Value.ref C :: bm).contains (.type B) = true := by rw [List.contains_cons, has, F.hasB, Bool.or_true]
  have st := F.noStar
  simp only [checkBuiltinCall, F.newKind, F.newSplit, F.newRow]
  repeat (first
    | refine wpAny_loadPart_at hC ?_
    | (refine wpAny_isSubtype_exc hC ?_; rw [isB])
    | refine wpAny_staticBase_exc hC ?_
    | refine wpAny_madeBy_exc hC ?_
    | simp only [bne_self_eq_false, Bool.false_eq_true, if_false]
    | wp_step)
  exact want
theorem callAsk {pos : List Value} {kw : List (Str × Value)} {Q : Unit → Shared → Prop} (hC : h.get? C = some (excClassObj nm q C N bs bm hdct sn sub ab col dd k0 k1 k2 k3 k5 newId)) (want : Q () ⟨h, g, d, t, os⟩) :
    wpAny M A (checkBuiltinCall "type.__call__" ⟨.ref C :: pos, kw⟩) Q E ⟨h, g, d, t, os⟩ := by
  have f3 := tc_sub
  have isT : (⟨h, g, d, t, os⟩ : Shared).TypeIs (.ref C) "type" := ⟨_, hC, rfl⟩
  simp only [checkBuiltinCall, tc_kind, tc_split]
  repeat any_goals (first
    | assumption
    | with_reducible refine wpAny_loadPart_at hC ?_
    | wp_step)
end
section
variable {prog : Program} {w : World} {A : Around} {E : Value → Shared → Prop} {R : Result → Shared → Prop} {h : Heap} {g : Array GenState} {d : Drawn} {t : Nat} {os : OsState}
variable {nm q : Str} {C N : Addr} {bs bm bmB : List Value} {hdct : Bool} {sn : List Str} {sub : List Value} {ab : Bool} {col : Option Bool} {dd : Option Addr} {k0 k1 k2 k3 k5 : Option Value} {B newId initId : String}
theorem newMake (F : ExcBaseFacts B newId initId bmB) (has : ∀ X : String, bm.contains (.type X) = bmB.contains (.type X)) {pos : List Value} {kw : List (Str × Value)}
    (hC : h.get? C = some (excClassObj nm q C N bs bm hdct sn sub ab col dd k0 k1 k2 k3 k5 newId))
    (want : R (.ok (.ret (.ref (h.objs.size + 1)))) ⟨(h.push { cls := .type "tuple", data := .seq pos.toArray }).push { cls := .ref C, data := .fields #[.ref h.objs.size, .none, .none, .none, .bool false, .none] }, g, d, t, os⟩) (few : pos.length ≤ sizeLine) :
    codeAny (model prog w) A (.builtin newId ⟨.ref C :: pos, kw⟩) R ⟨h, g, d, t, os⟩ := by
  have en := F.ends
  have isB : (Value.ref C :: bm).contains (.type B) = true := by rw [List.contains_cons, has, F.hasB, Bool.or_true]
  have noA : (Value.ref C :: bm).contains (.type "AttributeError") = false := by rw [List.contains_cons, has, F.noAttr] <;> rfl
  have noN : (Value.ref C :: bm).contains (.type "NameError") = false := by rw [List.contains_cons, has, F.noName] <;> rfl
  apply codeAny_builtinAt F.entry
  unfold Builtin.«BaseException.__new__»
  apply wpAt_bind
  show wpAt _ _ _ (stack >>= _) _ _ _
  refine wpAt_bind (wpAt_stack fun p below => wpAt_of_wpAny ?_)
  wp_walk
  apply wpAt_of_wpAny
  rw [F.owner]
  repeat (first
    | with_reducible refine wpAny_madeHere_exc F.canon hC ?_
    | with_reducible refine wpAny_loadPart_at hC ?_
    | (with_reducible refine wpAny_isSubtype_exc hC ?_; first | rw [isB] | rw [noA] | rw [noN])
    | wp_step)
  show R _ _
  rw [Heap.size_push]
  exact want
theorem typeCall (F : ExcBaseFacts B newId initId bmB) (has : ∀ X : String, bm.contains (.type X) = bmB.contains (.type X)) {pos : List Value} {kw : List (Str × Value)} {fI : Addr} {Q : Fin → Shared → Prop}
    (hC : h.get? C = some (excClassObj nm q C N bs bm hdct sn sub ab col dd k0 k1 k2 k3 k5 newId)) (ini : W.Looks (model prog w) h (typeLookup (.ref C) "__init__") (some (.ref fI)))
    (bnd : ∀ self, W.Looks (model prog w) h (bindSpecial (.ref fI) self) (.ref fI, [self])) (few : pos.length ≤ sizeLine)
    (want : codeAny (model prog w) A (.call (.ref fI) ⟨.ref (h.objs.size + 1) :: pos, kw⟩) (fun r s' => match r with | .ok (.ret v) => v = .none ∧ Q (.done (.ret (.ref (h.objs.size + 1)))) s' | .ok _ => False | .error e => E e s')
      ⟨(h.push (W.kdv_tup pos)).push (HandSPX.excO C h.objs.size), g, d, t, os⟩) : wpAny (model prog w) A (Builtin.«type.__call__» ⟨.ref C :: pos, kw⟩) Q E ⟨h, g, d, t, os⟩ := by
  repeat (first | with_reducible refine wpAny_loadPart_at hC ?_ | with_reducible refine wpAny_madeBy_exc hC ?_ | wp_step)
  refine codeAny_call_builtin_code (Code.quiet_builtin _ F.quiet) (newAsk F has hC ?_)
  refine newMake F has hC ?_ few
  show wpAny _ _ _ _ _ _
  have keep : ∀ b o, h.get? b = some o → ((h.push (W.kdv_tup pos)).push (HandSPX.excO C h.objs.size)).get? b = some o := fun b o z => Heap.get?_push_of_some _ (Heap.get?_push_of_some _ z)
  have hC1 := keep _ _ hC
  have made : ((h.push (W.kdv_tup pos)).push (HandSPX.excO C h.objs.size)).get? (h.objs.size + 1) = some (HandSPX.excO C h.objs.size) := by heap_get
  have isC : (Value.ref C :: bm).contains (.ref C) = true := by simp
  have ini1 := ini.keeps keep
  have bnd1 := (bnd (.ref (h.objs.size + 1))).keeps keep
  unfold isInstance
  repeat (first | with_reducible refine wpAny_loadPart_at made ?_ | (with_reducible refine wpAny_isSubtype_exc hC1 ?_; rw [isC]) | wp_step)
  show wpAny _ _ (typeLookup (.ref C) _) _ _ _
  apply ini1.at
  refine wpAny_holding (wpAny_bind (bnd1.at ?_))
  refine wpAny_bind (wpAny_call (codeAny_mono want fun r s' z => ?_))
  rcases r with e | (v | _ | _ | _) <;> first | exact z | exact z.elim | skip
  obtain ⟨rfl, z⟩ := z
  first
    | exact wpAny_pure (wpAny_pure z)
    | (wp_walk; exact z)
theorem made (F : ExcBaseFacts B newId initId bmB) (has : ∀ X : String, bm.contains (.type X) = bmB.contains (.type X)) {pos : List Value} {kw : List (Str × Value)} {fI : Addr}
    (hC : h.get? C = some (excClassObj nm q C N bs bm hdct sn sub ab col dd k0 k1 k2 k3 k5 newId)) (ini : W.Looks (model prog w) h (typeLookup (.ref C) "__init__") (some (.ref fI)))
    (bnd : ∀ self, W.Looks (model prog w) h (bindSpecial (.ref fI) self) (.ref fI, [self])) (few : pos.length ≤ sizeLine)
    (want : codeAny (model prog w) (A.under (.builtin "type.__call__" ⟨.ref C :: pos, kw⟩)) (.call (.ref fI) ⟨.ref (h.objs.size + 1) :: pos, kw⟩) (W.InitBack (h.objs.size + 1) R) ⟨(h.push (W.kdv_tup pos)).push (HandSPX.excO C h.objs.size), g, d, t, os⟩) :
    codeAny (model prog w) A (.call (.ref C) ⟨pos, kw⟩) R ⟨h, g, d, t, os⟩ := by
  have f1 := tc_lookup
  have f2 := tc_bind (.ref C)
  have isT : (⟨h, g, d, t, os⟩ : Shared).TypeIs (.ref C) "type" := ⟨_, hC, rfl⟩
  apply codeAny_of_tree
  show wpAny _ _ (callAny (.ref C) _) _ _ _
  repeat any_goals (first
    | assumption
    | with_reducible refine wpAny_loadPart_at hC ?_
    | wp_step)
  refine ⟨rfl, ?_⟩
  refine codeAny_call_builtin_at (Code.quiet_builtin _ (by decide +kernel)) entry_typeCall (callAsk hC (typeCall F has hC ini bnd few ?_))
  refine codeAny_mono want fun r s' z => ?_
  rcases r with e | (v | _ | _ | _) <;> exact z
end
end Kx
namespace Er
open PySem PySem.Spec PyProof.Rows L2
open PySem.W (fnX envX)
/-! The errors of the package: each __init__ says super().__init__('..'), then keeps a copy of what it was given. -/
/-- the form of such an __init__ -/
structure Form (st : Stmt) (par field : Str) : Prop where
  kind : (defScope st).kind = .function
  co : (defScope st).isCoroutine = false
  gen : (defScope st).isGenerator = false
  nocell : ∀ y ∈ (defScope st).names, y.2 ≠ .cell
  free : ∀ y ∈ (defScope st).names, y.2 = .free → y.1 = "__class__"
  lself : (defScope st).names.lookup ("self" : Str) = some .local
  lpar : (defScope st).names.lookup par = some .local
  lsuper : (defScope st).names.lookup ("super" : Str) = some .globalImplicit
  lcopied : (defScope st).names.lookup ("copied" : Str) = some .globalImplicit
  lclass : (defScope st).names.lookup ("__class__" : Str) = some .free
  first : ∃ pos, ((defArgs st).posonlyargs ++ (defArgs st).args).head? = some { arg := "self", annotation := none, pos := pos }
  ne : ("self" : Str) ≠ par
  nod : (par == ("__debug__" : Str)) = false
  noc : (par == ("__classdict__" : Str)) = false
  bnd : ∀ (qual : Str) (cl : List (Str × Addr)) (kV doc pm : Value) (an : Option Addr) (cdv ct u1 u2 : Value), bindArgs (fnX "__init__" qual (defArgs st) (defBody st) (defScope st) cl .none kV doc pm an cdv ct) ⟨[u1, u2], []⟩ = pure [(("self" : Str), u1), (par, u2)]
  bndK : ∀ (qual : Str) (cl : List (Str × Addr)) (kV doc pm : Value) (an : Option Addr) (cdv ct u1 u2 : Value), bindArgs (fnX "__init__" qual (defArgs st) (defBody st) (defScope st) cl .none kV doc pm an cdv ct) ⟨[u1], [(par, u2)]⟩ = pure [(("self" : Str), u1), (par, u2)]
  body : ∃ (msg : Str) (j : Nat) (p0 p1 p2 p3 p4 p5 q1 q2 q3 q4 q5 q6 : Pos), (p2.endLine == p4.line) = true ∧ msg.length ≤ sizeLine ∧ defBody st =
    [.Expr (.Call (.Attribute (.Call (.Name "super" p0) [] [] p1) "__init__" p2) [.Constant (.str msg) j p3] [] p4) p5,
     .Assign [.Attribute (.Name "self" q1) field q2] (.Call (.Name "copied" q3) [.Name par q4] [] q5) q6]
/-- what the written part holds of the class at C: its __init__ at fI, the cell with the class at cc -/
structure Txt (P : Program) (K : PySem.W.Frag) (st : Stmt) (qual field : Str) (C fI cc : Addr) : Prop where
  oex : OexC K C
  init : ∃ (oc : Value) (od : Option Addr) (osl : Array (Option Value)) (kV doc pm : Value) (an : Option Addr) (cda : Addr) (ct : Value),
    K.lookup fI = some ⟨oc, od, .func (fnX "__init__" qual (defArgs st) (defBody st) (defScope st) [("__class__", cc)] .none kV doc pm an (.ref cda) ct), osl⟩ ∧ PySem.W.codeIn K (.ref cda) qual = true ∧
    ∃ (ccl : Value) (cdd : Option Addr) (vs : Array Value) (ccs : Array (Option Value)) (file : Str) (tf : Tok), K.lookup cda = some ⟨ccl, cdd, .fields vs, ccs⟩ ∧ vs[2]? = some (.str file tf) ∧ ((P.main.file : Str) == file) = true
  cell : ∃ (cl : Value) (cld : Option Addr) (csl : Array (Option Value)), K.lookup cc = some ⟨cl, cld, .cell (some (.ref C)), csl⟩
  sup : PySem.W.ks_superIn K C C "__init__" = some (some (.builtin "ValueError.__init__"))
  self : PySem.W.mroIn K C (.ref C) = some true
  plain : PySem.W.nsIn K PySem.cStatics "thirdparty.any" = some none
  isVE : PySem.W.subIn K (.ref C) (.type "ValueError") = some true
  noF : PySem.W.findIn K (.ref C) field = some none
  top : (P.main.scope.names.lookup ("super" : Str)).isSome = false
section
variable {P : Program} {w : World} {K : PySem.W.Frag} {mg : Str → Option Value} {base : Heap}
/-- the frame of the __init__ -/
def cxI (P : Program) (w : World) (K : PySem.W.Frag) (mg : Str → Option Value) (base : Heap) (par qual : Str) (scope : Scope) (f cc cda : Addr) (A : Around) (outer : List Env) (s : Shared) (H : Hp) (xe : Value → Shared → Prop) : Cx where
  prog := P
  w := w
  K := K
  mg := mg
  base := base
  A := A.deeper (envX qual scope s.heap.objs.size f (.ref cda) [("__class__", cc)])
  N := ["self", par]
  s_0 := s
  H_0 := H
  env := envX qual scope s.heap.objs.size f (.ref cda) [("__class__", cc)]
  outer := outer
  stack := envX qual scope s.heap.objs.size f (.ref cda) [("__class__", cc)] :: outer
  ex := []
  fn := fun _ => false
  calm := true
  pn := []
  xe := xe
theorem lookup1 {cc : Addr} {y : Str} {c : Addr} (h : List.lookup y [(("__class__" : Str), cc)] = some c) : y = "__class__" ∧ c = cc := by
  simp only [List.lookup] at h
  split at h
  · rename_i e
    cases h
    exact ⟨by simpa using e, rfl⟩
  · cases h
theorem inv_init {st : Stmt} {par field qual : Str} {C f cc cda : Addr} {A : Around} {outer : List Env} {s : Shared} {H : Hp} {xe : Value → Shared → Prop} {u1 u2 : Value} {v1 v2 : V} {h1 : Heap} {tk : Nat} (S : Form st par field) (T : Txt P K st qual field C f cc) (hd : A.handled = none)
    (e0 : Env0 P w K mg base A outer s H) (r1 : RelV v1 u1) (r2 : RelV v2 u2) (ns : h1.Ns s.heap.objs.size (fun x => [(("self" : Str), u1), (par, u2)].reverse.lookup x)) (keep : ∀ b o, s.heap.get? b = some o → h1.get? b = some o) :
    Inv (cxI P w K mg base par qual (defScope st) f cc cda A outer s H xe) [] [some v1, some v2] H { s with heap := h1, toks := tk } := by
  obtain ⟨cl, cld, csl, hcell⟩ := T.cell
  have hc : s.heap.get? cc = some ⟨cl, cld, .cell (some (.ref C)), csl⟩ := (e0.bs _ _ (e0.mod.kin _ _ hcell)).1
  have hcn : H cc = none := (e0.bs _ _ (e0.mod.kin _ _ hcell)).2
  have nomem : ∀ b : Addr, b ∉ (cxI P w K mg base par qual (defScope st) f cc cda A outer s H xe).ex := fun b z => nomatch z
  constructor
  · constructor
    · exact e0.mod
    · exact S.kind
    · rfl
    · rfl
    · exact Nat.le_refl _
    · intro x y c h1 h2
      rw [(lookup1 h1).1, (lookup1 h2).1]
    · intro x hx
      rcases hx with hx | hx
      · exact absurd rfl (S.nocell _ (PySem.mem_of_lookup hx))
      · have q := S.free _ (PySem.mem_of_lookup hx) rfl
        dsimp only at q
        subst q
        exact ⟨cc, rfl⟩
    · intro x c h
      cases h
    · intro _
      exact hd
    · exact Around.frames_deeper e0.frames
    · exact .inr ⟨rfl, rfl⟩
    · intro b z
      exact absurd z (nomem b)
    · exact e0.bs
    · exact e0.bsz
    · intro b o _
      exact nomem b
    · intro b z
      exact absurd z (nomem b)
    · exact e0.funs
    · exact e0.frf
  · rfl
  · exact e0.bare
  · exact Un.kept keep
  · refine ⟨_, ns, fun i x v e1 e2 e3 => ?_⟩
    match i, e1, e2 with
    | 0, e1, e2 =>
      cases e1
      cases e2
      refine ⟨u1, r1, .inl ⟨S.lself, ?_⟩⟩
      have q : (("self" : Str) == par) = false := by simpa using S.ne
      simp [List.lookup, q]
    | 1, e1, e2 =>
      cases e1
      cases e2
      exact ⟨u2, r2, .inl ⟨S.lpar, by simp [List.lookup]⟩⟩
    | i + 2, e1, e2 => cases e2
  · intro x c h
    obtain ⟨_, rfl⟩ := lookup1 (show List.lookup x [(("__class__" : Str), cc)] = some c from h)
    exact ⟨_, _, keep _ _ hc, rfl⟩
  · exact e0.hok.fresh (Nat.le_refl _)
  · intro x c h
    obtain ⟨_, rfl⟩ := lookup1 (show List.lookup x [(("__class__" : Str), cc)] = some c from h)
    exact hcn
  · intro p hp
    exact nomatch hp
  · exact e0.hok.kept keep
  · rfl
theorem mc_eq (env : Env) (msg : Str) (j : Nat) (p0 p1 p2 p3 p4 : Pos) (h : (p2.endLine == p4.line) = true) : eval (.Call (.Attribute (.Call (.Name "super" p0) [] [] p1) "__init__" p2) [.Constant (.str msg) j p3] [] p4) env = (do
      let ov ← attributeBase (.Call (.Name "super" p0) [] [] p1) "__init__" env (eval (.Call (.Name "super" p0) [] [] p1) env)
      standAt p2.atName
      let (f, first) ← holding [ov] (getMethod ov "__init__" (do return (← importBound (.Call (.Name "super" p0) [] [] p1) env).getD true))
      callWith p4 f first (backTo p4 (starEach [.Constant (.str msg) j p3] env)) []) := by
  have e : methodCallPos true (.Call (.Name "super" p0) [] [] p1) env p2 p4 = pure p4 := by
    unfold methodCallPos
    rw [h]
    rfl
  show (do
      let ov ← attributeBase (.Call (.Name "super" p0) [] [] p1) "__init__" env (eval (.Call (.Name "super" p0) [] [] p1) env)
      standAt p2.atName
      let (f, first) ← holding [ov] (calleeOf true (.Call (.Name "super" p0) [] [] p1) env ov "__init__")
      let callPos ← methodCallPos true (.Call (.Name "super" p0) [] [] p1) env p2 p4
      callWith callPos f first (backTo p4 (starEach [.Constant (.str msg) j p3] env)) []) = _
  simp only [e, pure_bind]
  rfl
/-- ValueError.__init__ of the object at e, bound: called with a text -/
theorem call_bound {X : Cx} {pins : List (Addr × Obj)} {σ : L2.St} {H : Hp} {s : Shared} {C e u : Addr} {us : List Value} {Q : Value → Shared → Prop} (T : OexC X.K C) (I : Inv X pins σ H s) (he : H e = some (exo e C none))
    (hu : s.heap.get? u = some (PySem.W.kxs_mw "ValueError.__init__" e)) (few : us.length ≤ sizeLine) (hq : ∀ s', Inv X pins σ H s' → Q .none s') : wpAny (model X.prog X.w) X.A (call (.ref u) us) Q X.xe s := by
  obtain ⟨nm, q, N, bs, bm, sn, sub, ab, col, dd, k0, k1, k2, k3, k5, hC, hbm⟩ := T.cls
  obtain ⟨t1, ho⟩ := exo_at I.hok he
  have inC := I.kIn _ _ hC
  obtain ⟨hp, g, dr, tk, os⟩ := s
  apply wpAny_call
  apply codeAny_of_tree
  show wpAny _ X.A.in1 (callAny (.ref u) ⟨us, []⟩) _ _ _
  simp only [callAny]
  refine wpAny_bind (wpAny_load hu ?_)
  have y1 : (Value.type "method-wrapper" == Value.type "method" || Value.type "method-wrapper" == Value.type "builtin_function_or_method" || Value.type "method-wrapper" == Value.type "method-wrapper") = true := by decide
  simp only [PySem.W.kxs_mw, y1, if_true]
  refine PySem.W.KFB.if_so (by decide) ?_
  refine wpAny_bind (PySem.W.check_bound_init F.excBase_ValueError.toExcCallFacts inC ho rfl ?_)
  refine wpAny_bind (wpAny_pure (wpAny_pure ?_))
  refine ⟨plainId_quiet F.excBase_ValueError.init.plain _, codeAny_builtin F.excBase_ValueError.initEntry ?_⟩
  refine PySem.W.exc_init_tree (cls := .ref C) (t0 := t1) (dv := none) (c2 := .none) (c3 := .none) (b4 := .bool false) ho few fun h' keep hx ht => ?_
  have J := I.write (t' := tk) (x := e) (e := e) (o := exo e C none) (by rw [he]; exact True.intro) (.inl rfl) keep ⟨_, hx⟩ (exo_ok hx)
  have same : upd H e (exo e C none) = H := by
    funext b
    by_cases hb : b = e
    · rw [hb, upd_same, he]
    · rw [upd_ne hb]
  rw [same] at J
  exact hq _ J
theorem super_stmt {st : Stmt} {par field qual : Str} {C f cc cda e : Addr} {A : Around} {outer : List Env} {s0 s : Shared} {H0 H : Hp} {xe : Value → Shared → Prop} {v2 : V} {body : List Stmt} {msg : Str} {j : Nat} {p0 p1 p2 p3 p4 p5 : Pos} {Q : Flow → Shared → Prop}
    (S : Form st par field) (T : Txt P K st qual field C f cc) (gS : mg "super" = none) (look : ∃ (oc : Value) (od : Option Addr) (osl : Array (Option Value)) (kV doc pm : Value) (an : Option Addr) (ct : Value),
      K.lookup f = some ⟨oc, od, .func (fnX "__init__" qual (defArgs st) (defBody st) (defScope st) [("__class__", cc)] .none kV doc pm an (.ref cda) ct), osl⟩)
    (lookc : ∃ (ccl : Value) (cdd : Option Addr) (vs : Array Value) (ccs : Array (Option Value)) (file : Str) (tf : Tok), K.lookup cda = some ⟨ccl, cdd, .fields vs, ccs⟩ ∧ vs[2]? = some (.str file tf) ∧ ((P.main.file : Str) == file) = true)
    (I : Inv (cxI P w K mg base par qual (defScope st) f cc cda A outer s0 H0 xe) [] [some (.ref e), some v2] H s) (he : H e = some (exo e C none)) (hline : (p2.endLine == p4.line) = true)
    (hq : ∀ s', Inv (cxI P w K mg base par qual (defScope st) f cc cda A outer s0 H0 xe) [] [some (.ref e), some v2] H s' → Q .next s') :
    PySem.wpAt (model P w) (A.deeper (envX qual (defScope st) s0.heap.objs.size f (.ref cda) [("__class__", cc)])) (.func body (envX qual (defScope st) s0.heap.objs.size f (.ref cda) [("__class__", cc)]))
      (exec (.Expr (.Call (.Attribute (.Call (.Name "super" p0) [] [] p1) "__init__" p2) [.Constant (.str msg) j p3] [] p4) p5) (envX qual (defScope st) s0.heap.objs.size f (.ref cda) [("__class__", cc)])) Q xe s := by
  obtain ⟨oc, od, osl, kV, doc, pm, an, ct, look⟩ := look
  obtain ⟨ccl, cdd, cvs, ccs, file, tf, lookc, hfile, hmain⟩ := lookc
  obtain ⟨cl, cld, csl, hcell⟩ := T.cell
  obtain ⟨fpos, hfirst⟩ := S.first
  obtain ⟨nm, q, N, bs, bm, sn, sub, ab, col, dd, k0, k1, k2, k3, k5, hC, hbm⟩ := T.oex.cls
  obtain ⟨t1, ho⟩ := exo_at I.hok he
  have inK : K.In s.heap := I.kIn
  obtain ⟨m, hns, hl⟩ := I.loc
  obtain ⟨u0, ru0, lk0⟩ := hl 0 "self" (.ref e) rfl rfl (.inl S.lself)
  obtain rfl : u0 = Value.ref e := ru0
  have hself : m "self" = some (.ref e) := by
    rcases lk0 with ⟨_, z⟩ | ⟨z, _⟩
    · exact z
    · rcases z with z | z
      · have z' : (defScope st).names.lookup ("self" : Str) = some .cell := z
        rw [S.lself] at z'
        cases z'
      · have z' : (defScope st).names.lookup ("self" : Str) = some .free := z
        rw [S.lself] at z'
        cases z'
  obtain ⟨mb, hb1, hb2⟩ := I.mod.blt
  have hD1 := inK _ _ hC
  refine ks_wpAt_Expr_any (ks_wpAt_MethodCall ?_ (mc_eq _ msg j p0 p1 p2 p3 p4 hline)) (by simp [interactive, S.kind])
  refine ks_wpAt_super_base (env := envX qual (defScope st) s0.heap.objs.size f (.ref cda) [("__class__", cc)]) S.lsuper S.lclass (by decide) rfl (inK _ _ look) rfl hfirst rfl (inK _ _ lookc) rfl hfile hmain T.top ?_
  refine PySem.W.ks_loadName_global S.kind S.lsuper (Calls.loadGlobal_builtin (env := envX qual (defScope st) s0.heap.objs.size f (.ref cda) [("__class__", cc)]) (I.mod.glob.keeps I.bk) gS (hb1.keeps I.bk) ((hb2 _ (by decide)).trans (show bootBuiltins ("super" : Str) = some (.type "super") by decide +kernel)) ⟨rfl, ?_⟩)
  refine wpAny_loadName_free S.kind S.lclass rfl ⟨_, inK _ _ hcell, rfl⟩ ?_
  refine wpAny_loadName_local S.kind S.lself hns hself ?_
  obtain ⟨hp, g, dr, tk, os⟩ := s
  refine ks_wpAny_isType_cls hD1 rfl ⟨rfl, ?_⟩
  refine ks_wpAny_call_super hD1 rfl ho rfl (fun c z => nomatch z) (PySem.W.looks_mroIn inK T.self) (fun h1 hso keep1 => ?_)
  have I1 : Inv (cxI P w K mg base par qual (defScope st) f cc cda A outer s0 H0 xe) [] [some (.ref e), some v2] H ⟨h1, g, dr, tk, os⟩ := I.kept (t' := tk) keep1
  have inK1 : K.In h1 := I1.kIn
  have hx1 := keep1 _ _ ho
  have hcl : PySem.W.clsIn K C = some { name := nm, bases := bs, mro := .ref C :: bm, ns := N, qualname := q, hasDict := true, slotNames := sn, subclasses := sub, abstract := ab, collection := col, hasDel := false } := by
    unfold PySem.W.clsIn
    rw [hC] <;> rfl
  have inst : PySem.W.InstAt h1 e { cls := .ref C, dict := none, data := .fields #[.ref t1, .none, .none, .none, .bool false, .none] } C none := ⟨hx1, rfl, rfl, True.intro⟩
  have along := T.sup
  unfold PySem.W.ks_superIn at along
  rw [hcl] at along
  refine PySem.W.kxs_getMethod PySem.W.kxs_ValueError hso (PySem.W.looks_opaque inK1 T.plain) (l₀ := .ref C :: bm) ((PySem.W.looks_clsIn inK1 hcl).andThen .now) rfl inK1 along (inst.type.andThen (PySem.W.looks_subIn inK1 T.isVE)) (PySem.W.ks_ne inK1 inst hcl) (by decide) ?_
  have keep2 : ∀ b o, h1.get? b = some o → (h1.push (PySem.W.kxs_mw "ValueError.__init__" e)).get? b = some o := fun b o z => Heap.get?_push_of_some _ z
  have I2 : Inv (cxI P w K mg base par qual (defScope st) f cc cda A outer s0 H0 xe) [] [some (.ref e), some v2] H ⟨h1.push (PySem.W.kxs_mw "ValueError.__init__" e), g, dr, tk + 1, os⟩ := I1.kept (t' := tk + 1) keep2
  have pinned : ∀ p ∈ (cxI P w K mg base par qual (defScope st) f cc cda A outer s0 H0 xe).pn ++ [(h1.objs.size, PySem.W.kxs_mw "ValueError.__init__" e)], (h1.push (PySem.W.kxs_mw "ValueError.__init__" e)).get? p.1 = some p.2 ∧ H p.1 = none ∧
      p.1 ≠ (cxI P w K mg base par qual (defScope st) f cc cda A outer s0 H0 xe).env.locals ∧ p.1 ∉ (cxI P w K mg base par qual (defScope st) f cc cda A outer s0 H0 xe).fs ∧ ∀ v, p.2.data ≠ .cell v := by
    intro p hp
    have hp' : p = (h1.objs.size, PySem.W.kxs_mw "ValueError.__init__" e) := by simpa [cxI] using hp
    subst hp'
    exact ⟨Heap.get?_push_size h1 rfl, I1.hok.fresh (Nat.le_refl _), Ne.symm (Nat.ne_of_lt I1.lt), I1.nofs (Nat.le_refl _), fun v z => nomatch z⟩
  have I3 : Inv (cxI P w K mg base par qual (defScope st) f cc cda A outer s0 H0 xe) [(h1.objs.size, PySem.W.kxs_mw "ValueError.__init__" e)] [some (.ref e), some v2] H ⟨h1.push (PySem.W.kxs_mw "ValueError.__init__" e), g, dr, tk + 1, os⟩ := { I2 with pin := pinned }
  refine PySem.W.kxs_callWith (i := "ValueError.__init__") (x := e) rfl ?_
  apply Calls.evalArgs_plain
  refine thn ((pa_cons pe_str pa_nil : PA (cxI P w K mg base par qual (defScope st) f cc cda A outer s0 H0 xe) [.Constant (.str msg) j p3] _).run p4 _ _ _ H (fun vs H' => H' = H ∧ vs = [.str msg]) I3 ⟨rfl, rfl⟩) fun us s3 out => ?_
  obtain ⟨vs, H3, I4, r3, rfl, rfl⟩ := out
  have hu := (I4.pin (h1.objs.size, PySem.W.kxs_mw "ValueError.__init__" e) (by simp)).1
  refine ⟨hu, ?_⟩
  have len : us.length = 1 := (Paired.length r3).symm
  exact call_bound T.oex I4 he hu (by rw [List.nil_append, len, sizeLine_eq]; decide) fun s' J => hq s' { J with pin := fun p hp => J.pin p (by simp [cxI] at hp) }
/-- what the __init__ leaves: spc is the copying's promise -/
def spInit (C : Addr) (field : Str) (spc : Sp) : Sp := fun vs H Q _ => ∃ (e : Addr) (v : V), vs = [.ref e, v] ∧ H e = some (exo e C none) ∧
  spc [v] H (fun v' H' => H' e = some (exo e C none) ∧ ∀ dx, H' dx = none → dx ≠ e → Q .non (upd (upd H' dx (exd dx [(field, v')])) e (exo e C (some dx)))) E0
theorem ok_init {st : Stmt} {par field qual : Str} {C fI cc fC : Addr} {fdC : FuncData} {kc : Nat} {spc : Sp} (S : Form st par field) (T : Txt P K st qual field C fI cc) (FC : FnOk P w K mg base CX0 kc fC fdC ["value"] spc) (gC : mg "copied" = some (.ref fC))
    (kC : PySem.W.keepIn K (.ref fC) = true) (bC : Binds K fdC ["value"] []) (gS : mg "super" = none)
    (mono : ∀ (vs : List V) (H : Hp) (Q Q' : VK) (E : XK), (∀ v H', Q v H' → Q' v H') → spc vs H Q E → spc vs H Q' E) : ∃ fd : FuncData, FnOk P w K mg base CX0 (kc + 2) fI fd ["self", par] (spInit C field spc) ∧
      (∀ (s : Shared) (u1 u2 : Value), BindsTo s fd ⟨[u1, u2], []⟩ [(("self" : Str), u1), (par, u2)]) ∧ ∀ (s : Shared) (u1 u2 : Value), BindsTo s fd ⟨[u1], [(par, u2)]⟩ [(("self" : Str), u1), (par, u2)] := by
  obtain ⟨oc, od, osl, kV, doc, pm, an, cda, ct, look, code, ccl, cdd, cvs, ccs, file, tf, lookc, hfile, hmain⟩ := T.init
  obtain ⟨cl, cld, csl, hcell⟩ := T.cell
  obtain ⟨fpos, hfirst⟩ := S.first
  obtain ⟨msg, j, p0, p1, p2, p3, p4, p5, q1, q2, q3, q4, q5, q6, hline, few, hbody⟩ := S.body
  obtain ⟨nm, q, N, bs, bm, sn, sub, ab, col, dd, k0, k1, k2, k3, k5, hC, hbm⟩ := T.oex.cls
  refine ⟨fnX "__init__" qual (defArgs st) (defBody st) (defScope st) [("__class__", cc)] .none kV doc pm an (.ref cda) ct, ⟨fun vs H Q E ⟨e, v, h, _⟩ => by rw [h] <;> rfl, fun A outer s H args us vs Q E room e0 bnd rel want => ?_⟩, fun s u1 u2 => .of_eq (S.bnd qual _ kV doc pm an _ ct u1 u2), fun s u1 u2 => .of_eq (S.bndK qual _ kV doc pm an _ ct u1 u2)⟩
  obtain ⟨e, v, rfl, he, hwant⟩ := want
  cases rel with
  | cons r1 rest =>
    cases rest with
    | cons r2 nil_ =>
      cases nil_
      rename_i u1 u2
      obtain rfl : u1 = Value.ref e := r1
      have inK : K.In s.heap := e0.mod.kin.keeps fun b o z => (e0.bs b o z).1
      have noLim : s.heap.NoLimit := e0.mod.nolimit.keeps fun b o z => (e0.bs b o z).1
      refine ks_codeAny_call_defAt (body := defBody st) (binds := [(("self" : Str), Value.ref e), (par, u2)]) room.depth (inK _ _ look) rfl noLim (PySem.W.codeRec_of inK code) rfl bnd S.nocell ?_ (fun h1 ns keep => ?_) S.co S.gen S.kind
      · intro y hy
        rcases List.mem_cons.mp hy with rfl | hy
        · exact S.lself
        · rw [List.mem_singleton] at hy
          rw [hy]
          exact S.lpar
      · show PySem.wpAt (model P w) (A.deeper (envX qual (defScope st) s.heap.objs.size fI (.ref cda) [("__class__", cc)])) (.func (defBody st) (envX qual (defScope st) s.heap.objs.size fI (.ref cda) [("__class__", cc)])) (execs (defBody st) (envX qual (defScope st) s.heap.objs.size fI (.ref cda) [("__class__", cc)])) _ _ _
        have I := fun xe => inv_init (mg := mg) (base := base) (C := C) (cda := cda) (tk := s.toks + [(("self" : Str), Value.ref e), (par, u2)].length) (xe := xe) S T room.hd e0 (v1 := .ref e) (v2 := v) rfl r2 ns keep
        rw [hbody]
        refine ks_wpAt_execs_cons (super_stmt S T gS ⟨oc, od, osl, kV, doc, pm, an, ct, look⟩ ⟨ccl, cdd, cvs, ccs, file, tf, lookc, hfile, hmain⟩ (I _) he hline fun s' J => ?_)
        refine wpAt_of_wpAny ?_
        have deep := room.deeper (envX qual (defScope st) s.heap.objs.size fI (.ref cda) [("__class__", cc)])
        refine wpAny_mono ((pss_one (ps_ost (pe_var (i := 0) rfl (.inl S.lself)) (pe_call FC (deep.mono (Nat.le_succ _)) (by exact S.lcopied) gC kC bC .nil pass0 (pa_cons (pe_var (i := 1) rfl (.inl S.lpar) S.nod S.noc) pa_nil)))).run [] s' _ H { nx := fun _ H' => Q .non H', rt := Q } J ?_) (fun fl s2 out => ?_) fun e s2 out => out
        · refine ⟨_, rfl, mono [v] H _ _ _ (fun v' H' ⟨g1, g2⟩ => ?_) hwant⟩
          exact ⟨_, rfl, e, C, rfl, T.oex, T.noF, .inl ⟨g1, g2⟩⟩
        · match fl, out with
          | .ret u, ⟨v, σ', H', J, rv, q⟩ => exact ⟨v, H', J.os, J.bare, J.base, J.hok, rv, q⟩
          | .next, ⟨σ', H', J, q⟩ => exact ⟨V.non, H', J.os, J.bare, J.base, J.hok, rfl, q⟩
          | .brk, ⟨_, _, _, q⟩ => exact q.elim
          | .cont, ⟨_, _, _, q⟩ => exact q.elim
end
end Er
namespace Ev
open PySem PySem.Spec PyProof.Rows L2
/-! An error as a value: made, asked for its class, read. -/
/-- what the written part says of an error's class, so that its objects may be asked -/
structure ECls (K : PySem.W.Frag) (C : Addr) : Prop where
  exc : L2.ExcC K C
  gc : PySem.W.isClsIn K C = true
/-- an error of the class at C stands at a; fs are its attributes (none as yet: its dict is not there) -/
def ErrAt (H : Hp) (a C : Addr) (fs : Option (List (Str × V))) : Prop := (fs = none ∧ H a = some (exo a C none)) ∨ (fs = none ∧ H a = some (ExO (.ref C) a)) ∨ ∃ (dx : Addr) (l : List (Str × V)), fs = some l ∧ H a = some (exo a C (some dx)) ∧ H dx = some (exd dx l)
theorem ErrAt.same {H H' : Hp} {a C : Addr} {fs : Option (List (Str × V))} (h : ErrAt H a C fs) (s : Same H H') : ErrAt H' a C fs := by
  rcases h with ⟨r, h⟩ | ⟨r, h⟩ | ⟨dx, l, r, h1, h2⟩
  · exact .inl ⟨r, s _ _ h⟩
  · exact .inr (.inl ⟨r, s _ _ h⟩)
  · exact .inr (.inr ⟨dx, l, r, s _ _ h1, s _ _ h2⟩)
section
variable {X : Cx} {pins : List (Addr × Obj)} {σ : L2.St} {H : Hp} {s : Shared} {a C : Addr}
/-- the object of an error -/
theorem ErrAt.inst {fs : Option (List (Str × V))} (h : ErrAt H a C fs) (I : Inv X pins σ H s) : ∃ ox od, PySem.W.InstAt s.heap a ox C od ∧ ∀ l, fs = some l → ∃ (o : Obj) (mA : Str → Option Value), od = some o ∧ (∀ f, PySem.W.lookIn f o = some (mA f)) ∧ ∀ f, RelO (l.lookup f) (mA f) := by
  rcases h with ⟨r, h⟩ | ⟨r, h⟩ | ⟨dx, l, r, h1, h2⟩
  · obtain ⟨t1, ho⟩ := exo_at I.hok h
    exact ⟨_, none, ⟨ho, rfl, rfl, True.intro⟩, fun l q => by rw [r] at q; cases q⟩
  · obtain ⟨⟨oe, vs, ho, hz, hd, _⟩, _, _⟩ := I.hok a _ h
    obtain ⟨oc, od, oda, osl⟩ := oe
    obtain ⟨z1, z2⟩ := hz
    dsimp only at z1 z2 hd
    subst z1 z2 hd
    exact ⟨_, none, ⟨ho, rfl, rfl, True.intro⟩, fun l q => by rw [r] at q; cases q⟩
  · obtain ⟨t1, ho⟩ := exo_at I.hok h1
    obtain ⟨mA, hns, rel⟩ := exd_at I.hok h2
    obtain ⟨od, hd, hl⟩ := lookIn_ns hns
    refine ⟨_, some od, ⟨ho, rfl, rfl, hd⟩, fun l' q => ?_⟩
    rw [r] at q
    cases q
    exact ⟨od, mA, rfl, hl, rel⟩
/-- isinstance(e, c) -/
def rIsErr (K : PySem.W.Frag) : List V → Hp → VK → Prop := fun xs H Q => ∃ (a C : Addr) (fs : Option (List (Str × V))) (c : V) (u : Value) (b : Bool), xs = [.ref a, c] ∧ ErrAt H a C fs ∧ ECls K C ∧ ClsV c u ∧ PySem.W.kitOne K (.ref C) u = some b ∧ Q (.bl b) H
theorem call_isErr : CallR X (.builtin "isinstance") (rIsErr X.K) := by
  intro pins s σ H xs us Q I r h
  obtain ⟨a, C, fs, c, u, b, rfl, he, T, hc, e, q⟩ := h
  obtain ⟨u1, u2, rfl, r1, r2⟩ := vals2 r
  obtain rfl : u1 = Value.ref a := r1
  have e2 := hc.eq r2
  subst e2
  obtain ⟨ox, od, J, _⟩ := he.inst I
  have out : ∀ tk : Nat, EP X pins σ Q (.bool b) { s with toks := tk } := fun tk => ⟨.bl b, H, I.tok tk, rfl, q⟩
  have D := T.exc
  exact PySem.W.kia_one (PySem.W.kitx_exc T.gc D.hg D.hk D.hs D.ha D.hn D.ht D.hm) I.kIn J e (fun z => nomatch z) fun tk => out tk
/-- e.f -/
def tErrF (K : PySem.W.Frag) (f : Str) (te : TE) : TE := fun σ H Q => te σ H fun x H1 => ∃ (a C : Addr) (l : List (Str × V)) (v : V), x = .ref a ∧ ErrAt H1 a C (some l) ∧ XfC K C ∧ PySem.W.findIn K (.ref C) f = some none ∧ l.lookup f = some v ∧ Q v H1
theorem pe_errF {e : Expr} {te : TE} {pos : Pos} {f : Str} (he : PE X e te) (hb : attributeBase e f X.env (eval e X.env) = eval e X.env := by rfl) : PE X (.Attribute e f pos) (tErrF X.K f te) := by
  constructor
  intro pins s σ H Q I h
  refine attr_of hb (thn (he.run pins s σ H _ I h) fun u s1 hh => ?_)
  obtain ⟨x, H1, I1, rx, a, C, l, v, ex, ea, T, no, lk, q⟩ := hh
  subst ex
  obtain rfl : u = Value.ref a := rx
  obtain ⟨ox, od, J, hl⟩ := ea.inst I1
  obtain ⟨o, mA, rfl, look, rel⟩ := hl l rfl
  obtain ⟨u, hu, ru⟩ := RelO.some_of (v := v) (o := mA f) (by rw [← lk]; exact rel f)
  exact HandSPX.exc_get I1.kIn J T.ga T.gg T.exC (PySem.W.findObj_own T.hdC no rfl (by rw [look, hu])) (handed_of ru) ⟨v, H1, I1.tok _, ru, q⟩
/-- C(e) as a value: the new error at a, then its __init__ -/
def tMkE (C : Addr) (sp : Sp) (ta : TA) : TE := fun σ H Q => ta σ H fun vs H1 => ∃ v, vs = [v] ∧ ∀ a, H1 a = none → sp [.ref a, v] (upd H1 a (exo a C none)) (fun z H2 => z = .non ∧ Q (.ref a) H2) E0
variable {k : Nat} {fI : Addr} {fd : FuncData} {sp : Sp} {x par : Str} {p pos : Pos} {e : Expr} {ta : TA}
/-- the call behind the arguments; kw tells whether the one argument came by its name -/
theorem makeErr {Q : VK} {u : Value} {v : V} {us : List Value} {kw : List (Str × Value)} (T : OexC X.K C) (iC : PySem.W.findIn X.K (.ref C) "__init__" = some (some (.ref fI))) (tI : PySem.W.typeIn X.K (.ref fI) = some (.type "function"))
    (F : FnOk X.prog X.w X.K X.mg X.base CX0 k fI fd ["self", par] sp) (room : Room (k + 1) X.A) (few : us.length ≤ 1) (bind : ∀ (s : Shared) (u1 : Value), BindsTo s fd ⟨u1 :: us, kw⟩ [(("self" : Str), u1), (par, u)]) (I : Inv X pins σ H s) (ru : RelV v u)
    (want : ∀ a, H a = none → sp [.ref a, v] (upd H a (exo a C none)) (fun z H2 => z = .non ∧ Q (.ref a) H2) E0) : wpAny (model X.prog X.w) X.A (call (.ref C) us kw) (EP X pins σ Q) X.xe s := by
  obtain ⟨nm, q, N, bs, bm, sn, sub, ab, col, dd, k0, k1, k2, k3, k5, hC, hbm⟩ := T.cls
  obtain ⟨hp, g, dr, tk, os⟩ := s
  have up : hp.objs.size ≤ hp.objs.size + 1 := Nat.le_succ _
  have free : H (hp.objs.size + 1) = none := I.hok.fresh up
  have keep : ∀ b o, hp.get? b = some o → ((hp.push (PySem.W.kdv_tup us)).push (PySem.HandSPX.excO C hp.objs.size)).get? b = some o := fun b o z => Heap.get?_push_of_some _ (Heap.get?_push_of_some _ z)
  have made : ((hp.push (PySem.W.kdv_tup us)).push (PySem.HandSPX.excO C hp.objs.size)).get? (hp.objs.size + 1) = some (PySem.HandSPX.excO C hp.objs.size) := by heap_get
  have I2 : Inv X pins σ (upd H (hp.objs.size + 1) (exo (hp.objs.size + 1) C none)) ⟨(hp.push (PySem.W.kdv_tup us)).push (PySem.HandSPX.excO C hp.objs.size), g, dr, tk, os⟩ :=
    I.laid (t' := tk) (a := hp.objs.size + 1) (o := exo (hp.objs.size + 1) C none) (h' := (hp.push (PySem.W.kdv_tup us)).push (PySem.HandSPX.excO C hp.objs.size)) keep up (exo_ok made)
  have env : Env0 X.prog X.w X.K X.mg X.base (X.A.under (.builtin "type.__call__" ⟨.ref C :: us, kw⟩)) X.stack _ _ := I2.env0.make C us kw
  have run := F.run _ X.stack _ _ ⟨Value.ref (hp.objs.size + 1) :: us, kw⟩ [Value.ref (hp.objs.size + 1), u] [V.ref (hp.objs.size + 1), v] _ E0 (room.make C us kw) env (bind _ _) (.cons rfl (.cons ru .nil)) (want _ free)
  refine wpAny_call (Kx.made PySem.F.excBase_ValueError (fun Y => PySem.HandSPX.refsVE_contains Y bm hbm) (I.kIn _ _ hC) (PySem.W.looks_findIn I.kIn iC) (fun self => PySem.W.bind_fn I.kIn self tI) (Nat.le_trans few (by decide)) (codeAny_mono run fun r s' out => ?_))
  match r, out with
  | .error er, out => exact (show False from out).elim
  | .ok .next, out => exact (show False from out).elim
  | .ok .brk, out => exact (show False from out).elim
  | .ok .cont, out => exact (show False from out).elim
  | .ok (.ret z), out =>
    obtain ⟨v', H', J, rz, ez, q2⟩ := I2.after out
    subst ez
    exact ⟨rz, ⟨V.ref (hp.objs.size + 1), H', J, rfl, q2⟩⟩
theorem pe_mkE (T : OexC X.K C) (iC : PySem.W.findIn X.K (.ref C) "__init__" = some (some (.ref fI))) (tI : PySem.W.typeIn X.K (.ref fI) = some (.type "function")) (F : FnOk X.prog X.w X.K X.mg X.base CX0 k fI fd ["self", par] sp) (room : Room (k + 1) X.A)
    (bind : ∀ (s : Shared) (u1 u2 : Value), BindsTo s fd ⟨[u1, u2], []⟩ [(("self" : Str), u1), (par, u2)]) (hg : Gl X x) (hm : X.mg x = some (.ref C)) (ha : PA X [e] ta)
    (n1 : (x == ("__debug__" : Str)) = false := by decide) (n2 : starEach [e] X.env = (false, eval e X.env) :: starEach [] X.env := by rfl) (n3 : (backTo pos (starEach [] X.env)).any (·.1) = false := by rfl) : PE X (.Call (.Name x p) [e] [] pos) (tMkE C sp ta) := by
  constructor
  intro pins s σ H Q I h
  apply wpAny_Call_Name_kw
  apply ld_glob I hg hm _ n1
  apply PySem.W.callWith_K (h₀ := X.base) I.ok.mod.kin T.kC _ n2 n3
  refine thn (ha.run pos pins s σ H _ I h) fun us s1 ⟨vs, H1, I1, r1, v, ev, q1⟩ => ⟨I1.kIn, ?_⟩
  subst ev
  cases r1 with
  | cons rv rn =>
    cases rn
    exact makeErr T iC tI F room (Nat.le_refl 1) (fun s u1 => bind s u1 _) I1 rv q1
theorem pe_mkEk {kws : List Keyword} (T : OexC X.K C) (iC : PySem.W.findIn X.K (.ref C) "__init__" = some (some (.ref fI))) (tI : PySem.W.typeIn X.K (.ref fI) = some (.type "function")) (F : FnOk X.prog X.w X.K X.mg X.base CX0 k fI fd ["self", par] sp) (room : Room (k + 1) X.A)
    (bind : ∀ (s : Shared) (u1 u2 : Value), BindsTo s fd ⟨[u1], [(par, u2)]⟩ [(("self" : Str), u1), (par, u2)]) (hg : Gl X x) (hm : X.mg x = some (.ref C)) (hk : PK X kws ta) (all : (backToKw pos (keywordEach kws X.env)).all (·.1.isSome) = true := by rfl)
    (names : (backToKw pos (keywordEach kws X.env)).filterMap (·.1) = [par] := by rfl) (n1 : (x == ("__debug__" : Str)) = false := by decide)
    (n3 : ((backTo pos (starEach [] X.env)).any (·.1) || (backToKw pos (keywordEach kws X.env)).any (·.1.isNone)) = false := by rfl) : PE X (.Call (.Name x p) [] kws pos) (tMkE C sp ta) := by
  constructor
  intro pins s σ H Q I h
  apply wpAny_Call_Name_kw
  apply ld_glob I hg hm _ n1
  apply PySem.W.callWith_KW0 (h₀ := X.base) I.ok.mod.kin T.kC all _ n3
  refine thn (hk.run pos pins s σ H _ I h) fun us s1 ⟨vs, H1, I1, r1, v, ev, q1⟩ => ⟨I1.kIn, ?_⟩
  subst ev
  cases r1 with
  | cons rv rn =>
    cases rn
    rw [names]
    exact makeErr T iC tI F room (Nat.zero_le 1) (fun s u1 => bind s u1 _) I1 rv q1
end
end Ev
namespace Co
open PySem PySem.Spec PyProof.Rows L2
/-! copied(value): as data the same, lists and dicts and tuples made anew. -/
def Fl : V → PyData → Prop
  | .non, .none => True
  | .bl b, .bool c => b = c
  | .int i, .int j => i = j
  | .str x, .str y => x = y
  | _, _ => False
def one : Option (Str × Int) → List (Key × V)
  | none => []
  | some p => [(Sum.inr p.1, .int p.2)]
def oneD : Option (Str × Int) → List (PyData × PyData)
  | none => []
  | some p => [(.str p.1, .int p.2)]
/-- at v stands the datum d, fewer than n deep; a dict has one entry at most, a text and an int -/
def Cp (K : PySem.W.Frag) (H : Hp) : Nat → V → PyData → Prop
  | 0, _, _ => False
  | n + 1, v, d => Fl v d ∨ (∃ (a : Addr) (xs : List V) (ds : List PyData), v = .ref a ∧ d = .list ds ∧ SqL K H a xs ∧ xs.length ≤ 100 ∧ Paired (Cp K H n) xs ds) ∨
      (∃ (a : Addr) (xs : List V) (ds : List PyData), v = .ref a ∧ d = .tuple ds ∧ SqT K H a xs ∧ xs.length ≤ 100 ∧ Paired (Cp K H n) xs ds) ∨
      ∃ (a : Addr) (o : Option (Str × Int)), v = .ref a ∧ d = .dict (oneD o) ∧ H a = some (.dK (one o)) ∧ (o = none ∨ 0 < n)
theorem sameT {K : PySem.W.Frag} {H H' : Hp} {a : Addr} {xs : List V} (s : Same H H') (h : SqT K H a xs) : SqT K H' a xs := by
  rcases h with (h | ⟨o, h⟩) | h
  · exact .inl (.inl (s _ _ h))
  · exact .inl (.inr ⟨o, s _ _ h⟩)
  · exact .inr h
theorem Cp.same {K : PySem.W.Frag} {H H' : Hp} (s : Same H H') : ∀ {n : Nat} {v : V} {d : PyData}, Cp K H n v d → Cp K H' n v d
  | 0, _, _, h => h
  | n + 1, v, d, h => by
    rcases h with h | ⟨a, xs, ds, e1, e2, h, l, r⟩ | ⟨a, xs, ds, e1, e2, h, l, r⟩ | ⟨a, o, e1, e2, h, z⟩
    · exact .inl h
    · exact .inr (.inl ⟨a, xs, ds, e1, e2, s.seq h, l, L2.Paired.mapP r fun _ _ q => Cp.same s q⟩)
    · exact .inr (.inr (.inl ⟨a, xs, ds, e1, e2, sameT s h, l, L2.Paired.mapP r fun _ _ q => Cp.same s q⟩))
    · exact .inr (.inr (.inr ⟨a, o, e1, e2, s _ _ h, z⟩))
theorem Cp.flat {K : PySem.W.Frag} {H : Hp} {n : Nat} {v : V} {d : PyData} (h : Fl v d) : Cp K H (n + 1) v d := .inl h
/-- v is made of what is new in H' beside H -/
def CpN (K : PySem.W.Frag) (H H' : Hp) (n : Nat) (v : V) (d : PyData) : Prop := ∀ T : Hp, (∀ b o, H b = none → H' b = some o → T b = some o) → Cp K T n v d
theorem CpN.here {K : PySem.W.Frag} {H H' : Hp} {n : Nat} {v : V} {d : PyData} (h : CpN K H H' n v d) : Cp K H' n v d := h H' fun _ _ _ q => q
def spCopy (K : PySem.W.Frag) (n : Nat) : Sp := fun vs H Q _ => ∃ (v : V) (d : PyData), vs = [v] ∧ Cp K H n v d ∧ ∀ (H' : Hp) (v' : V), Same H H' → CpN K H H' n v' d → Q v' H'
theorem spCopy_mono {K : PySem.W.Frag} {n : Nat} (vs : List V) (H : Hp) (Q Q' : VK) (E : XK) (h : ∀ v H', Q v H' → Q' v H') : spCopy K n vs H Q E → spCopy K n vs H Q' E := fun ⟨v, d, e, c, k⟩ => ⟨v, d, e, c, fun H' v' s r => h _ _ (k H' v' s r)⟩
theorem cpInt {K : PySem.W.Frag} {H : Hp} {i : Int} : ∀ {n : Nat} {v : V}, Cp K H n v (.int i) → v = .int i
  | 0, _, h => h.elim
  | n + 1, v, h => by
    rcases h with h | ⟨_, _, _, _, e, _⟩ | ⟨_, _, _, _, e, _⟩ | ⟨_, _, _, e, _⟩
    · cases v <;> first | exact h.elim | skip
      rw [show _ = i from h]
    · cases e
    · cases e
    · cases e
theorem cpStr {K : PySem.W.Frag} {H : Hp} {i : Str} : ∀ {n : Nat} {v : V}, Cp K H n v (.str i) → v = .str i
  | 0, _, h => h.elim
  | n + 1, v, h => by
    rcases h with h | ⟨_, _, _, _, e, _⟩ | ⟨_, _, _, _, e, _⟩ | ⟨_, _, _, e, _⟩
    · cases v <;> first | exact h.elim | skip
      rw [show _ = i from h]
    · cases e
    · cases e
    · cases e
theorem flatTy {K : PySem.W.Frag} {H : Hp} : ∀ {v : V} {d : PyData}, Fl v d → ∃ t : String, TyX K H v (.type t) ∧ kitB t "list" = some false ∧ kitB t "tuple" = some false ∧ kitB t "dict" = some false
  | .non, .none, _ => ⟨"NoneType", .base .non, by decide +kernel, by decide +kernel, by decide +kernel⟩
  | .bl b, .bool _, _ => ⟨"bool", .base (.bl b), by decide +kernel, by decide +kernel, by decide +kernel⟩
  | .int i, .int _, _ => ⟨"int", .base (.int i), by decide +kernel, by decide +kernel, by decide +kernel⟩
  | .str x, .str _, _ => ⟨"str", .base (.str x), by decide +kernel, by decide +kernel, by decide +kernel⟩
theorem listTy {K : PySem.W.Frag} {H : Hp} {a : Addr} {xs : List V} (h : SqL K H a xs) : TyX K H (.ref a) (.type "list") := by
  rcases h with (h | ⟨o, h⟩) | ⟨o, vs, n, h, hc, _⟩
  · exact .base (.lst h)
  · exact .base (.frz h)
  · exact .kList h hc
theorem tupTy {K : PySem.W.Frag} {H : Hp} {a : Addr} {xs : List V} (h : SqT K H a xs) : TyX K H (.ref a) (.type "tuple") := by
  rcases h with (h | ⟨o, h⟩) | ⟨o, vs, n, h, hc, _⟩
  · exact .base (.tup h)
  · exact .fTuple h
  · exact .kTuple h hc
theorem ifT {A B : Prop} {c : Bool} (e : c = true) (h : A) : if c = true then A else B := by
  rw [if_pos e]
  exact h
theorem ifF {A B : Prop} {c : Bool} (e : c = false) (h : B) : if c = true then A else B := by
  rw [e, if_neg Bool.false_ne_true]
  exact h
theorem pairAt {F : V → PyData → Prop} {xs : List V} {ds : List PyData} (r : Paired F xs ds) : ∀ {i : Nat} {x : V}, xs[i]? = some x → ∃ d, ds[i]? = some d ∧ F x d := by
  induction r with
  | nil => intro i x h; cases h
  | cons h t ih =>
    intro i x e
    cases i with
    | zero => cases e; exact ⟨_, rfl, h⟩
    | succ i => exact ih e
theorem pairSnoc {F : V → PyData → Prop} {xs : List V} {ds : List PyData} {x : V} {d : PyData} (r : Paired F xs ds) (h : F x d) : Paired F (xs ++ [x]) (ds ++ [d]) := by
  induction r with
  | nil => exact .cons h .nil
  | cons q t ih => exact .cons q ih
theorem takeMore {l : List PyData} {i : Nat} {x : PyData} (h : l[i]? = some x) : l.take (i + 1) = l.take i ++ [x] := by
  rw [List.take_add_one, h] <;> rfl
def top (i : Nat) : Stmt := PySem.Challenge.pw_presumebooks_k01_errors_by_hand.main.body.getD i (.Pass ⟨0, 0, 0, 0⟩)
abbrev sCopied : Stmt := top 1
theorem scCopied : FnScope ["value", "item", "key"] ["value"] (defScope sCopied) := ⟨rfl, rfl, rfl, by decide +kernel, rfl, by decide +kernel, by decide +kernel⟩
structure Bare (mg : Str → Option Value) : Prop where
  isi : mg "isinstance" = none
  list : mg "list" = none
  tuple : mg "tuple" = none
  dict : mg "dict" = none
section
variable {P : Program} {w : World} {K : PySem.W.Frag} {mg : Str → Option Value} {base : Heap}
theorem bList : bootBuiltins "list" = some (.type "list") := by decide +kernel
theorem bTuple : bootBuiltins "tuple" = some (.type "tuple") := by decide +kernel
theorem bDict : bootBuiltins "dict" = some (.type "dict") := by decide +kernel
theorem bIsi : bootBuiltins "isinstance" = some (.builtin "isinstance") := by decide +kernel
theorem ok_copied {f : Addr} {fd : FuncData} (F : Fun K "copied" "copied" sCopied f fd) (B : Bare mg) (gC : mg "copied" = some (.ref f)) (bC : Binds K fd ["value"] []) : ∀ n : Nat, FnOk P w K mg base CX0 n f fd ["value"] (spCopy K n)
  | 0 => ⟨fun _ _ _ _ ⟨_, _, _, h, _⟩ => h.elim, fun _ _ _ _ _ _ _ _ _ _ _ _ _ ⟨_, _, _, h, _⟩ => h.elim⟩
  | n + 1 => by
    have G := ok_copied F B gC bC n
    refine F.ok scCopied (fun vs H Q E h => ?_) (fun cdv A outer s H vs Q E hr h => ?_)
    · obtain ⟨v, d, rfl, _⟩ := h
      rfl
    · obtain ⟨v, d, rfl, c, k⟩ := h
      refine ⟨_, pss_cons (ps_if (pt_val (pe_callB call_isi (by rfl) B.isi bIsi (pa_cons (pv 0) (pa_cons (pe_bltn (v := .ty "list") (by rfl) B.list bList rfl) pa_nil))))
          (pss_one (ps_ret (pe_lc (own := [("item", 1)]) (g := gName 1) rfl scCopied.nd (pi_list (pv 0)) (blkOk_by (N := ["value", "item", "key"]) (sc := defScope sCopied) (by decide +kernel))
            (fun _ _ _ _ _ => pg_name (i := 1) scCopied.nd rfl (Or.inl rfl)) (fun _ _ _ _ _ => pts_nil) (fun _ _ _ _ _ => pe_call G hr (by rfl) gC F.kp bC .nil pass0 (pa_cons (pv 1) pa_nil))))) pss_nil)
        (pss_cons (ps_if (pt_val (pe_callB call_isi (by rfl) B.isi bIsi (pa_cons (pv 0) (pa_cons (pe_bltn (v := .ty "tuple") (by rfl) B.tuple bTuple rfl) pa_nil))))
          (pss_one (ps_ret (pe_callTy call_tuple_of (by rfl) B.tuple bTuple (pa_cons (pe_lc (own := [("item", 1)]) (g := gName 1) rfl scCopied.nd (pi_tup (pv 0)) (blkOk_by (N := ["value", "item", "key"]) (sc := defScope sCopied) (by decide +kernel))
            (fun _ _ _ _ _ => pg_name (i := 1) scCopied.nd rfl (Or.inl rfl)) (fun _ _ _ _ _ => pts_nil) (fun _ _ _ _ _ => pe_call G hr (by rfl) gC F.kp bC .nil pass0 (pa_cons (pv 1) pa_nil))) pa_nil)))) pss_nil)
        (pss_cons (ps_if (pt_val (pe_callB call_isi (by rfl) B.isi bIsi (pa_cons (pv 0) (pa_cons (pe_bltn (v := .ty "dict") (by rfl) B.dict bDict rfl) pa_nil))))
          (pss_one (ps_ret (pe_lock (pe_dc (own := [("key", 2)]) (g := gName 2) rfl scCopied.nd (pi_keys (pv 0)) (blkOk_by (N := ["value", "item", "key"]) (sc := defScope sCopied) (by decide +kernel))
            (fun _ _ _ _ _ => pg_name (i := 2) scCopied.nd rfl (Or.inl rfl)) (fun _ _ _ _ _ => pts_nil) (fun _ _ _ _ _ => pv 2)
            (fun _ _ _ _ _ => pe_call G hr (by rfl) gC F.kp bC .nil pass0 (pa_cons (pe_dget (hu_of hr) (pv 0) (pv 2) (fun _ _ => rfl)) pa_nil)))))) pss_nil)
        (pss_one (ps_ret (pv 0))))), ?_⟩
      -- a list's or a tuple's items, one behind the other
      have turn : ∀ (a D : Addr) (xs : List V) (ds : List PyData), xs.length ≤ 100 → H D = none → Paired (Cp K H n) xs ds → ∀ (i : Nat) (x : V) (H' : Hp), xs[i]? = some x →
          (∃ ys, ys.length = i ∧ H' D = some (.lst ys) ∧ Same H H' ∧ Paired (fun y d => ∀ T : Hp, (∀ b o, b ≠ D → H b = none → H' b = some o → T b = some o) → Cp K T n y d) ys (ds.take i)) →
          spCopy K n [x] H' (fun y H4 => ∃ acc, H4 D = some (.lst acc) ∧ acc.length < sizeLine ∧ ∃ ys, ys.length = i + 1 ∧ upd H4 D (.lst (acc ++ [y])) D = some (.lst ys) ∧ Same H (upd H4 D (.lst (acc ++ [y]))) ∧
            Paired (fun y' d => ∀ T : Hp, (∀ b o, b ≠ D → H b = none → upd H4 D (.lst (acc ++ [y])) b = some o → T b = some o) → Cp K T n y' d) ys (ds.take (i + 1))) E0 := by
        intro a D xs ds small hD pr i x H' hx ⟨ys, l1, l2, l3, l4⟩
        obtain ⟨dx, hdx, cx⟩ := pairAt pr hx
        have hi := (List.getElem?_eq_some_iff.mp hx).1
        refine ⟨x, dx, rfl, cx.same l3, fun H4 y s4 c4 => ⟨ys, s4 _ _ l2, ?_, ys ++ [y], ?_, upd_same, ?_, ?_⟩⟩
        · exact Nat.lt_of_le_of_lt (show ys.length ≤ 100 by omega) (by decide)
        · rw [List.length_append, l1]
          rfl
        · intro b o e
          rw [upd_ne (ne_of_none e hD)]
          exact s4 _ _ (l3 _ _ e)
        · rw [takeMore hdx]
          refine pairSnoc (L2.Paired.mapP l4 fun y' d' q T hT => q T fun b o nb h0 h1 => hT b o nb h0 ?_) (fun T hT => c4 T fun b o h0 h1 => ?_)
          · rw [upd_ne nb]
            exact s4 _ _ h1
          · have nb : b ≠ D := fun z => by rw [z, l2] at h0; cases h0
            exact hT b o nb (l3.free h0) (by rw [upd_ne nb]; exact h1)
      rcases c with c | ⟨a, xs, ds, rfl, rfl, sq, small, pr⟩ | ⟨a, xs, ds, rfl, rfl, sq, small, pr⟩ | ⟨a, o, rfl, rfl, hd, deep⟩
      · obtain ⟨t, ty, t1, t2, t3⟩ := flatTy (K := K) (H := H) c
        refine ⟨_, rfl, _, _, _, _, _, rfl, .ty "list", ty, kit_ty t1, _, rfl, ifF rfl ?_⟩
        refine ⟨_, rfl, _, _, _, _, _, rfl, .ty "tuple", ty, kit_ty t2, _, rfl, ifF rfl ?_⟩
        refine ⟨_, rfl, _, _, _, _, _, rfl, .ty "dict", ty, kit_ty t3, _, rfl, ifF rfl ?_⟩
        exact ⟨_, rfl, k _ _ (Same.refl H) fun T _ => .inl c⟩
      · refine ⟨_, rfl, _, _, _, _, _, rfl, .ty "list", listTy sq, kit_ty (r := true) (by decide +kernel), _, rfl, ifT rfl ?_⟩
        refine ⟨_, rfl, a, rfl, ⟨_, sq⟩, fun D hD => lc_list (K := K) (a := a) (xs := xs)
          (fun i H' => ∃ ys, ys.length = i ∧ H' D = some (.lst ys) ∧ Same H H' ∧ Paired (fun y d => ∀ T : Hp, (∀ b o, b ≠ D → H b = none → H' b = some o → T b = some o) → Cp K T n y d) ys (ds.take i))
          ⟨[], rfl, upd_same, fun b o e => by rw [upd_ne (ne_of_none e hD)]; exact e, .nil⟩ (fun i H' _ ⟨_, _, _, s, _⟩ => s.seq sq) (fun i x H' hx inv => ⟨rfl, ?_⟩) (fun H' ⟨ys, l1, l2, l3, l4⟩ => ?_)⟩
        · exact ⟨_, rfl, turn a D xs ds small hD pr i x H' hx inv⟩
        · have full : ds.take xs.length = ds := by rw [pr.length, List.take_length]
          rw [full] at l4
          exact k _ _ l3 fun T hT => .inr (.inl ⟨D, ys, ds, rfl, rfl, .inl (.inl (hT _ _ hD l2)), by omega, L2.Paired.mapP l4 fun y d q => q T fun b o _ h0 h1 => hT b o h0 h1⟩)
      · refine ⟨_, rfl, _, _, _, _, _, rfl, .ty "list", tupTy sq, kit_ty (r := false) (by decide +kernel), _, rfl, ifF rfl ?_⟩
        refine ⟨_, rfl, _, _, _, _, _, rfl, .ty "tuple", tupTy sq, kit_ty (r := true) (by decide +kernel), _, rfl, ifT rfl ?_⟩
        refine ⟨_, rfl, a, rfl, ⟨_, sq⟩, fun D hD => lc_tup (K := K) (a := a) (xs := xs)
          (fun i H' => ∃ ys, ys.length = i ∧ H' D = some (.lst ys) ∧ Same H H' ∧ Paired (fun y d => ∀ T : Hp, (∀ b o, b ≠ D → H b = none → H' b = some o → T b = some o) → Cp K T n y d) ys (ds.take i))
          ⟨[], rfl, upd_same, fun b o e => by rw [upd_ne (ne_of_none e hD)]; exact e, .nil⟩ (fun i H' _ ⟨_, _, _, s, _⟩ => sameT s sq) (fun i x H' hx inv => ⟨rfl, ?_⟩) (fun H' ⟨ys, l1, l2, l3, l4⟩ => ?_)⟩
        · exact ⟨_, rfl, turn a D xs ds small hD pr i x H' hx inv⟩
        · have full : ds.take xs.length = ds := by rw [pr.length, List.take_length]
          rw [full] at l4
          refine ⟨D, ys, rfl, .inl ⟨.inl (.inl l2), fun l hl => k _ _ (fun b o e => ?_) fun T hT => .inr (.inr (.inl ⟨l, ys, ds, rfl, rfl, .inl (.inl (hT _ _ (l3.free hl) upd_same)), by omega, L2.Paired.mapP l4 fun y d q => q T fun b o _ h0 h1 => hT b o h0 ?_⟩))⟩⟩
          · have z := l3 _ _ e
            rw [upd_ne (ne_of_none z hl)]
            exact z
          · rw [upd_ne (ne_of_none h1 hl)]
            exact h1
      · refine ⟨_, rfl, _, _, _, _, _, rfl, .ty "list", .base (.dK hd), kit_ty (r := false) (by decide +kernel), _, rfl, ifF rfl ?_⟩
        refine ⟨_, rfl, _, _, _, _, _, rfl, .ty "tuple", .base (.dK hd), kit_ty (r := false) (by decide +kernel), _, rfl, ifF rfl ?_⟩
        refine ⟨_, rfl, _, _, _, _, _, rfl, .ty "dict", .base (.dK hd), kit_ty (r := true) (by decide +kernel), _, rfl, ifT rfl ?_⟩
        refine ⟨a, _, hd, True.intro, fun od => ⟨_, rfl, a, od, rfl, .inl ⟨_, upd_same, fun D hD => ?_⟩⟩⟩
        have hDa : D ≠ a := fun z => by rw [z, upd_same] at hD; cases hD
        have hD0 : H D = none := by rw [upd_ne hDa] at hD; exact hD
        -- what stands behind the display, the lock let go
        have fin : ∀ H' : Hp, Same (upd H a (.frz od (.dK (one o)))) H' → H' D = some (.dK (one o)) → H' a = some (.frz od (.dK (one o))) ∧ Q (.ref D) (upd H' a (.dK (one o))) := by
          intro H' s hD'
          refine ⟨s _ _ upd_same, k _ _ (fun b u e => ?_) fun T hT => .inr (.inr (.inr ⟨D, o, rfl, rfl, hT _ _ hD0 (by rw [upd_ne hDa]; exact hD'), deep⟩))⟩
          by_cases hb : b = a
          · rw [hb, upd_same, ← hd, ← hb]
            exact e
          · rw [upd_ne hb]
            exact s _ _ (by rw [upd_ne hb]; exact e)
        cases o with
        | none =>
          refine ⟨fun i m H' => i = 0 ∧ Same (upd H a (.frz od (.dK (one none)))) H' ∧ H' D = some (.dK []), ⟨0, rfl, fun b u e => ?_, upd_same⟩, fun i m H' ⟨e0, s, hD'⟩ => .inl ⟨⟨s _ _ upd_same, Nat.zero_le _⟩, fin H' s hD'⟩⟩
          rw [upd_ne (ne_of_none e hD)]
          exact e
        | some p =>
          refine ⟨fun i m H' => m = 1 - i ∧ i ≤ 1 ∧ Same (upd H a (.frz od (.dK (one (some p))))) H' ∧ H' D = some (.dK ((one (some p)).take i)), ⟨1, rfl, Nat.zero_le _, fun b u e => ?_, upd_same⟩, fun i m H' ⟨em, i1, s, hD'⟩ => ?_⟩
          · rw [upd_ne (ne_of_none e hD)]
            exact e
          · match i, i1, em, hD' with
            | 1, _, _, hD' => exact .inl ⟨⟨s _ _ upd_same, Nat.le_refl _⟩, fin H' s hD'⟩
            | 0, _, em, hD' =>
              refine .inr ⟨⟨s _ _ upd_same, Nat.zero_lt_one⟩, fun H2 => Same (upd H a (.frz od (.dK (one (some p))))) H2 ∧ H2 D = some (.dK (one (some p))), fun H2 ⟨s2, q2⟩ => ⟨0, by omega, rfl, Nat.le_refl _, s2, q2⟩, fun x H2 y => ?_⟩
              obtain ⟨rfl, ky, vy, e1, rfl⟩ := y
              cases e1
              have n0 : 0 < n := by
                rcases deep with z | z
                · cases z
                · exact z
              have val : valV (one (some p)) (Sum.inr p.1) = some (.int p.2) := by simp [one, valV]
              obtain ⟨n', rfl⟩ : ∃ n', n = n' + 1 := ⟨n - 1, by omega⟩
              refine ⟨rfl, _, rfl, _, rfl, _, rfl, a, .int p.2, rfl, .inl ⟨_, Sum.inr p.1, .inr ⟨od, s _ _ upd_same⟩, rfl, val.symm⟩, .int p.2, .int p.2, rfl, .inl rfl, fun H5 v' s5 c5 => ?_⟩
              obtain rfl := cpInt c5.here
              refine ⟨[], Sum.inr p.1, rfl, s5 _ _ hD', Nat.lt_of_le_of_lt (Nat.zero_le 1) (by decide), fun b u e => ?_, ?_⟩
              · rw [upd_ne (ne_of_none e hD)]
                exact s5 _ _ (s _ _ e)
              · rw [upd_same]
                simp [one, putK]
end
end Co
namespace Ow
open PySem PySem.Spec PyProof.Rows L2 Ev Er Co
/-! The errors that keep a value, and those that keep none, as the callers see them. -/
theorem weaken {X : Cx} {e : Expr} {t t' : TE} (h : PE X e t) (i : ∀ σ H Q, t' σ H Q → t σ H Q) : PE X e t' := ⟨fun pins s σ H Q I z => h.run pins s σ H Q I (i σ H Q z)⟩
structure OwnE (P : Program) (w : World) (K : PySem.W.Frag) (mg : Str → Option Value) (base : Heap) (n k : Nat) (name par field : Str) (C : Addr) : Prop where
  ex : ∃ (fI : Addr) (fd : FuncData), FnOk P w K mg base CX0 k fI fd ["self", par] (spInit C field (spCopy K n)) ∧ PySem.W.findIn K (.ref C) "__init__" = some (some (.ref fI)) ∧ PySem.W.typeIn K (.ref fI) = some (.type "function") ∧
    (∀ (s : Shared) (u1 u2 : Value), BindsTo s fd ⟨[u1, u2], []⟩ [(("self" : Str), u1), (par, u2)]) ∧ ∀ (s : Shared) (u1 u2 : Value), BindsTo s fd ⟨[u1], [(par, u2)]⟩ [(("self" : Str), u1), (par, u2)]
  oex : OexC K C
  xf : XfC K C
  no : PySem.W.findIn K (.ref C) field = some none
  g : mg name = some (.ref C)
/-- the new error, as told to the caller -/
def tNewErr (K : PySem.W.Frag) (n : Nat) (C : Addr) (field : Str) (ta : TA) : TE := fun σ H Q => ta σ H fun vs H1 => ∃ (v : V) (d : PyData), vs = [v] ∧ Cp K H1 n v d ∧
  ∀ (H' : Hp) (a : Addr) (v' : V), Same H1 H' → H1 a = none → ErrAt H' a C (some [(field, v')]) → Cp K H' n v' d → Q (.ref a) H'
def tFieldOf (K : PySem.W.Frag) (n : Nat) (ta : TA) : TE := fun σ H Q => ta σ H fun vs H1 => ∃ (v : V) (d : PyData), vs = [v] ∧ Cp K H1 n v d ∧ ∀ (H' : Hp) (v' : V), Same H1 H' → Cp K H' n v' d → Q v' H'
theorem initRd {K : PySem.W.Frag} {n : Nat} {C : Addr} {field : Str} {H : Hp} {v : V} {d : PyData} {Q : VK} (c : Cp K H n v d) (q : ∀ (H' : Hp) (a : Addr) (v' : V), Same H H' → H a = none → ErrAt H' a C (some [(field, v')]) → Cp K H' n v' d → Q (.ref a) H') :
    ∀ a, H a = none → spInit C field (spCopy K n) [.ref a, v] (upd H a (exo a C none)) (fun z H2 => z = .non ∧ Q (.ref a) H2) E0 := by
  intro a ha
  have s0 : Same H (upd H a (exo a C none)) := fun b o e => by
    rw [upd_ne (ne_of_none e ha)]
    exact e
  refine ⟨a, v, rfl, upd_same, v, d, rfl, c.same s0, fun H' v' s cn => ⟨s _ _ upd_same, fun dx hdx ne => ⟨rfl, q _ a v' (fun b o e => ?_) ha (.inr (.inr ⟨dx, _, rfl, upd_same, ?_⟩)) (cn _ fun b o h0 h1 => ?_)⟩⟩⟩
  · have h1 := s _ _ (s0 _ _ e)
    rw [upd_ne (ne_of_none e ha), upd_ne (ne_of_none h1 hdx)]
    exact h1
  · rw [upd_ne ne, upd_same]
  · have na : b ≠ a := fun z => by rw [z, upd_same] at h0; cases h0
    rw [upd_ne na, upd_ne (ne_of_none h1 hdx)]
    exact h1
section
variable {X : Cx} {n k : Nat} {name par field : Str} {C : Addr} {e : Expr} {ta : TA} {p pos pos2 : Pos}
/-- arguments whose reading may be widened -/
def taW (ta : TA) : TA := fun σ H Q => ∃ R : List V → Hp → Prop, ta σ H R ∧ ∀ vs H', R vs H' → Q vs H'
theorem pa_wide {es : List Expr} (ha : PA X es ta) : PA X es (taW ta) := ⟨fun pos pins s σ H Q I ⟨R, h, i⟩ => wpAny_mono (ha.run pos pins s σ H R I h) (fun us s' ⟨vs, H', I', r, q⟩ => ⟨vs, H', I', r, i _ _ q⟩) fun _ _ z => z⟩
theorem pk_wide {kws : List Keyword} (ha : PK X kws ta) : PK X kws (taW ta) := ⟨fun pos pins s σ H Q I ⟨R, h, i⟩ => wpAny_mono (ha.run pos pins s σ H R I h) (fun us s' ⟨vs, H', I', r, q⟩ => ⟨vs, H', I', r, i _ _ q⟩) fun _ _ z => z⟩
theorem pe_newErr (O : OwnE X.prog X.w X.K X.mg X.base n k name par field C) (room : Room (k + 1) X.A) (hg : Gl X name) (ha : PA X [e] ta) (n1 : (name == ("__debug__" : Str)) = false := by decide)
    (n2 : starEach [e] X.env = (false, eval e X.env) :: starEach [] X.env := by rfl) (n3 : (backTo pos (starEach [] X.env)).any (·.1) = false := by rfl) : PE X (.Call (.Name name p) [e] [] pos) (tNewErr X.K n C field ta) := by
  obtain ⟨fI, fd, F, iC, tI, bp, bk⟩ := O.ex
  exact weaken (pe_mkE (p := p) (pos := pos) O.oex iC tI F room bp hg O.g (pa_wide ha) n1 n2 n3) fun σ H Q h => ⟨_, h, fun vs H' ⟨v, d, e, c, q⟩ => ⟨v, e, initRd c q⟩⟩
theorem pe_newErrK {kws : List Keyword} (O : OwnE X.prog X.w X.K X.mg X.base n k name par field C) (room : Room (k + 1) X.A) (hg : Gl X name) (hk : PK X kws ta) (all : (backToKw pos (keywordEach kws X.env)).all (·.1.isSome) = true := by rfl)
    (names : (backToKw pos (keywordEach kws X.env)).filterMap (·.1) = [par] := by rfl) (n1 : (name == ("__debug__" : Str)) = false := by decide)
    (n3 : ((backTo pos (starEach [] X.env)).any (·.1) || (backToKw pos (keywordEach kws X.env)).any (·.1.isNone)) = false := by rfl) : PE X (.Call (.Name name p) [] kws pos) (tNewErr X.K n C field ta) := by
  obtain ⟨fI, fd, F, iC, tI, bp, bk⟩ := O.ex
  exact weaken (pe_mkEk (p := p) (pos := pos) O.oex iC tI F room bk hg O.g (pk_wide hk) all names n1 n3) fun σ H Q h => ⟨_, h, fun vs H' ⟨v, d, e, c, q⟩ => ⟨v, e, initRd c q⟩⟩
/-- the value that the new error keeps -/
theorem pe_keeps {q : Pos} {ex : Expr} (O : OwnE X.prog X.w X.K X.mg X.base n k name par field C) (h : PE X ex (tNewErr X.K n C field (taW ta))) (hb : attributeBase ex field X.env (eval ex X.env) = eval ex X.env := by rfl) : PE X (.Attribute ex field q) (tFieldOf X.K n ta) :=
  weaken (pe_errF h hb) fun σ H Q z => ⟨_, z, fun vs H' ⟨v, d, e, c, k⟩ => ⟨v, d, e, c, fun H2 a v' s ha ea c' => ⟨a, C, _, v', rfl, ea, O.xf, O.no, by simp [List.lookup], k H2 v' s c'⟩⟩⟩
theorem pe_kept {p pos pos2 : Pos} (O : OwnE X.prog X.w X.K X.mg X.base n k name par field C) (room : Room (k + 1) X.A) (hg : Gl X name) (ha : PA X [e] ta) (hb : attributeBase (.Call (.Name name p) [e] [] pos) field X.env (eval (.Call (.Name name p) [e] [] pos) X.env) = eval (.Call (.Name name p) [e] [] pos) X.env := by rfl)
    (n1 : (name == ("__debug__" : Str)) = false := by decide) (n2 : starEach [e] X.env = (false, eval e X.env) :: starEach [] X.env := by rfl) (n3 : (backTo pos (starEach [] X.env)).any (·.1) = false := by rfl) :
    PE X (.Attribute (.Call (.Name name p) [e] [] pos) field pos2) (tFieldOf X.K n ta) := pe_keeps O (pe_newErr O room hg (pa_wide ha) n1 n2 n3) hb
theorem pe_keptK {kws : List Keyword} {p pos pos2 : Pos} (O : OwnE X.prog X.w X.K X.mg X.base n k name par field C) (room : Room (k + 1) X.A) (hg : Gl X name) (hk : PK X kws ta) (hb : attributeBase (.Call (.Name name p) [] kws pos) field X.env (eval (.Call (.Name name p) [] kws pos) X.env) = eval (.Call (.Name name p) [] kws pos) X.env := by rfl)
    (all : (backToKw pos (keywordEach kws X.env)).all (·.1.isSome) = true := by rfl) (names : (backToKw pos (keywordEach kws X.env)).filterMap (·.1) = [par] := by rfl) (n1 : (name == ("__debug__" : Str)) = false := by decide)
    (n3 : ((backTo pos (starEach [] X.env)).any (·.1) || (backToKw pos (keywordEach kws X.env)).any (·.1.isNone)) = false := by rfl) :
    PE X (.Attribute (.Call (.Name name p) [] kws pos) field pos2) (tFieldOf X.K n ta) := pe_keeps O (pe_newErrK O room hg (pk_wide hk) all names n1 n3) hb
/-- an error that keeps no value: made with a text -/
structure BareE (K : PySem.W.Frag) (mg : Str → Option Value) (name : Str) (C : Addr) : Prop where
  exc : PySem.W.excIn K C PySem.HandSPX.veTail "ValueError.__new__" = true
  g : mg name = some (.ref C)
  k : PySem.W.keepIn K (.ref C) = true
def tBareErr (C : Addr) (te : TE) : TE := fun σ H Q => te σ H fun _ H1 => ∀ (H' : Hp) (a : Addr), Same H1 H' → H1 a = none → ErrAt H' a C none → Q (.ref a) H'
theorem pe_bareErr {te : TE} (O : BareE X.K X.mg name C) (hg : Gl X name) (he : PE X e te) (n2 : starEach [e] X.env = (false, eval e X.env) :: starEach [] X.env := by rfl) (n1 : (name == ("__debug__" : Str)) = false := by decide) :
    PE X (.Call (.Name name p) [e] [] pos) (tBareErr C te) := by
  have wide : PE X e (fun σ H Q => ∃ R : VK, te σ H R ∧ ∀ v H', R v H' → Q v H') := ⟨fun pins s σ H Q I ⟨R, h, i⟩ => wpAny_mono (he.run pins s σ H R I h) (fun u s' ⟨v, H', I', r, q⟩ => ⟨v, H', I', r, i _ _ q⟩) fun _ _ z => z⟩
  refine weaken (pe_exc1 (p := p) (pos := pos) PySem.F.excBase_ValueError O.exc O.g O.k hg wide n2 n1) fun σ H Q h => ⟨_, h, fun v H1 k a ha => k _ a (fun b o e => ?_) ha (.inr (.inl ⟨rfl, upd_same⟩))⟩
  rw [upd_ne (ne_of_none e ha)]
  exact e
end
end Ow
namespace Sh
open PySem PySem.Spec PyProof.Rows L2 Co Gd
/-! What is copied can be shown. -/
theorem dpFl {K : PySem.W.Frag} {H : Hp} : ∀ {v : V} {d : PyData}, Fl v d → Dp K H v d
  | .non, .none, _ => .non
  | .bl b, .bool _, h => by cases (show b = _ from h); exact .bl b
  | .int i, .int _, h => by cases (show i = _ from h); exact .int i
  | .str x, .str _, h => by cases (show x = _ from h); exact .str x
theorem dpPair {K : PySem.W.Frag} {H : Hp} {xs : List V} {ds : List PyData} (r : Paired (fun v d => d.hasDict = false → Dp K H v d) xs ds) : PyData.hasDictAll ds = false → DpAll K H xs ds := by
  induction r with
  | nil => intro _; exact .nil
  | cons h t ih =>
    intro z
    simp only [PyData.hasDictAll, Bool.or_eq_false_iff] at z
    exact .cons (h z.1) (ih z.2)
theorem cpDp {K : PySem.W.Frag} {H : Hp} : ∀ {n : Nat} {v : V} {d : PyData}, Cp K H n v d → d.hasDict = false → Dp K H v d
  | 0, _, _, h, _ => h.elim
  | n + 1, v, d, h, z => by
    rcases h with h | ⟨a, xs, ds, rfl, rfl, sq, l, r⟩ | ⟨a, xs, ds, rfl, rfl, sq, l, r⟩ | ⟨a, o, rfl, rfl, hd, _⟩
    · exact dpFl h
    · simp only [PyData.hasDict] at z
      exact .lst sq (dpPair (L2.Paired.mapP r fun _ _ q => cpDp q) z)
    · simp only [PyData.hasDict] at z
      exact .tup sq (dpPair (L2.Paired.mapP r fun _ _ q => cpDp q) z)
    · simp only [PyData.hasDict] at z
      cases z
/-- what the laws show: no dict within it, or one of one entry -/
def Plain (d : PyData) : Prop := d.hasDict = false ∨ ∃ o, d = .dict (oneD o)
section
variable {P : Program} {w : World} {K : PySem.W.Frag} {H : Hp} {n : Nat} {v : V} {d : PyData}
theorem shown_dict0 {a : Addr} (h : H a = some (.dK [])) : Shown P w K H (.ref a) (.dict []) := fun X _ _ _ pins σ s u I r => by
  obtain rfl : u = Value.ref a := r
  obtain ⟨hz, hsys, vs, kv, o, es, ep, h1, h2, h3, h4, h5, h6⟩ := I.hok a _ h
  cases kv
  have hE : es.toList = [] := by
    cases q : es.toList with
    | nil => rfl
    | cons e rest => rw [q] at h5; cases h5
  refine ⟨_, Reads.dict h1 h2.1 h3 (as := []) (bs := []) ?_ ?_, fun _ m => ?_⟩
  · rw [hE]
    exact .nil
  · rw [hE]
    exact .nil
  · have q : sysModules = a := by simpa using m
    rw [q] at hsys
    simp at hsys
theorem cpShown (c : Cp K H n v d) (p : Plain d) : Shown P w K H v d := by
  rcases p with p | ⟨o, rfl⟩
  · exact shown_dp (cpDp c p) p
  · cases n with
    | zero => exact c.elim
    | succ n =>
      rcases c with c | ⟨_, _, _, _, e, _⟩ | ⟨_, _, _, _, e, _⟩ | ⟨a, o', rfl, e, hd, _⟩
      · cases v <;> exact c.elim
      · cases e
      · cases e
      · have eo : o = o' := by
          cases o with
          | none => cases o' with
            | none => rfl
            | some p' => cases e
          | some p => cases o' with
            | none => cases e
            | some p' =>
              obtain ⟨x, i⟩ := p
              obtain ⟨x', i'⟩ := p'
              simp only [oneD, PyData.dict.injEq, List.cons.injEq, Prod.mk.injEq, PyData.str.injEq, PyData.int.injEq, and_true] at e
              rw [e.1, e.2]
        subst eo
        cases o with
        | none => exact shown_dict0 hd
        | some p => exact shown_dict1 hd
/-- repr(x) of it -/
theorem showRd {Q : VK} (c : Cp K H n v d) (p : Plain d) (h1 : d.showable = true) (h2 : d.depth ≤ 40) (h3 : d.shown.length ≤ sizeLine) (q : Q (.str d.shown) H) : rShow P w K [v] H Q := ⟨v, d, rfl, cpShown c p, h1, h2, h3, q⟩
end
end Sh
namespace K01
open PySem PySem.Spec PyProof.Rows L2 Ev Er Co Ow Gd
/-! law k01: errors of all classes, made by hand. -/
def top (i : Nat) : Stmt := PySem.Challenge.pw_presumebooks_k01_errors_by_hand.main.body.getD i (.Pass ⟨0, 0, 0, 0⟩)
abbrev sFlags : Stmt := top 21
abbrev sAll : Stmt := top 22
abbrev sNamed : Stmt := top 23
abbrev sLaw : Stmt := top 24
theorem scFlags : FnScope ["error", "found"] ["error"] (defScope sFlags) := ⟨rfl, rfl, rfl, by decide +kernel, rfl, by decide +kernel, by decide +kernel⟩
theorem scAll : FnScope ["what", "found"] ["what"] (defScope sAll) := ⟨rfl, rfl, rfl, by decide +kernel, rfl, by decide +kernel, by decide +kernel⟩
theorem scNamed : FnScope ["what", "found", "item"] ["what"] (defScope sNamed) := ⟨rfl, rfl, rfl, by decide +kernel, rfl, by decide +kernel, by decide +kernel⟩
theorem scLaw : FnScope ["script", "draw", "turn", "what", "some", "spot", "error", "k"] ["script"] (defScope sLaw) := ⟨rfl, rfl, rfl, by decide +kernel, rfl, by decide +kernel, by decide +kernel⟩
/-- where the classes stand -/
structure Ad where
  BadBook : Addr
  BadRecord : Addr
  BadLog : Addr
  BadNumber : Addr
  BadStanding : Addr
  BadDeed : Addr
  BadWish : Addr
  NoBreak : Addr
  NotHeld : Addr
  BadOutcome : Addr
  NothingDone : Addr
  BadJournal : Addr
  BadText : Addr
  DealError : Addr
def Ad.all (A : Ad) : List Addr := [A.BadBook, A.BadRecord, A.BadLog, A.BadNumber, A.BadStanding, A.BadDeed, A.BadWish, A.NoBreak, A.NotHeld, A.BadOutcome, A.NothingDone, A.BadJournal, A.BadText]
structure Tx (P : Program) (w : World) (K : PySem.W.Frag) (mg : Str → Option Value) (base : Heap) (A : Ad) : Prop where
  eBadBook : OwnE P w K mg base 3 5 "BadBook" "part" "part" A.BadBook
  eBadRecord : OwnE P w K mg base 3 5 "BadRecord" "record" "record" A.BadRecord
  eBadLog : BareE K mg "BadLog" A.BadLog
  eBadNumber : OwnE P w K mg base 3 5 "BadNumber" "number" "number" A.BadNumber
  eBadStanding : BareE K mg "BadStanding" A.BadStanding
  eBadDeed : OwnE P w K mg base 3 5 "BadDeed" "at" "at" A.BadDeed
  eBadWish : OwnE P w K mg base 3 5 "BadWish" "wish" "wish" A.BadWish
  eNoBreak : BareE K mg "NoBreak" A.NoBreak
  eNotHeld : BareE K mg "NotHeld" A.NotHeld
  eBadOutcome : BareE K mg "BadOutcome" A.BadOutcome
  eNothingDone : BareE K mg "NothingDone" A.NothingDone
  eBadJournal : OwnE P w K mg base 3 5 "BadJournal" "at" "at" A.BadJournal
  eBadText : OwnE P w K mg base 3 5 "BadText" "line" "line" A.BadText
  eDealError : BareE K mg "DealError" A.DealError
  gBadBook : mg "BadBook" = some (.ref A.BadBook)
  gBadRecord : mg "BadRecord" = some (.ref A.BadRecord)
  gBadLog : mg "BadLog" = some (.ref A.BadLog)
  gBadNumber : mg "BadNumber" = some (.ref A.BadNumber)
  gBadStanding : mg "BadStanding" = some (.ref A.BadStanding)
  gBadDeed : mg "BadDeed" = some (.ref A.BadDeed)
  gBadWish : mg "BadWish" = some (.ref A.BadWish)
  gNoBreak : mg "NoBreak" = some (.ref A.NoBreak)
  gNotHeld : mg "NotHeld" = some (.ref A.NotHeld)
  gBadOutcome : mg "BadOutcome" = some (.ref A.BadOutcome)
  gNothingDone : mg "NothingDone" = some (.ref A.NothingDone)
  gBadJournal : mg "BadJournal" = some (.ref A.BadJournal)
  gBadText : mg "BadText" = some (.ref A.BadText)
  gDealError : mg "DealError" = some (.ref A.DealError)
  isi : mg "isinstance" = none
  repr : mg "repr" = none
  ve : mg "ValueError" = none
  len : mg "len" = none
  enumerate : mg "enumerate" = none
  range : mg "range" = none
  min : mg "min" = none
  cls : ∀ C ∈ A.all, ECls K C
  clsD : ECls K A.DealError
  kit : ∀ (i : Nat) (C : Addr), A.all[i]? = some C → Paired (fun D b => PySem.W.kitOne K (.ref C) (.ref D) = some b) A.all ((List.range 13).map fun j => decide (j = i))
  kitU : ∀ C ∈ A.all, PySem.W.kitOne K (.ref C) (.ref A.DealError) = some true ∧ PySem.W.kitOne K (.ref C) (.type "ValueError") = some true
  kitD : Paired (fun D b => PySem.W.kitOne K (.ref A.DealError) (.ref D) = some b) A.all ((List.range 13).map fun _ => false)
  kitV : PySem.W.kitOne K (.ref A.DealError) (.type "ValueError") = some true
section
variable {P : Program} {w : World} {K : PySem.W.Frag} {mg : Str → Option Value} {base : Heap} {A : Ad}
theorem sameUp {H H' : Hp} {l : Addr} {o : HO} (s : Same H H') (h : H' l = none) : Same H (upd H' l o) := fun b u e => by
  rw [upd_ne (ne_of_none (s _ _ e) h)]
  exact s _ _ e
/-- two lists, the second one new, put together -/
theorem catRd {H H1 : Hp} {l1 : Addr} {xs ys : List V} {Q : VK} (s : Same H H1) (h1 : H1 l1 = some (.lst xs)) (few : xs.length + ys.length ≤ 1000) (q : ∀ (H' : Hp) (p : Addr), Same H H' → H p = none → H' p = some (.lst (xs ++ ys)) → (∀ b o, H1 b = some o → H' b = some o) → Q (.ref p) H') :
    ∀ l2, H1 l2 = none → rCat (.ref l1) (.ref l2) (upd H1 l2 (.lst ys)) Q := fun l2 h2 =>
  ⟨l1, l2, xs, ys, rfl, rfl, by rw [upd_ne (ne_of_none h1 h2)]; exact h1, upd_same, Nat.le_trans few (by decide), fun p hp => q _ p (sameUp (sameUp s h2) hp) ((sameUp s h2).free hp) upd_same fun b o e => by
    have z := sameUp (o := .lst ys) (Same.refl H1) h2 b o e
    rw [upd_ne (ne_of_none z hp)]
    exact z⟩

def spFlags (K : PySem.W.Frag) (A : Ad) : Sp := fun vs H Q _ => ∃ (a C : Addr) (fs : Option (List (Str × V))) (bs : List Bool), vs = [.ref a] ∧ ErrAt H a C fs ∧ ECls K C ∧ Paired (fun D b => PySem.W.kitOne K (.ref C) (.ref D) = some b) A.all bs ∧
  ∀ (H' : Hp) (p : Addr), Same H H' → H p = none → H' p = some (.lst (bs.map V.bl)) → Q (.ref p) H'
theorem ok_flags {f : Addr} {fd : FuncData} (F : Fun K "_law_flags" "_law_flags" sFlags f fd) (T : Tx P w K mg base A) : FnOk P w K mg base CX0 1 f fd ["error"] (spFlags K A) := by
  refine F.ok scFlags (fun vs H Q E h => ?_) (fun cdv Ar outer s H vs Q E hr h => ?_)
  · obtain ⟨a, C, fs, bs, rfl, _⟩ := h
    rfl
  · obtain ⟨a, C, fs, bs, rfl, ea, ec, kit, k⟩ := h
    refine ⟨_, pss_cons (ps_set (i := 1) scFlags.nd rfl (Or.inl rfl) (pe_lst (pa_cons (pe_callB call_isErr (by rfl) T.isi bIsi (pa_cons (pv 0) (pa_cons (pe_glob (v := .ref A.BadBook) (by rfl) T.gBadBook rfl) pa_nil))) (pa_cons (pe_callB call_isErr (by rfl) T.isi bIsi (pa_cons (pv 0) (pa_cons (pe_glob (v := .ref A.BadRecord) (by rfl) T.gBadRecord rfl) pa_nil))) (pa_cons (pe_callB call_isErr (by rfl) T.isi bIsi (pa_cons (pv 0) (pa_cons (pe_glob (v := .ref A.BadLog) (by rfl) T.gBadLog rfl) pa_nil))) pa_nil)))))
      (pss_cons (ps_set (i := 1) scFlags.nd rfl (Or.inl rfl) (pe_op op_cat (pv 1) (pe_lst (pa_cons (pe_callB call_isErr (by rfl) T.isi bIsi (pa_cons (pv 0) (pa_cons (pe_glob (v := .ref A.BadNumber) (by rfl) T.gBadNumber rfl) pa_nil))) (pa_cons (pe_callB call_isErr (by rfl) T.isi bIsi (pa_cons (pv 0) (pa_cons (pe_glob (v := .ref A.BadStanding) (by rfl) T.gBadStanding rfl) pa_nil))) (pa_cons (pe_callB call_isErr (by rfl) T.isi bIsi (pa_cons (pv 0) (pa_cons (pe_glob (v := .ref A.BadDeed) (by rfl) T.gBadDeed rfl) pa_nil))) pa_nil))))))
      (pss_cons (ps_set (i := 1) scFlags.nd rfl (Or.inl rfl) (pe_op op_cat (pv 1) (pe_lst (pa_cons (pe_callB call_isErr (by rfl) T.isi bIsi (pa_cons (pv 0) (pa_cons (pe_glob (v := .ref A.BadWish) (by rfl) T.gBadWish rfl) pa_nil))) (pa_cons (pe_callB call_isErr (by rfl) T.isi bIsi (pa_cons (pv 0) (pa_cons (pe_glob (v := .ref A.NoBreak) (by rfl) T.gNoBreak rfl) pa_nil))) (pa_cons (pe_callB call_isErr (by rfl) T.isi bIsi (pa_cons (pv 0) (pa_cons (pe_glob (v := .ref A.NotHeld) (by rfl) T.gNotHeld rfl) pa_nil))) pa_nil))))))
      (pss_cons (ps_set (i := 1) scFlags.nd rfl (Or.inl rfl) (pe_op op_cat (pv 1) (pe_lst (pa_cons (pe_callB call_isErr (by rfl) T.isi bIsi (pa_cons (pv 0) (pa_cons (pe_glob (v := .ref A.BadOutcome) (by rfl) T.gBadOutcome rfl) pa_nil))) (pa_cons (pe_callB call_isErr (by rfl) T.isi bIsi (pa_cons (pv 0) (pa_cons (pe_glob (v := .ref A.NothingDone) (by rfl) T.gNothingDone rfl) pa_nil))) (pa_cons (pe_callB call_isErr (by rfl) T.isi bIsi (pa_cons (pv 0) (pa_cons (pe_glob (v := .ref A.BadJournal) (by rfl) T.gBadJournal rfl) pa_nil))) pa_nil))))))
      (pss_one (ps_ret (pe_op op_cat (pv 1) (pe_lst (pa_cons (pe_callB call_isErr (by rfl) T.isi bIsi (pa_cons (pv 0) (pa_cons (pe_glob (v := .ref A.BadText) (by rfl) T.gBadText rfl) pa_nil))) pa_nil)))))))), ?_⟩
    obtain ⟨b0, b1, b2, b3, b4, b5, b6, b7, b8, b9, b10, b11, b12, rfl, k0, k1, k2, k3, k4, k5, k6, k7, k8, k9, k10, k11, k12⟩ : ∃ b0 b1 b2 b3 b4 b5 b6 b7 b8 b9 b10 b11 b12, bs = [b0, b1, b2, b3, b4, b5, b6, b7, b8, b9, b10, b11, b12] ∧ PySem.W.kitOne K (.ref C) (.ref A.BadBook) = some b0 ∧ PySem.W.kitOne K (.ref C) (.ref A.BadRecord) = some b1 ∧ PySem.W.kitOne K (.ref C) (.ref A.BadLog) = some b2 ∧ PySem.W.kitOne K (.ref C) (.ref A.BadNumber) = some b3 ∧ PySem.W.kitOne K (.ref C) (.ref A.BadStanding) = some b4 ∧ PySem.W.kitOne K (.ref C) (.ref A.BadDeed) = some b5 ∧ PySem.W.kitOne K (.ref C) (.ref A.BadWish) = some b6 ∧ PySem.W.kitOne K (.ref C) (.ref A.NoBreak) = some b7 ∧ PySem.W.kitOne K (.ref C) (.ref A.NotHeld) = some b8 ∧ PySem.W.kitOne K (.ref C) (.ref A.BadOutcome) = some b9 ∧ PySem.W.kitOne K (.ref C) (.ref A.NothingDone) = some b10 ∧ PySem.W.kitOne K (.ref C) (.ref A.BadJournal) = some b11 ∧ PySem.W.kitOne K (.ref C) (.ref A.BadText) = some b12 := by
      unfold Ad.all at kit
      cases kit with
      | cons q0 kit =>
        cases kit with
        | cons q1 kit =>
          cases kit with
          | cons q2 kit =>
            cases kit with
            | cons q3 kit =>
              cases kit with
              | cons q4 kit =>
                cases kit with
                | cons q5 kit =>
                  cases kit with
                  | cons q6 kit =>
                    cases kit with
                    | cons q7 kit =>
                      cases kit with
                      | cons q8 kit =>
                        cases kit with
                        | cons q9 kit =>
                          cases kit with
                          | cons q10 kit =>
                            cases kit with
                            | cons q11 kit =>
                              cases kit with
                              | cons q12 kit =>
                                cases kit
                                exact ⟨_, _, _, _, _, _, _, _, _, _, _, _, _, rfl, q0, q1, q2, q3, q4, q5, q6, q7, q8, q9, q10, q11, q12⟩
    refine ⟨_, rfl, a, C, fs, _, _, _, rfl, ea.same (Same.refl H), ec, .own _, k0, _, rfl, a, C, fs, _, _, _, rfl, ea.same (Same.refl H), ec, .own _, k1, _, rfl, a, C, fs, _, _, _, rfl, ea.same (Same.refl H), ec, .own _, k2, (by show 3 ≤ sizeLine; decide), fun l0 h0 => ?_⟩
    have s0 : Same H (upd H l0 (.lst [.bl b0, .bl b1, .bl b2])) := sameUp (Same.refl H) h0
    refine ⟨_, rfl, _, rfl, a, C, fs, _, _, _, rfl, ea.same s0, ec, .own _, k3, _, rfl, a, C, fs, _, _, _, rfl, ea.same s0, ec, .own _, k4, _, rfl, a, C, fs, _, _, _, rfl, ea.same s0, ec, .own _, k5, (by show 3 ≤ sizeLine; decide), catRd s0 upd_same (by simp) fun H1 l1 s1 f1 z1 _ => ?_⟩
    refine ⟨_, rfl, _, rfl, a, C, fs, _, _, _, rfl, ea.same s1, ec, .own _, k6, _, rfl, a, C, fs, _, _, _, rfl, ea.same s1, ec, .own _, k7, _, rfl, a, C, fs, _, _, _, rfl, ea.same s1, ec, .own _, k8, (by show 3 ≤ sizeLine; decide), catRd s1 z1 (by simp) fun H2 l2 s2 f2 z2 _ => ?_⟩
    refine ⟨_, rfl, _, rfl, a, C, fs, _, _, _, rfl, ea.same s2, ec, .own _, k9, _, rfl, a, C, fs, _, _, _, rfl, ea.same s2, ec, .own _, k10, _, rfl, a, C, fs, _, _, _, rfl, ea.same s2, ec, .own _, k11, (by show 3 ≤ sizeLine; decide), catRd s2 z2 (by simp) fun H3 l3 s3 f3 z3 _ => ?_⟩
    refine ⟨_, rfl, _, rfl, a, C, fs, _, _, _, rfl, ea.same s3, ec, .own _, k12, (by show 1 ≤ sizeLine; decide), catRd s3 z3 (by simp) fun H4 l4 s4 f4 z4 _ => ?_⟩
    exact k _ _ s4 f4 z4
/-- an error of the class at C -/
def Err (H : Hp) (a C : Addr) : Prop := ∃ fs, ErrAt H a C fs
theorem errAll {H H' : Hp} (s : Same H H') {es Cs : List Addr} (r : Paired (Err H) es Cs) : Paired (Err H') es Cs := L2.Paired.mapP r fun _ _ ⟨fs, e⟩ => ⟨fs, e.same s⟩
def spAll (K : PySem.W.Frag) (A : Ad) : Sp := fun vs H Q _ => ∃ (v : V) (d : PyData), vs = [v] ∧ Cp K H 3 v d ∧ ∀ (H' : Hp) (p : Addr) (es : List Addr), Same H H' → H' p = some (.lst (es.map V.ref)) → Paired (Err H') es A.all → Q (.ref p) H'
theorem ok_all {f : Addr} {fd : FuncData} (F : Fun K "_law_all_made" "_law_all_made" sAll f fd) (T : Tx P w K mg base A) : FnOk P w K mg base CX0 7 f fd ["what"] (spAll K A) := by
  refine F.ok scAll (fun vs H Q E h => ?_) (fun cdv Ar outer s H vs Q E hr h => ?_)
  · obtain ⟨v, d, rfl, _⟩ := h
    rfl
  · obtain ⟨v, d, rfl, cp, k⟩ := h
    refine ⟨_, pss_cons (ps_set (i := 1) scAll.nd rfl (Or.inl rfl) (pe_lst (pa_cons (pe_newErr T.eBadBook hr (by rfl) (pa_cons (pv 0) pa_nil)) (pa_cons (pe_newErr T.eBadRecord hr (by rfl) (pa_cons (pv 0) pa_nil)) (pa_cons (pe_bareErr T.eBadLog (by rfl) pe_str) (pa_cons (pe_newErr T.eBadNumber hr (by rfl) (pa_cons (pv 0) pa_nil)) (pa_cons (pe_bareErr T.eBadStanding (by rfl) pe_str) (pa_cons (pe_newErr T.eBadDeed hr (by rfl) (pa_cons (pv 0) pa_nil)) pa_nil))))))))
      (pss_cons (ps_set (i := 1) scAll.nd rfl (Or.inl rfl) (pe_op op_cat (pv 1) (pe_lst (pa_cons (pe_newErr T.eBadWish hr (by rfl) (pa_cons (pv 0) pa_nil)) (pa_cons (pe_bareErr T.eNoBreak (by rfl) pe_str) (pa_cons (pe_bareErr T.eNotHeld (by rfl) pe_str) (pa_cons (pe_bareErr T.eBadOutcome (by rfl) pe_str) (pa_cons (pe_bareErr T.eNothingDone (by rfl) pe_str) (pa_cons (pe_newErr T.eBadJournal hr (by rfl) (pa_cons (pv 0) pa_nil)) pa_nil)))))))))
      (pss_one (ps_ret (pe_op op_cat (pv 1) (pe_lst (pa_cons (pe_newErr T.eBadText hr (by rfl) (pa_cons (pv 0) pa_nil)) pa_nil)))))), ?_⟩
    refine ⟨_, rfl, v, d, rfl, cp.same (Same.refl H), fun G0 a0 v0 t0 f0 e0 c0 => ?_⟩
    have s0 := Same.trans (Same.refl H) t0
    refine ⟨_, rfl, v, d, rfl, cp.same s0, fun G1 a1 v1 t1 f1 e1 c1 => ?_⟩
    have s1 := Same.trans s0 t1
    intro G2 a2 t2 f2 e2
    have s2 := Same.trans s1 t2
    refine ⟨_, rfl, v, d, rfl, cp.same s2, fun G3 a3 v3 t3 f3 e3 c3 => ?_⟩
    have s3 := Same.trans s2 t3
    intro G4 a4 t4 f4 e4
    have s4 := Same.trans s3 t4
    refine ⟨_, rfl, v, d, rfl, cp.same s4, fun G5 a5 v5 t5 f5 e5 c5 => ?_⟩
    have s5 := Same.trans s4 t5
    refine ⟨(by show 6 ≤ sizeLine; decide), fun l0 h0 => ?_⟩
    have u0 : Same H (upd G5 l0 (.lst ([a0, a1, a2, a3, a4, a5].map V.ref))) := sameUp s5 h0
    have w0 : Same G5 (upd G5 l0 (.lst ([a0, a1, a2, a3, a4, a5].map V.ref))) := sameUp (Same.refl G5) h0
    refine ⟨_, rfl, _, rfl, v, d, rfl, cp.same u0, fun G6 a6 v6 t6 f6 e6 c6 => ?_⟩
    have s6 := Same.trans u0 t6
    intro G7 a7 t7 f7 e7
    have s7 := Same.trans s6 t7
    intro G8 a8 t8 f8 e8
    have s8 := Same.trans s7 t8
    intro G9 a9 t9 f9 e9
    have s9 := Same.trans s8 t9
    intro G10 a10 t10 f10 e10
    have s10 := Same.trans s9 t10
    refine ⟨_, rfl, v, d, rfl, cp.same s10, fun G11 a11 v11 t11 f11 e11 c11 => ?_⟩
    have s11 := Same.trans s10 t11
    refine ⟨(by show 6 ≤ sizeLine; decide), catRd s11 (t11 _ _ (t10 _ _ (t9 _ _ (t8 _ _ (t7 _ _ (t6 _ _ upd_same)))))) (by simp) fun H1 l1 u1 f1' z1 w1 => ?_⟩
    refine ⟨_, rfl, _, rfl, v, d, rfl, cp.same u1, fun G12 a12 v12 t12 f12 e12 c12 => ?_⟩
    have s12 := Same.trans u1 t12
    refine ⟨(by show 1 ≤ sizeLine; decide), catRd s12 (t12 _ _ z1) (by simp) fun H2 l2 u2 f2' z2 w2 => ?_⟩
    have w1s : Same G11 H1 := w1
    have w2s : Same G12 H2 := w2
    have r12 : Same G12 H2 := w2s
    have r11 : Same G11 H2 := w1s.trans (t12.trans r12)
    have r10 : Same G10 H2 := t11.trans r11
    have r9 : Same G9 H2 := t10.trans r10
    have r8 : Same G8 H2 := t9.trans r9
    have r7 : Same G7 H2 := t8.trans r8
    have r6 : Same G6 H2 := t7.trans r7
    have r5 : Same G5 H2 := w0.trans (t6.trans r6)
    have r4 : Same G4 H2 := t5.trans r5
    have r3 : Same G3 H2 := t4.trans r4
    have r2 : Same G2 H2 := t3.trans r3
    have r1 : Same G1 H2 := t2.trans r2
    have r0 : Same G0 H2 := t1.trans r1
    refine k H2 l2 [a0, a1, a2, a3, a4, a5, a6, a7, a8, a9, a10, a11, a12] u2 z2 ?_
    exact .cons ⟨_, e0.same r0⟩ (.cons ⟨_, e1.same r1⟩ (.cons ⟨_, e2.same r2⟩ (.cons ⟨_, e3.same r3⟩ (.cons ⟨_, e4.same r4⟩ (.cons ⟨_, e5.same r5⟩ (.cons ⟨_, e6.same r6⟩ (.cons ⟨_, e7.same r7⟩ (.cons ⟨_, e8.same r8⟩ (.cons ⟨_, e9.same r9⟩ (.cons ⟨_, e10.same r10⟩ (.cons ⟨_, e11.same r11⟩ (.cons ⟨_, e12.same r12⟩ (.nil)))))))))))))
end
end K01
namespace K01
open PySem PySem.Spec PyProof.Rows L2 Ev Er Co Ow Gd Sh
section
variable {P : Program} {w : World} {K : PySem.W.Frag} {mg : Str → Option Value} {base : Heap} {A : Ad}
/-- what is drawn: a datum that can be shown -/
structure Good (d : PyData) : Prop where
  plain : Plain d
  sh : d.showable = true
  deep : d.depth ≤ 40
  few : d.shown.length ≤ sizeLine
def spNamed (K : PySem.W.Frag) : Sp := fun vs H Q _ => ∃ (v : V) (d : PyData), vs = [v] ∧ Cp K H 3 v d ∧ Good d ∧ ∀ H' : Hp, Same H H' → Q (.bl true) H'
theorem bRepr : bootBuiltins "repr" = some (.builtin "repr") := by decide +kernel
theorem ok_named {f : Addr} {fd : FuncData} (F : Fun K "_law_named" "_law_named" sNamed f fd) (T : Tx P w K mg base A) : FnG P w K mg base CX0 7 f fd ["what"] (spNamed K) := by
  refine bodyG0 F scNamed (fun vs H Q E h => ?_) (fun cdv Ar outer s H vs Q E hr gd h => ?_)
  · obtain ⟨v, d, rfl, _⟩ := h
    rfl
  · obtain ⟨v, d, rfl, cp, good, k⟩ := h
    refine ⟨_, pss_cons (ps_set (i := 1) scNamed.nd rfl (Or.inl rfl) (pe_lst (pa_cons (pe_kept T.eBadBook hr (by rfl) (pa_cons (pv 0) pa_nil)) (pa_cons (pe_kept T.eBadRecord hr (by rfl) (pa_cons (pv 0) pa_nil)) (pa_cons (pe_kept T.eBadNumber hr (by rfl) (pa_cons (pv 0) pa_nil)) (pa_cons (pe_kept T.eBadDeed hr (by rfl) (pa_cons (pv 0) pa_nil)) pa_nil))))))
      (pss_cons (ps_set (i := 1) scNamed.nd rfl (Or.inl rfl) (pe_op op_cat (pv 1) (pe_lst (pa_cons (pe_kept T.eBadWish hr (by rfl) (pa_cons (pv 0) pa_nil)) (pa_cons (pe_kept T.eBadJournal hr (by rfl) (pa_cons (pv 0) pa_nil)) (pa_cons (pe_kept T.eBadText hr (by rfl) (pa_cons (pv 0) pa_nil)) (pa_cons (pe_keptK T.eBadBook hr (by rfl) (pk_cons (pv 0) pk_nil)) pa_nil)))))))
      (pss_cons (ps_set (i := 1) scNamed.nd rfl (Or.inl rfl) (pe_op op_cat (pv 1) (pe_lst (pa_cons (pe_keptK T.eBadRecord hr (by rfl) (pk_cons (pv 0) pk_nil)) (pa_cons (pe_keptK T.eBadNumber hr (by rfl) (pk_cons (pv 0) pk_nil)) (pa_cons (pe_keptK T.eBadDeed hr (by rfl) (pk_cons (pv 0) pk_nil)) pa_nil))))))
      (pss_cons (ps_set (i := 1) scNamed.nd rfl (Or.inl rfl) (pe_op op_cat (pv 1) (pe_lst (pa_cons (pe_keptK T.eBadWish hr (by rfl) (pk_cons (pv 0) pk_nil)) (pa_cons (pe_keptK T.eBadJournal hr (by rfl) (pk_cons (pv 0) pk_nil)) (pa_cons (pe_keptK T.eBadText hr (by rfl) (pk_cons (pv 0) pk_nil)) pa_nil))))))
      (pss_one (ps_ret (pe_cmpR (op_eqD hr.units) (pe_lc (own := [("item", 2)]) (g := gName 2) rfl scNamed.nd (pi_list (pv 1)) (blkOk_by (N := ["what", "found", "item"]) (sc := defScope sNamed) (by decide +kernel))
        (fun _ _ _ _ _ => pg_name (i := 2) scNamed.nd rfl (Or.inl rfl))
        (fun _ _ _ _ _ => pts_one (pt_cmpR op_ne (pe_callB (call_showB (P := P) (w := w) (K := K) gd hr.units (by rfl) (by rfl) (by rfl) (by rfl)) (by rfl) T.repr bRepr (pa_cons (pv 2) pa_nil)) (pe_callB (call_showB (P := P) (w := w) (K := K) gd hr.units (by rfl) (by rfl) (by rfl) (by rfl)) (by rfl) T.repr bRepr (pa_cons (pv 0) pa_nil)) (nomark _)))
        (fun _ _ _ _ _ => pe_int)) (pe_lst pa_nil) (nomark _))))))), ?_⟩
    refine ⟨_, rfl, v, d, rfl, cp.same (Same.refl H), fun G0 v0 t0 c0 => ?_⟩
    have s0 := Same.trans (Same.refl H) t0
    refine ⟨_, rfl, v, d, rfl, cp.same s0, fun G1 v1 t1 c1 => ?_⟩
    have s1 := Same.trans s0 t1
    refine ⟨_, rfl, v, d, rfl, cp.same s1, fun G2 v2 t2 c2 => ?_⟩
    have s2 := Same.trans s1 t2
    refine ⟨_, rfl, v, d, rfl, cp.same s2, fun G3 v3 t3 c3 => ?_⟩
    have s3 := Same.trans s2 t3
    refine ⟨(by show 4 ≤ sizeLine; decide), fun l0 h0 => ?_⟩
    have u0 : Same H (upd G3 l0 (.lst [v0, v1, v2, v3])) := sameUp s3 h0
    have w0 : Same G3 (upd G3 l0 (.lst [v0, v1, v2, v3])) := sameUp (Same.refl G3) h0
    refine ⟨_, rfl, _, rfl, v, d, rfl, cp.same u0, fun G4 v4 t4 c4 => ?_⟩
    have s4 := Same.trans u0 t4
    refine ⟨_, rfl, v, d, rfl, cp.same s4, fun G5 v5 t5 c5 => ?_⟩
    have s5 := Same.trans s4 t5
    refine ⟨_, rfl, v, d, rfl, cp.same s5, fun G6 v6 t6 c6 => ?_⟩
    have s6 := Same.trans s5 t6
    refine ⟨_, rfl, v, d, rfl, cp.same s6, fun G7 v7 t7 c7 => ?_⟩
    have s7 := Same.trans s6 t7
    refine ⟨(by show 4 ≤ sizeLine; decide), catRd s7 (t7 _ _ (t6 _ _ (t5 _ _ (t4 _ _ upd_same)))) (by simp) fun H1 l1 u1 f1' z1 w1 => ?_⟩
    have w1s : Same G7 H1 := w1
    refine ⟨_, rfl, _, rfl, v, d, rfl, cp.same u1, fun G8 v8 t8 c8 => ?_⟩
    have s8 := Same.trans u1 t8
    refine ⟨_, rfl, v, d, rfl, cp.same s8, fun G9 v9 t9 c9 => ?_⟩
    have s9 := Same.trans s8 t9
    refine ⟨_, rfl, v, d, rfl, cp.same s9, fun G10 v10 t10 c10 => ?_⟩
    have s10 := Same.trans s9 t10
    refine ⟨(by show 3 ≤ sizeLine; decide), catRd s10 (t10 _ _ (t9 _ _ (t8 _ _ z1))) (by simp) fun H2 l2 u2 f2' z2 w2 => ?_⟩
    have w2s : Same G10 H2 := w2
    refine ⟨_, rfl, _, rfl, v, d, rfl, cp.same u2, fun G11 v11 t11 c11 => ?_⟩
    have s11 := Same.trans u2 t11
    refine ⟨_, rfl, v, d, rfl, cp.same s11, fun G12 v12 t12 c12 => ?_⟩
    have s12 := Same.trans s11 t12
    refine ⟨_, rfl, v, d, rfl, cp.same s12, fun G13 v13 t13 c13 => ?_⟩
    have s13 := Same.trans s12 t13
    refine ⟨(by show 3 ≤ sizeLine; decide), catRd s13 (t13 _ _ (t12 _ _ (t11 _ _ z2))) (by simp) fun H3 l3 u3 f3' z3 w3 => ?_⟩
    have w3s : Same G13 H3 := w3
    have r13 : Same G13 H3 := w3s
    have r12 : Same G12 H3 := t13.trans r13
    have r11 : Same G11 H3 := t12.trans r12
    have r10 : Same G10 H3 := w2s.trans (t11.trans r11)
    have r9 : Same G9 H3 := t10.trans r10
    have r8 : Same G8 H3 := t9.trans r9
    have r7 : Same G7 H3 := w1s.trans (t8.trans r8)
    have r6 : Same G6 H3 := t7.trans r7
    have r5 : Same G5 H3 := t6.trans r6
    have r4 : Same G4 H3 := t5.trans r5
    have r3 : Same G3 H3 := w0.trans (t4.trans r4)
    have r2 : Same G2 H3 := t3.trans r3
    have r1 : Same G1 H3 := t2.trans r2
    have r0 : Same G0 H3 := t1.trans r1
    have all : ∀ x ∈ [v0, v1, v2, v3, v4, v5, v6, v7, v8, v9, v10, v11, v12, v13], Cp K H3 3 x d := by
      intro x hx
      simp only [List.mem_cons, List.not_mem_nil, or_false] at hx
      rcases hx with rfl | rfl | rfl | rfl | rfl | rfl | rfl | rfl | rfl | rfl | rfl | rfl | rfl | rfl
      · exact c0.same r0
      · exact c1.same r1
      · exact c2.same r2
      · exact c3.same r3
      · exact c4.same r4
      · exact c5.same r5
      · exact c6.same r6
      · exact c7.same r7
      · exact c8.same r8
      · exact c9.same r9
      · exact c10.same r10
      · exact c11.same r11
      · exact c12.same r12
      · exact c13.same r13
    generalize hxs : ([v0, v1, v2, v3] ++ [v4, v5, v6, v7] ++ [v8, v9, v10] ++ [v11, v12, v13] : List V) = xs at z3
    have all' : ∀ x ∈ xs, Cp K H3 3 x d := by
      rw [← hxs]
      exact all
    refine ⟨_, rfl, l3, rfl, ⟨_, .inl (.inl z3)⟩, fun D hD => lc_list (K := K) (a := l3) (xs := xs) (fun i H' => H' D = some (.lst []) ∧ Same H3 H') ⟨upd_same, sameUp (Same.refl H3) hD⟩ (fun i H' _ ⟨_, s⟩ => .inl (.inl (s _ _ z3)))
      (fun i x H' hx ⟨hD', s⟩ => ?_) (fun H' ⟨hD', s⟩ => ?_)⟩
    · have cx := (all' x (List.mem_of_getElem? hx)).same s
      have cv := cp.same (Same.trans u3 s)
      refine ⟨rfl, _, rfl, x, d, rfl, cpShown cx good.plain, good.sh, good.deep, good.few, _, rfl, v, d, rfl, cpShown cv good.plain, good.sh, good.deep, good.few, rfl, _, rfl, ?_⟩
      refine ifF (by simp) ?_
      exact ⟨hD', s⟩
    · refine ⟨Nat.zero_le _, fun l hl => ⟨.list [], .list [], .lst (.inl (.inl (sameUp (Same.refl H') hl _ _ hD'))) .nil, .lst (.inl (.inl upd_same)) .nil, by decide +kernel, by decide +kernel, ?_⟩⟩
      have e : PyData.eqv (.list []) (.list []) = true := by decide +kernel
      rw [e]
      exact k _ (sameUp (Same.trans u3 s) hl)

end
end K01
namespace K01
open PySem PySem.Spec PyProof.Rows L2 Ev Er Co Ow Gd Sh
section
variable {P : Program} {w : World} {K : PySem.W.Frag} {mg : Str → Option Value} {base : Heap} {A : Ad}
theorem stockSame {H H' : Hp} {d w c : Addr} {n : Nat} (S : Draw.Stock H d w c n) (s : Same H H') : Draw.Stock H' d w c n := by
  obtain ⟨⟨r, t, a, b, e, z⟩, ⟨ws, x1, x2, x3⟩, ⟨cs, y1, y2, y3⟩, ap⟩ := S
  exact ⟨⟨r, t, a, b, e, s _ _ z⟩, ⟨ws, x1, x2, s _ _ x3⟩, ⟨cs, y1, y2, s _ _ y3⟩, ap⟩
theorem freshNe {H : Hp} {b d : Addr} {o : HO} (hd : H d = some o) (hb : H b = none) : b ≠ d := fun z => by rw [z, hd] at hb; cases hb
theorem bMin : bootBuiltins "min" = some (.builtin "min") := by decide +kernel
theorem bVE : bootBuiltins "ValueError" = some (.type "ValueError") := by decide +kernel
theorem pairGet {α β : Type} {F : α → β → Prop} : ∀ {xs : List α} {ys : List β}, Paired F xs ys → ∀ {j : Nat}, j < xs.length → ∃ x y, xs[j]? = some x ∧ ys[j]? = some y ∧ F x y
  | _, _, .nil, j, h => by simp at h
  | _, _, .cons p r, 0, _ => ⟨_, _, rfl, rfl, p⟩
  | _, _, .cons p r, j + 1, h => by
    obtain ⟨x, y, e1, e2, q⟩ := pairGet r (j := j) (by simp at h; omega)
    exact ⟨x, y, by simpa using e1, by simpa using e2, q⟩
theorem pairLen {α β : Type} {F : α → β → Prop} : ∀ {xs : List α} {ys : List β}, Paired F xs ys → xs.length = ys.length
  | _, _, .nil => rfl
  | _, _, .cons _ r => by simp [pairLen r]
theorem decNat {k j : Nat} : ((k : Int) == (j : Int)) = decide (k = j) := by
  rw [Bool.eq_iff_iff, beq_iff_eq, decide_eq_true_iff]
  exact Int.ofNat_inj
/-- the flags of the error at place j, as data -/
def rowD (j : Nat) : PyData := .list ((List.range 13).map fun k => .bool (decide (k = j)))
theorem rowShaped : ∀ j : Nat, j < 13 → SeqAt.shaped (rowD j) = true := by decide +kernel
theorem rowEqv : ∀ j : Nat, j < 13 → PyData.eqv (rowD j) (rowD j) = true := by decide +kernel
theorem dpRow {K : PySem.W.Frag} {H : Hp} {g : Nat → Bool} : ∀ l : List Nat, DpAll K H (l.map fun k => V.bl (g k)) (l.map fun k => PyData.bool (g k))
  | [] => .nil
  | k :: l => .cons (.bl _) (dpRow l)
def spLaw (K : PySem.W.Frag) : Sp := fun vs H Q _ => ∃ (a : Addr) (ns : List Int), vs = [.ref a] ∧ SqL K H a (ns.map V.int) ∧ ns.length ≤ 63 ∧ ∀ H', Q (.bl true) H'
/-- what is drawn from -/
abbrev menu (t0 l1 dd t2 : Addr) : List V := [.non, .int 0, .int (-1), .bl true, .str "x", .str "", .ref t0, .ref l1, .ref dd, .int (10 ^ 29), .ref t2, .str "abc {}0"]
theorem good_none : Good .none := ⟨.inl rfl, by decide +kernel, by decide +kernel, by decide +kernel⟩
theorem menuGood {H' : Hp} {t0 l1 dd t2 : Addr} (h0 : H' t0 = some (.tup [])) (h1 : H' l1 = some (.lst [.int 1])) (h2 : H' dd = some (.dK [(Sum.inr "a", .int 2)])) (h3 : H' t2 = some (.tup [.str "a", .int 1])) {j : Nat} {x : V} (e : (menu t0 l1 dd t2)[j]? = some x) :
    ∃ d, Good d ∧ Cp K H' 3 x d := by
  match j, e with
  | 0, e => cases e; exact ⟨.none, ⟨.inl rfl, by decide +kernel, by decide +kernel, by decide +kernel⟩, .inl trivial⟩
  | 1, e => cases e; exact ⟨.int 0, ⟨.inl rfl, by decide +kernel, by decide +kernel, by decide +kernel⟩, .inl rfl⟩
  | 2, e => cases e; exact ⟨.int (-1), ⟨.inl rfl, by decide +kernel, by decide +kernel, by decide +kernel⟩, .inl rfl⟩
  | 3, e => cases e; exact ⟨.bool true, ⟨.inl rfl, by decide +kernel, by decide +kernel, by decide +kernel⟩, .inl rfl⟩
  | 4, e => cases e; exact ⟨.str "x", ⟨.inl rfl, by decide +kernel, by decide +kernel, by decide +kernel⟩, .inl rfl⟩
  | 5, e => cases e; exact ⟨.str "", ⟨.inl rfl, by decide +kernel, by decide +kernel, by decide +kernel⟩, .inl rfl⟩
  | 6, e => cases e; exact ⟨.tuple [], ⟨.inl (by decide +kernel), by decide +kernel, by decide +kernel, by decide +kernel⟩, .inr (.inr (.inl ⟨t0, [], [], rfl, rfl, .inl (.inl h0), by decide, .nil⟩))⟩
  | 7, e => cases e; exact ⟨.list [.int 1], ⟨.inl (by decide +kernel), by decide +kernel, by decide +kernel, by decide +kernel⟩, .inr (.inl ⟨l1, _, _, rfl, rfl, .inl (.inl h1), by decide, .cons (.inl rfl) .nil⟩)⟩
  | 8, e => cases e; exact ⟨.dict (oneD (some ("a", 2))), ⟨.inr ⟨_, rfl⟩, by decide +kernel, by decide +kernel, by decide +kernel⟩, .inr (.inr (.inr ⟨dd, some ("a", 2), rfl, rfl, h2, .inr (by decide)⟩))⟩
  | 9, e => cases e; exact ⟨.int (10 ^ 29), ⟨.inl rfl, by decide +kernel, by decide +kernel, by decide +kernel⟩, .inl rfl⟩
  | 10, e => cases e; exact ⟨.tuple [.str "a", .int 1], ⟨.inl (by decide +kernel), by decide +kernel, by decide +kernel, by decide +kernel⟩, .inr (.inr (.inl ⟨t2, _, _, rfl, rfl, .inl (.inl h3), by decide, .cons (.inl rfl) (.cons (.inl rfl) .nil)⟩))⟩
  | 11, e => cases e; exact ⟨.str "abc {}0", ⟨.inl rfl, by decide +kernel, by decide +kernel, by decide +kernel⟩, .inl rfl⟩
  | j + 12, e => cases e
theorem ok_law {f fB fP fN fA fF : Addr} {fd fdB fdP fdN fdA fdF : FuncData} (F : Fun K "law" "law" sLaw f fd) (T : Tx P w K mg base A)
    (GB : FnOk P w K mg base CX0 1 fB fdB ["script"] (Draw.spBegun K)) (gB : mg "_law_begun" = some (.ref fB)) (kB : PySem.W.keepIn K (.ref fB) = true) (bB : Binds K fdB ["script"] [])
    (GP : FnOk P w K mg base CX0 3 fP fdP ["draw", "some"] (Draw.spPick K)) (gP : mg "_law_pick" = some (.ref fP)) (kP : PySem.W.keepIn K (.ref fP) = true) (bP : Binds K fdP ["draw", "some"] [])
    (GN : FnG P w K mg base CX0 7 fN fdN ["what"] (spNamed K)) (gN : mg "_law_named" = some (.ref fN)) (kN : PySem.W.keepIn K (.ref fN) = true) (bN : Binds K fdN ["what"] [])
    (GA : FnOk P w K mg base CX0 7 fA fdA ["what"] (spAll K A)) (gA : mg "_law_all_made" = some (.ref fA)) (kA : PySem.W.keepIn K (.ref fA) = true) (bA : Binds K fdA ["what"] [])
    (GF : FnOk P w K mg base CX0 1 fF fdF ["error"] (spFlags K A)) (gF : mg "_law_flags" = some (.ref fF)) (kF : PySem.W.keepIn K (.ref fF) = true) (bF : Binds K fdF ["error"] []) :
    FnG P w K mg base CX0 8 f fd ["script"] (spLaw K) := by
  refine bodyG0 F scLaw (fun vs H Q E h => ?_) (fun cdv Ar outer s H vs Q E hr gd h => ?_)
  · obtain ⟨a, ns, rfl, _⟩ := h
    rfl
  · obtain ⟨a, ns, rfl, hS, hlen, k⟩ := h
    have hr1 : Room 1 _ := hr.mono (by decide)
    have hr3 : Room 3 _ := hr.mono (by decide)
    refine ⟨_, pss_cons (ps_set (i := 1) scLaw.nd rfl (Or.inl rfl) (pe_call GB hr1 rfl gB kB bB .nil pass0 (pa_cons (pv 0) pa_nil)))
      (pss_cons (ps_for PassesOwn.never rfl (pi_range1 (by rfl) T.range (pa_cons (pe_op op_add pe_int (pe_callB (call_min2 rfl) (by rfl) T.min bMin (pa_cons (pe_callB call_len_seq (by rfl) T.len PySem.boot_len (pa_cons (pv 0) pa_nil)) (pa_cons pe_int pa_nil)))) pa_nil)) (pg_name (i := 2) scLaw.nd rfl (Or.inl rfl))
        (pss_cons (ps_set (i := 3) scLaw.nd rfl (Or.inl rfl) (pe_call GP hr3 rfl gP kP bP .nil pass0 (pa_cons (pv 1) (pa_cons (pe_lst (pa_cons pe_non (pa_cons pe_int (pa_cons (pe_un un_neg pe_int) (pa_cons pe_bl (pa_cons pe_str (pa_cons pe_str (pa_cons (pe_tup pa_nil) (pa_cons (pe_lst (pa_cons pe_int pa_nil))
            (pa_cons (pe_disp (pps_cons pe_str pe_int pps_nil) (by rfl) (by rfl) (fun z => by cases z) (by decide)) (pa_cons (pe_op op_pow pe_int pe_int) (pa_cons (pe_tup (pa_cons pe_str (pa_cons pe_int pa_nil))) (pa_cons pe_str pa_nil))))))))))))) pa_nil))))
        (pss_cons (ps_if (pt_not (pt_val (pe_callG GN hr gd rfl gN kN bN .nil pass0 (pa_cons (pv 3) pa_nil)))) (pss_one (ps_ret pe_bl)) pss_nil)
        (pss_cons (ps_set (i := 4) scLaw.nd rfl (Or.inl rfl) (pe_call GA hr rfl gA kA bA .nil pass0 (pa_cons (pv 3) pa_nil)))
        (pss_one (ps_for PassesOwn.never rfl (pi_enum (by rfl) T.enumerate (pa_cons (pv 4) pa_nil)) (pg_tup (by rfl) (pgs_cons (pg_name (i := 5) scLaw.nd rfl (Or.inr rfl)) (pgs_cons (pg_name (i := 6) scLaw.nd rfl (Or.inl rfl)) pgs_nil)))
          (pss_cons (ps_if (PW.pt (pw_or (pt_not (pt_val (pe_callB call_isErr (by rfl) T.isi bIsi (pa_cons (pv 6) (pa_cons (pe_glob (v := .ref A.DealError) (by rfl) T.gDealError rfl) pa_nil)))))
              (pw_or1 (pt_not (pt_val (pe_callB call_isErr (by rfl) T.isi bIsi (pa_cons (pv 6) (pa_cons (pe_bltn (v := .ty "ValueError") (by rfl) T.ve bVE rfl) pa_nil)))))))) (pss_one (ps_ret pe_bl)) pss_nil)
          (pss_one (ps_if (pt_cmpR (op_neD hr.units) (pe_call GF hr1 rfl gF kF bF .nil pass0 (pa_cons (pv 6) pa_nil))
              (pe_lc (own := [("k", 7)]) (g := gName 7) rfl scLaw.nd (pi_range1 (by rfl) T.range (pa_cons (pe_callB call_len_seq (by rfl) T.len PySem.boot_len (pa_cons (pv 4) pa_nil)) pa_nil))
                (blkOk_by (N := ["script", "draw", "turn", "what", "some", "spot", "error", "k"]) (sc := defScope sLaw) (by decide +kernel)) (fun _ _ _ _ _ => pg_name (i := 7) scLaw.nd rfl (Or.inl rfl)) (fun _ _ _ _ _ => pts_nil)
                (fun _ _ _ _ _ => pe_cmpR op_eq (pv 7) (pv 5) (nomark _))) (nomark _)) (pss_one (ps_ret pe_bl)) pss_nil)))))))))
      (pss_one (ps_ret (pe_and (pe_cmpR op_notIn_seq pe_bl (pe_call GF hr1 rfl gF kF bF .nil pass0 (pa_cons (pe_bareErr T.eDealError (by rfl) pe_str) pa_nil)) (by rfl))
        (pe_one (pe_callB call_isErr (by rfl) T.isi bIsi (pa_cons (pe_bareErr T.eDealError (by rfl) pe_str) (pa_cons (pe_bltn (v := .ty "ValueError") (by rfl) T.ve bVE rfl) pa_nil)))))))), ?_⟩
    refine ⟨_, rfl, a, ns, rfl, hS, hlen, fun H1 d wd c s1 d0 w0 c0 st => ?_⟩
    have lens : ((ns.map V.int).length : Int) = ns.length := by rw [List.length_map]
    refine ⟨_, rfl, a, _, rfl, .inl (s1.seq hS), _, _, rfl, _, _, rfl, rfl, _, rfl, ?_, ?_, for_range (lo := 0)
      (fun i σ H' => ∃ v2 v3 v4 v5 v6 v7 : Option V, σ = [some (.ref a), some (.ref d), v2, v3, v4, v5, v6, v7] ∧ Draw.Stock H' d wd c i) ⟨_, _, _, _, _, _, rfl, st⟩ ?_ ?_⟩
    · split <;> omega
    · split <;> omega
    · rintro i σ H0 hi ⟨v2, v3, v4, v5, v6, v7, rfl, st⟩
      have i8 : i < 9 := by
        have q : (2 + if (6 : Int) < ((ns.map V.int).length : Nat) then 6 else (((ns.map V.int).length : Nat) : Int)).toNat ≤ 8 := by
          split <;> omega
        omega
      obtain ⟨r, tn, r0, q0, q1, hd⟩ := st.own
      obtain ⟨ws, lw, pw, hw⟩ := st.wide
      -- the menu is laid
      refine ⟨_, rfl, _, rfl, (by show 0 ≤ sizeLine; decide), fun t0 f0 => ⟨(by show 1 ≤ sizeLine; decide), fun l1 f1 => fun dd f2 => ⟨upd_same, [(Sum.inr "a", .int 2)], rfl, (by decide), _, _, rfl, rfl, ⟨by decide, by decide, by decide⟩, (by show 2 ≤ sizeLine; decide), fun t2 f3 => ⟨(by show 12 ≤ sizeLine; decide), fun L f4 => ?_⟩⟩⟩⟩
      -- what stands then
      have a0 : upd H0 t0 (.tup []) t0 = some (.tup []) := upd_same
      have u0 : Same H0 (upd H0 t0 (.tup [])) := sameUp (Same.refl H0) f0
      generalize upd H0 t0 (.tup []) = Ha at f1 f2 f3 f4 a0 u0 ⊢
      have a1 : upd Ha l1 (.lst [.int 1]) l1 = some (.lst [.int 1]) := upd_same
      have b1 : Same Ha (upd Ha l1 (.lst [.int 1])) := sameUp (Same.refl Ha) f1
      generalize upd Ha l1 (.lst [.int 1]) = Hb at f2 f3 f4 a1 b1 ⊢
      have a2 : upd (upd Hb dd (.dK [])) dd (.dK (mergeK [] [(Sum.inr "a", .int 2)])) dd = some (.dK [(Sum.inr "a", .int 2)]) := upd_same
      have b2 : Same Hb (upd (upd Hb dd (.dK [])) dd (.dK (mergeK [] [(Sum.inr "a", .int 2)]))) := by
        rw [upd_upd]
        exact sameUp (Same.refl Hb) f2
      generalize upd (upd Hb dd (.dK [])) dd (.dK (mergeK [] [(Sum.inr "a", .int 2)])) = Hc at f3 f4 a2 b2 ⊢
      have a3 : upd Hc t2 (.tup [.str "a", .int 1]) t2 = some (.tup [.str "a", .int 1]) := upd_same
      have b3 : Same Hc (upd Hc t2 (.tup [.str "a", .int 1])) := sameUp (Same.refl Hc) f3
      generalize upd Hc t2 (.tup [.str "a", .int 1]) = Hd at f4 a3 b3 ⊢
      have a4 : upd Hd L (.lst (menu t0 l1 dd t2)) L = some (.lst (menu t0 l1 dd t2)) := upd_same
      have b4 : Same Hd (upd Hd L (.lst (menu t0 l1 dd t2))) := sameUp (Same.refl Hd) f4
      show Draw.spPick K [.ref d, .ref L] (upd Hd L (.lst (menu t0 l1 dd t2))) _ E0
      generalize upd Hd L (.lst (menu t0 l1 dd t2)) = Z at a4 b4 ⊢
      have s1' : Same H0 Hb := u0.trans b1
      have s2' : Same H0 Hc := s1'.trans b2
      have s3' : Same H0 Hd := s2'.trans b3
      have sZ : Same H0 Z := s3'.trans b4
      refine ⟨d, wd, c, L, i, menu t0 l1 dd t2, rfl, stockSame st sZ, by omega, .inl (.inl (.inl a4)), freshNe (s3' _ _ hw) f4, (by show 0 < 12; decide), (by show 12 < 1000; decide), fun H' j x hx bt st' => ?_⟩
      have keep : ∀ b o, Z b = some o → b ≠ d → b ≠ wd → H' b = some o := fun b o e n1 n2 => bt b o n1 n2 e
      obtain ⟨dt, good, cp⟩ := menuGood (H' := H') (keep _ _ (b4 _ _ (b3 _ _ (b2 _ _ (b1 _ _ a0)))) (freshNe hd f0) (freshNe hw f0)) (keep _ _ (b4 _ _ (b3 _ _ (b2 _ _ a1))) (freshNe (u0 _ _ hd) f1) (freshNe (u0 _ _ hw) f1))
        (keep _ _ (b4 _ _ (b3 _ _ a2)) (freshNe (s1' _ _ hd) f2) (freshNe (s1' _ _ hw) f2)) (keep _ _ (b4 _ _ a3) (freshNe (s2' _ _ hd) f3) (freshNe (s2' _ _ hw) f3)) hx
      refine ⟨_, rfl, x, dt, rfl, cp, good, fun H2 s2 => ⟨_, rfl, ifF rfl ?_⟩⟩
      refine ⟨_, rfl, x, dt, rfl, cp.same s2, fun H3 p es s3 hp er => ?_⟩
      have st3 := stockSame st' (Same.trans s2 s3)
      refine ⟨_, rfl, p, _, rfl, .inl (.inl hp), for_it (walk_enum (K := K) (a := p) (xs := es.map V.ref))
        (fun j σ H4 => ∃ v5 v6 v7 : Option V, σ = [some (.ref a), some (.ref d), some (.int (0 + (i : Int))), some x, some (.ref p), v5, v6, v7] ∧ Same H3 H4) ⟨_, _, _, rfl, Same.refl H3⟩ (fun j σ H4 _ ⟨_, _, _, _, s4⟩ => .inl (.inl (s4 _ _ hp))) ?_ ?_⟩
      · rintro j y σ H4 H5 hj ⟨v5, v6, v7, rfl, s4⟩ ⟨Tp, x1, x2, rfl, fT, rfl, e1, e2⟩
        have er4 := errAll s4 er
        have sT : Same H4 (upd H4 Tp (.tup [x1, x2])) := sameUp (Same.refl H4) fT
        have e1' : V.int (j : Int) = x1 := by simpa using e1
        subst e1'
        have jl : j < es.length := by simpa using (List.getElem?_eq_some_iff.mp e2).1
        have el : es.length = 13 := pairLen er
        obtain ⟨E1, C1, hE, hC, fs, eat⟩ := pairGet er4 jl
        have e2' : (es.map V.ref)[j]? = some x2 := e2
        rw [List.getElem?_map, hE] at e2'
        cases e2'
        have mC : C1 ∈ A.all := List.mem_of_getElem? hC
        obtain ⟨kD, kV⟩ := T.kitU C1 mC
        have eT := eat.same sT
        refine ⟨Tp, _, rfl, .inl (.inl upd_same), rfl, _, _, rfl, _, _, rfl, rfl, ?_⟩
        generalize upd H4 Tp (.tup [.int j, .ref E1]) = H6 at sT eT ⊢
        refine ⟨_, rfl, E1, C1, fs, _, _, _, rfl, eT, T.cls C1 mC, .own _, kD, _, rfl, ifF rfl ⟨_, rfl, E1, C1, fs, .ty "ValueError", _, _, rfl, eT, T.cls C1 mC, .ty "ValueError", kV, _, rfl, ifF rfl ?_⟩⟩
        refine ⟨_, rfl, E1, C1, fs, _, rfl, eT, T.cls C1 mC, T.kit j C1 hC, fun H7 p7 s7 f7 h7 => ?_⟩
        refine ⟨_, rfl, p, es.map V.ref, rfl, .inl (.inl (.inl (s7 _ _ (sT _ _ (s4 _ _ hp))))), _, rfl, by simp [el], by simp [el], fun D fD => ?_⟩
        have hn : (((es.map V.ref).length : Nat) : Int).toNat = 13 := by simp [el]
        rw [hn]
        refine lc_range (lo := 0) (fun i H8 => H8 D = some (.lst ((List.range i).map fun k => V.bl (decide (k = j)))) ∧ Same H7 H8) ⟨upd_same, sameUp (Same.refl H7) fD⟩ ?_ ?_
        · rintro k H8 hk ⟨hD, s8⟩
          refine ⟨rfl, ⟨_, rfl, _, rfl, rfl, _, hD, (by rw [List.length_map, List.length_range]; exact Nat.lt_of_lt_of_le hk (by decide)), ?_, fun b o e => by rw [upd_ne (ne_of_none e fD)]; exact s8 b o e⟩⟩
          rw [upd_same, List.range_succ, List.map_append, List.map_singleton, Int.zero_add, dec_int, decNat]
        · rintro H8 ⟨hD, s8⟩
          have j13 : j < 13 := by omega
          rw [List.map_map] at h7
          refine ⟨rowD j, rowD j, .lst (.inl (.inl (s8 _ _ h7))) (dpRow _), .lst (.inl (.inl hD)) (dpRow _), rowShaped j j13, rowShaped j j13, _, rfl, ifF (by rw [rowEqv j j13]; rfl) ?_⟩
          exact ⟨_, _, _, rfl, ((Same.trans s4 sT).trans s7).trans s8⟩
      · rintro σ H4 ⟨v5, v6, v7, rfl, s4⟩
        exact ⟨_, _, _, _, _, _, rfl, stockSame st3 s4⟩
    · rintro σ H0 ⟨v2, v3, v4, v5, v6, v7, rfl, st⟩
      refine fun Hx e sx fx ex => ⟨e, A.DealError, none, (List.range 13).map fun _ => false, rfl, ex, T.clsD, T.kitD, fun Hy p sy fy hy => ⟨p, _, rfl, .inl (.inl (.inl hy)), rfl, by decide +kernel, _, rfl, ifT (by decide +kernel) ?_⟩⟩
      exact fun Hz e2 sz fz ez => ⟨e2, A.DealError, none, .ty "ValueError", _, _, rfl, ez, T.clsD, .ty "ValueError", T.kitV, k _⟩
end
end K01
namespace En
open PySem PySem.Spec PyProof.Rows L2 Ev Er Co Ow Gd
/-! What the top has left, in words that the kernel reckons out at once. -/
variable {P : Program} {w : World} {K : PySem.W.Frag} {mg : Str → Option Value} {base : Heap} {C : Addr}
/-- an error's class, as isinstance and attributes want it -/
def ecB (K : PySem.W.Frag) (C : Addr) : Bool := (PySem.W.findIn K (.ref C) "__getattribute__" == some (some (.builtin "BaseException.__getattribute__"))) && ((PySem.W.findIn K (.ref C) "__getattr__" == some none) &&
  ((PySem.W.subIn K (.ref C) (.type "BaseException") == some true) && (PySem.W.hasDictIn K C && ((PySem.W.findIn K (.ref C) "__class__" == some (some (.builtin "object.__class__"))) && ((PySem.W.mroIn K C (.type "object") == some true) && PySem.W.isClsIn K C)))))
theorem and2 {a b : Bool} (h : (a && b) = true) : a = true ∧ b = true := Bool.and_eq_true_iff.mp h
theorem ec_all (h : ecB K C = true) : PySem.W.findIn K (.ref C) "__getattribute__" = some (some (.builtin "BaseException.__getattribute__")) ∧ PySem.W.findIn K (.ref C) "__getattr__" = some none ∧ PySem.W.subIn K (.ref C) (.type "BaseException") = some true ∧
    PySem.W.hasDictIn K C = true ∧ PySem.W.findIn K (.ref C) "__class__" = some (some (.builtin "object.__class__")) ∧ PySem.W.mroIn K C (.type "object") = some true ∧ PySem.W.isClsIn K C = true := by
  obtain ⟨h1, h⟩ := and2 h
  obtain ⟨h2, h⟩ := and2 h
  obtain ⟨h3, h⟩ := and2 h
  obtain ⟨h4, h⟩ := and2 h
  obtain ⟨h5, h⟩ := and2 h
  obtain ⟨h6, h7⟩ := and2 h
  exact ⟨beq_iff_eq.mp h1, beq_iff_eq.mp h2, beq_iff_eq.mp h3, h4, beq_iff_eq.mp h5, beq_iff_eq.mp h6, h7⟩
/-- what builtins the class questions reach -/
structure Root (P : Program) (K : PySem.W.Frag) : Prop where
  hn : PySem.W.specialIn K (.builtin "object.__class__") "__get__" = some (some (.builtin "getset_descriptor.__get__"))
  ht : PySem.W.takesIn K (.builtin "object.__class__") = some true
  plain : PySem.W.nsIn K PySem.cStatics "thirdparty.any" = some none
  top : (P.main.scope.names.lookup ("super" : Str)).isSome = false
theorem ecls (R : Root P K) (h : ecB K C = true) : ECls K C := by
  obtain ⟨h1, h2, h3, h4, h5, h6, h7⟩ := ec_all h
  exact ⟨⟨h1, h2, h3, h4, h5, R.hn, R.ht, h6⟩, h7⟩
theorem xf (h : ecB K C = true) : XfC K C := by
  obtain ⟨h1, h2, h3, h4, h5, h6, h7⟩ := ec_all h
  exact ⟨h1, h2, h3, h4⟩
/-- beyond that, of a class with its own __init__ at fI -/
def owB (K : PySem.W.Frag) (C fI : Addr) (field : Str) : Bool := (PySem.W.findIn K (.ref C) "__setattr__" == some (some (.builtin "object.__setattr__"))) && ((PySem.W.typeIn K (.ref C) == some (.type "type")) && (PySem.W.keepIn K (.ref C) &&
  ((PySem.W.findIn K (.ref C) field == some none) && ((PySem.W.typeIn K (.ref fI) == some (.type "function")) && ((PySem.W.ks_superIn K C C "__init__" == some (some (.builtin "ValueError.__init__"))) && ((PySem.W.mroIn K C (.ref C) == some true) && (PySem.W.subIn K (.ref C) (.type "ValueError") == some true)))))))
theorem own {name par field qual : Str} {st : Stmt} {fI cc cda fC : Addr} {fdC : FuncData} {nm q : Str} {N : Addr} {bs bm : List Value} {sn : List Str} {sub : List Value} {ab : Bool} {col : Option Bool} {dd : Option Addr} {k0 k1 k2 k3 k5 : Option Value}
    {oc : Value} {od : Option Addr} {osl : Array (Option Value)} {kV doc pm : Value} {an : Option Addr} {ct ccl : Value} {cdd : Option Addr} {vs : Array Value} {ccs : Array (Option Value)} {file : Str} {tf : Tok} {cl : Value} {cld : Option Addr} {csl : Array (Option Value)}
    (R : Root P K) (S : Form st par field) (hC : ecB K C = true) (hO : owB K C fI field = true) (lC : K.lookup C = some (excClassObj nm q C N bs bm true sn sub ab col dd k0 k1 k2 k3 k5 "ValueError.__new__")) (rC : PySem.HandSPX.refsVE bm = true)
    (iC : PySem.W.findIn K (.ref C) "__init__" = some (some (.ref fI))) (lI : K.lookup fI = some ⟨oc, od, .func (PySem.W.fnX "__init__" qual (defArgs st) (defBody st) (defScope st) [("__class__", cc)] .none kV doc pm an (.ref cda) ct), osl⟩)
    (cI : PySem.W.codeIn K (.ref cda) qual = true) (lc : K.lookup cda = some ⟨ccl, cdd, .fields vs, ccs⟩) (hv : vs[2]? = some (.str file tf)) (hm : ((P.main.file : Str) == file) = true) (ce : K.lookup cc = some ⟨cl, cld, .cell (some (.ref C)), csl⟩)
    (g : mg name = some (.ref C)) (gS : mg "super" = none) (FC : FnOk P w K mg base CX0 3 fC fdC ["value"] (spCopy K 3)) (gC : mg "copied" = some (.ref fC)) (kC : PySem.W.keepIn K (.ref fC) = true) (bC : Binds K fdC ["value"] []) : OwnE P w K mg base 3 5 name par field C := by
  obtain ⟨h1, h2, h3, h4, h5, h6, h7⟩ := ec_all hC
  obtain ⟨o1, h⟩ := and2 hO
  obtain ⟨o2, h⟩ := and2 h
  obtain ⟨o3, h⟩ := and2 h
  obtain ⟨o4, h⟩ := and2 h
  obtain ⟨o5, h⟩ := and2 h
  obtain ⟨o6, h⟩ := and2 h
  obtain ⟨o7, o8⟩ := and2 h
  have X : OexC K C := ⟨⟨nm, q, N, bs, bm, sn, sub, ab, col, dd, k0, k1, k2, k3, k5, lC, rC⟩, beq_iff_eq.mp o1, h3, beq_iff_eq.mp o2, o3⟩
  have T : Txt P K st qual field C fI cc := ⟨X, ⟨oc, od, osl, kV, doc, pm, an, cda, ct, lI, cI, ccl, cdd, vs, ccs, file, tf, lc, hv, hm⟩, ⟨cl, cld, csl, ce⟩, beq_iff_eq.mp o6, beq_iff_eq.mp o7, R.plain, beq_iff_eq.mp o8, beq_iff_eq.mp o4, R.top⟩
  obtain ⟨fd, F, b1, b2⟩ := ok_init (kc := 3) (spc := spCopy K 3) S T FC gC kC bC gS spCopy_mono
  exact ⟨⟨fI, fd, F, iC, beq_iff_eq.mp o5, b1, b2⟩, X, xf hC, beq_iff_eq.mp o4, g⟩
theorem paired_of {f : Addr → Option Bool} : ∀ {Ds : List Addr} {bs : List Bool}, Ds.map f = bs.map some → Paired (fun D b => f D = some b) Ds bs
  | [], [], _ => .nil
  | D :: Ds, b :: bs, h => by
    obtain ⟨h1, h2⟩ := List.cons_eq_cons.mp h
    exact .cons h1 (paired_of h2)
  | [], _ :: _, h => by cases h
  | _ :: _, [], h => by cases h
end En
namespace K01
open PySem PySem.Spec PyProof.Rows L2 Ev Er Co Ow Gd Sh En
abbrev iBadBook : Stmt := inClass (top 3) 0
abbrev iBadRecord : Stmt := inClass (top 4) 0
abbrev iBadNumber : Stmt := inClass (top 6) 0
abbrev iBadDeed : Stmt := inClass (top 8) 0
abbrev iBadWish : Stmt := inClass (top 9) 0
abbrev iBadJournal : Stmt := inClass (top 14) 0
abbrev iBadText : Stmt := inClass (top 15) 0
theorem formBadBook : Form iBadBook "part" "part" := ⟨rfl, rfl, rfl, by decide +kernel, by decide +kernel, rfl, rfl, rfl, rfl, rfl, ⟨_, rfl⟩, by decide, by decide, by decide, fun _ _ _ _ _ _ _ _ _ _ => rfl, fun _ _ _ _ _ _ _ _ _ _ => rfl, ⟨_, _, _, _, _, _, _, _, _, _, _, _, _, _, rfl, by decide +kernel, rfl⟩⟩
theorem formBadRecord : Form iBadRecord "record" "record" := ⟨rfl, rfl, rfl, by decide +kernel, by decide +kernel, rfl, rfl, rfl, rfl, rfl, ⟨_, rfl⟩, by decide, by decide, by decide, fun _ _ _ _ _ _ _ _ _ _ => rfl, fun _ _ _ _ _ _ _ _ _ _ => rfl, ⟨_, _, _, _, _, _, _, _, _, _, _, _, _, _, rfl, by decide +kernel, rfl⟩⟩
theorem formBadNumber : Form iBadNumber "number" "number" := ⟨rfl, rfl, rfl, by decide +kernel, by decide +kernel, rfl, rfl, rfl, rfl, rfl, ⟨_, rfl⟩, by decide, by decide, by decide, fun _ _ _ _ _ _ _ _ _ _ => rfl, fun _ _ _ _ _ _ _ _ _ _ => rfl, ⟨_, _, _, _, _, _, _, _, _, _, _, _, _, _, rfl, by decide +kernel, rfl⟩⟩
theorem formBadDeed : Form iBadDeed "at" "at" := ⟨rfl, rfl, rfl, by decide +kernel, by decide +kernel, rfl, rfl, rfl, rfl, rfl, ⟨_, rfl⟩, by decide, by decide, by decide, fun _ _ _ _ _ _ _ _ _ _ => rfl, fun _ _ _ _ _ _ _ _ _ _ => rfl, ⟨_, _, _, _, _, _, _, _, _, _, _, _, _, _, rfl, by decide +kernel, rfl⟩⟩
theorem formBadWish : Form iBadWish "wish" "wish" := ⟨rfl, rfl, rfl, by decide +kernel, by decide +kernel, rfl, rfl, rfl, rfl, rfl, ⟨_, rfl⟩, by decide, by decide, by decide, fun _ _ _ _ _ _ _ _ _ _ => rfl, fun _ _ _ _ _ _ _ _ _ _ => rfl, ⟨_, _, _, _, _, _, _, _, _, _, _, _, _, _, rfl, by decide +kernel, rfl⟩⟩
theorem formBadJournal : Form iBadJournal "at" "at" := ⟨rfl, rfl, rfl, by decide +kernel, by decide +kernel, rfl, rfl, rfl, rfl, rfl, ⟨_, rfl⟩, by decide, by decide, by decide, fun _ _ _ _ _ _ _ _ _ _ => rfl, fun _ _ _ _ _ _ _ _ _ _ => rfl, ⟨_, _, _, _, _, _, _, _, _, _, _, _, _, _, rfl, by decide +kernel, rfl⟩⟩
theorem formBadText : Form iBadText "line" "line" := ⟨rfl, rfl, rfl, by decide +kernel, by decide +kernel, rfl, rfl, rfl, rfl, rfl, ⟨_, rfl⟩, by decide, by decide, by decide, fun _ _ _ _ _ _ _ _ _ _ => rfl, fun _ _ _ _ _ _ _ _ _ _ => rfl, ⟨_, _, _, _, _, _, _, _, _, _, _, _, _, _, rfl, by decide +kernel, rfl⟩⟩
def kitsB (K : PySem.W.Frag) (A : Ad) : List (List (Option Bool)) := A.all.map fun C => A.all.map fun D => PySem.W.kitOne K (.ref C) (.ref D)
def kitsD (K : PySem.W.Frag) (A : Ad) : List (Option Bool) := A.all.map fun D => PySem.W.kitOne K (.ref A.DealError) (.ref D)
def upB (K : PySem.W.Frag) (A : Ad) : Bool := A.all.all fun C => (PySem.W.kitOne K (.ref C) (.ref A.DealError) == some true) && (PySem.W.kitOne K (.ref C) (.type "ValueError") == some true)
theorem all_mk {P : Program} {w : World} {K : PySem.W.Frag} {h : Heap} {mg : Str → Option Value} {fa : Addr} {CBadBook CBadRecord CBadLog CBadNumber CBadStanding CBadDeed CBadWish CNoBreak CNotHeld CBadOutcome CNothingDone CBadJournal CBadText CDealError : Addr} {fCopied : Addr} {odCopied anCopied : Option Addr} {slCopied : Array (Option Value)} {ocCopied kVCopied dcCopied pmCopied cdCopied ctCopied : Value} {fBegun : Addr} {odBegun anBegun : Option Addr} {slBegun : Array (Option Value)} {ocBegun kVBegun dcBegun pmBegun cdBegun ctBegun : Value} {fMixed : Addr} {odMixed anMixed : Option Addr} {slMixed : Array (Option Value)} {ocMixed kVMixed dcMixed pmMixed cdMixed ctMixed : Value} {fTake : Addr} {odTake anTake : Option Addr} {slTake : Array (Option Value)} {ocTake kVTake dcTake pmTake cdTake ctTake : Value} {fPick : Addr} {odPick anPick : Option Addr} {slPick : Array (Option Value)} {ocPick kVPick dcPick pmPick cdPick ctPick : Value} {fFlags : Addr} {odFlags anFlags : Option Addr} {slFlags : Array (Option Value)} {ocFlags kVFlags dcFlags pmFlags cdFlags ctFlags : Value} {fAllMade : Addr} {odAllMade anAllMade : Option Addr} {slAllMade : Array (Option Value)} {ocAllMade kVAllMade dcAllMade pmAllMade cdAllMade ctAllMade : Value} {fNamed : Addr} {odNamed anNamed : Option Addr} {slNamed : Array (Option Value)} {ocNamed kVNamed dcNamed pmNamed cdNamed ctNamed : Value} {fLaw : Addr} {odLaw anLaw : Option Addr} {slLaw : Array (Option Value)} {ocLaw kVLaw dcLaw pmLaw cdLaw ctLaw : Value} {nmBadBook qBadBook fileBadBook : Str} {NBadBook fBadBook cdBadBook ccBadBook : Addr} {bsBadBook bmBadBook subBadBook : List Value} {snBadBook : List Str} {abBadBook : Bool} {colBadBook : Option Bool} {ddBadBook odBadBook anBadBook cddBadBook cldBadBook : Option Addr} {k0BadBook k1BadBook k2BadBook k3BadBook k5BadBook : Option Value} {ocBadBook kVBadBook dcBadBook pmBadBook ctBadBook cclBadBook clBadBook : Value} {slBadBook ccsBadBook cslBadBook : Array (Option Value)} {vsBadBook : Array Value} {tfBadBook : Tok} {nmBadRecord qBadRecord fileBadRecord : Str} {NBadRecord fBadRecord cdBadRecord ccBadRecord : Addr} {bsBadRecord bmBadRecord subBadRecord : List Value} {snBadRecord : List Str} {abBadRecord : Bool} {colBadRecord : Option Bool} {ddBadRecord odBadRecord anBadRecord cddBadRecord cldBadRecord : Option Addr} {k0BadRecord k1BadRecord k2BadRecord k3BadRecord k5BadRecord : Option Value} {ocBadRecord kVBadRecord dcBadRecord pmBadRecord ctBadRecord cclBadRecord clBadRecord : Value} {slBadRecord ccsBadRecord cslBadRecord : Array (Option Value)} {vsBadRecord : Array Value} {tfBadRecord : Tok} {nmBadNumber qBadNumber fileBadNumber : Str} {NBadNumber fBadNumber cdBadNumber ccBadNumber : Addr} {bsBadNumber bmBadNumber subBadNumber : List Value} {snBadNumber : List Str} {abBadNumber : Bool} {colBadNumber : Option Bool} {ddBadNumber odBadNumber anBadNumber cddBadNumber cldBadNumber : Option Addr} {k0BadNumber k1BadNumber k2BadNumber k3BadNumber k5BadNumber : Option Value} {ocBadNumber kVBadNumber dcBadNumber pmBadNumber ctBadNumber cclBadNumber clBadNumber : Value} {slBadNumber ccsBadNumber cslBadNumber : Array (Option Value)} {vsBadNumber : Array Value} {tfBadNumber : Tok} {nmBadDeed qBadDeed fileBadDeed : Str} {NBadDeed fBadDeed cdBadDeed ccBadDeed : Addr} {bsBadDeed bmBadDeed subBadDeed : List Value} {snBadDeed : List Str} {abBadDeed : Bool} {colBadDeed : Option Bool} {ddBadDeed odBadDeed anBadDeed cddBadDeed cldBadDeed : Option Addr} {k0BadDeed k1BadDeed k2BadDeed k3BadDeed k5BadDeed : Option Value} {ocBadDeed kVBadDeed dcBadDeed pmBadDeed ctBadDeed cclBadDeed clBadDeed : Value} {slBadDeed ccsBadDeed cslBadDeed : Array (Option Value)} {vsBadDeed : Array Value} {tfBadDeed : Tok} {nmBadWish qBadWish fileBadWish : Str} {NBadWish fBadWish cdBadWish ccBadWish : Addr} {bsBadWish bmBadWish subBadWish : List Value} {snBadWish : List Str} {abBadWish : Bool} {colBadWish : Option Bool} {ddBadWish odBadWish anBadWish cddBadWish cldBadWish : Option Addr} {k0BadWish k1BadWish k2BadWish k3BadWish k5BadWish : Option Value} {ocBadWish kVBadWish dcBadWish pmBadWish ctBadWish cclBadWish clBadWish : Value} {slBadWish ccsBadWish cslBadWish : Array (Option Value)} {vsBadWish : Array Value} {tfBadWish : Tok} {nmBadJournal qBadJournal fileBadJournal : Str} {NBadJournal fBadJournal cdBadJournal ccBadJournal : Addr} {bsBadJournal bmBadJournal subBadJournal : List Value} {snBadJournal : List Str} {abBadJournal : Bool} {colBadJournal : Option Bool} {ddBadJournal odBadJournal anBadJournal cddBadJournal cldBadJournal : Option Addr} {k0BadJournal k1BadJournal k2BadJournal k3BadJournal k5BadJournal : Option Value} {ocBadJournal kVBadJournal dcBadJournal pmBadJournal ctBadJournal cclBadJournal clBadJournal : Value} {slBadJournal ccsBadJournal cslBadJournal : Array (Option Value)} {vsBadJournal : Array Value} {tfBadJournal : Tok} {nmBadText qBadText fileBadText : Str} {NBadText fBadText cdBadText ccBadText : Addr} {bsBadText bmBadText subBadText : List Value} {snBadText : List Str} {abBadText : Bool} {colBadText : Option Bool} {ddBadText odBadText anBadText cddBadText cldBadText : Option Addr} {k0BadText k1BadText k2BadText k3BadText k5BadText : Option Value} {ocBadText kVBadText dcBadText pmBadText ctBadText cclBadText clBadText : Value} {slBadText ccsBadText cslBadText : Array (Option Value)} {vsBadText : Array Value} {tfBadText : Tok}
    (X : K.In h) (G : h.Ns mainGlobals mg) (hfa : mg "law" = some (.ref fa))
    (aBadBook : PySem.W.nsIn K mainGlobals "BadBook" = some (some (.ref CBadBook)))
    (aBadRecord : PySem.W.nsIn K mainGlobals "BadRecord" = some (some (.ref CBadRecord)))
    (aBadLog : PySem.W.nsIn K mainGlobals "BadLog" = some (some (.ref CBadLog)))
    (aBadNumber : PySem.W.nsIn K mainGlobals "BadNumber" = some (some (.ref CBadNumber)))
    (aBadStanding : PySem.W.nsIn K mainGlobals "BadStanding" = some (some (.ref CBadStanding)))
    (aBadDeed : PySem.W.nsIn K mainGlobals "BadDeed" = some (some (.ref CBadDeed)))
    (aBadWish : PySem.W.nsIn K mainGlobals "BadWish" = some (some (.ref CBadWish)))
    (aNoBreak : PySem.W.nsIn K mainGlobals "NoBreak" = some (some (.ref CNoBreak)))
    (aNotHeld : PySem.W.nsIn K mainGlobals "NotHeld" = some (some (.ref CNotHeld)))
    (aBadOutcome : PySem.W.nsIn K mainGlobals "BadOutcome" = some (some (.ref CBadOutcome)))
    (aNothingDone : PySem.W.nsIn K mainGlobals "NothingDone" = some (some (.ref CNothingDone)))
    (aBadJournal : PySem.W.nsIn K mainGlobals "BadJournal" = some (some (.ref CBadJournal)))
    (aBadText : PySem.W.nsIn K mainGlobals "BadText" = some (some (.ref CBadText)))
    (aDealError : PySem.W.nsIn K mainGlobals "DealError" = some (some (.ref CDealError)))
    (aCopied : PySem.W.nsIn K mainGlobals "copied" = some (some (.ref fCopied)))
    (lCopied : K.lookup fCopied = some ⟨ocCopied, odCopied, .func (PySem.W.fnOf "copied" "copied" (defArgs Co.sCopied) (defBody Co.sCopied) (defScope Co.sCopied) .none kVCopied dcCopied pmCopied anCopied cdCopied ctCopied), slCopied⟩)
    (cCopied : PySem.W.codeIn K cdCopied "copied" = true)
    (kCopied : PySem.W.keepIn K (.ref fCopied) = true)
    (aBegun : PySem.W.nsIn K mainGlobals "_law_begun" = some (some (.ref fBegun)))
    (lBegun : K.lookup fBegun = some ⟨ocBegun, odBegun, .func (PySem.W.fnOf "_law_begun" "_law_begun" (defArgs Draw.sBegun) (defBody Draw.sBegun) (defScope Draw.sBegun) .none kVBegun dcBegun pmBegun anBegun cdBegun ctBegun), slBegun⟩)
    (cBegun : PySem.W.codeIn K cdBegun "_law_begun" = true)
    (kBegun : PySem.W.keepIn K (.ref fBegun) = true)
    (aMixed : PySem.W.nsIn K mainGlobals "_law_mixed" = some (some (.ref fMixed)))
    (lMixed : K.lookup fMixed = some ⟨ocMixed, odMixed, .func (PySem.W.fnOf "_law_mixed" "_law_mixed" (defArgs Draw.sMixed) (defBody Draw.sMixed) (defScope Draw.sMixed) .none kVMixed dcMixed pmMixed anMixed cdMixed ctMixed), slMixed⟩)
    (cMixed : PySem.W.codeIn K cdMixed "_law_mixed" = true)
    (kMixed : PySem.W.keepIn K (.ref fMixed) = true)
    (aTake : PySem.W.nsIn K mainGlobals "_law_take" = some (some (.ref fTake)))
    (lTake : K.lookup fTake = some ⟨ocTake, odTake, .func (PySem.W.fnOf "_law_take" "_law_take" (defArgs Draw.sTake) (defBody Draw.sTake) (defScope Draw.sTake) .none kVTake dcTake pmTake anTake cdTake ctTake), slTake⟩)
    (cTake : PySem.W.codeIn K cdTake "_law_take" = true)
    (kTake : PySem.W.keepIn K (.ref fTake) = true)
    (aPick : PySem.W.nsIn K mainGlobals "_law_pick" = some (some (.ref fPick)))
    (lPick : K.lookup fPick = some ⟨ocPick, odPick, .func (PySem.W.fnOf "_law_pick" "_law_pick" (defArgs Draw.sPick) (defBody Draw.sPick) (defScope Draw.sPick) .none kVPick dcPick pmPick anPick cdPick ctPick), slPick⟩)
    (cPick : PySem.W.codeIn K cdPick "_law_pick" = true)
    (kPick : PySem.W.keepIn K (.ref fPick) = true)
    (aFlags : PySem.W.nsIn K mainGlobals "_law_flags" = some (some (.ref fFlags)))
    (lFlags : K.lookup fFlags = some ⟨ocFlags, odFlags, .func (PySem.W.fnOf "_law_flags" "_law_flags" (defArgs sFlags) (defBody sFlags) (defScope sFlags) .none kVFlags dcFlags pmFlags anFlags cdFlags ctFlags), slFlags⟩)
    (cFlags : PySem.W.codeIn K cdFlags "_law_flags" = true)
    (kFlags : PySem.W.keepIn K (.ref fFlags) = true)
    (aAllMade : PySem.W.nsIn K mainGlobals "_law_all_made" = some (some (.ref fAllMade)))
    (lAllMade : K.lookup fAllMade = some ⟨ocAllMade, odAllMade, .func (PySem.W.fnOf "_law_all_made" "_law_all_made" (defArgs sAll) (defBody sAll) (defScope sAll) .none kVAllMade dcAllMade pmAllMade anAllMade cdAllMade ctAllMade), slAllMade⟩)
    (cAllMade : PySem.W.codeIn K cdAllMade "_law_all_made" = true)
    (kAllMade : PySem.W.keepIn K (.ref fAllMade) = true)
    (aNamed : PySem.W.nsIn K mainGlobals "_law_named" = some (some (.ref fNamed)))
    (lNamed : K.lookup fNamed = some ⟨ocNamed, odNamed, .func (PySem.W.fnOf "_law_named" "_law_named" (defArgs sNamed) (defBody sNamed) (defScope sNamed) .none kVNamed dcNamed pmNamed anNamed cdNamed ctNamed), slNamed⟩)
    (cNamed : PySem.W.codeIn K cdNamed "_law_named" = true)
    (kNamed : PySem.W.keepIn K (.ref fNamed) = true)
    (aLaw : PySem.W.nsIn K mainGlobals "law" = some (some (.ref fLaw)))
    (lLaw : K.lookup fLaw = some ⟨ocLaw, odLaw, .func (PySem.W.fnOf "law" "law" (defArgs sLaw) (defBody sLaw) (defScope sLaw) .none kVLaw dcLaw pmLaw anLaw cdLaw ctLaw), slLaw⟩)
    (cLaw : PySem.W.codeIn K cdLaw "law" = true)
    (kLaw : PySem.W.keepIn K (.ref fLaw) = true)
    (xBadBook : K.lookup CBadBook = some (excClassObj nmBadBook qBadBook CBadBook NBadBook bsBadBook bmBadBook true snBadBook subBadBook abBadBook colBadBook ddBadBook k0BadBook k1BadBook k2BadBook k3BadBook k5BadBook "ValueError.__new__"))
    (rBadBook : PySem.HandSPX.refsVE bmBadBook = true)
    (iBadBookI : PySem.W.findIn K (.ref CBadBook) "__init__" = some (some (.ref fBadBook)))
    (lBadBook : K.lookup fBadBook = some ⟨ocBadBook, odBadBook, .func (PySem.W.fnX "__init__" "BadBook.__init__" (defArgs iBadBook) (defBody iBadBook) (defScope iBadBook) [("__class__", ccBadBook)] .none kVBadBook dcBadBook pmBadBook anBadBook (.ref cdBadBook) ctBadBook), slBadBook⟩)
    (cBadBook : PySem.W.codeIn K (.ref cdBadBook) "BadBook.__init__" = true)
    (hBadBook : K.lookup cdBadBook = some ⟨cclBadBook, cddBadBook, .fields vsBadBook, ccsBadBook⟩)
    (vBadBook : vsBadBook[2]? = some (.str fileBadBook tfBadBook))
    (mBadBook : ((P.main.file : Str) == fileBadBook) = true)
    (eBadBook : K.lookup ccBadBook = some ⟨clBadBook, cldBadBook, .cell (some (.ref CBadBook)), cslBadBook⟩)
    (oBadBook : owB K CBadBook fBadBook "part" = true)
    (xBadRecord : K.lookup CBadRecord = some (excClassObj nmBadRecord qBadRecord CBadRecord NBadRecord bsBadRecord bmBadRecord true snBadRecord subBadRecord abBadRecord colBadRecord ddBadRecord k0BadRecord k1BadRecord k2BadRecord k3BadRecord k5BadRecord "ValueError.__new__"))
    (rBadRecord : PySem.HandSPX.refsVE bmBadRecord = true)
    (iBadRecordI : PySem.W.findIn K (.ref CBadRecord) "__init__" = some (some (.ref fBadRecord)))
    (lBadRecord : K.lookup fBadRecord = some ⟨ocBadRecord, odBadRecord, .func (PySem.W.fnX "__init__" "BadRecord.__init__" (defArgs iBadRecord) (defBody iBadRecord) (defScope iBadRecord) [("__class__", ccBadRecord)] .none kVBadRecord dcBadRecord pmBadRecord anBadRecord (.ref cdBadRecord) ctBadRecord), slBadRecord⟩)
    (cBadRecord : PySem.W.codeIn K (.ref cdBadRecord) "BadRecord.__init__" = true)
    (hBadRecord : K.lookup cdBadRecord = some ⟨cclBadRecord, cddBadRecord, .fields vsBadRecord, ccsBadRecord⟩)
    (vBadRecord : vsBadRecord[2]? = some (.str fileBadRecord tfBadRecord))
    (mBadRecord : ((P.main.file : Str) == fileBadRecord) = true)
    (eBadRecord : K.lookup ccBadRecord = some ⟨clBadRecord, cldBadRecord, .cell (some (.ref CBadRecord)), cslBadRecord⟩)
    (oBadRecord : owB K CBadRecord fBadRecord "record" = true)
    (xBadNumber : K.lookup CBadNumber = some (excClassObj nmBadNumber qBadNumber CBadNumber NBadNumber bsBadNumber bmBadNumber true snBadNumber subBadNumber abBadNumber colBadNumber ddBadNumber k0BadNumber k1BadNumber k2BadNumber k3BadNumber k5BadNumber "ValueError.__new__"))
    (rBadNumber : PySem.HandSPX.refsVE bmBadNumber = true)
    (iBadNumberI : PySem.W.findIn K (.ref CBadNumber) "__init__" = some (some (.ref fBadNumber)))
    (lBadNumber : K.lookup fBadNumber = some ⟨ocBadNumber, odBadNumber, .func (PySem.W.fnX "__init__" "BadNumber.__init__" (defArgs iBadNumber) (defBody iBadNumber) (defScope iBadNumber) [("__class__", ccBadNumber)] .none kVBadNumber dcBadNumber pmBadNumber anBadNumber (.ref cdBadNumber) ctBadNumber), slBadNumber⟩)
    (cBadNumber : PySem.W.codeIn K (.ref cdBadNumber) "BadNumber.__init__" = true)
    (hBadNumber : K.lookup cdBadNumber = some ⟨cclBadNumber, cddBadNumber, .fields vsBadNumber, ccsBadNumber⟩)
    (vBadNumber : vsBadNumber[2]? = some (.str fileBadNumber tfBadNumber))
    (mBadNumber : ((P.main.file : Str) == fileBadNumber) = true)
    (eBadNumber : K.lookup ccBadNumber = some ⟨clBadNumber, cldBadNumber, .cell (some (.ref CBadNumber)), cslBadNumber⟩)
    (oBadNumber : owB K CBadNumber fBadNumber "number" = true)
    (xBadDeed : K.lookup CBadDeed = some (excClassObj nmBadDeed qBadDeed CBadDeed NBadDeed bsBadDeed bmBadDeed true snBadDeed subBadDeed abBadDeed colBadDeed ddBadDeed k0BadDeed k1BadDeed k2BadDeed k3BadDeed k5BadDeed "ValueError.__new__"))
    (rBadDeed : PySem.HandSPX.refsVE bmBadDeed = true)
    (iBadDeedI : PySem.W.findIn K (.ref CBadDeed) "__init__" = some (some (.ref fBadDeed)))
    (lBadDeed : K.lookup fBadDeed = some ⟨ocBadDeed, odBadDeed, .func (PySem.W.fnX "__init__" "BadDeed.__init__" (defArgs iBadDeed) (defBody iBadDeed) (defScope iBadDeed) [("__class__", ccBadDeed)] .none kVBadDeed dcBadDeed pmBadDeed anBadDeed (.ref cdBadDeed) ctBadDeed), slBadDeed⟩)
    (cBadDeed : PySem.W.codeIn K (.ref cdBadDeed) "BadDeed.__init__" = true)
    (hBadDeed : K.lookup cdBadDeed = some ⟨cclBadDeed, cddBadDeed, .fields vsBadDeed, ccsBadDeed⟩)
    (vBadDeed : vsBadDeed[2]? = some (.str fileBadDeed tfBadDeed))
    (mBadDeed : ((P.main.file : Str) == fileBadDeed) = true)
    (eBadDeed : K.lookup ccBadDeed = some ⟨clBadDeed, cldBadDeed, .cell (some (.ref CBadDeed)), cslBadDeed⟩)
    (oBadDeed : owB K CBadDeed fBadDeed "at" = true)
    (xBadWish : K.lookup CBadWish = some (excClassObj nmBadWish qBadWish CBadWish NBadWish bsBadWish bmBadWish true snBadWish subBadWish abBadWish colBadWish ddBadWish k0BadWish k1BadWish k2BadWish k3BadWish k5BadWish "ValueError.__new__"))
    (rBadWish : PySem.HandSPX.refsVE bmBadWish = true)
    (iBadWishI : PySem.W.findIn K (.ref CBadWish) "__init__" = some (some (.ref fBadWish)))
    (lBadWish : K.lookup fBadWish = some ⟨ocBadWish, odBadWish, .func (PySem.W.fnX "__init__" "BadWish.__init__" (defArgs iBadWish) (defBody iBadWish) (defScope iBadWish) [("__class__", ccBadWish)] .none kVBadWish dcBadWish pmBadWish anBadWish (.ref cdBadWish) ctBadWish), slBadWish⟩)
    (cBadWish : PySem.W.codeIn K (.ref cdBadWish) "BadWish.__init__" = true)
    (hBadWish : K.lookup cdBadWish = some ⟨cclBadWish, cddBadWish, .fields vsBadWish, ccsBadWish⟩)
    (vBadWish : vsBadWish[2]? = some (.str fileBadWish tfBadWish))
    (mBadWish : ((P.main.file : Str) == fileBadWish) = true)
    (eBadWish : K.lookup ccBadWish = some ⟨clBadWish, cldBadWish, .cell (some (.ref CBadWish)), cslBadWish⟩)
    (oBadWish : owB K CBadWish fBadWish "wish" = true)
    (xBadJournal : K.lookup CBadJournal = some (excClassObj nmBadJournal qBadJournal CBadJournal NBadJournal bsBadJournal bmBadJournal true snBadJournal subBadJournal abBadJournal colBadJournal ddBadJournal k0BadJournal k1BadJournal k2BadJournal k3BadJournal k5BadJournal "ValueError.__new__"))
    (rBadJournal : PySem.HandSPX.refsVE bmBadJournal = true)
    (iBadJournalI : PySem.W.findIn K (.ref CBadJournal) "__init__" = some (some (.ref fBadJournal)))
    (lBadJournal : K.lookup fBadJournal = some ⟨ocBadJournal, odBadJournal, .func (PySem.W.fnX "__init__" "BadJournal.__init__" (defArgs iBadJournal) (defBody iBadJournal) (defScope iBadJournal) [("__class__", ccBadJournal)] .none kVBadJournal dcBadJournal pmBadJournal anBadJournal (.ref cdBadJournal) ctBadJournal), slBadJournal⟩)
    (cBadJournal : PySem.W.codeIn K (.ref cdBadJournal) "BadJournal.__init__" = true)
    (hBadJournal : K.lookup cdBadJournal = some ⟨cclBadJournal, cddBadJournal, .fields vsBadJournal, ccsBadJournal⟩)
    (vBadJournal : vsBadJournal[2]? = some (.str fileBadJournal tfBadJournal))
    (mBadJournal : ((P.main.file : Str) == fileBadJournal) = true)
    (eBadJournal : K.lookup ccBadJournal = some ⟨clBadJournal, cldBadJournal, .cell (some (.ref CBadJournal)), cslBadJournal⟩)
    (oBadJournal : owB K CBadJournal fBadJournal "at" = true)
    (xBadText : K.lookup CBadText = some (excClassObj nmBadText qBadText CBadText NBadText bsBadText bmBadText true snBadText subBadText abBadText colBadText ddBadText k0BadText k1BadText k2BadText k3BadText k5BadText "ValueError.__new__"))
    (rBadText : PySem.HandSPX.refsVE bmBadText = true)
    (iBadTextI : PySem.W.findIn K (.ref CBadText) "__init__" = some (some (.ref fBadText)))
    (lBadText : K.lookup fBadText = some ⟨ocBadText, odBadText, .func (PySem.W.fnX "__init__" "BadText.__init__" (defArgs iBadText) (defBody iBadText) (defScope iBadText) [("__class__", ccBadText)] .none kVBadText dcBadText pmBadText anBadText (.ref cdBadText) ctBadText), slBadText⟩)
    (cBadText : PySem.W.codeIn K (.ref cdBadText) "BadText.__init__" = true)
    (hBadText : K.lookup cdBadText = some ⟨cclBadText, cddBadText, .fields vsBadText, ccsBadText⟩)
    (vBadText : vsBadText[2]? = some (.str fileBadText tfBadText))
    (mBadText : ((P.main.file : Str) == fileBadText) = true)
    (eBadText : K.lookup ccBadText = some ⟨clBadText, cldBadText, .cell (some (.ref CBadText)), cslBadText⟩)
    (oBadText : owB K CBadText fBadText "line" = true)
    (tBadLog : PySem.W.excIn K CBadLog PySem.HandSPX.veTail "ValueError.__new__" = true)
    (pBadLog : PySem.W.keepIn K (.ref CBadLog) = true)
    (tBadStanding : PySem.W.excIn K CBadStanding PySem.HandSPX.veTail "ValueError.__new__" = true)
    (pBadStanding : PySem.W.keepIn K (.ref CBadStanding) = true)
    (tNoBreak : PySem.W.excIn K CNoBreak PySem.HandSPX.veTail "ValueError.__new__" = true)
    (pNoBreak : PySem.W.keepIn K (.ref CNoBreak) = true)
    (tNotHeld : PySem.W.excIn K CNotHeld PySem.HandSPX.veTail "ValueError.__new__" = true)
    (pNotHeld : PySem.W.keepIn K (.ref CNotHeld) = true)
    (tBadOutcome : PySem.W.excIn K CBadOutcome PySem.HandSPX.veTail "ValueError.__new__" = true)
    (pBadOutcome : PySem.W.keepIn K (.ref CBadOutcome) = true)
    (tNothingDone : PySem.W.excIn K CNothingDone PySem.HandSPX.veTail "ValueError.__new__" = true)
    (pNothingDone : PySem.W.keepIn K (.ref CNothingDone) = true)
    (tDealError : PySem.W.excIn K CDealError PySem.HandSPX.veTail "ValueError.__new__" = true)
    (pDealError : PySem.W.keepIn K (.ref CDealError) = true)
    (zabs : PySem.W.nsIn K mainGlobals "abs" = some none)
    (zint : PySem.W.nsIn K mainGlobals "int" = some none)
    (zlen : PySem.W.nsIn K mainGlobals "len" = some none)
    (zrange : PySem.W.nsIn K mainGlobals "range" = some none)
    (zmin : PySem.W.nsIn K mainGlobals "min" = some none)
    (zisinstance : PySem.W.nsIn K mainGlobals "isinstance" = some none)
    (zlist : PySem.W.nsIn K mainGlobals "list" = some none)
    (ztuple : PySem.W.nsIn K mainGlobals "tuple" = some none)
    (zdict : PySem.W.nsIn K mainGlobals "dict" = some none)
    (zrepr : PySem.W.nsIn K mainGlobals "repr" = some none)
    (zValueError : PySem.W.nsIn K mainGlobals "ValueError" = some none)
    (zenumerate : PySem.W.nsIn K mainGlobals "enumerate" = some none)
    (zsuper : PySem.W.nsIn K mainGlobals "super" = some none)
    (hn : PySem.W.specialIn K (.builtin "object.__class__") "__get__" = some (some (.builtin "getset_descriptor.__get__")))
    (ht : PySem.W.takesIn K (.builtin "object.__class__") = some true)
    (hp : PySem.W.nsIn K PySem.cStatics "thirdparty.any" = some none)
    (hs : (P.main.scope.names.lookup ("super" : Str)).isSome = false)
    (ecs : (⟨CBadBook, CBadRecord, CBadLog, CBadNumber, CBadStanding, CBadDeed, CBadWish, CNoBreak, CNotHeld, CBadOutcome, CNothingDone, CBadJournal, CBadText, CDealError⟩ : Ad).all.all (ecB K) = true)
    (ecd : ecB K CDealError = true)
    (kits : kitsB K (⟨CBadBook, CBadRecord, CBadLog, CBadNumber, CBadStanding, CBadDeed, CBadWish, CNoBreak, CNotHeld, CBadOutcome, CNothingDone, CBadJournal, CBadText, CDealError⟩ : Ad) = (List.range 13).map fun i => ((List.range 13).map fun j => decide (j = i)).map some)
    (kitd : kitsD K (⟨CBadBook, CBadRecord, CBadLog, CBadNumber, CBadStanding, CBadDeed, CBadWish, CNoBreak, CNotHeld, CBadOutcome, CNothingDone, CBadJournal, CBadText, CDealError⟩ : Ad) = ((List.range 13).map fun _ => false).map some)
    (ups : upB K (⟨CBadBook, CBadRecord, CBadLog, CBadNumber, CBadStanding, CBadDeed, CBadWish, CNoBreak, CNotHeld, CBadOutcome, CNothingDone, CBadJournal, CBadText, CDealError⟩ : Ad) = true)
    (kvd : PySem.W.kitOne K (.ref CDealError) (.type "ValueError") = some true)
    : ∃ fd : FuncData, (∀ (s : Shared) (u : Value), BindsTo s fd ⟨[u], []⟩ [("script", u)]) ∧ ∀ base : Heap, K.In base → base.Ns mainGlobals mg → FnG P w K mg base CX0 8 fa fd ["script"] (spLaw K) := by
  have e := hfa.symm.trans (PySem.W.mg_of X G aLaw)
  cases e
  have R : Root P K := ⟨hn, ht, hp, hs⟩
  have nabs := PySem.W.mg_none_of X G zabs
  have nint := PySem.W.mg_none_of X G zint
  have nlen := PySem.W.mg_none_of X G zlen
  have nrange := PySem.W.mg_none_of X G zrange
  have nmin := PySem.W.mg_none_of X G zmin
  have nisinstance := PySem.W.mg_none_of X G zisinstance
  have nlist := PySem.W.mg_none_of X G zlist
  have ntuple := PySem.W.mg_none_of X G ztuple
  have ndict := PySem.W.mg_none_of X G zdict
  have nrepr := PySem.W.mg_none_of X G zrepr
  have nValueError := PySem.W.mg_none_of X G zValueError
  have nenumerate := PySem.W.mg_none_of X G zenumerate
  have nsuper := PySem.W.mg_none_of X G zsuper
  have gCopied := PySem.W.mg_of X G aCopied
  have FCopied := fun_mk (st := Co.sCopied) lCopied cCopied kCopied
  have bCopied := FCopied.binds (ps := ["value"]) fun _ _ _ _ _ _ us hl => match us, hl with | [_], _ => rfl
  have gBegun := PySem.W.mg_of X G aBegun
  have FBegun := fun_mk (st := Draw.sBegun) lBegun cBegun kBegun
  have bBegun := FBegun.binds (ps := ["script"]) fun _ _ _ _ _ _ us hl => match us, hl with | [_], _ => rfl
  have gMixed := PySem.W.mg_of X G aMixed
  have FMixed := fun_mk (st := Draw.sMixed) lMixed cMixed kMixed
  have bMixed := FMixed.binds (ps := ["draw"]) fun _ _ _ _ _ _ us hl => match us, hl with | [_], _ => rfl
  have gTake := PySem.W.mg_of X G aTake
  have FTake := fun_mk (st := Draw.sTake) lTake cTake kTake
  have bTake := FTake.binds (ps := ["draw", "size"]) fun _ _ _ _ _ _ us hl => match us, hl with | [_, _], _ => rfl
  have gPick := PySem.W.mg_of X G aPick
  have FPick := fun_mk (st := Draw.sPick) lPick cPick kPick
  have bPick := FPick.binds (ps := ["draw", "some"]) fun _ _ _ _ _ _ us hl => match us, hl with | [_, _], _ => rfl
  have gFlags := PySem.W.mg_of X G aFlags
  have FFlags := fun_mk (st := sFlags) lFlags cFlags kFlags
  have bFlags := FFlags.binds (ps := ["error"]) fun _ _ _ _ _ _ us hl => match us, hl with | [_], _ => rfl
  have gAllMade := PySem.W.mg_of X G aAllMade
  have FAllMade := fun_mk (st := sAll) lAllMade cAllMade kAllMade
  have bAllMade := FAllMade.binds (ps := ["what"]) fun _ _ _ _ _ _ us hl => match us, hl with | [_], _ => rfl
  have gNamed := PySem.W.mg_of X G aNamed
  have FNamed := fun_mk (st := sNamed) lNamed cNamed kNamed
  have bNamed := FNamed.binds (ps := ["what"]) fun _ _ _ _ _ _ us hl => match us, hl with | [_], _ => rfl
  have FLaw := fun_mk (st := sLaw) lLaw cLaw kLaw
  let A : Ad := ⟨CBadBook, CBadRecord, CBadLog, CBadNumber, CBadStanding, CBadDeed, CBadWish, CNoBreak, CNotHeld, CBadOutcome, CNothingDone, CBadJournal, CBadText, CDealError⟩
  have hec : ∀ C ∈ A.all, ecB K C = true := fun C m => List.all_eq_true.mp ecs C m
  refine ⟨PySem.W.fnOf "law" "law" (defArgs sLaw) (defBody sLaw) (defScope sLaw) .none kVLaw dcLaw pmLaw anLaw cdLaw ctLaw, fun s v => .of_eq rfl, fun base _ _ => ?_⟩
  have GC := fun n => ok_copied (P := P) (w := w) (base := base) FCopied ⟨nisinstance, nlist, ntuple, ndict⟩ gCopied bCopied n
  have EBadBook : OwnE P w K mg base 3 5 "BadBook" "part" "part" A.BadBook := own R formBadBook (hec _ (List.mem_of_getElem? (i := 0) rfl)) oBadBook xBadBook rBadBook iBadBookI lBadBook cBadBook hBadBook vBadBook mBadBook eBadBook (PySem.W.mg_of X G aBadBook) nsuper (GC 3) gCopied kCopied bCopied
  have EBadRecord : OwnE P w K mg base 3 5 "BadRecord" "record" "record" A.BadRecord := own R formBadRecord (hec _ (List.mem_of_getElem? (i := 1) rfl)) oBadRecord xBadRecord rBadRecord iBadRecordI lBadRecord cBadRecord hBadRecord vBadRecord mBadRecord eBadRecord (PySem.W.mg_of X G aBadRecord) nsuper (GC 3) gCopied kCopied bCopied
  have EBadNumber : OwnE P w K mg base 3 5 "BadNumber" "number" "number" A.BadNumber := own R formBadNumber (hec _ (List.mem_of_getElem? (i := 3) rfl)) oBadNumber xBadNumber rBadNumber iBadNumberI lBadNumber cBadNumber hBadNumber vBadNumber mBadNumber eBadNumber (PySem.W.mg_of X G aBadNumber) nsuper (GC 3) gCopied kCopied bCopied
  have EBadDeed : OwnE P w K mg base 3 5 "BadDeed" "at" "at" A.BadDeed := own R formBadDeed (hec _ (List.mem_of_getElem? (i := 5) rfl)) oBadDeed xBadDeed rBadDeed iBadDeedI lBadDeed cBadDeed hBadDeed vBadDeed mBadDeed eBadDeed (PySem.W.mg_of X G aBadDeed) nsuper (GC 3) gCopied kCopied bCopied
  have EBadWish : OwnE P w K mg base 3 5 "BadWish" "wish" "wish" A.BadWish := own R formBadWish (hec _ (List.mem_of_getElem? (i := 6) rfl)) oBadWish xBadWish rBadWish iBadWishI lBadWish cBadWish hBadWish vBadWish mBadWish eBadWish (PySem.W.mg_of X G aBadWish) nsuper (GC 3) gCopied kCopied bCopied
  have EBadJournal : OwnE P w K mg base 3 5 "BadJournal" "at" "at" A.BadJournal := own R formBadJournal (hec _ (List.mem_of_getElem? (i := 11) rfl)) oBadJournal xBadJournal rBadJournal iBadJournalI lBadJournal cBadJournal hBadJournal vBadJournal mBadJournal eBadJournal (PySem.W.mg_of X G aBadJournal) nsuper (GC 3) gCopied kCopied bCopied
  have EBadText : OwnE P w K mg base 3 5 "BadText" "line" "line" A.BadText := own R formBadText (hec _ (List.mem_of_getElem? (i := 12) rfl)) oBadText xBadText rBadText iBadTextI lBadText cBadText hBadText vBadText mBadText eBadText (PySem.W.mg_of X G aBadText) nsuper (GC 3) gCopied kCopied bCopied
  have T : Tx P w K mg base A := {
    eBadBook := EBadBook
    gBadBook := PySem.W.mg_of X G aBadBook
    eBadRecord := EBadRecord
    gBadRecord := PySem.W.mg_of X G aBadRecord
    eBadLog := ⟨tBadLog, PySem.W.mg_of X G aBadLog, pBadLog⟩
    gBadLog := PySem.W.mg_of X G aBadLog
    eBadNumber := EBadNumber
    gBadNumber := PySem.W.mg_of X G aBadNumber
    eBadStanding := ⟨tBadStanding, PySem.W.mg_of X G aBadStanding, pBadStanding⟩
    gBadStanding := PySem.W.mg_of X G aBadStanding
    eBadDeed := EBadDeed
    gBadDeed := PySem.W.mg_of X G aBadDeed
    eBadWish := EBadWish
    gBadWish := PySem.W.mg_of X G aBadWish
    eNoBreak := ⟨tNoBreak, PySem.W.mg_of X G aNoBreak, pNoBreak⟩
    gNoBreak := PySem.W.mg_of X G aNoBreak
    eNotHeld := ⟨tNotHeld, PySem.W.mg_of X G aNotHeld, pNotHeld⟩
    gNotHeld := PySem.W.mg_of X G aNotHeld
    eBadOutcome := ⟨tBadOutcome, PySem.W.mg_of X G aBadOutcome, pBadOutcome⟩
    gBadOutcome := PySem.W.mg_of X G aBadOutcome
    eNothingDone := ⟨tNothingDone, PySem.W.mg_of X G aNothingDone, pNothingDone⟩
    gNothingDone := PySem.W.mg_of X G aNothingDone
    eBadJournal := EBadJournal
    gBadJournal := PySem.W.mg_of X G aBadJournal
    eBadText := EBadText
    gBadText := PySem.W.mg_of X G aBadText
    eDealError := ⟨tDealError, PySem.W.mg_of X G aDealError, pDealError⟩
    gDealError := PySem.W.mg_of X G aDealError
    isi := nisinstance
    repr := nrepr
    ve := nValueError
    len := nlen
    enumerate := nenumerate
    range := nrange
    min := nmin
    cls := fun C m => ecls R (hec C m)
    clsD := ecls R ecd
    kit := fun i C m => by
      have q := congrArg (·[i]?) kits
      have l : i < 13 := (List.getElem?_eq_some_iff.mp m).1
      simp only [kitsB, List.getElem?_map, List.getElem?_range l] at q
      have q2 := Option.some.inj (q.symm.trans (congrArg (Option.map _) m))
      exact paired_of q2.symm
    kitU := fun C m => by
      obtain ⟨h1, h2⟩ := and2 (List.all_eq_true.mp ups C m)
      exact ⟨beq_iff_eq.mp h1, beq_iff_eq.mp h2⟩
    kitD := paired_of kitd
    kitV := kvd }
  have B : Draw.Bare mg := ⟨nabs, nint, nlen, nrange, nmin⟩
  have GP := Draw.ok_pick (P := P) (w := w) (base := base) FPick B (Draw.ok_take FTake B FMixed gMixed bMixed) gTake kTake bTake
  exact ok_law FLaw T (Draw.ok_begun FBegun B) gBegun kBegun bBegun GP gPick kPick bPick (ok_named FNamed T) gNamed kNamed bNamed (ok_all FAllMade T) gAllMade kAllMade bAllMade (ok_flags FFlags T) gFlags kFlags bFlags
end K01
open PySem PySem.W PyProof.Rows in
set_option maxRecDepth 100000 in
set_option maxHeartbeats 0 in
theorem PySem.Challenge.cw_presumebooks_k01_errors_by_hand_holds : PySem.Challenge.rw_presumebooks_k01_errors_by_hand.Holds := by
  w_on; o_law; k_head; (case hw => w_witness2)
  k_fill
  refine Gd.walkG (l := PySem.Challenge.rw_presumebooks_k01_errors_by_hand) (n := 63) (k := 8) (sp := K01.spLaw) (x := "script") rfl (by decide) rfl ⟨rfl, by decide, by decide⟩ (fun w h Y => PySem.W.kIn_of Y) ?F (fun K H a ns hl sq => ⟨a, ns, rfl, sq, hl, fun _ => rfl⟩)
  case F =>
    intro w mg fa h KX G hmg
    refine' K01.all_mk (P := PySem.Challenge.rw_presumebooks_k01_errors_by_hand.prog) KX G hmg ?aBadBook ?aBadRecord ?aBadLog ?aBadNumber ?aBadStanding ?aBadDeed ?aBadWish ?aNoBreak ?aNotHeld ?aBadOutcome ?aNothingDone ?aBadJournal ?aBadText ?aDealError ?aCopied ?lCopied ?cCopied ?kCopied ?aBegun ?lBegun ?cBegun ?kBegun ?aMixed ?lMixed ?cMixed ?kMixed ?aTake ?lTake ?cTake ?kTake ?aPick ?lPick ?cPick ?kPick ?aFlags ?lFlags ?cFlags ?kFlags ?aAllMade ?lAllMade ?cAllMade ?kAllMade ?aNamed ?lNamed ?cNamed ?kNamed ?aLaw ?lLaw ?cLaw ?kLaw ?xBadBook ?rBadBook ?iBadBookI ?lBadBook ?cBadBook ?hBadBook ?vBadBook ?mBadBook ?eBadBook ?oBadBook ?xBadRecord ?rBadRecord ?iBadRecordI ?lBadRecord ?cBadRecord ?hBadRecord ?vBadRecord ?mBadRecord ?eBadRecord ?oBadRecord ?xBadNumber ?rBadNumber ?iBadNumberI ?lBadNumber ?cBadNumber ?hBadNumber ?vBadNumber ?mBadNumber ?eBadNumber ?oBadNumber ?xBadDeed ?rBadDeed ?iBadDeedI ?lBadDeed ?cBadDeed ?hBadDeed ?vBadDeed ?mBadDeed ?eBadDeed ?oBadDeed ?xBadWish ?rBadWish ?iBadWishI ?lBadWish ?cBadWish ?hBadWish ?vBadWish ?mBadWish ?eBadWish ?oBadWish ?xBadJournal ?rBadJournal ?iBadJournalI ?lBadJournal ?cBadJournal ?hBadJournal ?vBadJournal ?mBadJournal ?eBadJournal ?oBadJournal ?xBadText ?rBadText ?iBadTextI ?lBadText ?cBadText ?hBadText ?vBadText ?mBadText ?eBadText ?oBadText ?tBadLog ?pBadLog ?tBadStanding ?pBadStanding ?tNoBreak ?pNoBreak ?tNotHeld ?pNotHeld ?tBadOutcome ?pBadOutcome ?tNothingDone ?pNothingDone ?tDealError ?pDealError ?zabs ?zint ?zlen ?zrange ?zmin ?zisinstance ?zlist ?ztuple ?zdict ?zrepr ?zValueError ?zenumerate ?zsuper ?hn ?ht ?hp ?hs ?ecs ?ecd ?kits ?kitd ?ups ?kvd
    (case aBadBook => k_is)
    (case aBadRecord => k_is)
    (case aBadLog => k_is)
    (case aBadNumber => k_is)
    (case aBadStanding => k_is)
    (case aBadDeed => k_is)
    (case aBadWish => k_is)
    (case aNoBreak => k_is)
    (case aNotHeld => k_is)
    (case aBadOutcome => k_is)
    (case aNothingDone => k_is)
    (case aBadJournal => k_is)
    (case aBadText => k_is)
    (case aDealError => k_is)
    (case aCopied => k_is)
    (case lCopied => k_is)
    (case cCopied => k_is)
    (case kCopied => k_is)
    (case aBegun => k_is)
    (case lBegun => k_is)
    (case cBegun => k_is)
    (case kBegun => k_is)
    (case aMixed => k_is)
    (case lMixed => k_is)
    (case cMixed => k_is)
    (case kMixed => k_is)
    (case aTake => k_is)
    (case lTake => k_is)
    (case cTake => k_is)
    (case kTake => k_is)
    (case aPick => k_is)
    (case lPick => k_is)
    (case cPick => k_is)
    (case kPick => k_is)
    (case aFlags => k_is)
    (case lFlags => k_is)
    (case cFlags => k_is)
    (case kFlags => k_is)
    (case aAllMade => k_is)
    (case lAllMade => k_is)
    (case cAllMade => k_is)
    (case kAllMade => k_is)
    (case aNamed => k_is)
    (case lNamed => k_is)
    (case cNamed => k_is)
    (case kNamed => k_is)
    (case aLaw => k_is)
    (case lLaw => k_is)
    (case cLaw => k_is)
    (case kLaw => k_is)
    (case xBadBook => k_is)
    (case rBadBook => kernel_rfl!)
    (case iBadBookI => k_is)
    (case lBadBook => k_is)
    (case cBadBook => k_is)
    (case hBadBook => k_is)
    (case vBadBook => exact rfl)
    (case mBadBook => kernel_rfl!)
    (case eBadBook => k_is)
    (case oBadBook => kernel_rfl!)
    (case xBadRecord => k_is)
    (case rBadRecord => kernel_rfl!)
    (case iBadRecordI => k_is)
    (case lBadRecord => k_is)
    (case cBadRecord => k_is)
    (case hBadRecord => k_is)
    (case vBadRecord => exact rfl)
    (case mBadRecord => kernel_rfl!)
    (case eBadRecord => k_is)
    (case oBadRecord => kernel_rfl!)
    (case xBadNumber => k_is)
    (case rBadNumber => kernel_rfl!)
    (case iBadNumberI => k_is)
    (case lBadNumber => k_is)
    (case cBadNumber => k_is)
    (case hBadNumber => k_is)
    (case vBadNumber => exact rfl)
    (case mBadNumber => kernel_rfl!)
    (case eBadNumber => k_is)
    (case oBadNumber => kernel_rfl!)
    (case xBadDeed => k_is)
    (case rBadDeed => kernel_rfl!)
    (case iBadDeedI => k_is)
    (case lBadDeed => k_is)
    (case cBadDeed => k_is)
    (case hBadDeed => k_is)
    (case vBadDeed => exact rfl)
    (case mBadDeed => kernel_rfl!)
    (case eBadDeed => k_is)
    (case oBadDeed => kernel_rfl!)
    (case xBadWish => k_is)
    (case rBadWish => kernel_rfl!)
    (case iBadWishI => k_is)
    (case lBadWish => k_is)
    (case cBadWish => k_is)
    (case hBadWish => k_is)
    (case vBadWish => exact rfl)
    (case mBadWish => kernel_rfl!)
    (case eBadWish => k_is)
    (case oBadWish => kernel_rfl!)
    (case xBadJournal => k_is)
    (case rBadJournal => kernel_rfl!)
    (case iBadJournalI => k_is)
    (case lBadJournal => k_is)
    (case cBadJournal => k_is)
    (case hBadJournal => k_is)
    (case vBadJournal => exact rfl)
    (case mBadJournal => kernel_rfl!)
    (case eBadJournal => k_is)
    (case oBadJournal => kernel_rfl!)
    (case xBadText => k_is)
    (case rBadText => kernel_rfl!)
    (case iBadTextI => k_is)
    (case lBadText => k_is)
    (case cBadText => k_is)
    (case hBadText => k_is)
    (case vBadText => exact rfl)
    (case mBadText => kernel_rfl!)
    (case eBadText => k_is)
    (case oBadText => kernel_rfl!)
    (case tBadLog => kernel_rfl!)
    (case pBadLog => k_is)
    (case tBadStanding => kernel_rfl!)
    (case pBadStanding => k_is)
    (case tNoBreak => kernel_rfl!)
    (case pNoBreak => k_is)
    (case tNotHeld => kernel_rfl!)
    (case pNotHeld => k_is)
    (case tBadOutcome => kernel_rfl!)
    (case pBadOutcome => k_is)
    (case tNothingDone => kernel_rfl!)
    (case pNothingDone => k_is)
    (case tDealError => kernel_rfl!)
    (case pDealError => k_is)
    (case zabs => k_is)
    (case zint => k_is)
    (case zlen => k_is)
    (case zrange => k_is)
    (case zmin => k_is)
    (case zisinstance => k_is)
    (case zlist => k_is)
    (case ztuple => k_is)
    (case zdict => k_is)
    (case zrepr => k_is)
    (case zValueError => k_is)
    (case zenumerate => k_is)
    (case zsuper => k_is)
    (case hn => k_is)
    (case ht => k_is)
    (case hp => k_is)
    (case hs => kernel_rfl!)
    (case ecs => kernel_rfl!)
    (case ecd => kernel_rfl!)
    (case kits => kernel_rfl!)
    (case kitd => kernel_rfl!)
    (case ups => kernel_rfl!)
    (case kvd => kernel_rfl!)
