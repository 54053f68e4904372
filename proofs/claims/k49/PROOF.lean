import PyProof.Rows.All
import Wide.All
import OpenK.AllK
import Wide.FinOn
import HandS.ForSpec
import HandS.ForMost
import HandS.ExcInit
import HandS.IsInst
import HandS.Lambda
import HandS.MakeKw
import HandS.Defaults
import HandS.TupAny
import HandS.EndOwn
import HandS.Flow
import HandS.Codes
import HandS.Walk
import HandS.DictComp
import HandS.ExcIs
import HandS.ExcValue
import HandS.ExcField
import PyProof.ReprRoads
import KE.KExcSuper
import KE.KExcIs
import KE.GoesMore
import PySem.Challenge.RW_presumebooks_k49_costs_of_courses
import HandS.TupMul
import HandS.Base
import HandS.Call
import HandS.List
import HandS.Comp
import HandS.Dict
import HandS.Words
import HandS.Deep
import HandS.Star
import HandS.SortOrd
import HandS.SortRule
import KE.LtData
import KE.SortData
import HandS.Style
import HandS.Conv
import PyProof.Rows.RegFStrParts
set_option Elab.async false
set_option linter.all false
set_option maxRecDepth 100000
set_option maxHeartbeats 2000000
set_option synthInstance.maxHeartbeats 0
set_option synthInstance.maxSize 1000000
set_option maxRecDepth 100000
set_option maxHeartbeats 4000000
/-! tuple * 1: the tuple itself -/
namespace L2
open PySem PySem.Spec PyProof.Rows
theorem tuple_mul1 (l : Addr) (items : Array Value) (n : Nat) (dd : Option Addr) (sl : Array (Option Value)) (u : Tok) :
    Meets (Builtin.«tuple.__mul__» ⟨[.ref l, .int 1 u], []⟩) (fun _ R s => s.heap.get? l = some { cls := .type "tuple", dict := dd, data := .seq items n, slots := sl } ∧ R (.ok (.ret (Value.ref l))) s) :=
  .of_wp fun prog w A R s h => by
    obtain ⟨hp, g, d, tk, os⟩ := s
    obtain ⟨hl, h⟩ := h
    have f1 := AutoSeq1.idx_int
    have c1 : (items.isEmpty || (1 : Int) == 1) = true := by simp
    wp_walk using wpAny_loadPart' hl
    repeat (first
      | (refine wpAny_ite_false (decide_eq_false (by decide)) ?_; wp_walk using wpAny_loadPart' hl)
      | (refine wpAny_ite_true (decide_eq_true c1) ?_; wp_walk using wpAny_loadPart' hl))
    exact ⟨_, rfl, h⟩
def rRepT1 (K : PySem.W.Frag) : R2 := fun x y H Q => ∃ l xs, x = .ref l ∧ y = .int 1 ∧ SqT K H l xs ∧ Q (.ref l) H
theorem op_repT1 {X : Cx} : OpR X (binaryOp .Mult) (rRepT1 X.K) := by
  intro pins s σ H x y v u Q I rx ry h
  obtain ⟨l, xs, rfl, rfl, hT, q⟩ := h
  cases rx
  obtain ⟨t, rfl⟩ := ry
  obtain ⟨its, r, ⟨⟨cls, dd, data, sl⟩, ho, hc, n, hd⟩, hs⟩ := I.tuple hT
  simp only at hc hd
  subst hc hd
  exact wpAny_binaryOp_repeat_ref (T := "tuple") (U := "int") (by decide) ⟨_, ho, rfl⟩ (fun s' => typeIs_int s' 1 t) noFill_tuple_mul F.fills_int_mul F.slot_int_rmul repeat_tuple F.slot_int_index.lookup
    (call_meets F.slot_int_rmul (typeIs_int s 1 t) F.entry_int_rmul (F.args_int_rmul_2 _ _) (int_rmul_tuple 1 t l its.toArray n dd sl)
      ⟨ho, rfl, ⟨_, ho, rfl⟩, call_meets F.slot_tuple_mul ⟨_, ho, rfl⟩ F.entry_tuple_mul (F.args_tuple_mul_2 _ _) (tuple_mul1 l its.toArray n dd sl t) ⟨ho, ⟨.ref l, H, I, rfl, q⟩⟩⟩)
end L2

set_option maxRecDepth 100000
set_option maxHeartbeats 2000000
namespace Et
open PySem PySem.Spec PyProof.Rows L2
open AutoSeq1 (wpAny_loadPart')
/-! enumerate over a tuple; over a list or a tuple. -/
theorem meets_new (l : Addr) (items : Array Value) (n : Nat) (dct : Option Addr) (sl : Array (Option Value)) :
    Meets (Builtin.«enumerate.__new__» ⟨[.type "enumerate", .ref l], []⟩) (fun _ R s => s.heap.get? l = some { cls := .type "tuple", dict := dct, data := .seq items n, slots := sl } ∧
      R (.ok (.ret (.ref (s.heap.push { cls := .type "tuple_iterator", data := .fields #[.ref l, .int 0 0] }).objs.size)))
        { s with heap := (s.heap.push { cls := .type "tuple_iterator", data := .fields #[.ref l, .int 0 0] }).push { cls := .type "enumerate", data := .fields #[.none, .bool false, .ref s.heap.objs.size, rawInt 0, .none, .none] } }) :=
  .of_wp fun prog w A R s h => by
    obtain ⟨hp, g, d, tk, os⟩ := s
    obtain ⟨hl, h⟩ := h
    have sub := sub_enumerate
    have tup : Heap.IsTuple (Shared.heap ⟨hp, g, d, tk, os⟩) l items := ⟨_, hl, rfl, n, rfl⟩
    wp_walk using wpAny_loadPart' hl
    refine wpAny_stack_any fun st => wpAny_pure ?_
    split
    · rename_i c _ _ _ _ _
      cases (c == Value.type "enumerate")
      all_goals
        wp_walk using wpAny_loadPart' hl, wpAny_pyIter_tuple tup
        exact ⟨_, rfl, h⟩
    · wp_walk using wpAny_loadPart' hl, wpAny_pyIter_tuple tup
      exact ⟨_, rfl, h⟩
section
variable {prog : Program} {w : World} {A : Around} {E : Value → Shared → Prop} {s : Shared}
theorem call_enum {l : Addr} {items : Array Value} {Q : Value → Shared → Prop} (tup : s.heap.IsTuple l items)
    (h : ∀ h', IsEnum h' (s.heap.objs.size + 1) s.heap.objs.size 0 .none → h'.IsTupleIter s.heap.objs.size l 0 → (∀ b o, s.heap.get? b = some o → h'.get? b = some o) → Q (.ref (s.heap.objs.size + 1)) { s with heap := h' }) :
    wpAny (model prog w) A (call (.type "enumerate") [.ref l]) Q E s := by
  obtain ⟨⟨c, dct, dt, sl⟩, hl, hc, n, hd⟩ := tup
  dsimp only at hc hd
  subst hc hd
  refine callType_new F.called_enumerate (by decide) (F.typeCall_enumerate_1 _) (F.newCall_enumerate_1 _) (fun obj => F.args_object_init_2 obj _) F.entry_enumerate_new (meets_new l items n dct sl) ⟨hl, ?_⟩
  have size : (s.heap.push { cls := .type "tuple_iterator", data := .fields #[.ref l, .int 0 0] }).objs.size = s.heap.objs.size + 1 := Heap.size_push ..
  show _ ∧ _
  rw [size]
  have made : IsEnum ((s.heap.push { cls := .type "tuple_iterator", data := .fields #[.ref l, .int 0 0] }).push { cls := .type "enumerate", data := .fields #[.none, .bool false, .ref s.heap.objs.size, rawInt 0, .none, .none] }) (s.heap.objs.size + 1) s.heap.objs.size 0 .none := by
    have q := Heap.get?_push_size (s.heap.push { cls := .type "tuple_iterator", data := .fields #[.ref l, .int 0 0] }) (o := { cls := .type "enumerate", data := .fields #[.none, .bool false, .ref s.heap.objs.size, rawInt 0, .none, .none] }) rfl
    rw [size] at q
    exact q
  exact ⟨⟨_, made, rfl⟩, h _ made ⟨_, Heap.get?_push_of_some _ (Heap.get?_push_size _ rfl), rfl, rfl⟩ fun b o e => Heap.get?_push_of_some _ (Heap.get?_push_of_some _ e)⟩
end
/-- the tuple at a, each item in a new pair -/
def Iet (K : PySem.W.Frag) (a : Addr) : It where
  go := fun i H => ∃ (xs : List V) (x : V), SqT K H a xs ∧ xs[i]? = some x
  yld := fun i H v H' => ∃ T x, v = .ref T ∧ H T = none ∧ H' = upd H T (.tup [.int (i : Nat), x]) ∧ ∀ xs, SqT K H a xs → xs[i]? = some x
  stop := fun i H => ∃ xs : List V, SqT K H a xs ∧ xs.length = i
theorem turn {P : Program} {w : World} {K : PySem.W.Frag} {elts : List Expr} {kk : Nat} {tpos : Pos} (a e it : Addr) :
    Turn P w K (.Tuple elts kk tpos) (Iet K a) [e, it] e (fun i h => (∃ old, IsEnum h e it ((i : Nat) : Int) old) ∧ h.IsTupleIter it a i ∧ e ≠ it) where
  mem := by simp
  obj := fun i h st b hb => by
    obtain ⟨⟨old, he⟩, ⟨o, ho, hc, hd⟩, _⟩ := st
    rcases (show b = e ∨ b = it by simpa using hb) with rfl | rfl
    · exact ⟨_, he, fun v q => nomatch q⟩
    · exact ⟨o, ho, fun v q => by rw [hd] at q; cases q⟩
  keep := fun i h h' st k => by
    obtain ⟨⟨old, he⟩, hi, ne⟩ := st
    exact ⟨⟨old, k e (by simp) _ he⟩, hi.at fun o q => k it (by simp) o q, ne⟩
  item := by
    intro X hP hw hK hc i pins s σ H E I free st go
    subst hP hw hK
    obtain ⟨⟨old, he⟩, hit, ne⟩ := st
    obtain ⟨xs, x, sq, hx⟩ := go
    obtain ⟨its, rv, tup, _⟩ := I.tuple sq
    obtain ⟨u, hu, ru⟩ := rv.get hx
    have le : e < s.heap.objs.size := Heap.lt_size he
    have li : it < s.heap.objs.size := by
      obtain ⟨_, q, _⟩ := hit
      exact Heap.lt_size q
    have ai : a ≠ it := fun q => by
      obtain ⟨o, ho, c1, _⟩ := tup
      obtain ⟨o', ho', c2, _⟩ := hit
      rw [q, ho'] at ho
      cases ho
      rw [c1] at c2
      simp at c2
    have ae : e ≠ a := fun q => by
      obtain ⟨o, ho, c1, _⟩ := tup
      rw [← q, he] at ho
      cases ho
      simp at c1
    have D := Draws.tuple (prog := X.prog) (w := X.w) (A := X.A.in1) (I.ok.hd hc) it a ai its.toArray
    have iu : i < its.toArray.size := by
      have q := (List.getElem?_eq_some_iff.mp hu).1
      simpa using q
    refine wpAny_pyNext_enum_itemD D he ⟨hit, tup⟩ iu ne (by simp [ne, ae]) fun y h' tk hy out st' hT _ hk => ?_
    have yu : y = u := by
      have q : its.toArray[i]? = some u := by simpa using hu
      exact Option.some.inj (hy.symm.trans q)
    subst yu
    refine ⟨_, rfl, wpAny_letOwnedTupleGo_enum (s := { s with heap := h', toks := tk + 1 }) out fun h'' he' sb => ?_⟩
    have hT2 : h''.get? s.heap.objs.size = some { cls := .type "tuple", data := .seq #[.int i tk, y] } := (sb.2 _ (Nat.ne_of_gt le)).trans hT
    have new : ObjOk X.prog X.w (upd H s.heap.objs.size (.tup [.int (i : Nat), x])) h'' s.heap.objs.size (.tup [.int (i : Nat), x]) :=
      ⟨by show 2 ≤ sizeLine; decide, [.int i tk, y], .cons ⟨_, rfl⟩ (.cons ru .nil), ⟨_, hT2, rfl, _, rfl⟩⟩
    have J : Inv X pins σ (upd H s.heap.objs.size (.tup [.int (i : Nat), x])) { s with heap := h'', toks := tk + 1 } :=
      I.turnedNew (ch := [e, it]) (fun b ob hb q => (sb.2 b (fun z => hb (by simp [z]))).trans (hk b ob (fun z => hb (by simp [z])) (fun z => hb (by simp [z])) q)) free (Nat.le_refl _) new
    refine ⟨.ref s.heap.objs.size, _, J, rfl, ⟨_, x, rfl, I.hok.fresh (Nat.le_refl _), rfl, fun ys hy' => by rw [I.tuple_inj hy' sq]; exact hx⟩, ⟨⟨y, ?_⟩, st'.1.at fun o q => (sb.2 it (Ne.symm ne)).trans q, ne⟩, fun b hb => ?_⟩
    · rw [show ((i + 1 : Nat) : Int) = (i : Int) + 1 by omega]
      exact he'
    · have below : b < s.heap.objs.size := by
        rcases (show b = e ∨ b = it by simpa using hb) with rfl | rfl
        · exact le
        · exact li
      rw [upd_ne (Nat.ne_of_lt below)]
      exact (free b hb).1
  done := by
    intro X hP hw hK hc i pins s σ H E I free st go
    subst hP hw hK
    obtain ⟨⟨old, he⟩, hit, ne⟩ := st
    obtain ⟨xs, sq, hx⟩ := go
    obtain ⟨its, rv, tup, _⟩ := I.tuple sq
    obtain ⟨f0, f1, f2, f3, f4, f5⟩ := free it (by simp)
    have ai : a ≠ it := fun q => by
      obtain ⟨o, ho, c1, _⟩ := tup
      obtain ⟨o', ho', c2, _⟩ := hit
      rw [q, ho'] at ho
      cases ho
      rw [c1] at c2
      simp at c2
    have D := Draws.tuple (prog := X.prog) (w := X.w) (A := X.A.in1) (I.ok.hd hc) it a ai its.toArray
    have size : its.toArray.size = i := by
      rw [List.size_toArray, ← rv.length]
      exact hx
    exact wpAny_pyNext_enum_endD D he (by rw [size]; exact ⟨hit, tup⟩) fun h' eb => ⟨rfl, I.turned (t' := s.toks) (fun b o hb q => eb b o hb q) f0 f1 f3 f4 f5⟩
  self := fun A i s Q E st h => by
    obtain ⟨⟨_, he⟩, _⟩ := st
    exact wpAny_pyIter_enum he h
/-- over what is a list or a tuple -/
def iEnumS (K : PySem.W.Frag) (ta : TA) : TI := fun σ H R => ta σ H fun vs H1 => ∃ a xs, vs = [.ref a] ∧ ((SqL K H1 a xs ∧ R (Ite K a) H1) ∨ (SqT K H1 a xs ∧ R (Iet K a) H1))
theorem pi_enumS {X : Cx} {e : Expr} {ta : TA} {p pos tpos : Pos} {elts : List Expr} {kk : Nat} (hg : Gl X "enumerate") (hm : X.mg "enumerate" = none) (ha : PA X [e] ta) (hs : starEach [e] X.env = [(false, eval e X.env)] := by rfl) :
    PI X (.Tuple elts kk tpos) (.Call (.Name "enumerate" p) [e] [] pos) (iEnumS X.K ta) := by
  constructor
  intro pins s σ H R I h
  refine Call_ (ld_blt I hg hm boot_enumerate (PyProof.Rows.callWith_type1 (thn (ha.run pos pins s σ H _ I h) fun us s1 ⟨vs, H1, I1, r1, q1⟩ => ?_) hs rfl))
  obtain ⟨a, xs, ex, q1⟩ := q1
  subst ex
  cases r1 with
  | cons r rr =>
    cases rr
    cases r
    have fresh : ∀ b ∈ [s1.heap.objs.size + 1, s1.heap.objs.size], FpOk X pins H1 b := fun b hb => by
      have le : s1.heap.objs.size ≤ b := by
        rcases (show b = s1.heap.objs.size + 1 ∨ b = s1.heap.objs.size by simpa using hb) with rfl | rfl <;> omega
      exact I1.fpOk le (I1.hok.fresh le)
    rcases q1 with ⟨sq, q⟩ | ⟨sq, q⟩
    · obtain ⟨its, rv, pl, _⟩ := I1.list sq
      refine call_enumerate_list pl.isList fun h' he hit _ hk => wpAny_pyIter_enum he ?_
      exact ⟨s1.heap.objs.size + 1, [s1.heap.objs.size + 1, s1.heap.objs.size], _, _, H1, rfl, I1.kept (t' := s1.toks) hk, turn_enum a _ _, ⟨⟨.none, he⟩, hit, Nat.succ_ne_self _⟩, fresh, q⟩
    · obtain ⟨its, rv, tup, _⟩ := I1.tuple sq
      refine call_enum tup fun h' he hit hk => wpAny_pyIter_enum he ?_
      exact ⟨s1.heap.objs.size + 1, [s1.heap.objs.size + 1, s1.heap.objs.size], _, _, H1, rfl, I1.kept (t' := s1.toks) hk, turn a _ _, ⟨⟨.none, he⟩, hit, Nat.succ_ne_self _⟩, fresh, q⟩
theorem walk_enumT {K : PySem.W.Frag} {a : Addr} {xs : List V} : Walk (Iet K a) xs.length (fun H => SqT K H a xs) (YPair (fun i => some (.int (i : Nat))) (fun i => xs[i]?)) := by
  refine ⟨fun i _ hi q => ⟨xs, xs[i], q, by simp [hi]⟩, fun _ q => ⟨xs, q, rfl⟩, fun i H v H' _ q y => ?_⟩
  obtain ⟨T, x, h1, h2, h3, h4⟩ := y
  exact ⟨T, .int (i : Nat), x, h1, h2, h3, rfl, h4 xs q⟩
end Et

set_option maxRecDepth 100000
set_option maxHeartbeats 2000000
namespace DL
open PySem PySem.Spec PyProof.Rows L2

/-! ### what a value means, in a heap -/
/-- a key as a datum -/
def keyD : Key → PyData
  | .inl i => .int i
  | .inr x => .str x
mutual
inductive Rp (K : PySem.W.Frag) (H : Hp) : V → PyData → Prop
  | non : Rp K H .non .none
  | bl (b : Bool) : Rp K H (.bl b) (.bool b)
  | int (i : Int) : Rp K H (.int i) (.int i)
  | str (x : Str) : Rp K H (.str x) (.str x)
  | lst {a : Addr} {xs : List V} {ds : List PyData} : H a = some (.lst xs) → RpAll K H xs ds → Rp K H (.ref a) (.list ds)
  | tup {a : Addr} {xs : List V} {ds : List PyData} : SqT K H a xs → RpAll K H xs ds → Rp K H (.ref a) (.tuple ds)
  | dct {a : Addr} {kvs : List (Key × V)} {ds : List PyData} : H a = some (.dK kvs) → RpAll K H (kvs.map (·.2)) ds → Rp K H (.ref a) (.dict ((kvs.map fun p => keyD p.1).zip ds))
inductive RpAll (K : PySem.W.Frag) (H : Hp) : List V → List PyData → Prop
  | nil : RpAll K H [] []
  | cons {v : V} {vs : List V} {d : PyData} {ds : List PyData} : Rp K H v d → RpAll K H vs ds → RpAll K H (v :: vs) (d :: ds)
end
theorem sameT {K : PySem.W.Frag} {H H' : Hp} {a : Addr} {xs : List V} (e : Same H H') (h : SqT K H a xs) : SqT K H' a xs := by
  rcases h with (h | ⟨o, h⟩) | h
  · exact .inl (.inl (e _ _ h))
  · exact .inl (.inr ⟨o, e _ _ h⟩)
  · exact .inr h
theorem sameRd {H H' : Hp} {a : Addr} {u : HO} (e : Same H H') (h : Rd H a u) : Rd H' a u := by
  rcases h with h | ⟨o, h⟩
  · exact .inl (e _ _ h)
  · exact .inr ⟨o, e _ _ h⟩
mutual
theorem Rp.same {K : PySem.W.Frag} {H H' : Hp} (e : Same H H') : ∀ {v : V} {d : PyData}, Rp K H v d → Rp K H' v d
  | _, _, .non => .non
  | _, _, .bl b => .bl b
  | _, _, .int i => .int i
  | _, _, .str x => .str x
  | _, _, .lst s r => .lst (e _ _ s) (r.same e)
  | _, _, .tup s r => .tup (sameT e s) (r.same e)
  | _, _, .dct s r => .dct (e _ _ s) (r.same e)
theorem RpAll.same {K : PySem.W.Frag} {H H' : Hp} (e : Same H H') : ∀ {vs : List V} {ds : List PyData}, RpAll K H vs ds → RpAll K H' vs ds
  | _, _, .nil => .nil
  | _, _, .cons a b => .cons (a.same e) (b.same e)
end
theorem RpAll.length {K : PySem.W.Frag} {H : Hp} : ∀ {vs : List V} {ds : List PyData}, RpAll K H vs ds → vs.length = ds.length
  | _, _, .nil => rfl
  | _, _, .cons _ b => by rw [List.length_cons, List.length_cons, b.length]
theorem RpAll.append {K : PySem.W.Frag} {H : Hp} : ∀ {vs ws : List V} {ds es : List PyData}, RpAll K H vs ds → RpAll K H ws es → RpAll K H (vs ++ ws) (ds ++ es)
  | _, _, _, _, .nil, q => q
  | _, _, _, _, .cons a b, q => .cons a (b.append q)
theorem RpAll.take {K : PySem.W.Frag} {H : Hp} : ∀ {vs : List V} {ds : List PyData} (n : Nat), RpAll K H vs ds → RpAll K H (vs.take n) (ds.take n)
  | _, _, 0, _ => .nil
  | _, _, _ + 1, .nil => .nil
  | _, _, n + 1, .cons a b => .cons a (b.take n)
theorem RpAll.drop {K : PySem.W.Frag} {H : Hp} : ∀ {vs : List V} {ds : List PyData} (n : Nat), RpAll K H vs ds → RpAll K H (vs.drop n) (ds.drop n)
  | _, _, 0, r => r
  | _, _, _ + 1, .nil => .nil
  | _, _, n + 1, .cons _ b => b.drop n
theorem RpAll.get {K : PySem.W.Frag} {H : Hp} : ∀ {vs : List V} {ds : List PyData} {i : Nat} {v : V}, RpAll K H vs ds → vs[i]? = some v → ∃ d, ds[i]? = some d ∧ Rp K H v d
  | _, _, _, _, .nil, e => by simp at e
  | _, _, 0, _, .cons a _, e => by simp at e; subst e; exact ⟨_, rfl, a⟩
  | _, _, i + 1, v, .cons _ b, e => by
    obtain ⟨d, h1, h2⟩ := b.get (i := i) (v := v) (by simpa using e)
    exact ⟨d, by simpa using h1, h2⟩
theorem RpAll.getD {K : PySem.W.Frag} {H : Hp} : ∀ {vs : List V} {ds : List PyData} {i : Nat} {d : PyData}, RpAll K H vs ds → ds[i]? = some d → ∃ v, vs[i]? = some v ∧ Rp K H v d
  | _, _, _, _, .nil, e => by simp at e
  | _, _, 0, _, .cons a _, e => by simp at e; subst e; exact ⟨_, rfl, a⟩
  | _, _, i + 1, d, .cons _ b, e => by
    obtain ⟨v, h1, h2⟩ := b.getD (i := i) (d := d) (by simpa using e)
    exact ⟨v, by simpa using h1, h2⟩
/-! data that == can be asked of -/
mutual
theorem Rp.dp {K : PySem.W.Frag} {H : Hp} : ∀ {v : V} {d : PyData}, Rp K H v d → d.canLay0 = true → Dp K H v d
  | _, _, .non, _ => .non
  | _, _, .bl b, _ => .bl b
  | _, _, .int i, _ => .int i
  | _, _, .str x, _ => .str x
  | _, _, .lst s r, h => .lst (SqL.of s) (r.dp (by simpa [PyData.canLay0] using h))
  | _, _, .tup s r, h => .tup s (r.dp (by simpa [PyData.canLay0] using h))
  | _, _, .dct s r, h => by simp [PyData.canLay0] at h
theorem RpAll.dp {K : PySem.W.Frag} {H : Hp} : ∀ {vs : List V} {ds : List PyData}, RpAll K H vs ds → PyData.canLayAll0 ds = true → DpAll K H vs ds
  | _, _, .nil, _ => .nil
  | _, _, .cons a b, h => by
    have h' := h
    rw [PyData.canLayAll0, Bool.and_eq_true] at h'
    exact .cons (a.dp h'.1) (b.dp h'.2)
end
theorem Rp.dpS {K : PySem.W.Frag} {H : Hp} {v : V} {d : PyData} (r : Rp K H v d) (h : SeqAt.shaped d = true) : Dp K H v d := r.dp (SeqAt.canLay_of_shaped h)

/-! ### entities: what a name holds -/
inductive Ent where
  /-- a datum that nobody changes here -/
  | im (d : PyData)
  /-- a list of one's own (as a result: a new one) -/
  | ow (ds : List PyData)
  /-- one's own list at a slot, read -/
  | br (i : Nat) (ds : List PyData)
  /-- an object of the kind t -/
  | ob (t : Nat) (d : PyData)
  /-- the draw -/
  | dr
structure S where
  env : List (Option Ent)
  n : Nat
/-- what may be hidden: lists, the draw's dict, a dict in the making -/
def Hk (o : HO) : Prop := (∃ xs, o = .lst xs) ∨ (∃ r kvs, o = .dK ((Sum.inr "wide", r) :: kvs)) ∨ o = .dK []
/-- what stands at a is of this kind -/
def HkAt (H : Hp) (a : Addr) : Prop := ∃ o, H a = some o ∧ Hk o
theorem HkAt.some {H : Hp} {a : Addr} (h : HkAt H a) : (H a).isSome = true := by
  obtain ⟨o, e, _⟩ := h
  rw [e]
  rfl
/-- what the objects are, and the draw -/
structure Lay where
  Ob : PySem.W.Frag → Nat → PyData → V → Hp → Prop
  mono : ∀ {K : PySem.W.Frag} {t : Nat} {d : PyData} {v : V} {H H' : Hp}, Same H H' → Ob K t d v H → Ob K t d v H'
  Stk : Addr × Addr × Addr → Nat → Hp → Prop
  keep : ∀ {z : Addr × Addr × Addr} {n : Nat} {H H' : Hp}, Stk z n H → (∀ b o, (b = z.1 ∨ b = z.2.1 ∨ b = z.2.2) → H b = some o → H' b = some o) → Stk z n H'
  there : ∀ {z : Addr × Addr × Addr} {n : Nat} {H : Hp}, Stk z n H → ∀ b, (b = z.1 ∨ b = z.2.1 ∨ b = z.2.2) → HkAt H b
abbrev Zt := Option (Addr × Addr × Addr)
def zin (Z : Zt) (a : Addr) : Prop := ∃ z, Z = some z ∧ (a = z.1 ∨ a = z.2.1 ∨ a = z.2.2)
/-- the heap without what is hidden -/
def vis (hd : Addr → Bool) (O : List Addr) (H : Hp) : Hp := fun a => if hd a = true ∨ a ∈ O then none else H a
theorem vis_some {hd : Addr → Bool} {O : List Addr} {H : Hp} {a : Addr} {o : HO} : vis hd O H a = some o ↔ hd a = false ∧ a ∉ O ∧ H a = some o := by
  unfold vis
  by_cases h : hd a = true ∨ a ∈ O
  · rw [if_pos h]
    constructor
    · intro e; cases e
    · rintro ⟨h1, h2, _⟩
      rcases h with h | h
      · rw [h1] at h; cases h
      · exact absurd h h2
  · rw [if_neg h]
    constructor
    · intro e
      exact ⟨by cases q : hd a with | true => exact absurd (.inl q) h | false => rfl, fun q => h (.inr q), e⟩
    · exact fun e => e.2.2
theorem vis_le {hd : Addr → Bool} {O : List Addr} {H : Hp} : Same (vis hd O H) H := fun a o e => (vis_some.mp e).2.2
/-- all but the draw stands -/
def Frm (Z : Zt) (H H' : Hp) : Prop := ∀ b o, ¬ zin Z b → H b = some o → H' b = some o
theorem Frm.refl {Z : Zt} (H : Hp) : Frm Z H H := fun _ _ _ e => e
theorem Frm.trans {Z : Zt} {H H1 H2 : Hp} (a : Frm Z H H1) (b : Frm Z H1 H2) : Frm Z H H2 := fun c o n e => b c o n (a c o n e)
theorem Frm.of {Z : Zt} {H H' : Hp} (s : Same H H') : Frm Z H H' := fun b o _ e => s b o e

section
variable (L : Lay) (K : PySem.W.Frag) (hd : Addr → Bool) (Z : Zt)
/-- what a slot holds -/
def Sl (O : List Addr) (H : Hp) (v : V) : Ent → Prop
  | .im d => Rp K (vis hd O H) v d
  | .ow ds => ∃ p vs, v = .ref p ∧ p ∈ O ∧ H p = some (.lst vs) ∧ RpAll K (vis hd O H) vs ds
  | .br _ _ => False
  | .ob t d => L.Ob K t d v (vis hd O H)
  | .dr => ∃ z, Z = some z ∧ v = .ref z.1
/-- the state -/
structure Ok (B : Hp) (O : List Addr) (σ : L2.St) (H : Hp) (s : S) : Prop where
  stood : ∀ b o, B b = some o → H b = some o
  offO : ∀ a ∈ O, B a = none ∧ hd a = false ∧ ∃ xs, H a = some (.lst xs)
  offZ : ∀ a, zin Z a → B a = none ∧ hd a = true
  liveB : ∀ a, hd a = true → HkAt B a ∨ zin Z a
  stk : ∀ z, Z = some z → L.Stk z s.n H
  slot : ∀ (i : Nat) (e : Ent), s.env[i]? = some (some e) → ∃ v : V, σ[i]? = some (some v) ∧ Sl L K hd Z O H v e
  apart : ∀ (i j : Nat) (ds es : List PyData) (p : Addr), s.env[i]? = some (some (.ow ds)) → s.env[j]? = some (some (.ow es)) → σ[i]? = some (some (.ref p)) → σ[j]? = some (some (.ref p)) → i = j
  len : s.env.length = σ.length
/-- what an expression gives, begun at H, ended at H' -/
def Rs (O : List Addr) (σ : L2.St) (H H' : Hp) (v : V) : Ent → Prop
  | .im d => Rp K (vis hd O H') v d
  | .ow ds => ∃ p vs, v = .ref p ∧ H p = none ∧ hd p = false ∧ p ∉ O ∧ H' p = some (.lst vs) ∧ RpAll K (vis hd (p :: O) H') vs ds
  | .br i ds => ∃ p vs, v = .ref p ∧ σ[i]? = some (some (.ref p)) ∧ p ∈ O ∧ H' p = some (.lst vs) ∧ RpAll K (vis hd O H') vs ds
  | .ob t d => L.Ob K t d v (vis hd O H')
  | .dr => ∃ z, Z = some z ∧ v = .ref z.1
end
section
variable {L : Lay} {K : PySem.W.Frag} {hd : Addr → Bool} {Z : Zt} {B : Hp} {O : List Addr} {σ : L2.St} {H H' H'' : Hp} {s : S} {v : V} {r : Ent}
theorem Ok.live (k : Ok L K hd Z B O σ H s) {a : Addr} (h : hd a = true) : HkAt H a := by
  rcases k.liveB a h with q | ⟨z, rfl, q⟩
  · obtain ⟨o, e, r⟩ := q
    exact ⟨o, k.stood a o e, r⟩
  · exact L.there (k.stk z rfl) a q
theorem Ok.fresh (k : Ok L K hd Z B O σ H s) {p : Addr} (h : H p = none) : hd p = false ∧ p ∉ O ∧ ¬ zin Z p := by
  refine ⟨?_, fun q => ?_, fun q => ?_⟩
  · cases e : hd p with
    | false => rfl
    | true => have := (k.live e).some; rw [h] at this; cases this
  · obtain ⟨xs, z⟩ := (k.offO p q).2.2; rw [h] at z; cases z
  · have := (k.live (k.offZ p q).2).some; rw [h] at this; cases this
/-- what is of another kind is seen -/
theorem Ok.seen (k : Ok L K hd Z B O σ H s) {a : Addr} {o : HO} (e : H a = some o) (n : ¬ Hk o) : vis hd O H a = some o := by
  refine vis_some.mpr ⟨?_, fun q => ?_, e⟩
  · cases z : hd a with
    | false => rfl
    | true =>
      obtain ⟨o', e', h'⟩ := k.live z
      rw [e] at e'
      cases e'
      exact absurd h' n
  · obtain ⟨xs, e'⟩ := (k.offO a q).2.2
    rw [e] at e'
    cases e'
    exact absurd (.inl ⟨xs, rfl⟩) n
theorem vis_frm (k : Ok L K hd Z B O σ H s) (f : Frm Z H H') : Same (vis hd O H) (vis hd O H') := fun a o e => by
  obtain ⟨h1, h2, h3⟩ := vis_some.mp e
  refine vis_some.mpr ⟨h1, h2, f a o (fun q => ?_) h3⟩
  rw [(k.offZ a q).2] at h1; cases h1
theorem vis_frmX (k : Ok L K hd Z B O σ H s) {O' : List Addr} (f : Frm Z H' H'') : Same (vis hd O' H') (vis hd O' H'') := fun a o e => by
  obtain ⟨h1, h2, h3⟩ := vis_some.mp e
  refine vis_some.mpr ⟨h1, h2, f a o (fun q => ?_) h3⟩
  rw [(k.offZ a q).2] at h1; cases h1
/-- all but the draw stands, and the draw is a draw again -/
theorem Ok.step (k : Ok L K hd Z B O σ H s) {m : Nat} (f : Frm Z H H') (st : ∀ z, Z = some z → L.Stk z m H') : Ok L K hd Z B O σ H' { s with n := m } := by
  refine ⟨fun b o e => f b o (fun q => ?_) (k.stood b o e), fun a h => ?_, k.offZ, k.liveB, st, fun i e h => ?_, k.apart, k.len⟩
  · rw [(k.offZ b q).1] at e; cases e
  · obtain ⟨h1, h2, h3⟩ := k.offO a h
    obtain ⟨xs, e⟩ := h3
    exact ⟨h1, h2, xs, f a _ (fun q => by rw [(k.offZ a q).2] at h2; cases h2) e⟩
  · obtain ⟨v, h1, h2⟩ := k.slot i e h
    refine ⟨v, h1, ?_⟩
    cases e with
    | im d => exact Rp.same (vis_frm k f) h2
    | ow ds =>
      obtain ⟨p, vs, e1, e2, e3, e4⟩ := h2
      exact ⟨p, vs, e1, e2, f p _ (fun q => by have := (k.offO p e2).2.1; rw [(k.offZ p q).2] at this; cases this) e3, e4.same (vis_frm k f)⟩
    | br _ _ => exact h2
    | ob t d => exact L.mono (vis_frm k f) h2
    | dr => exact h2
theorem Ok.same (k : Ok L K hd Z B O σ H s) (f : Same H H') : Ok L K hd Z B O σ H' s := k.step (m := s.n) (Frm.of f) fun z e => L.keep (k.stk z e) fun b o _ q => f b o q
/-- what was told of a result stays -/
theorem Rs.stepF (k : Ok L K hd Z B O σ H s) {H1 : Hp} (f : Frm Z H' H'') (h : Rs L K hd Z O σ H1 H' v r) : Rs L K hd Z O σ H1 H'' v r := by
  cases r with
  | im d => exact Rp.same (vis_frmX k f) h
  | ow ds =>
    obtain ⟨p, vs, e1, e2, e3, e4, e5, e6⟩ := h
    exact ⟨p, vs, e1, e2, e3, e4, f p _ (fun q => by rw [(k.offZ p q).2] at e3; cases e3) e5, e6.same (vis_frmX k f)⟩
  | br i ds =>
    obtain ⟨p, vs, e1, e2, e3, e4, e5⟩ := h
    refine ⟨p, vs, e1, e2, e3, f p _ (fun q => ?_) e4, e5.same (vis_frmX k f)⟩
    have := (k.offO p e3).2.1
    rw [(k.offZ p q).2] at this; cases this
  | ob t d => exact L.mono (vis_frmX k f) h
  | dr => exact h
/-- .. begun earlier -/
theorem Rs.backF {H1 : Hp} (k : Ok L K hd Z B O σ H1 s) (f : Frm Z H1 H) (h : Rs L K hd Z O σ H H' v r) : Rs L K hd Z O σ H1 H' v r := by
  cases r with
  | ow ds =>
    obtain ⟨p, vs, e1, e2, e3, e4, e5, e6⟩ := h
    refine ⟨p, vs, e1, ?_, e3, e4, e5, e6⟩
    cases q : H1 p with
    | none => rfl
    | some o =>
      rw [f p o (fun z => by rw [(k.offZ p z).2] at e3; cases e3) q] at e2; cases e2
  | im d => exact h
  | br i ds => exact h
  | ob t d => exact h
  | dr => exact h
/-- from a state to a later one within an expression: all but the draw stands, no name is changed -/
structure Mv (Z : Zt) (H H' : Hp) (s s' : S) : Prop where
  fr : Frm Z H H'
  env : s'.env = s.env
theorem Mv.refl {Z : Zt} {H : Hp} {s : S} : Mv Z H H s s := ⟨Frm.refl H, rfl⟩
theorem Mv.trans {Z : Zt} {H H1 H2 : Hp} {s s1 s2 : S} (a : Mv Z H H1 s s1) (b : Mv Z H1 H2 s1 s2) : Mv Z H H2 s s2 := ⟨a.fr.trans b.fr, b.env.trans a.env⟩
theorem Mv.of {Z : Zt} {H H' : Hp} {s : S} (h : Same H H') : Mv Z H H' s s := ⟨Frm.of h, rfl⟩
theorem Rs.step (k : Ok L K hd Z B O σ H s) {H1 : Hp} {s1 s2 : S} (f : Mv Z H' H'' s1 s2) (h : Rs L K hd Z O σ H1 H' v r) : Rs L K hd Z O σ H1 H'' v r := Rs.stepF k f.fr h
theorem Rs.back {H1 : Hp} {s1 s2 : S} (k : Ok L K hd Z B O σ H1 s) (f : Mv Z H1 H s1 s2) (h : Rs L K hd Z O σ H H' v r) : Rs L K hd Z O σ H1 H' v r := Rs.backF k f.fr h
/-- a result as a datum -/
def Ent.dat : Ent → Option PyData
  | .im d => some d
  | .ow ds => some (.list ds)
  | .br _ ds => some (.list ds)
  | _ => none
/-- .. in the whole heap -/
theorem Rs.data {d : PyData} (h : Rs L K hd Z O σ H H' v r) (e : r.dat = some d) : Rp K H' v d := by
  cases r with
  | im d' => cases e; exact Rp.same vis_le h
  | ow ds =>
    cases e
    obtain ⟨p, vs, rfl, _, _, _, e5, e6⟩ := h
    exact .lst e5 (e6.same vis_le)
  | br i ds =>
    cases e
    obtain ⟨p, vs, rfl, _, _, e4, e5⟩ := h
    exact .lst e4 (e5.same vis_le)
  | ob t d => cases e
  | dr => cases e
/-- a datum that is kept: no list of one's own -/
def Ent.kept : Ent → Option PyData
  | .im d => some d
  | .ow ds => some (.list ds)
  | _ => none
theorem vis_more {p : Addr} : Same (vis hd (p :: O) H) (vis hd O H) := fun a o e => by
  obtain ⟨h1, h2, h3⟩ := vis_some.mp e
  exact vis_some.mpr ⟨h1, fun q => h2 (List.mem_cons_of_mem _ q), h3⟩
theorem Rs.keeps {d : PyData} (h : Rs L K hd Z O σ H H' v r) (e : r.kept = some d) : Rp K (vis hd O H') v d := by
  cases r with
  | im d' => cases e; exact h
  | ow ds =>
    cases e
    obtain ⟨p, vs, rfl, _, e3, e4, e5, e6⟩ := h
    exact .lst (vis_some.mpr ⟨e3, e4, e5⟩) (e6.same vis_more)
  | br i ds => cases e
  | ob t d => cases e
  | dr => cases e
end

/-! ### judgements -/
/-- the weakest reading of an expression, of a test, of a statement -/
def tW (X : Cx) (e : Expr) : TE := fun σ H Q => ∀ pins sh, Inv X pins σ H sh → wpAny (model X.prog X.w) X.A (eval e X.env) (EP X pins σ Q) X.xe sh
theorem peW {X : Cx} {e : Expr} : PE X e (tW X e) := ⟨fun pins sh σ H Q I h => h pins sh I⟩
theorem tW_of {X : Cx} {e : Expr} {t : TE} {σ : L2.St} {H : Hp} {Q : VK} (h : PE X e t) (q : t σ H Q) : tW X e σ H Q := fun pins sh I => h.run pins sh σ H Q I q
def ttW (X : Cx) (e : Expr) : TT := fun σ H Q => ∀ pins sh, Inv X pins σ H sh → wpAny (model X.prog X.w) X.A (isTrue e X.env (eval e X.env)) (TP X pins σ Q) X.xe sh
theorem ptW {X : Cx} {e : Expr} : PT X e (ttW X e) := ⟨fun pins sh σ H Q I h => h pins sh I⟩
theorem ttW_of {X : Cx} {e : Expr} {t : TT} {σ : L2.St} {H : Hp} {Q : Bool → Hp → Prop} (h : PT X e t) (q : t σ H Q) : ttW X e σ H Q := fun pins sh I => h.run pins sh σ H Q I q
def tsW (X : Cx) (st : Stmt) : TS := fun D σ H => ∀ pins sh, Inv X pins σ H sh → wpAny (model X.prog X.w) X.A (exec st X.env) (SP X pins D) X.xe sh
theorem psW {X : Cx} {st : Stmt} : PS X st (tsW X st) := ⟨fun pins sh σ H D I h => h pins sh I⟩
theorem tsW_of {X : Cx} {st : Stmt} {t : TS} {σ : L2.St} {H : Hp} {D : Ends} (h : PS X st t) (q : t D σ H) : tsW X st D σ H := fun pins sh I => h.run pins sh σ H D I q
def tssW (X : Cx) (st : List Stmt) : TS := fun D σ H => ∀ pins sh, Inv X pins σ H sh → wpAny (model X.prog X.w) X.A (execs st X.env) (SP X pins D) X.xe sh
theorem pssW {X : Cx} {st : List Stmt} : PSs X st (tssW X st) := ⟨fun pins sh σ H D I h => h pins sh I⟩
theorem tssW_of {X : Cx} {st : List Stmt} {t : TS} {σ : L2.St} {H : Hp} {D : Ends} (h : PSs X st t) (q : t D σ H) : tssW X st D σ H := fun pins sh I => h.run pins sh σ H D I q
theorem tW.mono {X : Cx} {e : Expr} {σ : L2.St} {H : Hp} {Q Q' : VK} (h : tW X e σ H Q) (k : ∀ v H', Q v H' → Q' v H') : tW X e σ H Q' := fun pins sh I =>
  wpAny_mono (h pins sh I) (fun _ _ ⟨v, H', I', r, q⟩ => ⟨v, H', I', r, k v H' q⟩) fun _ _ z => z

abbrev FE := S → (Ent → S → Prop) → Prop
abbrev FT := S → (Bool → S → Prop) → Prop
abbrev FA := S → (List Ent → S → Prop) → Prop
structure EE where
  nx : S → Prop
  rt : Ent → Nat → Prop
  bk : S → Prop := fun _ => False
  ct : S → Prop := fun _ => False
abbrev FS := EE → S → Prop
structure XE (L : Lay) (X : Cx) (e : Expr) (f : FE) : Prop where
  mono : ∀ s Q Q', (∀ r s', Q r s' → Q' r s') → f s Q → f s Q'
  run : ∀ hd Z B O σ H s Q, Ok L X.K hd Z B O σ H s → f s (fun r s' => ∀ v H', Ok L X.K hd Z B O σ H' s' → Mv Z H H' s s' → Rs L X.K hd Z O σ H H' v r → Q v H') → tW X e σ H Q
structure XT (L : Lay) (X : Cx) (e : Expr) (f : FT) : Prop where
  mono : ∀ s Q Q', (∀ r s', Q r s' → Q' r s') → f s Q → f s Q'
  run : ∀ hd Z B O σ H s Q, Ok L X.K hd Z B O σ H s → f s (fun b s' => ∀ H', Ok L X.K hd Z B O σ H' s' → Mv Z H H' s s' → Q b H') → ttW X e σ H Q
/-- the results of an argument list -/
inductive RsAll (L : Lay) (K : PySem.W.Frag) (hd : Addr → Bool) (Z : Zt) (O : List Addr) (σ : L2.St) (H H' : Hp) : List V → List Ent → Prop
  | nil : RsAll L K hd Z O σ H H' [] []
  | cons {v : V} {vs : List V} {r : Ent} {rs : List Ent} : Rs L K hd Z O σ H H' v r → RsAll L K hd Z O σ H H' vs rs → RsAll L K hd Z O σ H H' (v :: vs) (r :: rs)
def taW (X : Cx) (es : List Expr) : TA := fun σ H Q => ∀ pos pins sh, Inv X pins σ H sh → wpAny (model X.prog X.w) X.A (spliced (backTo pos (starEach es X.env))) (AP X pins σ Q) X.xe sh
theorem paW {X : Cx} {es : List Expr} : PA X es (taW X es) := ⟨fun pos pins sh σ H Q I h => h pos pins sh I⟩
theorem taW_of {X : Cx} {es : List Expr} {t : TA} {σ : L2.St} {H : Hp} {Q : List V → Hp → Prop} (h : PA X es t) (q : t σ H Q) : taW X es σ H Q := fun pos pins sh I => h.run pos pins sh σ H Q I q
structure XA (L : Lay) (X : Cx) (es : List Expr) (m : Nat) (f : FA) : Prop where
  bnd : ∀ s Q, f s Q → f s fun rs s' => rs.length ≤ m ∧ Q rs s'
  mono : ∀ s Q Q', (∀ r s', Q r s' → Q' r s') → f s Q → f s Q'
  run : ∀ hd Z B O σ H s Q, Ok L X.K hd Z B O σ H s → f s (fun rs s' => ∀ vs H', Ok L X.K hd Z B O σ H' s' → Mv Z H H' s s' → RsAll L X.K hd Z O σ H H' vs rs → Q vs H') → taW X es σ H Q
/-- what is wanted behind a statement, told by data -/
structure Real (L : Lay) (K : PySem.W.Frag) (hd : Addr → Bool) (Z : Zt) (B : Hp) (E : EE) (D : Ends) : Prop where
  nx : ∀ O σ H s, E.nx s → Ok L K hd Z B O σ H s → D.nx σ H
  rt : ∀ r n v H, E.rt r n → Frm Z B H → (∀ z, Z = some z → L.Stk z n H) → Rs L K hd Z [] [] B H v r → D.rt v H
  bk : ∀ O σ H s, E.bk s → Ok L K hd Z B O σ H s → D.bk σ H
  ct : ∀ O σ H s, E.ct s → Ok L K hd Z B O σ H s → D.ct σ H
def EE.Le (E E' : EE) : Prop := (∀ s, E.nx s → E'.nx s) ∧ (∀ r n, E.rt r n → E'.rt r n) ∧ (∀ s, E.bk s → E'.bk s) ∧ (∀ s, E.ct s → E'.ct s)
structure XS (L : Lay) (X : Cx) (st : Stmt) (f : FS) : Prop where
  mono : ∀ E E' s, E.Le E' → f E s → f E' s
  run : ∀ hd Z B O σ H s E D, Ok L X.K hd Z B O σ H s → Real L X.K hd Z B E D → f E s → tsW X st D σ H
structure XSs (L : Lay) (X : Cx) (st : List Stmt) (f : FS) : Prop where
  mono : ∀ E E' s, E.Le E' → f E s → f E' s
  run : ∀ hd Z B O σ H s E D, Ok L X.K hd Z B O σ H s → Real L X.K hd Z B E D → f E s → tssW X st D σ H
end DL

set_option maxRecDepth 100000
set_option maxHeartbeats 2000000
namespace DL
open PySem PySem.Spec PyProof.Rows L2

/-! ### slots -/
def gt : List (Option Ent) → Nat → Option Ent
  | [], _ => none
  | e :: _, 0 => e
  | _ :: r, i + 1 => gt r i
def pt : List (Option Ent) → Nat → Option Ent → List (Option Ent)
  | [], _, _ => []
  | _ :: r, 0, x => x :: r
  | e :: r, i + 1, x => e :: pt r i x
theorem gt_some : ∀ {l : List (Option Ent)} {i : Nat} {e : Ent}, gt l i = some e ↔ l[i]? = some (some e)
  | [], i, e => by simp [gt]
  | x :: r, 0, e => by simp [gt]
  | x :: r, i + 1, e => by simpa [gt] using gt_some (l := r) (i := i) (e := e)
theorem pt_set : ∀ (l : List (Option Ent)) (i : Nat) (x : Option Ent), pt l i x = l.set i x
  | [], _, _ => rfl
  | _ :: _, 0, _ => rfl
  | e :: r, i + 1, x => by
    show e :: pt r i x = e :: r.set i x
    rw [pt_set r i x]
/-- a slot's value as a result -/
def asR (i : Nat) : Ent → Ent
  | .ow ds => .br i ds
  | e => e
def fVar (i : Nat) : FE := fun s Q => match gt s.env i with
  | some e => Q (asR i e) s
  | none => False
section
variable {L : Lay} {X : Cx} {pos : Pos}
theorem Ok.read {hd : Addr → Bool} {Z : Zt} {B : Hp} {O : List Addr} {σ : L2.St} {H : Hp} {s : S} (k : Ok L X.K hd Z B O σ H s) {i : Nat} {e : Ent} (h : gt s.env i = some e) : ∃ v : V, σ[i]? = some (some v) ∧ Rs L X.K hd Z O σ H H v (asR i e) := by
  obtain ⟨v, h1, h2⟩ := k.slot i e (gt_some.mp h)
  refine ⟨v, h1, ?_⟩
  cases e with
  | im d => exact h2
  | ow ds =>
    obtain ⟨p, vs, rfl, e2, e3, e4⟩ := h2
    exact ⟨p, vs, rfl, h1, e2, e3, e4⟩
  | br _ _ => exact h2.elim
  | ob t d => exact h2
  | dr => exact h2
theorem xVar (i : Nat) {x : Str} (hN : X.N[i]? = some x := by rfl) (hv : Vis X.env.scope x := by first | exact Or.inl rfl | exact Or.inr (Or.inl rfl) | exact Or.inr (Or.inr rfl)) (hd : (x == ("__debug__" : Str)) = false := by decide)
    (hcd : (x == ("__classdict__" : Str)) = false := by decide) : XE L X (.Name x pos) (fVar i) := by
  refine ⟨fun s Q Q' k h => ?_, fun hd' Z B O σ H s Q ok h => ?_⟩
  · unfold fVar at h ⊢
    cases e : gt s.env i with
    | none => rw [e] at h; exact h
    | some r => rw [e] at h; exact k _ _ h
  · unfold fVar at h
    cases e : gt s.env i with
    | none => rw [e] at h; exact h.elim
    | some r =>
      rw [e] at h
      obtain ⟨v, h1, h2⟩ := ok.read e
      exact tW_of (pe_var hN hv hd hcd) ⟨v, h1, h v H ok Mv.refl h2⟩
def fK (d : PyData) : FE := fun s Q => Q (.im d) s
theorem xConst {e : Expr} {v : V} {d : PyData} (h : PE X e (tC v)) (r : ∀ H, Rp X.K H v d) : XE L X e (fK d) :=
  ⟨fun s Q Q' k h => k _ _ h, fun hd Z B O σ H s Q ok q => tW_of h (q v H ok Mv.refl (r _))⟩
theorem xInt {i j} : XE L X (.Constant (.int i) j pos) (fK (.int i)) := xConst pe_int fun _ => .int i
theorem xBl {b j} : XE L X (.Constant (.bool b) j pos) (fK (.bool b)) := xConst pe_bl fun _ => .bl b
theorem xNon {j} : XE L X (.Constant .none j pos) (fK .none) := xConst pe_non fun _ => .non
theorem xStr {x j} : XE L X (.Constant (.str x) j pos) (fK (.str x)) := xConst pe_str fun _ => .str x
/-- a constant of the module -/
structure GK (X : Cx) (x : Str) (d : PyData) : Prop where
  ex : ∃ v u, X.mg x = some u ∧ RelV v u ∧ ∀ H, Rp X.K H v d
theorem xGlob {x : Str} {d : PyData} (g : GK X x d) (hg : Gl X x := by rfl) (hd : (x == ("__debug__" : Str)) = false := by decide) : XE L X (.Name x pos) (fK d) :=
  let ⟨_, _, hm, r, q⟩ := g.ex
  xConst (pe_glob hg hm r hd) q

/-! ### operators -/
abbrev O2 := Ent → Ent → (Ent → Prop) → Prop
structure OpS (L : Lay) (X : Cx) (f : Value → Value → Sem Value) (o : O2) : Prop where
  mono : ∀ a b Q Q', (∀ r, Q r → Q' r) → o a b Q → o a b Q'
  ex : ∃ r : R2, OpR X f r ∧ ∀ hd Z B O σ Ha Hb H s x y a b Q, Ok L X.K hd Z B O σ H s → Rs L X.K hd Z O σ Ha H x a → Rs L X.K hd Z O σ Hb H y b → o a b Q → ∀ Q' : VK, (∀ v e H', Q e → Same H H' → Rs L X.K hd Z O σ H H' v e → Q' v H') → r x y H Q'
def f2 (o : O2) (fa fb : FE) : FE := fun s Q => fa s fun a s1 => fb s1 fun b s2 => o a b fun r => Q r s2
theorem f2_mono {o : O2} {fa fb : FE} {a b : Expr} (ho : ∀ a b Q Q', (∀ r, Q r → Q' r) → o a b Q → o a b Q') (ha : XE L X a fa) (hb : XE L X b fb) : ∀ s Q Q', (∀ r s', Q r s' → Q' r s') → f2 o fa fb s Q → f2 o fa fb s Q' :=
  fun s Q Q' k h => ha.mono s _ _ (fun r s1 h1 => hb.mono s1 _ _ (fun r2 s2 h2 => ho _ _ _ _ (fun r3 q => k _ _ q) h2) h1) h
variable {a b : Expr} {fa fb : FE}
theorem xBin {op : Operator} {o : O2} (ho : OpS L X (binaryOp op) o) (ha : XE L X a fa) (hb : XE L X b fb) : XE L X (.BinOp a op b pos) (f2 o fa fb) := by
  refine ⟨f2_mono ho.mono ha hb, fun hd Z B O σ H s Q ok h => ?_⟩
  obtain ⟨r, hr, q⟩ := ho.ex
  refine tW_of (pe_op hr peW peW) (ha.run hd Z B O σ H s _ ok (ha.mono _ _ _ (fun e1 s1 h1 x H1 k1 f1 r1 => ?_) h))
  refine hb.run hd Z B O σ H1 s1 _ k1 (hb.mono _ _ _ (fun e2 s2 h2 y H2 k2 f2 r2 => ?_) h1)
  exact q hd Z B O σ H H1 H2 s2 x y e1 e2 _ k2 (Rs.step k1 f2 r1) r2 h2 _ fun v e H' he sm rv => he v H' (k2.same sm) ((f1.trans f2).trans (Mv.of sm)) (Rs.back ok (f1.trans f2) rv)
theorem xCmp {op : CmpOp} {o : O2} (ho : OpS L X (compareOp op) o) (ha : XE L X a fa) (hb : XE L X b fb) (hm : behindInMarks op b = false := by rfl) : XE L X (.Compare a [op] [b] pos) (f2 o fa fb) := by
  refine ⟨f2_mono ho.mono ha hb, fun hd Z B O σ H s Q ok h => ?_⟩
  obtain ⟨r, hr, q⟩ := ho.ex
  refine tW_of (pe_cmpR hr peW peW hm) (ha.run hd Z B O σ H s _ ok (ha.mono _ _ _ (fun e1 s1 h1 x H1 k1 f1 r1 => ?_) h))
  refine hb.run hd Z B O σ H1 s1 _ k1 (hb.mono _ _ _ (fun e2 s2 h2 y H2 k2 f2 r2 => ?_) h1)
  exact q hd Z B O σ H H1 H2 s2 x y e1 e2 _ k2 (Rs.step k1 f2 r1) r2 h2 _ fun v e H' he sm rv => he v H' (k2.same sm) ((f1.trans f2).trans (Mv.of sm)) (Rs.back ok (f1.trans f2) rv)
/-- a result that is a bool, as a test -/
def isB : Ent → (Bool → Prop) → Prop
  | .im (.bool b), Q => Q b
  | _, _ => False
theorem isB_mono {r : Ent} {Q Q' : Bool → Prop} (k : ∀ b, Q b → Q' b) (h : isB r Q) : isB r Q' := by
  unfold isB at h ⊢
  split at h
  · exact k _ h
  · exact h.elim
theorem isB_v {K : PySem.W.Frag} {hd : Addr → Bool} {Z : Zt} {O : List Addr} {σ : L2.St} {H H' : Hp} {v : V} {r : Ent} {Q : Bool → Prop} (h : isB r Q) (q : Rs L K hd Z O σ H H' v r) : ∃ b, v = .bl b ∧ Q b := by
  unfold isB at h
  split at h
  · cases q
    exact ⟨_, rfl, h⟩
  · exact h.elim
def fB (f : FE) : FT := fun s Q => f s fun r s' => isB r fun b => Q b s'
theorem fB_mono {e : Expr} {f : FE} (h : XE L X e f) : ∀ s Q Q', (∀ r s', Q r s' → Q' r s') → fB f s Q → fB f s Q' :=
  fun s Q Q' k q => h.mono s _ _ (fun r s1 h1 => isB_mono (fun b => k b s1) h1) q
/-- an expression whose value is a bool, as a test; he: by intro _; rfl (no comparison, no and, or, not) -/
theorem xtVal {e : Expr} {f : FE} (h : XE L X e f) (he : ∀ whole, isTrue e X.env whole = (do let v ← whole; standAt e.pos; holding [v] (truthy v)) := by intro _; rfl) : XT L X e (fB f) := by
  refine ⟨fB_mono h, fun hd Z B O σ H s Q ok q => ttW_of (pt_val peW he) (h.run hd Z B O σ H s _ ok (h.mono _ _ _ (fun r s1 h1 v H1 k1 f1 r1 => ?_) q))⟩
  obtain ⟨b, rfl, h2⟩ := isB_v h1 r1
  exact ⟨b, rfl, h2 H1 k1 f1⟩
theorem xtCmp {op : CmpOp} {o : O2} (ho : OpS L X (compareOp op) o) (ha : XE L X a fa) (hb : XE L X b fb) (hm : behindInMarks op b = false := by rfl) : XT L X (.Compare a [op] [b] pos) (fB (f2 o fa fb)) := by
  refine ⟨fB_mono (xCmp (pos := pos) ho ha hb hm), fun hd Z B O σ H s Q ok h => ?_⟩
  obtain ⟨r, hr, q⟩ := ho.ex
  refine ttW_of (pt_cmpR hr peW peW hm) (ha.run hd Z B O σ H s _ ok (ha.mono _ _ _ (fun e1 s1 h1 x H1 k1 f1 r1 => ?_) h))
  refine hb.run hd Z B O σ H1 s1 _ k1 (hb.mono _ _ _ (fun e2 s2 h2 y H2 k2 f2 r2 => ?_) h1)
  refine q hd Z B O σ H H1 H2 s2 x y e1 e2 _ k2 (Rs.step k1 f2 r1) r2 h2 _ fun v e H' he sm rv => ?_
  obtain ⟨b, rfl, h3⟩ := isB_v he rv
  exact ⟨b, rfl, h3 H' (k2.same sm) ((f1.trans f2).trans (Mv.of sm))⟩

/-! ### tests -/
/-- a test whatever its whole is -/
def twW (X : Cx) (e : Expr) : TT := fun σ H Q => ∀ (whole : Sem Value) pins sh, Inv X pins σ H sh → wpAny (model X.prog X.w) X.A (isTrue e X.env whole) (TP X pins σ Q) X.xe sh
theorem pwW {X : Cx} {e : Expr} : PW X e (twW X e) := ⟨fun wh pins sh σ H Q I h => h wh pins sh I⟩
theorem twW_of {e : Expr} {t : TT} {σ : L2.St} {H : Hp} {Q : Bool → Hp → Prop} (h : PW X e t) (q : t σ H Q) : twW X e σ H Q := fun wh pins sh I => h.run wh pins sh σ H Q I q
structure XW (L : Lay) (X : Cx) (e : Expr) (f : FT) : Prop where
  mono : ∀ s Q Q', (∀ r s', Q r s' → Q' r s') → f s Q → f s Q'
  run : ∀ hd Z B O σ H s Q, Ok L X.K hd Z B O σ H s → f s (fun b s' => ∀ H', Ok L X.K hd Z B O σ H' s' → Mv Z H H' s s' → Q b H') → twW X e σ H Q
theorem XW.xt {e : Expr} {f : FT} (h : XW L X e f) : XT L X e f := ⟨h.mono, fun hd Z B O σ H s Q ok q => ttW_of pwW.pt (h.run hd Z B O σ H s Q ok q)⟩
variable {ga gb : FT} {rest : List Expr}
theorem xwAnd1 (ha : XT L X a ga) : XW L X (.BoolOp .And [a] pos) ga := ⟨ha.mono, fun hd Z B O σ H s Q ok q => twW_of (pw_and1 ptW) (ha.run hd Z B O σ H s Q ok q)⟩
theorem xwOr1 (ha : XT L X a ga) : XW L X (.BoolOp .Or [a] pos) ga := ⟨ha.mono, fun hd Z B O σ H s Q ok q => twW_of (pw_or1 ptW) (ha.run hd Z B O σ H s Q ok q)⟩
def fAnd (ga gb : FT) : FT := fun s Q => ga s fun b s1 => match b with
  | true => gb s1 Q
  | false => Q false s1
def fOr (ga gb : FT) : FT := fun s Q => ga s fun b s1 => match b with
  | true => Q true s1
  | false => gb s1 Q
def fNot (ga : FT) : FT := fun s Q => ga s fun b s1 => Q (!b) s1
theorem xwAnd (ha : XT L X a ga) (hb : XW L X (.BoolOp .And (b :: rest) pos) gb) : XW L X (.BoolOp .And (a :: b :: rest) pos) (fAnd ga gb) := by
  refine ⟨fun s Q Q' k h => ha.mono s _ _ (fun c s1 h1 => ?_) h, fun hd Z B O σ H s Q ok h => twW_of (pw_and ptW pwW) (ha.run hd Z B O σ H s _ ok (ha.mono _ _ _ (fun c s1 h1 H1 k1 f1 => ?_) h))⟩
  · cases c with
    | true => exact hb.mono _ _ _ k h1
    | false => exact k _ _ h1
  · cases c with
    | true => exact iteT (hb.run hd Z B O σ H1 s1 _ k1 (hb.mono _ _ _ (fun c s2 h2 H2 k2 f2 => h2 H2 k2 (f1.trans f2)) h1))
    | false => exact iteF (h1 H1 k1 f1)
theorem xwOr (ha : XT L X a ga) (hb : XW L X (.BoolOp .Or (b :: rest) pos) gb) : XW L X (.BoolOp .Or (a :: b :: rest) pos) (fOr ga gb) := by
  refine ⟨fun s Q Q' k h => ha.mono s _ _ (fun c s1 h1 => ?_) h, fun hd Z B O σ H s Q ok h => twW_of (pw_or ptW pwW) (ha.run hd Z B O σ H s _ ok (ha.mono _ _ _ (fun c s1 h1 H1 k1 f1 => ?_) h))⟩
  · cases c with
    | true => exact k _ _ h1
    | false => exact hb.mono _ _ _ k h1
  · cases c with
    | true => exact iteT (h1 H1 k1 f1)
    | false => exact iteF (hb.run hd Z B O σ H1 s1 _ k1 (hb.mono _ _ _ (fun c s2 h2 H2 k2 f2 => h2 H2 k2 (f1.trans f2)) h1))
theorem xtNot (ha : XT L X a ga) : XT L X (.UnaryOp .Not a pos) (fNot ga) :=
  ⟨fun s Q Q' k h => ha.mono s _ _ (fun c s1 h1 => k _ _ h1) h, fun hd Z B O σ H s Q ok h => ttW_of (pt_not ptW) (ha.run hd Z B O σ H s _ ok h)⟩
/-- as values -/
def fAndV (fa fb : FE) : FE := fun s Q => fa s fun r s1 => isB r fun c => match c with
  | true => fb s1 Q
  | false => Q (.im (.bool false)) s1
def fOrV (fa fb : FE) : FE := fun s Q => fa s fun r s1 => isB r fun c => match c with
  | true => Q (.im (.bool true)) s1
  | false => fb s1 Q
def fNotV (fa : FE) : FE := fun s Q => fa s fun r s1 => isB r fun c => Q (.im (.bool (!c))) s1
theorem xOne {op} (h : XE L X a fa) : XE L X (.BoolOp op [a] pos) fa := ⟨h.mono, fun hd Z B O σ H s Q ok q => tW_of (pe_one peW) (h.run hd Z B O σ H s Q ok q)⟩
theorem xAnd (ha : XE L X a fa) (hb : XE L X (.BoolOp .And (b :: rest) pos) fb) : XE L X (.BoolOp .And (a :: b :: rest) pos) (fAndV fa fb) := by
  refine ⟨fun s Q Q' k h => ha.mono s _ _ (fun r s1 h1 => isB_mono (fun c hc => ?_) h1) h, fun hd Z B O σ H s Q ok h => tW_of (pe_and peW peW) (ha.run hd Z B O σ H s _ ok (ha.mono _ _ _ (fun r s1 h1 v H1 k1 f1 r1 => ?_) h))⟩
  · cases c with
    | true => exact hb.mono _ _ _ k hc
    | false => exact k _ _ hc
  · obtain ⟨c, rfl, h2⟩ := isB_v h1 r1
    refine ⟨c, rfl, ?_⟩
    cases c with
    | true => exact iteT (hb.run hd Z B O σ H1 s1 _ k1 (hb.mono _ _ _ (fun r s2 h3 v H2 k2 f2 r2 => h3 v H2 k2 (f1.trans f2) (Rs.back ok f1 r2)) h2))
    | false => exact iteF (h2 _ H1 k1 f1 (.bl false))
theorem xOr (ha : XE L X a fa) (hb : XE L X (.BoolOp .Or (b :: rest) pos) fb) : XE L X (.BoolOp .Or (a :: b :: rest) pos) (fOrV fa fb) := by
  refine ⟨fun s Q Q' k h => ha.mono s _ _ (fun r s1 h1 => isB_mono (fun c hc => ?_) h1) h, fun hd Z B O σ H s Q ok h => tW_of (pe_or peW peW) (ha.run hd Z B O σ H s _ ok (ha.mono _ _ _ (fun r s1 h1 v H1 k1 f1 r1 => ?_) h))⟩
  · cases c with
    | true => exact k _ _ hc
    | false => exact hb.mono _ _ _ k hc
  · obtain ⟨c, rfl, h2⟩ := isB_v h1 r1
    refine ⟨c, rfl, ?_⟩
    cases c with
    | true => exact iteT (h2 _ H1 k1 f1 (.bl true))
    | false => exact iteF (hb.run hd Z B O σ H1 s1 _ k1 (hb.mono _ _ _ (fun r s2 h3 v H2 k2 f2 r2 => h3 v H2 k2 (f1.trans f2) (Rs.back ok f1 r2)) h2))
theorem xNot (ha : XE L X a fa) : XE L X (.UnaryOp .Not a pos) (fNotV fa) := by
  refine ⟨fun s Q Q' k h => ha.mono s _ _ (fun r s1 h1 => isB_mono (fun c hc => k _ _ hc) h1) h, fun hd Z B O σ H s Q ok h => tW_of (pe_not peW) (ha.run hd Z B O σ H s _ ok (ha.mono _ _ _ (fun r s1 h1 v H1 k1 f1 r1 => ?_) h))⟩
  obtain ⟨c, rfl, h2⟩ := isB_v h1 r1
  exact ⟨c, rfl, h2 _ H1 k1 f1 (.bl _)⟩
def fIf (g : FT) (fa fb : FE) : FE := fun s Q => g s fun c s1 => match c with
  | true => fa s1 Q
  | false => fb s1 Q
theorem xIf {c : Expr} {g : FT} (hc : XT L X c g) (ha : XE L X a fa) (hb : XE L X b fb) : XE L X (.IfExp c a b pos) (fIf g fa fb) := by
  refine ⟨fun s Q Q' k h => hc.mono s _ _ (fun c s1 h1 => ?_) h, fun hd Z B O σ H s Q ok h => tW_of (pe_ifExp ptW peW peW) (hc.run hd Z B O σ H s _ ok (hc.mono _ _ _ (fun c s1 h1 H1 k1 f1 => ?_) h))⟩
  · cases c with
    | true => exact ha.mono _ _ _ k h1
    | false => exact hb.mono _ _ _ k h1
  · cases c with
    | true => exact iteT (ha.run hd Z B O σ H1 s1 _ k1 (ha.mono _ _ _ (fun r s2 h3 v H2 k2 f2 r2 => h3 v H2 k2 (f1.trans f2) (Rs.back ok f1 r2)) h1))
    | false => exact iteF (hb.run hd Z B O σ H1 s1 _ k1 (hb.mono _ _ _ (fun r s2 h3 v H2 k2 f2 r2 => h3 v H2 k2 (f1.trans f2) (Rs.back ok f1 r2)) h1))

/-! ### argument lists, displays -/
variable {e : Expr} {es : List Expr} {f : FE} {fs : FA}
def fNil : FA := fun s Q => Q [] s
def fCons (f : FE) (fs : FA) : FA := fun s Q => f s fun r s1 => fs s1 fun rs s2 => Q (r :: rs) s2
theorem xaNil : XA L X [] 0 fNil := ⟨fun s Q h => ⟨Nat.le_refl _, h⟩, fun s Q Q' k h => k _ _ h, fun hd Z B O σ H s Q ok h => taW_of pa_nil (h [] H ok Mv.refl .nil)⟩
theorem RsAll.step {K : PySem.W.Frag} {hd : Addr → Bool} {Z : Zt} {B : Hp} {O : List Addr} {σ : L2.St} {H H' H'' H1 : Hp} {s s1 s2 : S} (k : Ok L K hd Z B O σ H s) (f : Mv Z H' H'' s1 s2) : ∀ {vs : List V} {rs : List Ent}, RsAll L K hd Z O σ H1 H' vs rs → RsAll L K hd Z O σ H1 H'' vs rs
  | _, _, .nil => .nil
  | _, _, .cons a b => .cons (Rs.step k f a) (b.step k f)
theorem RsAll.back {K : PySem.W.Frag} {hd : Addr → Bool} {Z : Zt} {B : Hp} {O : List Addr} {σ : L2.St} {H H' H1 : Hp} {s s1 s2 : S} (k : Ok L K hd Z B O σ H1 s) (f : Mv Z H1 H s1 s2) : ∀ {vs : List V} {rs : List Ent}, RsAll L K hd Z O σ H H' vs rs → RsAll L K hd Z O σ H1 H' vs rs
  | _, _, .nil => .nil
  | _, _, .cons a b => .cons (Rs.back k f a) (b.back k f)
theorem xaCons {m : Nat} (he : XE L X e f) (hes : XA L X es m fs) (hs : starEach (e :: es) X.env = (false, eval e X.env) :: starEach es X.env := by rfl) : XA L X (e :: es) (m + 1) (fCons f fs) := by
  refine ⟨fun s Q h => he.mono _ _ _ (fun r s1 h1 => hes.mono _ _ _ (fun rs s2 h2 => ⟨Nat.succ_le_succ h2.1, h2.2⟩) (hes.bnd _ _ h1)) h, fun s Q Q' k h => he.mono s _ _ (fun r s1 h1 => hes.mono _ _ _ (fun rs s2 h2 => k _ _ h2) h1) h, fun hd Z B O σ H s Q ok h => taW_of (pa_cons peW paW hs) (he.run hd Z B O σ H s _ ok (he.mono _ _ _ (fun r s1 h1 v H1 k1 f1 r1 => ?_) h))⟩
  exact hes.run hd Z B O σ H1 s1 _ k1 (hes.mono _ _ _ (fun rs s2 h2 vs H2 k2 f2 r2 => h2 (v :: vs) H2 k2 (f1.trans f2) (.cons (Rs.step k1 f2 r1) (r2.back ok f1))) h1)
/-- results that are kept as data -/
def kepts : List Ent → (List PyData → Prop) → Prop
  | [], Q => Q []
  | .im d :: rs, Q => kepts rs fun ds => Q (d :: ds)
  | .ow es :: rs, Q => kepts rs fun ds => Q (.list es :: ds)
  | _ :: _, _ => False
theorem kepts_mono : ∀ {rs : List Ent} {Q Q' : List PyData → Prop}, (∀ ds, Q ds → Q' ds) → kepts rs Q → kepts rs Q'
  | [], _, _, k, h => k _ h
  | .im d :: rs, _, _, k, h => kepts_mono (rs := rs) (fun ds q => k _ q) h
  | .ow es :: rs, _, _, k, h => kepts_mono (rs := rs) (fun ds q => k _ q) h
  | .br _ _ :: _, _, _, _, h => h.elim
  | .ob _ _ :: _, _, _, _, h => h.elim
  | .dr :: _, _, _, _, h => h.elim
theorem kepts_v {K : PySem.W.Frag} {hd : Addr → Bool} {Z : Zt} {O : List Addr} {σ : L2.St} {H H' : Hp} : ∀ {vs : List V} {rs : List Ent} {Q : List PyData → Prop}, RsAll L K hd Z O σ H H' vs rs → kepts rs Q → ∃ ds, RpAll K (vis hd O H') vs ds ∧ Q ds
  | _, _, _, .nil, h => ⟨[], .nil, h⟩
  | _, .im d :: rs, _, .cons a b, h => by
    obtain ⟨ds, h1, h2⟩ := kepts_v (rs := rs) b h
    exact ⟨_, .cons (Rs.keeps a rfl) h1, h2⟩
  | _, .ow es :: rs, _, .cons a b, h => by
    obtain ⟨ds, h1, h2⟩ := kepts_v (rs := rs) b h
    exact ⟨_, .cons (Rs.keeps a rfl) h1, h2⟩
  | _, .br _ _ :: _, _, .cons _ _, h => h.elim
  | _, .ob _ _ :: _, _, .cons _ _, h => h.elim
  | _, .dr :: _, _, .cons _ _, h => h.elim
theorem sameNew {H : Hp} {p : Addr} {o : HO} (h : H p = none) : Same H (upd H p o) := fun b u e => by
  rw [upd_ne (ne_of_none e h)]
  exact e
/-- a new tuple, a new list -/
theorem Ok.newT {K : PySem.W.Frag} {hd : Addr → Bool} {Z : Zt} {B : Hp} {O : List Addr} {σ : L2.St} {H H0 : Hp} {s : S} (k : Ok L K hd Z B O σ H s) {p : Addr} (h : H p = none) {vs : List V} {ds : List PyData} (r : RpAll K (vis hd O H) vs ds) :
    Rs L K hd Z O σ H0 (upd H p (.tup vs)) (.ref p) (.im (.tuple ds)) := by
  obtain ⟨h1, h2, _⟩ := k.fresh h
  exact .tup (SqT.of (vis_some.mpr ⟨h1, h2, upd_same⟩)) (r.same (vis_frm k (Frm.of (sameNew h))))
theorem Ok.newL {K : PySem.W.Frag} {hd : Addr → Bool} {Z : Zt} {B : Hp} {O : List Addr} {σ : L2.St} {H H0 : Hp} {s : S} (k : Ok L K hd Z B O σ H s) {p : Addr} (h : H p = none) (h0 : H0 p = none) {vs : List V} {ds : List PyData} (r : RpAll K (vis hd O H) vs ds) :
    Rs L K hd Z O σ H0 (upd H p (.lst vs)) (.ref p) (.ow ds) := by
  obtain ⟨h1, h2, _⟩ := k.fresh h
  refine ⟨p, vs, rfl, h0, h1, h2, upd_same, r.same fun a o e => ?_⟩
  obtain ⟨g1, g2, g3⟩ := vis_some.mp e
  have ne : a ≠ p := ne_of_none g3 h
  exact vis_some.mpr ⟨g1, fun q => (List.mem_cons.mp q).elim ne g2, by rw [upd_ne ne]; exact g3⟩
theorem Frm.none {Z : Zt} {H H' : Hp} (f : Frm Z H H') {p : Addr} (n : ¬ zin Z p) (h : H' p = none) : H p = none := by
  cases q : H p with
  | none => rfl
  | some o => rw [f p o n q] at h; cases h
def fTup (fs : FA) : FE := fun s Q => fs s fun rs s1 => kepts rs fun ds => Q (.im (.tuple ds)) s1
def fLst (fs : FA) : FE := fun s Q => fs s fun rs s1 => kepts rs fun ds => Q (.ow ds) s1
theorem RsAll.length {K : PySem.W.Frag} {hd : Addr → Bool} {Z : Zt} {O : List Addr} {σ : L2.St} {H H' : Hp} : ∀ {vs : List V} {rs : List Ent}, RsAll L K hd Z O σ H H' vs rs → vs.length = rs.length
  | _, _, .nil => rfl
  | _, _, .cons _ b => by rw [List.length_cons, List.length_cons, b.length]
theorem xTup {k} {m : Nat} (h : XA L X es m fs) (hn : m ≤ 10000 := by decide) : XE L X (.Tuple es k pos) (fTup fs) := by
  refine ⟨fun s Q Q' k' q => h.mono s _ _ (fun rs s1 h1 => kepts_mono (fun ds q => k' _ _ q) h1) q, fun hd Z B O σ H s Q ok q => tW_of (pe_tup paW) (h.run hd Z B O σ H s _ ok (h.mono _ _ _ (fun rs s1 h1 vs H1 k1 f1 r1 => ?_) (h.bnd s _ q)))⟩
  obtain ⟨hlen, h1⟩ := h1
  obtain ⟨ds, rp, h2⟩ := kepts_v r1 h1
  refine ⟨by rw [r1.length]; exact Nat.le_trans (Nat.le_trans hlen hn) (by decide), fun p hp => ?_⟩
  exact h2 _ _ (k1.same (sameNew hp)) (f1.trans (Mv.of (sameNew hp))) (k1.newT hp rp)
theorem xLst {m : Nat} (h : XA L X es m fs) (hn : m ≤ 10000 := by decide) : XE L X (.List es pos) (fLst fs) := by
  refine ⟨fun s Q Q' k' q => h.mono s _ _ (fun rs s1 h1 => kepts_mono (fun ds q => k' _ _ q) h1) q, fun hd Z B O σ H s Q ok q => tW_of (pe_lst paW) (h.run hd Z B O σ H s _ ok (h.mono _ _ _ (fun rs s1 h1 vs H1 k1 f1 r1 => ?_) (h.bnd s _ q)))⟩
  obtain ⟨hlen, h1⟩ := h1
  obtain ⟨ds, rp, h2⟩ := kepts_v r1 h1
  refine ⟨by rw [r1.length]; exact Nat.le_trans (Nat.le_trans hlen hn) (by decide), fun p hp => ?_⟩
  exact h2 _ _ (k1.same (sameNew hp)) (f1.trans (Mv.of (sameNew hp))) (k1.newL hp (f1.fr.none (k1.fresh hp).2.2 hp) rp)
end
end DL

set_option maxRecDepth 100000
set_option maxHeartbeats 2000000
namespace DL
open PySem PySem.Spec PyProof.Rows L2
section
variable {L : Lay} {X : Cx} {pos : Pos}
/-! ### numbers -/
def oI (g : Int → Int → PyData) : O2
  | .im (.int i), .im (.int j), Q => Q (.im (g i j))
  | _, _, _ => False
theorem oI_mono {g : Int → Int → PyData} : ∀ a b Q Q', (∀ r, Q r → Q' r) → oI g a b Q → oI g a b Q' := fun a b Q Q' k h => by
  unfold oI at h ⊢
  split at h
  · exact k _ h
  · exact h.elim
theorem ops_I0 {f : Value → Value → Sem Value} {g : Int → Int → Int} (h : OpR X f (rI0 fun i j => .int (g i j))) : OpS L X f (oI fun i j => .int (g i j)) :=
  ⟨oI_mono, _, h, fun hd Z B O σ Ha Hb H s x y a b Q ok ra rb q Q' fin => by
    unfold oI at q
    split at q
    · cases ra
      cases rb
      exact ⟨_, _, rfl, rfl, fin _ _ H q (Same.refl H) (.int _)⟩
    · exact q.elim⟩
theorem ops_B0 {f : Value → Value → Sem Value} {g : Int → Int → Bool} (h : OpR X f (rI0 fun i j => .bl (g i j))) : OpS L X f (oI fun i j => .bool (g i j)) :=
  ⟨oI_mono, _, h, fun hd Z B O σ Ha Hb H s x y a b Q ok ra rb q Q' fin => by
    unfold oI at q
    split at q
    · cases ra
      cases rb
      exact ⟨_, _, rfl, rfl, fin _ _ H q (Same.refl H) (.bl _)⟩
    · exact q.elim⟩
theorem os_lt : OpS L X (compareOp .Lt) (oI fun i j => .bool (decide (i < j))) := ops_B0 op_lt
theorem os_le : OpS L X (compareOp .LtE) (oI fun i j => .bool (decide (i ≤ j))) := ops_B0 op_le
theorem os_gt : OpS L X (compareOp .Gt) (oI fun i j => .bool (decide (j < i))) := ops_B0 op_gt
theorem os_ge : OpS L X (compareOp .GtE) (oI fun i j => .bool (decide (j ≤ i))) := ops_B0 op_ge
theorem os_sub : OpS L X (binaryOp .Sub) (oI fun i j => .int (i - j)) := ops_I0 op_sub
/-- with a condition -/
def oIc (C : Int → Int → Prop) (g : Int → Int → PyData) : O2
  | .im (.int i), .im (.int j), Q => C i j ∧ Q (.im (g i j))
  | _, _, _ => False
theorem oIc_mono {C : Int → Int → Prop} {g : Int → Int → PyData} : ∀ a b Q Q', (∀ r, Q r → Q' r) → oIc C g a b Q → oIc C g a b Q' := fun a b Q Q' k h => by
  unfold oIc at h ⊢
  split at h
  · exact ⟨h.1, k _ h.2⟩
  · exact h.elim
theorem ops_I {f : Value → Value → Sem Value} {C : Int → Int → Prop} {g : Int → Int → Int} (h : OpR X f (rI C fun i j => .int (g i j))) : OpS L X f (oIc C fun i j => .int (g i j)) :=
  ⟨oIc_mono, _, h, fun hd Z B O σ Ha Hb H s x y a b Q ok ra rb q Q' fin => by
    unfold oIc at q
    split at q
    · cases ra
      cases rb
      exact ⟨_, _, rfl, rfl, q.1, fin _ _ H q.2 (Same.refl H) (.int _)⟩
    · exact q.elim⟩
theorem os_mulI : OpS L X (binaryOp .Mult) (oIc CMul fun i j => .int (i * j)) := ops_I op_mul
theorem os_mod : OpS L X (binaryOp .Mod) (oIc (fun _ j => 0 < j) fun i j => .int (i % j)) := ops_I op_mod
theorem os_fdiv : OpS L X (binaryOp .FloorDiv) (oIc CDiv fun i j => .int (i / j)) := ops_I op_fdiv


/-! ### == and in -/
def twoS : PyData → PyData → Bool
  | .str _, .str _ => true
  | _, _ => false
def oEq (neg : Bool) : O2 := fun a b Q => match a.dat, b.dat with
  | some d, some e => (twoS d e = true ∨ (SeqAt.shaped d = true ∧ SeqAt.shaped e = true)) ∧ Q (.im (.bool (neg != PyData.eqv d e)))
  | _, _ => False
theorem oEq_mono {neg : Bool} : ∀ a b Q Q', (∀ r, Q r → Q' r) → oEq neg a b Q → oEq neg a b Q' := fun a b Q Q' k h => by
  unfold oEq at h ⊢
  split at h
  · exact ⟨h.1, k _ h.2⟩
  · exact h.elim
theorem os_eq (hu : X.A.units + 64 < cLine) : OpS L X (compareOp .Eq) (oEq false) :=
  ⟨oEq_mono, _, OpR.or (op_eqD hu) op_eq, fun hd Z B O σ Ha Hb H s x y a b Q ok ra rb q Q' fin => by
    unfold oEq at q
    split at q
    · rename_i d e ea eb
      obtain ⟨q0, q3⟩ := q
      rcases q0 with q0 | ⟨q1, q2⟩
      · have da := Rs.data ra ea
        have db := Rs.data rb eb
        unfold twoS at q0
        split at q0
        · cases da
          cases db
          refine .inr ⟨rfl, fin _ _ H q3 (Same.refl H) ?_⟩
          rw [Bool.false_bne, dec_str]
          exact .bl _
        · cases q0
      · refine .inl ⟨d, e, (Rs.data ra ea).dpS q1, (Rs.data rb eb).dpS q2, q1, q2, fin _ _ H q3 (Same.refl H) ?_⟩
        rw [Bool.false_bne]
        exact .bl _
    · exact q.elim⟩
theorem os_ne (hu : X.A.units + 64 < cLine) : OpS L X (compareOp .NotEq) (oEq true) :=
  ⟨oEq_mono, _, OpR.or (op_neD hu) op_ne, fun hd Z B O σ Ha Hb H s x y a b Q ok ra rb q Q' fin => by
    unfold oEq at q
    split at q
    · rename_i d e ea eb
      obtain ⟨q0, q3⟩ := q
      rcases q0 with q0 | ⟨q1, q2⟩
      · have da := Rs.data ra ea
        have db := Rs.data rb eb
        unfold twoS at q0
        split at q0
        · cases da
          cases db
          refine .inr ⟨rfl, fin _ _ H q3 (Same.refl H) ?_⟩
          rw [Bool.true_bne, dec_str]
          exact .bl _
        · cases q0
      · refine .inl ⟨d, e, (Rs.data ra ea).dpS q1, (Rs.data rb eb).dpS q2, q1, q2, fin _ _ H q3 (Same.refl H) ?_⟩
        rw [Bool.true_bne]
        exact .bl _
    · exact q.elim⟩
/-- the items of a list or a tuple -/
def items : PyData → Option (List PyData)
  | .list es => some es
  | .tuple es => some es
  | _ => none
def oIn (neg : Bool) : O2 := fun a b Q => match a.dat, b.dat.bind items with
  | some d, some es => SeqAt.shaped d = true ∧ SeqAt.shaped (.list es) = true ∧ Q (.im (.bool (neg != es.any fun z => PyData.eqv z d)))
  | _, _ => False
theorem oIn_mono {neg : Bool} : ∀ a b Q Q', (∀ r, Q r → Q' r) → oIn neg a b Q → oIn neg a b Q' := fun a b Q Q' k h => by
  unfold oIn at h ⊢
  split at h
  · exact ⟨h.1, h.2.1, k _ h.2.2⟩
  · exact h.elim
def rInT (K : PySem.W.Frag) (neg : Bool) : R2 := fun x y H Q => ∃ d e es, Dp K H x d ∧ Dp K H y e ∧ items e = some es ∧ SeqAt.shaped d = true ∧ SeqAt.shaped (.list es) = true ∧ Q (.bl (neg != es.any fun z => PyData.eqv z d)) H
theorem op_inT (hu : X.A.units + 65 < cLine) : OpR X (compareOp .In) (rInT X.K false) := by
  intro pins s σ H x y v u Q I rx ry h
  obtain ⟨d, e, es, hd, he, ee, sd, se, q⟩ := h
  obtain ⟨as, r1⟩ := Dp.reads I d x v hd rx
  obtain ⟨bs, r2⟩ := Dp.reads I e y u he ry
  have cl : PyData.canLayAll0 es = true := by
    have := SeqAt.canLay_of_shaped se
    simpa [PyData.canLay0] using this
  rw [Bool.false_bne] at q
  cases e <;> simp [items] at ee
  · subst ee
    exact SeqAt.in_list_reads r2 r1 cl (SeqAt.canLay_of_shaped sd) (room_in_shaped sd hu) ⟨.bl _, H, I, rfl, q⟩
  · subst ee
    exact SeqAt.in_tuple_reads r2 r1 cl (SeqAt.canLay_of_shaped sd) (room_in_shaped sd hu) ⟨.bl _, H, I, rfl, q⟩
theorem op_notInT (hu : X.A.units + 65 < cLine) : OpR X (compareOp .NotIn) (rInT X.K true) := by
  intro pins s σ H x y v u Q I rx ry h
  obtain ⟨d, e, es, hd, he, ee, sd, se, q⟩ := h
  obtain ⟨as, r1⟩ := Dp.reads I d x v hd rx
  obtain ⟨bs, r2⟩ := Dp.reads I e y u he ry
  have cl : PyData.canLayAll0 es = true := by
    have := SeqAt.canLay_of_shaped se
    simpa [PyData.canLay0] using this
  rw [Bool.true_bne] at q
  cases e <;> simp [items] at ee
  · subst ee
    exact SeqAt.notIn_list_reads r2 r1 cl (SeqAt.canLay_of_shaped sd) (room_in_shaped sd hu) ⟨.bl _, H, I, rfl, q⟩
  · subst ee
    exact SeqAt.notIn_tuple_reads r2 r1 cl (SeqAt.canLay_of_shaped sd) (room_in_shaped sd hu) ⟨.bl _, H, I, rfl, q⟩
theorem dp_items {K : PySem.W.Frag} {H : Hp} {v : V} {e : PyData} {es : List PyData} (r : Rp K H v e) (h : items e = some es) (se : SeqAt.shaped (.list es) = true) : Dp K H v e := by
  have cl : PyData.canLayAll0 es = true := by
    have := SeqAt.canLay_of_shaped se
    simpa [PyData.canLay0] using this
  refine r.dp ?_
  cases e <;> simp [items] at h <;> (subst h; simpa [PyData.canLay0] using cl)
theorem os_in (hu : X.A.units + 65 < cLine) : OpS L X (compareOp .In) (oIn false) :=
  ⟨oIn_mono, _, op_inT hu, fun hd Z B O σ Ha Hb H s x y a b Q ok ra rb q Q' fin => by
    unfold oIn at q
    split at q
    · rename_i d es ea eb
      obtain ⟨q1, q2, q3⟩ := q
      obtain ⟨e, e1, e2⟩ := Option.bind_eq_some_iff.mp eb
      exact ⟨d, e, es, (Rs.data ra ea).dpS q1, dp_items (Rs.data rb e1) e2 q2, e2, q1, q2, fin _ _ H q3 (Same.refl H) (.bl _)⟩
    · exact q.elim⟩
theorem os_notIn (hu : X.A.units + 65 < cLine) : OpS L X (compareOp .NotIn) (oIn true) :=
  ⟨oIn_mono, _, op_notInT hu, fun hd Z B O σ Ha Hb H s x y a b Q ok ra rb q Q' fin => by
    unfold oIn at q
    split at q
    · rename_i d es ea eb
      obtain ⟨q1, q2, q3⟩ := q
      obtain ⟨e, e1, e2⟩ := Option.bind_eq_some_iff.mp eb
      exact ⟨d, e, es, (Rs.data ra ea).dpS q1, dp_items (Rs.data rb e1) e2 q2, e2, q1, q2, fin _ _ H q3 (Same.refl H) (.bl _)⟩
    · exact q.elim⟩
/-- is None -/
def isNonD : PyData → Bool
  | .none => true
  | _ => false
def oIs (neg : Bool) : O2
  | .im d, .im .none, Q => Q (.im (.bool (neg != isNonD d)))
  | .ow _, .im .none, Q => Q (.im (.bool neg))
  | .br _ _, .im .none, Q => Q (.im (.bool neg))
  | _, _, _ => False
theorem oIs_mono {neg : Bool} : ∀ a b Q Q', (∀ r, Q r → Q' r) → oIs neg a b Q → oIs neg a b Q' := fun a b Q Q' k h => by
  unfold oIs at h ⊢
  split at h
  · exact k _ h
  · exact k _ h
  · exact k _ h
  · exact h.elim
theorem rp_non {K : PySem.W.Frag} {H : Hp} {v : V} {d : PyData} (r : Rp K H v d) : decide (v = .non) = isNonD d := by
  cases r <;> rfl
theorem os_is : OpS L X (compareOp .Is) (oIs false) :=
  ⟨oIs_mono, _, op_isN, fun hd Z B O σ Ha Hb H s x y a b Q ok ra rb q Q' fin => by
    unfold oIs at q
    split at q
    · cases rb
      refine ⟨rfl, fin _ _ H q (Same.refl H) ?_⟩
      rw [Bool.false_bne, ← rp_non ra]
      exact .bl _
    · cases rb
      obtain ⟨p, vs, rfl, _⟩ := ra
      exact ⟨rfl, fin _ _ H q (Same.refl H) (.bl _)⟩
    · cases rb
      obtain ⟨p, vs, rfl, _⟩ := ra
      exact ⟨rfl, fin _ _ H q (Same.refl H) (.bl _)⟩
    · exact q.elim⟩
theorem os_isNot : OpS L X (compareOp .IsNot) (oIs true) :=
  ⟨oIs_mono, _, op_notN, fun hd Z B O σ Ha Hb H s x y a b Q ok ra rb q Q' fin => by
    unfold oIs at q
    split at q
    · cases rb
      refine ⟨rfl, fin _ _ H q (Same.refl H) ?_⟩
      rw [Bool.true_bne, ← rp_non ra]
      exact .bl _
    · cases rb
      obtain ⟨p, vs, rfl, _⟩ := ra
      exact ⟨rfl, fin _ _ H q (Same.refl H) (.bl _)⟩
    · cases rb
      obtain ⟨p, vs, rfl, _⟩ := ra
      exact ⟨rfl, fin _ _ H q (Same.refl H) (.bl _)⟩
    · exact q.elim⟩

/-! ### + of numbers, lists, tuples, texts -/
/-- the items of one's own or a read list, standing in the heap -/
theorem rs_list {K : PySem.W.Frag} {hd : Addr → Bool} {Z : Zt} {O : List Addr} {σ : L2.St} {H H' : Hp} {v : V} {r : Ent} {ds : List PyData} (h : Rs L K hd Z O σ H H' v r) (e : r.dat = some (.list ds)) :
    ∃ p vs, v = .ref p ∧ H' p = some (.lst vs) ∧ RpAll K (vis hd O H') vs ds := by
  cases r with
  | im d =>
    cases e
    cases h with
    | lst s r => exact ⟨_, _, rfl, vis_le _ _ s, r⟩
  | ow ds' =>
    cases e
    obtain ⟨p, vs, e1, _, _, _, e5, e6⟩ := h
    exact ⟨p, vs, e1, e5, e6.same vis_more⟩
  | br i ds' =>
    cases e
    obtain ⟨p, vs, e1, _, _, e4, e5⟩ := h
    exact ⟨p, vs, e1, e4, e5⟩
  | ob t d => cases e
  | dr => cases e
theorem rs_tup {K : PySem.W.Frag} {hd : Addr → Bool} {Z : Zt} {O : List Addr} {σ : L2.St} {H H' : Hp} {v : V} {ds : List PyData} (h : Rs L K hd Z O σ H H' v (.im (.tuple ds))) :
    ∃ p vs, v = .ref p ∧ SqT K H' p vs ∧ RpAll K (vis hd O H') vs ds := by
  cases h with
  | tup s r => exact ⟨_, _, rfl, sameT vis_le s, r⟩
def oAdd : O2 := fun a b Q => match a.dat, b.dat with
  | some (.int i), some (.int j) => Q (.im (.int (i + j)))
  | some (.list ds), some (.list es) => ds.length + es.length ≤ sizeLine ∧ Q (.ow (ds ++ es))
  | some (.tuple ds), some (.tuple es) => ds.length + es.length ≤ sizeLine ∧ Q (.im (.tuple (ds ++ es)))
  | some (.str x), some (.str y) => x.length + y.length ≤ sizeLine ∧ Q (.im (.str (x ++ y)))
  | _, _ => False
theorem oAdd_mono : ∀ a b Q Q', (∀ r, Q r → Q' r) → oAdd a b Q → oAdd a b Q' := fun a b Q Q' k h => by
  unfold oAdd at h ⊢
  split at h
  · exact k _ h
  · exact ⟨h.1, k _ h.2⟩
  · exact ⟨h.1, k _ h.2⟩
  · exact ⟨h.1, k _ h.2⟩
  · exact h.elim
theorem dat_im {r : Ent} {d : PyData} (h : r.dat = some d) (hl : ∀ ds, d ≠ .list ds) : r = .im d := by
  cases r with
  | im d' => cases h; rfl
  | ow ds => cases h; exact absurd rfl (hl ds)
  | br i ds => cases h; exact absurd rfl (hl ds)
  | ob t d => cases h
  | dr => cases h
theorem os_add : OpS L X (binaryOp .Add) oAdd :=
  ⟨oAdd_mono, _, (OpR.or op_add (OpR.or op_cat (OpR.or op_catA op_add_str))), fun hd Z B O σ Ha Hb H s x y a b Q ok ra rb q Q' fin => by
    unfold oAdd at q
    split at q
    · rename_i i j ea eb
      cases dat_im ea (fun _ z => by cases z)
      cases dat_im eb (fun _ z => by cases z)
      cases ra
      cases rb
      exact .inl ⟨_, _, rfl, rfl, fin _ _ H q (Same.refl H) (.int _)⟩
    · rename_i ds es ea eb
      obtain ⟨p, vs, rfl, hp, r1⟩ := rs_list ra ea
      obtain ⟨p', ws, rfl, hp', r2⟩ := rs_list rb eb
      refine .inr (.inl ⟨p, p', vs, ws, rfl, rfl, hp, hp', by rw [r1.length, r2.length]; exact q.1, fun l hl => ?_⟩)
      exact fin _ _ _ q.2 (sameNew hl) (ok.newL hl hl (r1.append r2))
    · rename_i ds es ea eb
      cases dat_im ea (fun _ z => by cases z)
      cases dat_im eb (fun _ z => by cases z)
      obtain ⟨p, vs, rfl, hp, r1⟩ := rs_tup ra
      obtain ⟨p', ws, rfl, hp', r2⟩ := rs_tup rb
      refine .inr (.inr (.inl ⟨p, p', vs, ws, rfl, rfl, hp, hp', by rw [r1.length, r2.length]; exact q.1, fun e => ?_, fun e e' => ?_, fun e e' l hl => ?_⟩))
      · subst e
        cases r1
        exact fin _ _ H q.2 (Same.refl H) rb
      · subst e'
        cases r2
        rw [List.append_nil] at q
        exact fin _ _ H q.2 (Same.refl H) ra
      · exact fin _ _ _ q.2 (sameNew hl) (ok.newT hl (r1.append r2))
    · rename_i x' y' ea eb
      cases dat_im ea (fun _ z => by cases z)
      cases dat_im eb (fun _ z => by cases z)
      cases ra
      cases rb
      exact .inr (.inr (.inr ⟨_, _, rfl, rfl, q.1, fin _ _ H q.2 (Same.refl H) (.str _)⟩))
    · exact q.elim⟩
/-! ### * of numbers, of a tuple or a list and a number -/
theorem rp_rep {K : PySem.W.Frag} {H : Hp} {vs : List V} {ds : List PyData} (r : RpAll K H vs ds) : ∀ n : Nat, RpAll K H (List.replicate n vs).flatten (List.replicate n ds).flatten
  | 0 => .nil
  | n + 1 => by
    rw [List.replicate_succ, List.replicate_succ, List.flatten_cons, List.flatten_cons]
    exact r.append (rp_rep r n)
def oMul : O2 := fun a b Q => match a.dat, b.dat with
  | some (.int i), some (.int j) => CMul i j ∧ Q (.im (.int (i * j)))
  | some (.list ds), some (.int k) => (-(2 ^ 63) ≤ k ∧ k < 2 ^ 63 ∧ ds.length * k.toNat ≤ sizeLine) ∧ Q (.ow (List.replicate k.toNat ds).flatten)
  | some (.tuple ds), some (.int k) => (ds ≠ [] ∧ 1 ≤ k ∧ k ≤ 1000 ∧ ds.length ≤ 1000) ∧ Q (.im (.tuple (List.replicate k.toNat ds).flatten))
  | _, _ => False
theorem oMul_mono : ∀ a b Q Q', (∀ r, Q r → Q' r) → oMul a b Q → oMul a b Q' := fun a b Q Q' k h => by
  unfold oMul at h ⊢
  split at h
  · exact ⟨h.1, k _ h.2⟩
  · exact ⟨h.1, k _ h.2⟩
  · exact ⟨h.1, k _ h.2⟩
  · exact h.elim
theorem os_mul : OpS L X (binaryOp .Mult) oMul :=
  ⟨oMul_mono, _, (OpR.or op_mul (OpR.or op_rep (OpR.or op_repT op_repT1))), fun hd Z B O σ Ha Hb H s x y a b Q ok ra rb q Q' fin => by
    unfold oMul at q
    split at q
    · rename_i i j ea eb
      cases dat_im ea (fun _ z => by cases z)
      cases dat_im eb (fun _ z => by cases z)
      cases ra
      cases rb
      exact .inl ⟨_, _, rfl, rfl, q.1, fin _ _ H q.2 (Same.refl H) (.int _)⟩
    · rename_i ds k ea eb
      cases dat_im eb (fun _ z => by cases z)
      cases rb
      obtain ⟨p, vs, rfl, hp, r1⟩ := rs_list ra ea
      refine .inr (.inl ⟨p, k, vs, rfl, rfl, hp, q.1.1, q.1.2.1, by rw [r1.length]; exact q.1.2.2, fun l hl => ?_⟩)
      exact fin _ _ _ q.2 (sameNew hl) (ok.newL hl hl (rp_rep r1 _))
    · rename_i ds k ea eb
      cases dat_im ea (fun _ z => by cases z)
      cases dat_im eb (fun _ z => by cases z)
      cases rb
      obtain ⟨p, vs, rfl, hp, r1⟩ := rs_tup ra
      by_cases k1 : k = 1
      · subst k1
        refine .inr (.inr (.inr ⟨p, vs, rfl, rfl, hp, ?_⟩))
        have e : (List.replicate (1 : Int).toNat ds).flatten = ds := by
          show (List.replicate 1 ds).flatten = ds
          simp
        rw [e] at q
        exact fin _ _ H q.2 (Same.refl H) ra
      · refine .inr (.inr (.inl ⟨p, k, vs, rfl, rfl, hp, fun e => q.1.1 ?_, by have := q.1.2.1; omega, q.1.2.2.1, by rw [r1.length]; exact q.1.2.2.2, fun l hl => ?_⟩))
        · subst e
          cases r1
          rfl
        · exact fin _ _ _ q.2 (sameNew hl) (ok.newT hl (rp_rep r1 _))
    · exact q.elim⟩
end
end DL

set_option maxRecDepth 100000
set_option maxHeartbeats 2000000
namespace DL
open PySem PySem.Spec PyProof.Rows L2
section
variable {L : Lay} {X : Cx} {pos : Pos}
/-! ### calls of built-ins -/
abbrev OL := List Ent → (Ent → Prop) → Prop
structure CallS (L : Lay) (X : Cx) (f : Value) (o : OL) : Prop where
  mono : ∀ rs Q Q', (∀ r, Q r → Q' r) → o rs Q → o rs Q'
  ex : ∃ r : List V → Hp → VK → Prop, CallR X f r ∧ ∀ hd Z B O σ H0 H s xs rs Q, Ok L X.K hd Z B O σ H s → RsAll L X.K hd Z O σ H0 H xs rs → o rs Q → ∀ Q' : VK, (∀ v e H', Q e → Same H H' → Rs L X.K hd Z O σ H H' v e → Q' v H') → r xs H Q'
def fCall (o : OL) (fs : FA) : FE := fun s Q => fs s fun rs s1 => o rs fun r => Q r s1
variable {x : Str} {p : Pos} {e : Expr} {es : List Expr} {fs : FA} {o : OL} {bid T : String} {m : Nat}
theorem fCall_mono (hc : ∀ rs Q Q', (∀ r, Q r → Q' r) → o rs Q → o rs Q') (ha : XA L X es m fs) : ∀ s Q Q', (∀ r s', Q r s' → Q' r s') → fCall o fs s Q → fCall o fs s Q' :=
  fun s Q Q' k h => ha.mono _ _ _ (fun rs s1 h1 => hc _ _ _ (fun r q => k _ _ q) h1) h
theorem xCallB (hc : CallS L X (.builtin bid) o) (hm : X.mg x = none) (hv : bootBuiltins x = some (.builtin bid)) (ha : XA L X (e :: es) m fs) (hg : Gl X x := by rfl) (hn : x ≠ "__name__" := by decide) (hdb : (x == ("__debug__" : Str)) = false := by decide)
    (he : starEach (e :: es) X.env = (false, eval e X.env) :: starEach es X.env := by rfl) (hpl : (backTo pos (starEach es X.env)).any (·.1) = false := by rfl) : XE L X (.Call (.Name x p) (e :: es) [] pos) (fCall o fs) := by
  obtain ⟨r, hr, q⟩ := hc.ex
  refine ⟨fCall_mono hc.mono ha, fun hd Z B O σ H s Q ok h => tW_of (pe_callB hr hg hm hv paW hn hdb he hpl) (ha.run hd Z B O σ H s _ ok (ha.mono _ _ _ (fun rs s1 h1 vs H1 k1 f1 r1 => ?_) h))⟩
  exact q hd Z B O σ H H1 s1 vs rs _ k1 r1 h1 _ fun v e' H' he' sm rv => he' v H' (k1.same sm) (f1.trans (Mv.of sm)) (Rs.back ok f1 rv)
theorem xCallTy (hc : CallS L X (.type T) o) (hm : X.mg x = none) (hv : bootBuiltins x = some (.type T)) (ha : XA L X (e :: es) m fs) (hg : Gl X x := by rfl) (hn : x ≠ "__name__" := by decide) (hdb : (x == ("__debug__" : Str)) = false := by decide)
    (he : starEach (e :: es) X.env = (false, eval e X.env) :: starEach es X.env := by rfl) (hpl : (backTo pos (starEach es X.env)).any (·.1) = false := by rfl) : XE L X (.Call (.Name x p) (e :: es) [] pos) (fCall o fs) := by
  obtain ⟨r, hr, q⟩ := hc.ex
  refine ⟨fCall_mono hc.mono ha, fun hd Z B O σ H s Q ok h => tW_of (pe_callTy hr hg hm hv paW hn hdb he hpl) (ha.run hd Z B O σ H s _ ok (ha.mono _ _ _ (fun rs s1 h1 vs H1 k1 f1 r1 => ?_) h))⟩
  exact q hd Z B O σ H H1 s1 vs rs _ k1 r1 h1 _ fun v e' H' he' sm rv => he' v H' (k1.same sm) (f1.trans (Mv.of sm)) (Rs.back ok f1 rv)
/-- one datum in, by a function -/
def o1 (g : PyData → (Ent → Prop) → Prop) : OL
  | [a], Q => match a.dat with
    | some d => g d Q
    | none => False
  | _, _ => False
theorem o1_mono {g : PyData → (Ent → Prop) → Prop} (hg : ∀ d Q Q', (∀ r, Q r → Q' r) → g d Q → g d Q') : ∀ rs Q Q', (∀ r, Q r → Q' r) → o1 g rs Q → o1 g rs Q' := fun rs Q Q' k h => by
  match rs, h with
  | [a], h =>
    show match a.dat with | some d => g d Q' | none => False
    have h' : match a.dat with | some d => g d Q | none => False := h
    cases e : a.dat with
    | none => rw [e] at h'; exact h'
    | some d => rw [e] at h'; exact hg _ _ _ k h'
  | [], h => exact h.elim
  | _ :: _ :: _, h => exact h.elim
/-- a list or a tuple that is read -/
theorem rp_seq {K : PySem.W.Frag} {H : Hp} {v : V} {d : PyData} {ds : List PyData} (r : Rp K H v d) (h : items d = some ds) : ∃ p vs, v = .ref p ∧ (SqL K H p vs ∨ SqT K H p vs) ∧ RpAll K H vs ds := by
  cases r with
  | lst s r => cases h; exact ⟨_, _, rfl, .inl (SqL.of s), r⟩
  | tup s r => cases h; exact ⟨_, _, rfl, .inr s, r⟩
  | non => cases h
  | bl _ => cases h
  | int _ => cases h
  | str _ => cases h
  | dct _ _ => cases h
theorem rs_seq {K : PySem.W.Frag} {hd : Addr → Bool} {Z : Zt} {O : List Addr} {σ : L2.St} {H H' : Hp} {v : V} {r : Ent} {d : PyData} {ds : List PyData} (h : Rs L K hd Z O σ H H' v r) (e : r.dat = some d) (hi : items d = some ds) :
    ∃ p vs, v = .ref p ∧ (SqL K H' p vs ∨ SqT K H' p vs) ∧ RpAll K (vis hd O H') vs ds := by
  cases d with
  | list es =>
    cases hi
    obtain ⟨p, vs, h1, h2, h3⟩ := rs_list h e
    exact ⟨p, vs, h1, .inl (SqL.of h2), h3⟩
  | tuple es =>
    cases hi
    cases dat_im e (fun _ z => by cases z)
    obtain ⟨p, vs, h1, h2, h3⟩ := rs_tup h
    exact ⟨p, vs, h1, .inr h2, h3⟩
  | none => cases hi
  | bool _ => cases hi
  | int _ => cases hi
  | str _ => cases hi
  | dict _ => cases hi
/-- the length -/
def lenD : PyData → Option Nat
  | .list es => some es.length
  | .tuple es => some es.length
  | .str x => some x.length
  | _ => none
def gLen (d : PyData) (Q : Ent → Prop) : Prop := match d with
  | .list es => Q (.im (.int es.length))
  | .tuple es => Q (.im (.int es.length))
  | .str x => x.length ≤ sizeLine ∧ Q (.im (.int x.length))
  | _ => False
theorem rs1 {K : PySem.W.Frag} {hd : Addr → Bool} {Z : Zt} {O : List Addr} {σ : L2.St} {H H' : Hp} {xs : List V} {a : Ent} (h : RsAll L K hd Z O σ H H' xs [a]) : ∃ v, xs = [v] ∧ Rs L K hd Z O σ H H' v a := by
  cases h with
  | cons a b => cases b; exact ⟨_, rfl, a⟩
theorem rs2 {K : PySem.W.Frag} {hd : Addr → Bool} {Z : Zt} {O : List Addr} {σ : L2.St} {H H' : Hp} {xs : List V} {a b : Ent} (h : RsAll L K hd Z O σ H H' xs [a, b]) : ∃ v w, xs = [v, w] ∧ Rs L K hd Z O σ H H' v a ∧ Rs L K hd Z O σ H H' w b := by
  cases h with
  | cons a b =>
    cases b with
    | cons c d => cases d; exact ⟨_, _, rfl, a, c⟩
theorem o1_of {g : PyData → (Ent → Prop) → Prop} {rs : List Ent} {Q : Ent → Prop} (h : o1 g rs Q) : ∃ a d, rs = [a] ∧ a.dat = some d ∧ g d Q := by
  match rs, h with
  | [a], h =>
    have h' : match a.dat with | some d => g d Q | none => False := h
    cases e : a.dat with
    | none => rw [e] at h'; exact h'.elim
    | some d => rw [e] at h'; exact ⟨a, d, rfl, e, h'⟩
  | [], h => exact h.elim
  | _ :: _ :: _, h => exact h.elim
theorem cs_len : CallS L X (.builtin "len") (o1 gLen) :=
  ⟨o1_mono fun d Q Q' k h => by
    unfold gLen at h ⊢
    split at h
    · exact k _ h
    · exact k _ h
    · exact ⟨h.1, k _ h.2⟩
    · exact h.elim,
   _, CallR.or call_len_seq call_len_str, fun hd Z B O σ H0 H s xs rs Q ok ra q Q' fin => by
    obtain ⟨a, d, rfl, ea, g⟩ := o1_of q
    obtain ⟨v, rfl, r⟩ := rs1 ra
    unfold gLen at g
    split at g
    · obtain ⟨p, vs, rfl, hq, rp⟩ := rs_seq r ea rfl
      refine .inl ⟨p, vs, rfl, hq, ?_⟩
      rw [rp.length]
      exact fin _ _ H g (Same.refl H) (.int _)
    · obtain ⟨p, vs, rfl, hq, rp⟩ := rs_seq r ea rfl
      refine .inl ⟨p, vs, rfl, hq, ?_⟩
      rw [rp.length]
      exact fin _ _ H g (Same.refl H) (.int _)
    · cases dat_im ea (fun _ z => by cases z)
      cases r
      exact .inr ⟨_, rfl, g.1, fin _ _ H g.2 (Same.refl H) (.int _)⟩
    · exact g.elim⟩
/-- all of them numbers -/
def intsD : List PyData → Option (List Int)
  | [] => some []
  | .int i :: r => (intsD r).map (i :: ·)
  | _ :: _ => none
theorem rp_ints {K : PySem.W.Frag} {H : Hp} : ∀ {vs : List V} {ds : List PyData} {ns : List Int}, RpAll K H vs ds → intsD ds = some ns → vs = ns.map V.int
  | _, _, _, .nil, e => by cases e; rfl
  | _, .int i :: r, ns, .cons a b, e => by
    cases q : intsD r with
    | none => rw [intsD, q] at e; cases e
    | some ms =>
      rw [intsD, q] at e
      cases e
      cases a
      rw [rp_ints b q]
      rfl
  | _, .none :: _, _, .cons _ _, e => by cases e
  | _, .bool _ :: _, _, .cons _ _, e => by cases e
  | _, .str _ :: _, _, .cons _ _, e => by cases e
  | _, .list _ :: _, _, .cons _ _, e => by cases e
  | _, .tuple _ :: _, _, .cons _ _, e => by cases e
  | _, .dict _ :: _, _, .cons _ _, e => by cases e
def boolsD : List PyData → Option (List Bool)
  | [] => some []
  | .bool i :: r => (boolsD r).map (i :: ·)
  | _ :: _ => none
theorem rp_bools {K : PySem.W.Frag} {H : Hp} : ∀ {vs : List V} {ds : List PyData} {ns : List Bool}, RpAll K H vs ds → boolsD ds = some ns → vs = ns.map V.bl
  | _, _, _, .nil, e => by cases e; rfl
  | _, .bool i :: r, ns, .cons a b, e => by
    cases q : boolsD r with
    | none => rw [boolsD, q] at e; cases e
    | some ms =>
      rw [boolsD, q] at e
      cases e
      cases a
      rw [rp_bools b q]
      rfl
  | _, .none :: _, _, .cons _ _, e => by cases e
  | _, .int _ :: _, _, .cons _ _, e => by cases e
  | _, .str _ :: _, _, .cons _ _, e => by cases e
  | _, .list _ :: _, _, .cons _ _, e => by cases e
  | _, .tuple _ :: _, _, .cons _ _, e => by cases e
  | _, .dict _ :: _, _, .cons _ _, e => by cases e
def gSum (d : PyData) (Q : Ent → Prop) : Prop := match d with
  | .list es => match intsD es with
    | some ns => Q (.im (.int ns.sum))
    | none => False
  | _ => False
theorem cs_sum (hc : X.calm = true := by rfl) : CallS L X (.builtin "sum") (o1 gSum) :=
  ⟨o1_mono fun d Q Q' k h => by
    unfold gSum at h ⊢
    split at h
    · split at h
      · exact k _ h
      · exact h.elim
    · exact h.elim,
   _, cr_sum hc, fun hd Z B O σ H0 H s xs rs Q ok ra q Q' fin => by
    obtain ⟨a, d, rfl, ea, g⟩ := o1_of q
    obtain ⟨v, rfl, r⟩ := rs1 ra
    unfold gSum at g
    split at g
    · split at g
      · rename_i e
        obtain ⟨p, vs, rfl, hq, rp⟩ := rs_list r ea
        have ev := rp_ints rp e
        exact ⟨p, _, rfl, SqL.of (by rw [← ev]; exact hq), fin _ _ H g (Same.refl H) (.int _)⟩
      · exact g.elim
    · exact g.elim⟩
def gAny (d : PyData) (Q : Ent → Prop) : Prop := match d with
  | .list es => match boolsD es with
    | some ns => Q (.im (.bool (ns.any id)))
    | none => False
  | _ => False
def gAll (d : PyData) (Q : Ent → Prop) : Prop := match d with
  | .list es => match boolsD es with
    | some ns => Q (.im (.bool (ns.all id)))
    | none => False
  | _ => False
theorem cs_any (hc : X.calm = true := by rfl) : CallS L X (.builtin "any") (o1 gAny) :=
  ⟨o1_mono fun d Q Q' k h => by
    unfold gAny at h ⊢
    split at h
    · split at h
      · exact k _ h
      · exact h.elim
    · exact h.elim,
   _, cr_any hc, fun hd Z B O σ H0 H s xs rs Q ok ra q Q' fin => by
    obtain ⟨a, d, rfl, ea, g⟩ := o1_of q
    obtain ⟨v, rfl, r⟩ := rs1 ra
    unfold gAny at g
    split at g
    · split at g
      · rename_i e
        obtain ⟨p, vs, rfl, hq, rp⟩ := rs_list r ea
        have ev := rp_bools rp e
        exact ⟨p, _, rfl, SqL.of (by rw [← ev]; exact hq), fin _ _ H g (Same.refl H) (.bl _)⟩
      · exact g.elim
    · exact g.elim⟩
theorem cs_all (hc : X.calm = true := by rfl) : CallS L X (.builtin "all") (o1 gAll) :=
  ⟨o1_mono fun d Q Q' k h => by
    unfold gAll at h ⊢
    split at h
    · split at h
      · exact k _ h
      · exact h.elim
    · exact h.elim,
   _, cr_all hc, fun hd Z B O σ H0 H s xs rs Q ok ra q Q' fin => by
    obtain ⟨a, d, rfl, ea, g⟩ := o1_of q
    obtain ⟨v, rfl, r⟩ := rs1 ra
    unfold gAll at g
    split at g
    · split at g
      · rename_i e
        obtain ⟨p, vs, rfl, hq, rp⟩ := rs_list r ea
        have ev := rp_bools rp e
        exact ⟨p, _, rfl, SqL.of (by rw [← ev]; exact hq), fin _ _ H g (Same.refl H) (.bl _)⟩
      · exact g.elim
    · exact g.elim⟩
def gTuple (d : PyData) (Q : Ent → Prop) : Prop := match d with
  | .list es => Q (.im (.tuple es))
  | .tuple es => Q (.im (.tuple es))
  | _ => False
theorem cs_tuple : CallS L X (.type "tuple") (o1 gTuple) :=
  ⟨o1_mono fun d Q Q' k h => by
    unfold gTuple at h ⊢
    split at h
    · exact k _ h
    · exact k _ h
    · exact h.elim,
   _, call_tuple_of, fun hd Z B O σ H0 H s xs rs Q ok ra q Q' fin => by
    obtain ⟨a, d, rfl, ea, g⟩ := o1_of q
    obtain ⟨v, rfl, r⟩ := rs1 ra
    unfold gTuple at g
    split at g
    · obtain ⟨p, vs, rfl, hq, rp⟩ := rs_list r ea
      exact ⟨p, vs, rfl, .inl ⟨SqL.of hq, fun l hl => fin _ _ _ g (sameNew hl) (ok.newT hl rp)⟩⟩
    · cases dat_im ea (fun _ z => by cases z)
      obtain ⟨p, vs, rfl, hq, rp⟩ := rs_tup r
      exact ⟨p, vs, rfl, .inr ⟨hq, fin _ _ H g (Same.refl H) r⟩⟩
    · exact g.elim⟩
def gList (d : PyData) (Q : Ent → Prop) : Prop := match d with
  | .list es => Q (.ow es)
  | .tuple es => Q (.ow es)
  | _ => False
theorem cs_list : CallS L X (.type "list") (o1 gList) :=
  ⟨o1_mono fun d Q Q' k h => by
    unfold gList at h ⊢
    split at h
    · exact k _ h
    · exact k _ h
    · exact h.elim,
   _, call_list_of, fun hd Z B O σ H0 H s xs rs Q ok ra q Q' fin => by
    obtain ⟨a, d, rfl, ea, g⟩ := o1_of q
    obtain ⟨v, rfl, r⟩ := rs1 ra
    unfold gList at g
    split at g
    · obtain ⟨p, vs, rfl, hq, rp⟩ := rs_seq r ea rfl
      exact ⟨p, vs, rfl, hq, fun l hl => fin _ _ _ g (sameNew hl) (ok.newL hl hl rp)⟩
    · obtain ⟨p, vs, rfl, hq, rp⟩ := rs_seq r ea rfl
      exact ⟨p, vs, rfl, hq, fun l hl => fin _ _ _ g (sameNew hl) (ok.newL hl hl rp)⟩
    · exact g.elim⟩
/-! ### isinstance -/
/-- a datum's class -/
def kty : PyData → String
  | .none => "NoneType"
  | .bool _ => "bool"
  | .int _ => "int"
  | .str _ => "str"
  | .list _ => "list"
  | .tuple _ => "tuple"
  | .dict _ => "dict"
theorem rp_tyX {K : PySem.W.Frag} {H : Hp} {v : V} {d : PyData} (r : Rp K H v d) : TyX K H v (.type (kty d)) := by
  cases r with
  | non => exact .base .non
  | bl b => exact .base (.bl b)
  | int i => exact .base (.int i)
  | str x => exact .base (.str x)
  | lst s r => exact .base (.lst s)
  | tup s r =>
    rcases s with (s | ⟨o, s⟩) | ⟨o, its, n, hk, hc, _⟩
    · exact .base (.tup s)
    · exact .fTuple s
    · exact .kTuple hk hc
  | dct s r => exact .base (.dK s)
/-- isinstance(x, T), T a built-in class: t tells -/
structure IsT (T : String) (t : PyData → Bool) : Prop where
  ok : ∀ d, kitB (kty d) T = some (t d)
def fIs (t : PyData → Bool) (f : FE) : FE := fun s Q => f s fun r s1 => match r.dat with
  | some d => Q (.im (.bool (t d))) s1
  | none => False
theorem bIsi : bootBuiltins "isinstance" = some (.builtin "isinstance") := by decide +kernel
theorem xIs {f : FE} {t : PyData → Bool} {y : Str} {py : Pos} (ht : IsT T t) (ha : XE L X e f) (hm : X.mg "isinstance" = none) (hy : X.mg y = none) (hb : bootBuiltins y = some (.type T)) (hg : Gl X "isinstance" := by rfl) (hgy : Gl X y := by rfl)
    (hyn : y ≠ "__name__" := by decide) (hyd : (y == ("__debug__" : Str)) = false := by decide) (he : starEach [e, .Name y py] X.env = (false, eval e X.env) :: starEach [.Name y py] X.env := by rfl) : XE L X (.Call (.Name "isinstance" p) [e, .Name y py] [] pos) (fIs t f) := by
  refine ⟨fun s Q Q' k h => ha.mono _ _ _ (fun r s1 h1 => ?_) h, fun hd Z B O σ H s Q ok h => ?_⟩
  · cases q : r.dat with
    | none => simp only [q] at h1
    | some d => simp only [q] at h1 ⊢; exact k _ _ h1
  · refine tW_of (pe_callB call_isi hg hm bIsi (pa_cons peW (pa_cons (pe_bltn (v := .ty T) hgy hy hb rfl hyn hyd) pa_nil) he) (he := he)) (ha.run hd Z B O σ H s _ ok (ha.mono _ _ _ (fun r s1 h1 v H1 k1 f1 r1 => ?_) h))
    cases q : r.dat with
    | none => simp only [q] at h1
    | some d =>
      simp only [q] at h1
      exact ⟨v, _, _, _, _, rfl, .ty T, rp_tyX (Rs.data r1 q), kit_ty (ht.ok d), h1 _ H1 k1 f1 (.bl _)⟩
/-- isinstance(x, (T, U)) -/
theorem xIs2 {f : FE} {T' : String} {t t' : PyData → Bool} {y y' : Str} {py py' pt : Pos} {k} (ht : IsT T t) (ht' : IsT T' t') (ha : XE L X e f) (hm : X.mg "isinstance" = none) (hy : X.mg y = none) (hb : bootBuiltins y = some (.type T)) (hy' : X.mg y' = none) (hb' : bootBuiltins y' = some (.type T'))
    (hg : Gl X "isinstance" := by rfl) (hgy : Gl X y := by rfl) (hgy' : Gl X y' := by rfl) (hyn : y ≠ "__name__" := by decide) (hyd : (y == ("__debug__" : Str)) = false := by decide) (hyn' : y' ≠ "__name__" := by decide) (hyd' : (y' == ("__debug__" : Str)) = false := by decide) (he : starEach [e, .Tuple [.Name y py, .Name y' py'] k pt] X.env = (false, eval e X.env) :: starEach [.Tuple [.Name y py, .Name y' py'] k pt] X.env := by rfl) :
    XE L X (.Call (.Name "isinstance" p) [e, .Tuple [.Name y py, .Name y' py'] k pt] [] pos) (fIs (fun d => t d || t' d) f) := by
  refine ⟨fun s Q Q' k h => ha.mono _ _ _ (fun r s1 h1 => ?_) h, fun hd Z B O σ H s Q ok h => ?_⟩
  · cases q : r.dat with
    | none => simp only [q] at h1
    | some d => simp only [q] at h1 ⊢; exact k _ _ h1
  · refine tW_of (pe_callB call_isiT hg hm bIsi (pa_cons peW (pa_cons (pe_tup (pa_cons (pe_bltn (v := .ty T) hgy hy hb rfl hyn hyd) (pa_cons (pe_bltn (v := .ty T') hgy' hy' hb' rfl hyn' hyd') pa_nil))) pa_nil) he) (he := he)) (ha.run hd Z B O σ H s _ ok (ha.mono _ _ _ (fun r s1 h1 v H1 k1 f1 r1 => ?_) h))
    cases q : r.dat with
    | none => simp only [q] at h1
    | some d =>
      simp only [q] at h1
      refine ⟨by show 2 ≤ sizeLine; decide, fun l hl => ?_⟩
      refine ⟨v, l, _, _, [.type T, .type T'], t d || t' d, rfl, upd_same, .cons (.ty T) (.cons (.ty T') .nil), rp_tyX ((Rs.data r1 q).same (sameNew hl)), ?_, h1 _ _ (k1.same (sameNew hl)) (f1.trans (Mv.of (sameNew hl))) (.bl _)⟩
      refine kitAny_cons (kit_ty (ht.ok d)) (fun z => ?_) (fun z => by rw [z]; rfl)
      rw [z, Bool.false_or]
      exact kitAny_cons (kit_ty (ht'.ok d)) (fun z' => by rw [z']; exact kitAny_nil) (fun z' => z')
def isTupleD : PyData → Bool
  | .tuple _ => true
  | _ => false
def isListD : PyData → Bool
  | .list _ => true
  | _ => false
def isIntD : PyData → Bool
  | .int _ => true
  | .bool _ => true
  | _ => false
def isBoolD : PyData → Bool
  | .bool _ => true
  | _ => false
def isStrD : PyData → Bool
  | .str _ => true
  | _ => false
def isDictD : PyData → Bool
  | .dict _ => true
  | _ => false
theorem kty_mem (d : PyData) : kty d ∈ ["NoneType", "bool", "int", "str", "list", "tuple", "dict"] := by cases d <;> simp [kty]
theorem kb_of {T : String} {t : PyData → Bool} (tk : String → Bool) (h : ∀ s ∈ ["NoneType", "bool", "int", "str", "list", "tuple", "dict"], kitB s T = some (tk s)) (e : ∀ d, tk (kty d) = t d) : IsT T t := ⟨fun d => by rw [← e d]; exact h _ (kty_mem d)⟩
theorem kb_tuple : IsT "tuple" isTupleD := kb_of (fun s => s == "tuple") (by decide +kernel) (fun d => by cases d <;> rfl)
theorem kb_list : IsT "list" isListD := kb_of (fun s => s == "list") (by decide +kernel) (fun d => by cases d <;> rfl)
theorem kb_int : IsT "int" isIntD := kb_of (fun s => s == "int" || s == "bool") (by decide +kernel) (fun d => by cases d <;> rfl)
theorem kb_bool : IsT "bool" isBoolD := kb_of (fun s => s == "bool") (by decide +kernel) (fun d => by cases d <;> rfl)
theorem kb_str : IsT "str" isStrD := kb_of (fun s => s == "str") (by decide +kernel) (fun d => by cases d <;> rfl)
theorem kb_dict : IsT "dict" isDictD := kb_of (fun s => s == "dict") (by decide +kernel) (fun d => by cases d <;> rfl)
end
end DL

set_option maxRecDepth 100000
set_option maxHeartbeats 2000000
namespace DL
open PySem PySem.Spec PyProof.Rows L2
section
variable {L : Lay} {X : Cx} {pos : Pos}
/-! ### indices, slices -/
def gIx (d : PyData) (i : PyData) (Q : Ent → Prop) : Prop := match items d, i with
  | some ds, .int k => match atI ds k with
    | some e => Q (.im e)
    | none => False
  | _, _ => False
def oIx : O2 := fun a b Q => match a.dat, b.dat with
  | some d, some i => gIx d i Q
  | _, _ => False
theorem gIx_mono {d i : PyData} {Q Q' : Ent → Prop} (k : ∀ r, Q r → Q' r) (h : gIx d i Q) : gIx d i Q' := by
  unfold gIx at h ⊢
  split at h
  · split at h
    · exact k _ h
    · exact h.elim
  · exact h.elim
theorem oIx_mono : ∀ a b Q Q', (∀ r, Q r → Q' r) → oIx a b Q → oIx a b Q' := fun a b Q Q' k h => by
  unfold oIx at h ⊢
  split at h
  · exact gIx_mono k h
  · exact h.elim
theorem rp_atI {K : PySem.W.Frag} {H : Hp} {vs : List V} {ds : List PyData} {k : Int} {d : PyData} (r : RpAll K H vs ds) (h : atI ds k = some d) : ∃ v, atI vs k = some v ∧ Rp K H v d := by
  unfold atI at h ⊢
  rw [r.length]
  obtain ⟨j, h1, h2⟩ := Option.bind_eq_some_iff.mp h
  obtain ⟨v, h3, h4⟩ := r.getD h2
  exact ⟨v, by rw [h1]; exact h3, h4⟩
variable {a b : Expr} {fa fb : FE}
theorem xIx (ha : XE L X a fa) (hb : XE L X b fb) (hs : PlainIx b := by exact fun _ _ => rfl) : XE L X (.Subscript a b pos) (f2 oIx fa fb) := by
  refine ⟨f2_mono oIx_mono ha hb, fun hd Z B O σ H s Q ok h => ?_⟩
  refine tW_of (pe_ix (IxR.or ix_list ix_tup) peW peW hs) (ha.run hd Z B O σ H s _ ok (ha.mono _ _ _ (fun e1 s1 h1 x H1 k1 f1 r1 => ?_) h))
  refine hb.run hd Z B O σ H1 s1 _ k1 (hb.mono _ _ _ (fun e2 s2 h2 y H2 k2 f2 r2 => ?_) h1)
  have r1' := Rs.step k1 f2 r1
  unfold oIx at h2
  split at h2
  · rename_i d i ea eb
    unfold gIx at h2
    split at h2
    · rename_i ds k hi
      split at h2
      · rename_i e he
        cases dat_im eb (fun _ z => by cases z)
        cases r2
        obtain ⟨p, vs, rfl, hq, rp⟩ := rs_seq r1' ea hi
        obtain ⟨v, h3, h4⟩ := rp_atI rp he
        rcases hq with hq | hq
        · exact .inl ⟨p, vs, k, v, rfl, rfl, hq, h3, h2 v H2 k2 (f1.trans f2) h4⟩
        · exact .inr ⟨p, vs, k, v, rfl, rfl, hq, h3, h2 v H2 k2 (f1.trans f2) h4⟩
      · exact h2.elim
    · exact h2.elim
  · exact h2.elim
/-- xs[lo:hi] -/
def cutD (ds : List PyData) (lo hi : Option Int) : List PyData := (ds.drop (HT.sIx ds.length 0 lo)).take (HT.sIx ds.length ds.length hi - HT.sIx ds.length 0 lo)
theorem rp_cut {K : PySem.W.Frag} {H : Hp} {vs : List V} {ds : List PyData} (r : RpAll K H vs ds) (lo hi : Option Int) : RpAll K H (cutV vs lo hi) (cutD ds lo hi) := by
  unfold cutV cutD
  rw [r.length]
  exact (r.drop _).take _
def gSl (d : PyData) (lo hi : Option Int) (Q : Ent → Prop) : Prop := match d with
  | .list ds => Q (.ow (cutD ds lo hi))
  | .tuple ds => Q (.im (.tuple (cutD ds lo hi)))
  | _ => False
theorem gSl_mono {d : PyData} {lo hi : Option Int} {Q Q' : Ent → Prop} (k : ∀ r, Q r → Q' r) (h : gSl d lo hi Q) : gSl d lo hi Q' := by
  unfold gSl at h ⊢
  split at h
  · exact k _ h
  · exact k _ h
  · exact h.elim
/-- a part of a slice -/
abbrev FO := S → (Option Int → S → Prop) → Prop
def toW (X : Cx) (o : Option Expr) : TO := fun σ H Q => ∃ t, PO X o t ∧ t σ H Q
structure XO (L : Lay) (X : Cx) (o : Option Expr) (f : FO) : Prop where
  mono : ∀ s Q Q', (∀ r s', Q r s' → Q' r s') → f s Q → f s Q'
  po : ∃ t, PO X o t ∧ ∀ hd Z B O σ H s Q, Ok L X.K hd Z B O σ H s → f s (fun r s' => ∀ H', Ok L X.K hd Z B O σ H' s' → Mv Z H H' s s' → Q r H') → t σ H Q
def fNoPart : FO := fun s Q => Q none s
def isI : Ent → (Int → Prop) → Prop
  | .im (.int i), Q => Q i
  | _, _ => False
theorem isI_mono {r : Ent} {Q Q' : Int → Prop} (k : ∀ b, Q b → Q' b) (h : isI r Q) : isI r Q' := by
  unfold isI at h ⊢
  split at h
  · exact k _ h
  · exact h.elim
def fPart (f : FE) : FO := fun s Q => f s fun r s1 => isI r fun i => Q (some i) s1
theorem xoNone : XO L X none fNoPart := ⟨fun s Q Q' k h => k _ _ h, _, po_none, fun hd Z B O σ H s Q ok h => h H ok Mv.refl⟩
theorem xoSome (ha : XE L X a fa) : XO L X (some a) (fPart fa) := by
  refine ⟨fun s Q Q' k h => ha.mono _ _ _ (fun r s1 h1 => isI_mono (fun i q => k _ _ q) h1) h, _, po_some peW, fun hd Z B O σ H s Q ok h => ha.run hd Z B O σ H s _ ok (ha.mono _ _ _ (fun r s1 h1 v H1 k1 f1 r1 => ?_) h)⟩
  unfold isI at h1
  split at h1
  · cases r1
    exact ⟨_, rfl, h1 H1 k1 f1⟩
  · exact h1.elim
def fSl (f : FE) (fl fh : FO) : FE := fun s Q => f s fun r s1 => fl s1 fun lo s2 => fh s2 fun hi s3 => match r.dat with
  | some d => gSl d lo hi fun e => Q e s3
  | none => False
theorem xSl {lo hi : Option Expr} {fl fh : FO} {p2 : Pos} (ha : XE L X a fa) (hl : XO L X lo fl) (hh : XO L X hi fh) : XE L X (.Subscript a (.Slice lo hi none p2) pos) (fSl fa fl fh) := by
  obtain ⟨tl, pl, ql⟩ := hl.po
  obtain ⟨th, ph, qh⟩ := hh.po
  refine ⟨fun s Q Q' k h => ha.mono _ _ _ (fun r s1 h1 => hl.mono _ _ _ (fun l s2 h2 => hh.mono _ _ _ (fun u s3 h3 => ?_) h2) h1) h, fun hd Z B O σ H s Q ok h => ?_⟩
  · cases e : r.dat with
    | none => simp only [e] at h3
    | some d => simp only [e] at h3 ⊢; exact gSl_mono (fun r q => k _ _ q) h3
  · refine tW_of (pe_slice (SlR.or sl_list sl_tupA) peW pl ph) (ha.run hd Z B O σ H s _ ok (ha.mono _ _ _ (fun r s1 h1 v H1 k1 f1 r1 => ?_) h))
    refine ql hd Z B O σ H1 s1 _ k1 (hl.mono _ _ _ (fun l s2 h2 H2 k2 f2 => ?_) h1)
    refine qh hd Z B O σ H2 s2 _ k2 (hh.mono _ _ _ (fun u s3 h3 H3 k3 f3 => ?_) h2)
    have r3 := Rs.step k1 (f2.trans f3) r1
    have fr := (f1.trans f2).trans f3
    cases e : r.dat with
    | none => simp only [e] at h3
    | some d =>
      simp only [e] at h3
      unfold gSl at h3
      split at h3
      · obtain ⟨p, vs, rfl, hq, rp⟩ := rs_list r3 e
        refine .inl ⟨p, vs, rfl, SqL.of hq, fun q hq' => h3 _ _ (k3.same (sameNew hq')) (fr.trans (Mv.of (sameNew hq'))) (Rs.back ok fr (k3.newL hq' hq' (rp_cut rp l u)))⟩
      · rename_i ds
        cases dat_im e (fun _ z => by cases z)
        obtain ⟨p, vs, rfl, hq, rp⟩ := rs_tup r3
        refine .inr ⟨p, vs, rfl, hq, fun hw => ?_, fun _ q hq' => h3 _ _ (k3.same (sameNew hq')) (fr.trans (Mv.of (sameNew hq'))) (k3.newT hq' (rp_cut rp l u))⟩
        have e' : cutD ds l u = ds := by
          unfold cutD
          rw [← rp.length, hw.1, hw.2]
          simp only [List.drop_zero, Nat.sub_zero]
          rw [rp.length, List.take_length]
        refine h3 _ _ k3 fr ?_
        rw [e']
        exact r3
      · exact h3.elim

/-! ### a def's promise -/
abbrev FF := List Ent → Nat → (Ent → Nat → Prop) → Prop
def spW (L : Lay) (K : PySem.W.Frag) (F : FF) : Sp := fun vs H Q _ => ∃ hd Z es n, (∀ a, hd a = true → HkAt H a) ∧ (∀ a, zin Z a → hd a = true) ∧ (∀ z, Z = some z → L.Stk z n H) ∧ RsAll L K hd Z [] [] H H vs es ∧
  F es n (fun r m => ∀ v H', Frm Z H H' → (∀ z, Z = some z → L.Stk z m H') → Rs L K hd Z [] [] H H' v r → Q v H')
/-- the def x of the module, told by data -/
structure DefOk (L : Lay) (P : Program) (w : World) (K : PySem.W.Frag) (mg : Str → Option Value) (base : Heap) (k : Nat) (x : Str) (F : FF) : Prop where
  mono : ∀ (A : Around) (_ : Shared), Room k A → ∀ es n Q Q', (∀ r m, Q r m → Q' r m) → F es n Q → F es n Q'
  ex : ∃ f fd ps, FnOk P w K mg base CX0 k f fd ps (spW L K F) ∧ mg x = some (.ref f) ∧ PySem.W.keepIn K (.ref f) = true ∧ Binds K fd ps []
/-- results as arguments -/
def argsOf : List Ent → (List Ent → Prop) → Prop
  | [], Q => Q []
  | .im d :: rs, Q => argsOf rs fun es => Q (.im d :: es)
  | .ow ds :: rs, Q => argsOf rs fun es => Q (.im (.list ds) :: es)
  | .ob t d :: rs, Q => argsOf rs fun es => Q (.ob t d :: es)
  | .dr :: rs, Q => argsOf rs fun es => Q (.dr :: es)
  | .br _ _ :: _, _ => False
theorem argsOf_mono : ∀ {rs : List Ent} {Q Q' : List Ent → Prop}, (∀ es, Q es → Q' es) → argsOf rs Q → argsOf rs Q'
  | [], _, _, k, h => k _ h
  | .im _ :: rs, _, _, k, h => argsOf_mono (rs := rs) (fun es q => k _ q) h
  | .ow _ :: rs, _, _, k, h => argsOf_mono (rs := rs) (fun es q => k _ q) h
  | .ob _ _ :: rs, _, _, k, h => argsOf_mono (rs := rs) (fun es q => k _ q) h
  | .dr :: rs, _, _, k, h => argsOf_mono (rs := rs) (fun es q => k _ q) h
  | .br _ _ :: _, _, _, _, h => h.elim
/-- hidden at a call: what is hidden, and one's own -/
def hdo (hd : Addr → Bool) (O : List Addr) : Addr → Bool := fun a => hd a || decide (a ∈ O)
theorem vis_hdo {hd : Addr → Bool} {O : List Addr} {H : Hp} : vis (hdo hd O) [] H = vis hd O H := by
  funext a
  unfold vis hdo
  by_cases h1 : hd a = true <;> by_cases h2 : a ∈ O <;> simp [h1, h2]
theorem vis_hdo1 {hd : Addr → Bool} {O : List Addr} {H : Hp} {p : Addr} : vis (hdo hd O) [p] H = vis hd (p :: O) H := by
  funext a
  unfold vis hdo
  by_cases h1 : hd a = true <;> by_cases h2 : a ∈ O <;> by_cases h3 : a = p <;> simp [h1, h2, h3]
theorem args_v {K : PySem.W.Frag} {hd : Addr → Bool} {Z : Zt} {O : List Addr} {σ : L2.St} {H0 H : Hp} : ∀ {vs : List V} {rs : List Ent} {Q : List Ent → Prop}, RsAll L K hd Z O σ H0 H vs rs → argsOf rs Q → ∃ es, RsAll L K (hdo hd O) Z [] [] H H vs es ∧ Q es
  | _, _, _, .nil, h => ⟨[], .nil, h⟩
  | _, .im d :: rs, _, .cons a b, h => by
    obtain ⟨es, h1, h2⟩ := args_v (rs := rs) b h
    exact ⟨_, .cons (by show Rp K (vis (hdo hd O) [] H) _ d; rw [vis_hdo]; exact a) h1, h2⟩
  | _, .ow ds :: rs, _, .cons a b, h => by
    obtain ⟨es, h1, h2⟩ := args_v (rs := rs) b h
    exact ⟨_, .cons (by show Rp K (vis (hdo hd O) [] H) _ (.list ds); rw [vis_hdo]; exact Rs.keeps a rfl) h1, h2⟩
  | _, .ob t d :: rs, _, .cons a b, h => by
    obtain ⟨es, h1, h2⟩ := args_v (rs := rs) b h
    exact ⟨_, .cons (by show L.Ob K t d _ (vis (hdo hd O) [] H); rw [vis_hdo]; exact a) h1, h2⟩
  | _, .dr :: rs, _, .cons a b, h => by
    obtain ⟨es, h1, h2⟩ := args_v (rs := rs) b h
    exact ⟨.dr :: es, .cons (r := .dr) a h1, h2⟩
  | _, .br _ _ :: _, _, .cons _ _, h => h.elim
theorem Rs.fromCall {K : PySem.W.Frag} {hd : Addr → Bool} {Z : Zt} {O : List Addr} {σ : L2.St} {H H' : Hp} {v : V} {r : Ent} (h : Rs L K (hdo hd O) Z [] [] H H' v r) : Rs L K hd Z O σ H H' v r := by
  cases r with
  | im d =>
    have h' : Rp K (vis (hdo hd O) [] H') v d := h
    rw [vis_hdo] at h'
    exact h'
  | ow ds =>
    obtain ⟨p, vs, e1, e2, e3, _, e5, e6⟩ := h
    unfold hdo at e3
    rw [Bool.or_eq_false_iff, decide_eq_false_iff_not] at e3
    rw [vis_hdo1] at e6
    exact ⟨p, vs, e1, e2, e3.1, e3.2, e5, e6⟩
  | br i ds =>
    obtain ⟨p, vs, _, e2, _⟩ := h
    simp at e2
  | ob t d =>
    have h' : L.Ob K t d v (vis (hdo hd O) [] H') := h
    rw [vis_hdo] at h'
    exact h'
  | dr => exact h
def fFn (F : FF) (fs : FA) : FE := fun s Q => fs s fun rs s1 => argsOf rs fun es => F es s1.n fun r m => Q r { s1 with n := m }
section
variable {x : Str} {p : Pos} {e : Expr} {es : List Expr} {fs : FA} {m k : Nat} {F : FF}
theorem fFn_mono (hF : ∀ es n Q Q', (∀ r m, Q r m → Q' r m) → F es n Q → F es n Q') (ha : XA L X es m fs) : ∀ s Q Q', (∀ r s', Q r s' → Q' r s') → fFn F fs s Q → fFn F fs s Q' :=
  fun s Q Q' k h => ha.mono _ _ _ (fun rs s1 h1 => argsOf_mono (fun es h2 => hF _ _ _ _ (fun r m q => k _ _ q) h2) h1) h
theorem run_F {hd : Addr → Bool} {Z : Zt} {B : Hp} {O : List Addr} {σ : L2.St} {H H1 : Hp} {s s1 : S} {Q : VK} {vs : List V} {rs : List Ent} (ok : Ok L X.K hd Z B O σ H s) (f1 : Mv Z H H1 s s1) (k1 : Ok L X.K hd Z B O σ H1 s1) (r1 : RsAll L X.K hd Z O σ H H1 vs rs)
    (hF : ∀ es n Q Q', (∀ r m, Q r m → Q' r m) → F es n Q → F es n Q')
    (h1 : argsOf rs fun es => F es s1.n fun r m => ∀ v H', Ok L X.K hd Z B O σ H' { s1 with n := m } → Mv Z H H' s { s1 with n := m } → Rs L X.K hd Z O σ H H' v r → Q v H') : spW L X.K F vs H1 Q E0 := by
  obtain ⟨es, h2, h3⟩ := args_v r1 h1
  refine ⟨hdo hd O, Z, es, s1.n, fun a ha => ?_, fun a ha => ?_, k1.stk, h2, hF _ _ _ _ (fun r m q v H' fr st rv => ?_) h3⟩
  · unfold hdo at ha
    rw [Bool.or_eq_true, decide_eq_true_iff] at ha
    rcases ha with ha | ha
    · exact k1.live ha
    · obtain ⟨xs, e⟩ := (k1.offO a ha).2.2
      exact ⟨_, e, .inl ⟨xs, rfl⟩⟩
  · unfold hdo
    rw [(k1.offZ a ha).2, Bool.true_or]
  · exact q v H' (k1.step fr st) (f1.trans ⟨fr, rfl⟩) (Rs.back ok f1 (Rs.fromCall rv))
theorem xCall (D : DefOk L X.prog X.w X.K X.mg X.base k x F) (hr : Room k X.A) (ha : XA L X (e :: es) m fs) (hg : Gl X x := by rfl) (hdb : (x == ("__debug__" : Str)) = false := by decide)
    (he : starEach (e :: es) X.env = (false, eval e X.env) :: starEach es X.env := by rfl) (hpl : (backTo pos (starEach es X.env)).any (·.1) = false := by rfl) : XE L X (.Call (.Name x p) (e :: es) [] pos) (fFn F fs) := by
  obtain ⟨f, fd, ps, G, hm, hk, hb⟩ := D.ex
  refine ⟨fFn_mono (D.mono X.A X.s_0 hr) ha, fun hd Z B O σ H s Q ok h => tW_of (pe_call G hr hg hm hk hb .nil pass0 paW hdb he hpl) (ha.run hd Z B O σ H s _ ok (ha.mono _ _ _ (fun rs s1 h1 vs H1 k1 f1 r1 => ?_) h))⟩
  rw [List.append_nil]
  exact run_F ok f1 k1 r1 (D.mono X.A X.s_0 hr) h1
theorem xCall0 (D : DefOk L X.prog X.w X.K X.mg X.base k x F) (hr : Room k X.A) (hg : Gl X x := by rfl) (hdb : (x == ("__debug__" : Str)) = false := by decide) : XE L X (.Call (.Name x p) [] [] pos) (fFn F fNil) := by
  obtain ⟨f, fd, ps, G, hm, hk, hb⟩ := D.ex
  refine ⟨fFn_mono (L := L) (X := X) (D.mono X.A X.s_0 hr) xaNil, fun hd Z B O σ H s Q ok h => tW_of (pe_call0 G hr hg hm hk hb .nil pass0 hdb) ?_⟩
  exact run_F (vs := []) ok Mv.refl ok .nil (D.mono X.A X.s_0 hr) h
end
end
end DL

set_option maxRecDepth 100000
set_option maxHeartbeats 2000000
namespace DL
open PySem PySem.Spec PyProof.Rows L2
section
variable {L : Lay} {X : Cx} {pos : Pos}
/-! ### the slots set -/
theorem Ok.set {K : PySem.W.Frag} {hd : Addr → Bool} {Z : Zt} {B : Hp} {O : List Addr} {σ : L2.St} {H : Hp} {s : S} (k : Ok L K hd Z B O σ H s) (i : Nat) {v : V} {e : Option Ent} (he : ∀ x, e = some x → (∀ ds, x ≠ .ow ds) ∧ Sl L K hd Z O H v x) :
    Ok L K hd Z B O (σ.set i (some v)) H { s with env := pt s.env i e } := by
  have ix : ∀ (j : Nat) (x : Ent), (pt s.env i e)[j]? = some (some x) → (j = i ∧ i < s.env.length ∧ e = some x) ∨ (j ≠ i ∧ s.env[j]? = some (some x)) := fun j x h => by
    rw [pt_set] at h
    by_cases hj : j = i
    · subst hj
      by_cases hl : j < s.env.length
      · rw [List.getElem?_set_self hl] at h
        exact .inl ⟨rfl, hl, Option.some.inj h⟩
      · rw [List.getElem?_eq_none (by simpa using hl)] at h
        cases h
    · rw [List.getElem?_set_ne (Ne.symm hj)] at h
      exact .inr ⟨hj, h⟩
  refine ⟨k.stood, k.offO, k.offZ, k.liveB, k.stk, fun j x h => ?_, fun j1 j2 ds es p h1 h2 h3 h4 => ?_, by rw [pt_set, List.length_set, List.length_set]; exact k.len⟩
  · rcases ix j x h with ⟨rfl, hl, rfl⟩ | ⟨hj, h⟩
    · exact ⟨v, List.getElem?_set_self (by rw [← k.len]; exact hl), (he x rfl).2⟩
    · obtain ⟨w, h1, h2⟩ := k.slot j x h
      exact ⟨w, by rw [List.getElem?_set_ne (Ne.symm hj)]; exact h1, h2⟩
  · rcases ix _ _ h1 with ⟨_, _, q⟩ | ⟨n1, g1⟩
    · exact absurd rfl ((he _ q).1 ds)
    · rcases ix _ _ h2 with ⟨_, _, q⟩ | ⟨n2, g2⟩
      · exact absurd rfl ((he _ q).1 es)
      · rw [List.getElem?_set_ne (Ne.symm n1)] at h3
        rw [List.getElem?_set_ne (Ne.symm n2)] at h4
        exact k.apart _ _ _ _ _ g1 g2 h3 h4
/-- a slot that is not known any more -/
theorem Ok.drop {K : PySem.W.Frag} {hd : Addr → Bool} {Z : Zt} {B : Hp} {O : List Addr} {σ : L2.St} {H : Hp} {s : S} (k : Ok L K hd Z B O σ H s) (i : Nat) : Ok L K hd Z B O σ H { s with env := pt s.env i none } := by
  have ix : ∀ (j : Nat) (x : Ent), (pt s.env i none)[j]? = some (some x) → s.env[j]? = some (some x) := fun j x h => by
    rw [pt_set] at h
    by_cases hj : j = i
    · subst hj
      by_cases hl : j < s.env.length
      · rw [List.getElem?_set_self hl] at h
        cases h
      · rw [List.getElem?_eq_none (by simpa using hl)] at h
        cases h
    · rw [List.getElem?_set_ne (Ne.symm hj)] at h
      exact h
  exact ⟨k.stood, k.offO, k.offZ, k.liveB, k.stk, fun j x h => k.slot j x (ix j x h), fun j1 j2 ds es p h1 h2 => k.apart j1 j2 ds es p (ix _ _ h1) (ix _ _ h2), by rw [pt_set, List.length_set]; exact k.len⟩
/-- a new list becomes one's own -/
theorem Ok.own {K : PySem.W.Frag} {hd : Addr → Bool} {Z : Zt} {B : Hp} {O : List Addr} {σ : L2.St} {H H0 : Hp} {s s0 : S} (k : Ok L K hd Z B O σ H s) (k0 : Ok L K hd Z B O σ H0 s0) (i : Nat) {v : V} {ds : List PyData}
    (r : Rs L K hd Z O σ H0 H v (.ow ds)) (mv : Mv Z H0 H s0 s) :
    ∃ p, v = .ref p ∧ Ok L K hd Z B (p :: O) (σ.set i (some v)) H { s with env := pt s.env i (some (.ow ds)) } := by
  have fr := mv.fr
  have new : ∀ (j : Nat) (e : Ent), s.env[j]? = some (some e) → s0.env[j]? = some (some e) := fun j e h => by rw [← mv.env]; exact h
  obtain ⟨p, vs, rfl, e2, e3, e4, e5, e6⟩ := r
  have vs0 : Same (vis hd O H0) (vis hd (p :: O) H) := fun a o e => by
    obtain ⟨g1, g2, g3⟩ := vis_some.mp e
    have ne : a ≠ p := ne_of_none g3 e2
    exact vis_some.mpr ⟨g1, fun q => (List.mem_cons.mp q).elim ne g2, fr a o (fun q => by rw [(k0.offZ a q).2] at g1; cases g1) g3⟩
  have ix : ∀ (j : Nat) (x : Ent), (pt s.env i (some (.ow ds)))[j]? = some (some x) → (j = i ∧ i < s.env.length ∧ x = .ow ds) ∨ (j ≠ i ∧ s.env[j]? = some (some x)) := fun j x h => by
    rw [pt_set] at h
    by_cases hj : j = i
    · subst hj
      by_cases hl : j < s.env.length
      · rw [List.getElem?_set_self hl] at h
        cases h
        exact .inl ⟨rfl, hl, rfl⟩
      · rw [List.getElem?_eq_none (by simpa using hl)] at h
        cases h
    · rw [List.getElem?_set_ne (Ne.symm hj)] at h
      exact .inr ⟨hj, h⟩
  have Bp : B p = none := by
    cases q : B p with
    | none => rfl
    | some o => rw [k0.stood p o q] at e2; cases e2
  refine ⟨p, rfl, k.stood, fun a ha => ?_, k.offZ, k.liveB, k.stk, fun j x h => ?_, fun j1 j2 es fs q h1 h2 h3 h4 => ?_, by rw [pt_set, List.length_set, List.length_set]; exact k.len⟩
  · rcases List.mem_cons.mp ha with rfl | ha
    · exact ⟨Bp, e3, vs, e5⟩
    · exact k.offO a ha
  · rcases ix j x h with ⟨rfl, hl, rfl⟩ | ⟨hj, h⟩
    · exact ⟨.ref p, List.getElem?_set_self (by rw [← k.len]; exact hl), p, vs, rfl, List.mem_cons_self, e5, e6⟩
    · obtain ⟨w, h1, h2⟩ := k0.slot j x (new j x h)
      refine ⟨w, by rw [List.getElem?_set_ne (Ne.symm hj)]; exact h1, ?_⟩
      cases x with
      | im d => exact Rp.same vs0 h2
      | ow es =>
        obtain ⟨q, ws, g1, g2, g3, g4⟩ := h2
        exact ⟨q, ws, g1, List.mem_cons_of_mem _ g2, fr q _ (fun z => by have := (k0.offO q g2).2.1; rw [(k0.offZ q z).2] at this; cases this) g3, g4.same vs0⟩
      | br _ _ => exact h2
      | ob t d => exact L.mono vs0 h2
      | dr => exact h2
  · have old : ∀ (j : Nat) (gs : List PyData), j ≠ i → s.env[j]? = some (some (.ow gs)) → σ[j]? = some (some (.ref p)) → False := fun j gs _ g h => by
      obtain ⟨w, h1, q', ws, g1, g2, _⟩ := k.slot j _ g
      rw [h] at h1
      cases h1
      cases g1
      exact e4 g2
    rcases ix _ _ h1 with ⟨rfl, hl, _⟩ | ⟨n1, g1⟩
    · rcases ix _ _ h2 with ⟨rfl, _, _⟩ | ⟨n2, g2⟩
      · rfl
      · rw [List.getElem?_set_self (by rw [← k.len]; exact hl)] at h3
        cases h3
        rw [List.getElem?_set_ne (Ne.symm n2)] at h4
        exact (old _ _ n2 g2 h4).elim
    · rw [List.getElem?_set_ne (Ne.symm n1)] at h3
      rcases ix _ _ h2 with ⟨rfl, hl, _⟩ | ⟨n2, g2⟩
      · rw [List.getElem?_set_self (by rw [← k.len]; exact hl)] at h4
        cases h4
        exact (old _ _ n1 g1 h3).elim
      · rw [List.getElem?_set_ne (Ne.symm n2)] at h4
        exact k.apart _ _ _ _ _ g1 g2 h3 h4
/-- a new list is held as one's own, no name has it yet -/
theorem Ok.hold {K : PySem.W.Frag} {hd : Addr → Bool} {Z : Zt} {B : Hp} {O : List Addr} {σ : L2.St} {H H0 : Hp} {s s0 : S} (k : Ok L K hd Z B O σ H s) (k0 : Ok L K hd Z B O σ H0 s0) {p : Addr} {ds : List PyData}
    (r : Rs L K hd Z O σ H0 H (.ref p) (.ow ds)) (mv : Mv Z H0 H s0 s) : Ok L K hd Z B (p :: O) σ H s := by
  have fr := mv.fr
  have new : ∀ (j : Nat) (e : Ent), s.env[j]? = some (some e) → s0.env[j]? = some (some e) := fun j e h => by rw [← mv.env]; exact h
  obtain ⟨p', vs, ep, e2, e3, e4, e5, e6⟩ := r
  cases ep
  have vs0 : Same (vis hd O H0) (vis hd (p :: O) H) := fun a o e => by
    obtain ⟨g1, g2, g3⟩ := vis_some.mp e
    have ne : a ≠ p := ne_of_none g3 e2
    exact vis_some.mpr ⟨g1, fun q => (List.mem_cons.mp q).elim ne g2, fr a o (fun q => by rw [(k0.offZ a q).2] at g1; cases g1) g3⟩
  have Bp : B p = none := by
    cases q : B p with
    | none => rfl
    | some o => rw [k0.stood p o q] at e2; cases e2
  refine ⟨k.stood, fun a ha => ?_, k.offZ, k.liveB, k.stk, fun j x h => ?_, k.apart, k.len⟩
  · rcases List.mem_cons.mp ha with rfl | ha
    · exact ⟨Bp, e3, vs, e5⟩
    · exact k.offO a ha
  · obtain ⟨w, h1, h2⟩ := k0.slot j x (new j x h)
    refine ⟨w, h1, ?_⟩
    cases x with
    | im d => exact Rp.same vs0 h2
    | ow es =>
      obtain ⟨q, ws, g1, g2, g3, g4⟩ := h2
      exact ⟨q, ws, g1, List.mem_cons_of_mem _ g2, fr q _ (fun z => by have := (k0.offO q g2).2.1; rw [(k0.offZ q z).2] at this; cases this) g3, g4.same vs0⟩
    | br _ _ => exact h2
    | ob t d => exact L.mono vs0 h2
    | dr => exact h2
/-! ### statements -/
/-- what a name may hold: no list of one's own -/
def plainR : Ent → (Ent → Prop) → Prop
  | .im d, Q => Q (.im d)
  | .ow ds, Q => Q (.im (.list ds))
  | .ob t d, Q => Q (.ob t d)
  | .dr, Q => Q .dr
  | .br _ _, _ => False
theorem plainR_mono {r : Ent} {Q Q' : Ent → Prop} (k : ∀ e, Q e → Q' e) (h : plainR r Q) : plainR r Q' := by
  cases r <;> first | exact k _ h | exact h.elim
theorem plainR_v {K : PySem.W.Frag} {hd : Addr → Bool} {Z : Zt} {O : List Addr} {σ : L2.St} {H H' : Hp} {v : V} {r : Ent} {Q : Ent → Prop} (h : plainR r Q) (q : Rs L K hd Z O σ H H' v r) : ∃ e, Q e ∧ (∀ ds, e ≠ .ow ds) ∧ Sl L K hd Z O H' v e := by
  cases r with
  | im d => exact ⟨_, h, (fun _ z => nomatch z), q⟩
  | ow ds => exact ⟨_, h, (fun _ z => nomatch z), (Rs.keeps q rfl : Rp K (vis hd O H') v (.list ds))⟩
  | br _ _ => exact h.elim
  | ob t d => exact ⟨_, h, (fun _ z => nomatch z), q⟩
  | dr => exact ⟨_, h, (fun _ z => nomatch z), q⟩
def fSet (i : Nat) (f : FE) : FS := fun E s => f s fun r s1 => plainR r fun e => E.nx { s1 with env := pt s1.env i (some e) }
variable {e : Expr} {f : FE} {x : Str} {pos' : Pos}
theorem fSet_mono {i : Nat} (he : XE L X e f) : ∀ E E' s, E.Le E' → fSet i f E s → fSet i f E' s := fun E E' s le h => he.mono _ _ _ (fun r s1 h1 => plainR_mono (fun e q => le.1 _ q) h1) h
theorem xsSet (i : Nat) (he : XE L X e f) (hN : X.N.Nodup) (hi : X.N[i]? = some x := by rfl) (hx : Loc X.env.scope x := by first | exact Or.inl rfl | exact Or.inr rfl) (hs : swapsWith e (some (.Name x pos')) pos.line X.env = pure false := by rfl)
    (hf : X.fn x = true ∨ X.env.scope.names.lookup x = some .local := by first | exact .inl rfl | exact .inr rfl) : XS L X (.Assign [.Name x pos'] e pos) (fSet i f) := by
  refine ⟨fSet_mono he, fun hd Z B O σ H s E D ok re h => tsW_of (ps_set hN hi hx peW hs hf) (he.run hd Z B O σ H s _ ok (he.mono _ _ _ (fun r s1 h1 v H1 k1 f1 r1 => ?_) h))⟩
  obtain ⟨en, q, n, sl⟩ := plainR_v h1 r1
  exact re.nx O _ H1 _ q (k1.set i fun y hy => by cases hy; exact ⟨n, sl⟩)
/-- x = a new list, to be changed here -/
def ownR : Ent → (List PyData → Prop) → Prop
  | .ow ds, Q => Q ds
  | _, _ => False
theorem ownR_mono {r : Ent} {Q Q' : List PyData → Prop} (k : ∀ e, Q e → Q' e) (h : ownR r Q) : ownR r Q' := by
  cases r <;> first | exact k _ h | exact h.elim
def fSetO (i : Nat) (f : FE) : FS := fun E s => f s fun r s1 => ownR r fun ds => E.nx { s1 with env := pt s1.env i (some (.ow ds)) }
theorem xsSetO (i : Nat) (he : XE L X e f) (hN : X.N.Nodup) (hi : X.N[i]? = some x := by rfl) (hx : Loc X.env.scope x := by first | exact Or.inl rfl | exact Or.inr rfl) (hs : swapsWith e (some (.Name x pos')) pos.line X.env = pure false := by rfl)
    (hf : X.fn x = true ∨ X.env.scope.names.lookup x = some .local := by first | exact .inl rfl | exact .inr rfl) : XS L X (.Assign [.Name x pos'] e pos) (fSetO i f) := by
  refine ⟨fun E E' s le h => he.mono _ _ _ (fun r s1 h1 => ownR_mono (fun e q => le.1 _ q) h1) h, fun hd Z B O σ H s E D ok re h => tsW_of (ps_set hN hi hx peW hs hf) (he.run hd Z B O σ H s _ ok (he.mono _ _ _ (fun r s1 h1 v H1 k1 f1 r1 => ?_) h))⟩
  cases r with
  | ow ds =>
    obtain ⟨p, _, k2⟩ := k1.own ok i r1 f1
    exact re.nx _ _ H1 _ h1 k2
  | im d => exact h1.elim
  | br _ _ => exact h1.elim
  | ob t d => exact h1.elim
  | dr => exact h1.elim
def fRet (f : FE) : FS := fun E s => f s fun r s1 => plainR2 r s1 E
where plainR2 (r : Ent) (s1 : S) (E : EE) : Prop := match r with
  | .im d => E.rt (.im d) s1.n
  | .ow ds => E.rt (.ow ds) s1.n
  | .br _ ds => E.rt (.ow ds) s1.n
  | .ob t d => E.rt (.ob t d) s1.n
  | .dr => E.rt .dr s1.n
theorem vis_nil {hd : Addr → Bool} {O : List Addr} {H : Hp} : Same (vis hd O H) (vis hd [] H) := fun a o e => by
  obtain ⟨h1, h2, h3⟩ := vis_some.mp e
  exact vis_some.mpr ⟨h1, by simp, h3⟩
theorem vis_one {hd : Addr → Bool} {O : List Addr} {H : Hp} {p : Addr} (hp : p ∈ O) : Same (vis hd O H) (vis hd [p] H) := fun a o e => by
  obtain ⟨h1, h2, h3⟩ := vis_some.mp e
  exact vis_some.mpr ⟨h1, fun q => h2 (by rw [List.mem_singleton.mp q]; exact hp), h3⟩
theorem vis_cons {hd : Addr → Bool} {O : List Addr} {H : Hp} {p : Addr} : Same (vis hd (p :: O) H) (vis hd [p] H) := vis_one List.mem_cons_self
theorem Ok.noneB {K : PySem.W.Frag} {hd : Addr → Bool} {Z : Zt} {B : Hp} {O : List Addr} {σ : L2.St} {H : Hp} {s : S} (k : Ok L K hd Z B O σ H s) {p : Addr} (h : H p = none) : B p = none := by
  cases q : B p with
  | none => rfl
  | some o => rw [k.stood p o q] at h; cases h
theorem xsRet (he : XE L X e f) : XS L X (.Return (some e) pos) (fRet f) := by
  refine ⟨fun E E' s le h => he.mono _ _ _ (fun r s1 h1 => ?_) h, fun hd Z B O σ H s E D ok re h => tsW_of (ps_ret peW) (he.run hd Z B O σ H s _ ok (he.mono _ _ _ (fun r s1 h1 v H1 k1 f1 r1 => ?_) h))⟩
  · cases r <;> exact le.2.1 _ _ h1
  · have fb : Frm Z B H1 := fun b o _ q => k1.stood b o q
    cases r with
    | im d => exact re.rt _ _ v H1 h1 fb k1.stk (Rp.same vis_nil r1)
    | ow ds =>
      obtain ⟨p, vs, rfl, e2, e3, e4, e5, e6⟩ := r1
      exact re.rt _ _ _ H1 h1 fb k1.stk ⟨p, vs, rfl, ok.noneB e2, e3, by simp, e5, e6.same vis_cons⟩
    | br i ds =>
      obtain ⟨p, vs, rfl, _, e3, e4, e5⟩ := r1
      have q := k1.offO p e3
      exact re.rt _ _ _ H1 h1 fb k1.stk ⟨p, vs, rfl, q.1, q.2.1, by simp, e4, e5.same (vis_one e3)⟩
    | ob t d => exact re.rt _ _ v H1 h1 fb k1.stk (L.mono vis_nil r1)
    | dr => exact re.rt _ _ v H1 h1 fb k1.stk r1
def fRetN : FS := fun E s => E.rt (.im .none) s.n
theorem xsRetN : XS L X (.Return none pos) fRetN :=
  ⟨fun E E' s le h => le.2.1 _ _ h, fun hd Z B O σ H s E D ok re h => tsW_of ps_retN (re.rt _ _ .non H h (fun b o _ q => ok.stood b o q) ok.stk .non)⟩
/-! blocks -/
variable {st : Stmt} {rest : List Stmt} {g : FS} {gs : FS}
def fSkip : FS := fun E s => E.nx s
def fSeq (g gs : FS) : FS := fun E s => g { E with nx := fun s' => gs E s' } s
theorem EE.Le.refl (E : EE) : E.Le E := ⟨fun _ h => h, fun _ _ h => h, fun _ h => h, fun _ h => h⟩
theorem xssNil : XSs L X [] fSkip := ⟨fun E E' s le h => le.1 _ h, fun hd Z B O σ H s E D ok re h => tssW_of pss_nil (re.nx _ _ _ _ h ok)⟩
theorem xssCons (h1 : XS L X st g) (h2 : XSs L X rest gs) : XSs L X (st :: rest) (fSeq g gs) :=
  ⟨fun E E' s le h => h1.mono { E with nx := fun s' => gs E s' } _ _ ⟨fun s' q => h2.mono _ _ _ le q, le.2.1, le.2.2.1, le.2.2.2⟩ h, fun hd Z B O σ H s E D ok re h => tssW_of (pss_cons psW pssW)
    (h1.run hd Z B O σ H s { E with nx := fun s' => gs E s' } _ ok ⟨fun O' σ' H' s' q k => h2.run hd Z B O' σ' H' s' E D k re q, re.rt, re.bk, re.ct⟩ h)⟩
theorem xssOne (h1 : XS L X st g) : XSs L X [st] g :=
  ⟨h1.mono, fun hd Z B O σ H s E D ok re h => tssW_of (pss_one psW) (h1.run hd Z B O σ H s E D ok re h)⟩
theorem xsPass : XS L X (.Pass pos) fSkip := ⟨fun E E' s le h => le.1 _ h, fun hd Z B O σ H s E D ok re h => tsW_of ps_pass (re.nx _ _ _ _ h ok)⟩
theorem xsDoc {x j pos'} : XS L X (.Expr (.Constant (.str x) j pos) pos') fSkip := ⟨fun E E' s le h => le.1 _ h, fun hd Z B O σ H s E D ok re h => tsW_of ps_doc (re.nx _ _ _ _ h ok)⟩
theorem xsBreak : XS L X (.Break pos) (fun E s => E.bk s) := ⟨fun E E' s le h => le.2.2.1 _ h, fun hd Z B O σ H s E D ok re h => tsW_of ps_break (re.bk _ _ _ _ h ok)⟩
theorem xsCont : XS L X (.Continue pos) (fun E s => E.ct s) := ⟨fun E E' s le h => le.2.2.2 _ h, fun hd Z B O σ H s E D ok re h => tsW_of ps_continue (re.ct _ _ _ _ h ok)⟩
/-- never reached -/
theorem xsNever : XS L X st (fun _ _ => False) := ⟨fun _ _ _ _ h => h, fun _ _ _ _ _ _ _ _ _ _ _ h => h.elim⟩
theorem xssNever : XSs L X rest (fun _ _ => False) := ⟨fun _ _ _ _ h => h, fun _ _ _ _ _ _ _ _ _ _ _ h => h.elim⟩
def fIfS (c : FT) (g g' : FS) : FS := fun E s => c s fun b s1 => match b with
  | true => g E s1
  | false => g' E s1
theorem xsIf {c : Expr} {t : FT} {as bs : List Stmt} {g g' : FS} (hc : XT L X c t) (ha : XSs L X as g) (hb : XSs L X bs g') : XS L X (.If c as bs pos) (fIfS t g g') := by
  refine ⟨fun E E' s le h => hc.mono _ _ _ (fun b s1 h1 => ?_) h, fun hd Z B O σ H s E D ok re h => tsW_of (ps_if ptW pssW pssW) (hc.run hd Z B O σ H s _ ok (hc.mono _ _ _ (fun b s1 h1 H1 k1 f1 => ?_) h))⟩
  · cases b with
    | true => exact ha.mono _ _ _ le h1
    | false => exact hb.mono _ _ _ le h1
  · cases b with
    | true => exact iteT (ha.run hd Z B O σ H1 s1 E D k1 re h1)
    | false => exact iteF (hb.run hd Z B O σ H1 s1 E D k1 re h1)
/-- a ghost: one's own list at a slot becomes a datum -/
def fFreeze (i : Nat) (gs : FS) : FS := fun E s => match gt s.env i with
  | some (.ow ds) => gs E { s with env := pt s.env i (some (.im (.list ds))) }
  | some (.im d) => gs E s
  | _ => False
theorem Ok.freeze {K : PySem.W.Frag} {hd : Addr → Bool} {Z : Zt} {B : Hp} {O : List Addr} {σ : L2.St} {H : Hp} {s : S} (k : Ok L K hd Z B O σ H s) {i : Nat} {ds : List PyData} (h : gt s.env i = some (.ow ds)) :
    ∃ O', Ok L K hd Z B O' σ H { s with env := pt s.env i (some (.im (.list ds))) } := by
  have h0 := gt_some.mp h
  obtain ⟨v, hv, p, vs, rfl, hp, e3, e4⟩ := k.slot i _ h0
  have le : ∀ a, a ∈ O.filter (fun a => decide (a ≠ p)) ↔ a ∈ O ∧ a ≠ p := fun a => by rw [List.mem_filter, decide_eq_true_iff]
  have vv : Same (vis hd O H) (vis hd (O.filter fun a => decide (a ≠ p)) H) := fun a o e => by
    obtain ⟨g1, g2, g3⟩ := vis_some.mp e
    exact vis_some.mpr ⟨g1, fun q => g2 ((le a).mp q).1, g3⟩
  have hl : i < s.env.length := (List.getElem?_eq_some_iff.mp h0).1
  have ix : ∀ (j : Nat) (x : Ent), (pt s.env i (some (.im (.list ds))))[j]? = some (some x) → (j = i ∧ x = .im (.list ds)) ∨ (j ≠ i ∧ s.env[j]? = some (some x)) := fun j x h => by
    rw [pt_set] at h
    by_cases hj : j = i
    · subst hj
      rw [List.getElem?_set_self hl] at h
      cases h
      exact .inl ⟨rfl, rfl⟩
    · rw [List.getElem?_set_ne (Ne.symm hj)] at h
      exact .inr ⟨hj, h⟩
  refine ⟨O.filter fun a => decide (a ≠ p), k.stood, fun a ha => k.offO a ((le a).mp ha).1, k.offZ, k.liveB, k.stk, fun j x hj => ?_, fun j1 j2 es fs q h1 h2 h3 h4 => ?_, by rw [pt_set, List.length_set]; exact k.len⟩
  · rcases ix j x hj with ⟨rfl, rfl⟩ | ⟨nj, hj⟩
    · refine ⟨.ref p, hv, ?_⟩
      exact (.lst (vis_some.mpr ⟨(k.offO p hp).2.1, fun q => ((le p).mp q).2 rfl, e3⟩) (e4.same vv) : Rp K _ (.ref p) (.list ds))
    · obtain ⟨w, g1, g2⟩ := k.slot j x hj
      refine ⟨w, g1, ?_⟩
      cases x with
      | im d => exact Rp.same vv g2
      | ow es =>
        obtain ⟨q, ws, rfl, a2, a3, a4⟩ := g2
        refine ⟨q, ws, rfl, (le q).mpr ⟨a2, fun z => ?_⟩, a3, a4.same vv⟩
        subst z
        exact nj (k.apart j i es ds q hj h0 g1 hv)
      | br _ _ => exact g2
      | ob t d => exact L.mono vv g2
      | dr => exact g2
  · rcases ix _ _ h1 with ⟨_, z⟩ | ⟨_, g1⟩
    · cases z
    · rcases ix _ _ h2 with ⟨_, z⟩ | ⟨_, g2⟩
      · cases z
      · exact k.apart _ _ _ _ _ g1 g2 h3 h4
theorem xssFreeze (i : Nat) (h : XSs L X rest gs) : XSs L X rest (fFreeze i gs) := by
  refine ⟨fun E E' s le q => ?_, fun hd Z B O σ H s E D ok re q => ?_⟩
  · unfold fFreeze at q ⊢
    split at q
    · exact h.mono _ _ _ le q
    · exact h.mono _ _ _ le q
    · exact q.elim
  · unfold fFreeze at q
    split at q
    · rename_i ds e
      obtain ⟨O', k⟩ := ok.freeze e
      exact h.run hd Z B O' σ H _ E D k re q
    · exact h.run hd Z B O σ H _ E D ok re q
    · exact q.elim
/-- x.append(e), x one's own list at slot i -/
def fAppend (i : Nat) (f : FE) : FS := fun E s => match gt s.env i with
  | some (.ow ds) => f s fun r s1 => match r.kept with
    | some d => ds.length < sizeLine ∧ E.nx { s1 with env := pt s1.env i (some (.ow (ds ++ [d]))) }
    | none => False
  | _ => False
end
end DL

set_option maxRecDepth 100000
set_option maxHeartbeats 2000000
namespace DL
open PySem PySem.Spec PyProof.Rows L2
section
variable {L : Lay} {X : Cx} {pos : Pos}
/-! ### append, extend -/
theorem Ok.grow {K : PySem.W.Frag} {hd : Addr → Bool} {Z : Zt} {B : Hp} {O : List Addr} {σ : L2.St} {H : Hp} {s : S} (k : Ok L K hd Z B O σ H s) {i : Nat} {ds : List PyData} (h : gt s.env i = some (.ow ds)) :
    ∃ p vs, σ[i]? = some (some (.ref p)) ∧ H p = some (.lst vs) ∧ vs.length = ds.length ∧ ∀ ws es, RpAll K (vis hd O H) ws es → Ok L K hd Z B O σ (upd H p (.lst (vs ++ ws))) { s with env := pt s.env i (some (.ow (ds ++ es))) } := by
  have h0 := gt_some.mp h
  obtain ⟨v, hv, p, vs, rfl, hp, e3, e4⟩ := k.slot i _ h0
  refine ⟨p, vs, hv, e3, e4.length, fun ws es r => ?_⟩
  have hl : i < s.env.length := (List.getElem?_eq_some_iff.mp h0).1
  have vv : Same (vis hd O H) (vis hd O (upd H p (.lst (vs ++ ws)))) := fun a o e => by
    obtain ⟨g1, g2, g3⟩ := vis_some.mp e
    have ne : a ≠ p := fun z => g2 (by rw [z]; exact hp)
    exact vis_some.mpr ⟨g1, g2, by rw [upd_ne ne]; exact g3⟩
  have ix : ∀ (j : Nat) (x : Ent), (pt s.env i (some (.ow (ds ++ es))))[j]? = some (some x) → (j = i ∧ x = .ow (ds ++ es)) ∨ (j ≠ i ∧ s.env[j]? = some (some x)) := fun j x h => by
    rw [pt_set] at h
    by_cases hj : j = i
    · subst hj
      rw [List.getElem?_set_self hl] at h
      cases h
      exact .inl ⟨rfl, rfl⟩
    · rw [List.getElem?_set_ne (Ne.symm hj)] at h
      exact .inr ⟨hj, h⟩
  have old : ∀ (j : Nat) (es : List PyData), s.env[j]? = some (some (.ow es)) → (pt s.env i (some (.ow (ds ++ es))))[j]? = (pt s.env i (some (.ow (ds ++ es))))[j]? := fun _ _ _ => rfl
  have bp := (k.offO p hp)
  have pz : ¬ zin Z p := fun z => by rw [(k.offZ p z).2] at bp; cases bp.2.1
  refine ⟨fun b o e => ?_, fun a ha => ?_, k.offZ, k.liveB, fun z e => L.keep (k.stk z e) fun b o hb q => ?_, fun j x hj => ?_, fun j1 j2 es1 es2 q h1 h2 h3 h4 => ?_, by rw [pt_set, List.length_set]; exact k.len⟩
  · have ne : b ≠ p := fun z => by rw [z, bp.1] at e; cases e
    rw [upd_ne ne]
    exact k.stood b o e
  · obtain ⟨g1, g2, g3⟩ := k.offO a ha
    refine ⟨g1, g2, ?_⟩
    by_cases z : a = p
    · rw [z]; exact ⟨_, upd_same⟩
    · rw [upd_ne z]; exact g3
  · have ne : b ≠ p := fun z' => pz ⟨z, e, by rw [← z']; exact hb⟩
    rw [upd_ne ne]
    exact q
  · rcases ix j x hj with ⟨rfl, rfl⟩ | ⟨nj, hj⟩
    · exact ⟨.ref p, hv, p, vs ++ ws, rfl, hp, upd_same, (e4.append r).same vv⟩
    · obtain ⟨w, g1, g2⟩ := k.slot j x hj
      refine ⟨w, g1, ?_⟩
      cases x with
      | im d => exact Rp.same vv g2
      | ow es' =>
        obtain ⟨q, ws', rfl, a2, a3, a4⟩ := g2
        have ne : q ≠ p := fun z => by
          subst z
          exact nj (k.apart j i es' ds q hj h0 g1 hv)
        exact ⟨q, ws', rfl, a2, by rw [upd_ne ne]; exact a3, a4.same vv⟩
      | br _ _ => exact g2
      | ob t d => exact L.mono vv g2
      | dr => exact g2
  · rcases ix _ _ h1 with ⟨rfl, z1⟩ | ⟨n1, g1⟩
    · rcases ix _ _ h2 with ⟨rfl, _⟩ | ⟨n2, g2⟩
      · rfl
      · exact k.apart _ _ _ _ _ h0 g2 h3 h4
    · rcases ix _ _ h2 with ⟨rfl, _⟩ | ⟨n2, g2⟩
      · exact k.apart _ _ _ _ _ g1 h0 h3 h4
      · exact k.apart _ _ _ _ _ g1 g2 h3 h4
variable {e : Expr} {f : FE} {x : Str} {p0 apos cpos : Pos}
theorem gt_env {s s' : S} (h : s'.env = s.env) (i : Nat) : gt s'.env i = gt s.env i := by rw [h]
theorem xsAppend (i : Nat) (he : XE L X e f) (hN : X.N[i]? = some x := by rfl) (hv : Vis X.env.scope x := by first | exact Or.inl rfl | exact Or.inr (Or.inl rfl) | exact Or.inr (Or.inr rfl)) (hd : (x == ("__debug__" : Str)) = false := by decide) (hcd : (x == ("__classdict__" : Str)) = false := by decide)
    (hs : starEach [e] X.env = (false, eval e X.env) :: starEach [] X.env := by rfl) (hbase : attributeBase (.Name x p0) "append" X.env (eval (.Name x p0) X.env) = eval (.Name x p0) X.env := by rfl)
    (hfew : ((backTo cpos (starEach [e] X.env)).all (fun x => !x.1) && (backToKw cpos (keywordEach [] X.env)).all (fun x => x.1.isSome)
      && decide ([e].length + ([] : List Keyword).length + (if ([] : List Keyword).isEmpty then 0 else 1) < 30)) = true := by rfl)
    (hline : (apos.endLine == cpos.line) = true := by rfl) (hplain : (backTo cpos (starEach ([] : List Expr) X.env)).any (·.1) = false := by rfl) (hsw : swapsWith (.Call (.Attribute (.Name x p0) "append" apos) [e] [] cpos) none pos.line X.env = pure false := by rfl) :
    XS L X (.Expr (.Call (.Attribute (.Name x p0) "append" apos) [e] [] cpos) pos) (fAppend i f) := by
  refine ⟨fun E E' s le h => ?_, fun hd' Z B O σ H s E D ok re h => tsW_of (ps_expr (pe_bm PySem.F.plainAttrs_list PySem.F.slot_list_append PySem.F.type_list_append mt_append (pe_var hN hv hd hcd) (pa_cons peW pa_nil hs) hbase hfew hline hs hplain) hsw) ?_⟩
  · unfold fAppend at h ⊢
    split at h
    · refine he.mono _ _ _ (fun r s1 h1 => ?_) h
      cases q : r.kept with
      | none => simp only [q] at h1
      | some d => simp only [q] at h1 ⊢; exact ⟨h1.1, le.1 _ h1.2⟩
    · exact h.elim
  · unfold fAppend at h
    split at h
    · rename_i ds e0
      obtain ⟨p, vs, hσ, hp, hlen, _⟩ := ok.grow e0
      refine ⟨_, hσ, .inl ⟨rfl, _, .inl (.inl hp)⟩, he.run hd' Z B O σ H s _ ok (he.mono _ _ _ (fun r s1 h1 v H1 k1 f1 r1 => ?_) h)⟩
      cases q : r.kept with
      | none => simp only [q] at h1
      | some d =>
        simp only [q] at h1
        obtain ⟨p', vs', hσ', hp', hlen', gr⟩ := k1.grow (i := i) (ds := ds) (by rw [gt_env f1.env]; exact e0)
        rw [hσ] at hσ'
        cases hσ'
        exact ⟨p, vs', v, rfl, rfl, hp', by rw [hlen']; exact h1.1, re.nx _ _ _ _ h1.2 (gr [v] [d] (.cons (Rs.keeps r1 q) .nil))⟩
    · exact h.elim
end
end DL

set_option maxRecDepth 100000
set_option maxHeartbeats 2000000
namespace DL
open PySem PySem.Spec PyProof.Rows L2
section
variable {L : Lay} {X : Cx} {pos : Pos}
/-! ### targets -/
def tgW (X : Cx) (tg : Expr) : TG := fun v σ H Q => ∀ pins sh u, Inv X pins σ H sh → RelV v u → wpAny (model X.prog X.w) X.A (assign tg X.env u) (fun _ s' => ∃ σ' H', Inv X pins σ' H' s' ∧ Q σ' H') X.xe sh
theorem pgW {tg : Expr} : PG X tg (tgW X tg) := ⟨fun pins sh σ H v u Q I r h => h pins sh u I r⟩
theorem tgW_of {tg : Expr} {t : TG} {v : V} {σ : L2.St} {H : Hp} {Q : L2.St → Hp → Prop} (h : PG X tg t) (q : t v σ H Q) : tgW X tg v σ H Q := fun pins sh u I r => h.run pins sh σ H v u Q I r q
def tgsW (X : Cx) (ts : List Expr) : TGs := fun vs σ H Q => ∀ pins sh us, Inv X pins σ H sh → Vals vs us → wpAny (model X.prog X.w) X.A (assignInOrder ((assignEach ts X.env).map (·.2)) us) (fun _ s' => ∃ σ' H', Inv X pins σ' H' s' ∧ Q σ' H') X.xe sh
theorem pgsW {ts : List Expr} : PGs X ts (tgsW X ts) := ⟨fun pins sh σ H vs us Q I r h => h pins sh us I r⟩
theorem tgsW_of {ts : List Expr} {t : TGs} {vs : List V} {σ : L2.St} {H : Hp} {Q : L2.St → Hp → Prop} (h : PGs X ts t) (q : t vs σ H Q) : tgsW X ts vs σ H Q := fun pins sh us I r => h.run pins sh σ H vs us Q I r q
abbrev FG := PyData → S → (S → Prop) → Prop
abbrev FGs := List PyData → S → (S → Prop) → Prop
/-- only the slots ts are changed -/
def OnlyS (ts : List Nat) (σ σ' : L2.St) : Prop := (∀ j : Nat, j ∉ ts → σ'[j]? = σ[j]?) ∧ σ'.length = σ.length
structure XG (L : Lay) (X : Cx) (tg : Expr) (ts : List Nat) (f : FG) : Prop where
  mono : ∀ d s Q Q', (∀ s', Q s' → Q' s') → f d s Q → f d s Q'
  run : ∀ hd Z B O σ H s v d Q, Ok L X.K hd Z B O σ H s → Rp X.K (vis hd O H) v d → f d s (fun s' => ∀ σ', Ok L X.K hd Z B O σ' H s' → OnlyS ts σ σ' → Q σ' H) → tgW X tg v σ H Q
structure XGs (L : Lay) (X : Cx) (tgs : List Expr) (ts : List Nat) (f : FGs) : Prop where
  mono : ∀ d s Q Q', (∀ s', Q s' → Q' s') → f d s Q → f d s Q'
  run : ∀ hd Z B O σ H s vs ds Q, Ok L X.K hd Z B O σ H s → RpAll X.K (vis hd O H) vs ds → f ds s (fun s' => ∀ σ', Ok L X.K hd Z B O σ' H s' → OnlyS ts σ σ' → Q σ' H) → tgsW X tgs vs σ H Q
def gN (i : Nat) : FG := fun d s Q => Q { s with env := pt s.env i (some (.im d)) }
variable {x : Str} {e : Expr} {es : List Expr} {ts us : List Nat} {g : FG} {gs : FGs}
theorem OnlyS.refl (σ : L2.St) : OnlyS ts σ σ := ⟨fun _ _ => rfl, rfl⟩
theorem OnlyS.trans {σ σ1 σ2 : L2.St} (a : OnlyS ts σ σ1) (b : OnlyS us σ1 σ2) : OnlyS (ts ++ us) σ σ2 := ⟨fun j h => (b.1 j fun q => h (List.mem_append_right _ q)).trans (a.1 j fun q => h (List.mem_append_left _ q)), b.2.trans a.2⟩
theorem xgName (i : Nat) (hN : X.N.Nodup) (hi : X.N[i]? = some x := by rfl) (hx : Loc X.env.scope x := by first | exact Or.inl rfl | exact Or.inr rfl) (hf : X.fn x = true ∨ X.env.scope.names.lookup x = some .local := by first | exact .inl rfl | exact .inr rfl) : XG L X (.Name x pos) [i] (gN i) :=
  ⟨fun d s Q Q' k h => k _ h, fun hd Z B O σ H s v d Q ok r h => tgW_of (pg_name hN hi hx hf) (h _ (ok.set i fun y hy => by cases hy; exact ⟨(fun _ z => nomatch z), r⟩) ⟨fun j hj => List.getElem?_set_ne (fun q => hj (by rw [← q]; exact List.mem_singleton.mpr rfl)), by rw [List.length_set]⟩)⟩
def gsNil : FGs := fun ds s Q => match ds with
  | [] => Q s
  | _ => False
def gsCons (g : FG) (gs : FGs) : FGs := fun ds s Q => match ds with
  | d :: r => g d s fun s1 => gs r s1 Q
  | [] => False
theorem xgsNil : XGs L X [] [] gsNil := by
  refine ⟨fun d s Q Q' k h => ?_, fun hd Z B O σ H s vs ds Q ok r h => ?_⟩
  · cases d with
    | nil => exact k _ h
    | cons a b => exact h.elim
  · cases r with
    | nil => exact tgsW_of pgs_nil ⟨rfl, h σ ok (OnlyS.refl σ)⟩
    | cons a b => exact h.elim
theorem xgsCons (h1 : XG L X e ts g) (h2 : XGs L X es us gs) (hs : (assignEach (e :: es) X.env).map (·.2) = assign e X.env :: (assignEach es X.env).map (·.2) := by rfl) : XGs L X (e :: es) (ts ++ us) (gsCons g gs) := by
  refine ⟨fun d s Q Q' k h => ?_, fun hd Z B O σ H s vs ds Q ok r h => ?_⟩
  · cases d with
    | nil => exact h.elim
    | cons a b => exact h1.mono _ _ _ _ (fun s1 q => h2.mono _ _ _ _ k q) h
  · cases r with
    | nil => exact h.elim
    | cons a b =>
      refine tgsW_of (pgs_cons pgW pgsW hs) ⟨_, _, rfl, h1.run hd Z B O σ H s _ _ _ ok a (h1.mono _ _ _ _ (fun s1 q σ1 k1 o1 => ?_) h)⟩
      exact h2.run hd Z B O σ1 H s1 _ _ _ k1 b (h2.mono _ _ _ _ (fun s2 q2 σ2 k2 o2 => q2 σ2 k2 (o1.trans o2)) q)
/-- (a, b, ..) = a tuple of n items -/
def gTup (n : Nat) (gs : FGs) : FG := fun d s Q => match d with
  | .tuple ds => ds.length = n ∧ gs ds s Q
  | _ => False
theorem xgTup {k n : Nat} (hc : X.calm = true) (h : XGs L X es us gs) (hn : (assignEach es X.env).length = n := by rfl) (hst : (assignEach es X.env).findIdx? (·.1) = none := by rfl) : XG L X (.Tuple es k pos) us (gTup n gs) := by
  refine ⟨fun d s Q Q' k h' => ?_, fun hd Z B O σ H s v d Q ok r h' => ?_⟩
  · unfold gTup at h' ⊢
    split at h'
    · exact ⟨h'.1, h.mono _ _ _ _ k h'.2⟩
    · exact h'.elim
  · unfold gTup at h'
    split at h'
    · cases r with
      | tup sq rs =>
        exact tgW_of (pg_tup hc pgsW hn hst) ⟨_, _, rfl, sameT vis_le sq, by rw [rs.length]; exact h'.1, h.run hd Z B O σ H s _ _ _ ok rs h'.2⟩
    · exact h'.elim
/-- target = e -/
def fAsg (g : FG) (f : FE) : FS := fun E s => f s fun r s1 => match r.kept with
  | some d => g d s1 E.nx
  | none => False
theorem xsAsg {tg : Expr} {f : FE} (he : XE L X e f) (hg : XG L X tg ts g) (hs : swapsWithSole [tg] e pos.line X.env = pure false := by rfl) (hw : swappedStores [tg] e X.env = pure none := by rfl)
    (h1 : (assignEach [tg] X.env).map (·.2) = [assign tg X.env] := by rfl) : XS L X (.Assign [tg] e pos) (fAsg g f) := by
  refine ⟨fun E E' s le h => he.mono _ _ _ (fun r s1 h1 => ?_) h, fun hd Z B O σ H s E D ok re h => tsW_of (ps_asg peW pgW hs hw h1) (he.run hd Z B O σ H s _ ok (he.mono _ _ _ (fun r s1 h1 v H1 k1 f1 r1 => ?_) h))⟩
  · cases q : r.kept with
    | none => simp only [q] at h1
    | some d => simp only [q] at h1 ⊢; exact hg.mono _ _ _ _ le.1 h1
  · cases q : r.kept with
    | none => simp only [q] at h1
    | some d =>
      simp only [q] at h1
      exact hg.run hd Z B O σ H1 s1 v d _ k1 (Rs.keeps r1 q) (hg.mono _ _ _ _ (fun s2 h2 σ2 k2 _ => re.nx _ _ _ _ h2 k2) h1)

/-! ### what is walked -/
structure WalkB (L : Lay) (K : PySem.W.Frag) (hd : Addr → Bool) (Z : Zt) (V0 : Hp) (Gp : Hp → Prop) (J : It) (ds : List PyData) : Prop where
  goes : ∀ i H, i < ds.length → Gp H → J.go i H
  stops : ∀ H, Gp H → J.stop ds.length H
  yields : ∀ i H x H' B O σ s, i < ds.length → Gp H → Ok L K hd Z B O σ H s → Same V0 (vis hd O H) → J.yld i H x H' → ∃ d, ds[i]? = some d ∧ Same H H' ∧ Rp K (vis hd O H') x d
def tiW (X : Cx) (tg iter : Expr) : TI := fun σ H R => ∀ pins sh, Inv X pins σ H sh → wpAny (model X.prog X.w) X.A (eval iter X.env) (fun v s1 => wpAny (model X.prog X.w) X.A (pyIter v) (PIE X pins σ tg R) X.xe s1) X.xe sh
theorem piW {tg iter : Expr} : PI X tg iter (tiW X tg iter) := ⟨fun pins sh σ H R I h => h pins sh I⟩
theorem tiW_of {tg iter : Expr} {t : TI} {σ : L2.St} {H : Hp} {R : It → Hp → Prop} (h : PI X tg iter t) (q : t σ H R) : tiW X tg iter σ H R := fun pins sh I => h.run pins sh σ H R I q
abbrev FI := S → (List PyData → S → Prop) → Prop
/-- c: the list may be one's own (a comprehension's: nothing of one's own is changed meanwhile) -/
structure XI (L : Lay) (X : Cx) (c : Bool) (tg iter : Expr) (f : FI) : Prop where
  mono : ∀ s Q Q', (∀ r s', Q r s' → Q' r s') → f s Q → f s Q'
  run : ∀ hd Z B O σ H s R, Ok L X.K hd Z B O σ H s → f s (fun ds s' => ∀ J H' Gp, Ok L X.K hd Z B O σ H' s' → Mv Z H H' s s' → ds.length ≤ sizeLine →
    (∀ H'', Frm Z H' H'' → Gp H'') → (c = false → ∀ O'' H'', Same (vis hd O H') (vis hd O'' H'') → Gp H'') → WalkB L X.K hd Z (vis hd O H') Gp J ds → R J H') → tiW X tg iter σ H R
theorem tW_len {σ : L2.St} {H : Hp} {Q : VK} (h : tW X e σ H fun v H' => (∀ p vs, SqL X.K H' p vs ∨ SqT X.K H' p vs → vs.length ≤ sizeLine) → Q v H') : tW X e σ H Q := fun pins sh I =>
  wpAny_mono (h pins sh I) (fun _ _ ⟨v, H', I', r, q⟩ => ⟨v, H', I', r, q fun p vs e => by
    rcases e with e | e
    · obtain ⟨_, _, _, z⟩ := I'.list e; exact z
    · obtain ⟨_, _, _, z⟩ := I'.tuple e; exact z⟩) fun _ _ z => z
theorem rp_ofSame {K : PySem.W.Frag} {hd : Addr → Bool} {O : List Addr} {H H1 : Hp} {O1 : List Addr} {vs : List V} {ds : List PyData} {i : Nat} {x : V} (r : RpAll K (vis hd O H) vs ds) (sm : Same (vis hd O H) (vis hd O1 H1)) (h : vs[i]? = some x) : ∃ d, ds[i]? = some d ∧ Rp K (vis hd O1 H1) x d := by
  obtain ⟨d, h1, h2⟩ := r.get h
  exact ⟨d, h1, h2.same sm⟩
theorem walkB_list {K : PySem.W.Frag} {hd : Addr → Bool} {Z : Zt} {O : List Addr} {H : Hp} {p : Addr} {vs : List V} {ds : List PyData} {Gp : Hp → Prop} (r : RpAll K (vis hd O H) vs ds) (g : ∀ H', Gp H' → SqL K H' p vs) : WalkB L K hd Z (vis hd O H) Gp (Itl K p) ds :=
  ⟨fun i H' hi q => ⟨vs, vs[i]'(by rw [r.length]; exact hi), g _ q, List.getElem?_eq_getElem _⟩, fun H' q => ⟨vs, g _ q, by rw [r.length]; exact Nat.le_refl _⟩, fun i H' x H2 B O' σ s hi q ok sm y => by
    obtain ⟨rfl, y⟩ := y
    obtain ⟨d, h1, h2⟩ := rp_ofSame r sm (y vs (g _ q))
    exact ⟨d, h1, Same.refl _, h2⟩⟩
theorem walkB_tup {K : PySem.W.Frag} {hd : Addr → Bool} {Z : Zt} {O : List Addr} {H : Hp} {p : Addr} {vs : List V} {ds : List PyData} {Gp : Hp → Prop} (r : RpAll K (vis hd O H) vs ds) (g : ∀ H', Gp H' → SqT K H' p vs) : WalkB L K hd Z (vis hd O H) Gp (Itt K p) ds :=
  ⟨fun i H' hi q => ⟨vs, vs[i]'(by rw [r.length]; exact hi), g _ q, List.getElem?_eq_getElem _⟩, fun H' q => ⟨vs, g _ q, by rw [r.length]; exact Nat.le_refl _⟩, fun i H' x H2 B O' σ s hi q ok sm y => by
    obtain ⟨rfl, y⟩ := y
    obtain ⟨d, h1, h2⟩ := rp_ofSame r sm (y vs (g _ q))
    exact ⟨d, h1, Same.refl _, h2⟩⟩
/-- over a list -/
def fItL (c : Bool) (f : FE) : FI := fun s Q => f s fun r s1 => match r with
  | .im (.list ds) => Q ds s1
  | .ow ds => Q ds s1
  | .br _ ds => c = true ∧ Q ds s1
  | _ => False
variable {tg : Expr} {f : FE}
theorem fItL_mono {c : Bool} (he : XE L X e f) : ∀ s Q Q', (∀ r s', Q r s' → Q' r s') → fItL c f s Q → fItL c f s Q' := fun s Q Q' k h => he.mono _ _ _ (fun r s1 h1 => by
    split at h1
    · exact k _ _ h1
    · exact k _ _ h1
    · exact ⟨h1.1, k _ _ h1.2⟩
    · exact h1.elim) h
theorem xiList (c : Bool) (he : XE L X e f) : XI L X c tg e (fItL c f) := by
  refine ⟨fItL_mono he, fun hd Z B O σ H s R ok h => tiW_of (pi_list peW) (tW_len (he.run hd Z B O σ H s _ ok (he.mono _ _ _ (fun r s1 h1 v H1 k1 f1 r1 ln => ?_) h)))⟩
  split at h1
  · rename_i ds
    cases r1 with
    | lst hs rs =>
      refine ⟨_, rfl, ⟨_, SqL.of (vis_le _ _ hs)⟩, h1 _ H1 (fun H2 => SqL X.K H2 _ _) k1 f1 ?_ ?_ ?_ (walkB_list rs fun _ q => q)⟩
      · rw [← rs.length]; exact ln _ _ (.inl (SqL.of (vis_le _ _ hs)))
      · exact fun H2 fr => SqL.of (vis_le _ _ (vis_frmX (O' := O) k1 fr _ _ hs))
      · exact fun _ O2 H2 sm => SqL.of (vis_le _ _ (sm _ _ hs))
  · rename_i ds
    obtain ⟨p, vs, rfl, e2, e3, e4, e5, e6⟩ := r1
    have hs : vis hd O H1 p = some (.lst vs) := vis_some.mpr ⟨e3, e4, e5⟩
    refine ⟨p, rfl, ⟨_, SqL.of e5⟩, h1 _ H1 (fun H2 => SqL X.K H2 p vs) k1 f1 ?_ ?_ ?_ (walkB_list (e6.same vis_more) fun _ q => q)⟩
    · rw [← e6.length]; exact ln _ _ (.inl (SqL.of e5))
    · exact fun H2 fr => SqL.of (vis_le _ _ (vis_frmX (O' := O) k1 fr _ _ hs))
    · exact fun _ O2 H2 sm => SqL.of (vis_le _ _ (sm _ _ hs))
  · rename_i i ds
    obtain ⟨p, vs, rfl, e2, e3, e4, e5⟩ := r1
    refine ⟨p, rfl, ⟨_, SqL.of e4⟩, h1.2 _ H1 (fun H2 => SqL X.K H2 p vs) k1 f1 ?_ ?_ (fun z => ?_) (walkB_list e5 fun _ q => q)⟩
    · rw [← e5.length]; exact ln _ _ (.inl (SqL.of e4))
    · exact fun H2 fr => SqL.of (fr p _ (fun z => by have := (k1.offO p e3).2.1; rw [(k1.offZ p z).2] at this; cases this) e4)
    · rw [h1.1] at z; cases z
  · exact h1.elim
/-- over a tuple -/
def fItT (f : FE) : FI := fun s Q => f s fun r s1 => match r with
  | .im (.tuple ds) => Q ds s1
  | _ => False
theorem xiTup (c : Bool) (he : XE L X e f) : XI L X c tg e (fItT f) := by
  refine ⟨fun s Q Q' k h => he.mono _ _ _ (fun r s1 h1 => ?_) h, fun hd Z B O σ H s R ok h => tiW_of (pi_tup peW) (tW_len (he.run hd Z B O σ H s _ ok (he.mono _ _ _ (fun r s1 h1 v H1 k1 f1 r1 ln => ?_) h)))⟩
  · split at h1
    · exact k _ _ h1
    · exact h1.elim
  · split at h1
    · cases r1 with
      | tup hs rs =>
        have hs1 := sameT vis_le hs
        refine ⟨_, rfl, ⟨_, hs1⟩, h1 _ H1 (fun H2 => SqT X.K H2 _ _) k1 f1 ?_ ?_ ?_ (walkB_tup rs fun _ q => q)⟩
        · rw [← rs.length]; exact ln _ _ (.inr hs1)
        · exact fun H2 fr => sameT vis_le (sameT (vis_frmX (O' := O) k1 fr) hs)
        · exact fun _ O2 H2 sm => sameT vis_le (sameT sm hs)
    · exact h1.elim
/-- range(n), range(a, b) -/
def rngD (lo : Int) (n : Nat) : List PyData := (List.range n).map fun i : Nat => .int (lo + (i : Nat))
theorem walkB_range {K : PySem.W.Frag} {hd : Addr → Bool} {Z : Zt} {V0 : Hp} {Gp : Hp → Prop} {lo : Int} {n : Nat} : WalkB L K hd Z V0 Gp (Itr lo n) (rngD lo n) := by
  have hl : (rngD lo n).length = n := by unfold rngD; rw [List.length_map, List.length_range]
  refine ⟨fun i H' hi q => by rw [hl] at hi; exact hi, fun H' q => by rw [hl]; exact Nat.le_refl _, fun i H' x H2 B O' σ s hi q ok sm y => ?_⟩
  obtain ⟨rfl, rfl⟩ := y
  rw [hl] at hi
  exact ⟨_, by unfold rngD; rw [List.getElem?_map, List.getElem?_range hi]; rfl, Same.refl _, .int _⟩
def fRng1 (fs : FA) : FI := fun s Q => fs s fun rs s1 => match rs with
  | [r] => isI r fun j => (-(2 ^ 62) ≤ j ∧ j < 2 ^ 62 ∧ j.toNat ≤ sizeLine) ∧ Q (rngD 0 j.toNat) s1
  | _ => False
def fRng2 (fs : FA) : FI := fun s Q => fs s fun rs s1 => match rs with
  | [r, r'] => isI r fun i => isI r' fun j => ((-(2 ^ 62) ≤ i ∧ i < 2 ^ 62 ∧ -(2 ^ 62) ≤ j ∧ j < 2 ^ 62) ∧ (j - i).toNat ≤ sizeLine) ∧ Q (rngD i (j - i).toNat) s1
  | _ => False
theorem isI_v {K : PySem.W.Frag} {hd : Addr → Bool} {Z : Zt} {O : List Addr} {σ : L2.St} {H H' : Hp} {v : V} {r : Ent} {Q : Int → Prop} (h : isI r Q) (q : Rs L K hd Z O σ H H' v r) : ∃ b, v = .int b ∧ Q b := by
  unfold isI at h
  split at h
  · cases q
    exact ⟨_, rfl, h⟩
  · exact h.elim
variable {a b : Expr} {fs : FA} {m : Nat} {p : Pos}
theorem xiRng1 (c : Bool) (ha : XA L X [a] m fs) (hm : X.mg "range" = none) (hg : Gl X "range" := by rfl) (hs : starEach [a] X.env = [(false, eval a X.env)] := by rfl) : XI L X c tg (.Call (.Name "range" p) [a] [] pos) (fRng1 fs) := by
  refine ⟨fun s Q Q' k h => ha.mono _ _ _ (fun r s1 h1 => ?_) h, fun hd Z B O σ H s R ok h => tiW_of (pi_range1 hg hm paW hs) (ha.run hd Z B O σ H s _ ok (ha.mono _ _ _ (fun rs s1 h1 vs H1 k1 f1 r1 => ?_) h))⟩
  · match r, h1 with
    | [r], h1 => exact isI_mono (fun j q => ⟨q.1, k _ _ q.2⟩) h1
    | [], h1 => exact h1.elim
    | _ :: _ :: _, h1 => exact h1.elim
  · match rs, h1, r1 with
    | [r], h1, r1 =>
      obtain ⟨v, rfl, r2⟩ := rs1 r1
      obtain ⟨j, rfl, q, q'⟩ := isI_v h1 r2
      refine ⟨j, rfl, q.1, q.2.1, q' _ H1 (fun _ => True) k1 f1 ?_ (fun _ _ => True.intro) (fun _ _ _ _ => True.intro) walkB_range⟩
      unfold rngD
      rw [List.length_map, List.length_range]
      exact q.2.2
    | [], h1, _ => exact h1.elim
    | _ :: _ :: _, h1, _ => exact h1.elim
theorem xiRng2 (c : Bool) (ha : XA L X [a, b] m fs) (hm : X.mg "range" = none) (hg : Gl X "range" := by rfl) (hs : starEach [a, b] X.env = [(false, eval a X.env), (false, eval b X.env)] := by rfl) (hs2 : starEach [b] X.env = [(false, eval b X.env)] := by rfl) :
    XI L X c tg (.Call (.Name "range" p) [a, b] [] pos) (fRng2 fs) := by
  refine ⟨fun s Q Q' k h => ha.mono _ _ _ (fun r s1 h1 => ?_) h, fun hd Z B O σ H s R ok h => tiW_of (pi_range2 hg hm paW hs hs2) (ha.run hd Z B O σ H s _ ok (ha.mono _ _ _ (fun rs s1 h1 vs H1 k1 f1 r1 => ?_) h))⟩
  · match r, h1 with
    | [r, r'], h1 => exact isI_mono (fun i q => isI_mono (fun j q' => ⟨q'.1, k _ _ q'.2⟩) q) h1
    | [], h1 => exact h1.elim
    | [_], h1 => exact h1.elim
    | _ :: _ :: _ :: _, h1 => exact h1.elim
  · match rs, h1, r1 with
    | [r, r'], h1, r1 =>
      obtain ⟨v, w, rfl, r2, r3⟩ := rs2 r1
      obtain ⟨i, rfl, h2⟩ := isI_v h1 r2
      obtain ⟨j, rfl, q, q'⟩ := isI_v h2 r3
      refine ⟨i, j, rfl, q.1, q' _ H1 (fun _ => True) k1 f1 ?_ (fun _ _ => True.intro) (fun _ _ _ _ => True.intro) walkB_range⟩
      unfold rngD
      rw [List.length_map, List.length_range]
      exact q.2
    | [], h1, _ => exact h1.elim
    | [_], h1, _ => exact h1.elim
    | _ :: _ :: _ :: _, h1, _ => exact h1.elim
end
end DL

set_option maxRecDepth 100000
set_option maxHeartbeats 2000000
namespace DL
open PySem PySem.Spec PyProof.Rows L2
section
variable {L : Lay} {X : Cx} {pos : Pos}
/-! ### the base of a loop -/
open Classical in
noncomputable def bas (Z : Zt) (O : List Addr) (H : Hp) : Hp := fun a => if a ∈ O ∨ zin Z a then none else H a
theorem bas_some {Z : Zt} {O : List Addr} {H : Hp} {a : Addr} {o : HO} : bas Z O H a = some o ↔ a ∉ O ∧ ¬ zin Z a ∧ H a = some o := by
  unfold bas
  by_cases h : a ∈ O ∨ zin Z a
  · rw [if_pos h]
    constructor
    · intro e; cases e
    · rintro ⟨h1, h2, _⟩
      rcases h with h | h
      · exact absurd h h1
      · exact absurd h h2
  · rw [if_neg h]
    constructor
    · intro e
      exact ⟨fun q => h (.inl q), fun q => h (.inr q), e⟩
    · exact fun e => e.2.2
theorem bas_none {Z : Zt} {O : List Addr} {H : Hp} {a : Addr} (h : a ∈ O ∨ zin Z a) : bas Z O H a = none := by
  unfold bas
  rw [if_pos h]
section
variable {K : PySem.W.Frag} {hd : Addr → Bool} {Z : Zt} {B : Hp} {O : List Addr} {σ : L2.St} {H : Hp} {s : S}
theorem Ok.rebase (k : Ok L K hd Z B O σ H s) : Ok L K hd Z (bas Z O H) O σ H s :=
  ⟨fun b o e => (bas_some.mp e).2.2, fun a h => ⟨bas_none (.inl h), (k.offO a h).2⟩, fun a h => ⟨bas_none (.inr h), (k.offZ a h).2⟩, fun a h => by
    by_cases z : zin Z a
    · exact .inr z
    · rcases k.liveB a h with q | q
      · obtain ⟨o, e, r⟩ := q
        have ao : a ∉ O := fun w => by rw [(k.offO a w).1] at e; cases e
        exact .inl ⟨o, bas_some.mpr ⟨ao, z, k.stood a o e⟩, r⟩
      · exact absurd q z, k.stk, k.slot, k.apart, k.len⟩
/-- the loop's base holds more than the def's -/
theorem Ok.basLe (k : Ok L K hd Z B O σ H s) : ∀ b o, B b = some o → bas Z O H b = some o := fun b o e =>
  bas_some.mpr ⟨(fun w => by rw [(k.offO b w).1] at e; cases e), (fun w => by rw [(k.offZ b w).1] at e; cases e), k.stood b o e⟩
theorem Ok.unbase {O' : List Addr} {σ' : L2.St} {H' : Hp} {s' : S} (k : Ok L K hd Z B O σ H s) (k' : Ok L K hd Z (bas Z O H) O' σ' H' s') : Ok L K hd Z B O' σ' H' s' :=
  ⟨fun b o e => k'.stood b o (k.basLe b o e), fun a h => ⟨(by
    cases q : B a with
    | none => rfl
    | some o => have := (k'.offO a h).1; rw [k.basLe a o q] at this; cases this), (k'.offO a h).2⟩, k.offZ, k.liveB, k'.stk, k'.slot, k'.apart, k'.len⟩
theorem Ok.visBas {O' : List Addr} {σ' : L2.St} {H' : Hp} {s' : S} (k : Ok L K hd Z B O σ H s) (k' : Ok L K hd Z (bas Z O H) O' σ' H' s') : Same (vis hd O H) (vis hd O' H') := fun a o e => by
  obtain ⟨g1, g2, g3⟩ := vis_some.mp e
  have b1 : bas Z O H a = some o := bas_some.mpr ⟨g2, (fun z => by rw [(k.offZ a z).2] at g1; cases g1), g3⟩
  exact vis_some.mpr ⟨g1, (fun w => by rw [(k'.offO a w).1] at b1; cases b1), k'.stood a o b1⟩
end
/-! ### for -/
def forGo (g : FG) (body : FS) : List PyData → EE → S → Prop
  | [], E, s => E.nx s
  | d :: r, E, s => g d s fun s2 => body { E with nx := fun s3 => forGo g body r E s3, ct := fun s3 => forGo g body r E s3, bk := E.nx } s2
def fFor (fi : FI) (g : FG) (body : FS) : FS := fun E s => fi s fun ds s1 => forGo g body ds E s1
variable {tg iter : Expr} {body : List Stmt} {ts : List Nat} {fi : FI} {g : FG} {gb : FS}
theorem forGo_mono (hg : XG L X tg ts g) (hb : XSs L X body gb) : ∀ (ds : List PyData) (E E' : EE) (s : S), E.Le E' → forGo g gb ds E s → forGo g gb ds E' s
  | [], E, E', s, le, h => le.1 _ h
  | d :: r, E, E', s, le, h => hg.mono _ _ _ _ (fun s2 h2 => hb.mono { E with nx := fun s3 => forGo g gb r E s3, ct := fun s3 => forGo g gb r E s3, bk := E.nx } { E' with nx := fun s3 => forGo g gb r E' s3, ct := fun s3 => forGo g gb r E' s3, bk := E'.nx } _ ⟨fun s3 q => forGo_mono hg hb r E E' s3 le q, le.2.1, fun s3 q => le.1 _ q, fun s3 q => forGo_mono hg hb r E E' s3 le q⟩ h2) h
theorem xsFor (hi : XI L X false tg iter fi) (hg : XG L X tg ts g) (hb : XSs L X body gb) (hp : PassesOwn (model X.prog X.w) X.A X.env X.xe) (hc : X.calm = true) (hs : ∀ x, foldedSetIterable iter X.env x = pure x := by intro _; rfl) :
    XS L X (.For tg iter body [] pos) (fFor fi g gb) := by
  refine ⟨fun E E' s le h => hi.mono _ _ _ (fun ds s1 h1 => forGo_mono hg hb ds E E' s1 le h1) h, fun hd Z B O σ H s E D ok re h => tsW_of (ps_for hp hc piW pgW pssW hs) (hi.run hd Z B O σ H s _ ok (hi.mono _ _ _ (fun ds s1 h1 J H1 Gp k1 mv ln gf gv w => ?_) h))⟩
  have gp : ∀ {O' σ' H' s'}, Ok L X.K hd Z (bas Z O H1) O' σ' H' s' → Gp H' := fun k' => gv rfl _ _ (k1.visBas k')
  refine ⟨fun i m σ' H' => m = ds.length - i ∧ i ≤ ds.length ∧ ∃ O' s', Ok L X.K hd Z (bas Z O H1) O' σ' H' s' ∧ forGo g gb (ds.drop i) E s', ⟨_, rfl, Nat.zero_le _, O, s1, k1.rebase, h1⟩, ?_⟩
  rintro i m σ' H' ⟨rfl, hi', O', s', k', q⟩
  by_cases lt : i < ds.length
  · refine .inr ⟨w.goes i H' lt (gp k'), fun σ2 H2 => ∃ O2 s2, Ok L X.K hd Z (bas Z O H1) O2 σ2 H2 s2 ∧ forGo g gb (ds.drop (i + 1)) E s2, fun σ2 H2 ⟨O2, s2, k2, q2⟩ => ⟨_, by omega, rfl, lt, O2, s2, k2, q2⟩, fun x H2 y => ?_⟩
    obtain ⟨d, hd1, sm, rx⟩ := w.yields i H' x H2 _ O' σ' s' lt (gp k') k' (k1.visBas k') y
    have k2 := k'.same sm
    rw [List.drop_eq_getElem_cons lt] at q
    have ed : ds[i] = d := by rw [List.getElem?_eq_getElem lt] at hd1; exact Option.some.inj hd1
    rw [ed] at q
    refine hg.run hd Z _ O' σ' H2 s' x d _ k2 rx (hg.mono _ _ _ _ (fun s3 h3 σ3 k3 _ => ?_) q)
    refine hb.run hd Z _ O' σ3 H2 s3 { E with nx := fun s3 => forGo g gb (ds.drop (i + 1)) E s3, ct := fun s3 => forGo g gb (ds.drop (i + 1)) E s3, bk := E.nx } _ k3 ⟨fun O4 σ4 H4 s4 q4 k4 => ⟨O4, s4, k4, q4⟩, fun r n v H4 q4 fr st rr => ?_, fun O4 σ4 H4 s4 q4 k4 => ?_, fun O4 σ4 H4 s4 q4 k4 => ⟨O4, s4, k4, q4⟩⟩ h3
    · refine re.rt r n v H4 q4 (fun b o nz e => fr b o nz (k1.basLe b o e)) st ?_
      cases r with
      | ow ds' =>
        obtain ⟨p, vs, e1, e2, e3⟩ := rr
        refine ⟨p, vs, e1, ?_, e3⟩
        cases z : B p with
        | none => rfl
        | some o => rw [k1.basLe p o z] at e2; cases e2
      | im d => exact rr
      | br _ _ => exact rr
      | ob t d => exact rr
      | dr => exact rr
    · exact re.nx O4 σ4 H4 s4 q4 (k1.unbase k4)
  · have e : i = ds.length := by omega
    subst e
    rw [List.drop_length] at q
    exact .inl ⟨w.stops H' (gp k'), re.nx O' σ' H' s' q (k1.unbase k')⟩

/-! ### comprehensions -/
/-- the slots of the comprehension's own names -/
def wipeE (l : List (Option Ent)) : List Nat → List (Option Ent)
  | [] => l
  | v :: vs => pt (wipeE l vs) v none
def lcGo (g : FG) (t : FT) (f : FE) : List PyData → List PyData → S → (List PyData → Nat → Prop) → Prop
  | [], acc, s, Q => Q acc s.n
  | d :: ds, acc, s, Q => g d s fun s1 => t s1 fun b s2 => match b with
    | true => f s2 fun r s3 => match r.kept with
      | some e => lcGo g t f ds (acc ++ [e]) { s with n := s3.n } Q
      | none => False
    | false => lcGo g t f ds acc { s with n := s2.n } Q
def fLc (fi : FI) (g : FG) (t : FT) (f : FE) (vs : List Nat) : FE := fun s Q => fi s fun ds s1 => lcGo g t f ds [] { s1 with env := wipeE s1.env vs } fun acc m => Q (.ow acc) { s1 with n := m }
def ptsW (X : Cx) (ifs : List Expr) : TT := fun σ H Q => ∃ t, PTs X ifs t ∧ t σ H Q
structure XTs (L : Lay) (X : Cx) (ifs : List Expr) (f : FT) : Prop where
  mono : ∀ s Q Q', (∀ r s', Q r s' → Q' r s') → f s Q → f s Q'
  po : ∃ t, PTs X ifs t ∧ ∀ hd Z B O σ H s Q, Ok L X.K hd Z B O σ H s → f s (fun b s' => ∀ H', Ok L X.K hd Z B O σ H' s' → Mv Z H H' s s' → Q b H') → t σ H Q
def fYes : FT := fun s Q => Q true s
theorem xtsNil : XTs L X [] fYes := ⟨fun s Q Q' k h => k _ _ h, _, pts_nil, fun hd Z B O σ H s Q ok h => h H ok Mv.refl⟩
theorem xtsOne {c : Expr} {t : FT} (h : XT L X c t) : XTs L X [c] t := ⟨h.mono, _, pts_one ptW, fun hd Z B O σ H s Q ok q => h.run hd Z B O σ H s Q ok q⟩
theorem wipe_only : ∀ {vs : List Nat} {σ σ' : L2.St}, (∀ j : Nat, j ∉ vs → σ'[j]? = σ[j]?) → σ'.length = σ.length → wipe σ' vs = wipe σ vs := by
  have get : ∀ (vs : List Nat) (σ : L2.St) (j : Nat), (wipe σ vs)[j]? = if j ∈ vs ∧ j < σ.length then some none else σ[j]? := by
    intro vs
    induction vs with
    | nil => intro σ j; simp [wipe]
    | cons v vs ih =>
      intro σ j
      show ((wipe σ vs).set v none)[j]? = _
      by_cases e : v = j
      · subst e
        by_cases l : v < σ.length
        · rw [List.getElem?_set_self (by rw [wipe_length]; exact l), if_pos ⟨List.mem_cons_self, l⟩]
        · rw [List.getElem?_eq_none (by rw [List.length_set, wipe_length]; omega), if_neg (fun z => l z.2), List.getElem?_eq_none (by omega)]
      · rw [List.getElem?_set_ne e, ih]
        have : (j ∈ v :: vs) ↔ (j ∈ vs) := by
          rw [List.mem_cons]
          exact ⟨fun z => z.elim (fun q => absurd q.symm e) id, .inr⟩
        simp only [this]
  intro vs σ σ' h1 h2
  apply List.ext_getElem?
  intro j
  rw [get, get, h2]
  by_cases m : j ∈ vs
  · by_cases l : j < σ.length
    · rw [if_pos ⟨m, l⟩, if_pos ⟨m, l⟩]
    · rw [if_neg (fun z => l z.2), if_neg (fun z => l z.2), List.getElem?_eq_none (by omega), List.getElem?_eq_none (by omega)]
  · rw [if_neg (fun z => m z.1), if_neg (fun z => m z.1)]
    exact h1 j m
theorem wipeE_at : ∀ {vs : List Nat} {l : List (Option Ent)} {i : Nat} {e : Ent}, (wipeE l vs)[i]? = some (some e) → l[i]? = some (some e) ∧ i ∉ vs
  | [], _, _, _, h => ⟨h, by simp⟩
  | v :: vs, l, i, e, h => by
    have h' : (pt (wipeE l vs) v none)[i]? = some (some e) := h
    rw [pt_set] at h'
    by_cases hi : v = i
    · subst hi
      by_cases hv : v < (wipeE l vs).length
      · rw [List.getElem?_set_self hv] at h'; cases h'
      · rw [List.getElem?_eq_none (by simpa using hv)] at h'; cases h'
    · rw [List.getElem?_set_ne hi] at h'
      obtain ⟨h1, h2⟩ := wipeE_at h'
      exact ⟨h1, by simp only [List.mem_cons, not_or]; exact ⟨fun e => hi e.symm, h2⟩⟩
theorem wipeE_len : ∀ (vs : List Nat) (l : List (Option Ent)), (wipeE l vs).length = l.length
  | [], _ => rfl
  | v :: vs, l => by
    show (pt (wipeE l vs) v none).length = _
    rw [pt_set, List.length_set, wipeE_len vs l]
theorem wipe_at : ∀ {vs : List Nat} {σ : L2.St} {i : Nat}, i ∉ vs → (wipe σ vs)[i]? = σ[i]?
  | [], _, _, _ => rfl
  | v :: vs, σ, i, h => by
    rw [List.mem_cons, not_or] at h
    show ((wipe σ vs).set v none)[i]? = _
    rw [List.getElem?_set_ne (Ne.symm h.1)]
    exact wipe_at h.2
/-- the state within a comprehension: its new list at D is hidden -/
theorem Ok.inner {K : PySem.W.Frag} {hd : Addr → Bool} {Z : Zt} {B : Hp} {O : List Addr} {σ : L2.St} {H : Hp} {s : S} (k : Ok L K hd Z B O σ H s) {D : Addr} (hD : H D = none) (vs : List Nat) (xs : List V) :
    Ok L K hd Z B (D :: O) (wipe σ vs) (upd H D (.lst xs)) { s with env := wipeE s.env vs } := by
  obtain ⟨d1, d2, d3⟩ := k.fresh hD
  have sm := sameNew (o := .lst xs) hD
  have vv : Same (vis hd O H) (vis hd (D :: O) (upd H D (.lst xs))) := fun a o e => by
    obtain ⟨g1, g2, g3⟩ := vis_some.mp e
    exact vis_some.mpr ⟨g1, fun q => (List.mem_cons.mp q).elim (ne_of_none g3 hD) g2, sm a o g3⟩
  refine ⟨fun b o e => sm b o (k.stood b o e), fun a h => ?_, k.offZ, k.liveB, fun z e => L.keep (k.stk z e) fun b o _ q => sm b o q, fun i e h => ?_, fun i j ds es p h1 h2 h3 h4 => ?_, by rw [wipe_length, wipeE_len]; exact k.len⟩
  · rcases List.mem_cons.mp h with rfl | h
    · exact ⟨k.noneB hD, d1, _, upd_same⟩
    · obtain ⟨g1, g2, g3⟩ := k.offO a h
      obtain ⟨ys, e⟩ := g3
      exact ⟨g1, g2, ys, sm a _ e⟩
  · obtain ⟨h1, h2⟩ := wipeE_at h
    obtain ⟨v, g1, g2⟩ := k.slot i e h1
    refine ⟨v, by rw [wipe_at h2]; exact g1, ?_⟩
    cases e with
    | im d => exact Rp.same vv g2
    | ow ds =>
      obtain ⟨p, ws, a1, a2, a3, a4⟩ := g2
      exact ⟨p, ws, a1, List.mem_cons_of_mem _ a2, sm _ _ a3, a4.same vv⟩
    | br _ _ => exact g2
    | ob t d => exact L.mono vv g2
    | dr => exact g2
  · obtain ⟨g1, g1'⟩ := wipeE_at h1
    obtain ⟨g2, g2'⟩ := wipeE_at h2
    rw [wipe_at g1'] at h3
    rw [wipe_at g2'] at h4
    exact k.apart i j ds es p g1 g2 h3 h4
/-- the list at D grows -/
theorem Ok.put {K : PySem.W.Frag} {hd : Addr → Bool} {Z : Zt} {B : Hp} {O : List Addr} {σ : L2.St} {H : Hp} {s : S} {D : Addr} (k : Ok L K hd Z B (D :: O) σ H s) (nO : ∀ (i : Nat), σ[i]? ≠ some (some (.ref D)) ∨ ∀ ds, s.env[i]? ≠ some (some (.ow ds))) (xs : List V) : Ok L K hd Z B (D :: O) σ (upd H D (.lst xs)) s := by
  have dd := k.offO D List.mem_cons_self
  have dz : ¬ zin Z D := fun z => by rw [(k.offZ D z).2] at dd; cases dd.2.1
  have vv : Same (vis hd (D :: O) H) (vis hd (D :: O) (upd H D (.lst xs))) := fun a o e => by
    obtain ⟨g1, g2, g3⟩ := vis_some.mp e
    have ne : a ≠ D := fun z => g2 (by rw [z]; exact List.mem_cons_self)
    exact vis_some.mpr ⟨g1, g2, by rw [upd_ne ne]; exact g3⟩
  refine ⟨fun b o e => ?_, fun a h => ?_, k.offZ, k.liveB, fun z e => L.keep (k.stk z e) fun b o hb q => ?_, fun i e h => ?_, k.apart, k.len⟩
  · rw [upd_ne (fun z => by rw [z, dd.1] at e; cases e)]
    exact k.stood b o e
  · obtain ⟨g1, g2, g3⟩ := k.offO a h
    refine ⟨g1, g2, ?_⟩
    by_cases z : a = D
    · rw [z]; exact ⟨_, upd_same⟩
    · rw [upd_ne z]; exact g3
  · rw [upd_ne (fun z' => dz ⟨z, e, by rw [← z']; exact hb⟩)]
    exact q
  · obtain ⟨v, g1, g2⟩ := k.slot i e h
    refine ⟨v, g1, ?_⟩
    cases e with
    | im d => exact Rp.same vv g2
    | ow ds =>
      obtain ⟨p, ws, rfl, a2, a3, a4⟩ := g2
      have ne : p ≠ D := fun z => by
        rcases nO i with q | q
        · exact q (by rw [← z]; exact g1)
        · exact q ds h
      exact ⟨p, ws, rfl, a2, by rw [upd_ne ne]; exact a3, a4.same vv⟩
    | br _ _ => exact g2
    | ob t d => exact L.mono vv g2
    | dr => exact g2
end
end DL

set_option maxRecDepth 100000
set_option maxHeartbeats 2000000
namespace DL
open PySem PySem.Spec PyProof.Rows L2
section
variable {L : Lay} {X : Cx} {pos : Pos}
/-- a comprehension's block -/
abbrev Blk (X : Cx) (scope : Scope) (s : Shared) (H : Hp) (C : Addr) (cl : List (Str × Addr)) (fp : List Addr) : Cx := X.blk s H scope (compEnvC scope cl C X.env) fp
variable {tg iter elt : Expr} {ifs : List Expr} {scope : Scope} {own : List (Str × Nat)} {ts : List Nat} {fi : FI} {g : FG} {t : FT} {f : FE}
theorem lcGo_mono (hg : XG L X tg ts g) (ht : XTs L X ifs t) (he : XE L X elt f) : ∀ (ds acc : List PyData) (s : S) (Q Q' : List PyData → Nat → Prop), (∀ a m, Q a m → Q' a m) → lcGo g t f ds acc s Q → lcGo g t f ds acc s Q'
  | [], acc, s, Q, Q', k, h => k _ _ h
  | d :: ds, acc, s, Q, Q', k, h => hg.mono _ _ _ _ (fun s1 h1 => ht.mono _ _ _ (fun b s2 h2 => by
      cases b with
      | true =>
        refine he.mono _ _ _ (fun r s3 h3 => ?_) h2
        cases q : r.kept with
        | none => simp only [q] at h3
        | some e => simp only [q] at h3 ⊢; exact lcGo_mono hg ht he ds _ _ Q Q' k h3
      | false => exact lcGo_mono hg ht he ds _ _ Q Q' k h2) h1) h
/-- the readings, whatever the block's place -/
def gAll' (X : Cx) (scope : Scope) (tg : Expr) : TG := fun v σ H Q => ∀ (s : Shared) (H0 : Hp) (C : Addr) (cl : List (Str × Addr)) (fp : List Addr), tgW (Blk X scope s H0 C cl fp) tg v σ H Q
def tAll (X : Cx) (scope : Scope) (ifs : List Expr) : TT := fun σ H Q => ∀ (s : Shared) (H0 : Hp) (C : Addr) (cl : List (Str × Addr)) (fp : List Addr), ∃ tt, PTs (Blk X scope s H0 C cl fp) ifs tt ∧ tt σ H Q
def eAll (X : Cx) (scope : Scope) (elt : Expr) : TE := fun σ H Q => ∀ (s : Shared) (H0 : Hp) (C : Addr) (cl : List (Str × Addr)) (fp : List Addr), tW (Blk X scope s H0 C cl fp) elt σ H Q
theorem gAll_ok (s : Shared) (H0 : Hp) (C : Addr) (cl : List (Str × Addr)) (fp : List Addr) : PG (Blk X scope s H0 C cl fp) tg (gAll' X scope tg) := ⟨fun pins sh σ H v u Q I r h => h s H0 C cl fp pins sh u I r⟩
theorem tAll_ok (s : Shared) (H0 : Hp) (C : Addr) (cl : List (Str × Addr)) (fp : List Addr) : PTs (Blk X scope s H0 C cl fp) ifs (tAll X scope ifs) := ⟨fun pins sh σ H Q I h => by
  obtain ⟨tt, p, q⟩ := h s H0 C cl fp
  exact p.run pins sh σ H Q I q⟩
theorem eAll_ok (s : Shared) (H0 : Hp) (C : Addr) (cl : List (Str × Addr)) (fp : List Addr) : PE (Blk X scope s H0 C cl fp) elt (eAll X scope elt) := ⟨fun pins sh σ H Q I h => h s H0 C cl fp pins sh I⟩
/-- an instance of the block, for what does not lean on it -/
abbrev Blk0 (X : Cx) (scope : Scope) : Cx := Blk X scope X.s_0 X.H_0 0 [] []
theorem lc_run (hi : XI L X true tg iter fi) (hg : ∀ s H C cl fp, XG L (Blk X scope s H C cl fp) tg ts g) (ht : ∀ s H C cl fp, XTs L (Blk X scope s H C cl fp) ifs t) (he : ∀ s H C cl fp, XE L (Blk X scope s H C cl fp) elt f)
    (hts : ∀ j ∈ ts, j ∈ own.map (·.2)) {hd : Addr → Bool} {Z : Zt} {B : Hp} {O : List Addr} {σ : L2.St} {H : Hp} {s : S} {Q : VK} (ok : Ok L X.K hd Z B O σ H s)
    (h : fLc fi g t f (own.map (·.2)) s fun r s' => ∀ v H', Ok L X.K hd Z B O σ H' s' → Mv Z H H' s s' → Rs L X.K hd Z O σ H H' v r → Q v H') :
    tLc (tiW X tg iter) (gAll' X scope tg) (tAll X scope ifs) (eAll X scope elt) (own.map (·.2)) σ H Q := by
  have hg0 := hg X.s_0 X.H_0 0 [] []
  have ht0 := ht X.s_0 X.H_0 0 [] []
  have he0 := he X.s_0 X.H_0 0 [] []
  generalize hvs : own.map (·.2) = vs at h hts ⊢
  refine hi.run hd Z B O σ H s _ ok (hi.mono _ _ _ (fun ds s1 h1 J H1 Gp k1 mv ln gf _ w D hD => ?_) h)
  have kin := k1.inner hD vs []
  obtain ⟨d1, d2, d3⟩ := k1.fresh hD
  have sm0 := sameNew (o := .lst []) hD
  have noD : ∀ (i : Nat), (wipe σ vs)[i]? ≠ some (some (.ref D)) ∨ ∀ ds, (wipeE s1.env vs)[i]? ≠ some (some (.ow ds)) := fun i => by
    refine Classical.byContradiction fun nn => ?_
    rw [not_or] at nn
    obtain ⟨n1, n2⟩ := nn
    have n1 := Classical.not_not.mp n1
    refine n2 fun ds q => ?_
    obtain ⟨q1, q2⟩ := wipeE_at q
    obtain ⟨v, a1, p, ws, rfl, a2, _⟩ := k1.slot i _ q1
    rw [wipe_at q2, a1] at n1
    cases n1
    exact d2 a2
  refine ⟨fun i m H' => m = ds.length - i ∧ i ≤ ds.length ∧ ∃ n acc ws, Ok L X.K hd Z B (D :: O) (wipe σ vs) H' ⟨wipeE s1.env vs, n⟩ ∧ H' D = some (.lst ws) ∧ RpAll X.K (vis hd (D :: O) H') ws acc ∧ ws.length ≤ i ∧ Frm Z H1 H' ∧
    lcGo g t f (ds.drop i) acc ⟨wipeE s1.env vs, n⟩ (fun acc m => ∀ v H', Ok L X.K hd Z B O σ H' { s1 with n := m } → Mv Z H H' s { s1 with n := m } → Rs L X.K hd Z O σ H H' v (.ow acc) → Q v H'),
    ⟨_, rfl, Nat.zero_le _, s1.n, [], [], kin, upd_same, .nil, Nat.le_refl _, Frm.of sm0, h1⟩, ?_⟩
  rintro i m H' ⟨rfl, hi', n, acc, ws, k', hDl, rp, wl, fr, q⟩
  by_cases lt : i < ds.length
  · refine .inr ⟨w.goes i H' lt (gf H' fr), fun H2 => ∃ n acc ws, Ok L X.K hd Z B (D :: O) (wipe σ vs) H2 ⟨wipeE s1.env vs, n⟩ ∧ H2 D = some (.lst ws) ∧ RpAll X.K (vis hd (D :: O) H2) ws acc ∧ ws.length ≤ i + 1 ∧ Frm Z H1 H2 ∧
      lcGo g t f (ds.drop (i + 1)) acc ⟨wipeE s1.env vs, n⟩ (fun acc m => ∀ v H', Ok L X.K hd Z B O σ H' { s1 with n := m } → Mv Z H H' s { s1 with n := m } → Rs L X.K hd Z O σ H H' v (.ow acc) → Q v H'),
      fun H2 z => ⟨_, by omega, rfl, lt, z⟩, fun x H2 y => ?_⟩
    have vv : Same (vis hd O H1) (vis hd (D :: O) H') := fun a o e => by
      obtain ⟨g1, g2, g3⟩ := vis_some.mp e
      exact vis_some.mpr ⟨g1, fun z => (List.mem_cons.mp z).elim (ne_of_none g3 hD) g2, fr a o (fun z => by rw [(k1.offZ a z).2] at g1; cases g1) g3⟩
    obtain ⟨d, hd1, sm, rx⟩ := w.yields i H' x H2 _ (D :: O) _ _ lt (gf H' fr) k' vv y
    have k2 := k'.same sm
    rw [List.drop_eq_getElem_cons lt] at q
    have ed : ds[i] = d := by rw [List.getElem?_eq_getElem lt] at hd1; exact Option.some.inj hd1
    rw [ed] at q
    intro sb Hb C cl fp
    refine (hg sb Hb C cl fp).run hd Z B (D :: O) (wipe σ vs) H2 _ x d _ k2 rx (hg0.mono _ _ _ _ (fun s2 h2 σ2 k3 os => ?_) q)
    have ww : wipe σ2 vs = wipe (wipe σ vs) vs := wipe_only (fun j hj => os.1 j fun z => hj (hts j z)) os.2
    have ww2 : wipe (wipe σ vs) vs = wipe σ vs := wipe_only (fun j hj => wipe_at hj) (wipe_length σ vs)
    refine ⟨ww.trans ww2, ?_⟩
    intro sb Hb C cl fp
    obtain ⟨tt, pt0, qt⟩ := (ht sb Hb C cl fp).po
    refine ⟨tt, pt0, qt hd Z B (D :: O) σ2 H2 s2 _ k3 (ht0.mono _ _ _ (fun b s3 h3 H3 k4 m4 => ?_) h2)⟩
    have dz : ¬ zin Z D := d3
    cases b with
    | false =>
      refine iteF ⟨s3.n, acc, ws, k2.step m4.fr k4.stk, m4.fr D _ dz (sm D _ hDl), (rp.same (vis_frm k' (Frm.of sm))).same (vis_frm k2 m4.fr), by omega, (fr.trans (Frm.of sm)).trans m4.fr, h3⟩
    | true =>
      refine iteT ?_
      intro sb Hb C cl fp
      refine (he sb Hb C cl fp).run hd Z B (D :: O) σ2 H3 s3 _ k4 (he0.mono _ _ _ (fun r s5 h5 v H5 k5 m5 r5 => ?_) h3)
      cases z : r.kept with
      | none => simp only [z] at h5
      | some e =>
        simp only [z] at h5
        have fr5 : Frm Z H2 H5 := m4.fr.trans m5.fr
        have hD5 : H5 D = some (.lst ws) := fr5 D _ dz (sm D _ hDl)
        have kk : Ok L X.K hd Z B (D :: O) (wipe σ vs) H5 ⟨wipeE s1.env vs, s5.n⟩ := k2.step fr5 k5.stk
        have frD : Frm Z H1 (upd H5 D (.lst (ws ++ [v]))) := fun b o nz e0 => by
          have ne : b ≠ D := ne_of_none e0 hD
          rw [upd_ne ne]
          exact ((fr.trans (Frm.of sm)).trans fr5) b o nz e0
        have vD : Same (vis hd (D :: O) H5) (vis hd (D :: O) (upd H5 D (.lst (ws ++ [v])))) := fun a o e0 => by
          obtain ⟨g1, g2, g3⟩ := vis_some.mp e0
          exact vis_some.mpr ⟨g1, g2, by rw [upd_ne (fun z => g2 (by rw [z]; exact List.mem_cons_self))]; exact g3⟩
        have rp5 := (rp.same (vis_frm k' (Frm.of sm))).same (vis_frm k2 fr5)
        refine ⟨ws, hD5, Nat.lt_of_le_of_lt wl (Nat.lt_of_lt_of_le lt ln), s5.n, acc ++ [e], ws ++ [v], kk.put noD _, upd_same, (rp5.append (.cons (Rs.keeps r5 z) .nil)).same vD, by rw [List.length_append, List.length_singleton]; omega, frD, h5⟩
  · have e : i = ds.length := by omega
    subst e
    rw [List.drop_length] at q
    refine .inl ⟨w.stops H' (gf H' fr), q _ H' (k1.step fr k'.stk) (mv.trans ⟨fr, rfl⟩) ?_⟩
    exact ⟨D, ws, rfl, mv.fr.none d3 hD, d1, d2, hDl, rp⟩
theorem fLc_mono {vs : List Nat} (hi : XI L X true tg iter fi) (hg : XG L (Blk0 X scope) tg ts g) (ht : XTs L (Blk0 X scope) ifs t) (he : XE L (Blk0 X scope) elt f) : ∀ s Q Q', (∀ r s', Q r s' → Q' r s') → fLc fi g t f vs s Q → fLc fi g t f vs s Q' :=
  fun s Q Q' k h => hi.mono _ _ _ (fun ds s1 h1 => lcGo_mono hg ht he ds [] _ _ _ (fun a m q => k _ _ q) h1) h
theorem xLc (own : List (Str × Nat)) (hc : X.calm = true) (hN : X.N.Nodup) (hi : XI L X true tg iter fi) (ok : blkC X.N X.env.scope scope own = true) (hg : ∀ s H C cl fp, XG L (Blk X scope s H C cl fp) tg ts g) (ht : ∀ s H C cl fp, XTs L (Blk X scope s H C cl fp) ifs t)
    (he : ∀ s H C cl fp, XE L (Blk X scope s H C cl fp) elt f) (hts : ∀ j ∈ ts, j ∈ own.map (·.2) := by decide) (hs : ∀ x, foldedSetIterable iter X.env x = pure x := by intro _; rfl) : XE L X (.ListComp elt [⟨tg, iter, ifs, 0⟩] scope pos) (fLc fi g t f (own.map (·.2))) :=
  ⟨fLc_mono hi (hg _ _ _ _ _) (ht _ _ _ _ _) (he _ _ _ _ _), fun hd Z B O σ H s Q k h => tW_of (pe_lc hc hN piW (blkOk_by ok) gAll_ok tAll_ok eAll_ok hs) (lc_run hi hg ht he hts k h)⟩
variable {y : Str} {py spos : Pos}
/-- y = [..]; kept as a datum -/
theorem xsSetLc (i : Nat) (own : List (Str × Nat)) (hc : X.calm = true) (hN : X.N.Nodup) (hi : XI L X true tg iter fi) (ok : blkC X.N X.env.scope scope own = true) (hg : ∀ s H C cl fp, XG L (Blk X scope s H C cl fp) tg ts g) (ht : ∀ s H C cl fp, XTs L (Blk X scope s H C cl fp) ifs t)
    (he : ∀ s H C cl fp, XE L (Blk X scope s H C cl fp) elt f) (hsw : swapsWith (.ListComp elt [⟨tg, iter, ifs, 0⟩] scope pos) (some (.Name y py)) spos.line X.env = pure true) (hy : X.N[i]? = some y := by rfl) (hyl : X.env.scope.names.lookup y = some .local := by rfl) (hts : ∀ j ∈ ts, j ∈ own.map (·.2) := by decide)
    (hs : ∀ x, foldedSetIterable iter X.env x = pure x := by intro _; rfl) : XS L X (.Assign [.Name y py] (.ListComp elt [⟨tg, iter, ifs, 0⟩] scope pos) spos) (fSet i (fLc fi g t f (own.map (·.2)))) := by
  have m := fLc_mono (vs := own.map (·.2)) hi (hg X.s_0 X.H_0 0 [] []) (ht X.s_0 X.H_0 0 [] []) (he X.s_0 X.H_0 0 [] [])
  refine ⟨fun E E' s le h => m _ _ _ (fun r s1 h1 => plainR_mono (fun e q => le.1 _ q) h1) h, fun hd Z B O σ H s E D k re h => tsW_of (ps_setLc hc hN hy hyl hsw piW (blkOk_by ok) gAll_ok tAll_ok eAll_ok hs) (lc_run hi hg ht he hts k (m _ _ _ (fun r s1 h1 v H1 k1 f1 r1 => ?_) h))⟩
  obtain ⟨en, q, nn, sl⟩ := plainR_v h1 r1
  exact re.nx O _ H1 _ q (k1.set i fun y hy => by cases hy; exact ⟨nn, sl⟩)
/-- y = [..]; one's own -/
theorem xsSetLcO (i : Nat) (own : List (Str × Nat)) (hc : X.calm = true) (hN : X.N.Nodup) (hi : XI L X true tg iter fi) (ok : blkC X.N X.env.scope scope own = true) (hg : ∀ s H C cl fp, XG L (Blk X scope s H C cl fp) tg ts g) (ht : ∀ s H C cl fp, XTs L (Blk X scope s H C cl fp) ifs t)
    (he : ∀ s H C cl fp, XE L (Blk X scope s H C cl fp) elt f) (hsw : swapsWith (.ListComp elt [⟨tg, iter, ifs, 0⟩] scope pos) (some (.Name y py)) spos.line X.env = pure true) (hy : X.N[i]? = some y := by rfl) (hyl : X.env.scope.names.lookup y = some .local := by rfl) (hts : ∀ j ∈ ts, j ∈ own.map (·.2) := by decide)
    (hs : ∀ x, foldedSetIterable iter X.env x = pure x := by intro _; rfl) : XS L X (.Assign [.Name y py] (.ListComp elt [⟨tg, iter, ifs, 0⟩] scope pos) spos) (fSetO i (fLc fi g t f (own.map (·.2)))) := by
  have m := fLc_mono (vs := own.map (·.2)) hi (hg X.s_0 X.H_0 0 [] []) (ht X.s_0 X.H_0 0 [] []) (he X.s_0 X.H_0 0 [] [])
  refine ⟨fun E E' s le h => m _ _ _ (fun r s1 h1 => ownR_mono (fun e q => le.1 _ q) h1) h, fun hd Z B O σ H s E D k re h => tsW_of (ps_setLc hc hN hy hyl hsw piW (blkOk_by ok) gAll_ok tAll_ok eAll_ok hs) (lc_run hi hg ht he hts k (m _ _ _ (fun r s1 h1 v H1 k1 f1 r1 => ?_) h))⟩
  cases r with
  | ow ds =>
    obtain ⟨p, _, k2⟩ := k1.own k i r1 f1
    exact re.nx _ _ H1 _ h1 k2
  | im d => exact h1.elim
  | br _ _ => exact h1.elim
  | ob t d => exact h1.elim
  | dr => exact h1.elim

/-! ### a def -/
/-- what a def's body does with its arguments: nN names, np parameters -/
def runF (nN np : Nat) (g : FS) : FF := fun es n Q => es.length = np ∧ g { nx := fun s => Q (.im .none) s.n, rt := Q } ⟨es.map some ++ List.replicate (nN - np) none, n⟩
theorem rsAll_get {K : PySem.W.Frag} {hd : Addr → Bool} {Z : Zt} {O : List Addr} {σ : L2.St} {H H' : Hp} : ∀ {vs : List V} {es : List Ent} {i : Nat} {e : Ent}, RsAll L K hd Z O σ H H' vs es → es[i]? = some e → ∃ v, vs[i]? = some v ∧ Rs L K hd Z O σ H H' v e
  | _, _, _, _, .nil, h => by simp at h
  | _, _, 0, _, .cons a _, h => by simp at h; subst h; exact ⟨_, rfl, a⟩
  | _, _, i + 1, e, .cons _ b, h => by
    obtain ⟨v, h1, h2⟩ := rsAll_get (i := i) (e := e) b (by simpa using h)
    exact ⟨v, by simpa using h1, h2⟩
theorem Ok.begin {K : PySem.W.Frag} {hd : Addr → Bool} {Z : Zt} {H : Hp} {N : List Str} {vs : List V} {es : List Ent} {n np : Nat} (h1 : ∀ a, hd a = true → HkAt H a) (h2 : ∀ a, zin Z a → hd a = true) (h3 : ∀ z, Z = some z → L.Stk z n H) (r : RsAll L K hd Z [] [] H H vs es)
    (hl : es.length = np) : Ok L K hd Z (bas Z [] H) [] (start N vs) H ⟨es.map some ++ List.replicate (N.length - np) none, n⟩ := by
  have vl := r.length
  have ix : ∀ (i : Nat) (e : Ent), (es.map some ++ List.replicate (N.length - np) none)[i]? = some (some e) → es[i]? = some e := fun i e h => by
    by_cases hi : i < es.length
    · rw [List.getElem?_append_left (by simpa using hi), List.getElem?_map] at h
      cases q : es[i]? with
      | none => rw [q] at h; cases h
      | some x => rw [q] at h; cases h; rfl
    · rw [List.getElem?_append_right (by simpa using hi), List.getElem?_replicate] at h
      split at h <;> cases h
  have nob : ∀ (v : V) (ds : List PyData), ¬ Rs L K hd Z [] [] H H v (.ow ds) := fun v ds ⟨p, vs, _, e2, _, _, e5, _⟩ => by rw [e2] at e5; cases e5
  refine ⟨fun b o e => (bas_some.mp e).2.2, fun a ha => absurd ha (by simp), fun a ha => ⟨bas_none (.inr ha), h2 a ha⟩, fun a ha => ?_, h3, fun i e h => ?_, fun i j ds es' p g1 _ _ _ => ?_, ?_⟩
  · by_cases z : zin Z a
    · exact .inr z
    · obtain ⟨o, e, r⟩ := h1 a ha
      exact .inl ⟨o, bas_some.mpr ⟨by simp, z, e⟩, r⟩
  · obtain ⟨v, g1, g2⟩ := rsAll_get r (ix i e h)
    refine ⟨v, ?_, ?_⟩
    · unfold L2.start
      have hi : i < vs.length := (List.getElem?_eq_some_iff.mp g1).1
      rw [List.getElem?_append_left (by simpa using hi), List.getElem?_map, g1]
      rfl
    · cases e with
      | im d => exact g2
      | ow ds => exact (nob _ _ g2).elim
      | br i ds =>
        obtain ⟨p, ws, _, a2, _⟩ := g2
        simp at a2
      | ob t d => exact g2
      | dr => exact g2
  · obtain ⟨v, _, g3⟩ := rsAll_get r (ix _ _ g1)
    exact (nob _ _ g3).elim
  · unfold L2.start
    rw [List.length_append, List.length_append, List.length_map, List.length_map, List.length_replicate, List.length_replicate, vl, hl]
theorem def_mk {P : Program} {w : World} {K : PySem.W.Frag} {mg : Str → Option Value} {base : Heap} {x qual : Str} {st : Stmt} {f : Addr} {fd : FuncData} {N ps : List Str} {k nN np : Nat} {g : FS} (F : Fun K x qual st f fd) (Sc : FnScope N ps (defScope st)) (hN : N.length = nN := by rfl) (hp : ps.length = np := by rfl)
    (hb : ∀ (cdv : Value) (A : Around) (outer : List Env) (s : Shared) (H : Hp) (E : XK), Room k (A.deeper (envOfC qual (defScope st) s.heap.objs.size f cdv)) → XSs L (cxOf CX0 P w K mg base N qual (defScope st) f cdv A outer s H E).nox (defBody st) g) :
    FnOk P w K mg base CX0 (k + 1) f fd ps (spW L K (runF nN np g)) := by
  subst hN hp
  refine F.ok Sc (fun vs H Q E h => ?_) (fun cdv A outer s H vs Q E hr h => ?_)
  · obtain ⟨hd, Z, es, n, _, _, _, r, hl, _⟩ := h
    rw [r.length]
    exact hl
  · obtain ⟨hd, Z, es, n, h1, h2, h3, r, hl, q⟩ := h
    have kb : Ok L K hd Z (bas Z [] H) [] (start N vs) H ⟨es.map some ++ List.replicate (N.length - ps.length) none, n⟩ := Ok.begin h1 h2 h3 r hl
    refine ⟨_, pssW, (hb cdv A outer s H E hr).run hd Z (bas Z [] H) [] (start N vs) H _ _ _ kb ⟨fun O σ' H' s' q' k' => ?_, fun r' n' v H' q' fr st' rr => ?_, fun _ _ _ _ (z : False) _ => z.elim, fun _ _ _ _ (z : False) _ => z.elim⟩ q⟩
    · exact q' _ H' (fun b o nz e => k'.stood b o (bas_some.mpr ⟨by simp, nz, e⟩)) k'.stk .non
    · refine q' v H' (fun b o nz e => fr b o nz (bas_some.mpr ⟨by simp, nz, e⟩)) st' ?_
      cases r' with
      | ow ds =>
        obtain ⟨p, ws, e1, e2, e3, e4⟩ := rr
        refine ⟨p, ws, e1, ?_, e3, e4⟩
        cases z : H p with
        | none => rfl
        | some o =>
          have nz : ¬ zin Z p := fun w => by rw [h2 p w] at e3; cases e3
          rw [bas_some.mpr ⟨by simp, nz, z⟩] at e2
          cases e2
      | im d => exact rr
      | br i ds =>
        obtain ⟨p, ws, _, a2, _⟩ := rr
        simp at a2
      | ob t d => exact rr
      | dr => exact rr
/-- .. and what it does is told alike, whatever is wanted -/
theorem def_mono {P : Program} {w : World} {K : PySem.W.Frag} {mg : Str → Option Value} {base : Heap} {qual : Str} {st : Stmt} {f : Addr} {N : List Str} {k nN np : Nat} {g : FS}
    (hb : ∀ (cdv : Value) (A : Around) (outer : List Env) (s : Shared) (H : Hp) (E : XK), Room k (A.deeper (envOfC qual (defScope st) s.heap.objs.size f cdv)) → XSs L (cxOf CX0 P w K mg base N qual (defScope st) f cdv A outer s H E).nox (defBody st) g) :
    ∀ (A : Around) (_ : Shared), Room (k + 1) A → ∀ es n Q Q', (∀ r m, Q r m → Q' r m) → runF nN np g es n Q → runF nN np g es n Q' := fun A s hr es n Q Q' k h =>
  ⟨h.1, (hb .none A [] s (fun _ => none) E0 (hr.deeper _)).mono { nx := fun s => Q (.im .none) s.n, rt := Q } { nx := fun s => Q' (.im .none) s.n, rt := Q' } _ ⟨fun s q => k _ _ q, fun r n q => k _ _ q, fun _ z => z, fun _ z => z⟩ h.2⟩
theorem def_ok {P : Program} {w : World} {K : PySem.W.Frag} {mg : Str → Option Value} {base : Heap} {x qual : Str} {st : Stmt} {f : Addr} {fd : FuncData} {N ps : List Str} {k nN np : Nat} {g : FS} (F : Fun K x qual st f fd) (hm : mg x = some (.ref f)) (hb0 : Binds K fd ps []) (Sc : FnScope N ps (defScope st))
    (hb : ∀ (cdv : Value) (A : Around) (outer : List Env) (s : Shared) (H : Hp) (E : XK), Room k (A.deeper (envOfC qual (defScope st) s.heap.objs.size f cdv)) → XSs L (cxOf CX0 P w K mg base N qual (defScope st) f cdv A outer s H E).nox (defBody st) g) (hN : N.length = nN := by rfl) (hp : ps.length = np := by rfl) :
    DefOk L P w K mg base (k + 1) x (runF nN np g) := ⟨def_mono hb, f, fd, ps, def_mk F Sc hN hp hb, hm, F.kp, hb0⟩
end
end DL

set_option maxRecDepth 100000
set_option maxHeartbeats 2000000
namespace DL
open PySem PySem.Spec PyProof.Rows L2
section
variable {L : Lay} {X : Cx} {pos : Pos}
/-! ### stars -/
theorem rs_ims {K : PySem.W.Frag} {hd : Addr → Bool} {Z : Zt} {O : List Addr} {σ : L2.St} {H H' : Hp} : ∀ {vs : List V} {ds : List PyData}, RpAll K (vis hd O H') vs ds → RsAll L K hd Z O σ H H' vs (ds.map Ent.im)
  | _, _, .nil => .nil
  | _, _, .cons a b => .cons (r := .im _) a (rs_ims b)
theorem RsAll.append {K : PySem.W.Frag} {hd : Addr → Bool} {Z : Zt} {O : List Addr} {σ : L2.St} {H H' : Hp} : ∀ {vs ws : List V} {rs ts : List Ent}, RsAll L K hd Z O σ H H' vs rs → RsAll L K hd Z O σ H H' ws ts → RsAll L K hd Z O σ H H' (vs ++ ws) (rs ++ ts)
  | _, _, _, _, .nil, q => q
  | _, _, _, _, .cons a b, q => .cons a (b.append q)
def fStar (f : FE) (fs : FA) : FA := fun s Q => f s fun r s1 => match r.dat.bind items with
  | some ds => ds.length ≤ 1000 ∧ fs s1 fun rs s2 => Q (ds.map Ent.im ++ rs) s2
  | none => False
variable {e : Expr} {es : List Expr} {f : FE} {fs : FA} {m : Nat} {p : Pos}
theorem xaStar (he : XE L X e f) (hes : XA L X es m fs) (hs : starEach (.Starred e p :: es) X.env = (true, eval e X.env) :: starEach es X.env := by rfl) : XA L X (.Starred e p :: es) (m + 1000) (fStar f fs) := by
  refine ⟨fun s Q h => he.mono _ _ _ (fun r s1 h1 => ?_) h, fun s Q Q' k h => he.mono _ _ _ (fun r s1 h1 => ?_) h, fun hd Z B O σ H s Q ok h => taW_of (StX.pa_star peW paW hs) (he.run hd Z B O σ H s _ ok (he.mono _ _ _ (fun r s1 h1 v H1 k1 f1 r1 => ?_) h))⟩
  · cases q : r.dat.bind items with
    | none => simp only [q] at h1
    | some ds =>
      simp only [q] at h1 ⊢
      exact ⟨h1.1, hes.mono _ _ _ (fun rs s2 h2 => ⟨by rw [List.length_append, List.length_map]; omega, h2.2⟩) (hes.bnd _ _ h1.2)⟩
  · cases q : r.dat.bind items with
    | none => simp only [q] at h1
    | some ds =>
      simp only [q] at h1 ⊢
      exact ⟨h1.1, hes.mono _ _ _ (fun rs s2 h2 => k _ _ h2) h1.2⟩
  · cases q : r.dat.bind items with
    | none => simp only [q] at h1
    | some ds =>
      simp only [q] at h1
      obtain ⟨d, e1, e2⟩ := Option.bind_eq_some_iff.mp q
      obtain ⟨p, vs, rfl, hq, rp⟩ := rs_seq r1 e1 e2
      refine ⟨p, vs, rfl, hq.symm, hes.run hd Z B O σ H1 s1 _ k1 (hes.mono _ _ _ (fun rs s2 h2 ws H2 k2 f2 r2 => ?_) h1.2)⟩
      exact h2 (vs ++ ws) H2 k2 (f1.trans f2) ((rs_ims (rp.same (vis_frmX k1 f2.fr))).append (r2.back ok f1))
/-! ### expressions as statements; op= -/
def fExpr (f : FE) : FS := fun E s => f s fun _ s1 => E.nx s1
theorem xsExpr (he : XE L X e f) (hs : swapsWith e none pos.line X.env = pure false := by rfl) : XS L X (.Expr e pos) (fExpr f) :=
  ⟨fun E E' s le h => he.mono _ _ _ (fun r s1 h1 => le.1 _ h1) h, fun hd Z B O σ H s E D ok re h => tsW_of (ps_expr peW hs) (he.run hd Z B O σ H s _ ok (he.mono _ _ _ (fun r s1 h1 v H1 k1 f1 r1 => re.nx _ _ _ _ h1 k1) h))⟩
def fAug (i : Nat) (g : Int → Int → Int) (f : FE) : FS := fun E s => match gt s.env i with
  | some (.im (.int a)) => f s fun r s1 => isI r fun b => E.nx { s1 with env := pt s1.env i (some (.im (.int (g a b)))) }
  | _ => False
variable {x : Str} {pos' : Pos} {op : Operator} {g : Int → Int → Int}
theorem xsAug (i : Nat) (ho : PIp X op (ipI g)) (he : XE L X e f) (hN : X.N.Nodup) (hi : X.N[i]? = some x := by rfl) (hx : Loc X.env.scope x := by first | exact Or.inl rfl | exact Or.inr rfl) (hf : X.fn x = true ∨ X.env.scope.names.lookup x = some .local := by first | exact .inl rfl | exact .inr rfl) :
    XS L X (.AugAssign (.Name x pos') op e pos) (fAug i g f) := by
  refine ⟨fun E E' s le h => ?_, fun hd Z B O σ H s E D ok re h => tsW_of (ps_aug hN hi hx peW ho hf) ?_⟩
  · unfold fAug at h ⊢
    split at h
    · exact he.mono _ _ _ (fun r s1 h1 => isI_mono (fun b q => le.1 _ q) h1) h
    · exact h.elim
  · unfold fAug at h
    split at h
    · rename_i a ea
      obtain ⟨v, h1, h2⟩ := ok.read ea
      cases h2
      refine ⟨_, h1, he.run hd Z B O σ H s _ ok (he.mono _ _ _ (fun r s1 h1 v H1 k1 f1 r1 => ?_) h)⟩
      obtain ⟨b, rfl, h3⟩ := isI_v h1 r1
      exact ⟨a, b, rfl, rfl, re.nx _ _ _ _ h3 (k1.set i fun y hy => by cases hy; exact ⟨(fun _ z => nomatch z), .int _⟩)⟩
    · exact h.elim
/-! ### dicts that are read -/
def keyOf : PyData → Option Key
  | .int i => some (.inl i)
  | .str x => some (.inr x)
  | _ => none
theorem keyOf_keyD (k : Key) : keyOf (keyD k) = some k := by cases k <;> rfl
def dgetP : List (PyData × PyData) → Key → Option PyData
  | [], _ => none
  | (k', d) :: r, k => if keyOf k' = some k then some d else dgetP r k
def RelP (K : PySem.W.Frag) (H : Hp) : Option V → Option PyData → Prop
  | some v, some d => Rp K H v d
  | none, none => True
  | _, _ => False
theorem dget_rel {K : PySem.W.Frag} {H : Hp} (k : Key) : ∀ {kvs : List (Key × V)} {ds : List PyData}, RpAll K H (kvs.map (·.2)) ds → RelP K H (valV kvs k) (dgetP ((kvs.map fun p => keyD p.1).zip ds) k)
  | [], _, .nil => True.intro
  | p :: r, _, .cons (d := d) (ds := ds) a b => by
    show RelP K H (valV (p :: r) k) (if keyOf (keyD p.1) = some k then some d else dgetP ((r.map fun p => keyD p.1).zip ds) k)
    rw [keyOf_keyD]
    by_cases e : p.1 = k
    · rw [valV_pos e, if_pos (by rw [e])]
      exact a
    · rw [valV_neg e, if_neg (fun z => e (Option.some.inj z))]
      exact dget_rel k b
theorem rs_dict {K : PySem.W.Frag} {hd : Addr → Bool} {Z : Zt} {O : List Addr} {σ : L2.St} {H H' : Hp} {v : V} {ps : List (PyData × PyData)} (h : Rs L K hd Z O σ H H' v (.im (.dict ps))) : ∃ p kvs ds, v = .ref p ∧ vis hd O H' p = some (.dK kvs) ∧ RpAll K (vis hd O H') (kvs.map (·.2)) ds ∧ ps = (kvs.map fun p => keyD p.1).zip ds := by
  cases h with
  | dct s r => exact ⟨_, _, _, rfl, s, r, rfl⟩
theorem rp_key {K : PySem.W.Frag} {H : Hp} {v : V} {d : PyData} {k : Key} (r : Rp K H v d) (h : keyOf d = some k) : v = kV k := by
  cases r <;> cases h <;> rfl
/-- d[k] -/
def oDGet : O2 := fun a b Q => match a, b with
  | .im (.dict ps), .im kd => match keyOf kd with
    | some k => match dgetP ps k with
      | some d => Q (.im d)
      | none => False
    | none => False
  | _, _ => False
theorem oDGet_mono : ∀ a b Q Q', (∀ r, Q r → Q' r) → oDGet a b Q → oDGet a b Q' := fun a b Q Q' k h => by
  unfold oDGet at h ⊢
  split at h
  · split at h
    · split at h
      · exact k _ h
      · exact h.elim
    · exact h.elim
  · exact h.elim
variable {a b c : Expr} {fa fb fc : FE}
theorem xDGet (hu : X.A.units + 1 < cLine) (ha : XE L X a fa) (hb : XE L X b fb) (hs : NoSl b := by exact fun _ _ => rfl) : XE L X (.Subscript a b pos) (f2 oDGet fa fb) := by
  refine ⟨f2_mono oDGet_mono ha hb, fun hd Z B O σ H s Q ok h => tW_of (pe_dget hu peW peW hs) (ha.run hd Z B O σ H s _ ok (ha.mono _ _ _ (fun e1 s1 h1 x H1 k1 f1 r1 => ?_) h))⟩
  refine hb.run hd Z B O σ H1 s1 _ k1 (hb.mono _ _ _ (fun e2 s2 h2 y H2 k2 f2 r2 => ?_) h1)
  have r1' := Rs.step k1 f2 r1
  unfold oDGet at h2
  split at h2
  · rename_i ps kd
    split at h2
    · rename_i k ek
      split at h2
      · rename_i d ed
        obtain ⟨p, kvs, ds, rfl, hp, rp, rfl⟩ := rs_dict r1'
        have yk := rp_key r2 ek
        subst yk
        have rel := dget_rel k rp
        rw [ed] at rel
        cases q : valV kvs k with
        | none => rw [q] at rel; exact rel.elim
        | some v =>
          rw [q] at rel
          exact ⟨p, v, rfl, by rw [← q]; exact DGet.k (vis_le _ _ hp), h2 v H2 k2 (f1.trans f2) rel⟩
      · exact h2.elim
    · exact h2.elim
  · exact h2.elim
/-- d.get(k, e) -/
def fDGet2 (fa fb fc : FE) : FE := fun s Q => fa s fun a s1 => match a with
  | .im (.dict ps) => fb s1 fun b s2 => fc s2 fun c s3 => match b, c with
    | .im kd, .im x => match keyOf kd with
      | some k => Q (.im ((dgetP ps k).getD x)) s3
      | none => False
    | _, _ => False
  | _ => False
variable {apos cpos : Pos}
theorem xDGet2 (hu : X.A.units + 1 < cLine) (ha : XE L X a fa) (hb : XE L X b fb) (hc : XE L X c fc) (m : M2 X a "get" apos b c cpos := by exact ⟨rfl, rfl, rfl, rfl⟩) : XE L X (.Call (.Attribute a "get" apos) [b, c] [] cpos) (fDGet2 fa fb fc) := by
  refine ⟨fun s Q Q' k h => ha.mono _ _ _ (fun e1 s1 h1 => ?_) h, fun hd Z B O σ H s Q ok h => tW_of (pe_dget2 hu peW peW peW m) (ha.run hd Z B O σ H s _ ok (ha.mono _ _ _ (fun e1 s1 h1 x H1 k1 f1 r1 => ?_) h))⟩
  · split at h1
    · refine hb.mono _ _ _ (fun e2 s2 h2 => hc.mono _ _ _ (fun e3 s3 h3 => ?_) h2) h1
      split at h3
      · split at h3
        · exact k _ _ h3
        · exact h3.elim
      · exact h3.elim
    · exact h1.elim
  · split at h1
    · rename_i ps
      obtain ⟨p, kvs, ds, rfl, hp, rp, rfl⟩ := rs_dict r1
      refine ⟨p, rfl, .inl ⟨kvs, .inl (vis_le _ _ hp)⟩, hb.run hd Z B O σ H1 s1 _ k1 (hb.mono _ _ _ (fun e2 s2 h2 y H2 k2 f2 r2 => ?_) h1)⟩
      refine hc.run hd Z B O σ H2 s2 _ k2 (hc.mono _ _ _ (fun e3 s3 h3 z H3 k3 f3 r3 => ?_) h2)
      split at h3
      · rename_i kd x
        split at h3
        · rename_i k ek
          have yk := rp_key r2 ek
          subst yk
          have hpp : H3 p = some (.dK kvs) := vis_le _ _ (vis_frmX (O' := O) k1 (f2.trans f3).fr _ _ hp)
          have rp' := rp.same (vis_frmX (O' := O) k1 (f2.trans f3).fr)
          have rel := dget_rel k rp'
          refine ⟨valV kvs k, DGet.k hpp, ?_⟩
          cases q : valV kvs k with
          | none =>
            rw [q] at rel
            cases q2 : dgetP ((kvs.map fun p => keyD p.1).zip ds) k with
            | none => rw [q2] at h3; exact h3 _ H3 k3 ((f1.trans f2).trans f3) r3
            | some d => rw [q2] at rel; exact rel.elim
          | some v =>
            rw [q] at rel
            cases q2 : dgetP ((kvs.map fun p => keyD p.1).zip ds) k with
            | none => rw [q2] at rel; exact rel.elim
            | some d => rw [q2] at h3 rel; exact h3 v H3 k3 ((f1.trans f2).trans f3) rel
        · exact h3.elim
      · exact h3.elim
    · exact h1.elim
/-! ### a new dict -/
theorem putK_new {k : Key} {v : V} : ∀ {kvs : List (Key × V)}, (∀ p ∈ kvs, p.1 ≠ k) → putK kvs k v = kvs ++ [(k, v)] := fun {kvs} h => by
  unfold putK
  rw [if_neg]
  intro z
  obtain ⟨p, m, e⟩ := List.any_eq_true.mp z
  exact h p m (of_decide_eq_true e)
theorem mergeK_new : ∀ (more kvs : List (Key × V)), (more.map (·.1)).Nodup → (∀ p ∈ more, ∀ q ∈ kvs, q.1 ≠ p.1) → mergeK kvs more = kvs ++ more
  | [], kvs, _, _ => by show kvs = kvs ++ []; rw [List.append_nil]
  | p :: r, kvs, nd, h => by
    show mergeK (putK kvs p.1 p.2) r = kvs ++ p :: r
    rw [putK_new (fun q m => h p List.mem_cons_self q m)]
    rw [List.map_cons, List.nodup_cons] at nd
    rw [mergeK_new r _ nd.2 (fun a ma q mq => ?_), List.append_assoc]
    · rfl
    · rcases List.mem_append.mp mq with z | z
      · exact h a (List.mem_cons_of_mem _ ma) q z
      · rw [List.mem_singleton] at z
        rw [z]
        intro e
        exact nd.1 (by rw [e]; exact List.mem_map_of_mem ma)
def dispGo : List (Str × FE) → S → (List PyData → S → Prop) → Prop
  | [], s, Q => Q [] s
  | (k, f) :: r, s, Q => f s fun e s1 => match e.kept with
    | some d => dispGo r s1 fun ds s2 => Q (d :: ds) s2
    | none => False
def fDisp (l : List (Str × FE)) : FE := fun s Q => dispGo l s fun ds s1 => Q (.im (.dict ((l.map fun p => PyData.str p.1).zip ds))) s1
/-- the pairs' terms -/
inductive XD (L : Lay) (X : Cx) : List (Option Expr) → List Expr → List (Str × FE) → Prop
  | nil : XD L X [] [] []
  | cons {k : Str} {j : Nat} {pk : Pos} {v : Expr} {f : FE} {ks : List (Option Expr)} {vs : List Expr} {l : List (Str × FE)} : XE L X v f → XD L X ks vs l → XD L X (some (.Constant (.str k) j pk) :: ks) (v :: vs) ((k, f) :: l)
theorem dispGo_mono : ∀ {ks : List (Option Expr)} {vs : List Expr} {l : List (Str × FE)}, XD L X ks vs l → ∀ s Q Q', (∀ ds s', Q ds s' → Q' ds s') → dispGo l s Q → dispGo l s Q'
  | _, _, _, .nil, s, Q, Q', k, h => k _ _ h
  | _, _, _, .cons a b, s, Q, Q', k, h => a.mono _ _ _ (fun e s1 h1 => by
      cases q : e.kept with
      | none => simp only [q] at h1
      | some d => simp only [q] at h1 ⊢; exact dispGo_mono b _ _ _ (fun ds s2 h2 => k _ _ h2) h1) h
/-- hidden too: the dict in the making -/
def hdp (hd : Addr → Bool) (p : Addr) : Addr → Bool := fun a => hd a || decide (a = p)
theorem hdp_false {hd : Addr → Bool} {p a : Addr} (h : hdp hd p a = false) : hd a = false ∧ a ≠ p := by
  unfold hdp at h
  rw [Bool.or_eq_false_iff, decide_eq_false_iff_not] at h
  exact h
theorem vis_hdp {hd : Addr → Bool} {p : Addr} {O : List Addr} {H : Hp} {u : HO} : Same (vis (hdp hd p) O H) (vis hd O (upd H p u)) := fun a o e => by
  obtain ⟨h1, h2, h3⟩ := vis_some.mp e
  obtain ⟨g1, g2⟩ := hdp_false h1
  exact vis_some.mpr ⟨g1, h2, by rw [upd_ne g2]; exact h3⟩
theorem Ok.hide {K : PySem.W.Frag} {hd : Addr → Bool} {Z : Zt} {B : Hp} {O : List Addr} {σ : L2.St} {H : Hp} {s : S} (k : Ok L K hd Z B O σ H s) {p : Addr} (hp : H p = none) : Ok L K (hdp hd p) Z (bas Z O (upd H p (.dK []))) O σ (upd H p (.dK [])) s := by
  obtain ⟨d1, d2, d3⟩ := k.fresh hp
  have sm := sameNew (o := .dK []) hp
  have vv : Same (vis hd O H) (vis (hdp hd p) O (upd H p (.dK []))) := fun a o e => by
    obtain ⟨g1, g2, g3⟩ := vis_some.mp e
    have ne : a ≠ p := ne_of_none g3 hp
    refine vis_some.mpr ⟨?_, g2, sm a o g3⟩
    unfold hdp
    rw [g1, Bool.false_or]
    exact decide_eq_false ne
  refine ⟨fun b o e => (bas_some.mp e).2.2, fun a h => ⟨bas_none (.inl h), ?_⟩, fun a h => ⟨bas_none (.inr h), ?_⟩, fun a h => ?_, fun z e => L.keep (k.stk z e) fun b o _ q => sm b o q, fun i e h => ?_, k.apart, k.len⟩
  · obtain ⟨g1, g2, xs, g3⟩ := k.offO a h
    refine ⟨?_, xs, sm a _ g3⟩
    unfold hdp
    rw [g2, Bool.false_or]
    exact decide_eq_false (ne_of_none g3 hp)
  · unfold hdp
    rw [(k.offZ a h).2, Bool.true_or]
  · by_cases z : zin Z a
    · exact .inr z
    · unfold hdp at h
      rw [Bool.or_eq_true, decide_eq_true_iff] at h
      rcases h with h | rfl
      · obtain ⟨o, e, r⟩ := k.live h
        have ao : a ∉ O := fun w => by rw [(k.offO a w).2.1] at h; cases h
        exact .inl ⟨o, bas_some.mpr ⟨ao, z, sm a o e⟩, r⟩
      · exact .inl ⟨_, bas_some.mpr ⟨d2, z, upd_same⟩, .inr (.inr rfl)⟩
  · obtain ⟨v, g1, g2⟩ := k.slot i e h
    refine ⟨v, g1, ?_⟩
    cases e with
    | im d => exact Rp.same vv g2
    | ow ds =>
      obtain ⟨q, ws, a1, a2, a3, a4⟩ := g2
      exact ⟨q, ws, a1, a2, sm _ _ a3, a4.same vv⟩
    | br _ _ => exact g2
    | ob t d => exact L.mono vv g2
    | dr => exact g2
def pairsV (l : List (Str × FE)) (ws : List V) : List (V × V) := (l.map fun p => V.str p.1).zip ws
theorem xd_run : ∀ {ks : List (Option Expr)} {vs : List Expr} {l : List (Str × FE)}, XD L X ks vs l → ∃ trs, PPs X pos ks vs trs ∧ ∀ hd Z B O σ H s (R : List (V × V) → Hp → Prop), Ok L X.K hd Z B O σ H s →
    dispGo l s (fun ds s' => ∀ ws H', Ok L X.K hd Z B O σ H' s' → Mv Z H H' s s' → RpAll X.K (vis hd O H') ws ds → ds.length = l.length → R (pairsV l ws) H') → tPairs trs σ H R
  | _, _, _, .nil => ⟨[], pps_nil, fun hd Z B O σ H s R ok h => h [] H ok Mv.refl .nil rfl⟩
  | _, _, _, .cons (f := f) (l := l) a b => by
    obtain ⟨trs, p1, q1⟩ := xd_run b
    refine ⟨_, pps_cons pe_str peW p1, fun hd Z B O σ H s R ok h => ?_⟩
    show tW X _ σ H _
    refine a.run hd Z B O σ H s _ ok (a.mono _ _ _ (fun r s1 h1 v H1 k1 f1 r1 => ?_) h)
    cases q : r.kept with
    | none => simp only [q] at h1
    | some d =>
      simp only [q] at h1
      refine q1 hd Z B O σ H1 s1 _ k1 (dispGo_mono b _ _ _ (fun ds s2 h2 ws H2 k2 f2 r2 ln => ?_) h1)
      exact h2 (v :: ws) H2 k2 (f1.trans f2) (.cons ((Rs.keeps r1 q).same (vis_frmX k1 f2.fr)) r2) (by rw [List.length_cons, List.length_cons, ln])
theorem pairsV_map {l : List (Str × FE)} : ∀ {ws : List V}, pairsV l ws = (((l.map fun p => (Sum.inr p.1 : Key)).zip ws).map fun kv => (kV kv.1, kv.2)) := by
  induction l with
  | nil => intro ws; rfl
  | cons a l ih =>
    intro ws
    cases ws with
    | nil => rfl
    | cons w ws =>
      show (V.str a.1, w) :: pairsV l ws = (kV (Sum.inr a.1), w) :: _
      rw [ih]
      rfl
theorem xDisp {ks : List (Option Expr)} {vs : List Expr} {l : List (Str × FE)} (d : XD L X ks vs l) (hall : ks.all (·.isSome) = true := by rfl) (hl : ks.length = vs.length := by rfl) (h0 : ks ≠ [] := by exact fun z => by cases z) (h15 : ks.length ≤ 15 := by decide)
    (nd : (l.map fun p => p.1).Nodup := by decide +kernel) (hlen : l.length ≤ 15 := by decide) : XE L X (.Dict ks vs pos) (fDisp l) := by
  refine ⟨fun s Q Q' k h => dispGo_mono d _ _ _ (fun ds s' q => k _ _ q) h, fun hd Z B O σ H s Q ok h => ?_⟩
  obtain ⟨trs, pp, run⟩ := xd_run (pos := pos) d
  refine tW_of (pe_disp pp hall hl h0 h15) fun p hp => ?_
  obtain ⟨d1, d2, d3⟩ := ok.fresh hp
  refine run (hdp hd p) Z _ O σ _ s _ (ok.hide hp) (dispGo_mono d _ _ _ (fun ds s2 h2 ws H2 k2 m2 rp ln => ?_) h)
  have e2 : H2 p = some (.dK []) := m2.fr p _ d3 upd_same
  have len := rp.length
  refine ⟨e2, _, pairsV_map, ?_, ?_⟩
  · rw [List.length_zip, List.length_map]
    exact Nat.le_trans (Nat.min_le_left _ _) hlen
  · have lw : ws.length = l.length := len.trans ln
    have e1 : ((l.map fun p => (Sum.inr p.1 : Key)).zip ws).map (·.1) = l.map fun p => (Sum.inr p.1 : Key) := List.map_fst_zip (by rw [List.length_map, lw] <;> exact Nat.le_refl _)
    have e3 : ((l.map fun p => (Sum.inr p.1 : Key)).zip ws).map (·.2) = ws := List.map_snd_zip (by rw [List.length_map, lw] <;> exact Nat.le_refl _)
    generalize hK : (l.map fun p => (Sum.inr p.1 : Key)).zip ws = kvs at e1 e3 ⊢
    have em : mergeK [] kvs = kvs := by
      rw [mergeK_new kvs [] ?_ (fun _ _ q mq => by cases mq)]
      · rfl
      · have e : (l.map fun p => (Sum.inr p.1 : Key)) = (l.map fun p => p.1).map Sum.inr := by rw [List.map_map] <;> rfl
        rw [e1, e]
        exact List.Pairwise.map _ (fun a b ne z => ne (Sum.inr.inj z)) nd
    rw [em]
    have fr : Frm Z H (upd H2 p (.dK kvs)) := fun b o nz e => by
      have ne : b ≠ p := ne_of_none e hp
      rw [upd_ne ne]
      exact m2.fr b o nz (by rw [upd_ne ne]; exact e)
    have st : ∀ z, Z = some z → L.Stk z s2.n (upd H2 p (.dK kvs)) := fun z ez => L.keep (k2.stk z ez) fun b o hb q => by
      rw [upd_ne (fun w => d3 ⟨z, ez, by rw [← w]; exact hb⟩)]
      exact q
    have es : ({ s with n := s2.n } : S) = s2 := by
      obtain ⟨en, nn⟩ := s2
      have : en = s.env := m2.env
      subst this
      rfl
    have k3 := ok.step fr st
    rw [es] at k3
    refine h2 (.ref p) _ k3 ⟨fr, m2.env⟩ ?_
    have rp2 : RpAll X.K (vis hd O (upd H2 p (.dK kvs))) (kvs.map (·.2)) ds := by rw [e3]; exact rp.same vis_hdp
    have z : Rp X.K (vis hd O (upd H2 p (.dK kvs))) (.ref p) (.dict ((kvs.map fun q => keyD q.1).zip ds)) := .dct (vis_some.mpr ⟨d1, d2, upd_same⟩) rp2
    have ek : (kvs.map fun q => keyD q.1) = l.map fun q => PyData.str q.1 := by
      have : (kvs.map fun q => keyD q.1) = (kvs.map (·.1)).map keyD := by rw [List.map_map] <;> rfl
      rw [this, e1, List.map_map]
      rfl
    rw [ek] at z
    exact z
end
end DL

set_option maxRecDepth 100000
set_option maxHeartbeats 2000000
namespace DL
open PySem PySem.Spec PyProof.Rows L2
abbrev oLt : O2 := oI fun i j => .bool (decide (i < j))
abbrev oLe : O2 := oI fun i j => .bool (decide (i ≤ j))
abbrev oGt : O2 := oI fun i j => .bool (decide (j < i))
abbrev oGe : O2 := oI fun i j => .bool (decide (j ≤ i))
abbrev oSub : O2 := oI fun i j => .int (i - j)
abbrev oMod : O2 := oIc (fun _ j => 0 < j) fun i j => .int (i % j)
abbrev oFDiv : O2 := oIc CDiv fun i j => .int (i / j)
theorem room65 {k : Nat} {A : Around} (r : Room k A) : A.units + 65 < cLine := by have := r.un; omega
section
variable {L : Lay} {X : Cx} {pos : Pos}
/-! ### a op b op' c -/
def fChain (o o' : O2) (fa fb fc : FE) : FE := fun s Q => fa s fun a s1 => fb s1 fun b s2 => o a b fun z => isB z fun k => match k with
  | true => fc s2 fun c s3 => o' b c fun r => Q r s3
  | false => Q (.im (.bool false)) s2
variable {a b c : Expr} {fa fb fc : FE} {op op' : CmpOp} {o o' : O2}
theorem fChain_mono (ho : OpS L X (compareOp op) o) (ho' : OpS L X (compareOp op') o') (ha : XE L X a fa) (hb : XE L X b fb) (hc : XE L X c fc) : ∀ s Q Q', (∀ r s', Q r s' → Q' r s') → fChain o o' fa fb fc s Q → fChain o o' fa fb fc s Q' :=
  fun s Q Q' k h => ha.mono _ _ _ (fun r s1 h1 => hb.mono _ _ _ (fun r2 s2 h2 => ho.mono _ _ _ _ (fun z hz => isB_mono (fun t q => by
    cases t with
    | true => exact hc.mono _ _ _ (fun r3 s3 h3 => ho'.mono _ _ _ _ (fun r4 q4 => k _ _ q4) h3) q
    | false => exact k _ _ q) hz) h2) h1) h
theorem xChain (ho : OpS L X (compareOp op) o) (ho' : OpS L X (compareOp op') o') (ha : XE L X a fa) (hb : XE L X b fb) (hc : XE L X c fc) (hm : lastMarks [op, op'] [b, c] = false := by with_unfolding_all rfl) : XE L X (.Compare a [op, op'] [b, c] pos) (fChain o o' fa fb fc) := by
  obtain ⟨r, hr, q⟩ := ho.ex
  obtain ⟨r', hr', q'⟩ := ho'.ex
  refine ⟨fChain_mono ho ho' ha hb hc, fun hd Z B O σ H s Q ok h => tW_of (pe_chain hr hr' peW peW peW hm) (ha.run hd Z B O σ H s _ ok (ha.mono _ _ _ (fun e1 s1 h1 x H1 k1 f1 r1 => ?_) h))⟩
  refine hb.run hd Z B O σ H1 s1 _ k1 (hb.mono _ _ _ (fun e2 s2 h2 y H2 k2 f2 r2 => ?_) h1)
  refine q hd Z B O σ H H1 H2 s2 x y e1 e2 _ k2 (Rs.step k1 f2 r1) r2 h2 _ fun v e H3 he sm rv => ?_
  obtain ⟨t, rfl, h3⟩ := isB_v he rv
  refine ⟨t, rfl, ?_⟩
  have k3 := k2.same sm
  have f3 : Mv Z H2 H3 s2 s2 := Mv.of sm
  cases t with
  | true =>
    refine iteT (hc.run hd Z B O σ H3 s2 _ k3 (hc.mono _ _ _ (fun e3 s4 h4 w H4 k4 f4 r4 => ?_) h3))
    exact q' hd Z B O σ H1 H3 H4 s4 y w e2 e3 _ k4 (Rs.step k2 (f3.trans f4) r2) r4 h4 _ fun v e H' he sm rv => he v H' (k4.same sm) ((((f1.trans f2).trans f3).trans f4).trans (Mv.of sm)) (Rs.back ok (((f1.trans f2).trans f3).trans f4) rv)
  | false => exact iteF (h3 _ H3 k3 ((f1.trans f2).trans f3) (.bl false))
theorem xtChain (ho : OpS L X (compareOp op) o) (ho' : OpS L X (compareOp op') o') (ha : XE L X a fa) (hb : XE L X b fb) (hc : XE L X c fc) (hm : lastMarks [op, op'] [b, c] = false := by with_unfolding_all rfl) : XT L X (.Compare a [op, op'] [b, c] pos) (fB (fChain o o' fa fb fc)) := by
  obtain ⟨r, hr, q⟩ := ho.ex
  obtain ⟨r', hr', q'⟩ := ho'.ex
  refine ⟨fB_mono (xChain (pos := pos) ho ho' ha hb hc hm), fun hd Z B O σ H s Q ok h => ttW_of (pt_chain hr hr' peW peW peW hm) (ha.run hd Z B O σ H s _ ok (ha.mono _ _ _ (fun e1 s1 h1 x H1 k1 f1 r1 => ?_) h))⟩
  refine hb.run hd Z B O σ H1 s1 _ k1 (hb.mono _ _ _ (fun e2 s2 h2 y H2 k2 f2 r2 => ?_) h1)
  refine q hd Z B O σ H H1 H2 s2 x y e1 e2 _ k2 (Rs.step k1 f2 r1) r2 h2 _ fun v e H3 he sm rv => ?_
  obtain ⟨t, rfl, h3⟩ := isB_v he rv
  refine ⟨t, rfl, ?_⟩
  have k3 := k2.same sm
  have f3 : Mv Z H2 H3 s2 s2 := Mv.of sm
  cases t with
  | true =>
    refine iteT (hc.run hd Z B O σ H3 s2 _ k3 (hc.mono _ _ _ (fun e3 s4 h4 w H4 k4 f4 r4 => ?_) h3))
    refine q' hd Z B O σ H1 H3 H4 s4 y w e2 e3 _ k4 (Rs.step k2 (f3.trans f4) r2) r4 h4 _ fun v e H' he sm rv => ?_
    obtain ⟨t', rfl, h5⟩ := isB_v he rv
    exact ⟨t', rfl, h5 H' (k4.same sm) ((((f1.trans f2).trans f3).trans f4).trans (Mv.of sm))⟩
  | false => exact iteF ⟨false, rfl, h3 H3 k3 ((f1.trans f2).trans f3)⟩
/-! ### enumerate -/
def enumD : Nat → List PyData → List PyData
  | _, [] => []
  | k, d :: r => .tuple [.int (k : Nat), d] :: enumD (k + 1) r
theorem enumD_len : ∀ (k : Nat) (ds : List PyData), (enumD k ds).length = ds.length
  | _, [] => rfl
  | k, d :: r => by rw [enumD, List.length_cons, List.length_cons, enumD_len]
theorem enumD_get : ∀ {ds : List PyData} {k i : Nat} {d : PyData}, ds[i]? = some d → (enumD k ds)[i]? = some (.tuple [.int ((k + i : Nat) : Int), d])
  | [], _, _, _, h => by simp at h
  | x :: r, k, 0, d, h => by simp at h; subst h; rfl
  | x :: r, k, i + 1, d, h => by
    have h' : r[i]? = some d := by simpa using h
    show (enumD (k + 1) r)[i]? = _
    rw [enumD_get (k := k + 1) h', show k + 1 + i = k + (i + 1) by omega]
theorem walkB_enum {K : PySem.W.Frag} {hd : Addr → Bool} {Z : Zt} {O : List Addr} {H : Hp} {J : It} {vs : List V} {ds : List PyData} {Gp : Hp → Prop} {G0 : Hp → Prop} (r : RpAll K (vis hd O H) vs ds) (g : ∀ H', Gp H' → G0 H') (w : Walk J vs.length G0 (YPair (fun i => some (.int (i : Nat))) (fun i => vs[i]?))) :
    WalkB L K hd Z (vis hd O H) Gp J (enumD 0 ds) := by
  have hl : (enumD 0 ds).length = vs.length := by rw [enumD_len, r.length]
  refine ⟨fun i H' hi q => w.goes i H' (by rw [← hl]; exact hi) (g _ q), fun H' q => by rw [hl]; exact w.stops H' (g _ q), fun i H' x H2 B O' σ s hi q ok sm y => ?_⟩
  obtain ⟨T, x1, x2, rfl, fT, rfl, e1, e2⟩ := w.yields i H' x H2 (by rw [← hl]; exact hi) (g _ q) y
  cases e1
  obtain ⟨d, h1, h2⟩ := rp_ofSame r sm e2
  obtain ⟨t1, t2, _⟩ := ok.fresh fT
  have s2 := sameNew (o := .tup [.int (i : Nat), x2]) fT
  refine ⟨_, enumD_get (k := 0) h1, s2, ?_⟩
  rw [show ((0 + i : Nat) : Int) = ((i : Nat) : Int) by rw [Nat.zero_add]]
  exact .tup (SqT.of (vis_some.mpr ⟨t1, t2, upd_same⟩)) (.cons (.int _) (.cons (h2.same (vis_frm ok (Frm.of s2))) .nil))
def fEnum (c : Bool) (f : FE) : FI := fun s Q => f s fun r s1 => match r with
  | .im (.list ds) => Q (enumD 0 ds) s1
  | .im (.tuple ds) => Q (enumD 0 ds) s1
  | .ow ds => Q (enumD 0 ds) s1
  | .br _ ds => c = true ∧ Q (enumD 0 ds) s1
  | _ => False
variable {e : Expr} {f : FE} {elts : List Expr} {kk : Nat} {tpos p : Pos}
theorem xiEnum (c : Bool) (he : XE L X e f) (hm : X.mg "enumerate" = none) (hg : Gl X "enumerate" := by rfl) (hs : starEach [e] X.env = [(false, eval e X.env)] := by rfl) : XI L X c (.Tuple elts kk tpos) (.Call (.Name "enumerate" p) [e] [] pos) (fEnum c f) := by
  refine ⟨fun s Q Q' k h => he.mono _ _ _ (fun r s1 h1 => ?_) h, fun hd Z B O σ H s R ok h => tiW_of (Et.pi_enumS hg hm (pa_cons peW pa_nil (by rw [hs] <;> rfl)) hs) (tW_len (he.run hd Z B O σ H s _ ok (he.mono _ _ _ (fun r s1 h1 v H1 k1 f1 r1 ln => ?_) h)))⟩
  · split at h1
    · exact k _ _ h1
    · exact k _ _ h1
    · exact k _ _ h1
    · exact ⟨h1.1, k _ _ h1.2⟩
    · exact h1.elim
  · split at h1
    · rename_i ds
      cases r1 with
      | lst hs rs =>
        refine ⟨_, _, rfl, .inl ⟨SqL.of (vis_le _ _ hs), h1 _ H1 (fun H2 => SqL X.K H2 _ _) k1 f1 ?_ ?_ ?_ (walkB_enum rs (fun _ q => q) walk_enum)⟩⟩
        · rw [enumD_len, ← rs.length]; exact ln _ _ (.inl (SqL.of (vis_le _ _ hs)))
        · exact fun H2 fr => SqL.of (vis_le _ _ (vis_frmX (O' := O) k1 fr _ _ hs))
        · exact fun _ O2 H2 sm => SqL.of (vis_le _ _ (sm _ _ hs))
    · rename_i ds
      cases r1 with
      | tup hs rs =>
        have hs1 := sameT vis_le hs
        refine ⟨_, _, rfl, .inr ⟨hs1, h1 _ H1 (fun H2 => SqT X.K H2 _ _) k1 f1 ?_ ?_ ?_ (walkB_enum rs (fun _ q => q) Et.walk_enumT)⟩⟩
        · rw [enumD_len, ← rs.length]; exact ln _ _ (.inr hs1)
        · exact fun H2 fr => sameT vis_le (sameT (vis_frmX (O' := O) k1 fr) hs)
        · exact fun _ O2 H2 sm => sameT vis_le (sameT sm hs)
    · rename_i ds
      obtain ⟨p, vs, rfl, e2, e3, e4, e5, e6⟩ := r1
      have hs : vis hd O H1 p = some (.lst vs) := vis_some.mpr ⟨e3, e4, e5⟩
      refine ⟨p, vs, rfl, .inl ⟨SqL.of e5, h1 _ H1 (fun H2 => SqL X.K H2 p vs) k1 f1 ?_ ?_ ?_ (walkB_enum (e6.same vis_more) (fun _ q => q) walk_enum)⟩⟩
      · rw [enumD_len, ← e6.length]; exact ln _ _ (.inl (SqL.of e5))
      · exact fun H2 fr => SqL.of (vis_le _ _ (vis_frmX (O' := O) k1 fr _ _ hs))
      · exact fun _ O2 H2 sm => SqL.of (vis_le _ _ (sm _ _ hs))
    · rename_i i ds
      obtain ⟨p, vs, rfl, e2, e3, e4, e5⟩ := r1
      refine ⟨p, vs, rfl, .inl ⟨SqL.of e4, h1.2 _ H1 (fun H2 => SqL X.K H2 p vs) k1 f1 ?_ ?_ (fun z => ?_) (walkB_enum e5 (fun _ q => q) walk_enum)⟩⟩
      · rw [enumD_len, ← e5.length]; exact ln _ _ (.inl (SqL.of e4))
      · exact fun H2 fr => SqL.of (fr p _ (fun z => by have := (k1.offO p e3).2.1; rw [(k1.offZ p z).2] at this; cases this) e4)
      · rw [h1.1] at z; cases z
    · exact h1.elim
/-! ### min, abs, a minus sign -/
def oMin : OL
  | [.im (.int i), .im (.int j)], Q => Q (.im (.int (if j < i then j else i)))
  | _, _ => False
theorem cs_min (hc : X.calm = true := by rfl) : CallS L X (.builtin "min") oMin :=
  ⟨fun rs Q Q' k h => by
    unfold oMin at h ⊢
    split at h
    · exact k _ h
    · exact h.elim, _, call_min2 hc, fun hd Z B O σ H0 H s xs rs Q ok ra q Q' fin => by
    unfold oMin at q
    split at q
    · obtain ⟨v, w, rfl, r1, r2⟩ := rs2 ra
      cases r1
      cases r2
      exact ⟨_, _, rfl, fin _ _ H q (Same.refl H) (.int _)⟩
    · exact q.elim⟩
def oAbs : OL
  | [.im (.int i)], Q => Q (.im (.int (if i < 0 then -i else i)))
  | _, _ => False
theorem cs_abs : CallS L X (.builtin "abs") oAbs :=
  ⟨fun rs Q Q' k h => by
    unfold oAbs at h ⊢
    split at h
    · exact k _ h
    · exact h.elim, _, call_abs, fun hd Z B O σ H0 H s xs rs Q ok ra q Q' fin => by
    unfold oAbs at q
    split at q
    · obtain ⟨v, rfl, r1⟩ := rs1 ra
      cases r1
      exact ⟨_, rfl, fin _ _ H q (Same.refl H) (.int _)⟩
    · exact q.elim⟩
def fNeg (f : FE) : FE := fun s Q => f s fun r s1 => isI r fun i => Q (.im (.int (-i))) s1
theorem xNeg (he : XE L X e f) : XE L X (.UnaryOp .USub e pos) (fNeg f) := by
  refine ⟨fun s Q Q' k h => he.mono _ _ _ (fun r s1 h1 => isI_mono (fun i q => k _ _ q) h1) h, fun hd Z B O σ H s Q ok h => tW_of (pe_un un_neg peW) (he.run hd Z B O σ H s _ ok (he.mono _ _ _ (fun r s1 h1 v H1 k1 f1 r1 => ?_) h))⟩
  obtain ⟨i, rfl, h2⟩ := isI_v h1 r1
  exact ⟨i, rfl, h2 _ H1 k1 f1 (.int _)⟩
/-! ### a, b = x, y -/
/-- what a name takes: own: one's own list -/
def takeR (own : Bool) (r : Ent) (Q : Ent → Prop) : Prop := match own with
  | false => plainR r Q
  | true => ownR r fun ds => Q (.ow ds)
theorem takeR_mono {own : Bool} {r : Ent} {Q Q' : Ent → Prop} (k : ∀ e, Q e → Q' e) (h : takeR own r Q) : takeR own r Q' := by
  cases own with
  | false => exact plainR_mono k h
  | true => exact ownR_mono (fun ds q => k _ q) h
theorem Ok.take {K : PySem.W.Frag} {hd : Addr → Bool} {Z : Zt} {B : Hp} {O : List Addr} {σ : L2.St} {H H0 : Hp} {s s0 : S} {own : Bool} {r : Ent} {v : V} {Q : Ent → Prop} (k : Ok L K hd Z B O σ H s) (k0 : Ok L K hd Z B O σ H0 s0) (mv : Mv Z H0 H s0 s) (i : Nat) (rs : Rs L K hd Z O σ H0 H v r) (h : takeR own r Q) :
    ∃ O' e, Q e ∧ Ok L K hd Z B O' (σ.set i (some v)) H { s with env := pt s.env i (some e) } := by
  cases own with
  | false =>
    obtain ⟨en, q, n, sl⟩ := plainR_v h rs
    exact ⟨O, en, q, k.set i fun y hy => by cases hy; exact ⟨n, sl⟩⟩
  | true =>
    cases r with
    | ow ds =>
      obtain ⟨p, _, k2⟩ := k.own k0 i rs mv
      exact ⟨_, _, h, k2⟩
    | im d => exact h.elim
    | br _ _ => exact h.elim
    | ob t d => exact h.elim
    | dr => exact h.elim
def fPar (i j : Nat) (oi oj : Bool) (fa fb : FE) : FS := fun E s => fa s fun r s1 => takeR oi r fun e => fb s1 fun r2 s2 => takeR oj r2 fun e2 => E.nx { s2 with env := pt (pt s2.env i (some e)) j (some e2) }
theorem Rs.slots {K : PySem.W.Frag} {hd : Addr → Bool} {Z : Zt} {O : List Addr} {σ σ' : L2.St} {H H' : Hp} {v : V} {own : Bool} {r : Ent} {Q : Ent → Prop} (t : takeR own r Q) (h : Rs L K hd Z O σ H H' v r) : Rs L K hd Z O σ' H H' v r := by
  cases r with
  | br _ _ => cases own <;> exact t.elim
  | im d => exact h
  | ow ds => exact h
  | ob t d => exact h
  | dr => exact h
theorem xsPar (i j : Nat) (oi oj : Bool) {x y : Str} {px py pt' : Pos} {kt k2 pt2} (ha : XE L X a fa) (hb : XE L X b fb) (hN : X.N.Nodup) (hi : X.N[i]? = some x := by rfl) (hj : X.N[j]? = some y := by rfl) (hij : i ≠ j := by decide) (hx : X.env.scope.names.lookup x = some .local := by rfl) (hy : X.env.scope.names.lookup y = some .local := by rfl)
    (hc : X.calm = true := by rfl) (hs1 : starEach [a, b] X.env = (false, eval a X.env) :: starEach [b] X.env := by rfl) (hs2 : starEach [b] X.env = (false, eval b X.env) :: starEach [] X.env := by rfl)
    (hw : swappedStores [.Tuple [.Name x px, .Name y py] kt pt'] (.Tuple [a, b] k2 pt2) X.env = pure (some [x, y]) := by rfl) (hs : swapsWithSole [.Tuple [.Name x px, .Name y py] kt pt'] (.Tuple [a, b] k2 pt2) pos.line X.env = pure false := by rfl) :
    XS L X (.Assign [.Tuple [.Name x px, .Name y py] kt pt'] (.Tuple [a, b] k2 pt2) pos) (fPar i j oi oj fa fb) := by
  refine ⟨fun E E' s le h => ha.mono _ _ _ (fun r s1 h1 => takeR_mono (fun e q => hb.mono _ _ _ (fun r2 s2 h2 => takeR_mono (fun e2 q2 => le.1 _ q2) h2) q) h1) h, fun hd Z B O σ H s E D ok re h => tsW_of (ps_par hc hN hi hj hij hx hy (pa_cons peW (pa_cons peW pa_nil hs2) hs1) hw hs) ?_⟩
  show tW X a σ H _
  refine ha.run hd Z B O σ H s _ ok (ha.mono _ _ _ (fun r s1 h1 v H1 k1 f1 r1 => ?_) h)
  show tW X b σ H1 _
  -- the first is taken: at once, and held
  have first : ∃ O1 e, (fb s1 fun r2 s2 => takeR oj r2 fun e2 => E.nx { s2 with env := pt (pt s2.env i (some e)) j (some e2) }) ∧ Ok L X.K hd Z B O1 σ H1 s1 ∧ Ok L X.K hd Z B O1 (σ.set i (some v)) H1 { s1 with env := pt s1.env i (some e) } := by
    cases oi with
    | false =>
      obtain ⟨en, q, n, sl⟩ := plainR_v h1 r1
      exact ⟨O, en, q, k1, k1.set i fun y hy => by cases hy; exact ⟨n, sl⟩⟩
    | true =>
      cases r with
      | ow ds =>
        obtain ⟨p, rfl, k2⟩ := k1.own ok i r1 f1
        exact ⟨_, _, h1, k1.hold ok r1 f1, k2⟩
      | im d => exact h1.elim
      | br _ _ => exact h1.elim
      | ob t d => exact h1.elim
      | dr => exact h1.elim
  obtain ⟨O1, e, h2, kh, ks⟩ := first
  refine hb.run hd Z B O1 σ H1 s1 _ kh (hb.mono _ _ _ (fun r2 s2 h3 w H2 k2 f2 r2' => ?_) h2)
  have ks2 := ks.step f2.fr k2.stk
  obtain ⟨O2, e2, q, k3⟩ := ks2.take ks ⟨f2.fr, rfl⟩ j (Rs.slots h3 r2') h3
  refine ⟨v, w, rfl, re.nx O2 _ H2 _ q ?_⟩
  have ee : ({ s2 with env := pt (pt s2.env i (some e)) j (some e2) } : S) = { { { s1 with env := pt s1.env i (some e) } with n := s2.n } with env := pt (pt s1.env i (some e)) j (some e2) } := by rw [f2.env]
  rw [ee]
  exact k3
end
end DL

set_option maxRecDepth 100000
set_option maxHeartbeats 2000000
/-! sorted of rows (tuples that begin with a text; where two begin alike they are alike as far as they are asked). -/
namespace Rw
open PySem PySem.Spec PySem.W PySem.SeqAt PyProof.Rows SrtO
/-- the two can be compared as far as they are asked -/
def wal : List PyData → List PyData → Bool
  | x :: xs, y :: ys => alike x y && (!PyData.eqv x y || wal xs ys)
  | _, _ => true
theorem wal_cons {x y : PyData} {xs ys : List PyData} (h : wal (x :: xs) (y :: ys) = true) : alike x y = true ∧ (PyData.eqv x y = true → wal xs ys = true) := by
  rw [wal, Bool.and_eq_true, Bool.or_eq_true, Bool.not_eq_true'] at h
  refine ⟨h.1, fun e => ?_⟩
  rcases h.2 with z | z
  · rw [e] at z; cases z
  · exact z
section
variable {prog : Program} {w : World} {A : Around} {s : Shared}
theorem katLex_wal {b fin : Bool} {Q : Bool → Shared → Prop} : ∀ (xs ys : List PyData) (i : Nat) (vs ws : List Value) (as bs : List Addr), ReadsAll s.heap vs xs as → ReadsAll s.heap ws ys bs → wal xs ys = true →
    A.units + min (PyData.depthAll xs) (PyData.depthAll ys) < cLine → (b = true → i = 0 → ∀ x r t, xs = x :: r → x ≠ .tuple t) → fin = decide (xs.length < ys.length) → Q (PyProof.Rows.lexLt itemOrd (keyToksAll xs) (keyToksAll ys)) s → KatLex prog w A b fin Q (vs.zip ws) i s
  | [], [], i, _, _, _, _, ra, rb, _, _, _, hf, hq => by
    cases ra
    cases rb
    have e : fin = false := by rw [hf]; rfl
    subst e
    rw [lex_irrefl] at hq
    exact kat_nil hq
  | [], y :: ys, i, _, _, _, _, ra, rb, _, _, _, hf, hq => by
    cases ra
    have e : fin = true := by rw [hf]; exact decide_eq_true (Nat.succ_pos _)
    subst e
    rw [toks_all_cons] at hq
    simp only [keyToksAll] at hq
    rw [lex_diff (O := itemOrd) (by simp)] at hq
    rw [List.zip_nil_left]
    exact kat_nil (by simpa [itemLt] using hq)
  | x :: xs, [], i, _, _, _, _, ra, rb, _, _, _, hf, hq => by
    cases rb
    have e : fin = false := by rw [hf]; exact decide_eq_false (Nat.not_lt_zero _)
    subst e
    rw [toks_all_cons] at hq
    simp only [keyToksAll] at hq
    rw [lex_diff (O := itemOrd) (by simp)] at hq
    rw [List.zip_nil_right]
    exact kat_nil (by simpa [itemLt] using hq)
  | x :: xs, y :: ys, i, _, _, _, _, ra, rb, h, hu, hb, hf, hq => by
    obtain ⟨h1, h2⟩ := wal_cons h
    have hf' : fin = decide (xs.length < ys.length) := by
      rw [hf]
      simp only [List.length_cons, Nat.add_lt_add_iff_right]
    cases ra with
    | cons r rs =>
      cases rb with
      | cons r' rs' =>
        rw [List.zip_cons_cons]
        refine kat_cons (eqAt_alike x y A s _ _ _ _ r r' h1 (room_head hu) prog w _ _ ?_)
        cases hx : PyData.eqv x y with
        | true =>
          rw [dataLt_all_yes h1 hx] at hq
          exact kat_yes (katLex_wal xs ys (i + 1) _ _ _ _ rs rs' (h2 hx) (room_tail hu) (fun _ hi => absurd hi (Nat.succ_ne_zero i)) hf' hq)
        | false =>
          rw [dataLt_all_no h1 hx] at hq
          refine kat_no (oneLt_alike (fun hbi t => ?_) r r' h1 (ne_none_of h1 hx) (room_head hu) hq)
          rw [Bool.and_eq_true] at hbi
          exact hb hbi.1 (by simpa using hbi.2) x xs t rfl
/-- the row at v -/
def IsRow (h : Heap) (v : Value) (xs : List PyData) : Prop := ∃ (a : Addr) (o : Obj) (its : Array Value) (n : Nat) (as : List Addr), v = .ref a ∧ h.get? a = some o ∧ o.cls = .type "tuple" ∧ o.data = .seq its n ∧ ReadsAll h its.toList xs as
theorem readsAll_len {h : Heap} : ∀ {vs : List Value} {ds : List PyData} {as : List Addr}, ReadsAll h vs ds as → vs.length = ds.length
  | _, _, _, .nil => rfl
  | _, _, _, .cons _ r => by rw [List.length_cons, List.length_cons, readsAll_len r]
abbrev rlt (xs ys : List PyData) : Bool := PyProof.Rows.lexLt itemOrd (keyToksAll xs) (keyToksAll ys)
theorem rlt_swo {α : Type} (k : α → List PyData) : Swo fun v u => rlt (k v) (k u) := by
  refine ⟨fun x y h => ?_, fun x y z h1 h2 => ?_⟩
  · cases e : rlt (k y) (k x) with
    | false => rfl
    | true =>
      have := lex_trans (O := itemOrd) _ _ _ h e
      rw [lex_irrefl] at this
      cases this
  · cases e : rlt (k z) (k x) with
    | false => rfl
    | true =>
      rcases lex_negTrans (O := itemOrd) (keyToksAll (k z)) (keyToksAll (k y)) (keyToksAll (k x)) e with q | q
      · exact absurd (h2.symm.trans q) (by decide)
      · exact absurd (h1.symm.trans q) (by decide)
theorem row_cmp {vs : List Value} {k : Value → List PyData} (hp : ∀ v ∈ vs, IsRow s.heap v (k v)) (hw : ∀ v ∈ vs, ∀ u ∈ vs, wal (k v) (k u) = true) (hd : ∀ v ∈ vs, PyData.depthAll (k v) ≤ 60) (hf : ∀ v ∈ vs, ∃ x r, k v = .str x :: r) (hu : A.units + 62 < cLine) :
    Cmp prog w A s (tuples' true) (fun p => p.1 ∈ vs) (lt2 fun v u => rlt (k v) (k u)) := by
  intro p q hm hm'
  obtain ⟨a, o, its, n, as, e, ho, hc, hd1, r⟩ := hp _ hm
  obtain ⟨a', o', its', n', as', e', ho', hc', hd1', r'⟩ := hp _ hm'
  show wpAny (model prog w) A (keyLt' (tuples' true) p.1 q.1) (fun r s' => s' = s ∧ r = rlt (k p.1) (k q.1)) (fun _ _ => False) s
  have l1 := readsAll_len r
  have l2 := readsAll_len r'
  have d1 := hd _ hm
  have w1 := hw _ hm _ hm'
  have f1 := hf _ hm
  generalize k p.1 = xs at r l1 d1 w1 f1 ⊢
  generalize k q.1 = ys at r' l2 w1 ⊢
  rw [e, e']
  refine kat_lt ho hd1 ho' hd1' ?_
  have m1 : min (PyData.depthAll xs) (PyData.depthAll ys) ≤ PyData.depthAll xs := Nat.min_le_left _ _
  refine katLex_wal xs ys 0 _ _ _ _ r r' w1 (by omega) (fun _ _ x r t e2 e3 => ?_) ?_ ⟨rfl, rfl⟩
  · obtain ⟨z, r2, e4⟩ := f1
    rw [e4] at e2
    cases e2
    cases e3
  · rw [← Array.length_toList, ← Array.length_toList, l1, l2]
end
end Rw

set_option maxRecDepth 100000
set_option maxHeartbeats 2000000
/-! sorted of rows, as a rule; and told by data. -/
namespace Rw
open PySem PySem.Spec PySem.W PySem.SeqAt PyProof.Rows SrtO
mutual
theorem keepR {h h' : Heap} (k : ∀ b o, h.get? b = some o → h'.get? b = some o) : ∀ {v : Value} {d : PyData} {as : List Addr}, Reads h v d as → Reads h' v d as
  | _, _, _, .none => .none
  | _, _, _, .bool b => .bool b
  | _, _, _, .int i t => .int i t
  | _, _, _, .str x t => .str x t
  | _, _, _, .list e c d r => .list (k _ _ e) c d (keepRs k r)
  | _, _, _, .tuple e c d r => .tuple (k _ _ e) c d (keepRs k r)
  | _, _, _, .dict e c d r q => .dict (k _ _ e) c d (keepRs k r) (keepRs k q)
theorem keepRs {h h' : Heap} (k : ∀ b o, h.get? b = some o → h'.get? b = some o) : ∀ {vs : List Value} {ds : List PyData} {as : List Addr}, ReadsAll h vs ds as → ReadsAll h' vs ds as
  | _, _, _, .nil => .nil
  | _, _, _, .cons a b => .cons (keepR k a) (keepRs k b)
end
theorem cls_ne {x y : String} (n : x ≠ y) {o : Obj} (h1 : o.cls = .type x) (h2 : o.cls = .type y) : False := n (Value.type.inj (h1.symm.trans h2))
theorem seq_eq {o : Obj} {a b : Array Value} {n m : Nat} (h1 : o.data = .seq a n) (h2 : o.data = .seq b m) : a = b := by
  rw [h1] at h2
  injection h2
mutual
theorem uniq {h : Heap} : ∀ {d d' : PyData} {v : Value} {as bs : List Addr}, d.canLay0 = true → Reads h v d as → Reads h v d' bs → d = d'
  | .none, _, _, _, _, _, r, r' => by cases r; cases r'; rfl
  | .bool b, _, _, _, _, _, r, r' => by cases r; cases r'; rfl
  | .int i, _, _, _, _, _, r, r' => by cases r; cases r'; rfl
  | .str x, _, _, _, _, _, r, r' => by cases r; cases r'; rfl
  | .list xs, d', _, _, _, c, r, r' => by
    cases r with
    | list e1 e2 e3 ra => cases r' with
      | list f1 f2 f3 rb =>
        rw [e1] at f1
        cases f1
        cases seq_eq e3 f3
        rw [uniqs (by simpa [PyData.canLay0] using c) ra rb]
      | tuple f1 f2 f3 rb =>
        rw [e1] at f1
        cases f1
        exact (cls_ne (by decide) e2 f2).elim
      | dict f1 f2 f3 rb rc =>
        rw [e1] at f1
        cases f1
        exact (cls_ne (by decide) e2 f2).elim
  | .tuple xs, d', _, _, _, c, r, r' => by
    cases r with
    | tuple e1 e2 e3 ra => cases r' with
      | list f1 f2 f3 rb =>
        rw [e1] at f1
        cases f1
        exact (cls_ne (by decide) e2 f2).elim
      | tuple f1 f2 f3 rb =>
        rw [e1] at f1
        cases f1
        cases seq_eq e3 f3
        rw [uniqs (by simpa [PyData.canLay0] using c) ra rb]
      | dict f1 f2 f3 rb rc =>
        rw [e1] at f1
        cases f1
        exact (cls_ne (by decide) e2 f2).elim
  | .dict kvs, _, _, _, _, c, _, _ => by simp [PyData.canLay0] at c
theorem uniqs {h : Heap} : ∀ {ds ds' : List PyData} {vs : List Value} {as bs : List Addr}, PyData.canLayAll0 ds = true → ReadsAll h vs ds as → ReadsAll h vs ds' bs → ds = ds'
  | [], _, _, _, _, _, r, r' => by cases r; cases r'; rfl
  | d :: ds, _, _, _, _, c, r, r' => by
    rw [PyData.canLayAll0, Bool.and_eq_true] at c
    cases r with
    | cons a b => cases r' with
      | cons a' b' => rw [uniq c.1 a a', uniqs c.2 b b']
end
def rowOf : PyData → List PyData
  | .tuple xs => xs
  | _ => []
/-- rows that can be put in order -/
structure RowsOk (ds : List PyData) : Prop where
  row : ∀ d ∈ ds, ∃ x r, d = .tuple (.str x :: r)
  lay : ∀ d ∈ ds, d.canLay0 = true
  deep : ∀ d ∈ ds, PyData.depthAll (rowOf d) ≤ 60
  wal : ∀ d ∈ ds, ∀ e ∈ ds, wal (rowOf d) (rowOf e) = true
abbrev rltD (d e : PyData) : Bool := rlt (rowOf d) (rowOf e)
section
variable {prog : Program} {w : World} {A : Around} {s : Shared} {E : Value → Shared → Prop}
theorem strs_of {h : Heap} : ∀ {vs : List Value} {k : Value → PyData}, (∀ v ∈ vs, (∃ x r, k v = .tuple (.str x :: r)) ∧ IsRow h v (rowOf (k v))) → ∃ fs : List Value, KatTups h vs fs ∧ fs.length = vs.length ∧ ∀ f ∈ fs, ∃ x t, f = Value.str x t
  | [], _, _ => ⟨[], KatTups.nil, rfl, fun _ hm => by simp at hm⟩
  | v :: vs, k, hp => by
    obtain ⟨fs, h1, h2, h3⟩ := strs_of (vs := vs) (k := k) fun v' hm => hp v' (List.mem_cons_of_mem _ hm)
    obtain ⟨⟨x, r, e1⟩, a, o, its, n, as, e, ho, hc, hd, ra⟩ := hp v (List.mem_cons_self ..)
    rw [e1] at ra
    subst e
    obtain ⟨t, rest, e2⟩ : ∃ t rest, its.toList = .str x t :: rest := by
      generalize its.toList = l at ra
      cases ra with
      | cons a b => cases a; exact ⟨_, _, rfl⟩
    refine ⟨.str x t :: fs, KatTups.cons ho hc hd ?_ h1, by rw [List.length_cons, List.length_cons, h2], fun f hm => ?_⟩
    · rw [← Array.getElem?_toList, e2]
      rfl
    · rcases List.mem_cons.mp hm with rfl | hm
      · exact ⟨x, t, rfl⟩
      · exact h3 f hm
theorem sorted_rows {l : Addr} {vs : List Value} {k : Value → PyData} {Q : Value → Shared → Prop} (hl : s.heap.IsList l vs.toArray) (hz : vs.length ≤ sizeLine) (ok : RowsOk (vs.map k)) (hp : ∀ v ∈ vs, ∃ as, Reads s.heap v (k v) as) (hu : A.units + 70 < cLine)
    (h : ∀ (h' : Heap) (d : Addr) (out : List Value), Srtd (fun v u => rltD (k v) (k u)) out → Stb (fun v u => rltD (k v) (k u)) out vs → (∀ b o, s.heap.get? b = some o → h'.get? b = some o) → s.heap.objs.size ≤ d → (∃ n, h'.get? d = some (seqObj "list" out.toArray n)) → Q (.ref d) { s with heap := h' }) :
    wpAny (model prog w) A (call (.builtin "sorted") [.ref l]) Q E s := by
  have mem : ∀ v ∈ vs, k v ∈ vs.map k := fun v hv => List.mem_map.mpr ⟨v, hv, rfl⟩
  refine sorted_ord (rlt_swo fun v => rowOf (k v)) hl hz (fun h2 h₁ a ha kk => ?_) fun out hs hb => ?_
  · intro h' keep
    have kp : ∀ b o, s.heap.get? b = some o → h'.get? b = some o := fun b o e => keep b o (kk b o e).1 (kk b o e).2
    have rows : ∀ v ∈ vs, IsRow h' v (rowOf (k v)) := fun v hv => by
      obtain ⟨as, r⟩ := hp v hv
      obtain ⟨x, t, e⟩ := ok.row _ (mem v hv)
      have r' := keepR kp r
      rw [e] at r' ⊢
      cases r' with
      | tuple e1 e2 e3 ra => exact ⟨_, _, _, _, _, rfl, e1, e2, e3, ra⟩
    obtain ⟨fs, h1, hl2, h3⟩ := strs_of (k := k) fun v hv => ⟨ok.row _ (mem v hv), rows v hv⟩
    refine ⟨tuples' true, fun Q E hq => ?_, row_cmp (s := { s with heap := h' }) rows (fun v hv u hu' => ok.wal _ (mem v hv) _ (mem u hu')) (fun v hv => ok.deep _ (mem v hv)) (fun v hv => ?_) ?_⟩
    · refine kat_kind (T := .type "str") h1 (by omega) (fun f hm => ?_) (by rfl) ?_
      · obtain ⟨x, t, rfl⟩ := h3 f hm
        exact Looks.now
      · have e : (Value.type "str" != Value.type "tuple") = true := by first | decide +kernel | rfl | decide
        rw [e]
        exact hq
    · obtain ⟨x, r, e⟩ := ok.row _ (mem v hv)
      exact ⟨x, r, by rw [e] <;> rfl⟩
    · show A.units + 1 + 1 + 62 < cLine
      omega
  · exact h _ _ out hs hb (fun b o e => sortedAll_old e) (Nat.le_succ _) (sortedAll_at s.heap vs out.toArray)
end
end Rw

set_option maxRecDepth 100000
set_option maxHeartbeats 2000000
/-! sorted of rows, as a rule; and told by data. -/
namespace DL
open PySem PySem.Spec PyProof.Rows L2
open Rw (RowsOk rltD rowOf)
theorem zip_map {α β γ : Type} (f : α → β) (g : α → γ) : ∀ l : List α, (l.map f).zip (l.map g) = l.map fun v => (f v, g v)
  | [] => rfl
  | a :: l => by rw [List.map_cons, List.map_cons, List.map_cons, List.zip_cons_cons, zip_map f g l]
/-- sorted(xs), xs a list of rows: a new list; the same items, ascending, equal ones in their order -/
def rSortedW (K : PySem.W.Frag) : List V → Hp → VK → Prop := fun vs H Q => ∃ (a : Addr) (xs : List V) (ds : List PyData), vs = [V.ref a] ∧ SqL K H a xs ∧ DpAll K H xs ds ∧ RowsOk ds ∧
  ∀ ys es p, ys.length = es.length → (ys.zip es).Perm (xs.zip ds) → SrtO.Srtd rltD es → SrtO.Stb rltD es ds → H p = none → Q (.ref p) (upd H p (.lst ys))
section
variable {X : Cx}
theorem dp_each {pins : List (Addr × Obj)} {σ : L2.St} {H : Hp} {s : Shared} (I : Inv X pins σ H s) : ∀ {xs : List V} {its : List Value} {ds : List PyData}, Vals xs its → DpAll X.K H xs ds → ∀ (i : Nat) (d : PyData), ds[i]? = some d → ∃ v as, its[i]? = some v ∧ Reads s.heap v d as
  | _, _, _, .nil, .nil, i, d, e => by simp at e
  | _, _, _, .cons r rs, .cons a b, 0, d, e => by
    simp at e
    subst e
    obtain ⟨as, q⟩ := Dp.reads I _ _ _ a r
    exact ⟨_, as, rfl, q⟩
  | _, _, _, .cons r rs, .cons a b, i + 1, d, e => by
    obtain ⟨v, as, h1, h2⟩ := dp_each I rs b i d (by simpa using e)
    exact ⟨v, as, by simpa using h1, h2⟩
theorem dpAll_len {K : PySem.W.Frag} {H : Hp} : ∀ {xs : List V} {ds : List PyData}, DpAll K H xs ds → xs.length = ds.length
  | _, _, .nil => rfl
  | _, _, .cons _ b => by rw [List.length_cons, List.length_cons, dpAll_len b]
theorem dp_row {K : PySem.W.Frag} {H : Hp} : ∀ {xs : List V} {ds : List PyData}, DpAll K H xs ds → (∀ d ∈ ds, ∃ x r, d = .tuple (.str x :: r)) → ∀ x ∈ xs, ∃ a, x = V.ref a
  | _, _, .nil, _, x, hx => absurd hx (by simp)
  | v :: _, d :: _, .cons a b, h, x, hx => by
    rcases List.mem_cons.mp hx with rfl | hx
    · obtain ⟨y, r, e⟩ := h d List.mem_cons_self
      subst e
      cases a
      exact ⟨_, rfl⟩
    · exact dp_row b (fun d m => h d (List.mem_cons_of_mem _ m)) x hx
open Classical in
/-- what is read at a value -/
noncomputable def datK (h : Heap) (v : Value) : PyData := if q : ∃ (d : PyData), d.canLay0 = true ∧ ∃ as, Reads h v d as then q.choose else .none
theorem datK_eq {h : Heap} {v : Value} {d : PyData} {as : List Addr} (c : d.canLay0 = true) (r : Reads h v d as) : datK h v = d := by
  have q : ∃ (d : PyData), d.canLay0 = true ∧ ∃ as, Reads h v d as := ⟨d, c, as, r⟩
  unfold datK
  rw [dif_pos q]
  obtain ⟨c1, as1, r1⟩ := q.choose_spec
  exact Rw.uniq c1 r1 r
theorem cr_sortedW (hu : X.A.units + 70 < cLine) : CallR X (.builtin "sorted") (rSortedW X.K) := by
  intro pins s σ H vs us Q I r h
  obtain ⟨a, xs, ds, rfl, hs, hx, ok, q⟩ := h
  obtain ⟨its, rv, hl, hz⟩ := I.list hs
  obtain ⟨u, rfl, ru⟩ := vals1 r
  obtain rfl : u = Value.ref a := ru
  obtain ⟨e1, e2⟩ := refs_back rv (dp_row hx ok.row)
  have el : its.length = ds.length := by rw [← rv.length, dpAll_len hx]
  have ed : its.map (datK s.heap) = ds := by
    refine List.ext_getElem? fun i => ?_
    rw [List.getElem?_map]
    by_cases hi : i < ds.length
    · have g : ds[i]? = some ds[i] := List.getElem?_eq_getElem hi
      obtain ⟨v, as, h1, h2⟩ := dp_each I rv hx i _ g
      rw [h1, g]
      exact congrArg some (datK_eq (ok.lay _ (List.getElem_mem hi)) h2)
    · rw [List.getElem?_eq_none (by omega), List.getElem?_eq_none (by omega)]
      rfl
  refine Rw.sorted_rows (k := datK s.heap) hl.isList (by rw [← rv.length]; exact hz) (by rw [ed]; exact ok) (fun v hv => ?_) hu fun h' d out h1 h2 kp hd hn => ?_
  · obtain ⟨i, hi, e⟩ := List.mem_iff_getElem.mp hv
    have g : ds[i]? = some (ds[i]'(by omega)) := List.getElem?_eq_getElem (by omega)
    obtain ⟨v', as, g1, g2⟩ := dp_each I rv hx i _ g
    rw [List.getElem?_eq_getElem hi] at g1
    cases g1
    rw [← e]
    rw [datK_eq (ok.lay _ (List.getElem_mem (by omega))) g2]
    exact ⟨as, g2⟩
  · have h3 : ∀ u ∈ out, ∃ a, u = Value.ref a := fun u hu => e2 u (h2.perm.mem_iff.mp hu)
    obtain ⟨n, hn⟩ := hn
    have hb : SrtO.Stb rltD (out.map (datK s.heap)) ds := by
      rw [← ed]
      exact SrtO.Stb.map (Rw.rlt_swo rowOf) (datK s.heap) h2
    have pz : ((out.map backV).zip (out.map (datK s.heap))).Perm (xs.zip ds) := by
      rw [e1, ← ed, zip_map, zip_map]
      exact h2.perm.map _
    refine ⟨.ref d, upd H d (.lst (out.map backV)), I.laid (t' := s.toks) kp hd ⟨?_, out, n, vals_back h3, hn⟩, rfl, q _ _ d (by rw [List.length_map, List.length_map]) pz (SrtO.srtd_map h1) hb (I.hok.fresh hd)⟩
    rw [List.length_map, h2.perm.length_eq, ← rv.length]
    exact hz
variable {L : Lay}
def gSorted (d : PyData) (Q : Ent → Prop) : Prop := match d with
  | .list ds => RowsOk ds ∧ ∀ es, es.Perm ds → SrtO.Srtd rltD es → SrtO.Stb rltD es ds → Q (.ow es)
  | _ => False
theorem rpAll_zip {K : PySem.W.Frag} {H : Hp} : ∀ {vs : List V} {ds : List PyData}, RpAll K H vs ds → ∀ p ∈ vs.zip ds, Rp K H p.1 p.2
  | _, _, .nil, p, hp => by simp at hp
  | _, _, .cons a b, p, hp => by
    rw [List.zip_cons_cons] at hp
    rcases List.mem_cons.mp hp with rfl | hp
    · exact a
    · exact rpAll_zip b p hp
theorem zip_rpAll {K : PySem.W.Frag} {H : Hp} : ∀ {vs : List V} {ds : List PyData}, vs.length = ds.length → (∀ p ∈ vs.zip ds, Rp K H p.1 p.2) → RpAll K H vs ds
  | [], [], _, _ => .nil
  | v :: vs, d :: ds, l, h => .cons (h (v, d) (by rw [List.zip_cons_cons]; exact List.mem_cons_self)) (zip_rpAll (by simpa using l) fun p hp => h p (by rw [List.zip_cons_cons]; exact List.mem_cons_of_mem _ hp))
  | [], _ :: _, l, _ => by simp at l
  | _ :: _, [], l, _ => by simp at l
theorem zip_snd {α β : Type} : ∀ {l : List α} {m : List β}, l.length = m.length → (l.zip m).map Prod.snd = m
  | [], [], _ => rfl
  | a :: l, b :: m, h => by rw [List.zip_cons_cons, List.map_cons, zip_snd (by simpa using h)]
  | [], _ :: _, h => by simp at h
  | _ :: _, [], h => by simp at h
theorem canAll : ∀ {ds : List PyData}, (∀ d ∈ ds, d.canLay0 = true) → PyData.canLayAll0 ds = true
  | [], _ => rfl
  | d :: ds, h => by
    rw [PyData.canLayAll0, h d List.mem_cons_self, canAll fun e m => h e (List.mem_cons_of_mem _ m)]
    rfl
theorem cs_sorted (hu : X.A.units + 70 < cLine) : CallS L X (.builtin "sorted") (o1 gSorted) :=
  ⟨o1_mono fun d Q Q' k h => by
    unfold gSorted at h ⊢
    split at h
    · exact ⟨h.1, fun es a b c => k _ (h.2 es a b c)⟩
    · exact h.elim,
   _, cr_sortedW hu, fun hd Z B O σ H0 H s xs rs Q ok ra q Q' fin => by
    obtain ⟨a, d, rfl, ea, g⟩ := o1_of q
    obtain ⟨v, rfl, r⟩ := rs1 ra
    unfold gSorted at g
    split at g
    · rename_i ds
      obtain ⟨p, vs, rfl, hq, rp⟩ := rs_list r ea
      refine ⟨p, vs, ds, rfl, SqL.of hq, (rp.same vis_le).dp (canAll g.1.lay), g.1, fun ys es p' le pz h1 h2 hp => ?_⟩
      have pe : es.Perm ds := by
        have := pz.map Prod.snd
        rw [zip_snd le, zip_snd rp.length] at this
        exact this
      refine fin (.ref p') _ _ (g.2 es pe h1 h2) (sameNew hp) (ok.newL hp hp (zip_rpAll le fun z hz => rpAll_zip rp z (pz.mem_iff.mp hz)))
    · exact g.elim⟩
end
end DL

set_option maxRecDepth 100000
set_option maxHeartbeats 2000000
/-! a, b, c = x, y, z. -/
namespace DL
open PySem PySem.Spec PyProof.Rows L2
section
variable {L : Lay} {X : Cx} {pos : Pos} {a b c : Expr} {fs : FA} {m : Nat}
def set3 (i j l : Nat) (ds : List PyData) (s : S) (Q : S → Prop) : Prop := match ds with
  | [x, y, z] => Q { s with env := pt (pt (pt s.env i (some (.im x))) j (some (.im y))) l (some (.im z)) }
  | _ => False
theorem set3_mono {i j l : Nat} {ds : List PyData} {s : S} {Q Q' : S → Prop} (k : ∀ s, Q s → Q' s) (h : set3 i j l ds s Q) : set3 i j l ds s Q' := by
  unfold set3 at h ⊢
  split at h
  · exact k _ h
  · exact h.elim
def fPar3 (i j l : Nat) (fs : FA) : FS := fun E s => fs s fun rs s1 => kepts rs fun ds => set3 i j l ds s1 E.nx
theorem xsPar3 (i j l : Nat) {x y z : Str} {px py pz pt' : Pos} {kt k2 pt2} (ha : XA L X [a, b, c] m fs) (hN : X.N.Nodup) (hi : X.N[i]? = some x := by rfl) (hj : X.N[j]? = some y := by rfl) (hl : X.N[l]? = some z := by rfl) (hij : i ≠ j := by decide) (hil : i ≠ l := by decide) (hjl : j ≠ l := by decide)
    (hx : X.env.scope.names.lookup x = some .local := by rfl) (hy : X.env.scope.names.lookup y = some .local := by rfl) (hz : X.env.scope.names.lookup z = some .local := by rfl) (hc : X.calm = true := by rfl)
    (hw : swappedStores [.Tuple [.Name x px, .Name y py, .Name z pz] kt pt'] (.Tuple [a, b, c] k2 pt2) X.env = pure (some [x, y, z]) := by rfl)
    (hs : swapsWithSole [.Tuple [.Name x px, .Name y py, .Name z pz] kt pt'] (.Tuple [a, b, c] k2 pt2) pos.line X.env = pure false := by rfl) :
    XS L X (.Assign [.Tuple [.Name x px, .Name y py, .Name z pz] kt pt'] (.Tuple [a, b, c] k2 pt2) pos) (fPar3 i j l fs) := by
  refine ⟨fun E E' s le h => ha.mono _ _ _ (fun rs s1 h1 => kepts_mono (fun ds h2 => set3_mono (fun s q => le.1 _ q) h2) h1) h, fun hd Z B O σ H s E D ok re h => tsW_of (ps_par3 hc hN hi hj hl hij hil hjl hx hy hz paW hw hs) (ha.run hd Z B O σ H s _ ok (ha.mono _ _ _ (fun rs s1 h1 vs H1 k1 f1 r1 => ?_) h))⟩
  obtain ⟨ds, rp, h2⟩ := kepts_v r1 h1
  unfold set3 at h2
  split at h2
  · cases rp with
    | cons p1 q => cases q with
      | cons p2 q => cases q with
        | cons p3 q =>
          cases q
          have k2 := k1.set i (e := some (.im _)) fun y hy => by cases hy; exact ⟨(fun _ z => nomatch z), p1⟩
          have k3 := k2.set j (e := some (.im _)) fun y hy => by cases hy; exact ⟨(fun _ z => nomatch z), p2⟩
          have k4 := k3.set l (e := some (.im _)) fun y hy => by cases hy; exact ⟨(fun _ z => nomatch z), p3⟩
          exact ⟨_, _, _, rfl, re.nx O _ H1 _ h2 k4⟩
  · exact h2.elim
end
end DL
namespace DL
open PySem PySem.Spec PyProof.Rows L2
theorem room70 {k : Nat} {A : Around} (r : Room k A) : A.units + 70 < cLine := by have := r.un; omega
end DL

set_option maxRecDepth 100000
set_option maxHeartbeats 2000000
namespace St
open PySem PySem.Spec PyProof.Rows L2
/-! sorted(t), t a tuple of texts. -/
section
variable {prog : Program} {w : World} {A : Around} {E : Value → Shared → Prop} {s : Shared}
theorem sorted_tup {t : Addr} {vs : List Value} {ss : List Str} {Q : Value → Shared → Prop} (tup : s.heap.IsTuple t vs.toArray) (texts : StrsAre vs ss) (few : vs.length < 64)
    (h : ∀ (h1 h' : Heap) (out : Array Value) (ss' : List Str) (n : Nat), (∀ b o, s.heap.get? b = some o → h1.get? b = some o) → (∀ b o, h1.get? b = some o → h'.get? b = some o) → h'.get? h1.objs.size = some (seqObj "list" out n) → StrsAre out.toList ss' → ss'.Perm ss → sortedS ss' = true → Q (.ref h1.objs.size) { s with heap := h' }) :
    wpAny (model prog w) A (call (.builtin "sorted") [.ref t]) Q E s := by
  obtain ⟨o, ho, hc, n, hd⟩ := tup
  refine Calls.call_function_entry kind_sorted plain_sorted entry_sorted (args_sorted1 _) ?_
  unfold Builtin.«sorted»
  refine wpAny_bind (m := checkCount "sorted" 1 1 _) (wpAny_pure ?_)
  refine wpAny_bind (wpAny_collect_seq t (.inr rfl) ho hc hd (fun h1 keep => ?_) (by rw [sizeLine_eq, List.size_toArray]; omega))
  refine wpAny_bind (wpAny_newList ?_)
  have at_ : (h1.push (seqObj "list" vs.toArray 0)).get? h1.objs.size = some (seqObj "list" vs.toArray 0) := Heap.get?_push_size _ rfl
  show wpAny _ _ _ _ _ { s with heap := h1.push (seqObj "list" vs.toArray 0) }
  refine wpAny_bind (wpAny_holding (wpAny_call_entry slot_list_sort ⟨_, at_, rfl⟩ entry_list_sort (list_sort_treeK strKind_oneLt at_ texts.keysOf (fun v₁ v₂ rest e => keyKind_strs (by rw [← e]; exact texts)) few fun st' a1 a2 => ⟨_, rfl, ?_⟩) (args_list_sort _)))
  obtain ⟨ss', b1, b2, b3⟩ := sorted_out_str texts a1 a2
  refine wpAny_pure ⟨_, rfl, ?_⟩
  obtain ⟨e, he⟩ := sortedHeap_at (out := (arrOf st').map (·.2)) at_
  have keep2 : ∀ b u, h1.get? b = some u → (sortedHeap (h1.push (seqObj "list" vs.toArray 0)) h1.objs.size vs ((arrOf st').map (·.2))).get? b = some u := fun b u g => by
    rw [sortedHeap_old (Nat.ne_of_lt (Heap.lt_size g)) (by rw [size_push']; exact Nat.lt_succ_of_lt (Heap.lt_size g))]
    exact Heap.get?_push_of_some _ g
  dsimp only
  generalize sortedHeap (h1.push (seqObj "list" vs.toArray 0)) h1.objs.size vs ((arrOf st').map (·.2)) = hh at he keep2 ⊢
  exact h h1 hh _ ss' e keep keep2 he b1 b2 b3
end
/-- sorted(x), x a list or tuple of texts -/
def rSortedB (K : PySem.W.Frag) : List V → Hp → VK → Prop := fun vs H Q => ∃ (a : Addr) (xs : List Str), vs = [V.ref a] ∧ (SqL K H a (xs.map V.str) ∨ SqT K H a (xs.map V.str)) ∧ xs.length < 64 ∧
  ∀ (ys : List Str) (p : Addr), ys.Perm xs → sortedS ys = true → H p = none → Q (.ref p) (upd H p (.lst (ys.map V.str)))
theorem call_sortedB {X : Cx} : CallR X (.builtin "sorted") (rSortedB X.K) := by
  intro pins s σ H vs us Q I r h
  obtain ⟨a, xs, rfl, sq, few, q⟩ := h
  rcases sq with sq | sq
  · exact cr_sortedS pins s σ H _ us Q I r ⟨a, xs, rfl, sq, few, q⟩
  · obtain ⟨its, rv, tup, _⟩ := I.tuple sq
    rw [Vals.ref1 r]
    have len := rv.length
    rw [List.length_map] at len
    refine sorted_tup tup rv.strs (by rw [← len]; exact few) fun h1 h' out ys n k1 k2 at_ b1 b2 b3 => ?_
    have J : Inv X pins σ H { s with heap := h1 } := I.kept (t' := s.toks) k1
    have free : H h1.objs.size = none := J.hok.fresh (Nat.le_refl _)
    have none_ : h1.get? h1.objs.size = none := by
      cases e : h1.get? h1.objs.size with
      | none => rfl
      | some o => exact absurd (Heap.lt_size e) (Nat.lt_irrefl _)
    have small : (ys.map V.str).length ≤ sizeLine := by
      rw [List.length_map, b2.length_eq]
      exact small64 few
    exact ⟨.ref h1.objs.size, upd H h1.objs.size (.lst (ys.map V.str)), J.laidN (t' := s.toks) k2 none_ free ⟨small, out.toList, n, vals_of_strs b1, at_⟩, rfl, q ys _ b2 b3 free⟩
end St

set_option maxRecDepth 100000
set_option maxHeartbeats 2000000
/-! sorted of texts. -/
namespace DL
open PySem PySem.Spec PyProof.Rows L2
def strsD : List PyData → Option (List Str)
  | [] => some []
  | .str x :: r => (strsD r).map (x :: ·)
  | _ :: _ => none
theorem rp_strs {K : PySem.W.Frag} {H : Hp} : ∀ {vs : List V} {ds : List PyData} {ss : List Str}, RpAll K H vs ds → strsD ds = some ss → vs = ss.map V.str
  | _, [], _, .nil, e => by cases e; rfl
  | _, .str x :: r, ss, .cons a b, e => by
    cases q : strsD r with
    | none => rw [strsD, q] at e; cases e
    | some t =>
      rw [strsD, q] at e
      cases e
      cases a
      rw [rp_strs b q]
      rfl
  | _, .none :: _, _, .cons _ _, e => by cases e
  | _, .bool _ :: _, _, .cons _ _, e => by cases e
  | _, .int _ :: _, _, .cons _ _, e => by cases e
  | _, .list _ :: _, _, .cons _ _, e => by cases e
  | _, .tuple _ :: _, _, .cons _ _, e => by cases e
  | _, .dict _ :: _, _, .cons _ _, e => by cases e
theorem strs_rp {K : PySem.W.Frag} {H : Hp} : ∀ ss : List Str, RpAll K H (ss.map V.str) (ss.map PyData.str)
  | [] => .nil
  | x :: r => .cons (.str x) (strs_rp r)
/-- sorted of a list or tuple of texts -/
def gSortedS (d : PyData) (Q : Ent → Prop) : Prop := match (items d).bind strsD with
  | some ss => ss.length < 64 ∧ ∀ ys : List Str, ys.Perm ss → sortedS ys = true → Q (.ow (ys.map PyData.str))
  | none => False
variable {L : Lay} {X : Cx}
theorem cs_sortedS : CallS L X (.builtin "sorted") (o1 gSortedS) :=
  ⟨o1_mono fun d Q Q' k h => by
    unfold gSortedS at h ⊢
    split at h
    · exact ⟨h.1, fun ys a b => k _ (h.2 ys a b)⟩
    · exact h.elim,
   _, St.call_sortedB, fun hd Z B O σ H0 H s xs rs Q ok ra q Q' fin => by
    obtain ⟨a, d, rfl, ea, g⟩ := o1_of q
    obtain ⟨v, rfl, r⟩ := rs1 ra
    unfold gSortedS at g
    split at g
    · rename_i ss hs
      obtain ⟨ds, h1, h2⟩ := Option.bind_eq_some_iff.mp hs
      obtain ⟨p, vs, rfl, hq, rp⟩ := rs_seq r ea h1
      have e := rp_strs rp h2
      subst e
      exact ⟨p, ss, rfl, hq, g.1, fun ys p' h1 h2 hp => fin (.ref p') _ _ (g.2 ys h1 h2) (sameNew hp) (ok.newL hp hp (strs_rp ys))⟩
    · exact g.elim⟩
end DL

set_option maxRecDepth 100000
set_option maxHeartbeats 2000000
/-! extend; the truth of a value. -/
namespace DL
open PySem PySem.Spec PyProof.Rows L2
section
variable {L : Lay} {X : Cx} {pos : Pos} {e : Expr} {f : FE} {x : Str} {p0 apos cpos : Pos}
def fExtend (i : Nat) (f : FE) : FS := fun E s => match gt s.env i with
  | some (.ow ds) => f s fun r s1 => match r.dat with
    | some (.list es) => ds.length + es.length ≤ sizeLine ∧ E.nx { s1 with env := pt s1.env i (some (.ow (ds ++ es))) }
    | _ => False
  | _ => False
theorem xsExtend (i : Nat) (he : XE L X e f) (hN : X.N[i]? = some x := by rfl) (hv : Vis X.env.scope x := by first | exact Or.inl rfl | exact Or.inr (Or.inl rfl) | exact Or.inr (Or.inr rfl)) (hd : (x == ("__debug__" : Str)) = false := by decide) (hcd : (x == ("__classdict__" : Str)) = false := by decide)
    (hs : starEach [e] X.env = (false, eval e X.env) :: starEach [] X.env := by rfl) (hbase : attributeBase (.Name x p0) "extend" X.env (eval (.Name x p0) X.env) = eval (.Name x p0) X.env := by rfl)
    (hfew : ((backTo cpos (starEach [e] X.env)).all (fun x => !x.1) && (backToKw cpos (keywordEach [] X.env)).all (fun x => x.1.isSome)
      && decide ([e].length + ([] : List Keyword).length + (if ([] : List Keyword).isEmpty then 0 else 1) < 30)) = true := by rfl)
    (hline : (apos.endLine == cpos.line) = true := by rfl) (hplain : (backTo cpos (starEach ([] : List Expr) X.env)).any (·.1) = false := by rfl) (hsw : swapsWith (.Call (.Attribute (.Name x p0) "extend" apos) [e] [] cpos) none pos.line X.env = pure false := by rfl) :
    XS L X (.Expr (.Call (.Attribute (.Name x p0) "extend" apos) [e] [] cpos) pos) (fExtend i f) := by
  refine ⟨fun E E' s le h => ?_, fun hd' Z B O σ H s E D ok re h => tsW_of (ps_expr (pe_bm PySem.F.plainAttrs_list PySem.F.slot_list_extend PySem.F.type_list_extend mt_extend (pe_var hN hv hd hcd) (pa_cons peW pa_nil hs) hbase hfew hline hs hplain) hsw) ?_⟩
  · unfold fExtend at h ⊢
    split at h
    · refine he.mono _ _ _ (fun r s1 h1 => ?_) h
      split at h1
      · exact ⟨h1.1, le.1 _ h1.2⟩
      · exact h1.elim
    · exact h.elim
  · unfold fExtend at h
    split at h
    · rename_i ds e0
      obtain ⟨p, vs, hσ, hp, hlen, _⟩ := ok.grow e0
      refine ⟨_, hσ, .inl ⟨rfl, _, .inl (.inl hp)⟩, he.run hd' Z B O σ H s _ ok (he.mono _ _ _ (fun r s1 h1 v H1 k1 f1 r1 => ?_) h)⟩
      split at h1
      · rename_i es ed
        obtain ⟨b, zs, rfl, hb, rb⟩ := rs_list r1 ed
        obtain ⟨p', vs', hσ', hp', hlen', gr⟩ := k1.grow (i := i) (ds := ds) (by rw [gt_env f1.env]; exact e0)
        rw [hσ] at hσ'
        cases hσ'
        exact ⟨p, b, vs', zs, rfl, rfl, hp', hb, by rw [hlen', rb.length]; exact h1.1, re.nx _ _ _ _ h1.2 (gr zs es rb)⟩
      · exact h1.elim
    · exact h.elim
/-- the truth of a datum -/
def truD : PyData → Option Bool
  | .none => some false
  | .bool b => some b
  | .int i => some (i != 0)
  | .list ds => some (!ds.isEmpty)
  | .tuple ds => some (!ds.isEmpty)
  | _ => none
def fTru (f : FE) : FT := fun s Q => f s fun r s1 => match r.dat.bind truD with
  | some b => Q b s1
  | none => False
theorem emp_len {α β : Type} {a : List α} {b : List β} (h : a.length = b.length) : a.isEmpty = b.isEmpty := by
  cases a <;> cases b <;> first | rfl | simp at h
theorem xtTruth (h : XE L X e f) (he : ∀ whole, isTrue e X.env whole = (do let v ← whole; standAt e.pos; holding [v] (truthy v)) := by intro _; rfl) : XT L X e (fTru f) := by
  refine ⟨fun s Q Q' k q => h.mono _ _ _ (fun r s1 h1 => ?_) q, fun hd Z B O σ H s Q ok q => ttW_of (pt_truth peW he) (h.run hd Z B O σ H s _ ok (h.mono _ _ _ (fun r s1 h1 v H1 k1 f1 r1 => ?_) q))⟩
  · split at h1
    · exact k _ _ h1
    · exact h1.elim
  · split at h1
    · rename_i b hb
      obtain ⟨d, e1, e2⟩ := Option.bind_eq_some_iff.mp hb
      refine ⟨b, ?_, h1 H1 k1 f1⟩
      cases d with
      | list ds =>
        cases e2
        obtain ⟨p, vs, rfl, hp, rp⟩ := rs_list r1 e1
        exact .inl ⟨vs, SqL.of hp, by rw [emp_len rp.length]⟩
      | tuple ds =>
        cases e2
        cases dat_im e1 (fun _ z => by cases z)
        obtain ⟨p, vs, rfl, hp, rp⟩ := rs_tup r1
        exact .inr (.inl ⟨vs, hp, by rw [emp_len rp.length]⟩)
      | none => cases e2; cases dat_im e1 (fun _ z => by cases z); cases r1; rfl
      | bool c => cases e2; cases dat_im e1 (fun _ z => by cases z); cases r1; rfl
      | int i => cases e2; cases dat_im e1 (fun _ z => by cases z); cases r1; rfl
      | str y => cases e2
      | dict _ => cases e2
    · exact h1.elim
end
end DL

set_option maxRecDepth 100000
set_option maxHeartbeats 2000000
namespace Gd
open PySem PySem.Spec PyProof.Rows L2
/-! A def's promise where no repr is under way: what FnOk says, and besides that the stack of displays is known to be empty. -/
structure FnG (P : Program) (w : World) (K : PySem.W.Frag) (mg : Str → Option Value) (base : Heap) (CX : CXT) (k : Nat) (f : Addr) (fd : FuncData) (ps : List Str) (sp : Sp) : Prop where
  arity : ∀ vs H Q E, sp vs H Q E → vs.length = ps.length
  goes : ∀ (A : Around) (outer : List Env) (s : Shared) (H : Hp) (args : Args) (us : List Value) (vs : List V) (Q : VK) (E : XK), Room k A → A.guards = some [] →
    Env0 P w K mg base A outer s H → BindsTo s fd args (ps.zip us) → Vals vs us → sp vs H Q E → codeAny (model P w) A (.call (.ref f) args) (CR CX outer P w H s Q E) s
section
variable {P : Program} {w : World} {K : PySem.W.Frag} {mg : Str → Option Value} {base : Heap} {CX : CXT} {k : Nat} {f : Addr} {fd : FuncData} {ps : List Str} {sp : Sp}
theorem ofOk (F : FnOk P w K mg base CX k f fd ps sp) : FnG P w K mg base CX k f fd ps sp :=
  ⟨F.len, fun A outer s H args us vs Q E r _ e b v h => F.run A outer s H args us vs Q E r e b v h⟩
theorem bodyG {x qual : Str} {st : Stmt} {N : List Str} (F : Fun K x qual st f fd) (S : FnScope N ps (defScope st)) (ar : ∀ vs H Q E, sp vs H Q E → vs.length = ps.length)
    (hb : ∀ (cdv : Value) (A : Around) (outer : List Env) (s : Shared) (H : Hp) (vs : List V) (Q : VK) (E : XK), Room k (A.deeper (envOfC qual (defScope st) s.heap.objs.size f cdv)) →
      (cxOf CX P w K mg base N qual (defScope st) f cdv A outer s H E).A.guards = some [] → sp vs H Q E →
      ∃ t, PSs (cxOf CX P w K mg base N qual (defScope st) f cdv A outer s H E) (defBody st) t ∧ t { nx := fun _ H' => Q .non H', rt := Q } (start N vs) H) :
    FnG P w K mg base CX (k + 1) f fd ps sp := by
  obtain ⟨oc, od, kV, doc, pm, an, cdv, ct, osl, rfl, look, code⟩ := F.ex
  constructor
  · exact ar
  intro A outer s H args us vs Q E room gd env binds vals want
  have inK : K.In s.heap := env.mod.kin.keeps fun b o z => (env.bs b o z).1
  have noLim : s.heap.NoLimit := env.mod.nolimit.keeps fun b o z => (env.bs b o z).1
  have kinds : ∀ y ∈ ps.zip us, (defScope st).names.lookup y.1 = some .local ∨ ((defScope st).names.lookup y.1 = some .cell ∧ ((cellsFrom (s.heap.objs.size + 1) (defScope st).names []).lookup y.1).isSome = true) := by
    rintro ⟨n, v⟩ hy
    have z := S.par n (List.of_mem_zip hy).1
    exact z.imp (fun q => q) fun q => ⟨q, PySem.W.cellsFrom_some _ _ _ (.inl q)⟩
  apply codeAny_call_function room.depth (inK _ _ look) rfl S.co S.gen rfl (PySem.W.codeRec_of inK code)
  apply binds
  refine wpAny_newFunctionEnv_cells S.kind kinds fun ev hev s1 laid => ?_
  subst hev
  refine And.intro (noLim.keeps laid.toInCall.keep) (codeAny_func ?_)
  obtain ⟨t, ht, hq⟩ := hb cdv A outer s H vs Q E (room.deeper _) gd want
  have I := inv_start (CX := CX) (P := P) (w := w) (N := N) (E := E) S room.hd env (ar _ _ _ _ want) vals laid
  refine wpAny_mono (ht.run [] s1 (start N vs) H _ I hq) (fun fl s' out => ?_) fun e s' out => out
  match fl, out with
  | .ret u, ⟨v, σ', H', J, rv, q⟩ => exact ⟨v, H', J.os, J.bare, J.base, J.hok, rv, q⟩
  | .next, ⟨σ', H', J, q⟩ => exact ⟨V.non, H', J.os, J.bare, J.base, J.hok, rfl, q⟩
  | .brk, ⟨_, _, _, q⟩ => exact q.elim
  | .cont, ⟨_, _, _, q⟩ => exact q.elim
/-- the same for a def that no exception leaves -/
theorem bodyG0 {x qual : Str} {st : Stmt} {N : List Str} (F : Fun K x qual st f fd) (S : FnScope N ps (defScope st)) (ar : ∀ vs H Q E, sp vs H Q E → vs.length = ps.length)
    (hb : ∀ (cdv : Value) (A : Around) (outer : List Env) (s : Shared) (H : Hp) (vs : List V) (Q : VK) (E : XK), Room k (A.deeper (envOfC qual (defScope st) s.heap.objs.size f cdv)) →
      (cxOf CX0 P w K mg base N qual (defScope st) f cdv A outer s H E).nox.A.guards = some [] → sp vs H Q E →
      ∃ t, PSs (cxOf CX0 P w K mg base N qual (defScope st) f cdv A outer s H E).nox (defBody st) t ∧ t { nx := fun _ H' => Q .non H', rt := Q } (start N vs) H) :
    FnG P w K mg base CX0 (k + 1) f fd ps sp := by
  refine bodyG F S ar fun cdv A outer s H vs Q E room gd want => ?_
  obtain ⟨t, ht, hq⟩ := hb cdv A outer s H vs Q E room gd want
  exact ⟨t, ht.nox, hq⟩
end
section
variable {X : Cx} {CX : CXT} {k : Nat} {f : Addr} {fd : FuncData} {ps : List Str} {sp : Sp} {dvs : List V} {ds : List Value} {E : XK} {x : Str} {p pos : Pos} {e : Expr} {es : List Expr} {t : TA}
theorem runG {pins : List (Addr × Obj)} {σ : L2.St} {H : Hp} {s : Shared} {Q : VK} {us : List Value} {vs : List V} (F : FnG X.prog X.w X.K X.mg X.base CX k f fd ps sp) (room : Room k X.A) (gd : X.A.guards = some []) (bi : Binds X.K fd ps ds) (dv : Vals dvs ds)
    (px : Passes CX X E) (I : Inv X pins σ H s) (r : Vals vs us) (want : sp (vs ++ dvs) H Q E) : wpAny (model X.prog X.w) X.A (call (.ref f) us) (EP X pins σ Q) X.xe s := by
  have both := r.append dv
  have ll : (us ++ ds).length = ps.length := both.length.symm.trans (F.arity _ _ _ _ want)
  have run := F.goes X.A X.stack s H ⟨us, []⟩ _ _ Q E room gd I.env0 (bi s us I.kIn ll) both want
  refine wpAny_call (codeAny_mono run fun res s' out => ?_)
  match res, out with
  | .error er, out => exact px pins σ H s er s' I out
  | .ok (.ret u), out => exact I.after out
  | .ok .next, out => exact (show False from out).elim
  | .ok .brk, out => exact (show False from out).elim
  | .ok .cont, out => exact (show False from out).elim
/-- f(e, ..) -/
theorem pe_callG (F : FnG X.prog X.w X.K X.mg X.base CX k f fd ps sp) (room : Room k X.A) (gd : X.A.guards = some []) (hg : Gl X x) (hm : X.mg x = some (.ref f)) (kp : PySem.W.keepIn X.K (.ref f) = true) (bi : Binds X.K fd ps ds) (dv : Vals dvs ds)
    (px : Passes CX X E) (ha : PA X (e :: es) t) (n1 : (x == ("__debug__" : Str)) = false := by decide) (n2 : starEach (e :: es) X.env = (false, eval e X.env) :: starEach es X.env := by rfl)
    (n3 : (backTo pos (starEach es X.env)).any (·.1) = false := by rfl) : PE X (.Call (.Name x p) (e :: es) [] pos) (tCall sp dvs E t) := by
  constructor
  intro pins s σ H Q I want
  apply wpAny_Call_Name_kw
  apply ld_glob I hg hm _ n1
  apply PySem.W.callWith_K (h₀ := X.base) I.ok.mod.kin kp _ n2 n3
  exact thn (ha.run pos pins s σ H _ I want) fun us s1 ⟨vs, H1, I1, r, q⟩ => ⟨I1.kIn, runG F room gd bi dv px I1 r q⟩
/-- what stands in H under x, whatever the run, is the datum d -/
def Shown (P : Program) (w : World) (K : PySem.W.Frag) (H : Hp) (x : V) (d : PyData) : Prop := ∀ (X : Cx), X.prog = P → X.w = w → X.K = K → ∀ (pins : List (Addr × Obj)) (σ : L2.St) (s : Shared) (u : Value), Inv X pins σ H s → RelV x u → ∃ as, Reads s.heap u d as ∧ (d.hasDict = true → sysModules ∉ as)
theorem shown_dp {P : Program} {w : World} {K : PySem.W.Frag} {H : Hp} {x : V} {d : PyData} (h : Dp K H x d) (nd : d.hasDict = false) : Shown P w K H x d := fun X _ _ eK pins σ s u I r => by
  subst eK
  obtain ⟨as, q⟩ := Dp.reads I d x u h r
  exact ⟨as, q, fun z => by rw [nd] at z; cases z⟩
/-- repr(x) -/
def rShow (P : Program) (w : World) (K : PySem.W.Frag) : List V → Hp → VK → Prop := fun xs H Q => ∃ (x : V) (d : PyData), xs = [x] ∧ Shown P w K H x d ∧ d.showable = true ∧ d.depth ≤ 40 ∧ d.shown.length ≤ sizeLine ∧ Q (.str d.shown) H
theorem call_show (gd : X.A.guards = some []) (hu : X.A.units + 64 < cLine) : CallR X (.builtin "repr") (rShow X.prog X.w X.K) := by
  intro pins s σ H xs us Q I r h
  obtain ⟨x, d, rfl, hd, h1, h3, h4, q⟩ := h
  obtain ⟨u, rfl, rx⟩ := vals1 r
  obtain ⟨as, rd, hm⟩ := hd X rfl rfl rfl pins σ s u I rx
  have out : ∀ (h' : Heap) (u' : Tok) (tk : Nat), (∀ b o, s.heap.get? b = some o → h'.get? b = some o) → EP X pins σ Q (.str d.shown u') { s with heap := h', toks := tk } := fun h' u' tk kp =>
    ⟨.str d.shown, H, I.kept kp, ⟨u', rfl⟩, q⟩
  cases u with
  | ref a => exact repr_of_reads' rd h1 hm gd (by omega) (fun b o e => e) out h4
  | none => cases rd; exact PySem.P.repr_of_none (out s.heap _ _ fun _ _ e => e)
  | bool b => cases rd; exact PySem.P.repr_of_bool (out s.heap _ _ fun _ _ e => e)
  | int i t => cases rd; exact PySem.P.repr_of_int (of_decide_eq_true h1) (out s.heap _ _ fun _ _ e => e)
  | str z t => cases rd; exact PySem.P.repr_of_str (out s.heap _ _ fun _ _ e => e) h4
  | _ => cases rd
/-- the same within a comprehension -/
theorem call_showB {Y : Cx} {A0 : Around} {P : Program} {w : World} {K : PySem.W.Frag} (gd : A0.guards = some []) (hu : A0.units + 64 < cLine) (e1 : Y.A = A0) (e2 : Y.prog = P) (e3 : Y.w = w) (e4 : Y.K = K) : CallR Y (.builtin "repr") (rShow P w K) := by
  subst e1 e2 e3 e4
  exact call_show gd hu
/-- a dict of one text key and an int -/
theorem shown_dict1 {P : Program} {w : World} {K : PySem.W.Frag} {H : Hp} {a : Addr} {k : Str} {i : Int} (h : H a = some (.dK [(Sum.inr k, .int i)])) : Shown P w K H (.ref a) (.dict [(.str k, .int i)]) := fun X _ _ _ pins σ s u I r => by
  obtain rfl : u = Value.ref a := r
  obtain ⟨hz, hsys, vs, kv, o, es, ep, h1, h2, h3, h4, h5, h6⟩ := I.hok a _ h
  cases kv with
  | cons q r2 =>
    cases r2
    rename_i pr
    obtain ⟨pk, pv⟩ := pr
    obtain ⟨e1, t, e2⟩ := q
    dsimp only at e1 e2
    subst e1 e2
    have hes : ∃ e, es.toList = [e] ∧ keyIs (Sum.inr k) e.key = true ∧ e.val = .int i t := by
      cases hE : es.toList with
      | nil => rw [hE] at h5; cases h5
      | cons e rest =>
        rw [hE] at h5
        cases h5 with
        | cons p1 p2 p3 =>
          cases p3
          exact ⟨e, rfl, p1, p2⟩
    obtain ⟨e, hE, hk, hv⟩ := hes
    obtain ⟨tk, ek⟩ := Value.isStrOf_shape (x := k) (v := e.key) hk
    refine ⟨_, Reads.dict h1 h2.1 h3 (as := []) (bs := []) ?_ ?_, fun _ m => ?_⟩
    · rw [hE]
      show ReadsAll _ [e.key] _ _
      rw [ek]
      exact ReadsAll.cons (as := []) (bs := []) (Reads.str _ _) .nil
    · rw [hE]
      show ReadsAll _ [e.val] _ _
      rw [hv]
      exact ReadsAll.cons (as := []) (bs := []) (Reads.int _ _) .nil
    · have q : sysModules = a := by simpa using m
      rw [q] at hsys
      simp at hsys
end
/-! ### the law's own call: no display is under way there -/
section
variable {P : Program} {w : World} {K : PySem.W.Frag} {mg mb : Str → Option Value} {k : Nat} {fa a : Addr} {fd : FuncData} {x : Str} {sp : Sp} {s : Shared} {vs : List Value} {ns : List Int}
theorem lawG (inK : K.In s.heap) (gl : s.heap.Ns mainGlobals mg) (bl : s.heap.Ns builtinsNs mb) (blt : ∀ y : Str, y ≠ "__name__" → mb y = bootBuiltins y) (noLim : s.heap.NoLimit) (gens : s.gens = #[])
    (obj : s.heap.get? a = some { cls := .type "list", data := .seq vs.toArray }) (nums : IntsAre vs ns) (len : ns.length ≤ sizeLine) (room : Room k callerA)
    (F : ∀ base : Heap, K.In base → base.Ns mainGlobals mg → FnG P w K mg base CX0 k fa fd [x] sp) (bind : ∀ (s : Shared) (u : Value), BindsTo s fd ⟨[u], []⟩ [(x, u)])
    (want : ∀ H : Hp, SqL K H a (ns.map V.int) → sp [.ref a] H (fun v _ => v = .bl true) fun _ _ _ => False) :
    codeAny (model P w) callerA (.call (.ref fa) ⟨[.ref a], []⟩) (fun r s' => r = .ok (.ret (.bool true)) ∧ OldK s.heap s'.heap ∧ s'.os = s.os ∧ AllBare s'.gens) s := by
  have rel := vals_ints nums
  have main : ∀ H : Hp, SqL K H a (ns.map V.int) → HOk P w H s.heap → (∀ b u, H b = some u → b = a ∧ K.lookup a = none ∧ ∃ o xs, u = .frz o (.lst xs)) →
      codeAny (model P w) callerA (.call (.ref fa) ⟨[.ref a], []⟩) (fun r s' => r = .ok (.ret (.bool true)) ∧ OldK s.heap s'.heap ∧ s'.os = s.os ∧ AllBare s'.gens) s := by
    intro H sq ok only
    have isDict : ∀ {b : Addr} {o : Obj} {es : Array DictEntry} {n : Nat}, s.heap.get? b = some o → o.data = .dict es n → H b = none := by
      intro b o es n g d
      cases hb : H b with
      | none => rfl
      | some u =>
        obtain ⟨rfl, _, _⟩ := only b u hb
        rw [obj] at g
        cases g
        cases (show Data.seq vs.toArray _ = Data.dict es n from d)
    have ns' : ∀ {b : Addr} {m : Str → Option Value}, s.heap.Ns b m → (hidT s.heap H).Ns b m := fun ⟨o, es, n, g, d, r⟩ => ⟨o, es, n, hidT_get g (isDict g d), d, r⟩
    have inK' : K.In (hidT s.heap H) := fun b o g => hidT_get (inK b o g) (by
      cases hb : H b with
      | none => rfl
      | some u =>
        obtain ⟨rfl, q, _⟩ := only b u hb
        rw [q] at g
        cases g)
    obtain ⟨mc, c1, c2⟩ := noLim
    have env : Env0 P w K mg (hidT s.heap H) callerA [] s H := by
      constructor
      · rfl
      · exact ⟨inK', ns' gl, ⟨mb, ns' bl, blt⟩, ⟨mc, ns' c1, c2⟩⟩
      · exact fun b o g => of_hidT g
      · exact Nat.le_of_eq (hidT_size _ _)
      · trivial
      · intro b hb
        exact nomatch hb
      · exact ok
      · exact .of_eq gens
    have run := (F _ inK' (ns' gl)).goes callerA [] s H ⟨[.ref a], []⟩ [.ref a] [.ref a] _ _ room rfl env (bind s (.ref a)) (.cons rfl .nil) (want H sq)
    refine codeAny_mono run fun r s' out => ?_
    match r, out with
    | .error e, out => exact (show False from out).elim
    | .ok .next, out => exact (show False from out).elim
    | .ok .brk, out => exact (show False from out).elim
    | .ok .cont, out => exact (show False from out).elim
    | .ok (.ret u), ⟨v, H', os, bare, un, ok', rv, q⟩ =>
      subst q
      obtain rfl : u = Value.bool true := rv
      refine ⟨rfl, OldK.of_keep fun b o g => ?_, os, bare⟩
      cases hb : H b with
      | none => exact un.keep b o g hb (fun z => nomatch z) (fun z => nomatch z)
      | some u =>
        obtain ⟨_, _, ob, xs, rfl⟩ := only b u hb
        have g1 := (show s.heap.get? b = some ob from (ok b _ hb).1)
        have g2 := (show s'.heap.get? b = some ob from (ok' b _ (un.frzs b ob _ hb)).1)
        rw [g1] at g
        cases g
        exact g2
  cases hk : K.lookup a with
  | some o =>
    have g := inK a o hk
    rw [obj] at g
    cases g
    exact main (fun _ => none) (.inr ⟨_, vs.toArray, _, hk, rfl, rfl, rfl, by rw [List.size_toArray, nums.length]; exact len, by simpa using rel⟩) (fun b u z => nomatch z) fun b u z => nomatch z
  | none =>
    have at_a : ∀ {b : Addr} {u : HO}, (fun b => if b = a then some (HO.frz { cls := .type "list", data := .seq vs.toArray } (.lst (ns.map V.int))) else none) b = some u → b = a ∧ u = .frz { cls := .type "list", data := .seq vs.toArray } (.lst (ns.map V.int)) := by
      intro b u z
      dsimp only at z
      split at z
      · cases z
        exact ⟨by assumption, rfl⟩
      · cases z
    refine main (fun b => if b = a then some (.frz { cls := .type "list", data := .seq vs.toArray } (.lst (ns.map V.int))) else none) (.inl (.inr ⟨_, if_pos rfl⟩)) (fun b u z => ?_) fun b u z => ?_
    · obtain ⟨rfl, rfl⟩ := at_a z
      exact ⟨obj, by rw [List.length_map]; exact len, vs, _, rel, obj⟩
    · obtain ⟨rfl, rfl⟩ := at_a z
      exact ⟨rfl, hk, _, _, rfl⟩
/-- the end of a law's row -/
theorem walkG {l : PySem.W.OpenLaw} {n k : Nat} {q : Program} {loose : List Str} {XP : (Str → Option Value) → Heap → Prop} {YP : World → Heap → Prop} {d : DefRec} {K : Params → PySem.W.Frag} {sp : PySem.W.Frag → Sp} {x : Str}
    (most : l.most = some n) (small : n ≤ sizeLine) (noD : d.params.defaults = []) (room : Room k callerA) (inK : ∀ (w : World) (h : Heap), YP w h → (K w.params).In h)
    (F : ∀ (w : World) (mg : Str → Option Value) (fa : Addr) (h : Heap), (K w.params).In h → h.Ns mainGlobals mg → mg d.name = some (.ref fa) →
      ∃ fd : FuncData, (∀ (s : Shared) (u : Value), BindsTo s fd ⟨[u], []⟩ [(x, u)]) ∧ ∀ base : Heap, (K w.params).In base → base.Ns mainGlobals mg → FnG l.prog w (K w.params) mg base CX0 k fa fd [x] (sp (K w.params)))
    (want : ∀ (K : PySem.W.Frag) (H : Hp) (a : Addr) (ns : List Int), ns.length ≤ n → SqL K H a (ns.map V.int) → sp K [.ref a] H (fun v _ => v = .bl true) fun _ _ _ => False) :
    PySem.W.WalkO q loose XP YP l.row.toRowW d [] (fun f vs => PySem.call f vs) := by
  refine Att.attach_call most noD fun w s₀ s mg mb fa o pm cd doc a vs ns G Y _ _ _ named obj nums len gens => ?_
  have X := inK w _ Y
  obtain ⟨fd, bind, prom⟩ := F w mg fa _ X G.T.g named
  exact lawG X G.T.g G.T.b G.T.builtins G.T.nolimit gens obj nums (Nat.le_trans len small) room prom bind fun H sq => want _ H a ns len sq
end
end Gd

set_option maxRecDepth 100000
set_option maxHeartbeats 2000000
namespace DL
open PySem PySem.Spec PyProof.Rows L2
/-! ### what is computed where nothing is drawn -/
abbrev Env' := List (Option Ent)
abbrev CE := Env' → Option Ent
abbrev CT := Env' → Option Bool
abbrev CA := Env' → Option (List Ent)
abbrev CO := Env' → Option (Option Int)
abbrev CI := Env' → Option (List PyData)
abbrev CG := PyData → Env' → Option Env'
abbrev CGs := List PyData → Env' → Option Env'
abbrev C2 := Ent → Ent → Option Ent
abbrev CL := List Ent → Option Ent
abbrev CF := List Ent → Option Ent
inductive Out where
  | nx (e : Env')
  | rt (r : Ent)
  | bk (e : Env')
  | ct (e : Env')
abbrev CS := Env' → Option Out
def Out.to (E : EE) (n : Nat) : Out → Prop
  | .nx e => E.nx ⟨e, n⟩
  | .rt r => E.rt r n
  | .bk e => E.bk ⟨e, n⟩
  | .ct e => E.ct ⟨e, n⟩
class KE (f : FE) (c : CE) : Prop where
  run : ∀ env n r Q, c env = some r → Q r ⟨env, n⟩ → f ⟨env, n⟩ Q
class KT (f : FT) (c : CT) : Prop where
  run : ∀ env n b Q, c env = some b → Q b ⟨env, n⟩ → f ⟨env, n⟩ Q
class KA (f : FA) (c : CA) : Prop where
  run : ∀ env n rs Q, c env = some rs → Q rs ⟨env, n⟩ → f ⟨env, n⟩ Q
class KO (f : FO) (c : CO) : Prop where
  run : ∀ env n rs Q, c env = some rs → Q rs ⟨env, n⟩ → f ⟨env, n⟩ Q
class KI (f : FI) (c : CI) : Prop where
  run : ∀ env n rs Q, c env = some rs → Q rs ⟨env, n⟩ → f ⟨env, n⟩ Q
class KG (f : FG) (c : CG) : Prop where
  run : ∀ d env n e Q, c d env = some e → Q ⟨e, n⟩ → f d ⟨env, n⟩ Q
class KGs (f : FGs) (c : CGs) : Prop where
  run : ∀ d env n e Q, c d env = some e → Q ⟨e, n⟩ → f d ⟨env, n⟩ Q
class K2 (o : O2) (c : C2) : Prop where
  run : ∀ a b r Q, c a b = some r → Q r → o a b Q
class KL (o : OL) (c : CL) : Prop where
  run : ∀ rs r Q, c rs = some r → Q r → o rs Q
class KF (F : FF) (c : CF) : Prop where
  run : ∀ rs n r Q, c rs = some r → Q r n → F rs n Q
class KS (f : FS) (c : CS) : Prop where
  run : ∀ env n o E, c env = some o → o.to E n → f E ⟨env, n⟩

theorem bind_some' {α β : Type} {x : Option α} {f : α → Option β} {b : β} (h : x.bind f = some b) : ∃ a, x = some a ∧ f a = some b := by
  cases x with
  | none => cases h
  | some a => exact ⟨a, rfl, h⟩
def guardB {α : Type} (b : Bool) (x : Option α) : Option α := bif b then x else none
theorem guardB_some {α : Type} {b : Bool} {x : Option α} {a : α} (h : guardB b x = some a) : b = true ∧ x = some a := by
  cases b with
  | true => exact ⟨rfl, h⟩
  | false => cases h

section
variable {f fa fb fc : FE} {ca cb cc c : CE} {o o' : O2} {co co' : C2} {g ga gb : FT} {cg ca' cb' : CT}
/-! expressions -/
def cVar (i : Nat) : CE := fun env => (gt env i).map (asR i)
instance {i : Nat} : KE (fVar i) (cVar i) := ⟨fun env n r Q h q => by
  unfold cVar at h
  unfold fVar
  cases e : gt env i with
  | none => rw [e] at h; cases h
  | some x => rw [e] at h; cases h; simp only [e]; exact q⟩
def cK (d : PyData) : CE := fun _ => some (.im d)
instance {d : PyData} : KE (fK d) (cK d) := ⟨fun env n r Q h q => by cases h; exact q⟩
def c2 (o : C2) (ca cb : CE) : CE := fun env => (ca env).bind fun a => (cb env).bind fun b => o a b
instance [A : KE fa ca] [B : KE fb cb] [O : K2 o co] : KE (f2 o fa fb) (c2 co ca cb) := ⟨fun env n r Q h q => by
  obtain ⟨a, h1, h2⟩ := bind_some' h
  obtain ⟨b, h3, h4⟩ := bind_some' h2
  exact A.run _ _ _ _ h1 (B.run _ _ _ _ h3 (O.run _ _ _ _ h4 q))⟩
def bOf : Ent → Option Bool
  | .im (.bool b) => some b
  | _ => none
theorem isB_of {r : Ent} {b : Bool} {Q : Bool → Prop} (h : bOf r = some b) (q : Q b) : isB r Q := by
  unfold bOf at h
  split at h
  · cases h; exact q
  · cases h
def cB (c : CE) : CT := fun env => (c env).bind bOf
instance [A : KE fa ca] : KT (fB fa) (cB ca) := ⟨fun env n b Q h q => by
  obtain ⟨r, h1, h2⟩ := bind_some' h
  exact A.run _ _ _ _ h1 (isB_of h2 q)⟩
def cAnd (ca cb : CT) : CT := fun env => (ca env).bind fun b => bif b then cb env else some false
instance [A : KT ga ca'] [B : KT gb cb'] : KT (fAnd ga gb) (cAnd ca' cb') := ⟨fun env n b Q h q => by
  obtain ⟨x, h1, h2⟩ := bind_some' h
  refine A.run _ _ _ _ h1 ?_
  cases x with
  | true => exact B.run _ _ _ _ h2 q
  | false => cases h2; exact q⟩
def cOr (ca cb : CT) : CT := fun env => (ca env).bind fun b => bif b then some true else cb env
instance [A : KT ga ca'] [B : KT gb cb'] : KT (fOr ga gb) (cOr ca' cb') := ⟨fun env n b Q h q => by
  obtain ⟨x, h1, h2⟩ := bind_some' h
  refine A.run _ _ _ _ h1 ?_
  cases x with
  | true => cases h2; exact q
  | false => exact B.run _ _ _ _ h2 q⟩
def cNot (ca : CT) : CT := fun env => (ca env).map (!·)
instance [A : KT ga ca'] : KT (fNot ga) (cNot ca') := ⟨fun env n b Q h q => by
  unfold cNot at h
  cases e : ca' env with
  | none => rw [e] at h; cases h
  | some x => rw [e] at h; cases h; exact A.run _ _ _ _ e q⟩
def cAndV (ca cb : CE) : CE := fun env => (ca env).bind fun r => (bOf r).bind fun b => bif b then cb env else some (.im (.bool false))
instance [A : KE fa ca] [B : KE fb cb] : KE (fAndV fa fb) (cAndV ca cb) := ⟨fun env n b Q h q => by
  obtain ⟨x, h1, h2⟩ := bind_some' h
  obtain ⟨y, h3, h4⟩ := bind_some' h2
  refine A.run _ _ _ _ h1 (isB_of h3 ?_)
  cases y with
  | true => exact B.run _ _ _ _ h4 q
  | false => cases h4; exact q⟩
def cOrV (ca cb : CE) : CE := fun env => (ca env).bind fun r => (bOf r).bind fun b => bif b then some (.im (.bool true)) else cb env
instance [A : KE fa ca] [B : KE fb cb] : KE (fOrV fa fb) (cOrV ca cb) := ⟨fun env n b Q h q => by
  obtain ⟨x, h1, h2⟩ := bind_some' h
  obtain ⟨y, h3, h4⟩ := bind_some' h2
  refine A.run _ _ _ _ h1 (isB_of h3 ?_)
  cases y with
  | true => cases h4; exact q
  | false => exact B.run _ _ _ _ h4 q⟩
def cNotV (ca : CE) : CE := fun env => (ca env).bind fun r => (bOf r).map fun b => .im (.bool (!b))
instance [A : KE fa ca] : KE (fNotV fa) (cNotV ca) := ⟨fun env n r Q h q => by
  obtain ⟨x, h1, h2⟩ := bind_some' h
  cases e : bOf x with
  | none => rw [e] at h2; cases h2
  | some y => rw [e] at h2; cases h2; exact A.run _ _ _ _ h1 (isB_of e q)⟩
def cIf (g : CT) (ca cb : CE) : CE := fun env => (g env).bind fun b => bif b then ca env else cb env
instance [G : KT g cg] [A : KE fa ca] [B : KE fb cb] : KE (fIf g fa fb) (cIf cg ca cb) := ⟨fun env n r Q h q => by
  obtain ⟨x, h1, h2⟩ := bind_some' h
  refine G.run _ _ _ _ h1 ?_
  cases x with
  | true => exact A.run _ _ _ _ h2 q
  | false => exact B.run _ _ _ _ h2 q⟩
/-! argument lists, displays -/
def cNil : CA := fun _ => some []
instance : KA fNil cNil := ⟨fun env n r Q h q => by cases h; exact q⟩
def cCons (c : CE) (cs : CA) : CA := fun env => (c env).bind fun r => (cs env).map (r :: ·)
variable {fs : FA} {cs : CA}
instance [A : KE fa ca] [B : KA fs cs] : KA (fCons fa fs) (cCons ca cs) := ⟨fun env n r Q h q => by
  obtain ⟨x, h1, h2⟩ := bind_some' h
  cases e : cs env with
  | none => rw [e] at h2; cases h2
  | some y => rw [e] at h2; cases h2; exact A.run _ _ _ _ h1 (B.run _ _ _ _ e q)⟩
def keptL : List Ent → Option (List PyData)
  | [] => some []
  | .im d :: rs => (keptL rs).map (d :: ·)
  | .ow es :: rs => (keptL rs).map (.list es :: ·)
  | _ :: _ => none
theorem kepts_of : ∀ {rs : List Ent} {ds : List PyData} {Q : List PyData → Prop}, keptL rs = some ds → Q ds → kepts rs Q
  | [], _, _, h, q => by cases h; exact q
  | .im d :: rs, ds, Q, h, q => by
    cases e : keptL rs with
    | none => rw [keptL, e] at h; cases h
    | some y => rw [keptL, e] at h; cases h; exact kepts_of (Q := fun ds => Q (d :: ds)) e q
  | .ow es :: rs, ds, Q, h, q => by
    cases e : keptL rs with
    | none => rw [keptL, e] at h; cases h
    | some y => rw [keptL, e] at h; cases h; exact kepts_of (Q := fun ds => Q (.list es :: ds)) e q
  | .br _ _ :: _, _, _, h, _ => by cases h
  | .ob _ _ :: _, _, _, h, _ => by cases h
  | .dr :: _, _, _, h, _ => by cases h
def cTup (cs : CA) : CE := fun env => (cs env).bind fun rs => (keptL rs).map fun ds => .im (.tuple ds)
instance [B : KA fs cs] : KE (fTup fs) (cTup cs) := ⟨fun env n r Q h q => by
  obtain ⟨x, h1, h2⟩ := bind_some' h
  cases e : keptL x with
  | none => rw [e] at h2; cases h2
  | some y => rw [e] at h2; cases h2; exact B.run _ _ _ _ h1 (kepts_of e q)⟩
def cLst (cs : CA) : CE := fun env => (cs env).bind fun rs => (keptL rs).map fun ds => .ow ds
instance [B : KA fs cs] : KE (fLst fs) (cLst cs) := ⟨fun env n r Q h q => by
  obtain ⟨x, h1, h2⟩ := bind_some' h
  cases e : keptL x with
  | none => rw [e] at h2; cases h2
  | some y => rw [e] at h2; cases h2; exact B.run _ _ _ _ h1 (kepts_of e q)⟩
/-! operators -/
def kI (g : Int → Int → PyData) : C2
  | .im (.int i), .im (.int j) => some (.im (g i j))
  | _, _ => none
instance {g : Int → Int → PyData} : K2 (oI g) (kI g) := ⟨fun a b r Q h q => by
  unfold kI at h
  unfold oI
  split at h
  · cases h; exact q
  · cases h⟩
abbrev kLt : C2 := kI fun i j => .bool (decide (i < j))
abbrev kLe : C2 := kI fun i j => .bool (decide (i ≤ j))
abbrev kGt : C2 := kI fun i j => .bool (decide (j < i))
abbrev kGe : C2 := kI fun i j => .bool (decide (j ≤ i))
abbrev kSub : C2 := kI fun i j => .int (i - j)
def kMod : C2
  | .im (.int i), .im (.int j) => guardB (decide (0 < j)) (some (.im (.int (i % j))))
  | _, _ => none
instance : K2 oMod kMod := ⟨fun a b r Q h q => by
  unfold kMod at h
  unfold oMod oIc
  split at h
  · obtain ⟨h1, h2⟩ := guardB_some h
    cases h2
    exact ⟨of_decide_eq_true h1, q⟩
  · cases h⟩
def kEq (neg : Bool) : C2 := fun a b => match a.dat, b.dat with
  | some d, some e => guardB (twoS d e || (SeqAt.shaped d && SeqAt.shaped e)) (some (.im (.bool (neg != PyData.eqv d e))))
  | _, _ => none
instance {neg : Bool} : K2 (oEq neg) (kEq neg) := ⟨fun a b r Q h q => by
  unfold kEq at h
  unfold oEq
  split at h
  · rename_i ea eb
    try simp only [ea, eb]
    obtain ⟨h1, h2⟩ := guardB_some h
    cases h2
    rw [Bool.or_eq_true, Bool.and_eq_true] at h1
    exact ⟨h1, q⟩
  · cases h⟩
def kIn (neg : Bool) : C2 := fun a b => match a.dat, b.dat.bind items with
  | some d, some es => guardB (SeqAt.shaped d && SeqAt.shaped (.list es)) (some (.im (.bool (neg != es.any fun z => PyData.eqv z d))))
  | _, _ => none
instance {neg : Bool} : K2 (oIn neg) (kIn neg) := ⟨fun a b r Q h q => by
  unfold kIn at h
  unfold oIn
  split at h
  · rename_i ea eb
    try simp only [ea, eb]
    obtain ⟨h1, h2⟩ := guardB_some h
    cases h2
    rw [Bool.and_eq_true] at h1
    exact ⟨h1.1, h1.2, q⟩
  · cases h⟩
def kIs (neg : Bool) : C2
  | .im d, .im .none => some (.im (.bool (neg != isNonD d)))
  | .ow _, .im .none => some (.im (.bool neg))
  | .br _ _, .im .none => some (.im (.bool neg))
  | _, _ => none
instance {neg : Bool} : K2 (oIs neg) (kIs neg) := ⟨fun a b r Q h q => by
  unfold kIs at h
  unfold oIs
  split at h
  · cases h; exact q
  · cases h; exact q
  · cases h; exact q
  · cases h⟩
def kAdd : C2 := fun a b => match a.dat, b.dat with
  | some (.int i), some (.int j) => some (.im (.int (i + j)))
  | some (.list ds), some (.list es) => guardB (decide (ds.length + es.length ≤ sizeLine)) (some (.ow (ds ++ es)))
  | some (.tuple ds), some (.tuple es) => guardB (decide (ds.length + es.length ≤ sizeLine)) (some (.im (.tuple (ds ++ es))))
  | some (.str x), some (.str y) => guardB (decide (x.length + y.length ≤ sizeLine)) (some (.im (.str (x ++ y))))
  | _, _ => none
instance : K2 oAdd kAdd := ⟨fun a b r Q h q => by
  unfold kAdd at h
  unfold oAdd
  split at h
  · rename_i ea eb
    try simp only [ea, eb]
    cases h; exact q
  · rename_i ea eb
    try simp only [ea, eb]
    obtain ⟨h1, h2⟩ := guardB_some h
    cases h2
    exact ⟨of_decide_eq_true h1, q⟩
  · rename_i ea eb
    try simp only [ea, eb]
    obtain ⟨h1, h2⟩ := guardB_some h
    cases h2
    exact ⟨of_decide_eq_true h1, q⟩
  · rename_i ea eb
    try simp only [ea, eb]
    obtain ⟨h1, h2⟩ := guardB_some h
    cases h2
    exact ⟨of_decide_eq_true h1, q⟩
  · cases h⟩
instance (i j : Int) : Decidable (CMul i j) := by unfold CMul; exact inferInstance
def kMul : C2 := fun a b => match a.dat, b.dat with
  | some (.int i), some (.int j) => guardB (decide (CMul i j)) (some (.im (.int (i * j))))
  | some (.list ds), some (.int k) => guardB (decide (-(2 ^ 63) ≤ k ∧ k < 2 ^ 63 ∧ ds.length * k.toNat ≤ sizeLine)) (some (.ow (List.replicate k.toNat ds).flatten))
  | some (.tuple ds), some (.int k) => guardB (!ds.isEmpty && decide (1 ≤ k ∧ k ≤ 1000 ∧ ds.length ≤ 1000)) (some (.im (.tuple (List.replicate k.toNat ds).flatten)))
  | _, _ => none
instance : K2 oMul kMul := ⟨fun a b r Q h q => by
  unfold kMul at h
  unfold oMul
  split at h
  · rename_i ea eb
    try simp only [ea, eb]
    obtain ⟨h1, h2⟩ := guardB_some h
    cases h2
    exact ⟨of_decide_eq_true h1, q⟩
  · rename_i ea eb
    try simp only [ea, eb]
    obtain ⟨h1, h2⟩ := guardB_some h
    cases h2
    exact ⟨of_decide_eq_true h1, q⟩
  · rename_i ea eb
    try simp only [ea, eb]
    obtain ⟨h1, h2⟩ := guardB_some h
    cases h2
    rw [Bool.and_eq_true] at h1
    refine ⟨⟨fun z => ?_, of_decide_eq_true h1.2⟩, q⟩
    rw [z] at h1
    exact absurd h1.1 (by decide)
  · cases h⟩
def kIx : C2 := fun a b => match a.dat.bind items, b.dat with
  | some ds, some (.int k) => (atI ds k).map .im
  | _, _ => none
instance : K2 oIx kIx := ⟨fun a b r Q h q => by
  unfold kIx at h
  unfold oIx
  split at h
  · rename_i ds k ea eb
    obtain ⟨d, h1, h2⟩ := bind_some' ea
    rw [h1, eb]
    show gIx d (.int k) Q
    unfold gIx
    rw [h2]
    cases e : atI ds k with
    | none => rw [e] at h; cases h
    | some x => rw [e] at h; cases h; exact (by simpa [e] using q)
  · cases h⟩
/-! chains, calls -/
def cChain (o o' : C2) (ca cb cc : CE) : CE := fun env => (ca env).bind fun a => (cb env).bind fun b => (o a b).bind fun z => (bOf z).bind fun k => bif k then (cc env).bind fun c => o' b c else some (.im (.bool false))
instance [A : KE fa ca] [B : KE fb cb] [C : KE fc cc] [O : K2 o co] [O' : K2 o' co'] : KE (fChain o o' fa fb fc) (cChain co co' ca cb cc) := ⟨fun env n r Q h q => by
  obtain ⟨a, h1, h2⟩ := bind_some' h
  obtain ⟨b, h3, h4⟩ := bind_some' h2
  obtain ⟨z, h5, h6⟩ := bind_some' h4
  obtain ⟨k, h7, h8⟩ := bind_some' h6
  refine A.run _ _ _ _ h1 (B.run _ _ _ _ h3 (O.run _ _ _ _ h5 (isB_of h7 ?_)))
  cases k with
  | true =>
    obtain ⟨c, h9, h10⟩ := bind_some' h8
    exact C.run _ _ _ _ h9 (O'.run _ _ _ _ h10 q)
  | false => cases h8; exact q⟩
def cCall (o : CL) (cs : CA) : CE := fun env => (cs env).bind o
variable {ol : OL} {kl : CL}
instance [O : KL ol kl] [A : KA fs cs] : KE (fCall ol fs) (cCall kl cs) := ⟨fun env n r Q h q => by
  obtain ⟨x, h1, h2⟩ := bind_some' h
  exact A.run _ _ _ _ h1 (O.run _ _ _ h2 q)⟩
class KD (g : PyData → (Ent → Prop) → Prop) (k : PyData → Option Ent) : Prop where
  run : ∀ d r Q, k d = some r → Q r → g d Q
def k1 (k : PyData → Option Ent) : CL
  | [a] => a.dat.bind k
  | _ => none
instance {g : PyData → (Ent → Prop) → Prop} {k : PyData → Option Ent} [D : KD g k] : KL (o1 g) (k1 k) := ⟨fun rs r Q h q => by
  unfold k1 at h
  split at h
  · obtain ⟨d, h1, h2⟩ := bind_some' h
    unfold o1
    simp only [h1]
    exact D.run _ _ _ h2 q
  · cases h⟩
def kLen : PyData → Option Ent
  | .list es => some (.im (.int es.length))
  | .tuple es => some (.im (.int es.length))
  | .str x => guardB (decide (x.length ≤ sizeLine)) (some (.im (.int x.length)))
  | _ => none
instance : KD gLen kLen := ⟨fun d r Q h q => by
  unfold kLen at h
  unfold gLen
  split at h
  · cases h; exact q
  · cases h; exact q
  · obtain ⟨h1, h2⟩ := guardB_some h
    cases h2
    exact ⟨of_decide_eq_true h1, q⟩
  · cases h⟩
def kSum : PyData → Option Ent
  | .list es => (intsD es).map fun ns => .im (.int ns.sum)
  | _ => none
instance : KD gSum kSum := ⟨fun d r Q h q => by
  unfold kSum at h
  unfold gSum
  split at h
  · rename_i es
    cases e : intsD es with
    | none => rw [e] at h; cases h
    | some x => rw [e] at h; cases h; simp only [e]; exact q
  · cases h⟩
def kAny : PyData → Option Ent
  | .list es => (boolsD es).map fun ns => .im (.bool (ns.any id))
  | _ => none
instance : KD gAny kAny := ⟨fun d r Q h q => by
  unfold kAny at h
  unfold gAny
  split at h
  · rename_i es
    cases e : boolsD es with
    | none => rw [e] at h; cases h
    | some x => rw [e] at h; cases h; simp only [e]; exact q
  · cases h⟩
def kAll : PyData → Option Ent
  | .list es => (boolsD es).map fun ns => .im (.bool (ns.all id))
  | _ => none
instance : KD gAll kAll := ⟨fun d r Q h q => by
  unfold kAll at h
  unfold gAll
  split at h
  · rename_i es
    cases e : boolsD es with
    | none => rw [e] at h; cases h
    | some x => rw [e] at h; cases h; simp only [e]; exact q
  · cases h⟩
def kTuple : PyData → Option Ent
  | .list es => some (.im (.tuple es))
  | .tuple es => some (.im (.tuple es))
  | _ => none
instance : KD gTuple kTuple := ⟨fun d r Q h q => by
  unfold kTuple at h
  unfold gTuple
  split at h <;> cases h <;> exact q⟩
def kList : PyData → Option Ent
  | .list es => some (.ow es)
  | .tuple es => some (.ow es)
  | _ => none
instance : KD gList kList := ⟨fun d r Q h q => by
  unfold kList at h
  unfold gList
  split at h <;> cases h <;> exact q⟩
def cIs (t : PyData → Bool) (c : CE) : CE := fun env => (c env).bind fun r => r.dat.map fun d => .im (.bool (t d))
instance {t : PyData → Bool} [A : KE fa ca] : KE (fIs t fa) (cIs t ca) := ⟨fun env n r Q h q => by
  obtain ⟨x, h1, h2⟩ := bind_some' h
  refine A.run _ _ _ _ h1 ?_
  cases e : x.dat with
  | none => rw [e] at h2; cases h2
  | some d => rw [e] at h2; cases h2; exact q⟩
/-! indices, slices -/
def cNoPart : CO := fun _ => some none
instance : KO fNoPart cNoPart := ⟨fun env n r Q h q => by cases h; exact q⟩
def iOf : Ent → Option Int
  | .im (.int i) => some i
  | _ => none
theorem isI_of {r : Ent} {b : Int} {Q : Int → Prop} (h : iOf r = some b) (q : Q b) : isI r Q := by
  unfold iOf at h
  split at h
  · cases h; exact q
  · cases h
def cPart (c : CE) : CO := fun env => (c env).bind fun r => (iOf r).map some
instance [A : KE fa ca] : KO (fPart fa) (cPart ca) := ⟨fun env n r Q h q => by
  obtain ⟨x, h1, h2⟩ := bind_some' h
  cases e : iOf x with
  | none => rw [e] at h2; cases h2
  | some d => rw [e] at h2; cases h2; exact A.run _ _ _ _ h1 (isI_of e q)⟩
def kSl (d : PyData) (lo hi : Option Int) : Option Ent := match d with
  | .list ds => some (.ow (cutD ds lo hi))
  | .tuple ds => some (.im (.tuple (cutD ds lo hi)))
  | _ => none
def cSl (c : CE) (cl ch : CO) : CE := fun env => (c env).bind fun r => (cl env).bind fun lo => (ch env).bind fun hi => r.dat.bind fun d => kSl d lo hi
instance {fl fh : FO} {cl ch : CO} [A : KE fa ca] [B : KO fl cl] [C : KO fh ch] : KE (fSl fa fl fh) (cSl ca cl ch) := ⟨fun env n r Q h q => by
  obtain ⟨x, h1, h2⟩ := bind_some' h
  obtain ⟨lo, h3, h4⟩ := bind_some' h2
  obtain ⟨hi, h5, h6⟩ := bind_some' h4
  obtain ⟨d, h7, h8⟩ := bind_some' h6
  refine A.run _ _ _ _ h1 (B.run _ _ _ _ h3 (C.run _ _ _ _ h5 ?_))
  simp only [h7]
  unfold kSl at h8
  unfold gSl
  split at h8 <;> cases h8 <;> exact q⟩
/-! calls of defs -/
def argsL : List Ent → Option (List Ent)
  | [] => some []
  | .im d :: rs => (argsL rs).map (.im d :: ·)
  | .ow ds :: rs => (argsL rs).map (.im (.list ds) :: ·)
  | .ob t d :: rs => (argsL rs).map (.ob t d :: ·)
  | .dr :: rs => (argsL rs).map (.dr :: ·)
  | .br _ _ :: _ => none
theorem argsOf_of : ∀ {rs es : List Ent} {Q : List Ent → Prop}, argsL rs = some es → Q es → argsOf rs Q
  | [], _, _, h, q => by cases h; exact q
  | .im d :: rs, ds, Q, h, q => by
    cases e : argsL rs with
    | none => rw [argsL, e] at h; cases h
    | some y => rw [argsL, e] at h; cases h; exact argsOf_of (Q := fun ds => Q (.im d :: ds)) e q
  | .ow d :: rs, ds, Q, h, q => by
    cases e : argsL rs with
    | none => rw [argsL, e] at h; cases h
    | some y => rw [argsL, e] at h; cases h; exact argsOf_of (Q := fun ds => Q (.im (.list d) :: ds)) e q
  | .ob t d :: rs, ds, Q, h, q => by
    cases e : argsL rs with
    | none => rw [argsL, e] at h; cases h
    | some y => rw [argsL, e] at h; cases h; exact argsOf_of (Q := fun ds => Q (.ob t d :: ds)) e q
  | .dr :: rs, ds, Q, h, q => by
    cases e : argsL rs with
    | none => rw [argsL, e] at h; cases h
    | some y => rw [argsL, e] at h; cases h; exact argsOf_of (Q := fun ds => Q (.dr :: ds)) e q
  | .br _ _ :: _, _, _, h, _ => by cases h
def cFn (F : CF) (cs : CA) : CE := fun env => (cs env).bind fun rs => (argsL rs).bind F
variable {F : FF} {CFn : CF}
instance [G : KF F CFn] [A : KA fs cs] : KE (fFn F fs) (cFn CFn cs) := ⟨fun env n r Q h q => by
  obtain ⟨x, h1, h2⟩ := bind_some' h
  obtain ⟨y, h3, h4⟩ := bind_some' h2
  exact A.run _ _ _ _ h1 (argsOf_of h3 (G.run _ _ _ _ h4 q))⟩
/-! statements -/
def plainL : Ent → Option Ent
  | .im d => some (.im d)
  | .ow ds => some (.im (.list ds))
  | .ob t d => some (.ob t d)
  | .dr => some .dr
  | .br _ _ => none
theorem plainR_of {r e : Ent} {Q : Ent → Prop} (h : plainL r = some e) (q : Q e) : plainR r Q := by
  cases r <;> cases h <;> exact q
def cSet (i : Nat) (c : CE) : CS := fun env => (c env).bind fun r => (plainL r).map fun e => .nx (pt env i (some e))
instance {i : Nat} [A : KE fa ca] : KS (fSet i fa) (cSet i ca) := ⟨fun env n o E h q => by
  obtain ⟨x, h1, h2⟩ := bind_some' h
  cases e : plainL x with
  | none => rw [e] at h2; cases h2
  | some d => rw [e] at h2; cases h2; exact A.run _ _ _ _ h1 (plainR_of e q)⟩
def owL : Ent → Option (List PyData)
  | .ow ds => some ds
  | _ => none
theorem ownR_of {r : Ent} {ds : List PyData} {Q : List PyData → Prop} (h : owL r = some ds) (q : Q ds) : ownR r Q := by
  cases r <;> cases h <;> exact q
def cSetO (i : Nat) (c : CE) : CS := fun env => (c env).bind fun r => (owL r).map fun ds => .nx (pt env i (some (.ow ds)))
instance {i : Nat} [A : KE fa ca] : KS (fSetO i fa) (cSetO i ca) := ⟨fun env n o E h q => by
  obtain ⟨x, h1, h2⟩ := bind_some' h
  cases e : owL x with
  | none => rw [e] at h2; cases h2
  | some d => rw [e] at h2; cases h2; exact A.run _ _ _ _ h1 (ownR_of e q)⟩
end
end DL

set_option maxRecDepth 100000
set_option maxHeartbeats 2000000
namespace DL
open PySem PySem.Spec PyProof.Rows L2
section
variable {f fa fb fc : FE} {ca cb cc c : CE} {g g' gs : FS} {cg cg' cgs : CS} {t : FT} {ct : CT} {fs : FA} {cs : CA}
theorem Out.to_nx {E : EE} {n : Nat} {G : S → Prop} {o : Out} {gs' : Env' → Option Out} {o' : Out} (h : (match o with | .nx e => gs' e | x => some x) = some o') (q : o'.to E n)
    (k : ∀ e, gs' e = some o' → G ⟨e, n⟩) : o.to { E with nx := G } n := by
  cases o with
  | nx e => exact k e h
  | rt r => cases h; exact q
  | bk e => cases h; exact q
  | ct e => cases h; exact q
def cRet (c : CE) : CS := fun env => (c env).map fun r => .rt (match r with | .br _ ds => .ow ds | x => x)
instance [A : KE fa ca] : KS (fRet fa) (cRet ca) := ⟨fun env n o E h q => by
  unfold cRet at h
  cases e : ca env with
  | none => rw [e] at h; cases h
  | some r =>
    rw [e] at h
    cases h
    refine A.run _ _ _ _ e ?_
    cases r <;> exact q⟩
def cRetN : CS := fun _ => some (.rt (.im .none))
instance : KS fRetN cRetN := ⟨fun env n o E h q => by cases h; exact q⟩
def cSkip : CS := fun env => some (.nx env)
instance : KS fSkip cSkip := ⟨fun env n o E h q => by cases h; exact q⟩
def seqO (o : Option Out) (g : CS) : Option Out := o.bind fun o => match o with | .nx e => g e | x => some x
def cSeq (a b : CS) : CS := fun env => seqO (a env) b
instance [A : KS g cg] [B : KS gs cgs] : KS (fSeq g gs) (cSeq cg cgs) := ⟨fun env n o E h q => by
  obtain ⟨x, h1, h2⟩ := bind_some' h
  exact A.run _ _ _ _ h1 (Out.to_nx h2 q fun e h3 => B.run _ _ _ _ h3 q)⟩
def cIfS (t : CT) (a b : CS) : CS := fun env => (t env).bind fun x => bif x then a env else b env
instance [T : KT t ct] [A : KS g cg] [B : KS g' cg'] : KS (fIfS t g g') (cIfS ct cg cg') := ⟨fun env n o E h q => by
  obtain ⟨x, h1, h2⟩ := bind_some' h
  refine T.run _ _ _ _ h1 ?_
  cases x with
  | true => exact A.run _ _ _ _ h2 q
  | false => exact B.run _ _ _ _ h2 q⟩
def cFreeze (i : Nat) (a : CS) : CS := fun env => match gt env i with
  | some (.ow ds) => a (pt env i (some (.im (.list ds))))
  | some (.im _) => a env
  | _ => none
instance {i : Nat} [A : KS g cg] : KS (fFreeze i g) (cFreeze i cg) := ⟨fun env n o E h q => by
  unfold cFreeze at h
  unfold fFreeze
  split at h
  · rename_i e; simp only [e]; exact A.run _ _ _ _ h q
  · rename_i e; simp only [e]; exact A.run _ _ _ _ h q
  · cases h⟩
def cAppend (i : Nat) (c : CE) : CS := fun env => match gt env i with
  | some (.ow ds) => (c env).bind fun r => r.kept.bind fun d => guardB (decide (ds.length < sizeLine)) (some (.nx (pt env i (some (.ow (ds ++ [d]))))))
  | _ => none
instance {i : Nat} [A : KE fa ca] : KS (fAppend i fa) (cAppend i ca) := ⟨fun env n o E h q => by
  unfold cAppend at h
  unfold fAppend
  split at h
  · rename_i ds e
    simp only [e]
    obtain ⟨r, h1, h2⟩ := bind_some' h
    obtain ⟨d, h3, h4⟩ := bind_some' h2
    obtain ⟨h5, h6⟩ := guardB_some h4
    cases h6
    refine A.run _ _ _ _ h1 ?_
    simp only [h3]
    exact ⟨of_decide_eq_true h5, q⟩
  · cases h⟩
def cExtend (i : Nat) (c : CE) : CS := fun env => match gt env i with
  | some (.ow ds) => (c env).bind fun r => match r.dat with
    | some (.list es) => guardB (decide (ds.length + es.length ≤ sizeLine)) (some (.nx (pt env i (some (.ow (ds ++ es))))))
    | _ => none
  | _ => none
instance {i : Nat} [A : KE fa ca] : KS (fExtend i fa) (cExtend i ca) := ⟨fun env n o E h q => by
  unfold cExtend at h
  unfold fExtend
  split at h
  · rename_i ds e
    simp only [e]
    obtain ⟨r, h1, h2⟩ := bind_some' h
    refine A.run _ _ _ _ h1 ?_
    split at h2
    · rename_i es e2
      obtain ⟨h5, h6⟩ := guardB_some h2
      cases h6
      simp only [e2]
      exact ⟨of_decide_eq_true h5, q⟩
    · cases h2
  · cases h⟩
/-! targets -/
def cgN (i : Nat) : CG := fun d env => some (pt env i (some (.im d)))
instance {i : Nat} : KG (gN i) (cgN i) := ⟨fun d env n o Q h q => by cases h; exact q⟩
def cgsNil : CGs := fun ds env => match ds with
  | [] => some env
  | _ => none
instance : KGs gsNil cgsNil := ⟨fun ds env n o Q h q => by
  cases ds with
  | nil => cases h; exact q
  | cons d r => cases h⟩
def cgsCons (g : CG) (gs : CGs) : CGs := fun ds env => match ds with
  | d :: r => (g d env).bind fun e => gs r e
  | [] => none
variable {tg : FG} {tgs : FGs} {kg : CG} {kgs : CGs}
instance [A : KG tg kg] [B : KGs tgs kgs] : KGs (gsCons tg tgs) (cgsCons kg kgs) := ⟨fun ds env n o Q h q => by
  cases ds with
  | nil => cases h
  | cons d r =>
    obtain ⟨x, h1, h2⟩ := bind_some' h
    exact A.run _ _ _ _ _ h1 (B.run _ _ _ _ _ h2 q)⟩
def cgTup (m : Nat) (gs : CGs) : CG := fun d env => match d with
  | .tuple ds => guardB (ds.length == m) (gs ds env)
  | _ => none
instance {m : Nat} [B : KGs tgs kgs] : KG (gTup m tgs) (cgTup m kgs) := ⟨fun d env n o Q h q => by
  unfold cgTup at h
  unfold gTup
  split at h
  · obtain ⟨h1, h2⟩ := guardB_some h
    exact ⟨by simpa using h1, B.run _ _ _ _ _ h2 q⟩
  · cases h⟩
def cAsg (g : CG) (c : CE) : CS := fun env => (c env).bind fun r => r.kept.bind fun d => (g d env).map .nx
instance [B : KG tg kg] [A : KE fa ca] : KS (fAsg tg fa) (cAsg kg ca) := ⟨fun env n o E h q => by
  obtain ⟨r, h1, h2⟩ := bind_some' h
  obtain ⟨d, h3, h4⟩ := bind_some' h2
  refine A.run _ _ _ _ h1 ?_
  simp only [h3]
  cases e : kg d env with
  | none => rw [e] at h4; cases h4
  | some x => rw [e] at h4; cases h4; exact B.run _ _ _ _ _ e q⟩
/-! what is walked -/
def cItL (b : Bool) (c : CE) : CI := fun env => (c env).bind fun r => match r with
  | .im (.list ds) => some ds
  | .ow ds => some ds
  | .br _ ds => guardB b (some ds)
  | _ => none
instance {b : Bool} [A : KE fa ca] : KI (fItL b fa) (cItL b ca) := ⟨fun env n o Q h q => by
  obtain ⟨r, h1, h2⟩ := bind_some' h
  refine A.run _ _ _ _ h1 ?_
  split at h2
  · cases h2; exact q
  · cases h2; exact q
  · obtain ⟨h3, h4⟩ := guardB_some h2; cases h4; exact ⟨h3, q⟩
  · cases h2⟩
def cItT (c : CE) : CI := fun env => (c env).bind fun r => match r with
  | .im (.tuple ds) => some ds
  | _ => none
instance [A : KE fa ca] : KI (fItT fa) (cItT ca) := ⟨fun env n o Q h q => by
  obtain ⟨r, h1, h2⟩ := bind_some' h
  refine A.run _ _ _ _ h1 ?_
  split at h2
  · cases h2; exact q
  · cases h2⟩
def cRng1 (cs : CA) : CI := fun env => (cs env).bind fun rs => match rs with
  | [r] => (iOf r).bind fun j => guardB (decide (-(2 ^ 62) ≤ j ∧ j < 2 ^ 62 ∧ j.toNat ≤ sizeLine)) (some (rngD 0 j.toNat))
  | _ => none
instance [A : KA fs cs] : KI (fRng1 fs) (cRng1 cs) := ⟨fun env n o Q h q => by
  obtain ⟨r, h1, h2⟩ := bind_some' h
  refine A.run _ _ _ _ h1 ?_
  split at h2
  · obtain ⟨j, h3, h4⟩ := bind_some' h2
    obtain ⟨h5, h6⟩ := guardB_some h4
    cases h6
    exact isI_of h3 ⟨of_decide_eq_true h5, q⟩
  · cases h2⟩
def cRng2 (cs : CA) : CI := fun env => (cs env).bind fun rs => match rs with
  | [r, r'] => (iOf r).bind fun i => (iOf r').bind fun j => guardB (decide ((-(2 ^ 62) ≤ i ∧ i < 2 ^ 62 ∧ -(2 ^ 62) ≤ j ∧ j < 2 ^ 62) ∧ (j - i).toNat ≤ sizeLine)) (some (rngD i (j - i).toNat))
  | _ => none
instance [A : KA fs cs] : KI (fRng2 fs) (cRng2 cs) := ⟨fun env n o Q h q => by
  obtain ⟨r, h1, h2⟩ := bind_some' h
  refine A.run _ _ _ _ h1 ?_
  split at h2
  · obtain ⟨i, h3, h4⟩ := bind_some' h2
    obtain ⟨j, h5, h6⟩ := bind_some' h4
    obtain ⟨h7, h8⟩ := guardB_some h6
    cases h8
    exact isI_of h3 (isI_of h5 ⟨of_decide_eq_true h7, q⟩)
  · cases h2⟩
def cEnum (b : Bool) (c : CE) : CI := fun env => (c env).bind fun r => match r with
  | .im (.list ds) => some (enumD 0 ds)
  | .im (.tuple ds) => some (enumD 0 ds)
  | .ow ds => some (enumD 0 ds)
  | .br _ ds => guardB b (some (enumD 0 ds))
  | _ => none
instance {b : Bool} [A : KE fa ca] : KI (fEnum b fa) (cEnum b ca) := ⟨fun env n o Q h q => by
  obtain ⟨r, h1, h2⟩ := bind_some' h
  refine A.run _ _ _ _ h1 ?_
  split at h2
  · cases h2; exact q
  · cases h2; exact q
  · cases h2; exact q
  · obtain ⟨h3, h4⟩ := guardB_some h2; cases h4; exact ⟨h3, q⟩
  · cases h2⟩
/-! loops -/
def cForGo (g : CG) (b : CS) : List PyData → CS
  | [], env => some (.nx env)
  | d :: r, env => (g d env).bind fun e1 => (b e1).bind fun o => match o with
    | .nx e => cForGo g b r e
    | .ct e => cForGo g b r e
    | .bk e => some (.nx e)
    | .rt v => some (.rt v)
def cFor (ci : CI) (g : CG) (b : CS) : CS := fun env => (ci env).bind fun ds => cForGo g b ds env
variable {fi : FI} {ci : CI}
theorem forGo_run [A : KG tg kg] [B : KS g cg] : ∀ (ds : List PyData) (env : Env') (n : Nat) (o : Out) (E : EE), cForGo kg cg ds env = some o → o.to E n → forGo tg g ds E ⟨env, n⟩
  | [], env, n, o, E, h, q => by cases h; exact q
  | d :: ds, env, n, o, E, h, q => by
    rw [cForGo] at h
    obtain ⟨e1, h1, h2⟩ := bind_some' h
    obtain ⟨x, h3, h4⟩ := bind_some' h2
    rw [forGo]
    refine A.run _ _ _ _ _ h1 (B.run _ _ _ _ h3 ?_)
    cases x with
    | nx e => exact forGo_run ds _ _ _ _ h4 q
    | ct e => exact forGo_run ds _ _ _ _ h4 q
    | bk e => cases h4; exact q
    | rt v => cases h4; exact q
instance [I : KI fi ci] [A : KG tg kg] [B : KS g cg] : KS (fFor fi tg g) (cFor ci kg cg) := ⟨fun env n o E h q => by
  obtain ⟨ds, h1, h2⟩ := bind_some' h
  exact I.run _ _ _ _ h1 (forGo_run ds _ _ _ _ h2 q)⟩
/-- one item of a comprehension: none of it, or what it becomes -/
def cLcOne (g : CG) (t : CT) (c : CE) (env : Env') (d : PyData) : Option (Option PyData) :=
  (g d env).bind fun e1 => (t e1).bind fun b => bif b then (c e1).bind fun r => r.kept.map some else some none
def cLcGo (g : CG) (t : CT) (c : CE) (env : Env') : List PyData → Option (List PyData)
  | [] => some []
  | d :: ds => (cLcOne g t c env d).bind fun x => (cLcGo g t c env ds).map fun l => match x with
    | some y => y :: l
    | none => l
theorem lcGo_run [A : KG tg kg] [T : KT t ct] [B : KE f c] : ∀ (ds acc : List PyData) (env : Env') (n : Nat) (l : List PyData) (Q : List PyData → Nat → Prop), cLcGo kg ct c env ds = some l → Q (acc ++ l) n → lcGo tg t f ds acc ⟨env, n⟩ Q
  | [], acc, env, n, l, Q, h, q => by cases h; rw [List.append_nil] at q; exact q
  | d :: ds, acc, env, n, l, Q, h, q => by
    rw [cLcGo] at h
    obtain ⟨x, h1, h2⟩ := bind_some' h
    obtain ⟨e1, h3, h4⟩ := bind_some' h1
    obtain ⟨b, h5, h6⟩ := bind_some' h4
    rw [lcGo]
    refine A.run _ _ _ _ _ h3 (T.run _ _ _ _ h5 ?_)
    cases el : cLcGo kg ct c env ds with
    | none => rw [el] at h2; cases h2
    | some l' =>
      rw [el] at h2
      cases b with
      | true =>
        obtain ⟨r, h7, h8⟩ := bind_some' h6
        refine B.run _ _ _ _ h7 ?_
        cases er : r.kept with
        | none => rw [er] at h8; cases h8
        | some y =>
          rw [er] at h8
          cases h8
          cases h2
          exact lcGo_run ds _ _ _ l' _ el (by rw [List.append_assoc]; exact q)
      | false =>
        cases h6
        cases h2
        exact lcGo_run ds _ _ _ l' _ el q
def cLc (ci : CI) (g : CG) (t : CT) (c : CE) (vs : List Nat) : CE := fun env => (ci env).bind fun ds => (cLcGo g t c (wipeE env vs) ds).map .ow
instance {vs : List Nat} [I : KI fi ci] [A : KG tg kg] [T : KT t ct] [B : KE f c] : KE (fLc fi tg t f vs) (cLc ci kg ct c vs) := ⟨fun env n o Q h q => by
  obtain ⟨ds, h1, h2⟩ := bind_some' h
  refine I.run _ _ _ _ h1 ?_
  cases e : cLcGo kg ct c (wipeE env vs) ds with
  | none => rw [e] at h2; cases h2
  | some l => rw [e] at h2; cases h2; exact lcGo_run ds [] _ n l _ e q⟩
def cYes : CT := fun _ => some true
instance : KT fYes cYes := ⟨fun env n b Q h q => by cases h; exact q⟩
/-! defs -/
def cRun (nN np : Nat) (g : CS) : CF := fun es => guardB (es.length == np) ((g (es.map some ++ List.replicate (nN - np) none)).bind fun o => match o with
  | .nx _ => some (.im .none)
  | .rt r => some r
  | _ => none)
instance {nN np : Nat} [A : KS g cg] : KF (runF nN np g) (cRun nN np cg) := ⟨fun es n r Q h q => by
  obtain ⟨h1, h2⟩ := guardB_some h
  obtain ⟨o, h3, h4⟩ := bind_some' h2
  refine ⟨by simpa using h1, A.run _ _ _ _ h3 ?_⟩
  cases o with
  | nx e => cases h4; exact q
  | rt r => cases h4; exact q
  | bk e => cases h4
  | ct e => cases h4⟩
/-! the rest -/
def cStar (c : CE) (cs : CA) : CA := fun env => (c env).bind fun r => (r.dat.bind items).bind fun ds => guardB (decide (ds.length ≤ 1000)) ((cs env).map (ds.map Ent.im ++ ·))
instance [A : KE fa ca] [B : KA fs cs] : KA (fStar fa fs) (cStar ca cs) := ⟨fun env n o Q h q => by
  obtain ⟨r, h1, h2⟩ := bind_some' h
  obtain ⟨ds, h3, h4⟩ := bind_some' h2
  obtain ⟨h5, h6⟩ := guardB_some h4
  refine A.run _ _ _ _ h1 ?_
  simp only [h3]
  cases e : cs env with
  | none => rw [e] at h6; cases h6
  | some l => rw [e] at h6; cases h6; exact ⟨of_decide_eq_true h5, B.run _ _ _ _ e q⟩⟩
def cExpr (c : CE) : CS := fun env => (c env).map fun _ => .nx env
instance [A : KE fa ca] : KS (fExpr fa) (cExpr ca) := ⟨fun env n o E h q => by
  unfold cExpr at h
  cases e : ca env with
  | none => rw [e] at h; cases h
  | some r => rw [e] at h; cases h; exact A.run _ _ _ _ e q⟩
def cAug (i : Nat) (g : Int → Int → Int) (c : CE) : CS := fun env => match gt env i with
  | some (.im (.int a)) => (c env).bind fun r => (iOf r).map fun b => .nx (pt env i (some (.im (.int (g a b)))))
  | _ => none
instance {i : Nat} {g : Int → Int → Int} [A : KE fa ca] : KS (fAug i g fa) (cAug i g ca) := ⟨fun env n o E h q => by
  unfold cAug at h
  unfold fAug
  split at h
  · rename_i a e
    simp only [e]
    obtain ⟨r, h1, h2⟩ := bind_some' h
    refine A.run _ _ _ _ h1 ?_
    cases ei : iOf r with
    | none => rw [ei] at h2; cases h2
    | some b => rw [ei] at h2; cases h2; exact isI_of ei q
  · cases h⟩
def kDGet : C2 := fun a b => match a, b with
  | .im (.dict ps), .im kd => (keyOf kd).bind fun k => (dgetP ps k).map .im
  | _, _ => none
instance : K2 oDGet kDGet := ⟨fun a b r Q h q => by
  unfold kDGet at h
  split at h
  · obtain ⟨k, h1, h2⟩ := bind_some' h
    rename_i ps kd
    cases e : dgetP ps k with
    | none => rw [e] at h2; cases h2
    | some x =>
      rw [e] at h2
      cases h2
      simp only [oDGet, h1, e]
      exact q
  · cases h⟩
def cDGet2 (ca cb cc : CE) : CE := fun env => (ca env).bind fun a => match a with
  | .im (.dict ps) => (cb env).bind fun b => (cc env).bind fun c => match b, c with
    | .im kd, .im x => (keyOf kd).map fun k => .im ((dgetP ps k).getD x)
    | _, _ => none
  | _ => none
instance [A : KE fa ca] [B : KE fb cb] [C : KE fc cc] : KE (fDGet2 fa fb fc) (cDGet2 ca cb cc) := ⟨fun env n r Q h q => by
  obtain ⟨a, h1, h2⟩ := bind_some' h
  refine A.run _ _ _ _ h1 ?_
  split at h2
  · obtain ⟨b, h3, h4⟩ := bind_some' h2
    obtain ⟨c, h5, h6⟩ := bind_some' h4
    refine B.run _ _ _ _ h3 (C.run _ _ _ _ h5 ?_)
    split at h6
    · rename_i kd x
      cases e : keyOf kd with
      | none => rw [e] at h6; cases h6
      | some k => rw [e] at h6; cases h6; simp only [e]; exact q
    · cases h6
  · cases h2⟩
def cDispGo : List (Str × CE) → Env' → Option (List PyData)
  | [], _ => some []
  | (_, c) :: r, env => (c env).bind fun e => e.kept.bind fun d => (cDispGo r env).map (d :: ·)
def cDisp (l : List (Str × CE)) : CE := fun env => (cDispGo l env).map fun ds => .im (.dict ((l.map fun p => PyData.str p.1).zip ds))
class KDs (l : List (Str × FE)) (m : List (Str × CE)) : Prop where
  names : (l.map fun p => PyData.str p.1) = m.map fun p => PyData.str p.1
  run : ∀ env n ds Q, cDispGo m env = some ds → Q ds ⟨env, n⟩ → dispGo l ⟨env, n⟩ Q
instance : KDs [] [] := ⟨rfl, fun env n ds Q h q => by cases h; exact q⟩
instance {k : Str} {l : List (Str × FE)} {m : List (Str × CE)} [A : KE fa ca] [B : KDs l m] : KDs ((k, fa) :: l) ((k, ca) :: m) := ⟨by rw [List.map_cons, List.map_cons, B.names], fun env n ds Q h q => by
  rw [cDispGo] at h
  obtain ⟨r, h1, h2⟩ := bind_some' h
  obtain ⟨d, h3, h4⟩ := bind_some' h2
  rw [dispGo]
  refine A.run _ _ _ _ h1 ?_
  simp only [h3]
  cases e : cDispGo m env with
  | none => rw [e] at h4; cases h4
  | some x => rw [e] at h4; cases h4; exact B.run _ _ _ _ e q⟩
instance {l : List (Str × FE)} {m : List (Str × CE)} [A : KDs l m] : KE (fDisp l) (cDisp m) := ⟨fun env n r Q h q => by
  unfold cDisp at h
  cases e : cDispGo m env with
  | none => rw [e] at h; cases h
  | some x =>
    rw [e] at h
    cases h
    refine A.run _ _ _ _ e ?_
    rw [A.names]
    exact q⟩
def kMin : CL
  | [.im (.int i), .im (.int j)] => some (.im (.int (if j < i then j else i)))
  | _ => none
instance : KL oMin kMin := ⟨fun rs r Q h q => by
  unfold kMin at h
  split at h
  · cases h; exact q
  · cases h⟩
def cNeg (c : CE) : CE := fun env => (c env).bind fun r => (iOf r).map fun i => .im (.int (-i))
instance [A : KE fa ca] : KE (fNeg fa) (cNeg ca) := ⟨fun env n r Q h q => by
  obtain ⟨x, h1, h2⟩ := bind_some' h
  refine A.run _ _ _ _ h1 ?_
  cases e : iOf x with
  | none => rw [e] at h2; cases h2
  | some i => rw [e] at h2; cases h2; exact isI_of e q⟩
def takeL (own : Bool) (r : Ent) : Option Ent := match own with
  | false => plainL r
  | true => (owL r).map .ow
theorem takeR_of {own : Bool} {r e : Ent} {Q : Ent → Prop} (h : takeL own r = some e) (q : Q e) : takeR own r Q := by
  cases own with
  | false => exact plainR_of h q
  | true =>
    cases r <;> cases h
    exact q
def cPar (i j : Nat) (oi oj : Bool) (ca cb : CE) : CS := fun env => (ca env).bind fun r => (takeL oi r).bind fun e => (cb env).bind fun r2 => (takeL oj r2).map fun e2 => .nx (pt (pt env i (some e)) j (some e2))
instance {i j : Nat} {oi oj : Bool} [A : KE fa ca] [B : KE fb cb] : KS (fPar i j oi oj fa fb) (cPar i j oi oj ca cb) := ⟨fun env n o E h q => by
  obtain ⟨r, h1, h2⟩ := bind_some' h
  obtain ⟨e, h3, h4⟩ := bind_some' h2
  obtain ⟨r2, h5, h6⟩ := bind_some' h4
  refine A.run _ _ _ _ h1 (takeR_of h3 (B.run _ _ _ _ h5 ?_))
  cases e2 : takeL oj r2 with
  | none => rw [e2] at h6; cases h6
  | some x => rw [e2] at h6; cases h6; exact takeR_of e2 q⟩
def cPar3 (i j l : Nat) (cs : CA) : CS := fun env => (cs env).bind fun rs => (keptL rs).bind fun ds => match ds with
  | [x, y, z] => some (.nx (pt (pt (pt env i (some (.im x))) j (some (.im y))) l (some (.im z))))
  | _ => none
instance {i j l : Nat} [A : KA fs cs] : KS (fPar3 i j l fs) (cPar3 i j l cs) := ⟨fun env n o E h q => by
  obtain ⟨r, h1, h2⟩ := bind_some' h
  obtain ⟨ds, h3, h4⟩ := bind_some' h2
  refine A.run _ _ _ _ h1 (kepts_of h3 ?_)
  split at h4
  · cases h4; exact q
  · cases h4⟩
def cTru (c : CE) : CT := fun env => (c env).bind fun r => r.dat.bind truD
instance [A : KE fa ca] : KT (fTru fa) (cTru ca) := ⟨fun env n b Q h q => by
  obtain ⟨r, h1, h2⟩ := bind_some' h
  refine A.run _ _ _ _ h1 ?_
  simp only [h2]
  exact q⟩
end
/-! sorted -/
section
open SrtO
variable {α : Type} {lt : α → α → Bool}
def ins (lt : α → α → Bool) (x : α) : List α → List α
  | [] => [x]
  | y :: l => bif lt y x then y :: ins lt x l else x :: y :: l
def isort (lt : α → α → Bool) : List α → List α
  | [] => []
  | x :: l => ins lt x (isort lt l)
theorem ins_perm (x : α) : ∀ l : List α, (ins lt x l).Perm (x :: l)
  | [] => .refl _
  | y :: l => by
    rw [ins]
    cases lt y x with
    | true => exact ((ins_perm x l).cons y).trans (List.Perm.swap x y l)
    | false => exact .refl _
theorem isort_perm : ∀ l : List α, (isort lt l).Perm l
  | [] => .refl _
  | x :: l => (ins_perm x _).trans ((isort_perm l).cons x)
theorem ins_srtd (O : Swo lt) (x : α) : ∀ {l : List α}, Srtd lt l → Srtd lt (ins lt x l)
  | [], _ => List.pairwise_singleton _ _
  | y :: l, h => by
    have h' := List.pairwise_cons.mp h
    rw [ins]
    cases e : lt y x with
    | true =>
      refine List.pairwise_cons.mpr ⟨fun z hz => ?_, ins_srtd O x h'.2⟩
      rcases List.mem_cons.mp ((ins_perm x l).mem_iff.mp hz) with q | q
      · rw [q]; exact O.asym _ _ e
      · exact h'.1 z q
    | false =>
      refine List.pairwise_cons.mpr ⟨fun z hz => ?_, h⟩
      rcases List.mem_cons.mp hz with q | q
      · rw [q]; exact e
      · exact O.tr x y z e (h'.1 z q)
theorem isort_srtd (O : Swo lt) : ∀ l : List α, Srtd lt (isort lt l)
  | [] => List.Pairwise.nil
  | x :: l => SrtO.srtd_nil_ins O x l
where
  SrtO.srtd_nil_ins (O : Swo lt) (x : α) (l : List α) : Srtd lt (ins lt x (isort lt l)) := DL.ins_srtd O x (isort_srtd O l)
theorem ins_cls (O : Swo lt) (x z : α) : ∀ l : List α, (ins lt x l).filter (eqv lt z) = (x :: l).filter (eqv lt z)
  | [] => rfl
  | y :: l => by
    rw [ins]
    cases e : lt y x with
    | true =>
      show (y :: ins lt x l).filter _ = _
      rw [List.filter_cons, ins_cls O x z l, List.filter_cons, List.filter_cons, List.filter_cons]
      cases e1 : eqv lt z y with
      | false => rfl
      | true =>
        have e2 : eqv lt z x = false := by
          cases e3 : eqv lt z x with
          | false => rfl
          | true =>
            have := O.tr x z y (eqv_iff.mp e3).1 (eqv_iff.mp e1).2
            rw [e] at this
            cases this
        rw [e2]
        rfl
    | false => rfl
theorem isort_cls (O : Swo lt) (z : α) : ∀ l : List α, (isort lt l).filter (eqv lt z) = l.filter (eqv lt z)
  | [] => rfl
  | x :: l => by
    rw [isort, ins_cls O, List.filter_cons, List.filter_cons, isort_cls O z l]
theorem srt_uniq (O : Swo lt) : ∀ {l m : List α}, l.Perm m → Srtd lt l → Srtd lt m → (∀ x, l.filter (eqv lt x) = m.filter (eqv lt x)) → l = m
  | [], m, p, _, _, _ => (List.nil_perm.mp p).symm
  | x :: l, [], p, _, _, _ => absurd (List.perm_nil.mp p) (by simp)
  | x :: l, y :: m, p, h1, h2, c => by
    have h1' := List.pairwise_cons.mp h1
    have h2' := List.pairwise_cons.mp h2
    have lo : ∀ z ∈ y :: m, lt z x = false := fun z hz => by
      rcases List.mem_cons.mp (p.mem_iff.mpr hz) with q | q
      · rw [q]; exact O.refl x
      · exact h1'.1 z q
    have hi : ∀ z ∈ x :: l, lt z y = false := fun z hz => by
      rcases List.mem_cons.mp (p.mem_iff.mp hz) with q | q
      · rw [q]; exact O.refl y
      · exact h2'.1 z q
    have e : eqv lt x y = true := eqv_iff.mpr ⟨hi x List.mem_cons_self, lo y List.mem_cons_self⟩
    have ex : eqv lt x x = true := eqv_iff.mpr ⟨O.refl x, O.refl x⟩
    have cx := c x
    rw [List.filter_cons_of_pos ex, List.filter_cons_of_pos e] at cx
    have xy := (List.cons.inj cx).1
    subst xy
    refine congrArg (x :: ·) (srt_uniq O (List.Perm.cons_inv p) h1'.2 h2'.2 fun z => ?_)
    have cz := c z
    rw [List.filter_cons, List.filter_cons] at cz
    split at cz
    · exact (List.cons.inj cz).2
    · exact cz
end
open SrtO Rw
def rowB : PyData → Bool
  | .tuple (.str _ :: _) => true
  | _ => false
def rowsB (ds : List PyData) : Bool := ds.all (fun d => rowB d && d.canLay0 && decide (PyData.depthAll (rowOf d) ≤ 60)) && ds.all fun d => ds.all fun e => wal (rowOf d) (rowOf e)
theorem rowsB_ok {ds : List PyData} (h : rowsB ds = true) : RowsOk ds := by
  unfold rowsB at h
  rw [Bool.and_eq_true, List.all_eq_true, List.all_eq_true] at h
  have q : ∀ d ∈ ds, rowB d = true ∧ d.canLay0 = true ∧ PyData.depthAll (rowOf d) ≤ 60 := fun d hd => by
    have := h.1 d hd
    simp only [Bool.and_eq_true, decide_eq_true_eq] at this
    exact ⟨this.1.1, this.1.2, this.2⟩
  refine ⟨fun d hd => ?_, fun d hd => (q d hd).2.1, fun d hd => (q d hd).2.2, fun d hd e he => ?_⟩
  · have := (q d hd).1
    unfold rowB at this
    split at this
    · exact ⟨_, _, rfl⟩
    · cases this
  · exact List.all_eq_true.mp (h.2 d hd) e he
def srtR (ds : List PyData) : List PyData := isort rltD ds
theorem rltD_swo : Swo rltD := rlt_swo rowOf
def kSorted : PyData → Option Ent
  | .list ds => guardB (rowsB ds) (some (.ow (srtR ds)))
  | _ => none
instance : KD gSorted kSorted := ⟨fun d r Q h q => by
  unfold kSorted at h
  unfold gSorted
  split at h
  · rename_i ds
    obtain ⟨h1, h2⟩ := guardB_some h
    cases h2
    refine ⟨rowsB_ok h1, fun es p s b => ?_⟩
    have e : es = srtR ds := srt_uniq rltD_swo (p.trans (isort_perm ds).symm) s (isort_srtd rltD_swo ds) fun x => (b.cls x).trans (isort_cls rltD_swo x ds).symm
    rw [e]
    exact q
  · cases h⟩
abbrev fCont : FS := fun E s => E.ct s
abbrev fBrk : FS := fun E s => E.bk s
abbrev fNever : FS := fun _ _ => False
def cCont : CS := fun env => some (.ct env)
def cBrk : CS := fun env => some (.bk env)
def cNever : CS := fun _ => none
instance : KS fCont cCont := ⟨fun env n o E h q => by cases h; exact q⟩
instance : KS fBrk cBrk := ⟨fun env n o E h q => by cases h; exact q⟩
instance : KS fNever cNever := ⟨fun env n o E h q => by cases h⟩
end DL

set_option maxRecDepth 100000
set_option maxHeartbeats 2000000
set_option synthInstance.maxHeartbeats 0
set_option synthInstance.maxSize 1000000
namespace So
open PySem PySem.Spec PyProof.Rows L2
/-! Two sorted lists of the same texts are the same. -/
theorem ltAnti : ∀ a b : List Nat, ltCps a b = false → ltCps b a = false → a = b
  | [], [], _, _ => rfl
  | [], _ :: _, h, _ => by cases h
  | _ :: _, [], _, h => by cases h
  | a :: r, b :: t, h1, h2 => by
    have h1' : (a < b || (a == b && ltCps r t)) = false := h1
    have h2' : (b < a || (b == a && ltCps t r)) = false := h2
    simp at h1' h2'
    have e : a = b := Nat.le_antisymm h2'.1 h1'.1
    subst e
    rw [ltAnti r t (h1'.2 rfl) (h2'.2 rfl)]
theorem ltTrans : ∀ a b c : List Nat, ltCps b a = false → ltCps c b = false → ltCps c a = false
  | [], b, [], h1, h2 => rfl
  | [], b, _ :: _, h1, h2 => by rfl
  | a :: r, [], c, h1, h2 => by cases h1
  | a :: r, b :: t, [], h1, h2 => by cases h2
  | a :: r, b :: t, c :: u, h1, h2 => by
    have h1' : (b < a || (b == a && ltCps t r)) = false := h1
    have h2' : (c < b || (c == b && ltCps u t)) = false := h2
    show (c < a || (c == a && ltCps u r)) = false
    simp at h1' h2' ⊢
    refine ⟨by omega, fun e => ?_⟩
    subst e
    have e : b = c := by omega
    subst e
    exact ltTrans r t u (h1'.2 rfl) (h2'.2 rfl)
theorem pairwise_of : ∀ (p : Str) (l : List Str), risingS p l = true → (p :: l).Pairwise (fun a b => ltCps b.cps.toList a.cps.toList = false)
  | p, [], _ => by simp
  | p, x :: r, h => by
    have h' : (!ltCps x.cps.toList p.cps.toList && risingS x r) = true := h
    rw [Bool.and_eq_true, Bool.not_eq_true'] at h'
    have ih := pairwise_of x r h'.2
    refine List.pairwise_cons.mpr ⟨fun y m => ?_, ih⟩
    rcases List.mem_cons.mp m with z | z
    · rw [z]
      exact h'.1
    · exact ltTrans _ _ _ h'.1 ((List.pairwise_cons.mp ih).1 y z)
theorem strEq {a b : Str} (h : a.cps.toList = b.cps.toList) : a = b := by
  cases a with
  | mk x =>
    cases b with
    | mk y => rw [show x = y from Array.toList_inj.mp h]
theorem sortUniq {ys zs : List Str} (perm : ys.Perm zs) (h1 : sortedS ys = true) (h2 : sortedS zs = true) : ys = zs := by
  have pw : ∀ l : List Str, sortedS l = true → l.Pairwise (fun a b => ltCps b.cps.toList a.cps.toList = false) := fun l h => by
    cases l with
    | nil => exact .nil
    | cons x r => exact pairwise_of x r h
  exact perm.eq_of_pairwise (fun a b _ _ e1 e2 => strEq (ltAnti _ _ e2 e1)) (pw ys h1) (pw zs h2)
end So

set_option maxRecDepth 100000
set_option maxHeartbeats 2000000
namespace DL
open PySem PySem.Spec PyProof.Rows L2
/-! sorted of texts, computed -/
def ltS (a b : Str) : Bool := ltCps a.cps.toList b.cps.toList
theorem lt_asym : ∀ a b : List Nat, ltCps a b = true → ltCps b a = false
  | [], [], h => by cases h
  | [], _ :: _, _ => rfl
  | _ :: _, [], h => by cases h
  | a :: r, b :: t, h => by
    have h' : (a < b || (a == b && ltCps r t)) = true := h
    show (b < a || (b == a && ltCps t r)) = false
    simp at h' ⊢
    rcases h' with q | ⟨rfl, q⟩
    · exact ⟨by omega, fun e => by omega⟩
    · exact ⟨by omega, fun _ => lt_asym r t q⟩
theorem ltS_swo : SrtO.Swo ltS := ⟨fun x y h => lt_asym _ _ h, fun x y z h1 h2 => So.ltTrans _ _ _ h1 h2⟩
theorem sortedS_of : ∀ {l : List Str}, SrtO.Srtd ltS l → sortedS l = true
  | [], _ => rfl
  | x :: r, h => by
    have ris : ∀ (r : List Str) (p : Str), SrtO.Srtd ltS (p :: r) → risingS p r = true := fun r => by
      induction r with
      | nil => intro _ _; rfl
      | cons y r ih =>
        intro p h
        have h' := List.pairwise_cons.mp h
        have h1 : ltCps y.cps.toList p.cps.toList = false := h'.1 y List.mem_cons_self
        rw [risingS, h1, ih y h'.2]
        rfl
    exact ris r x h
def srtS (ss : List Str) : List Str := isort ltS ss
theorem srtS_sorted (ss : List Str) : sortedS (srtS ss) = true := sortedS_of (isort_srtd ltS_swo ss)
theorem srtS_perm (ss : List Str) : (srtS ss).Perm ss := isort_perm ss
def kSortedS (d : PyData) : Option Ent := ((items d).bind strsD).bind fun ss => guardB (decide (ss.length < 64)) (some (.ow ((srtS ss).map PyData.str)))
instance : KD gSortedS kSortedS := ⟨fun d r Q h q => by
  obtain ⟨ss, h1, h2⟩ := bind_some' h
  obtain ⟨h3, h4⟩ := guardB_some h2
  cases h4
  unfold gSortedS
  simp only [h1]
  refine ⟨of_decide_eq_true h3, fun ys p s => ?_⟩
  rw [So.sortUniq (p.trans (srtS_perm ss).symm) s (srtS_sorted ss)]
  exact q⟩
end DL

set_option maxRecDepth 100000
set_option maxHeartbeats 2000000
namespace DL
open PySem PySem.Spec PyProof.Rows L2
/-! repr; int(..); list(range(..)); calls by name alone; defs that say repr -/
section
variable {L : Lay} {X : Cx} {pos : Pos}
/-! ### int(x) of a number or a bool -/
def gInt (d : PyData) (Q : Ent → Prop) : Prop := match d with
  | .int i => Q (.im (.int i))
  | .bool b => Q (.im (.int (if b then 1 else 0)))
  | _ => False
theorem cs_int : CallS L X (.type "int") (o1 gInt) := by
  refine ⟨o1_mono fun d Q Q' k h => ?_, _, call_int1, fun hd Z B O σ H0 H s xs rs Q ok r h Q' k => ?_⟩
  · unfold gInt at h ⊢
    split at h
    · exact k _ h
    · exact k _ h
    · exact h.elim
  · obtain ⟨a, d, rfl, ea, h⟩ := o1_of h
    obtain ⟨v, rfl, ra⟩ := rs1 r
    have rd := Rs.data ra ea
    unfold gInt at h
    split at h
    · cases rd
      exact .inl ⟨_, rfl, k _ _ H h (Same.refl H) (.int _)⟩
    · cases rd
      exact .inr ⟨_, rfl, k _ _ H h (Same.refl H) (.int _)⟩
    · exact h.elim
def kInt : PyData → Option Ent
  | .int i => some (.im (.int i))
  | .bool b => some (.im (.int (if b then 1 else 0)))
  | _ => none
instance : KD gInt kInt := ⟨fun d r Q h q => by
  unfold kInt at h
  unfold gInt
  split at h <;> cases h <;> exact q⟩
/-! ### repr(x) -/
def reprB (d : PyData) : Bool := d.layable0 && (d.intsShort 13 && (d.showable && decide (d.depth ≤ 40)))
def gRepr (d : PyData) (Q : Ent → Prop) : Prop := reprB d = true ∧ Q (.im (.str d.shown))
theorem rp_shown {P : Program} {w : World} {K : PySem.W.Frag} {H : Hp} {v : V} {d : PyData} (r : Rp K H v d) (h : d.layable0 = true) : Gd.Shown P w K H v d :=
  Gd.shown_dp (r.dp (by
    have h1 : (PyData.canLay0 d && decide (PyData.depth d ≤ 64) && decide (PyData.weight d ≤ 2 ^ 20)) = true := h
    simp only [Bool.and_eq_true] at h1
    exact h1.1.1)) (PyData.hasDict_of_layable h)
theorem cs_repr (gd : X.A.guards = some []) (hu : X.A.units + 64 < cLine) : CallS L X (.builtin "repr") (o1 gRepr) := by
  refine ⟨o1_mono fun d Q Q' k h => ⟨h.1, k _ h.2⟩, _, Gd.call_show gd hu, fun hd Z B O σ H0 H s xs rs Q ok r h Q' k => ?_⟩
  obtain ⟨a, d, rfl, ea, h1, h2⟩ := o1_of h
  obtain ⟨v, rfl, ra⟩ := rs1 r
  unfold reprB at h1
  simp only [Bool.and_eq_true, decide_eq_true_eq] at h1
  exact ⟨v, d, rfl, rp_shown (Rs.data ra ea) h1.1, h1.2.2.1, h1.2.2.2, Nat.le_trans (shown_le13 h1.1 h1.2.1) (by decide), k _ _ H h2 (Same.refl H) (.str _)⟩
def kRepr (d : PyData) : Option Ent := guardB (reprB d) (some (.im (.str d.shown)))
instance : KD gRepr kRepr := ⟨fun d r Q h q => by
  obtain ⟨h1, h2⟩ := guardB_some h
  cases h2
  exact ⟨h1, q⟩⟩
/-! ### list(range(..)) -/
def fLstRg1 (f : FE) : FE := fun s Q => f s fun r s1 => isI r fun j => (-(2 ^ 62) ≤ j ∧ j < 2 ^ 62 ∧ j.toNat ≤ 2 ^ 24) ∧ Q (.ow (rngD 0 j.toNat)) s1
theorem rgV_rp {K : PySem.W.Frag} {H : Hp} (j : Int) : RpAll K H (rgV 0 j) (rngD 0 j.toNat) := by
  have e : rgV 0 j = (rngD 0 j.toNat).map fun d => match d with | .int i => V.int i | _ => V.non := by
    unfold rgV rngD
    rw [List.map_map, Int.sub_zero]
    refine List.map_congr_left fun i _ => ?_
    simp
  rw [e]
  have : ∀ d ∈ rngD 0 j.toNat, ∃ i, d = .int i := fun d hd => by
    unfold rngD at hd
    obtain ⟨i, _, rfl⟩ := List.mem_map.mp hd
    exact ⟨_, rfl⟩
  generalize rngD 0 j.toNat = l at this
  induction l with
  | nil => exact .nil
  | cons d l ih =>
    obtain ⟨i, rfl⟩ := this d List.mem_cons_self
    exact .cons (.int i) (ih fun d hd => this d (List.mem_cons_of_mem _ hd))
variable {a : Expr} {fa : FE} {p p' pos2 : Pos}
theorem xListRg1 (hc : X.calm = true) (ha : XE L X a fa) (hm : X.mg "list" = none) (hm' : X.mg "range" = none) (hg : Gl X "list" := by rfl) (hg' : Gl X "range" := by rfl)
    (na : starEach [a] X.env = (false, eval a X.env) :: starEach [] X.env := by rfl) (nb : starEach [(.Call (.Name "range" p') [a] [] pos2)] X.env = (false, eval (.Call (.Name "range" p') [a] [] pos2) X.env) :: starEach [] X.env := by rfl) :
    XE L X (.Call (.Name "list" p) [.Call (.Name "range" p') [a] [] pos2] [] pos) (fLstRg1 fa) := by
  refine ⟨fun s Q Q' k h => ha.mono _ _ _ (fun r s1 h1 => isI_mono (fun i q => ⟨q.1, k _ _ q.2⟩) h1) h, fun hd Z B O σ H s Q ok h => tW_of (pe_listRg hc hg hm (prg_1 hg' hm' peW na) nb) ?_⟩
  refine ha.run hd Z B O σ H s _ ok (ha.mono _ _ _ (fun r s1 h1 v H1 k1 f1 r1 => ?_) h)
  obtain ⟨j, rfl, h2, h3⟩ := isI_v h1 r1
  refine ⟨j, rfl, ⟨by omega, by omega, by omega, by omega, by rw [Int.sub_zero]; exact h2.2.2⟩, fun q hq => ?_⟩
  exact h3 _ _ (k1.same (sameNew hq)) (f1.trans (Mv.of (sameNew hq))) (Rs.back ok f1 (k1.newL hq hq (rgV_rp j)))
def cLstRg1 (c : CE) : CE := fun env => (c env).bind fun r => (iOf r).bind fun j => guardB (decide (-(2 ^ 62) ≤ j ∧ j < 2 ^ 62 ∧ j.toNat ≤ 2 ^ 24)) (some (.ow (rngD 0 j.toNat)))
instance {ca : CE} [A : KE fa ca] : KE (fLstRg1 fa) (cLstRg1 ca) := ⟨fun env n r Q h q => by
  obtain ⟨x, h1, h2⟩ := bind_some' h
  obtain ⟨j, h3, h4⟩ := bind_some' h2
  obtain ⟨h5, h6⟩ := guardB_some h4
  cases h6
  exact A.run _ _ _ _ h1 (isI_of h3 ⟨of_decide_eq_true h5, q⟩)⟩
/-! ### calls by name alone -/
def permL {α : Type} (perm : List Nat) (l : List α) : List α := perm.filterMap fun i => l[i]?
theorem permL_vals {perm : List Nat} {vs : List V} {us : List Value} (r : Vals vs us) : Vals (permL perm vs) (permL perm us) := by
  induction perm with
  | nil => exact .nil
  | cons i l ih =>
    unfold permL
    rw [List.filterMap_cons, List.filterMap_cons]
    cases e : vs[i]? with
    | none =>
      have : us[i]? = none := by
        rw [List.getElem?_eq_none_iff] at e ⊢
        rw [← r.length]
        exact e
      rw [this]
      exact ih
    | some v =>
      obtain ⟨u, h1, h2⟩ := Vals.get r e
      rw [h1]
      exact .cons h2 ih
theorem permL_rs {K : PySem.W.Frag} {hd : Addr → Bool} {Z : Zt} {O : List Addr} {σ : L2.St} {H H' : Hp} {perm : List Nat} {vs : List V} {es : List Ent} (r : RsAll L K hd Z O σ H H' vs es) : RsAll L K hd Z O σ H H' (permL perm vs) (permL perm es) := by
  have look : ∀ {vs : List V} {es : List Ent} (i : Nat), RsAll L K hd Z O σ H H' vs es → (vs[i]? = none ∧ es[i]? = none) ∨ ∃ v e, vs[i]? = some v ∧ es[i]? = some e ∧ Rs L K hd Z O σ H H' v e := by
    intro vs es i r
    induction r generalizing i with
    | nil => exact .inl ⟨by simp, by simp⟩
    | cons a b ih =>
      cases i with
      | zero => exact .inr ⟨_, _, rfl, rfl, a⟩
      | succ i => simpa using ih i
  induction perm with
  | nil => exact .nil
  | cons i l ih =>
    unfold permL
    rw [List.filterMap_cons, List.filterMap_cons]
    rcases look i r with ⟨e1, e2⟩ | ⟨v, e, e1, e2, q⟩
    · rw [e1, e2]
      exact ih
    · rw [e1, e2]
      exact .cons q ih
end
/-- the values of the keywords -/
def tkW (X : Cx) (kws : List Keyword) : TA := fun σ H Q => ∀ (pos : Pos) pins sh, Inv X pins σ H sh → wpAny (model X.prog X.w) X.A (evalAll ((backToKw pos (keywordEach kws X.env)).map (·.2))) (AP X pins σ Q) X.xe sh
theorem pkW {X : Cx} {kws : List Keyword} : PK X kws (tkW X kws) := ⟨fun pos pins sh σ H Q I h => h pos pins sh I⟩
theorem tkW_of {X : Cx} {kws : List Keyword} {t : TA} {σ : L2.St} {H : Hp} {Q : List V → Hp → Prop} (h : PK X kws t) (q : t σ H Q) : tkW X kws σ H Q := fun pos pins sh I => h.run pos pins sh σ H Q I q
structure XK' (L : Lay) (X : Cx) (kws : List Keyword) (m : Nat) (f : FA) : Prop where
  bnd : ∀ s Q, f s Q → f s fun rs s' => rs.length = m ∧ Q rs s'
  mono : ∀ s Q Q', (∀ r s', Q r s' → Q' r s') → f s Q → f s Q'
  run : ∀ hd Z B O σ H s Q, Ok L X.K hd Z B O σ H s → f s (fun rs s' => ∀ vs H', Ok L X.K hd Z B O σ H' s' → Mv Z H H' s s' → RsAll L X.K hd Z O σ H H' vs rs → Q vs H') → tkW X kws σ H Q
section
variable {L : Lay} {X : Cx} {e : Expr} {f : FE} {fs : FA} {kws : List Keyword} {m : Nat} {nm : Option Str} {kpos : Pos}
theorem xkNil : XK' L X [] 0 fNil := ⟨fun s Q h => ⟨rfl, h⟩, fun s Q Q' k h => k _ _ h, fun hd Z B O σ H s Q ok h => tkW_of pk_nil (h [] H ok Mv.refl .nil)⟩
theorem xkCons (he : XE L X e f) (hs : XK' L X kws m fs) : XK' L X (⟨nm, e, kpos⟩ :: kws) (m + 1) (fCons f fs) := by
  refine ⟨fun s Q h => he.mono _ _ _ (fun r s1 h1 => hs.mono _ _ _ (fun rs s2 h2 => ⟨by rw [List.length_cons, h2.1], h2.2⟩) (hs.bnd _ _ h1)) h, fun s Q Q' k h => he.mono _ _ _ (fun r s1 h1 => hs.mono _ _ _ (fun rs s2 h2 => k _ _ h2) h1) h, fun hd Z B O σ H s Q ok h => tkW_of (pk_cons peW pkW) ?_⟩
  refine he.run hd Z B O σ H s _ ok (he.mono _ _ _ (fun r s1 h1 v H1 k1 f1 r1 => ?_) h)
  refine hs.run hd Z B O σ H1 s1 _ k1 (hs.mono _ _ _ (fun rs s2 h2 vs H2 k2 f2 r2 => ?_) h1)
  exact h2 _ H2 k2 (f1.trans f2) (.cons (Rs.step k1 f2 r1) (r2.back ok f1))
end
/-- a def that is called by name: the keywords ks in their order at the call, perm: which of them each parameter is -/
structure DefOkK (L : Lay) (P : Program) (w : World) (K : PySem.W.Frag) (mg : Str → Option Value) (base : Heap) (k : Nat) (x : Str) (ks : List Str) (perm : List Nat) (F : FF) : Prop where
  mono : ∀ (A : Around) (_ : Shared), Room k A → ∀ es n Q Q', (∀ r m, Q r m → Q' r m) → F es n Q → F es n Q'
  ex : ∃ f fd ps, FnOk P w K mg base CX0 k f fd ps (spW L K F) ∧ mg x = some (.ref f) ∧ PySem.W.keepIn K (.ref f) = true ∧ KBn K fd ps 0 ks (fun _ ws => permL perm ws) (fun _ zs => permL perm zs)
/-- no defaults: what is bound by name alone -/
theorem kbn0 {K : PySem.W.Frag} {x qual : Str} {params : Arguments} {body : List Stmt} {scope : Scope} {f : Addr} {fd : FuncData} {ps ks : List Str} {perm : List Nat} (F : FunD K x qual params body scope [] [] f fd)
    (h : ∀ (kV doc pm : Value) (an : Option Addr) (cdv ct : Value) (ws : List Value), ws.length = ks.length → bindArgs (PySem.W.fnOf x qual params body scope .none kV doc pm an cdv ct) ⟨[], ks.zip ws⟩ = pure (ps.zip (permL perm ws))) :
    KBn K fd ps 0 ks (fun _ ws => permL perm ws) (fun _ zs => permL perm zs) := by
  obtain ⟨oc, od, dV, kV, doc, pm, an, cdv, ct, osl, rfl, lk, hcd, hD, hK⟩ := F.ex
  rcases hD with ⟨_, rfl⟩ | ⟨e, _⟩
  · refine ⟨fun s us ws X l1 l2 => ?_, fun _ r => permL_vals r⟩
    obtain rfl : us = [] := List.length_eq_zero_iff.mp l1
    exact .of_eq (h kV doc pm an cdv ct ws l2)
  · exact absurd rfl e
def fFnK (F : FF) (perm : List Nat) (fs : FA) : FE := fun s Q => fs s fun rs s1 => argsOf (permL perm rs) fun es => F es s1.n fun r m => Q r { s1 with n := m }
section
variable {L : Lay} {X : Cx} {pos p : Pos} {x : Str} {kws : List Keyword} {ks : List Str} {perm : List Nat} {k m : Nat} {F : FF} {fs : FA}
theorem xCallK (D : DefOkK L X.prog X.w X.K X.mg X.base k x ks perm F) (hr : Room k X.A) (ha : XK' L X kws m fs) (hl : ks.length = m := by rfl) (hg : Gl X x := by rfl) (hall : (backToKw pos (keywordEach kws X.env)).all (·.1.isSome) = true := by rfl) (hks : (backToKw pos (keywordEach kws X.env)).filterMap (·.1) = ks := by rfl)
    (hpl : ((backTo pos (starEach [] X.env)).any (·.1) || (backToKw pos (keywordEach kws X.env)).any (·.1.isNone)) = false := by rfl) (hdb : (x == ("__debug__" : Str)) = false := by decide) : XE L X (.Call (.Name x p) [] kws pos) (fFnK F perm fs) := by
  obtain ⟨f, fd, ps, G, hm, hk, hb⟩ := D.ex
  refine ⟨fun s Q Q' k h => ha.mono _ _ _ (fun rs s1 h1 => argsOf_mono (fun es h2 => D.mono X.A X.s_0 hr _ _ _ _ (fun r m q => k _ _ q) h2) h1) h, fun hd Z B O σ H s Q ok h => ?_⟩
  refine fun pins sh I => wpAny_Call_Name_kw (ld_glob I hg hm ?_ hdb)
  refine PySem.W.callWith_KW0 (h₀ := X.base) I.ok.mod.kin hk hall ?_ hpl
  have run := ha.run hd Z B O σ H s (fun vs H1 => vs.length = m ∧ spW L X.K F (permL perm vs) H1 Q E0) ok (ha.mono _ _ _ (fun rs s1 h1 vs H1 k1 f1 r1 => ?_) (ha.bnd _ _ h))
  · refine thn (run pos pins sh I) fun us s1 ⟨zs, H1, I1, r1, len, z⟩ => ⟨I1.kIn, ?_⟩
    rw [hks]
    exact run_fnN G hr hb pass0 I1 .nil r1 rfl (len.trans hl.symm) z
  · have lv : vs.length = rs.length := by
      clear h1
      induction r1 with
      | nil => rfl
      | cons _ _ ih => rw [List.length_cons, List.length_cons, ih]
    exact ⟨lv.trans h1.1, run_F ok f1 k1 (permL_rs r1) (D.mono X.A X.s_0 hr) h1.2⟩
end
def cFnK (F : CF) (perm : List Nat) (cs : CA) : CE := fun env => (cs env).bind fun rs => (argsL (permL perm rs)).bind F
instance {F : FF} {CFn : CF} {perm : List Nat} {fs : FA} {cs : CA} [G : KF F CFn] [A : KA fs cs] : KE (fFnK F perm fs) (cFnK CFn perm cs) := ⟨fun env n r Q h q => by
  obtain ⟨x, h1, h2⟩ := bind_some' h
  obtain ⟨y, h3, h4⟩ := bind_some' h2
  exact A.run _ _ _ _ h1 (argsOf_of h3 (G.run _ _ _ _ h4 q))⟩
/-! defs that say repr -/
structure DefOkG (L : Lay) (P : Program) (w : World) (K : PySem.W.Frag) (mg : Str → Option Value) (base : Heap) (k : Nat) (x : Str) (F : FF) : Prop where
  mono : ∀ (A : Around) (_ : Shared), Room k A → A.guards = some [] → ∀ es n Q Q', (∀ r m, Q r m → Q' r m) → F es n Q → F es n Q'
  ex : ∃ f fd ps, Gd.FnG P w K mg base CX0 k f fd ps (spW L K F) ∧ mg x = some (.ref f) ∧ PySem.W.keepIn K (.ref f) = true ∧ Binds K fd ps []
section
variable {L : Lay} {X : Cx} {pos : Pos} {x : Str} {p : Pos} {e : Expr} {es : List Expr} {fs : FA} {m k : Nat} {F : FF}
theorem xCallG (D : DefOkG L X.prog X.w X.K X.mg X.base k x F) (hr : Room k X.A) (gd : X.A.guards = some []) (ha : XA L X (e :: es) m fs) (hg : Gl X x := by rfl) (hdb : (x == ("__debug__" : Str)) = false := by decide)
    (he : starEach (e :: es) X.env = (false, eval e X.env) :: starEach es X.env := by rfl) (hpl : (backTo pos (starEach es X.env)).any (·.1) = false := by rfl) : XE L X (.Call (.Name x p) (e :: es) [] pos) (fFn F fs) := by
  obtain ⟨f, fd, ps, G, hm, hk, hb⟩ := D.ex
  refine ⟨fFn_mono (D.mono X.A X.s_0 hr gd) ha, fun hd Z B O σ H s Q ok h => tW_of (Gd.pe_callG G hr gd hg hm hk hb .nil pass0 paW hdb he hpl) (ha.run hd Z B O σ H s _ ok (ha.mono _ _ _ (fun rs s1 h1 vs H1 k1 f1 r1 => ?_) h))⟩
  rw [List.append_nil]
  exact run_F ok f1 k1 r1 (D.mono X.A X.s_0 hr gd) h1
end
section
variable {L : Lay} {P : Program} {w : World} {K : PySem.W.Frag} {mg : Str → Option Value} {base : Heap} {x qual : Str} {st : Stmt} {f : Addr} {fd : FuncData} {N ps : List Str} {k nN np : Nat} {g : FS}
theorem def_mkG (F : Fun K x qual st f fd) (Sc : FnScope N ps (defScope st)) (hN : N.length = nN := by rfl) (hp : ps.length = np := by rfl)
    (hb : ∀ (cdv : Value) (A : Around) (outer : List Env) (s : Shared) (H : Hp) (E : XK), Room k (A.deeper (envOfC qual (defScope st) s.heap.objs.size f cdv)) → (cxOf CX0 P w K mg base N qual (defScope st) f cdv A outer s H E).nox.A.guards = some [] → XSs L (cxOf CX0 P w K mg base N qual (defScope st) f cdv A outer s H E).nox (defBody st) g) :
    Gd.FnG P w K mg base CX0 (k + 1) f fd ps (spW L K (runF nN np g)) := by
  subst hN hp
  refine Gd.bodyG0 F Sc (fun vs H Q E h => ?_) (fun cdv A outer s H vs Q E hr gd h => ?_)
  · obtain ⟨hd, Z, es, n, _, _, _, r, hl, _⟩ := h
    rw [r.length]
    exact hl
  · obtain ⟨hd, Z, es, n, h1, h2, h3, r, hl, q⟩ := h
    have kb : Ok L K hd Z (bas Z [] H) [] (start N vs) H ⟨es.map some ++ List.replicate (N.length - ps.length) none, n⟩ := Ok.begin h1 h2 h3 r hl
    refine ⟨_, pssW, (hb cdv A outer s H E hr gd).run hd Z (bas Z [] H) [] (start N vs) H _ _ _ kb ⟨fun O σ' H' s' q' k' => ?_, fun r' n' v H' q' fr st' rr => ?_, fun _ _ _ _ (z : False) _ => z.elim, fun _ _ _ _ (z : False) _ => z.elim⟩ q⟩
    · exact q' _ H' (fun b o nz e => k'.stood b o (bas_some.mpr ⟨by simp, nz, e⟩)) k'.stk .non
    · refine q' v H' (fun b o nz e => fr b o nz (bas_some.mpr ⟨by simp, nz, e⟩)) st' ?_
      cases r' with
      | ow ds =>
        obtain ⟨p, ws, e1, e2, e3, e4⟩ := rr
        refine ⟨p, ws, e1, ?_, e3, e4⟩
        cases z : H p with
        | none => rfl
        | some o =>
          have nz : ¬ zin Z p := fun w => by rw [h2 p w] at e3; cases e3
          rw [bas_some.mpr ⟨by simp, nz, z⟩] at e2
          cases e2
      | im d => exact rr
      | br i ds =>
        obtain ⟨p, ws, _, a2, _⟩ := rr
        simp at a2
      | ob t d => exact rr
      | dr => exact rr
theorem def_okG (F : Fun K x qual st f fd) (hm : mg x = some (.ref f)) (hb0 : Binds K fd ps []) (Sc : FnScope N ps (defScope st))
    (hb : ∀ (cdv : Value) (A : Around) (outer : List Env) (s : Shared) (H : Hp) (E : XK), Room k (A.deeper (envOfC qual (defScope st) s.heap.objs.size f cdv)) → (cxOf CX0 P w K mg base N qual (defScope st) f cdv A outer s H E).nox.A.guards = some [] → XSs L (cxOf CX0 P w K mg base N qual (defScope st) f cdv A outer s H E).nox (defBody st) g) (hN : N.length = nN := by rfl) (hp : ps.length = np := by rfl) :
    DefOkG L P w K mg base (k + 1) x (runF nN np g) :=
  ⟨fun A s hr gd es n Q Q' k h => ⟨h.1, (hb .none A [] s (fun _ => none) E0 (hr.deeper _) gd).mono { nx := fun s => Q (.im .none) s.n, rt := Q } { nx := fun s => Q' (.im .none) s.n, rt := Q' } _ ⟨fun s q => k _ _ q, fun r n q => k _ _ q, fun _ z => z, fun _ z => z⟩ h.2⟩, f, fd, ps, def_mkG F Sc hN hp hb, hm, F.kp, hb0⟩
/-- the same def, called by name -/
theorem def_okK (F : Fun K x qual st f fd) (hm : mg x = some (.ref f)) (ks : List Str) (perm : List Nat) (hb0 : KBn K fd ps 0 ks (fun _ ws => permL perm ws) (fun _ zs => permL perm zs)) (Sc : FnScope N ps (defScope st))
    (hb : ∀ (cdv : Value) (A : Around) (outer : List Env) (s : Shared) (H : Hp) (E : XK), Room k (A.deeper (envOfC qual (defScope st) s.heap.objs.size f cdv)) → XSs L (cxOf CX0 P w K mg base N qual (defScope st) f cdv A outer s H E).nox (defBody st) g) (hN : N.length = nN := by rfl) (hp : ps.length = np := by rfl) :
    DefOkK L P w K mg base (k + 1) x ks perm (runF nN np g) := ⟨def_mono hb, f, fd, ps, def_mk F Sc hN hp hb, hm, F.kp, hb0⟩
end
end DL

set_option maxRecDepth 100000
set_option maxHeartbeats 2000000
namespace DL
open PySem PySem.Spec PyProof.Rows L2
/-! how what is computed is worked out -/
theorem kEq_ok {neg : Bool} {a b : Ent} {d e : PyData} (ha : a.dat = some d) (hb : b.dat = some e) (h1 : SeqAt.shaped d = true) (h2 : SeqAt.shaped e = true) : kEq neg a b = some (.im (.bool (neg != PyData.eqv d e))) := by
  unfold kEq
  simp only [ha, hb, h1, h2, Bool.and_self, Bool.or_true]
  rfl
theorem kEq_s {neg : Bool} {x y : Str} : kEq neg (.im (.str x)) (.im (.str y)) = some (.im (.bool (neg != (x == y)))) := rfl
theorem kIn_ok {neg : Bool} {a b : Ent} {d : PyData} {es : List PyData} (ha : a.dat = some d) (hb : b.dat.bind items = some es) (h1 : SeqAt.shaped d = true) (h2 : SeqAt.shaped (.list es) = true) : kIn neg a b = some (.im (.bool (neg != es.any fun z => PyData.eqv z d))) := by
  unfold kIn
  simp only [ha, hb, h1, h2]
  rfl
theorem guard_true {α : Type} {b : Bool} {x : Option α} (h : b = true) : guardB b x = x := by rw [h]; rfl
theorem guard_dec {α : Type} {p : Prop} [Decidable p] {x : Option α} (h : p) : guardB (decide p) x = x := guard_true (decide_eq_true h)
section
variable {g : CG} {t : CT} {c : CE} {env : Env'} {b : CS}
theorem lc_map {ds : List PyData} (val : PyData → PyData) (h : ∀ d ∈ ds, cLcOne g t c env d = some (some (val d))) : cLcGo g t c env ds = some (ds.map val) := by
  induction ds with
  | nil => rfl
  | cons d ds ih =>
    rw [cLcGo, h d List.mem_cons_self, ih fun e he => h e (List.mem_cons_of_mem _ he)]
    rfl
theorem lc_filter {ds : List PyData} (p : PyData → Bool) (val : PyData → PyData) (h : ∀ d ∈ ds, cLcOne g t c env d = some (if p d then some (val d) else none)) : cLcGo g t c env ds = some ((ds.filter p).map val) := by
  induction ds with
  | nil => rfl
  | cons d ds ih =>
    rw [cLcGo, h d List.mem_cons_self, ih fun e he => h e (List.mem_cons_of_mem _ he), List.filter_cons]
    cases p d <;> rfl
/-- over the encodings of a list -/
theorem lc_enc {α : Type} {enc : α → PyData} {l : List α} (val : α → PyData) (h : ∀ x ∈ l, cLcOne g t c env (enc x) = some (some (val x))) : cLcGo g t c env (l.map enc) = some (l.map val) := by
  induction l with
  | nil => rfl
  | cons d ds ih =>
    rw [List.map_cons, cLcGo, h d List.mem_cons_self, ih fun e he => h e (List.mem_cons_of_mem _ he)]
    rfl
theorem lc_encF {α : Type} {enc : α → PyData} {l : List α} (p : α → Bool) (val : α → PyData) (h : ∀ x ∈ l, cLcOne g t c env (enc x) = some (if p x then some (val x) else none)) : cLcGo g t c env (l.map enc) = some ((l.filter p).map val) := by
  induction l with
  | nil => rfl
  | cons d ds ih =>
    rw [List.map_cons, cLcGo, h d List.mem_cons_self, ih fun e he => h e (List.mem_cons_of_mem _ he), List.filter_cons]
    cases p d <;> rfl
/-- a loop whose turns go on, by what each makes of the state -/
theorem for_fold {α β : Type} {enc : α → PyData} {st : β → Env'} (f : β → α → β) : ∀ (l : List α) (s : β), (∀ s, ∀ x ∈ l, ((g (enc x) (st s)).bind b) = some (.nx (st (f s x))) ∨ ((g (enc x) (st s)).bind b) = some (.ct (st (f s x)))) → cForGo g b (l.map enc) (st s) = some (.nx (st (l.foldl f s)))
  | [], s, _ => rfl
  | x :: l, s, h => by
    have h0 := h s x List.mem_cons_self
    have ih := for_fold f l (f s x) fun s y hy => h s y (List.mem_cons_of_mem _ hy)
    rw [List.map_cons, cForGo]
    rcases h0 with h0 | h0
    all_goals
      obtain ⟨e, h1, h2⟩ := bind_some' h0
      rw [h1]
      show (b e).bind _ = _
      rw [h2]
      exact ih
end
/-! each step, as an equation of what stands there -/
section
variable {env : Env'} {i j l m : Nat} {d : PyData} {ds es : List PyData} {ca cb cc c : CE} {o o' : C2} {ta tb t : CT} {cs : CA} {F : CF} {kl : CL} {k : PyData → Option Ent} {perm : List Nat} {e r : Ent} {es' rs : List Ent} {a b : Int} {neg : Bool} {x y : Str} {g gs : CS} {tg : CG} {tgs : CGs} {ci : CI} {cl' ch : CO} {vs : List Nat}
def thenO (x : Option Out) (g : CS) : Option Out := match x with
  | some (.nx e) => g e
  | x => x
theorem seqO_eq (x : Option Out) (g : CS) : seqO x g = thenO x g := by
  cases x with
  | none => rfl
  | some x => cases x <;> rfl
theorem t_nx {e : Env'} : thenO (some (.nx e)) g = g e := rfl
theorem t_rt : thenO (some (.rt r)) g = some (.rt r) := rfl
theorem t_ct {e : Env'} : thenO (some (.ct e)) g = some (.ct e) := rfl
theorem t_bk {e : Env'} : thenO (some (.bk e)) g = some (.bk e) := rfl
theorem e_var : cVar i env = (DL.gt env i).map (asR i) := rfl
theorem e_K : cK d env = some (.im d) := rfl
theorem e_2 : c2 o ca cb env = (ca env).bind fun a => (cb env).bind fun b => o a b := rfl
theorem e_B : cB c env = (c env).bind bOf := rfl
theorem bOf_b {b : Bool} : bOf (.im (.bool b)) = some b := rfl
theorem iOf_i : iOf (.im (.int a)) = some a := rfl
theorem e_And : cAnd ta tb env = (ta env).bind fun x => bif x then tb env else some false := rfl
theorem e_Or : cOr ta tb env = (ta env).bind fun x => bif x then some true else tb env := rfl
theorem e_Not : cNot ta env = (ta env).map (!·) := rfl
theorem e_AndV : cAndV ca cb env = (ca env).bind fun r => (bOf r).bind fun x => bif x then cb env else some (.im (.bool false)) := rfl
theorem e_OrV : cOrV ca cb env = (ca env).bind fun r => (bOf r).bind fun x => bif x then some (.im (.bool true)) else cb env := rfl
theorem e_NotV : cNotV ca env = (ca env).bind fun r => (bOf r).map fun b => .im (.bool (!b)) := rfl
theorem e_If : cIf t ca cb env = (t env).bind fun x => bif x then ca env else cb env := rfl
theorem e_Nil : cNil env = some [] := rfl
theorem e_Cons : cCons c cs env = (c env).bind fun r => (cs env).map (r :: ·) := rfl
theorem e_Tup : cTup cs env = (cs env).bind fun rs => (keptL rs).map fun ds => .im (.tuple ds) := rfl
theorem e_Lst : cLst cs env = (cs env).bind fun rs => (keptL rs).map fun ds => .ow ds := rfl
theorem kp_nil : keptL [] = some [] := rfl
theorem kp_im : keptL (.im d :: rs) = (keptL rs).map (d :: ·) := rfl
theorem kp_ow : keptL (.ow ds :: rs) = (keptL rs).map (.list ds :: ·) := rfl
theorem k_I {h : Int → Int → PyData} : kI h (.im (.int a)) (.im (.int b)) = some (.im (h a b)) := rfl
theorem k_IsI : kIs neg (.im d) (.im .none) = some (.im (.bool (neg != isNonD d))) := rfl
theorem k_IsO : kIs neg (.ow ds) (.im .none) = some (.im (.bool neg)) := rfl
theorem k_IsB : kIs neg (.br i ds) (.im .none) = some (.im (.bool neg)) := rfl
theorem k_addI : kAdd (.im (.int a)) (.im (.int b)) = some (.im (.int (a + b))) := rfl
theorem k_addT : kAdd (.im (.tuple ds)) (.im (.tuple es)) = guardB (decide (ds.length + es.length ≤ sizeLine)) (some (.im (.tuple (ds ++ es)))) := rfl
theorem k_addS : kAdd (.im (.str x)) (.im (.str y)) = guardB (decide (x.length + y.length ≤ sizeLine)) (some (.im (.str (x ++ y)))) := rfl
theorem k_addL (h : r.dat = some (.list ds)) (h' : e.dat = some (.list es)) (q : ds.length + es.length ≤ sizeLine) : kAdd r e = some (.ow (ds ++ es)) := by
  unfold kAdd
  simp only [h, h']
  exact guard_dec q
theorem k_mulI : kMul (.im (.int a)) (.im (.int b)) = guardB (decide (CMul a b)) (some (.im (.int (a * b)))) := rfl
theorem k_dget {ps : List (PyData × PyData)} {kd : PyData} : kDGet (.im (.dict ps)) (.im kd) = (keyOf kd).bind fun k => (dgetP ps k).map .im := rfl
theorem k_ixT : kIx (.im (.tuple ds)) (.im (.int a)) = (atI ds a).map .im := rfl
theorem k_ixL : kIx (.im (.list ds)) (.im (.int a)) = (atI ds a).map .im := rfl
theorem k_ixO : kIx (.ow ds) (.im (.int a)) = (atI ds a).map .im := rfl
theorem k_ixB : kIx (.br i ds) (.im (.int a)) = (atI ds a).map .im := rfl
theorem e_Chain : cChain o o' ca cb cc env = (ca env).bind fun a => (cb env).bind fun b => (o a b).bind fun z => (bOf z).bind fun k => bif k then (cc env).bind fun c => o' b c else some (.im (.bool false)) := rfl
theorem e_Call : cCall kl cs env = (cs env).bind kl := rfl
theorem k1_eq : k1 k [e] = e.dat.bind k := rfl
theorem dat_im' : (Ent.im d).dat = some d := rfl
theorem dat_ow : (Ent.ow ds).dat = some (.list ds) := rfl
theorem dat_br : (Ent.br i ds).dat = some (.list ds) := rfl
theorem kept_im : (Ent.im d).kept = some d := rfl
theorem kept_ow : (Ent.ow ds).kept = some (.list ds) := rfl
theorem len_l : kLen (.list ds) = some (.im (.int ds.length)) := rfl
theorem len_t : kLen (.tuple ds) = some (.im (.int ds.length)) := rfl
theorem len_s : kLen (.str x) = guardB (decide (x.length ≤ sizeLine)) (some (.im (.int x.length))) := rfl
theorem e_Is {tt : PyData → Bool} : cIs tt c env = (c env).bind fun r => r.dat.map fun d => .im (.bool (tt d)) := rfl
theorem e_NoPart : cNoPart env = some none := rfl
theorem e_Part : cPart c env = (c env).bind fun r => (iOf r).map some := rfl
theorem e_Sl : cSl c cl' ch env = (c env).bind fun r => (cl' env).bind fun lo => (ch env).bind fun hi => r.dat.bind fun d => kSl d lo hi := rfl
theorem sl_l {lo hi : Option Int} : kSl (.list ds) lo hi = some (.ow (cutD ds lo hi)) := rfl
theorem sl_t {lo hi : Option Int} : kSl (.tuple ds) lo hi = some (.im (.tuple (cutD ds lo hi))) := rfl
theorem ar_nil : argsL [] = some [] := rfl
theorem ar_im : argsL (.im d :: rs) = (argsL rs).map (.im d :: ·) := rfl
theorem ar_ow : argsL (.ow ds :: rs) = (argsL rs).map (.im (.list ds) :: ·) := rfl
theorem ar_ob {q : Nat} : argsL (.ob q d :: rs) = (argsL rs).map (.ob q d :: ·) := rfl
theorem e_Fn : cFn F cs env = (cs env).bind fun rs => (argsL rs).bind F := rfl
theorem e_FnK : cFnK F perm cs env = (cs env).bind fun rs => (argsL (permL perm rs)).bind F := rfl
theorem pl_im : plainL (.im d) = some (.im d) := rfl
theorem pl_ow : plainL (.ow ds) = some (.im (.list ds)) := rfl
theorem pl_ob {q : Nat} : plainL (.ob q d) = some (.ob q d) := rfl
theorem e_Set : cSet i c env = (c env).bind fun r => (plainL r).map fun e => .nx (DL.pt env i (some e)) := rfl
theorem ow_ow : owL (.ow ds) = some ds := rfl
theorem e_SetO : cSetO i c env = (c env).bind fun r => (owL r).map fun ds => .nx (DL.pt env i (some (.ow ds))) := rfl
def rtE (r : Ent) : Out := .rt (match r with | .br _ ds => .ow ds | x => x)
theorem rt_im : rtE (.im d) = .rt (.im d) := rfl
theorem rt_ow : rtE (.ow ds) = .rt (.ow ds) := rfl
theorem rt_br : rtE (.br i ds) = .rt (.ow ds) := rfl
theorem rt_ob {q : Nat} : rtE (.ob q d) = .rt (.ob q d) := rfl
theorem e_Ret : cRet c env = (c env).map rtE := rfl
theorem e_RetN : cRetN env = some (.rt (.im .none)) := rfl
theorem e_Skip : cSkip env = some (.nx env) := rfl
theorem e_Seq : cSeq g gs env = thenO (g env) gs := seqO_eq _ _
theorem e_IfS : cIfS t g gs env = (t env).bind fun x => bif x then g env else gs env := rfl
def frzO (i : Nat) (g : CS) (env : Env') : Ent → Option Out
  | .ow ds => g (DL.pt env i (some (.im (.list ds))))
  | .im _ => g env
  | _ => none
theorem e_Freeze : cFreeze i g env = (DL.gt env i).bind (frzO i g env) := by
  unfold cFreeze frzO
  cases DL.gt env i with
  | none => rfl
  | some e => cases e <;> rfl
theorem fz_ow : frzO i g env (.ow ds) = g (DL.pt env i (some (.im (.list ds)))) := rfl
theorem fz_im : frzO i g env (.im d) = g env := rfl
theorem e_Append : cAppend i c env = (DL.gt env i).bind fun e => (owL e).bind fun ds => (c env).bind fun r => r.kept.bind fun d => guardB (decide (ds.length < sizeLine)) (some (.nx (DL.pt env i (some (.ow (ds ++ [d])))))) := by
  unfold cAppend
  cases DL.gt env i with
  | none => rfl
  | some e => cases e <;> rfl
def extL (i : Nat) (ds : List PyData) (env : Env') : PyData → Option Out
  | .list es => guardB (decide (ds.length + es.length ≤ sizeLine)) (some (.nx (DL.pt env i (some (.ow (ds ++ es))))))
  | _ => none
theorem e_Extend : cExtend i c env = (DL.gt env i).bind fun e => (owL e).bind fun ds => (c env).bind fun r => r.dat.bind (extL i ds env) := by
  unfold cExtend extL
  cases DL.gt env i with
  | none => rfl
  | some e =>
    cases e with
    | ow ds =>
      show (c env).bind _ = (c env).bind _
      cases c env with
      | none => rfl
      | some r =>
        show _ = r.dat.bind _
        simp only [Option.bind_some]
        cases r.dat with
        | none => rfl
        | some d => cases d <;> rfl
    | _ => rfl
theorem ex_l : extL i ds env (.list es) = guardB (decide (ds.length + es.length ≤ sizeLine)) (some (.nx (DL.pt env i (some (.ow (ds ++ es)))))) := rfl
theorem e_Asg : cAsg tg c env = (c env).bind fun r => r.kept.bind fun d => (tg d env).map .nx := rfl
theorem g_N : cgN i d env = some (DL.pt env i (some (.im d))) := rfl
theorem g_sNil : cgsNil [] env = some env := rfl
theorem g_sCons : cgsCons tg tgs (d :: ds) env = (tg d env).bind fun e => tgs ds e := rfl
theorem g_Tup : cgTup m tgs (.tuple ds) env = guardB (ds.length == m) (tgs ds env) := rfl
def walkL (b : Bool) : Ent → Option (List PyData)
  | .im (.list ds) => some ds
  | .ow ds => some ds
  | .br _ ds => guardB b (some ds)
  | _ => none
theorem e_ItL {b : Bool} : cItL b c env = (c env).bind (walkL b) := rfl
theorem w_im {b : Bool} : walkL b (.im (.list ds)) = some ds := rfl
theorem w_ow {b : Bool} : walkL b (.ow ds) = some ds := rfl
theorem w_br : walkL true (.br i ds) = some ds := rfl
def walkT : Ent → Option (List PyData)
  | .im (.tuple ds) => some ds
  | _ => none
theorem e_ItT : cItT c env = (c env).bind walkT := rfl
theorem w_t : walkT (.im (.tuple ds)) = some ds := rfl
def rng1 : List Ent → Option (List PyData)
  | [r] => (iOf r).bind fun j => guardB (decide (-(2 ^ 62) ≤ j ∧ j < 2 ^ 62 ∧ j.toNat ≤ sizeLine)) (some (rngD 0 j.toNat))
  | _ => none
theorem e_Rng1 : cRng1 cs env = (cs env).bind rng1 := rfl
theorem r_1 (h : -(2 ^ 62) ≤ a ∧ a < 2 ^ 62 ∧ a.toNat ≤ sizeLine) : rng1 [.im (.int a)] = some (rngD 0 a.toNat) := guard_dec h
def rng2 : List Ent → Option (List PyData)
  | [r, r'] => (iOf r).bind fun i => (iOf r').bind fun j => guardB (decide ((-(2 ^ 62) ≤ i ∧ i < 2 ^ 62 ∧ -(2 ^ 62) ≤ j ∧ j < 2 ^ 62) ∧ (j - i).toNat ≤ sizeLine)) (some (rngD i (j - i).toNat))
  | _ => none
theorem e_Rng2 : cRng2 cs env = (cs env).bind rng2 := rfl
theorem r_2 (h : (-(2 ^ 62) ≤ a ∧ a < 2 ^ 62 ∧ -(2 ^ 62) ≤ b ∧ b < 2 ^ 62) ∧ (b - a).toNat ≤ sizeLine) : rng2 [.im (.int a), .im (.int b)] = some (rngD a (b - a).toNat) := guard_dec h
def enumL (b : Bool) : Ent → Option (List PyData)
  | .im (.list ds) => some (enumD 0 ds)
  | .im (.tuple ds) => some (enumD 0 ds)
  | .ow ds => some (enumD 0 ds)
  | .br _ ds => guardB b (some (enumD 0 ds))
  | _ => none
theorem e_Enum {b : Bool} : cEnum b c env = (c env).bind (enumL b) := rfl
theorem en_t {b : Bool} : enumL b (.im (.tuple ds)) = some (enumD 0 ds) := rfl
theorem en_l {b : Bool} : enumL b (.im (.list ds)) = some (enumD 0 ds) := rfl
theorem e_For : cFor ci tg g env = (ci env).bind fun ds => cForGo tg g ds env := rfl
theorem e_Lc : cLc ci tg t c vs env = (ci env).bind fun ds => (cLcGo tg t c (wipeE env vs) ds).map .ow := rfl
theorem e_Yes : cYes env = some true := rfl
def endO (x : Option Out) : Option Ent := match x with
  | some (.nx _) => some (.im .none)
  | some (.rt r) => some r
  | _ => none
theorem e_Run {nN np : Nat} : cRun nN np g es' = guardB (es'.length == np) (endO (g (es'.map some ++ List.replicate (nN - np) none))) := by
  unfold cRun endO
  cases g (es'.map some ++ List.replicate (nN - np) none) with
  | none => rfl
  | some o => cases o <;> rfl
theorem end_rt : endO (some (.rt r)) = some r := rfl
theorem end_nx {e : Env'} : endO (some (.nx e)) = some (.im .none) := rfl
theorem e_Star : cStar c cs env = (c env).bind fun r => (r.dat.bind items).bind fun ds => guardB (decide (ds.length ≤ 1000)) ((cs env).map (ds.map Ent.im ++ ·)) := rfl
theorem it_l : items (.list ds) = some ds := rfl
theorem it_t : items (.tuple ds) = some ds := rfl
theorem e_Expr : cExpr c env = (c env).map fun _ => .nx env := rfl
def dg2 (a b c : Ent) : Option Ent := match a, b, c with
  | .im (.dict ps), .im kd, .im x => (keyOf kd).map fun k => .im ((dgetP ps k).getD x)
  | _, _, _ => none
theorem e_DGet2 : cDGet2 ca cb cc env = (ca env).bind fun a => (cb env).bind fun b => (cc env).bind fun c => dg2 a b c := by
  unfold cDGet2
  cases ca env with
  | none => rfl
  | some a =>
    simp only [Option.bind_some]
    cases cb env with
    | none => cases a <;> try rfl
              rename_i d; cases d <;> rfl
    | some b =>
      simp only [Option.bind_some]
      cases cc env with
      | none => cases a <;> try rfl
                rename_i d; cases d <;> rfl
      | some c =>
        simp only [Option.bind_some]
        unfold dg2
        cases a <;> try rfl
        rename_i d
        cases d <;> try rfl
        cases b <;> cases c <;> rfl
theorem d_2 {ps : List (PyData × PyData)} {kd x : PyData} : dg2 (.im (.dict ps)) (.im kd) (.im x) = (keyOf kd).map fun k => .im ((dgetP ps k).getD x) := rfl
theorem e_Disp {l : List (Str × CE)} : cDisp l env = (cDispGo l env).map fun ds => .im (.dict ((l.map fun p => PyData.str p.1).zip ds)) := rfl
theorem di_nil : cDispGo [] env = some [] := rfl
theorem di_cons {x : Str} {l : List (Str × CE)} : cDispGo ((x, c) :: l) env = (c env).bind fun e => e.kept.bind fun d => (cDispGo l env).map (d :: ·) := rfl
theorem e_Neg : cNeg c env = (c env).bind fun r => (iOf r).map fun i => .im (.int (-i)) := rfl
theorem tk_f {r : Ent} : takeL false r = plainL r := rfl
theorem tk_t {r : Ent} : takeL true r = (owL r).map .ow := rfl
theorem e_Par {oi oj : Bool} : cPar i j oi oj ca cb env = (ca env).bind fun r => (takeL oi r).bind fun e => (cb env).bind fun r2 => (takeL oj r2).map fun e2 => .nx (DL.pt (DL.pt env i (some e)) j (some e2)) := rfl
def set3L (i j l : Nat) (env : Env') : List PyData → Option Out
  | [x, y, z] => some (.nx (DL.pt (DL.pt (DL.pt env i (some (.im x))) j (some (.im y))) l (some (.im z))))
  | _ => none
theorem e_Par3 : cPar3 i j l cs env = (cs env).bind fun rs => (keptL rs).bind (set3L i j l env) := rfl
theorem s3 {x y z : PyData} : set3L i j l env [x, y, z] = some (.nx (DL.pt (DL.pt (DL.pt env i (some (.im x))) j (some (.im y))) l (some (.im z)))) := rfl
theorem e_Tru : cTru c env = (c env).bind fun r => r.dat.bind truD := rfl
theorem e_Aug {h : Int → Int → Int} : cAug i h c env = (DL.gt env i).bind fun e => (iOf e).bind fun a => (c env).bind fun r => (iOf r).map fun b => .nx (DL.pt env i (some (.im (.int (h a b))))) := by
  unfold cAug
  cases DL.gt env i with
  | none => rfl
  | some e =>
    cases e with
    | im d => cases d <;> rfl
    | _ => rfl
theorem as_im : asR i (.im d) = .im d := rfl
theorem as_ow : asR i (.ow ds) = .br i ds := rfl
theorem as_ob {q : Nat} : asR i (.ob q d) = .ob q d := rfl
theorem g_t {α : Type} {x : Option α} : guardB true x = x := rfl
theorem tup_t : kTuple (.tuple ds) = some (.im (.tuple ds)) := rfl
theorem tup_l : kTuple (.list ds) = some (.im (.tuple ds)) := rfl
theorem lst_t : kList (.tuple ds) = some (.ow ds) := rfl
theorem lst_l : kList (.list ds) = some (.ow ds) := rfl
theorem int_i : kInt (.int a) = some (.im (.int a)) := rfl
theorem int_b {b : Bool} : kInt (.bool b) = some (.im (.int (if b then 1 else 0))) := rfl
theorem e_LstRg1 : cLstRg1 c env = (c env).bind fun r => (iOf r).bind fun j => guardB (decide (-(2 ^ 62) ≤ j ∧ j < 2 ^ 62 ∧ j.toNat ≤ 2 ^ 24)) (some (.ow (rngD 0 j.toNat))) := rfl
theorem lcOne_eq : cLcOne tg t c env d = (tg d env).bind fun e1 => (t e1).bind fun b => bif b then (c e1).bind fun r => r.kept.map some else some none := rfl
theorem ko_str : keyOf (.str x) = some (.inr x) := rfl
theorem ko_int : keyOf (.int a) = some (.inl a) := rfl
theorem dg_cons {v : PyData} {ps : List (PyData × PyData)} : dgetP ((.str y, v) :: ps) (.inr x) = bif y == x then some v else dgetP ps (.inr x) := by
  rw [dgetP]
  show (if some (Sum.inr y : Key) = some (.inr x) then _ else _) = _
  by_cases h : y = x
  · subst h
    rw [if_pos rfl, beq_self_eq_true]
    rfl
  · rw [if_neg (fun q => h (Sum.inr.inj (Option.some.inj q))), show (y == x) = false from beq_eq_false_iff_ne.mpr h]
    rfl
theorem dg_nil {q : Key} : dgetP [] q = none := rfl
theorem nd_none : isNonD .none = true := rfl
theorem nd_str : isNonD (.str x) = false := rfl
theorem nd_int : isNonD (.int a) = false := rfl
theorem nd_tup : isNonD (.tuple ds) = false := rfl
theorem nd_lst : isNonD (.list ds) = false := rfl
theorem fg_nil : cForGo tg g [] env = some (.nx env) := rfl
end
/-- a statement that draws nothing, and what follows -/
theorem seq_c {A B : FS} {cA : CS} [K : KS A cA] {env env' : Env'} {n : Nat} {E : EE} (h : cA env = some (.nx env')) (q : B E ⟨env', n⟩) : fSeq A B E ⟨env, n⟩ := K.run env n (.nx env') _ h q
theorem one_c {A : FS} {cA : CS} [K : KS A cA] {env env' : Env'} {n : Nat} {E : EE} (h : cA env = some (.nx env')) (q : E.nx ⟨env', n⟩) : A E ⟨env, n⟩ := K.run env n (.nx env') _ h q
end DL

set_option maxRecDepth 100000
set_option maxHeartbeats 2000000
/-! the world of books in Lean's own kinds, and how it stands as data -/
namespace Nv
open PySem PySem.Spec PyProof.Rows L2 DL
inductive Rec | begin | yes | no | ready | agreed | refused deriving DecidableEq
inductive Wd | none | lazy | forced deriving DecidableEq
inductive O | no | yes deriving DecidableEq
inductive Pre | no | wait | yes deriving DecidableEq
inductive CM | new | asking | yes | no | gone deriving DecidableEq
inductive HM | idle | ready | yes | no | empty deriving DecidableEq
def Rec.s : Rec → Str | .begin => "begin" | .yes => "yes" | .no => "no" | .ready => "ready" | .agreed => "agreed" | .refused => "refused"
def Wd.s : Wd → Str | .none => "none" | .lazy => "lazy" | .forced => "forced"
def O.s : O → Str | .no => "no" | .yes => "yes"
def Pre.s : Pre → Str | .no => "no" | .wait => "wait" | .yes => "yes"
def CM.s : CM → Str | .new => "new" | .asking => "asking" | .yes => "yes" | .no => "no" | .gone => "gone"
def HM.s : HM → Str | .idle => "idle" | .ready => "ready" | .yes => "yes" | .no => "no" | .empty => "empty"
def Rec.d (r : Rec) : PyData := .str r.s
def O.d (o : O) : PyData := .str o.s
structure OS where
  n : Bool
  y : Bool
deriving DecidableEq
def OS.l (x : OS) : List O := (if x.n then [.no] else []) ++ (if x.y then [.yes] else [])
def OS.has (x : OS) : O → Bool | .no => x.n | .yes => x.y
def OS.add (x : OS) : O → OS | .no => ⟨true, x.y⟩ | .yes => ⟨x.n, true⟩
def OS.d (x : OS) : PyData := .tuple (x.l.map O.d)
structure Sh where
  w : Rec → Wd
  ans : OS
  pre : Pre
def Sh.ws (S : Sh) : List Str := [(S.w .begin).s, (S.w .yes).s, (S.w .no).s, (S.w .ready).s, (S.w .agreed).s, (S.w .refused).s]
def Sh.wd (S : Sh) : PyData := .dict [(.str "begin", .str (S.w .begin).s), (.str "yes", .str (S.w .yes).s), (.str "no", .str (S.w .no).s), (.str "ready", .str (S.w .ready).s), (.str "agreed", .str (S.w .agreed).s), (.str "refused", .str (S.w .refused).s)]
def Sh.d (S : Sh) : PyData := .dict [(.str "words", S.wd), (.str "answers", S.ans.d), (.str "presume", .str S.pre.s)]
structure Tape where
  notes : List Rec
  safe : Nat
def Tape.d (t : Tape) : PyData := .tuple [.tuple (t.notes.map Rec.d), .int t.safe]
structure Seat where
  mind : CM
  tape : Tape
  dec : Bool
def Seat.d (s : Seat) : PyData := .tuple [.str s.mind.s, s.tape.d, .bool s.dec]
structure Room where
  mind : HM
  tape : Tape
  voted : Bool
  told : OS
  rep : OS
  took : Bool
  dropped : Bool
def Room.d (r : Room) : PyData := .tuple [.str r.mind.s, r.tape.d, .bool r.voted, r.told.d, r.rep.d, .bool r.took, .bool r.dropped]
structure Stand where
  seat : Seat
  rooms : List Room
def Stand.d (s : Stand) : PyData := .tuple [s.seat.d, .tuple (s.rooms.map Room.d)]
inductive Act
  | ask | vote (k : Nat) | refuse (k : Nat) | decide (o : O) | tell (k : Nat) | hear (k : Nat) (o : O) | answer (k : Nat) (o : O) | forget | clear (k : Nat) | down (l : Nat) | fall (k l : Nat)
deriving DecidableEq
def Act.ds : Act → List PyData
  | .ask => [.str "ask"]
  | .vote k => [.str "vote", .int k]
  | .refuse k => [.str "refuse", .int k]
  | .decide o => [.str "decide", o.d]
  | .tell k => [.str "tell", .int k]
  | .hear k o => [.str "hear", .int k, o.d]
  | .answer k o => [.str "answer", .int k, o.d]
  | .forget => [.str "forget"]
  | .clear k => [.str "clear", .int k]
  | .down l => [.str "down", .int l]
  | .fall k l => [.str "fall", .int k, .int l]
def Act.d (a : Act) : PyData := .tuple a.ds

/-! ### the law's own account -/
def write (S : Sh) (t : Tape) (r : Rec) : Tape := if S.w r = .none ∨ r ∈ t.notes then t else ⟨t.notes ++ [r], if S.w r = .forced then t.notes.length + 1 else t.safe⟩
def CM.o : CM → Option O | .yes => some .yes | .no => some .no | _ => none
def HM.o : HM → Option O | .yes => some .yes | .no => some .no | _ => none
def HM.ended : HM → Bool | .yes => true | .no => true | .empty => true | _ => false
def Pre.o : Pre → Option O | .no => some .no | .yes => some .yes | .wait => none
def said (S : Sh) (s : Seat) : Option O := match s.mind with
  | .yes => some .yes
  | .no => some .no
  | .gone => S.pre.o
  | _ => none
def lefts (t : Tape) : List Nat := (List.range (t.notes.length + 1 - t.safe)).map (t.safe + ·)
def askActs (m : CM) (rs : List Room) : List Act := if m = .asking then .decide .no :: (if rs.all (·.voted) then [.decide .yes] else []) else []
def forgetActs (S : Sh) (m : CM) (rs : List Room) : List Act := match m.o with
  | some o => if !S.ans.has o || rs.all (·.rep.has o) then [.forget] else []
  | none => []
def chairActs (S : Sh) (s : Seat) (rs : List Room) : List Act := match s.mind with
  | .new => [.ask]
  | m => (lefts s.tape).map .down ++ askActs m rs ++ forgetActs S m rs
def letterActs (k : Nat) (r : Room) (o : O) : List Act :=
  (if r.mind = .ready ∨ (r.mind = .idle ∧ o = .no) then [.hear k o] else []) ++ (if r.mind.ended && !r.rep.has o then [.answer k o] else [])
def idleActs (s : Seat) (k : Nat) (r : Room) : List Act := if r.mind = .idle then .refuse k :: (if s.mind = .new then [] else [.vote k]) else []
def clearActs (k : Nat) (r : Room) : List Act := if r.mind = .yes ∨ r.mind = .no then [.clear k] else []
def tellActs (S : Sh) (s : Seat) (k : Nat) (r : Room) : List Act := match said S s with | some o => if r.told.has o then [] else [.tell k] | none => []
def roomActs (S : Sh) (s : Seat) (k : Nat) (r : Room) : List Act :=
  (lefts r.tape).map (.fall k) ++ idleActs s k r ++ (r.told.l.map (letterActs k r)).flatten ++ clearActs k r ++ tellActs S s k r
def roomsActs (S : Sh) (s : Seat) : Nat → List Room → List Act
  | _, [] => []
  | k, r :: rs => roomActs S s k r ++ roomsActs S s (k + 1) rs
def acts (S : Sh) (t : Stand) : List Act := chairActs S t.seat t.rooms ++ roomsActs S t.seat 0 t.rooms
def chairLeft : Rec → CM | .yes => .yes | _ => .no
def houseLeft : Rec → HM | .ready => .ready | .agreed => .yes | _ => .no
def lastMind {α : Type} (f : Rec → α) (z : α) (l : List Rec) : α := match l.getLast? with | some r => f r | none => z
def seatBehind (S : Sh) (s : Seat) : Act → Seat
  | .ask => ⟨.asking, write S s.tape .begin, s.dec⟩
  | .decide .no => ⟨.no, write S s.tape .no, s.dec⟩
  | .decide .yes => ⟨.yes, write S s.tape .yes, true⟩
  | .forget => ⟨.gone, ⟨[], 0⟩, s.dec⟩
  | .down l => ⟨lastMind chairLeft .gone (s.tape.notes.take l), ⟨s.tape.notes.take l, (s.tape.notes.take l).length⟩, s.dec⟩
  | _ => s
def roomFallen (r : Room) (l : Nat) : Room := { r with mind := lastMind houseLeft .empty (r.tape.notes.take l), tape := ⟨r.tape.notes.take l, l⟩, dropped := r.dropped || ((r.tape.notes.take l).isEmpty && decide (r.mind ≠ .empty)) }
def roomBehind (S : Sh) (s : Seat) (r : Room) : Act → Room
  | .vote _ => { r with mind := .ready, tape := write S r.tape .ready, voted := true }
  | .tell _ => match said S s with | some o => { r with told := r.told.add o } | none => r
  | .answer _ o => { r with rep := r.rep.add o }
  | .clear _ => { r with mind := .empty, tape := ⟨[], 0⟩ }
  | .fall _ l => roomFallen r l
  | .hear _ .yes => { r with mind := .yes, tape := write S r.tape .agreed, took := true }
  | _ => { r with mind := .no, tape := write S r.tape .refused, dropped := true }
def Act.at : Act → Option Nat
  | .vote k => some k | .refuse k => some k | .tell k => some k | .hear k _ => some k | .answer k _ => some k | .clear k => some k | .fall k _ => some k | _ => none
def behind (S : Sh) (t : Stand) (a : Act) : Stand := match a.at with
  | none => ⟨seatBehind S t.seat a, t.rooms⟩
  | some k => ⟨t.seat, t.rooms.modify k (roomBehind S t.seat · a)⟩
def first (m : Nat) : Stand := ⟨⟨.new, ⟨[], 0⟩, false⟩, List.replicate m ⟨.idle, ⟨[], 0⟩, false, ⟨false, false⟩, ⟨false, false⟩, false, false⟩⟩

/-! ### how it stands as data -/
theorem beq_str {a b : Str} : PyData.eqv (.str a) (.str b) = (a == b) := rfl
theorem Rec.beq (a b : Rec) : (a.s == b.s) = decide (a = b) := by cases a <;> cases b <;> decide +kernel
theorem Wd.beq (a b : Wd) : (a.s == b.s) = decide (a = b) := by cases a <;> cases b <;> decide +kernel
theorem O.beq (a b : O) : (a.s == b.s) = decide (a = b) := by cases a <;> cases b <;> decide +kernel
theorem Rec.eqv (a b : Rec) : PyData.eqv a.d b.d = decide (a = b) := Rec.beq a b
theorem O.eqv (a b : O) : PyData.eqv a.d b.d = decide (a = b) := O.beq a b
theorem any_rec (l : List Rec) (r : Rec) : ((l.map Rec.d).any fun z => PyData.eqv z r.d) = decide (r ∈ l) := by
  induction l with
  | nil => simp
  | cons x l ih =>
    rw [List.map_cons, List.any_cons, ih, Rec.eqv]
    by_cases h : x = r
    · subst h; simp
    · simp [h, Ne.symm h]
/-- kinds: without dicts, not deep -/
def Fit (n : Nat) (d : PyData) : Prop := d.canLay0 = true ∧ d.depth ≤ n
theorem Fit.mono {n m : Nat} {d : PyData} (h : Fit n d) (l : n ≤ m) : Fit m d := ⟨h.1, Nat.le_trans h.2 l⟩
theorem fitAll {n : Nat} : ∀ {ds : List PyData}, (∀ d ∈ ds, Fit n d) → PyData.canLayAll0 ds = true ∧ PyData.depthAll ds ≤ n
  | [], _ => ⟨rfl, Nat.zero_le _⟩
  | d :: ds, h => by
    obtain ⟨h1, h2⟩ := h d List.mem_cons_self
    obtain ⟨h3, h4⟩ := fitAll fun e he => h e (List.mem_cons_of_mem _ he)
    refine ⟨?_, ?_⟩
    · rw [PyData.canLayAll0, h1, h3]; rfl
    · rw [PyData.depthAll]; exact Nat.max_le.mpr ⟨h2, h4⟩
theorem fit_tup {n : Nat} {ds : List PyData} (h : ∀ d ∈ ds, Fit n d) : Fit (n + 1) (.tuple ds) := by
  obtain ⟨h1, h2⟩ := fitAll h
  exact ⟨by rw [PyData.canLay0]; exact h1, by rw [PyData.depth]; omega⟩
theorem fit_lst {n : Nat} {ds : List PyData} (h : ∀ d ∈ ds, Fit n d) : Fit (n + 1) (.list ds) := by
  obtain ⟨h1, h2⟩ := fitAll h
  exact ⟨by rw [PyData.canLay0]; exact h1, by rw [PyData.depth]; omega⟩
theorem fit_int (i : Int) : Fit 0 (.int i) := ⟨rfl, Nat.le_refl _⟩
theorem fit_bool (b : Bool) : Fit 0 (.bool b) := ⟨rfl, Nat.le_refl _⟩
theorem fit_rec (r : Rec) : Fit 0 r.d := ⟨by cases r <;> decide +kernel, by cases r <;> exact Nat.le_refl _⟩
theorem fit_o (o : O) : Fit 0 o.d := ⟨by cases o <;> decide +kernel, by cases o <;> exact Nat.le_refl _⟩
theorem fit_cm (m : CM) : Fit 0 (.str m.s) := ⟨by cases m <;> decide +kernel, Nat.le_refl _⟩
theorem fit_hm (m : HM) : Fit 0 (.str m.s) := ⟨by cases m <;> decide +kernel, Nat.le_refl _⟩
theorem Fit.shaped {n : Nat} {d : PyData} (h : Fit n d) (l : n ≤ 64 := by decide) : SeqAt.shaped d = true := by
  unfold SeqAt.shaped
  rw [h.1, decide_eq_true (Nat.le_trans h.2 l)]
  rfl
theorem fit_os (x : OS) : Fit 1 x.d := fit_tup fun d hd => by
  obtain ⟨o, _, rfl⟩ := List.mem_map.mp hd
  exact fit_o o
theorem fit_notes (l : List Rec) : Fit 1 (.tuple (l.map Rec.d)) := fit_tup fun d hd => by
  obtain ⟨o, _, rfl⟩ := List.mem_map.mp hd
  exact fit_rec o
theorem fit_tape (t : Tape) : Fit 2 t.d := fit_tup fun d hd => by
  simp only [List.mem_cons, List.not_mem_nil, or_false] at hd
  rcases hd with rfl | rfl
  · exact fit_notes _
  · exact (fit_int _).mono (by decide)
theorem fit_seat (s : Seat) : Fit 3 s.d := fit_tup fun d hd => by
  simp only [List.mem_cons, List.not_mem_nil, or_false] at hd
  rcases hd with rfl | rfl | rfl
  · exact (fit_cm _).mono (by decide)
  · exact fit_tape _
  · exact (fit_bool _).mono (by decide)
theorem fit_room (r : Room) : Fit 3 r.d := fit_tup fun d hd => by
  simp only [List.mem_cons, List.not_mem_nil, or_false] at hd
  rcases hd with rfl | rfl | rfl | rfl | rfl | rfl | rfl
  · exact (fit_hm _).mono (by decide)
  · exact fit_tape _
  · exact (fit_bool _).mono (by decide)
  · exact (fit_os _).mono (by decide)
  · exact (fit_os _).mono (by decide)
  · exact (fit_bool _).mono (by decide)
  · exact (fit_bool _).mono (by decide)
theorem fit_rooms (l : List Room) : Fit 4 (.tuple (l.map Room.d)) := fit_tup fun d hd => by
  obtain ⟨o, _, rfl⟩ := List.mem_map.mp hd
  exact fit_room o
theorem fit_stand (s : Stand) : Fit 5 s.d := fit_tup fun d hd => by
  simp only [List.mem_cons, List.not_mem_nil, or_false] at hd
  rcases hd with rfl | rfl
  · exact (fit_seat _).mono (by decide)
  · exact fit_rooms _
theorem lit {x : Str} (h : (PyData.str x).canLay0 = true) : Fit 0 (.str x) := ⟨h, Nat.le_refl _⟩
theorem fit_act (a : Act) : Fit 1 a.d := fit_tup fun d hd => by
  cases a <;> simp only [Act.ds, List.mem_cons, List.not_mem_nil, or_false] at hd
  all_goals first
    | (subst hd; exact lit (by decide +kernel))
    | (rcases hd with rfl | rfl <;> first | exact lit (by decide +kernel) | exact fit_int _ | exact fit_o _)
    | (rcases hd with rfl | rfl | rfl <;> first | exact lit (by decide +kernel) | exact fit_int _ | exact fit_o _)
theorem int_eqv (i j : Nat) : PyData.eqv (.int i) (.int j) = decide (i = j) := by
  show (((i : Int) == (j : Int)) : Bool) = _
  rw [Bool.eq_iff_iff, beq_iff_eq, decide_eq_true_eq]
  omega
theorem act_eqv (a b : Act) : PyData.eqv a.d b.d = decide (a = b) := by
  show PyData.eqvAll a.ds b.ds = _
  cases a <;> cases b <;> first
    | rfl
    | (show (_ && PyData.eqvAll _ _) = _; rw [decide_eq_false (by intro h; cases h)]; exact Bool.and_eq_false_iff.mpr (.inl (by decide +kernel)))
    | (simp only [Act.ds, PyData.eqvAll, int_eqv, O.eqv, beq_str, beq_self_eq_true, Bool.true_and, Bool.and_true, Act.vote.injEq, Act.refuse.injEq, Act.decide.injEq, Act.tell.injEq, Act.clear.injEq, Act.down.injEq]; done)
    | (simp only [Act.ds, PyData.eqvAll, int_eqv, O.eqv, beq_str, beq_self_eq_true, Bool.true_and, Bool.and_true, Act.hear.injEq, Act.answer.injEq, Act.fall.injEq, Bool.decide_and])
theorem any_act (l : List Act) (a : Act) : ((l.map Act.d).any fun z => PyData.eqv z a.d) = decide (a ∈ l) := by
  induction l with
  | nil => simp
  | cons x l ih =>
    rw [List.map_cons, List.any_cons, ih, act_eqv]
    by_cases h : x = a
    · subst h; simp
    · simp [h, Ne.symm h]
theorem wal_of {x y : PyData} {xs ys : List PyData} (h : PySem.W.alike x y = true) (k : Rw.wal xs ys = true) : Rw.wal (x :: xs) (y :: ys) = true := by
  rw [Rw.wal, h, k, Bool.or_true]
  rfl
theorem alike_str (a b : Str) : PySem.W.alike (.str a) (.str b) = true := by simp [PySem.W.alike]
theorem alike_int (a b : Int) : PySem.W.alike (.int a) (.int b) = true := by simp [PySem.W.alike]
theorem wal_nil : Rw.wal [] [] = true := rfl
theorem wal_ne {x y : PyData} {xs ys : List PyData} (h : PySem.W.alike x y = true) (k : PyData.eqv x y = false) : Rw.wal (x :: xs) (y :: ys) = true := by
  rw [Rw.wal, h, k]
  rfl
theorem wal_act (a b : Act) : Rw.wal (Rw.rowOf a.d) (Rw.rowOf b.d) = true := by
  show Rw.wal a.ds b.ds = true
  cases a <;> cases b <;> first
    | exact wal_ne (alike_str _ _) (by decide +kernel)
    | exact wal_of (alike_str _ _) wal_nil
    | exact wal_of (alike_str _ _) (wal_of (alike_int _ _) wal_nil)
    | exact wal_of (alike_str _ _) (wal_of (alike_str _ _) wal_nil)
    | exact wal_of (alike_str _ _) (wal_of (alike_int _ _) (wal_of (alike_str _ _) wal_nil))
    | exact wal_of (alike_str _ _) (wal_of (alike_int _ _) (wal_of (alike_int _ _) wal_nil))
theorem rows_acts (l : List Act) : rowsB (l.map Act.d) = true := by
  unfold rowsB
  rw [Bool.and_eq_true, List.all_eq_true, List.all_eq_true]
  have each : ∀ d ∈ l.map Act.d, ∃ a : Act, d = a.d := fun d hd => by
    obtain ⟨a, _, rfl⟩ := List.mem_map.mp hd
    exact ⟨a, rfl⟩
  refine ⟨fun d hd => ?_, fun d hd => List.all_eq_true.mpr fun e he => ?_⟩
  · obtain ⟨a, rfl⟩ := each d hd
    have h := fit_act a
    have q : PyData.depthAll (Rw.rowOf a.d) ≤ 60 := by
      have h2 : PyData.depth (.tuple a.ds) ≤ 1 := h.2
      rw [PyData.depth] at h2
      show PyData.depthAll a.ds ≤ 60
      omega
    rw [h.1, decide_eq_true q]
    cases a <;> rfl
  · obtain ⟨a, rfl⟩ := each d hd
    obtain ⟨b, rfl⟩ := each e he
    exact wal_act a b
/-- the acts, ascending -/
def sortActs (l : List Act) : List PyData := srtR (l.map Act.d)
theorem sortActs_perm (l : List Act) : (sortActs l).Perm (l.map Act.d) := isort_perm _
theorem any_sorted (l : List Act) (a : Act) : ((sortActs l).any fun z => PyData.eqv z a.d) = decide (a ∈ l) := by
  rw [← any_act]
  exact (sortActs_perm l).any_eq
theorem fit_sorted (l : List Act) : Fit 2 (.list (sortActs l)) := fit_lst fun d hd => by
  obtain ⟨a, _, rfl⟩ := List.mem_map.mp ((sortActs_perm l).mem_iff.mp hd)
  exact fit_act a
/-! ### steps over them -/
def okS (x : Str) : Bool := (PyData.str x).canLay0
theorem okS_fit {x : Str} (h : okS x = true) : Fit 0 (.str x) := ⟨h, Nat.le_refl _⟩
theorem eq_tx {neg : Bool} {x y : Str} (h : okS x = true) (h' : okS y = true) : kEq neg (.im (.str x)) (.im (.str y)) = some (.im (.bool (neg != (x == y)))) := kEq_ok rfl rfl (okS_fit h).shaped (okS_fit h').shaped
theorem in_tx1 {neg : Bool} {x a : Str} (h : okS x = true) (ha : okS a = true) : kIn neg (.im (.str x)) (.im (.tuple [.str a])) = some (.im (.bool (neg != (a == x)))) := by
  rw [kIn_ok (d := .str x) (es := [.str a]) rfl rfl (okS_fit h).shaped]
  · show some (Ent.im (.bool (neg != (a == x || false)))) = _
    rw [Bool.or_false]
  · refine (fit_lst (n := 0) fun d hd => ?_).shaped
    simp only [List.mem_cons, List.not_mem_nil, or_false] at hd
    subst hd
    exact okS_fit ha
theorem in_tx2 {neg : Bool} {x a b : Str} (h : okS x = true) (ha : okS a = true) (hb : okS b = true) : kIn neg (.im (.str x)) (.im (.tuple [.str a, .str b])) = some (.im (.bool (neg != (a == x || b == x)))) := by
  rw [kIn_ok (d := .str x) (es := [.str a, .str b]) rfl rfl (okS_fit h).shaped]
  · show some (Ent.im (.bool (neg != (a == x || (b == x || false))))) = _
    rw [Bool.or_false]
  · refine (fit_lst (n := 0) fun d hd => ?_).shaped
    simp only [List.mem_cons, List.not_mem_nil, or_false] at hd
    rcases hd with rfl | rfl
    · exact okS_fit ha
    · exact okS_fit hb
theorem in_tx3 {neg : Bool} {x a b c : Str} (h : okS x = true) (ha : okS a = true) (hb : okS b = true) (hc : okS c = true) : kIn neg (.im (.str x)) (.im (.tuple [.str a, .str b, .str c])) = some (.im (.bool (neg != (a == x || (b == x || c == x))))) := by
  rw [kIn_ok (d := .str x) (es := [.str a, .str b, .str c]) rfl rfl (okS_fit h).shaped]
  · show some (Ent.im (.bool (neg != (a == x || (b == x || (c == x || false)))))) = _
    rw [Bool.or_false]
  · refine (fit_lst (n := 0) fun d hd => ?_).shaped
    simp only [List.mem_cons, List.not_mem_nil, or_false] at hd
    rcases hd with rfl | rfl | rfl
    · exact okS_fit ha
    · exact okS_fit hb
    · exact okS_fit hc
theorem in_tx4 {neg : Bool} {x a b c e : Str} (h : okS x = true) (ha : okS a = true) (hb : okS b = true) (hc : okS c = true) (he : okS e = true) : kIn neg (.im (.str x)) (.im (.tuple [.str a, .str b, .str c, .str e])) = some (.im (.bool (neg != (a == x || (b == x || (c == x || e == x)))))) := by
  rw [kIn_ok (d := .str x) (es := [.str a, .str b, .str c, .str e]) rfl rfl (okS_fit h).shaped]
  · show some (Ent.im (.bool (neg != (a == x || (b == x || (c == x || (e == x || false))))))) = _
    rw [Bool.or_false]
  · refine (fit_lst (n := 0) fun d hd => ?_).shaped
    simp only [List.mem_cons, List.not_mem_nil, or_false] at hd
    rcases hd with rfl | rfl | rfl | rfl
    · exact okS_fit ha
    · exact okS_fit hb
    · exact okS_fit hc
    · exact okS_fit he
theorem ok_cm (m : CM) : okS m.s = true := (fit_cm m).1
theorem ok_hm (m : HM) : okS m.s = true := (fit_hm m).1
theorem ok_rec (m : Rec) : okS m.s = true := (fit_rec m).1
theorem ok_o (m : O) : okS m.s = true := (fit_o m).1
theorem ok_wd (m : Wd) : okS m.s = true := by cases m <;> decide +kernel
theorem ok_pre (m : Pre) : okS m.s = true := by cases m <;> decide +kernel
theorem tx_none : okS "none" = true := by decide +kernel
theorem tx_lazy : okS "lazy" = true := by decide +kernel
theorem tx_forced : okS "forced" = true := by decide +kernel
theorem tx_no : okS "no" = true := by decide +kernel
theorem tx_yes : okS "yes" = true := by decide +kernel
theorem tx_wait : okS "wait" = true := by decide +kernel
theorem tx_new : okS "new" = true := by decide +kernel
theorem tx_asking : okS "asking" = true := by decide +kernel
theorem tx_gone : okS "gone" = true := by decide +kernel
theorem tx_idle : okS "idle" = true := by decide +kernel
theorem tx_ready : okS "ready" = true := by decide +kernel
theorem tx_empty : okS "empty" = true := by decide +kernel
theorem tx_begin : okS "begin" = true := by decide +kernel
theorem tx_agreed : okS "agreed" = true := by decide +kernel
theorem tx_refused : okS "refused" = true := by decide +kernel
theorem tx_words : okS "words" = true := by decide +kernel
theorem tx_answers : okS "answers" = true := by decide +kernel
theorem tx_presume : okS "presume" = true := by decide +kernel
theorem tx_ask : okS "ask" = true := by decide +kernel
theorem tx_vote : okS "vote" = true := by decide +kernel
theorem tx_refuse : okS "refuse" = true := by decide +kernel
theorem tx_decide : okS "decide" = true := by decide +kernel
theorem tx_tell : okS "tell" = true := by decide +kernel
theorem tx_hear : okS "hear" = true := by decide +kernel
theorem tx_answer : okS "answer" = true := by decide +kernel
theorem tx_forget : okS "forget" = true := by decide +kernel
theorem tx_clear : okS "clear" = true := by decide +kernel
theorem tx_down : okS "down" = true := by decide +kernel
theorem tx_fall : okS "fall" = true := by decide +kernel
theorem cm_new (m : CM) : (m.s == ("new" : Str)) = decide (m = .new) := by cases m <;> decide +kernel
theorem cm_newR (m : CM) : (("new" : Str) == m.s) = decide (m = .new) := by cases m <;> decide +kernel
theorem cm_asking (m : CM) : (m.s == ("asking" : Str)) = decide (m = .asking) := by cases m <;> decide +kernel
theorem cm_askingR (m : CM) : (("asking" : Str) == m.s) = decide (m = .asking) := by cases m <;> decide +kernel
theorem cm_yes (m : CM) : (m.s == ("yes" : Str)) = decide (m = .yes) := by cases m <;> decide +kernel
theorem cm_yesR (m : CM) : (("yes" : Str) == m.s) = decide (m = .yes) := by cases m <;> decide +kernel
theorem cm_no (m : CM) : (m.s == ("no" : Str)) = decide (m = .no) := by cases m <;> decide +kernel
theorem cm_noR (m : CM) : (("no" : Str) == m.s) = decide (m = .no) := by cases m <;> decide +kernel
theorem cm_gone (m : CM) : (m.s == ("gone" : Str)) = decide (m = .gone) := by cases m <;> decide +kernel
theorem cm_goneR (m : CM) : (("gone" : Str) == m.s) = decide (m = .gone) := by cases m <;> decide +kernel
theorem hm_idle (m : HM) : (m.s == ("idle" : Str)) = decide (m = .idle) := by cases m <;> decide +kernel
theorem hm_idleR (m : HM) : (("idle" : Str) == m.s) = decide (m = .idle) := by cases m <;> decide +kernel
theorem hm_ready (m : HM) : (m.s == ("ready" : Str)) = decide (m = .ready) := by cases m <;> decide +kernel
theorem hm_readyR (m : HM) : (("ready" : Str) == m.s) = decide (m = .ready) := by cases m <;> decide +kernel
theorem hm_yes (m : HM) : (m.s == ("yes" : Str)) = decide (m = .yes) := by cases m <;> decide +kernel
theorem hm_yesR (m : HM) : (("yes" : Str) == m.s) = decide (m = .yes) := by cases m <;> decide +kernel
theorem hm_no (m : HM) : (m.s == ("no" : Str)) = decide (m = .no) := by cases m <;> decide +kernel
theorem hm_noR (m : HM) : (("no" : Str) == m.s) = decide (m = .no) := by cases m <;> decide +kernel
theorem hm_empty (m : HM) : (m.s == ("empty" : Str)) = decide (m = .empty) := by cases m <;> decide +kernel
theorem hm_emptyR (m : HM) : (("empty" : Str) == m.s) = decide (m = .empty) := by cases m <;> decide +kernel
theorem wd_none (m : Wd) : (m.s == ("none" : Str)) = decide (m = .none) := by cases m <;> decide +kernel
theorem wd_noneR (m : Wd) : (("none" : Str) == m.s) = decide (m = .none) := by cases m <;> decide +kernel
theorem wd_lazy (m : Wd) : (m.s == ("lazy" : Str)) = decide (m = .lazy) := by cases m <;> decide +kernel
theorem wd_lazyR (m : Wd) : (("lazy" : Str) == m.s) = decide (m = .lazy) := by cases m <;> decide +kernel
theorem wd_forced (m : Wd) : (m.s == ("forced" : Str)) = decide (m = .forced) := by cases m <;> decide +kernel
theorem wd_forcedR (m : Wd) : (("forced" : Str) == m.s) = decide (m = .forced) := by cases m <;> decide +kernel
theorem o_no (m : O) : (m.s == ("no" : Str)) = decide (m = .no) := by cases m <;> decide +kernel
theorem o_noR (m : O) : (("no" : Str) == m.s) = decide (m = .no) := by cases m <;> decide +kernel
theorem o_yes (m : O) : (m.s == ("yes" : Str)) = decide (m = .yes) := by cases m <;> decide +kernel
theorem o_yesR (m : O) : (("yes" : Str) == m.s) = decide (m = .yes) := by cases m <;> decide +kernel
theorem pre_no (m : Pre) : (m.s == ("no" : Str)) = decide (m = .no) := by cases m <;> decide +kernel
theorem pre_noR (m : Pre) : (("no" : Str) == m.s) = decide (m = .no) := by cases m <;> decide +kernel
theorem pre_wait (m : Pre) : (m.s == ("wait" : Str)) = decide (m = .wait) := by cases m <;> decide +kernel
theorem pre_waitR (m : Pre) : (("wait" : Str) == m.s) = decide (m = .wait) := by cases m <;> decide +kernel
theorem pre_yes (m : Pre) : (m.s == ("yes" : Str)) = decide (m = .yes) := by cases m <;> decide +kernel
theorem pre_yesR (m : Pre) : (("yes" : Str) == m.s) = decide (m = .yes) := by cases m <;> decide +kernel
theorem rec_begin (m : Rec) : (m.s == ("begin" : Str)) = decide (m = .begin) := by cases m <;> decide +kernel
theorem rec_beginR (m : Rec) : (("begin" : Str) == m.s) = decide (m = .begin) := by cases m <;> decide +kernel
theorem rec_yes (m : Rec) : (m.s == ("yes" : Str)) = decide (m = .yes) := by cases m <;> decide +kernel
theorem rec_yesR (m : Rec) : (("yes" : Str) == m.s) = decide (m = .yes) := by cases m <;> decide +kernel
theorem rec_no (m : Rec) : (m.s == ("no" : Str)) = decide (m = .no) := by cases m <;> decide +kernel
theorem rec_noR (m : Rec) : (("no" : Str) == m.s) = decide (m = .no) := by cases m <;> decide +kernel
theorem rec_ready (m : Rec) : (m.s == ("ready" : Str)) = decide (m = .ready) := by cases m <;> decide +kernel
theorem rec_readyR (m : Rec) : (("ready" : Str) == m.s) = decide (m = .ready) := by cases m <;> decide +kernel
theorem rec_agreed (m : Rec) : (m.s == ("agreed" : Str)) = decide (m = .agreed) := by cases m <;> decide +kernel
theorem rec_agreedR (m : Rec) : (("agreed" : Str) == m.s) = decide (m = .agreed) := by cases m <;> decide +kernel
theorem rec_refused (m : Rec) : (m.s == ("refused" : Str)) = decide (m = .refused) := by cases m <;> decide +kernel
theorem rec_refusedR (m : Rec) : (("refused" : Str) == m.s) = decide (m = .refused) := by cases m <;> decide +kernel
theorem dg_words (S : Sh) : kDGet (.im S.d) (.im (.str "words")) = some (.im S.wd) := rfl
theorem dg_answers (S : Sh) : kDGet (.im S.d) (.im (.str "answers")) = some (.im S.ans.d) := rfl
theorem dg_presume (S : Sh) : kDGet (.im S.d) (.im (.str "presume")) = some (.im (.str S.pre.s)) := rfl
theorem dg_word (S : Sh) (r : Rec) : kDGet (.im S.wd) (.im r.d) = some (.im (.str (S.w r).s)) := by cases r <;> rfl
theorem dg_wordS (S : Sh) (r : Rec) : kDGet (.im S.wd) (.im (.str r.s)) = some (.im (.str (S.w r).s)) := dg_word S r
theorem in_notes {neg : Bool} (r : Rec) (l : List Rec) : kIn neg (.im r.d) (.im (.tuple (l.map Rec.d))) = some (.im (.bool (neg != decide (r ∈ l)))) := by
  rw [kIn_ok (d := r.d) (es := l.map Rec.d) rfl rfl (fit_rec r).shaped, any_rec]
  refine (fit_lst (n := 0) fun d hd => ?_).shaped
  obtain ⟨x, _, rfl⟩ := List.mem_map.mp hd
  exact fit_rec x
theorem any_o (x : OS) (o : O) : ((x.l.map O.d).any fun z => PyData.eqv z o.d) = x.has o := by
  obtain ⟨a, b⟩ := x
  cases a <;> cases b <;> cases o <;> decide +kernel
theorem in_os {neg : Bool} (o : O) (x : OS) : kIn neg (.im o.d) (.im x.d) = some (.im (.bool (neg != x.has o))) := by
  rw [kIn_ok (d := o.d) (es := x.l.map O.d) rfl rfl (fit_o o).shaped, any_o]
  refine (fit_lst (n := 0) fun d hd => ?_).shaped
  obtain ⟨x, _, rfl⟩ := List.mem_map.mp hd
  exact fit_o x
theorem in_osS {neg : Bool} (o : O) (x : OS) : kIn neg (.im (.str o.s)) (.im x.d) = some (.im (.bool (neg != x.has o))) := in_os o x
theorem at_0 {x0 : PyData} {l : List PyData} : atI (x0 :: l) 0 = some x0 := atI_nat (by simp)
theorem at_1 {x0 x1 : PyData} {l : List PyData} : atI (x0 :: x1 :: l) 1 = some x1 := atI_nat (by simp)
theorem at_2 {x0 x1 x2 : PyData} {l : List PyData} : atI (x0 :: x1 :: x2 :: l) 2 = some x2 := atI_nat (by simp)
theorem at_3 {x0 x1 x2 x3 : PyData} {l : List PyData} : atI (x0 :: x1 :: x2 :: x3 :: l) 3 = some x3 := atI_nat (by simp)
theorem g_tape {tgs : CGs} {env : Env'} (t : Tape) : cgTup 2 tgs t.d env = tgs [.tuple (t.notes.map Rec.d), .int t.safe] env := rfl
theorem ix_tape0 (t : Tape) : kIx (.im t.d) (.im (.int 0)) = some (.im (.tuple (t.notes.map Rec.d))) := rfl
theorem ix_tape1 (t : Tape) : kIx (.im t.d) (.im (.int 1)) = some (.im (.int t.safe)) := rfl
theorem g_seat {tgs : CGs} {env : Env'} (t : Seat) : cgTup 3 tgs t.d env = tgs [.str t.mind.s, t.tape.d, .bool t.dec] env := rfl
theorem ix_seat0 (t : Seat) : kIx (.im t.d) (.im (.int 0)) = some (.im (.str t.mind.s)) := rfl
theorem ix_seat1 (t : Seat) : kIx (.im t.d) (.im (.int 1)) = some (.im t.tape.d) := rfl
theorem ix_seat2 (t : Seat) : kIx (.im t.d) (.im (.int 2)) = some (.im (.bool t.dec)) := rfl
theorem g_room {tgs : CGs} {env : Env'} (t : Room) : cgTup 7 tgs t.d env = tgs [.str t.mind.s, t.tape.d, .bool t.voted, t.told.d, t.rep.d, .bool t.took, .bool t.dropped] env := rfl
theorem ix_room0 (t : Room) : kIx (.im t.d) (.im (.int 0)) = some (.im (.str t.mind.s)) := rfl
theorem ix_room1 (t : Room) : kIx (.im t.d) (.im (.int 1)) = some (.im (t.tape.d)) := rfl
theorem ix_room2 (t : Room) : kIx (.im t.d) (.im (.int 2)) = some (.im (.bool t.voted)) := rfl
theorem ix_room3 (t : Room) : kIx (.im t.d) (.im (.int 3)) = some (.im (t.told.d)) := rfl
theorem ix_room4 (t : Room) : kIx (.im t.d) (.im (.int 4)) = some (.im (t.rep.d)) := rfl
theorem ix_room5 (t : Room) : kIx (.im t.d) (.im (.int 5)) = some (.im (.bool t.took)) := rfl
theorem ix_room6 (t : Room) : kIx (.im t.d) (.im (.int 6)) = some (.im (.bool t.dropped)) := rfl
theorem g_stand {tgs : CGs} {env : Env'} (t : Stand) : cgTup 2 tgs t.d env = tgs [t.seat.d, .tuple (t.rooms.map Room.d)] env := rfl
theorem ix_stand0 (t : Stand) : kIx (.im t.d) (.im (.int 0)) = some (.im t.seat.d) := rfl
theorem ix_stand1 (t : Stand) : kIx (.im t.d) (.im (.int 1)) = some (.im (.tuple (t.rooms.map Room.d))) := rfl
theorem w_os (x : OS) : walkT (.im x.d) = some (x.l.map O.d) := rfl
/-- whether an outcome that the chair's memory is stands among them -/
def OS.hasM (x : OS) (m : CM) : Bool := match m.o with | some o => x.has o | none => false
theorem any_cm (x : OS) (m : CM) : ((x.l.map O.d).any fun z => PyData.eqv z (.str m.s)) = x.hasM m := by
  obtain ⟨a, b⟩ := x
  cases a <;> cases b <;> cases m <;> decide +kernel
theorem in_cm {neg : Bool} (m : CM) (x : OS) : kIn neg (.im (.str m.s)) (.im x.d) = some (.im (.bool (neg != x.hasM m))) := by
  rw [kIn_ok (d := .str m.s) (es := x.l.map O.d) rfl rfl (fit_cm m).shaped, any_cm]
  refine (fit_lst (n := 0) fun d hd => ?_).shaped
  obtain ⟨x, _, rfl⟩ := List.mem_map.mp hd
  exact fit_o x
theorem eq_nil {neg : Bool} {ds : List PyData} {n : Nat} (h : ∀ d ∈ ds, Fit n d) (hn : n + 1 ≤ 64) : kEq neg (.ow ds) (.ow []) = some (.im (.bool (neg != ds.isEmpty))) := by
  rw [kEq_ok (d := .list ds) (e := .list []) rfl rfl ((fit_lst h).shaped hn) (by rfl)]
  cases ds <;> rfl
theorem eq_nilI {neg : Bool} {ds : List PyData} {n : Nat} (h : ∀ d ∈ ds, Fit n d) (hn : n + 1 ≤ 64) : kEq neg (.im (.list ds)) (.ow []) = some (.im (.bool (neg != ds.isEmpty))) := by
  rw [kEq_ok (d := .list ds) (e := .list []) rfl rfl ((fit_lst h).shaped hn) (by rfl)]
  cases ds <;> rfl
theorem eq_nilT {neg : Bool} {ds : List PyData} {n : Nat} (h : ∀ d ∈ ds, Fit n d) (hn : n + 1 ≤ 64) : kEq neg (.im (.tuple ds)) (.im (.tuple [])) = some (.im (.bool (neg != ds.isEmpty))) := by
  rw [kEq_ok (d := .tuple ds) (e := .tuple []) rfl rfl ((fit_tup h).shaped hn) (by rfl)]
  cases ds <;> rfl
theorem fit_some {α : Type} {enc : α → PyData} {n : Nat} (f : ∀ a, Fit n (enc a)) (l : List α) : ∀ d ∈ l.map enc, Fit n d := fun d hd => by
  obtain ⟨a, _, rfl⟩ := List.mem_map.mp hd
  exact f a
theorem filt_emp {α β : Type} (f : α → β) (p : α → Bool) (l : List α) : ((l.filter fun x => !p x).map f).isEmpty = l.all p := by
  induction l with
  | nil => rfl
  | cons x l ih =>
    rw [List.filter_cons, List.all_cons]
    cases p x with
    | true => simpa using ih
    | false => rfl
theorem rng_lefts (t : Tape) : rngD t.safe (((t.notes.map Rec.d).length : Int) + 1 - t.safe).toNat = (lefts t).map fun l : Nat => PyData.int l := by
  unfold rngD lefts
  rw [List.map_map, List.length_map]
  have e : ((t.notes.length : Int) + 1 - t.safe).toNat = t.notes.length + 1 - t.safe := by omega
  rw [e]
  refine List.map_congr_left fun i _ => ?_
  simp
/-- whose record it is -/
def Rec.chair : Rec → Bool | .begin => true | .yes => true | .no => true | _ => false
/-- a tape as it can stand -/
def TOk (t : Tape) : Prop := t.notes.length ≤ 1000 ∧ t.safe ≤ 1000
theorem rng_ok {t : Tape} (h : TOk t) : ((-(2 ^ 62) ≤ (t.safe : Int) ∧ (t.safe : Int) < 2 ^ 62 ∧ -(2 ^ 62) ≤ ((t.notes.map Rec.d).length : Int) + 1 ∧ ((t.notes.map Rec.d).length : Int) + 1 < 2 ^ 62) ∧ (((t.notes.map Rec.d).length : Int) + 1 - t.safe).toNat ≤ sizeLine) := by
  obtain ⟨h1, h2⟩ := h
  rw [List.length_map]
  exact ⟨by omega, Nat.le_trans (m := 1001) (by omega) (by decide)⟩
theorem lefts_len (t : Tape) (h : TOk t) : (lefts t).length ≤ 1001 := by
  unfold lefts
  rw [List.length_map, List.length_range]
  have := h.1
  omega
theorem big : 2000000 < sizeLine := by decide
theorem eq_ox {neg : Bool} {o : O} {y : Str} (h : okS y = true) : kEq neg (.im o.d) (.im (.str y)) = some (.im (.bool (neg != (o.s == y)))) := eq_tx (ok_o o) h
theorem eq_xo {neg : Bool} {o : O} {y : Str} (h : okS y = true) : kEq neg (.im (.str y)) (.im o.d) = some (.im (.bool (neg != (y == o.s)))) := eq_tx h (ok_o o)
theorem eq_rx {neg : Bool} {o : Rec} {y : Str} (h : okS y = true) : kEq neg (.im o.d) (.im (.str y)) = some (.im (.bool (neg != (o.s == y)))) := eq_tx (ok_rec o) h
theorem in_ox2 {neg : Bool} {o : O} {a b : Str} (ha : okS a = true) (hb : okS b = true) : kIn neg (.im o.d) (.im (.tuple [.str a, .str b])) = some (.im (.bool (neg != (a == o.s || b == o.s)))) := in_tx2 (ok_o o) ha hb
theorem eq_oo {neg : Bool} {o o' : O} : kEq neg (.im o.d) (.im o'.d) = some (.im (.bool (neg != decide (o = o')))) := by
  rw [← O.beq]
  exact eq_tx (ok_o o) (ok_o o')
theorem nd_o (o : O) : isNonD o.d = false := rfl
theorem sort_acts (l : List Act) : kSorted (.list (l.map Act.d)) = some (.ow (sortActs l)) := guard_true (rows_acts l)
theorem nq_ask_vote : (("ask" : Str) == ("vote" : Str)) = false := by decide +kernel
theorem nq_ask_refuse : (("ask" : Str) == ("refuse" : Str)) = false := by decide +kernel
theorem nq_ask_decide : (("ask" : Str) == ("decide" : Str)) = false := by decide +kernel
theorem nq_ask_tell : (("ask" : Str) == ("tell" : Str)) = false := by decide +kernel
theorem nq_ask_hear : (("ask" : Str) == ("hear" : Str)) = false := by decide +kernel
theorem nq_ask_answer : (("ask" : Str) == ("answer" : Str)) = false := by decide +kernel
theorem nq_ask_forget : (("ask" : Str) == ("forget" : Str)) = false := by decide +kernel
theorem nq_ask_clear : (("ask" : Str) == ("clear" : Str)) = false := by decide +kernel
theorem nq_ask_down : (("ask" : Str) == ("down" : Str)) = false := by decide +kernel
theorem nq_ask_fall : (("ask" : Str) == ("fall" : Str)) = false := by decide +kernel
theorem nq_vote_ask : (("vote" : Str) == ("ask" : Str)) = false := by decide +kernel
theorem nq_vote_refuse : (("vote" : Str) == ("refuse" : Str)) = false := by decide +kernel
theorem nq_vote_decide : (("vote" : Str) == ("decide" : Str)) = false := by decide +kernel
theorem nq_vote_tell : (("vote" : Str) == ("tell" : Str)) = false := by decide +kernel
theorem nq_vote_hear : (("vote" : Str) == ("hear" : Str)) = false := by decide +kernel
theorem nq_vote_answer : (("vote" : Str) == ("answer" : Str)) = false := by decide +kernel
theorem nq_vote_forget : (("vote" : Str) == ("forget" : Str)) = false := by decide +kernel
theorem nq_vote_clear : (("vote" : Str) == ("clear" : Str)) = false := by decide +kernel
theorem nq_vote_down : (("vote" : Str) == ("down" : Str)) = false := by decide +kernel
theorem nq_vote_fall : (("vote" : Str) == ("fall" : Str)) = false := by decide +kernel
theorem nq_refuse_ask : (("refuse" : Str) == ("ask" : Str)) = false := by decide +kernel
theorem nq_refuse_vote : (("refuse" : Str) == ("vote" : Str)) = false := by decide +kernel
theorem nq_refuse_decide : (("refuse" : Str) == ("decide" : Str)) = false := by decide +kernel
theorem nq_refuse_tell : (("refuse" : Str) == ("tell" : Str)) = false := by decide +kernel
theorem nq_refuse_hear : (("refuse" : Str) == ("hear" : Str)) = false := by decide +kernel
theorem nq_refuse_answer : (("refuse" : Str) == ("answer" : Str)) = false := by decide +kernel
theorem nq_refuse_forget : (("refuse" : Str) == ("forget" : Str)) = false := by decide +kernel
theorem nq_refuse_clear : (("refuse" : Str) == ("clear" : Str)) = false := by decide +kernel
theorem nq_refuse_down : (("refuse" : Str) == ("down" : Str)) = false := by decide +kernel
theorem nq_refuse_fall : (("refuse" : Str) == ("fall" : Str)) = false := by decide +kernel
theorem nq_decide_ask : (("decide" : Str) == ("ask" : Str)) = false := by decide +kernel
theorem nq_decide_vote : (("decide" : Str) == ("vote" : Str)) = false := by decide +kernel
theorem nq_decide_refuse : (("decide" : Str) == ("refuse" : Str)) = false := by decide +kernel
theorem nq_decide_tell : (("decide" : Str) == ("tell" : Str)) = false := by decide +kernel
theorem nq_decide_hear : (("decide" : Str) == ("hear" : Str)) = false := by decide +kernel
theorem nq_decide_answer : (("decide" : Str) == ("answer" : Str)) = false := by decide +kernel
theorem nq_decide_forget : (("decide" : Str) == ("forget" : Str)) = false := by decide +kernel
theorem nq_decide_clear : (("decide" : Str) == ("clear" : Str)) = false := by decide +kernel
theorem nq_decide_down : (("decide" : Str) == ("down" : Str)) = false := by decide +kernel
theorem nq_decide_fall : (("decide" : Str) == ("fall" : Str)) = false := by decide +kernel
theorem nq_tell_ask : (("tell" : Str) == ("ask" : Str)) = false := by decide +kernel
theorem nq_tell_vote : (("tell" : Str) == ("vote" : Str)) = false := by decide +kernel
theorem nq_tell_refuse : (("tell" : Str) == ("refuse" : Str)) = false := by decide +kernel
theorem nq_tell_decide : (("tell" : Str) == ("decide" : Str)) = false := by decide +kernel
theorem nq_tell_hear : (("tell" : Str) == ("hear" : Str)) = false := by decide +kernel
theorem nq_tell_answer : (("tell" : Str) == ("answer" : Str)) = false := by decide +kernel
theorem nq_tell_forget : (("tell" : Str) == ("forget" : Str)) = false := by decide +kernel
theorem nq_tell_clear : (("tell" : Str) == ("clear" : Str)) = false := by decide +kernel
theorem nq_tell_down : (("tell" : Str) == ("down" : Str)) = false := by decide +kernel
theorem nq_tell_fall : (("tell" : Str) == ("fall" : Str)) = false := by decide +kernel
theorem nq_hear_ask : (("hear" : Str) == ("ask" : Str)) = false := by decide +kernel
theorem nq_hear_vote : (("hear" : Str) == ("vote" : Str)) = false := by decide +kernel
theorem nq_hear_refuse : (("hear" : Str) == ("refuse" : Str)) = false := by decide +kernel
theorem nq_hear_decide : (("hear" : Str) == ("decide" : Str)) = false := by decide +kernel
theorem nq_hear_tell : (("hear" : Str) == ("tell" : Str)) = false := by decide +kernel
theorem nq_hear_answer : (("hear" : Str) == ("answer" : Str)) = false := by decide +kernel
theorem nq_hear_forget : (("hear" : Str) == ("forget" : Str)) = false := by decide +kernel
theorem nq_hear_clear : (("hear" : Str) == ("clear" : Str)) = false := by decide +kernel
theorem nq_hear_down : (("hear" : Str) == ("down" : Str)) = false := by decide +kernel
theorem nq_hear_fall : (("hear" : Str) == ("fall" : Str)) = false := by decide +kernel
theorem nq_answer_ask : (("answer" : Str) == ("ask" : Str)) = false := by decide +kernel
theorem nq_answer_vote : (("answer" : Str) == ("vote" : Str)) = false := by decide +kernel
theorem nq_answer_refuse : (("answer" : Str) == ("refuse" : Str)) = false := by decide +kernel
theorem nq_answer_decide : (("answer" : Str) == ("decide" : Str)) = false := by decide +kernel
theorem nq_answer_tell : (("answer" : Str) == ("tell" : Str)) = false := by decide +kernel
theorem nq_answer_hear : (("answer" : Str) == ("hear" : Str)) = false := by decide +kernel
theorem nq_answer_forget : (("answer" : Str) == ("forget" : Str)) = false := by decide +kernel
theorem nq_answer_clear : (("answer" : Str) == ("clear" : Str)) = false := by decide +kernel
theorem nq_answer_down : (("answer" : Str) == ("down" : Str)) = false := by decide +kernel
theorem nq_answer_fall : (("answer" : Str) == ("fall" : Str)) = false := by decide +kernel
theorem nq_forget_ask : (("forget" : Str) == ("ask" : Str)) = false := by decide +kernel
theorem nq_forget_vote : (("forget" : Str) == ("vote" : Str)) = false := by decide +kernel
theorem nq_forget_refuse : (("forget" : Str) == ("refuse" : Str)) = false := by decide +kernel
theorem nq_forget_decide : (("forget" : Str) == ("decide" : Str)) = false := by decide +kernel
theorem nq_forget_tell : (("forget" : Str) == ("tell" : Str)) = false := by decide +kernel
theorem nq_forget_hear : (("forget" : Str) == ("hear" : Str)) = false := by decide +kernel
theorem nq_forget_answer : (("forget" : Str) == ("answer" : Str)) = false := by decide +kernel
theorem nq_forget_clear : (("forget" : Str) == ("clear" : Str)) = false := by decide +kernel
theorem nq_forget_down : (("forget" : Str) == ("down" : Str)) = false := by decide +kernel
theorem nq_forget_fall : (("forget" : Str) == ("fall" : Str)) = false := by decide +kernel
theorem nq_clear_ask : (("clear" : Str) == ("ask" : Str)) = false := by decide +kernel
theorem nq_clear_vote : (("clear" : Str) == ("vote" : Str)) = false := by decide +kernel
theorem nq_clear_refuse : (("clear" : Str) == ("refuse" : Str)) = false := by decide +kernel
theorem nq_clear_decide : (("clear" : Str) == ("decide" : Str)) = false := by decide +kernel
theorem nq_clear_tell : (("clear" : Str) == ("tell" : Str)) = false := by decide +kernel
theorem nq_clear_hear : (("clear" : Str) == ("hear" : Str)) = false := by decide +kernel
theorem nq_clear_answer : (("clear" : Str) == ("answer" : Str)) = false := by decide +kernel
theorem nq_clear_forget : (("clear" : Str) == ("forget" : Str)) = false := by decide +kernel
theorem nq_clear_down : (("clear" : Str) == ("down" : Str)) = false := by decide +kernel
theorem nq_clear_fall : (("clear" : Str) == ("fall" : Str)) = false := by decide +kernel
theorem nq_down_ask : (("down" : Str) == ("ask" : Str)) = false := by decide +kernel
theorem nq_down_vote : (("down" : Str) == ("vote" : Str)) = false := by decide +kernel
theorem nq_down_refuse : (("down" : Str) == ("refuse" : Str)) = false := by decide +kernel
theorem nq_down_decide : (("down" : Str) == ("decide" : Str)) = false := by decide +kernel
theorem nq_down_tell : (("down" : Str) == ("tell" : Str)) = false := by decide +kernel
theorem nq_down_hear : (("down" : Str) == ("hear" : Str)) = false := by decide +kernel
theorem nq_down_answer : (("down" : Str) == ("answer" : Str)) = false := by decide +kernel
theorem nq_down_forget : (("down" : Str) == ("forget" : Str)) = false := by decide +kernel
theorem nq_down_clear : (("down" : Str) == ("clear" : Str)) = false := by decide +kernel
theorem nq_down_fall : (("down" : Str) == ("fall" : Str)) = false := by decide +kernel
theorem nq_fall_ask : (("fall" : Str) == ("ask" : Str)) = false := by decide +kernel
theorem nq_fall_vote : (("fall" : Str) == ("vote" : Str)) = false := by decide +kernel
theorem nq_fall_refuse : (("fall" : Str) == ("refuse" : Str)) = false := by decide +kernel
theorem nq_fall_decide : (("fall" : Str) == ("decide" : Str)) = false := by decide +kernel
theorem nq_fall_tell : (("fall" : Str) == ("tell" : Str)) = false := by decide +kernel
theorem nq_fall_hear : (("fall" : Str) == ("hear" : Str)) = false := by decide +kernel
theorem nq_fall_answer : (("fall" : Str) == ("answer" : Str)) = false := by decide +kernel
theorem nq_fall_forget : (("fall" : Str) == ("forget" : Str)) = false := by decide +kernel
theorem nq_fall_clear : (("fall" : Str) == ("clear" : Str)) = false := by decide +kernel
theorem nq_fall_down : (("fall" : Str) == ("down" : Str)) = false := by decide +kernel
theorem sl_take (l : List Rec) (n : Nat) : DL.cutD (l.map Rec.d) none (some (n : Int)) = (l.take n).map Rec.d := by
  unfold DL.cutD
  rw [HT.sIx_none, HT.sIx_nat, List.drop_zero, List.map_take, Nat.sub_zero, ← List.take_eq_take_min]
theorem at_last {α : Type} (l : List α) (x : α) : atI (l ++ [x]) (-1) = some x := by
  unfold atI
  have e : ixN (l ++ [x]).length (-1) = some l.length := by
    unfold ixN
    rw [List.length_append, List.length_cons, List.length_nil, if_neg (by decide), if_pos (by omega)]
    exact congrArg some (by omega)
  rw [e]
  show (l ++ [x])[l.length]? = some x
  rw [List.getElem?_append_right (Nat.le_refl _), Nat.sub_self]
  rfl
theorem nil_or_snoc {α : Type} (l : List α) : l = [] ∨ ∃ m x, l = m ++ [x] := by
  rcases List.eq_nil_or_concat l with h | ⟨m, x, h⟩
  · exact .inl h
  · exact .inr ⟨m, x, by simpa using h⟩
theorem last_snoc {α : Type} (f : Rec → α) (z : α) (m : List Rec) (x : Rec) : lastMind f z (m ++ [x]) = f x := by
  unfold lastMind
  rw [List.getLast?_append]
  rfl
theorem ko_rec (r : Rec) : keyOf r.d = some (.inr r.s) := rfl
theorem ko_o (r : O) : keyOf r.d = some (.inr r.s) := rfl
theorem sl_room26 (r : Room) : kSl r.d (some 2) (some 6) = some (.im (.tuple [.bool r.voted, r.told.d, r.rep.d, .bool r.took])) := rfl
theorem add_os (x : OS) (o : O) : kAdd (.im x.d) (.im (.tuple [o.d])) = some (.im (.tuple (x.l.map O.d ++ [o.d]))) := by
  have h : (x.l.map O.d).length ≤ 2 := by
    obtain ⟨a, b⟩ := x
    cases a <;> cases b <;> decide
  show kAdd (.im (.tuple (x.l.map O.d))) _ = _
  rw [k_addT, guard_dec (by have := big; simp only [List.length_cons, List.length_nil]; omega)]
theorem sort_os (x : OS) (o : O) (h : x.has o = false) : kSortedS (.tuple (x.l.map O.d ++ [o.d])) = some (.ow ((x.add o).l.map O.d)) := by
  obtain ⟨a, b⟩ := x
  cases a <;> cases b <;> cases o <;> first | (cases h; done) | rfl
theorem tup_os (x : OS) : kTuple (.list (x.l.map O.d)) = some (.im x.d) := rfl
theorem tx_e : okS "" = true := by decide +kernel
theorem rec_e (r : Rec) : (r.s == ("" : Str)) = false := by cases r <;> decide +kernel
theorem e_e : ((("" : Str)) == ("" : Str)) = true := by decide +kernel
theorem at_4 {x0 x1 x2 x3 x4 : PyData} {l : List PyData} : atI (x0 :: x1 :: x2 :: x3 :: x4 :: l) 4 = some x4 := atI_nat (by simp)
theorem at_5 {x0 x1 x2 x3 x4 x5 : PyData} {l : List PyData} : atI (x0 :: x1 :: x2 :: x3 :: x4 :: x5 :: l) 5 = some x5 := atI_nat (by simp)
theorem at_6 {x0 x1 x2 x3 x4 x5 x6 : PyData} {l : List PyData} : atI (x0 :: x1 :: x2 :: x3 :: x4 :: x5 :: x6 :: l) 6 = some x6 := atI_nat (by simp)
theorem at_7 {x0 x1 x2 x3 x4 x5 x6 x7 : PyData} {l : List PyData} : atI (x0 :: x1 :: x2 :: x3 :: x4 :: x5 :: x6 :: x7 :: l) 7 = some x7 := atI_nat (by simp)
theorem ii_i {i : Int} : isIntD (.int i) = true := rfl
theorem ib_i {i : Int} : isBoolD (.int i) = false := rfl
theorem ii_b {b : Bool} : isIntD (.bool b) = true := rfl
theorem ib_b {b : Bool} : isBoolD (.bool b) = true := rfl
theorem is_s {x : Str} : isStrD (.str x) = true := rfl
theorem it_t' {ds : List PyData} : isTupleD (.tuple ds) = true := rfl
theorem it_l' {ds : List PyData} : isTupleD (.list ds) = false := rfl
theorem il_l {ds : List PyData} : isListD (.list ds) = true := rfl
theorem il_t {ds : List PyData} : isListD (.tuple ds) = false := rfl
end Nv

set_option maxRecDepth 100000
set_option maxHeartbeats 2000000
/-! acts and standings: what keeps its form -/
namespace Nv
open PySem PySem.Spec PyProof.Rows L2 DL
theorem nodup_len {α : Type} [DecidableEq α] : ∀ {l A : List α}, l.Nodup → (∀ x ∈ l, x ∈ A) → l.length ≤ A.length
  | [], _, _, _ => Nat.zero_le _
  | x :: l, A, h, s => by
    have h' := List.nodup_cons.mp h
    have ih := nodup_len (l := l) (A := A.erase x) h'.2 fun y hy => (List.mem_erase_of_ne (fun e : y = x => h'.1 (by rw [← e]; exact hy))).mpr (s y (List.mem_cons_of_mem _ hy))
    have := s x List.mem_cons_self
    rw [List.length_erase_of_mem this] at ih
    have : 0 < A.length := List.length_pos_of_mem this
    rw [List.length_cons]
    omega
/-- a tape of the chair's (c), or of a house's records -/
structure TW (c : Bool) (t : Tape) : Prop where
  nd : t.notes.Nodup
  own : ∀ r ∈ t.notes, r.chair = c
  safe : t.safe ≤ t.notes.length
theorem TW.few {c : Bool} {t : Tape} (h : TW c t) : t.notes.length ≤ 3 := by
  cases c with
  | true => exact nodup_len (A := [.begin, .yes, .no]) h.nd fun r hr => by have := h.own r hr; cases r <;> first | (cases this; done) | simp
  | false => exact nodup_len (A := [.ready, .agreed, .refused]) h.nd fun r hr => by have := h.own r hr; cases r <;> first | (cases this; done) | simp
theorem TW.ok {c : Bool} {t : Tape} (h : TW c t) : TOk t := ⟨Nat.le_trans h.few (by decide), Nat.le_trans h.safe (Nat.le_trans h.few (by decide))⟩
structure SW (t : Stand) : Prop where
  seat : TW true t.seat.tape
  rooms : ∀ r ∈ t.rooms, TW false r.tape
  few : t.rooms.length ≤ 10
theorem TW.write {c : Bool} {t : Tape} (h : TW c t) (S : Sh) (r : Rec) (hr : r.chair = c) : TW c (write S t r) := by
  unfold Nv.write
  split
  · exact h
  · rename_i q
    have nm : r ∉ t.notes := fun z => q (.inr z)
    refine ⟨?_, fun x hx => ?_, ?_⟩
    · exact List.nodup_append.mpr ⟨h.nd, List.nodup_cons.mpr ⟨by simp, List.nodup_nil⟩, fun a ha b hb e => by
        simp only [List.mem_cons, List.not_mem_nil, or_false] at hb
        subst hb
        subst e
        exact nm ha⟩
    · rcases List.mem_append.mp hx with z | z
      · exact h.own x z
      · simp only [List.mem_cons, List.not_mem_nil, or_false] at z
        subst z
        exact hr
    · have := h.safe
      rw [List.length_append]
      split <;> simp <;> omega
theorem TW.take {c : Bool} {t : Tape} (h : TW c t) (l : Nat) (n : Nat) (hn : n ≤ (t.notes.take l).length) : TW c ⟨t.notes.take l, n⟩ :=
  ⟨h.nd.sublist (List.take_sublist _ _), fun r hr => h.own r (List.mem_of_mem_take hr), hn⟩
theorem TW.nil (c : Bool) : TW c ⟨[], 0⟩ := ⟨List.nodup_nil, fun r hr => (by cases hr), Nat.le_refl _⟩
theorem mem_lefts {t : Tape} {l : Nat} (h : l ∈ lefts t) : t.safe ≤ l ∧ l ≤ t.notes.length := by
  unfold lefts at h
  obtain ⟨i, hi, rfl⟩ := List.mem_map.mp h
  have := List.mem_range.mp hi
  omega
theorem lefts_mem {t : Tape} {l : Nat} (h1 : t.safe ≤ l) (h2 : l ≤ t.notes.length) : l ∈ lefts t := by
  unfold lefts
  exact List.mem_map.mpr ⟨l - t.safe, List.mem_range.mpr (by omega), by omega⟩
theorem mem_chair {S : Sh} {s : Seat} {rs : List Room} {a : Act} (h : a ∈ chairActs S s rs) : a.at = none := by
  unfold chairActs askActs forgetActs at h
  split at h
  · simp only [List.mem_cons, List.not_mem_nil, or_false] at h
    subst h
    rfl
  · rcases List.mem_append.mp h with h | h
    · rcases List.mem_append.mp h with h | h
      · obtain ⟨l, _, rfl⟩ := List.mem_map.mp h
        rfl
      · split at h
        · rcases List.mem_cons.mp h with h | h
          · subst h; rfl
          · split at h
            · simp only [List.mem_cons, List.not_mem_nil, or_false] at h
              subst h; rfl
            · cases h
        · cases h
    · split at h
      · split at h
        · simp only [List.mem_cons, List.not_mem_nil, or_false] at h
          subst h; rfl
        · cases h
      · cases h
/-- what an act of a house asks -/
inductive RA (S : Sh) (s : Seat) (k : Nat) (r : Room) : Act → Prop
  | fall {l : Nat} : r.tape.safe ≤ l → l ≤ r.tape.notes.length → RA S s k r (.fall k l)
  | refuse : r.mind = .idle → RA S s k r (.refuse k)
  | vote : r.mind = .idle → s.mind ≠ .new → RA S s k r (.vote k)
  | hear {o : O} : r.told.has o = true → (r.mind = .ready ∨ (r.mind = .idle ∧ o = .no)) → RA S s k r (.hear k o)
  | answer {o : O} : r.told.has o = true → r.mind.ended = true → r.rep.has o = false → RA S s k r (.answer k o)
  | clear : (r.mind = .yes ∨ r.mind = .no) → RA S s k r (.clear k)
  | tell {o : O} : said S s = some o → r.told.has o = false → RA S s k r (.tell k)
theorem os_mem (x : OS) (o : O) : o ∈ x.l ↔ x.has o = true := by
  obtain ⟨a, b⟩ := x
  cases a <;> cases b <;> cases o <;> decide
theorem mem_room {S : Sh} {s : Seat} {k : Nat} {r : Room} {a : Act} : a ∈ roomActs S s k r ↔ RA S s k r a := by
  constructor
  · intro h
    unfold roomActs idleActs clearActs tellActs at h
    rcases List.mem_append.mp h with h | h
    · rcases List.mem_append.mp h with h | h
      · rcases List.mem_append.mp h with h | h
        · rcases List.mem_append.mp h with h | h
          · obtain ⟨l, hl, rfl⟩ := List.mem_map.mp h
            exact .fall (mem_lefts hl).1 (mem_lefts hl).2
          · split at h
            · rename_i e
              rcases List.mem_cons.mp h with h | h
              · subst h; exact .refuse e
              · split at h
                · cases h
                · rename_i e2
                  simp only [List.mem_cons, List.not_mem_nil, or_false] at h
                  subst h; exact .vote e e2
            · cases h
        · obtain ⟨l, hl, h⟩ := List.mem_flatten.mp h
          obtain ⟨o, ho, rfl⟩ := List.mem_map.mp hl
          have ho' := (os_mem _ _).mp ho
          unfold letterActs at h
          rcases List.mem_append.mp h with h | h
          · split at h
            · rename_i e
              simp only [List.mem_cons, List.not_mem_nil, or_false] at h
              subst h; exact .hear ho' e
            · cases h
          · split at h
            · rename_i e
              simp only [List.mem_cons, List.not_mem_nil, or_false] at h
              rw [Bool.and_eq_true, Bool.not_eq_true'] at e
              subst h; exact .answer ho' e.1 e.2
            · cases h
      · split at h
        · rename_i e
          simp only [List.mem_cons, List.not_mem_nil, or_false] at h
          subst h; exact .clear e
        · cases h
    · split at h
      · rename_i o e
        split at h
        · cases h
        · rename_i e2
          simp only [List.mem_cons, List.not_mem_nil, or_false] at h
          subst h; exact .tell e (by simpa using e2)
      · cases h
  · intro h
    unfold roomActs idleActs clearActs tellActs
    simp only [List.mem_append]
    cases h with
    | fall h1 h2 => exact .inl (.inl (.inl (.inl (List.mem_map.mpr ⟨_, lefts_mem h1 h2, rfl⟩))))
    | refuse e => exact .inl (.inl (.inl (.inr (by rw [if_pos e]; simp))))
    | vote e e2 => exact .inl (.inl (.inl (.inr (by rw [if_pos e, if_neg e2]; simp))))
    | hear h1 h2 => exact .inl (.inl (.inr (List.mem_flatten.mpr ⟨_, List.mem_map.mpr ⟨_, (os_mem _ _).mpr h1, rfl⟩, by unfold letterActs; rw [if_pos h2]; simp⟩)))
    | answer h1 h2 h3 => exact .inl (.inl (.inr (List.mem_flatten.mpr ⟨_, List.mem_map.mpr ⟨_, (os_mem _ _).mpr h1, rfl⟩, by unfold letterActs; rw [h2, h3]; simp⟩)))
    | clear e => exact .inl (.inr (by rw [if_pos e]; simp))
    | tell e e2 => exact .inr (by rw [e]; dsimp only; rw [e2]; simp)
theorem RA.at {S : Sh} {s : Seat} {k : Nat} {r : Room} {a : Act} (h : RA S s k r a) : a.at = some k := by cases h <;> rfl
theorem mem_rooms {S : Sh} {s : Seat} {a : Act} : ∀ {rs : List Room} {k : Nat}, a ∈ roomsActs S s k rs ↔ ∃ i r, rs[i]? = some r ∧ RA S s (k + i) r a
  | [], k => by simp [roomsActs]
  | r :: rs, k => by
    rw [roomsActs, List.mem_append, mem_room, mem_rooms]
    constructor
    · rintro (h | ⟨i, x, h1, h2⟩)
      · exact ⟨0, r, rfl, h⟩
      · exact ⟨i + 1, x, by simpa using h1, by rw [show k + (i + 1) = k + 1 + i by omega]; exact h2⟩
    · rintro ⟨i, x, h1, h2⟩
      cases i with
      | zero =>
        have : r = x := by simpa using h1
        subst this
        exact .inl h2
      | succ i => exact .inr ⟨i, x, by simpa using h1, by rw [show k + 1 + i = k + (i + 1) by omega]; exact h2⟩
/-- a deed of a standing: the chair's, or a house's -/
theorem mem_acts {S : Sh} {t : Stand} {a : Act} : a ∈ acts S t ↔ a ∈ chairActs S t.seat t.rooms ∨ ∃ k r, t.rooms[k]? = some r ∧ RA S t.seat k r a := by
  unfold acts
  rw [List.mem_append, mem_rooms]
  simp only [Nat.zero_add]
theorem modify_at {α : Type} {l : List α} {k : Nat} {x : α} {f : α → α} (h : l[k]? = some x) : l.modify k f = l.take k ++ f x :: l.drop (k + 1) := by
  induction l generalizing k with
  | nil => simp at h
  | cons y l ih =>
    cases k with
    | zero =>
      have : y = x := by simpa using h
      subst this
      simp
    | succ k => simp [ih (by simpa using h)]
theorem roomBehind_tw {S : Sh} {s : Seat} {k : Nat} {r : Room} {a : Act} (h : RA S s k r a) (w : TW false r.tape) : TW false (roomBehind S s r a).tape := by
  cases h with
  | fall h1 h2 => exact w.take _ _ (by rw [List.length_take]; omega)
  | refuse e => exact w.write S _ rfl
  | vote e e2 => exact w.write S _ rfl
  | @hear o h1 h2 => cases o <;> exact w.write S _ rfl
  | answer h1 h2 h3 => exact w
  | clear e => exact TW.nil _
  | @tell o e e2 =>
    show TW false (match said S s with | some o => { r with told := r.told.add o } | none => r).tape
    rw [e]
    exact w
theorem seatBehind_tw {S : Sh} {s : Seat} {a : Act} (w : TW true s.tape) : TW true (seatBehind S s a).tape := by
  cases a with
  | ask => exact w.write S _ rfl
  | decide o => cases o <;> exact w.write S _ rfl
  | forget => exact TW.nil _
  | down l => exact w.take _ _ (Nat.le_refl _)
  | _ => exact w
theorem SW.behind {S : Sh} {t : Stand} {a : Act} (h : SW t) (ha : a ∈ acts S t) : SW (behind S t a) := by
  rcases mem_acts.mp ha with m | ⟨k, r, e, m⟩
  · unfold Nv.behind
    rw [mem_chair m]
    exact ⟨seatBehind_tw h.seat, h.rooms, h.few⟩
  · unfold Nv.behind
    rw [m.at]
    refine ⟨h.seat, fun x hx => ?_, by rw [List.length_modify]; exact h.few⟩
    have hx : x ∈ t.rooms.modify k (roomBehind S t.seat · a) := hx
    rw [modify_at e] at hx
    rcases List.mem_append.mp hx with z | z
    · exact h.rooms x (List.mem_of_mem_take z)
    · rcases List.mem_cons.mp z with z | z
      · subst z
        exact roomBehind_tw m (h.rooms r (List.mem_of_getElem? e))
      · exact h.rooms x (List.mem_of_mem_drop z)
theorem SW.first {m : Nat} (h : m ≤ 10) : SW (first m) := ⟨TW.nil _, fun r hr => by rw [List.eq_of_mem_replicate hr]; exact TW.nil _, by rw [Nv.first, List.length_replicate]; exact h⟩
theorem sl_takeR (l : List Room) (n : Nat) : DL.cutD (l.map Room.d) none (some (n : Int)) = (l.take n).map Room.d := by
  unfold DL.cutD
  rw [HT.sIx_none, HT.sIx_nat, List.drop_zero, List.map_take, Nat.sub_zero, ← List.take_eq_take_min]
theorem sl_dropR (l : List Room) (n : Nat) : DL.cutD (l.map Room.d) (some ((n : Int) + 1)) none = (l.drop (n + 1)).map Room.d := by
  unfold DL.cutD
  rw [HT.sIx_none, show ((n : Int) + 1) = ((n + 1 : Nat) : Int) from rfl, HT.sIx_nat, List.map_drop]
  have e : (l.map Room.d).length = l.length := List.length_map ..
  rw [e]
  by_cases h : n + 1 ≤ l.length
  · rw [Nat.min_eq_left h]
    exact List.take_of_length_le (by rw [List.length_drop, e]; exact Nat.le_refl _)
  · rw [Nat.min_eq_right (by omega), Nat.sub_self, List.take_zero]
    exact (List.drop_eq_nil_of_le (by rw [e]; omega)).symm
end Nv

set_option maxRecDepth 100000
set_option maxHeartbeats 2000000
/-! what can be shown -/
namespace Nv
open PySem PySem.Spec PyProof.Rows L2 DL
structure Sw (n w : Nat) (d : PyData) : Prop where
  fit : Fit n d
  ish : d.intsShort 13 = true
  sh : d.showable = true
  wt : d.weight ≤ w
theorem Sw.mono {n m w v : Nat} {d : PyData} (h : Sw n w d) (a : n ≤ m) (b : w ≤ v) : Sw m v d := ⟨h.fit.mono a, h.ish, h.sh, Nat.le_trans h.wt b⟩
theorem sw_all {n w : Nat} : ∀ {ds : List PyData}, (∀ d ∈ ds, Sw n w d) → PyData.intsShortAll 13 ds = true ∧ PyData.showableAll ds = true ∧ PyData.weightAll ds ≤ (w + 1) * ds.length
  | [], _ => ⟨rfl, rfl, Nat.zero_le _⟩
  | d :: ds, h => by
    obtain ⟨h1, h2, h3⟩ := sw_all fun e he => h e (List.mem_cons_of_mem _ he)
    have h0 := h d List.mem_cons_self
    refine ⟨by rw [PyData.intsShortAll, h0.ish, h1]; rfl, by rw [PyData.showableAll, h0.sh, h2]; rfl, ?_⟩
    rw [PyData.weightAll, List.length_cons, Nat.mul_add]
    have := h0.wt
    omega
theorem sw_lst {n w : Nat} {ds : List PyData} (h : ∀ d ∈ ds, Sw n w d) : Sw (n + 1) ((w + 1) * ds.length) (.list ds) := by
  obtain ⟨h1, h2, h3⟩ := sw_all h
  exact ⟨fit_lst fun d hd => (h d hd).fit, by rw [PyData.intsShort]; exact h1, by rw [PyData.showable]; exact h2, by rw [PyData.weight]; exact h3⟩
theorem sw_tup {n w : Nat} {ds : List PyData} (h : ∀ d ∈ ds, Sw n w d) : Sw (n + 1) ((w + 1) * ds.length) (.tuple ds) := by
  obtain ⟨h1, h2, h3⟩ := sw_all h
  exact ⟨fit_tup fun d hd => (h d hd).fit, by rw [PyData.intsShort]; exact h1, by rw [PyData.showable]; exact h2, by rw [PyData.weight]; exact h3⟩
theorem Sw.repr {n w : Nat} {d : PyData} (h : Sw n w d) (hn : n ≤ 40) (hw : w ≤ 2 ^ 20) : reprB d = true := by
  unfold reprB
  rw [h.ish, h.sh, decide_eq_true (Nat.le_trans h.fit.2 hn)]
  have : d.layable0 = true := by
    unfold PyData.layable0
    rw [h.fit.1, decide_eq_true (Nat.le_trans h.fit.2 (Nat.le_trans hn (by decide))), decide_eq_true (Nat.le_trans h.wt hw)]
    rfl
  rw [this]
  rfl
theorem small : ∀ n : Nat, n < 1024 → (PyData.int n).intsShort 13 = true ∧ (PyData.int n).showable = true ∧ (PyData.int n).weight ≤ 10 := by decide +kernel
theorem sw_nat {n : Nat} (h : n < 1024) : Sw 0 10 (.int n) := ⟨fit_int _, (small n h).1, (small n h).2.1, (small n h).2.2⟩
theorem sw_int {i : Int} (h0 : 0 ≤ i) (h : i < 1024) : Sw 0 10 (.int i) := by
  obtain ⟨n, rfl⟩ := Int.eq_ofNat_of_zero_le h0
  exact sw_nat (by omega)
theorem sw_bool (b : Bool) : Sw 0 0 (.bool b) := ⟨fit_bool b, rfl, rfl, Nat.le_refl _⟩
theorem sw_str {x : Str} (h : okS x = true) (w : Nat) (hw : x.cps.size ≤ w) : Sw 0 w (.str x) := ⟨okS_fit h, rfl, rfl, hw⟩
theorem k_repr {d : PyData} (h : reprB d = true) : kRepr d = some (.im (.str d.shown)) := guard_true h
/-- two texts that are one are equal -/
theorem eq_same {neg : Bool} {x : Str} : kEq neg (.im (.str x)) (.im (.str x)) = some (.im (.bool (!neg))) := by
  rw [kEq_s, beq_self_eq_true]
  cases neg <;> rfl
end Nv
namespace DL
open PySem PySem.Spec PyProof.Rows L2
theorem kbnF {K : PySem.W.Frag} {x qual : Str} {st : Stmt} {f : Addr} {fd : FuncData} {ps ks : List Str} {perm : List Nat} (F : Fun K x qual st f fd)
    (h : ∀ (kV doc pm : Value) (an : Option Addr) (cdv ct : Value) (ws : List Value), ws.length = ks.length → bindArgs (PySem.W.fnOf x qual (defArgs st) (defBody st) (defScope st) .none kV doc pm an cdv ct) ⟨[], ks.zip ws⟩ = pure (ps.zip (permL perm ws))) :
    KBn K fd ps 0 ks (fun _ ws => permL perm ws) (fun _ zs => permL perm zs) := by
  obtain ⟨oc, od, kV, doc, pm, an, cdv, ct, osl, rfl, lk, hcd⟩ := F.ex
  refine ⟨fun s us ws X l1 l2 => ?_, fun _ r => permL_vals r⟩
  obtain rfl : us = [] := List.length_eq_zero_iff.mp l1
  exact .of_eq (h kV doc pm an cdv ct ws l2)
end DL

namespace Draw
open PySem PySem.Spec PyProof.Rows L2
def top (i : Nat) : Stmt := PySem.Challenge.pw_presumebooks_k49_costs_of_courses.main.body.getD i (.Pass ⟨0, 0, 0, 0⟩)
abbrev sBegun : Stmt := top 25
abbrev sMixed : Stmt := top 26
abbrev sTake : Stmt := top 27
abbrev sPick : Stmt := top 28
theorem scBegun : FnScope ["script", "wide", "grain"] ["script"] (defScope sBegun) := ⟨rfl, rfl, rfl, by decide +kernel, rfl, by decide +kernel, by decide +kernel⟩
theorem scMixed : FnScope ["draw", "turn", "found", "prime", "blend", "grain"] ["draw"] (defScope sMixed) := ⟨rfl, rfl, rfl, by decide +kernel, rfl, by decide +kernel, by decide +kernel⟩
theorem scTake : FnScope ["draw", "size", "found"] ["draw", "size"] (defScope sTake) := ⟨rfl, rfl, rfl, by decide +kernel, rfl, by decide +kernel, by decide +kernel⟩
theorem scPick : FnScope ["draw", "some"] ["draw", "some"] (defScope sPick) := ⟨rfl, rfl, rfl, by decide +kernel, rfl, by decide +kernel, by decide +kernel⟩
/-- the names of the module that the drawing reads: built-ins that nothing covers -/
structure Bare (mg : Str → Option Value) : Prop where
  abs : mg "abs" = none
  int : mg "int" = none
  len : mg "len" = none
  range : mg "range" = none
  min : mg "min" = none
/-- a stock of draws: the dict at d, its lists at w and c; n is the most turns so far -/
structure Stock (H : Hp) (d w c : Addr) (n : Nat) : Prop where
  own : ∃ (rest turn : Int), 0 ≤ rest ∧ 0 ≤ turn ∧ turn ≤ n ∧ H d = some (.dK [(Sum.inr "wide", .ref w), (Sum.inr "cells", .ref c), (Sum.inr "rest", .int rest), (Sum.inr "turn", .int turn)])
  wide : ∃ ws : List Int, ws.length ≤ 63 ∧ (∀ x ∈ ws, 0 ≤ x) ∧ H w = some (.lst (ws.map V.int))
  cells : ∃ cs : List Int, cs.length ≤ 63 ∧ (∀ x ∈ cs, 0 ≤ x ∧ x < 2147483629) ∧ H c = some (.lst (cs.map V.int))
  apart : c ≠ w
/-- what stood stands, but for two -/
def But (d w : Addr) (H H' : Hp) : Prop := ∀ b o, b ≠ d → b ≠ w → H b = some o → H' b = some o
theorem sameNew {H : Hp} {p : Addr} {o : HO} (h : H p = none) : Same H (upd H p o) := fun b u e => by
  rw [upd_ne (ne_of_none e h)]
  exact e
theorem samePut {H H' : Hp} {p : Addr} {o : HO} (s : Same H H') (h : H p = none) : Same H (upd H' p o) := fun b u e => by
  rw [upd_ne (ne_of_none e h)]
  exact s b u e
theorem intAt {ns : List Int} {i : Nat} {x : V} (h : (ns.map V.int)[i]? = some x) : ∃ z, ns[i]? = some z ∧ x = .int z := by
  rw [List.getElem?_map] at h
  cases e : ns[i]? with
  | none => rw [e] at h; cases h
  | some z => rw [e] at h; exact ⟨z, rfl, (Option.some.inj h).symm⟩
theorem powTen : CPow 10 18 := ⟨by decide, by decide, by decide⟩
theorem lt_line {n : Nat} (h : n < 1000) : n < sizeLine := Nat.lt_trans h (by decide)
def spBegun (K : PySem.W.Frag) : Sp := fun vs H Q _ => ∃ (a : Addr) (ns : List Int), vs = [.ref a] ∧ SqL K H a (ns.map V.int) ∧ ns.length ≤ 63 ∧
  ∀ (H' : Hp) (d w c : Addr), Same H H' → H d = none → H w = none → H c = none → Stock H' d w c 0 → Q (.ref d) H'
section
variable {P : Program} {w : World} {K : PySem.W.Frag} {mg : Str → Option Value} {base : Heap}
theorem ok_begun {f : Addr} {fd : FuncData} (F : Fun K "_law_begun" "_law_begun" sBegun f fd) (B : Bare mg) : FnOk P w K mg base CX0 1 f fd ["script"] (spBegun K) := by
  refine F.ok scBegun (fun vs H Q E h => ?_) (fun cdv A outer s H vs Q E hr h => ?_)
  · obtain ⟨a, ns, rfl, _⟩ := h
    rfl
  · obtain ⟨a, ns, rfl, hS, hn, k⟩ := h
    refine ⟨_, pss_cons (ps_setLc (i := 1) (own := [("grain", 2)]) (g := gName 2) rfl scBegun.nd rfl rfl (sw_true rfl rfl rfl (by decide +kernel)) (pi_list (pv 0))
        (blkOk_by (N := ["script", "wide", "grain"]) (sc := defScope sBegun) (by decide +kernel)) (fun _ _ _ _ _ => pg_name (i := 2) scBegun.nd rfl (Or.inl rfl))
        (fun _ _ _ _ _ => pts_one (pt_cmpR op_ge (pe_callB call_abs (by rfl) B.abs (by decide +kernel) (pa_cons (pv 2) pa_nil)) (pe_op op_pow pe_int pe_int) (nomark _)))
        (fun _ _ _ _ _ => pe_op op_sub (pe_callB call_abs (by rfl) B.abs (by decide +kernel) (pa_cons (pv 2) pa_nil)) (pe_op op_pow pe_int pe_int)))
      (pss_one (ps_ret (pe_disp (pps_cons pe_str (pv 1) (pps_cons pe_str
        (pe_lc (own := [("grain", 2)]) (g := gName 2) rfl scBegun.nd (pi_list (pv 0)) (blkOk_by (N := ["script", "wide", "grain"]) (sc := defScope sBegun) (by decide +kernel))
          (fun _ _ _ _ _ => pg_name (i := 2) scBegun.nd rfl (Or.inl rfl)) (fun _ _ _ _ _ => pts_nil)
          (fun _ _ _ _ _ => pe_op op_mod (pe_callTy call_int1 (by rfl) B.int (by decide +kernel) (pa_cons (pe_callB call_abs (by rfl) B.abs (by decide +kernel) (pa_cons (pv 2) pa_nil)) pa_nil)) pe_int))
        (pps_cons pe_str pe_int (pps_cons pe_str pe_int pps_nil)))) (by rfl) (by rfl) (fun z => by cases z) (by decide)))), ?_⟩
    refine ⟨_, rfl, a, rfl, ⟨_, hS⟩, fun D hD => lc_list (K := K) (a := a) (xs := ns.map V.int)
      (fun i H' => ∃ ws : List Int, ws.length ≤ i ∧ (∀ x ∈ ws, 0 ≤ x) ∧ H' D = some (.lst (ws.map V.int)) ∧ Same H H') ⟨[], Nat.le_refl _, by simp, upd_same, sameNew hD⟩ (fun i H' _ ⟨_, _, _, _, sm⟩ => sm.seq hS) (fun i x H' hi ⟨ws, l1, l2, l3, sm⟩ => ?_) (fun H' ⟨ws, l1, l2, l3, sm⟩ => ?_)⟩
    · obtain ⟨z, hz, rfl⟩ := intAt hi
      refine ⟨rfl, _, rfl, _, rfl, _, _, rfl, rfl, powTen, _, _, rfl, rfl, _, rfl, ?_⟩
      refine ite2 (fun e => ?_) (fun _ => ⟨ws, Nat.le_succ_of_le l1, l2, l3, sm⟩)
      refine ⟨_, rfl, _, rfl, _, _, rfl, rfl, powTen, _, _, rfl, rfl, _, l3, ?_, ws ++ [(if z < 0 then -z else z) - 10 ^ Int.toNat 18], ?_, ?_, ?_, samePut sm hD⟩
      · rw [List.length_map]
        have hi' := (List.getElem?_eq_some_iff.mp hi).1
        rw [List.length_map] at hi'
        exact lt_line (by omega)
      · rw [List.length_append]
        show ws.length + 1 ≤ i + 1
        omega
      · intro y hy
        rcases List.mem_append.mp hy with q | q
        · exact l2 y q
        · have e' := of_decide_eq_true e
          rw [List.mem_singleton] at q
          rw [q]
          exact Int.sub_nonneg.mpr e'
      · rw [upd_same, List.map_append]
        rfl
    · rw [List.length_map] at l1
      intro p hp
      have pD : D ≠ p := fun q => by rw [← q, l3] at hp; cases hp
      refine ⟨_, rfl, _, rfl, a, rfl, ⟨_, (sm.trans (sameNew hp)).seq hS⟩, fun C hC => lc_list (K := K) (a := a) (xs := ns.map V.int)
        (fun i H'' => ∃ cs : List Int, cs.length ≤ i ∧ (∀ x ∈ cs, 0 ≤ x ∧ x < 2147483629) ∧ H'' C = some (.lst (cs.map V.int)) ∧ Same (upd H' p (.dK [])) H'') ⟨[], Nat.le_refl _, by simp, upd_same, sameNew hC⟩
          (fun i H'' _ ⟨_, _, _, _, sm'⟩ => (sm.trans ((sameNew hp).trans sm')).seq hS) (fun i x H'' hi ⟨cs, m1, m2, m3, sm'⟩ => ?_) (fun H'' ⟨cs, m1, m2, m3, sm'⟩ => ?_)⟩
      · obtain ⟨z, hz, rfl⟩ := intAt hi
        refine ⟨rfl, _, rfl, _, rfl, Or.inl ⟨_, rfl, _, _, rfl, rfl, (by show (0 : Int) < 2147483629; decide), _, m3, ?_, cs ++ [(if z < 0 then -z else z) % 2147483629], ?_, ?_, ?_, samePut sm' hC⟩⟩
        · rw [List.length_map]
          have hi' := (List.getElem?_eq_some_iff.mp hi).1
          rw [List.length_map] at hi'
          exact lt_line (by omega)
        · rw [List.length_append]
          show cs.length + 1 ≤ i + 1
          omega
        · intro y hy
          rcases List.mem_append.mp hy with q | q
          · exact m2 y q
          · rw [List.mem_singleton] at q
            rw [q]
            exact ⟨Int.emod_nonneg _ (by decide), Int.emod_lt_of_pos _ (by decide)⟩
        · rw [upd_same, List.map_append]
          rfl
      · rw [List.length_map] at m1
        have hp' : H'' p = some (.dK []) := sm' p _ upd_same
        have hD' : H'' D = some (.lst (ws.map V.int)) := sm' D _ (by rw [upd_ne pD]; exact l3)
        have pC : C ≠ p := fun q => by rw [q, upd_same] at hC; cases hC
        refine ⟨hp', [(Sum.inr "wide", .ref D), (Sum.inr "cells", .ref C), (Sum.inr "rest", .int 0), (Sum.inr "turn", .int 0)], rfl, (by show 4 ≤ 15; decide), ?_⟩
        refine k _ p D C (fun b o e => ?_) ?_ hD ?_ ⟨⟨0, 0, Int.le_refl _, Int.le_refl _, Int.le_refl _, ?_⟩, ⟨ws, by omega, l2, ?_⟩, ⟨cs, by omega, m2, ?_⟩, ?_⟩
        · have bp : b ≠ p := fun q => by rw [q] at e; rw [sm p o e] at hp; cases hp
          rw [upd_ne bp]
          exact sm' b o (by rw [upd_ne bp]; exact sm b o e)
        · exact sm.free hp
        · exact sm.free ((sameNew hp).free hC)
        · rw [upd_same]
          rfl
        · rw [upd_ne pD]
          exact hD'
        · rw [upd_ne pC]
          exact m3
        · intro q
          rw [q, upd_ne pD, l3] at hC
          cases hC
theorem stockMono {H : Hp} {d w c : Addr} {n m : Nat} (S : Stock H d w c n) (h : n ≤ m) : Stock H d w c m :=
  let ⟨r, t, a, b, e, z⟩ := S.own
  ⟨⟨r, t, a, b, by omega, z⟩, S.wide, S.cells, S.apart⟩
theorem stockNe {H : Hp} {d w c : Addr} {n : Nat} (S : Stock H d w c n) : d ≠ w ∧ d ≠ c := by
  obtain ⟨r, t, _, _, _, z⟩ := S.own
  obtain ⟨ws, _, _, zw⟩ := S.wide
  obtain ⟨cs, _, _, zc⟩ := S.cells
  exact ⟨ne_of z zw (by intro q; cases q), ne_of z zc (by intro q; cases q)⟩
def But1 (d : Addr) (H H' : Hp) : Prop := ∀ b o, b ≠ d → H b = some o → H' b = some o
def spMixed : Sp := fun vs H Q _ => ∃ (d w c : Addr) (n : Nat), vs = [.ref d] ∧ Stock H d w c n ∧ n < 1000000 ∧
  ∀ (H' : Hp) (x : Int), But1 d H H' → Stock H' d w c (n + 1) → 0 ≤ x → Q (.int x) H'
abbrev drw (w c : Addr) (r t : Int) : List (Key × V) := [(Sum.inr "wide", .ref w), (Sum.inr "cells", .ref c), (Sum.inr "rest", .int r), (Sum.inr "turn", .int t)]
theorem drw_wide (w c : Addr) (r t : Int) : valV (drw w c r t) (Sum.inr "wide") = some (.ref w) := rfl
theorem drw_cells (w c : Addr) (r t : Int) : valV (drw w c r t) (Sum.inr "cells") = some (.ref c) := rfl
theorem drw_rest (w c : Addr) (r t : Int) : valV (drw w c r t) (Sum.inr "rest") = some (.int r) := rfl
theorem drw_turn (w c : Addr) (r t : Int) : valV (drw w c r t) (Sum.inr "turn") = some (.int t) := rfl
theorem drw_pt (w c : Addr) (r t u : Int) : putK (drw w c r t) (Sum.inr "turn") (.int u) = drw w c r u := rfl
theorem drw_pr (w c : Addr) (r t u : Int) : putK (drw w c r t) (Sum.inr "rest") (.int u) = drw w c u t := rfl
theorem gTurn {H : Hp} {d w c : Addr} {r t : Int} (h : H d = some (.dK (drw w c r t))) : DGet H d (.str "turn") (some (.int t)) := DGet.k (k := Sum.inr "turn") h
theorem gCells {H : Hp} {d w c : Addr} {r t : Int} (h : H d = some (.dK (drw w c r t))) : DGet H d (.str "cells") (some (.ref c)) := DGet.k (k := Sum.inr "cells") h
theorem gWide {H : Hp} {d w c : Addr} {r t : Int} (h : H d = some (.dK (drw w c r t))) : DGet H d (.str "wide") (some (.ref w)) := DGet.k (k := Sum.inr "wide") h
theorem gRest {H : Hp} {d w c : Addr} {r t : Int} (h : H d = some (.dK (drw w c r t))) : DGet H d (.str "rest") (some (.int r)) := DGet.k (k := Sum.inr "rest") h
theorem pTurn {H : Hp} {d w c : Addr} {r t u : Int} (h : H d = some (.dK (drw w c r t))) : DPut H d (.str "turn") (.int u) (upd H d (.dK (drw w c r u))) := DPut.k (k := Sum.inr "turn") h (by show 4 < sizeLine; decide)
theorem pRest {H : Hp} {d w c : Addr} {r t u : Int} (h : H d = some (.dK (drw w c r t))) : DPut H d (.str "rest") (.int u) (upd H d (.dK (drw w c u t))) := DPut.k (k := Sum.inr "rest") h (by show 4 < sizeLine; decide)
theorem ok_mixed {f : Addr} {fd : FuncData} (F : Fun K "_law_mixed" "_law_mixed" sMixed f fd) (B : Bare mg) : FnOk P w K mg base CX0 1 f fd ["draw"] spMixed := by
  refine F.ok scMixed (fun vs H Q E h => ?_) (fun cdv A outer s H vs Q E hr h => ?_)
  · obtain ⟨d, w, c, n, rfl, _⟩ := h
    rfl
  · obtain ⟨d, w, c, n, rfl, S, hn, k⟩ := h
    refine ⟨_, pss_cons (ps_par (i := 1) (j := 2) (by rfl) scMixed.nd rfl rfl (by decide) rfl rfl (pa_cons (pe_op op_add (pe_dget (hu_of hr) (pv 0) pe_str (fun _ _ => rfl)) pe_int) (pa_cons pe_int pa_nil)) (by rfl))
      (pss_cons (ps_dput (hu_of hr) (pv 0) pe_str (pv 1) rfl)
      (pss_cons (ps_for PassesOwn.never rfl (pi_list (pe_lst (pa_cons pe_int (pa_cons pe_int (pa_cons pe_int (pa_cons pe_int pa_nil)))))) (pg_name (i := 3) scMixed.nd rfl (Or.inl rfl))
        (pss_cons (ps_set (i := 4) scMixed.nd rfl (Or.inl rfl) (pe_op op_add (pe_op op_mul pe_int (pv 1)) (pe_op op_fdiv (pv 3) pe_int)))
        (pss_cons (ps_for PassesOwn.never rfl (pi_list (pe_dget (hu_of hr) (pv 0) pe_str (fun _ _ => rfl))) (pg_name (i := 5) scMixed.nd rfl (Or.inl rfl))
          (pss_one (ps_set (i := 4) scMixed.nd rfl (Or.inl rfl) (pe_op op_mod (pe_callTy call_int1 (by rfl) B.int (by decide +kernel) (pa_cons (pe_op op_add (pe_op op_add (pe_op op_mul (pv 4) pe_int) (pv 5)) (pv 1)) pa_nil)) (pv 3)))))
        (pss_one (ps_set (i := 2) scMixed.nd rfl (Or.inl rfl) (pe_op op_add (pe_op op_mul (pv 2) pe_int) (pe_op op_mod (pe_callTy call_int1 (by rfl) B.int (by decide +kernel) (pa_cons (pe_op op_pow (pv 4) pe_int) pa_nil)) (pv 3))))))))
      (pss_one (ps_ret (pv 2))))), ?_⟩
    obtain ⟨r, t, r0, t0, tn, hd⟩ := S.own
    obtain ⟨ws, lw, pw, hw⟩ := S.wide
    obtain ⟨cs, lc, pc, hc⟩ := S.cells
    have hne := stockNe S
    refine ⟨_, rfl, d, _, rfl, gTurn hd, _, _, rfl, rfl, _, _, rfl, _, rfl, _, rfl, d, _, rfl, pTurn hd, (by show 4 ≤ sizeLine; decide), fun l hl => ?_⟩
    have ld : l ≠ d := fun q => by rw [q, upd_same] at hl; cases hl
    have hl0 : H l = none := by rw [upd_ne ld] at hl; exact hl
    have cl : c ≠ l := fun q => by rw [← q, hc] at hl0; cases hl0
    have wl : w ≠ l := fun q => by rw [← q, hw] at hl0; cases hl0
    generalize hZ : upd (upd H d (.dK (drw w c r (t + 1)))) l (.lst ([2147483647, 2147483629, 2147483587, 2147483579].map V.int)) = Z
    have Zl : Z l = some (.lst ([2147483647, 2147483629, 2147483587, 2147483579].map V.int)) := by rw [← hZ, upd_same]
    have Zd : Z d = some (.dK (drw w c r (t + 1))) := by rw [← hZ, upd_ne (Ne.symm ld), upd_same]
    have Zc : Z c = some (.lst (cs.map V.int)) := by rw [← hZ, upd_ne cl, upd_ne (Ne.symm hne.2)]; exact hc
    have Zw : Z w = some (.lst (ws.map V.int)) := by rw [← hZ, upd_ne wl, upd_ne (Ne.symm hne.1)]; exact hw
    have Zk : But1 d H Z := fun b o bd e => by
      rw [← hZ, upd_ne (ne_of_none e hl0), upd_ne bd]
      exact e
    refine ⟨l, rfl, ⟨_, .inl (.inl (by rw [← hZ] at Zl; exact Zl))⟩, for_list (K := K) (a := l) (xs := [2147483647, 2147483629, 2147483587, 2147483579].map V.int)
      (fun i σ H' => ∃ (x : Int) (v1 v2 v3 : Option V), σ = [some (.ref d), some (.int (t + 1)), some (.int x), v1, v2, v3] ∧ 0 ≤ x ∧ Z = H') ⟨0, none, none, none, rfl, Int.le_refl _, hZ.symm⟩ (fun i σ H' _ ⟨_, _, _, _, _, _, e⟩ => .inl (.inl (by rw [← e]; exact Zl))) ?_ ?_⟩
    · rintro i y σ H' hi ⟨x, v1, v2, v3, rfl, hx, rfl⟩
      obtain ⟨p, hp, rfl⟩ := intAt hi
      have pp : 0 < p ∧ p ≤ 2147483647 := by
        have q := List.mem_of_getElem? hp
        simp only [List.mem_cons, List.not_mem_nil, or_false] at q
        omega
      have p1 := pp.1
      have p2 := pp.2
      refine ⟨_, rfl, _, _, rfl, rfl, .inl ⟨by decide, by decide⟩, _, rfl, _, _, rfl, rfl, ⟨by decide, by decide⟩, _, _, rfl, rfl, _, rfl, d, _, rfl, gCells Zd, c, rfl, ⟨_, .inl (.inl Zc)⟩,
        for_list (K := K) (a := c) (xs := cs.map V.int) (fun i σ H' => ∃ (b : Int) (v3 : Option V), σ = [some (.ref d), some (.int (t + 1)), some (.int x), some (.int p), some (.int b), v3] ∧ 0 ≤ b ∧ b < 2 ^ 60 ∧ Z = H')
          ⟨_, v3, rfl, ?_, ?_, rfl⟩ (fun i σ H' _ ⟨_, _, _, _, _, e⟩ => .inl (.inl (by rw [← e]; exact Zc))) ?_ ?_⟩
      · have q := Int.ediv_nonneg (a := p) (b := 23) (by omega) (by decide)
        show (0 : Int) ≤ 69621 * (t + 1) + p / 23
        omega
      · have q := Int.ediv_le_self 23 (a := p) (by omega)
        show 69621 * (t + 1) + p / 23 < 2 ^ 60
        omega
      · rintro j y σ H' hj ⟨b, v3, rfl, b0, b1, rfl⟩
        obtain ⟨z, hz, rfl⟩ := intAt hj
        refine ⟨_, rfl, _, _, rfl, rfl, .inl ⟨by omega, by omega⟩, _, rfl, _, _, rfl, rfl, _, rfl, _, _, rfl, rfl, Or.inl ⟨_, rfl, _, rfl, _, _, rfl, rfl, p1, _, _, rfl, ?_, ?_, rfl⟩⟩
        · exact Int.emod_nonneg _ (by omega)
        · have q := Int.emod_lt_of_pos (b * 48271 + z + (t + 1)) p1
          show (b * 48271 + z + (t + 1)) % p < 2 ^ 60
          omega
      · rintro σ H' ⟨b, v3, rfl, b0, b1, rfl⟩
        refine ⟨_, rfl, _, _, rfl, rfl, .inr ⟨by decide, by decide⟩, _, rfl, _, _, rfl, rfl, ⟨by decide, by decide, by omega⟩, Or.inl ⟨_, rfl, _, rfl, _, _, rfl, rfl, p1, _, _, rfl, rfl, _, _, _, _, rfl, ?_, rfl⟩⟩
        have q := Int.emod_nonneg (b ^ Int.toNat 5) (show p ≠ 0 by omega)
        show (0 : Int) ≤ x * 2147483647 + b ^ Int.toNat 5 % p
        omega
    · rintro σ H' ⟨x, v1, v2, v3, rfl, hx, rfl⟩
      exact ⟨_, rfl, k _ _ Zk ⟨⟨r, t + 1, r0, by omega, by omega, Zd⟩, ⟨ws, lw, pw, Zw⟩, ⟨cs, lc, pc, Zc⟩, S.apart⟩ hx⟩
def spTake : Sp := fun vs H Q _ => ∃ (d w c : Addr) (n : Nat) (z : Int), vs = [.ref d, .int z] ∧ Stock H d w c n ∧ n < 1000000 ∧ 0 < z ∧ z < 1000000 ∧
  ∀ (H' : Hp) (x : Int), But d w H H' → Stock H' d w c (n + 1) → 0 ≤ x → x < z → Q (.int x) H'
theorem dpInts {K : PySem.W.Frag} {H : Hp} : ∀ ws : List Int, DpAll K H (ws.map V.int) (ws.map PyData.int)
  | [] => .nil
  | x :: r => .cons (.int x) (dpInts r)
theorem layInts : ∀ ws : List Int, PyData.canLayAll0 (ws.map PyData.int) = true
  | [] => by simp only [List.map_nil, PyData.canLayAll0]
  | x :: r => by simp only [List.map_cons, PyData.canLayAll0, PyData.canLay0, layInts r, Bool.and_self]
theorem deepInts : ∀ ws : List Int, PyData.depthAll (ws.map PyData.int) = 0
  | [] => by simp only [List.map_nil, PyData.depthAll]
  | x :: r => by simp only [List.map_cons, PyData.depthAll, PyData.depth, deepInts r, Nat.max_self]
theorem shapedInts (ws : List Int) : SeqAt.shaped (.list (ws.map PyData.int)) = true := by
  unfold SeqAt.shaped
  simp only [PyData.canLay0, PyData.depth, layInts, deepInts]
  decide
theorem idx0 {n : Nat} (h : 0 < n) : seqIndex? 0 n = some 0 := by
  unfold seqIndex?
  have e : n ≠ 0 := by omega
  simp [e]
theorem eqNil (ws : List Int) : PyData.eqv (.list (ws.map PyData.int)) (.list []) = ws.isEmpty := by
  cases ws with
  | nil => rfl
  | cons x r => rfl
theorem ok_take {f fM : Addr} {fd fdM : FuncData} (F : Fun K "_law_take" "_law_take" sTake f fd) (B : Bare mg) (FM : Fun K "_law_mixed" "_law_mixed" sMixed fM fdM) (gM : mg "_law_mixed" = some (.ref fM)) (bM : Binds K fdM ["draw"] []) :
    FnOk P w K mg base CX0 2 f fd ["draw", "size"] spTake := by
  have GM : FnOk P w K mg base CX0 1 fM fdM ["draw"] spMixed := ok_mixed FM B
  refine F.ok scTake (fun vs H Q E h => ?_) (fun cdv A outer s H vs Q E hr h => ?_)
  · obtain ⟨d, w, c, n, z, rfl, _⟩ := h
    rfl
  · obtain ⟨d, w, c, n, z, rfl, S, hn, z0, z1, k⟩ := h
    refine ⟨_, C8.pss_cut (ps_if (pt_cmpR op_eq (pe_dget (hu_of hr) (pv 0) pe_str (fun _ _ => rfl)) pe_int (nomark _))
        (pss_one (ps_dput (hu_of hr) (pv 0) pe_str (pe_ifExp (pt_cmpR (op_neD hr.units) (pe_dget (hu_of hr) (pv 0) pe_str (fun _ _ => rfl)) (pe_lst pa_nil) (nomark _))
          (pe_bm PySem.F.plainAttrs_list PySem.F.slot_list_pop PySem.F.type_list_pop mt_popAt (pe_dget (hu_of hr) (pv 0) pe_str (fun _ _ => rfl)) (pa_cons pe_int pa_nil))
          (pe_call GM hr rfl gM FM.kp bM .nil pass0 (pa_cons (pv 0) pa_nil))) rfl)) pss_nil)
      (pss_cons (ps_set (i := 2) scTake.nd rfl (Or.inl rfl) (pe_op op_mod (pe_callTy call_int1 (by rfl) B.int (by decide +kernel) (pa_cons (pe_dget (hu_of hr) (pv 0) pe_str (fun _ _ => rfl)) pa_nil)) (pv 1)))
      (pss_cons (ps_dput (hu_of hr) (pv 0) pe_str (pe_op op_fdiv (pe_dget (hu_of hr) (pv 0) pe_str (fun _ _ => rfl)) (pv 1)) rfl)
      (pss_one (ps_ret (pv 2))))), ?_⟩
    have hne := stockNe S
    obtain ⟨r, t, r0, t0, tn, hd⟩ := S.own
    obtain ⟨ws, lw, pw, hw⟩ := S.wide
    obtain ⟨cs, lc, pc, hc⟩ := S.cells
    refine ⟨fun σ' H' => But d w H H' ∧ Stock H' d w c (n + 1) ∧ σ' = [some (.ref d), some (.int z), none], ?_, ?_⟩
    · refine ⟨_, rfl, d, _, rfl, gRest hd, rfl, _, rfl, ?_⟩
      refine ite2 (fun _ => ?_) (fun _ => ⟨fun b o _ _ e => e, stockMono S (Nat.le_succ n), rfl⟩)
      refine ⟨_, rfl, d, _, rfl, gWide hd, Nat.zero_le _, fun l hl => ?_⟩
      have ld : l ≠ d := fun q => by rw [q, hd] at hl; cases hl
      have lw' : l ≠ w := fun q => by rw [q, hw] at hl; cases hl
      have lc' : l ≠ c := fun q => by rw [q, hc] at hl; cases hl
      generalize hZ : upd H l (.lst []) = Z
      have Zl : Z l = some (.lst []) := by rw [← hZ, upd_same]
      have Zd : Z d = some (.dK (drw w c r t)) := by rw [← hZ, upd_ne (Ne.symm ld)]; exact hd
      have Zc : Z c = some (.lst (cs.map V.int)) := by rw [← hZ, upd_ne (Ne.symm lc')]; exact hc
      have Zw : Z w = some (.lst (ws.map V.int)) := by rw [← hZ, upd_ne (Ne.symm lw')]; exact hw
      have Zs : Same H Z := by rw [← hZ]; exact sameNew hl
      refine ⟨.list (ws.map PyData.int), .list [], ?_, ?_, ?_, rfl, _, rfl, ?_⟩
      · exact Dp.lst (.inl (.inl Zw)) (dpInts ws)
      · exact Dp.lst (.inl (.inl Zl)) .nil
      · exact shapedInts ws
      · cases ws with
        | nil =>
          refine ⟨_, rfl, d, w, c, n, rfl, ⟨⟨r, t, r0, t0, tn, Zd⟩, ⟨[], lw, pw, Zw⟩, ⟨cs, lc, pc, Zc⟩, S.apart⟩, hn, fun H' x b1 S' x0 => ?_⟩
          obtain ⟨r', t', r0', t0', tn', hd'⟩ := S'.own
          refine ⟨_, rfl, d, _, rfl, pRest hd', fun b o bd bw e => ?_, ⟨⟨x, t', x0, t0', tn', upd_same⟩, ?_, ?_, S.apart⟩, rfl⟩
          · rw [upd_ne bd]
            exact b1 b o bd (Zs b o e)
          · obtain ⟨ws, lw, pw, hw⟩ := S'.wide
            exact ⟨ws, lw, pw, by rw [upd_ne (Ne.symm hne.1)]; exact hw⟩
          · obtain ⟨cs, lc, pc, hc⟩ := S'.cells
            exact ⟨cs, lc, pc, by rw [upd_ne (Ne.symm hne.2)]; exact hc⟩
        | cons y rest =>
          refine ⟨_, rfl, d, _, rfl, gWide Zd, .inl ⟨rfl, _, .inl (.inl Zw)⟩, w, _, 0, 0, _, rfl, rfl, Zw, by decide, by decide, idx0 (by rw [List.length_map]; exact Nat.succ_pos _), rfl, ?_⟩
          have hdw : upd Z w (.lst (List.eraseIdx (List.map V.int (y :: rest)) 0)) d = some (.dK (drw w c r t)) := by rw [upd_ne hne.1]; exact Zd
          have cw : c ≠ w := S.apart
          refine ⟨_, rfl, d, _, rfl, pRest hdw, fun b o bd bw e => ?_, ⟨⟨y, t, pw y List.mem_cons_self, t0, by omega, upd_same⟩, ⟨rest, ?_, fun x hx => pw x (List.mem_cons_of_mem _ hx), ?_⟩, ⟨cs, lc, pc, ?_⟩, S.apart⟩, rfl⟩
          · rw [upd_ne bd, upd_ne bw]
            exact Zs b o e
          · have q : rest.length + 1 ≤ 63 := lw
            omega
          · rw [upd_ne (Ne.symm hne.1), upd_same]
            rfl
          · rw [upd_ne (Ne.symm hne.2), upd_ne cw]
            exact Zc
    · rintro σ' H' ⟨bt, S', rfl⟩
      obtain ⟨r, t, r0, t0, tn, hd⟩ := S'.own
      refine ⟨_, rfl, d, _, rfl, gRest hd, Or.inl ⟨_, rfl, _, rfl, _, _, rfl, rfl, z0, _, rfl, d, _, rfl, gRest hd, _, rfl, _, _, rfl, rfl, ⟨z0, by omega⟩, _, rfl, d, _, rfl, pRest hd, _, rfl, ?_⟩⟩
      have hne := stockNe S'
      refine k _ _ (fun b o bd bw e => ?_) ⟨⟨_, t, ?_, t0, tn, upd_same⟩, ?_, ?_, S'.apart⟩ (Int.emod_nonneg _ (by omega)) (Int.emod_lt_of_pos _ z0)
      · rw [upd_ne bd]
        exact bt b o bd bw e
      · exact Int.ediv_nonneg r0 (by omega)
      · obtain ⟨ws, lw, pw, hw⟩ := S'.wide
        exact ⟨ws, lw, pw, by rw [upd_ne (Ne.symm hne.1)]; exact hw⟩
      · obtain ⟨cs, lc, pc, hc⟩ := S'.cells
        exact ⟨cs, lc, pc, by rw [upd_ne (Ne.symm hne.2)]; exact hc⟩
/-- xs stands at l, as a list or as a tuple -/
def Seq (K : PySem.W.Frag) (H : Hp) (l : Addr) (xs : List V) : Prop := SqL K H l xs ∨ SqT K H l xs
theorem But.lst {d w l : Addr} {H H' : Hp} {xs : List V} {kvs : List (Key × V)} (b : But d w H H') (hd : H d = some (.dK kvs)) (nw : l ≠ w) (h : SqL K H l xs) : SqL K H' l xs := by
  rcases h with (h | ⟨o, h⟩) | h
  · exact .inl (.inl (b _ _ (ne_of h hd (by intro q; cases q)) nw h))
  · exact .inl (.inr ⟨o, b _ _ (ne_of h hd (by intro q; cases q)) nw h⟩)
  · exact .inr h
theorem But.tup {d w l : Addr} {H H' : Hp} {xs : List V} {kvs : List (Key × V)} {ys : List V} (b : But d w H H') (hd : H d = some (.dK kvs)) (hw : H w = some (.lst ys)) (h : SqT K H l xs) : SqT K H' l xs := by
  rcases h with (h | ⟨o, h⟩) | h
  · exact .inl (.inl (b _ _ (ne_of h hd (by intro q; cases q)) (ne_of h hw (by intro q; cases q)) h))
  · exact .inl (.inr ⟨o, b _ _ (ne_of h hd (by intro q; cases q)) (ne_of h hw (by intro q; cases q)) h⟩)
  · exact .inr h
/-- one of the items -/
def spPick (K : PySem.W.Frag) : Sp := fun vs H Q _ => ∃ (d w c l : Addr) (n : Nat) (xs : List V), vs = [.ref d, .ref l] ∧ Stock H d w c n ∧ n < 1000000 ∧ Seq K H l xs ∧ l ≠ w ∧ 0 < xs.length ∧ xs.length < 1000 ∧
  ∀ (H' : Hp) (i : Nat) (x : V), xs[i]? = some x → But d w H H' → Stock H' d w c (n + 1) → Q x H'
theorem ok_pick {f fT : Addr} {fd fdT : FuncData} (F : Fun K "_law_pick" "_law_pick" sPick f fd) (B : Bare mg) (GT : FnOk P w K mg base CX0 2 fT fdT ["draw", "size"] spTake) (gT : mg "_law_take" = some (.ref fT)) (kT : PySem.W.keepIn K (.ref fT) = true) (bT : Binds K fdT ["draw", "size"] []) :
    FnOk P w K mg base CX0 3 f fd ["draw", "some"] (spPick K) := by
  refine F.ok scPick (fun vs H Q E h => ?_) (fun cdv A outer s H vs Q E hr h => ?_)
  · obtain ⟨d, w, c, l, n, xs, rfl, _⟩ := h
    rfl
  · obtain ⟨d, w, c, l, n, xs, rfl, S, hn, hl, nw, l0, l1, k⟩ := h
    refine ⟨_, pss_one (ps_ret (pe_ix ix_seq (pv 1) (pe_call GT hr rfl gT kT bT .nil pass0 (pa_cons (pv 0) (pa_cons (pe_callB call_len_seq (by rfl) B.len PySem.boot_len (pa_cons (pv 1) pa_nil)) pa_nil))) (fun _ _ => rfl))), ?_⟩
    obtain ⟨r, t, r0, t0, tn, hd⟩ := S.own
    obtain ⟨ws, lw, pw, hw⟩ := S.wide
    refine ⟨_, rfl, _, rfl, _, rfl, l, xs, rfl, hl, d, w, c, n, _, rfl, S, hn, by omega, by omega, fun H' x bt S' x0 x1 => ?_⟩
    have hx : x.toNat < xs.length := by omega
    have e : xs[x.toNat]? = some xs[x.toNat] := List.getElem?_eq_getElem hx
    have ex : ((x.toNat : Nat) : Int) = x := Int.toNat_of_nonneg x0
    have ea : atI xs x = some xs[x.toNat] := by
      have q := atI_nat e
      rw [ex] at q
      exact q
    rcases hl with hl | hl
    · exact .inl ⟨l, xs, x, _, rfl, rfl, bt.lst hd nw hl, ea, k _ _ _ e bt S'⟩
    · exact .inr (.inl ⟨l, xs, x, _, rfl, rfl, bt.tup hd hw hl, ea, k _ _ _ e bt S'⟩)
end
end Draw

namespace Kx
open PySem
/-! An own error made by a call with keywords. -/
section
variable {M : Model} {A : Around} {E : Value → Shared → Prop} {h : Heap} {g : Array GenState} {d : Drawn} {t : Nat} {os : OsState}
variable {nm q : Str} {C N : Addr} {bs bm bmB : List Value} {hdct : Bool} {sn : List Str} {sub : List Value} {ab : Bool} {col : Option Bool} {dd : Option Addr} {k0 k1 k2 k3 k5 : Option Value} {B newId initId : String}
theorem newAsk (F : ExcBaseFacts B newId initId bmB) (has : ∀ X : String, bm.contains (.type X) = bmB.contains (.type X)) {pos : List Value} {kw : List (Str × Value)} {Q : Unit → Shared → Prop}
    (hC : h.get? C = some (excClassObj nm q C N bs bm hdct sn sub ab col dd k0 k1 k2 k3 k5 newId)) (want : Q () ⟨h, g, d, t, os⟩) : wpAny M A (checkBuiltinCall newId ⟨.ref C :: pos, kw⟩) Q E ⟨h, g, d, t, os⟩ := by
  have isB : (Value.ref C :: bm).contains (.type B) = true := by rw [List.contains_cons, has, F.hasB, Bool.or_true]
  have st := F.noStar
  simp only [checkBuiltinCall, F.newKind, F.newSplit, F.newRow]
  repeat (first
    | refine wpAny_loadPart_at hC ?_
    | (refine wpAny_isSubtype_exc hC ?_; rw [isB])
    | refine wpAny_staticBase_exc hC ?_
    | refine wpAny_madeBy_exc hC ?_
    | simp only [bne_self_eq_false, Bool.false_eq_true, if_false]
    | wp_step)
  exact want
theorem callAsk {pos : List Value} {kw : List (Str × Value)} {Q : Unit → Shared → Prop} (hC : h.get? C = some (excClassObj nm q C N bs bm hdct sn sub ab col dd k0 k1 k2 k3 k5 newId)) (want : Q () ⟨h, g, d, t, os⟩) :
    wpAny M A (checkBuiltinCall "type.__call__" ⟨.ref C :: pos, kw⟩) Q E ⟨h, g, d, t, os⟩ := by
  have f3 := tc_sub
  have isT : (⟨h, g, d, t, os⟩ : Shared).TypeIs (.ref C) "type" := ⟨_, hC, rfl⟩
  simp only [checkBuiltinCall, tc_kind, tc_split]
  repeat any_goals (first
    | assumption
    | with_reducible refine wpAny_loadPart_at hC ?_
    | wp_step)
end
section
variable {prog : Program} {w : World} {A : Around} {E : Value → Shared → Prop} {R : Result → Shared → Prop} {h : Heap} {g : Array GenState} {d : Drawn} {t : Nat} {os : OsState}
variable {nm q : Str} {C N : Addr} {bs bm bmB : List Value} {hdct : Bool} {sn : List Str} {sub : List Value} {ab : Bool} {col : Option Bool} {dd : Option Addr} {k0 k1 k2 k3 k5 : Option Value} {B newId initId : String}
theorem newMake (F : ExcBaseFacts B newId initId bmB) (has : ∀ X : String, bm.contains (.type X) = bmB.contains (.type X)) {pos : List Value} {kw : List (Str × Value)}
    (hC : h.get? C = some (excClassObj nm q C N bs bm hdct sn sub ab col dd k0 k1 k2 k3 k5 newId))
    (want : R (.ok (.ret (.ref (h.objs.size + 1)))) ⟨(h.push { cls := .type "tuple", data := .seq pos.toArray }).push { cls := .ref C, data := .fields #[.ref h.objs.size, .none, .none, .none, .bool false, .none] }, g, d, t, os⟩) (few : pos.length ≤ sizeLine) :
    codeAny (model prog w) A (.builtin newId ⟨.ref C :: pos, kw⟩) R ⟨h, g, d, t, os⟩ := by
  have en := F.ends
  have isB : (Value.ref C :: bm).contains (.type B) = true := by rw [List.contains_cons, has, F.hasB, Bool.or_true]
  have noA : (Value.ref C :: bm).contains (.type "AttributeError") = false := by rw [List.contains_cons, has, F.noAttr] <;> rfl
  have noN : (Value.ref C :: bm).contains (.type "NameError") = false := by rw [List.contains_cons, has, F.noName] <;> rfl
  apply codeAny_builtinAt F.entry
  unfold Builtin.«BaseException.__new__»
  apply wpAt_bind
  show wpAt _ _ _ (stack >>= _) _ _ _
  refine wpAt_bind (wpAt_stack fun p below => wpAt_of_wpAny ?_)
  wp_walk
  apply wpAt_of_wpAny
  rw [F.owner]
  repeat (first
    | with_reducible refine wpAny_madeHere_exc F.canon hC ?_
    | with_reducible refine wpAny_loadPart_at hC ?_
    | (with_reducible refine wpAny_isSubtype_exc hC ?_; first | rw [isB] | rw [noA] | rw [noN])
    | wp_step)
  show R _ _
  rw [Heap.size_push]
  exact want
theorem typeCall (F : ExcBaseFacts B newId initId bmB) (has : ∀ X : String, bm.contains (.type X) = bmB.contains (.type X)) {pos : List Value} {kw : List (Str × Value)} {fI : Addr} {Q : Fin → Shared → Prop}
    (hC : h.get? C = some (excClassObj nm q C N bs bm hdct sn sub ab col dd k0 k1 k2 k3 k5 newId)) (ini : W.Looks (model prog w) h (typeLookup (.ref C) "__init__") (some (.ref fI)))
    (bnd : ∀ self, W.Looks (model prog w) h (bindSpecial (.ref fI) self) (.ref fI, [self])) (few : pos.length ≤ sizeLine)
    (want : codeAny (model prog w) A (.call (.ref fI) ⟨.ref (h.objs.size + 1) :: pos, kw⟩) (fun r s' => match r with | .ok (.ret v) => v = .none ∧ Q (.done (.ret (.ref (h.objs.size + 1)))) s' | .ok _ => False | .error e => E e s')
      ⟨(h.push (W.kdv_tup pos)).push (HandSPX.excO C h.objs.size), g, d, t, os⟩) : wpAny (model prog w) A (Builtin.«type.__call__» ⟨.ref C :: pos, kw⟩) Q E ⟨h, g, d, t, os⟩ := by
  repeat (first | with_reducible refine wpAny_loadPart_at hC ?_ | with_reducible refine wpAny_madeBy_exc hC ?_ | wp_step)
  refine codeAny_call_builtin_code (Code.quiet_builtin _ F.quiet) (newAsk F has hC ?_)
  refine newMake F has hC ?_ few
  show wpAny _ _ _ _ _ _
  have keep : ∀ b o, h.get? b = some o → ((h.push (W.kdv_tup pos)).push (HandSPX.excO C h.objs.size)).get? b = some o := fun b o z => Heap.get?_push_of_some _ (Heap.get?_push_of_some _ z)
  have hC1 := keep _ _ hC
  have made : ((h.push (W.kdv_tup pos)).push (HandSPX.excO C h.objs.size)).get? (h.objs.size + 1) = some (HandSPX.excO C h.objs.size) := by heap_get
  have isC : (Value.ref C :: bm).contains (.ref C) = true := by simp
  have ini1 := ini.keeps keep
  have bnd1 := (bnd (.ref (h.objs.size + 1))).keeps keep
  unfold isInstance
  repeat (first | with_reducible refine wpAny_loadPart_at made ?_ | (with_reducible refine wpAny_isSubtype_exc hC1 ?_; rw [isC]) | wp_step)
  show wpAny _ _ (typeLookup (.ref C) _) _ _ _
  apply ini1.at
  refine wpAny_holding (wpAny_bind (bnd1.at ?_))
  refine wpAny_bind (wpAny_call (codeAny_mono want fun r s' z => ?_))
  rcases r with e | (v | _ | _ | _) <;> first | exact z | exact z.elim | skip
  obtain ⟨rfl, z⟩ := z
  first
    | exact wpAny_pure (wpAny_pure z)
    | (wp_walk; exact z)
theorem made (F : ExcBaseFacts B newId initId bmB) (has : ∀ X : String, bm.contains (.type X) = bmB.contains (.type X)) {pos : List Value} {kw : List (Str × Value)} {fI : Addr}
    (hC : h.get? C = some (excClassObj nm q C N bs bm hdct sn sub ab col dd k0 k1 k2 k3 k5 newId)) (ini : W.Looks (model prog w) h (typeLookup (.ref C) "__init__") (some (.ref fI)))
    (bnd : ∀ self, W.Looks (model prog w) h (bindSpecial (.ref fI) self) (.ref fI, [self])) (few : pos.length ≤ sizeLine)
    (want : codeAny (model prog w) (A.under (.builtin "type.__call__" ⟨.ref C :: pos, kw⟩)) (.call (.ref fI) ⟨.ref (h.objs.size + 1) :: pos, kw⟩) (W.InitBack (h.objs.size + 1) R) ⟨(h.push (W.kdv_tup pos)).push (HandSPX.excO C h.objs.size), g, d, t, os⟩) :
    codeAny (model prog w) A (.call (.ref C) ⟨pos, kw⟩) R ⟨h, g, d, t, os⟩ := by
  have f1 := tc_lookup
  have f2 := tc_bind (.ref C)
  have isT : (⟨h, g, d, t, os⟩ : Shared).TypeIs (.ref C) "type" := ⟨_, hC, rfl⟩
  apply codeAny_of_tree
  show wpAny _ _ (callAny (.ref C) _) _ _ _
  repeat any_goals (first
    | assumption
    | with_reducible refine wpAny_loadPart_at hC ?_
    | wp_step)
  refine ⟨rfl, ?_⟩
  refine codeAny_call_builtin_at (Code.quiet_builtin _ (by decide +kernel)) entry_typeCall (callAsk hC (typeCall F has hC ini bnd few ?_))
  refine codeAny_mono want fun r s' z => ?_
  rcases r with e | (v | _ | _ | _) <;> exact z
end
end Kx

namespace Er
open PySem PySem.Spec PyProof.Rows L2
open PySem.W (fnX envX)
/-! The errors of the package: each __init__ says super().__init__('..'), then keeps a copy of what it was given. -/
/-- the form of such an __init__ -/
structure Form (st : Stmt) (par field : Str) : Prop where
  kind : (defScope st).kind = .function
  co : (defScope st).isCoroutine = false
  gen : (defScope st).isGenerator = false
  nocell : ∀ y ∈ (defScope st).names, y.2 ≠ .cell
  free : ∀ y ∈ (defScope st).names, y.2 = .free → y.1 = "__class__"
  lself : (defScope st).names.lookup ("self" : Str) = some .local
  lpar : (defScope st).names.lookup par = some .local
  lsuper : (defScope st).names.lookup ("super" : Str) = some .globalImplicit
  lcopied : (defScope st).names.lookup ("copied" : Str) = some .globalImplicit
  lclass : (defScope st).names.lookup ("__class__" : Str) = some .free
  first : ∃ pos, ((defArgs st).posonlyargs ++ (defArgs st).args).head? = some { arg := "self", annotation := none, pos := pos }
  ne : ("self" : Str) ≠ par
  nod : (par == ("__debug__" : Str)) = false
  noc : (par == ("__classdict__" : Str)) = false
  bnd : ∀ (qual : Str) (cl : List (Str × Addr)) (kV doc pm : Value) (an : Option Addr) (cdv ct u1 u2 : Value), bindArgs (fnX "__init__" qual (defArgs st) (defBody st) (defScope st) cl .none kV doc pm an cdv ct) ⟨[u1, u2], []⟩ = pure [(("self" : Str), u1), (par, u2)]
  bndK : ∀ (qual : Str) (cl : List (Str × Addr)) (kV doc pm : Value) (an : Option Addr) (cdv ct u1 u2 : Value), bindArgs (fnX "__init__" qual (defArgs st) (defBody st) (defScope st) cl .none kV doc pm an cdv ct) ⟨[u1], [(par, u2)]⟩ = pure [(("self" : Str), u1), (par, u2)]
  body : ∃ (msg : Str) (j : Nat) (p0 p1 p2 p3 p4 p5 q1 q2 q3 q4 q5 q6 : Pos), (p2.endLine == p4.line) = true ∧ msg.length ≤ sizeLine ∧ defBody st =
    [.Expr (.Call (.Attribute (.Call (.Name "super" p0) [] [] p1) "__init__" p2) [.Constant (.str msg) j p3] [] p4) p5,
     .Assign [.Attribute (.Name "self" q1) field q2] (.Call (.Name "copied" q3) [.Name par q4] [] q5) q6]
/-- what the written part holds of the class at C: its __init__ at fI, the cell with the class at cc -/
structure Txt (P : Program) (K : PySem.W.Frag) (st : Stmt) (qual field : Str) (C fI cc : Addr) : Prop where
  oex : OexC K C
  init : ∃ (oc : Value) (od : Option Addr) (osl : Array (Option Value)) (kV doc pm : Value) (an : Option Addr) (cda : Addr) (ct : Value),
    K.lookup fI = some ⟨oc, od, .func (fnX "__init__" qual (defArgs st) (defBody st) (defScope st) [("__class__", cc)] .none kV doc pm an (.ref cda) ct), osl⟩ ∧ PySem.W.codeIn K (.ref cda) qual = true ∧
    ∃ (ccl : Value) (cdd : Option Addr) (vs : Array Value) (ccs : Array (Option Value)) (file : Str) (tf : Tok), K.lookup cda = some ⟨ccl, cdd, .fields vs, ccs⟩ ∧ vs[2]? = some (.str file tf) ∧ ((P.main.file : Str) == file) = true
  cell : ∃ (cl : Value) (cld : Option Addr) (csl : Array (Option Value)), K.lookup cc = some ⟨cl, cld, .cell (some (.ref C)), csl⟩
  sup : PySem.W.ks_superIn K C C "__init__" = some (some (.builtin "ValueError.__init__"))
  self : PySem.W.mroIn K C (.ref C) = some true
  plain : PySem.W.nsIn K PySem.cStatics "thirdparty.any" = some none
  isVE : PySem.W.subIn K (.ref C) (.type "ValueError") = some true
  noF : PySem.W.findIn K (.ref C) field = some none
  top : (P.main.scope.names.lookup ("super" : Str)).isSome = false
section
variable {P : Program} {w : World} {K : PySem.W.Frag} {mg : Str → Option Value} {base : Heap}
/-- the frame of the __init__ -/
def cxI (P : Program) (w : World) (K : PySem.W.Frag) (mg : Str → Option Value) (base : Heap) (par qual : Str) (scope : Scope) (f cc cda : Addr) (A : Around) (outer : List Env) (s : Shared) (H : Hp) (xe : Value → Shared → Prop) : Cx where
  prog := P
  w := w
  K := K
  mg := mg
  base := base
  A := A.deeper (envX qual scope s.heap.objs.size f (.ref cda) [("__class__", cc)])
  N := ["self", par]
  s_0 := s
  H_0 := H
  env := envX qual scope s.heap.objs.size f (.ref cda) [("__class__", cc)]
  outer := outer
  stack := envX qual scope s.heap.objs.size f (.ref cda) [("__class__", cc)] :: outer
  ex := []
  fn := fun _ => false
  calm := true
  pn := []
  xe := xe
theorem lookup1 {cc : Addr} {y : Str} {c : Addr} (h : List.lookup y [(("__class__" : Str), cc)] = some c) : y = "__class__" ∧ c = cc := by
  simp only [List.lookup] at h
  split at h
  · rename_i e
    cases h
    exact ⟨by simpa using e, rfl⟩
  · cases h
theorem inv_init {st : Stmt} {par field qual : Str} {C f cc cda : Addr} {A : Around} {outer : List Env} {s : Shared} {H : Hp} {xe : Value → Shared → Prop} {u1 u2 : Value} {v1 v2 : V} {h1 : Heap} {tk : Nat} (S : Form st par field) (T : Txt P K st qual field C f cc) (hd : A.handled = none)
    (e0 : Env0 P w K mg base A outer s H) (r1 : RelV v1 u1) (r2 : RelV v2 u2) (ns : h1.Ns s.heap.objs.size (fun x => [(("self" : Str), u1), (par, u2)].reverse.lookup x)) (keep : ∀ b o, s.heap.get? b = some o → h1.get? b = some o) :
    Inv (cxI P w K mg base par qual (defScope st) f cc cda A outer s H xe) [] [some v1, some v2] H { s with heap := h1, toks := tk } := by
  obtain ⟨cl, cld, csl, hcell⟩ := T.cell
  have hc : s.heap.get? cc = some ⟨cl, cld, .cell (some (.ref C)), csl⟩ := (e0.bs _ _ (e0.mod.kin _ _ hcell)).1
  have hcn : H cc = none := (e0.bs _ _ (e0.mod.kin _ _ hcell)).2
  have nomem : ∀ b : Addr, b ∉ (cxI P w K mg base par qual (defScope st) f cc cda A outer s H xe).ex := fun b z => nomatch z
  constructor
  · constructor
    · exact e0.mod
    · exact S.kind
    · rfl
    · rfl
    · exact Nat.le_refl _
    · intro x y c h1 h2
      rw [(lookup1 h1).1, (lookup1 h2).1]
    · intro x hx
      rcases hx with hx | hx
      · exact absurd rfl (S.nocell _ (PySem.mem_of_lookup hx))
      · have q := S.free _ (PySem.mem_of_lookup hx) rfl
        dsimp only at q
        subst q
        exact ⟨cc, rfl⟩
    · intro x c h
      cases h
    · intro _
      exact hd
    · exact Around.frames_deeper e0.frames
    · exact .inr ⟨rfl, rfl⟩
    · intro b z
      exact absurd z (nomem b)
    · exact e0.bs
    · exact e0.bsz
    · intro b o _
      exact nomem b
    · intro b z
      exact absurd z (nomem b)
    · exact e0.funs
    · exact e0.frf
  · rfl
  · exact e0.bare
  · exact Un.kept keep
  · refine ⟨_, ns, fun i x v e1 e2 e3 => ?_⟩
    match i, e1, e2 with
    | 0, e1, e2 =>
      cases e1
      cases e2
      refine ⟨u1, r1, .inl ⟨S.lself, ?_⟩⟩
      have q : (("self" : Str) == par) = false := by simpa using S.ne
      simp [List.lookup, q]
    | 1, e1, e2 =>
      cases e1
      cases e2
      exact ⟨u2, r2, .inl ⟨S.lpar, by simp [List.lookup]⟩⟩
    | i + 2, e1, e2 => cases e2
  · intro x c h
    obtain ⟨_, rfl⟩ := lookup1 (show List.lookup x [(("__class__" : Str), cc)] = some c from h)
    exact ⟨_, _, keep _ _ hc, rfl⟩
  · exact e0.hok.fresh (Nat.le_refl _)
  · intro x c h
    obtain ⟨_, rfl⟩ := lookup1 (show List.lookup x [(("__class__" : Str), cc)] = some c from h)
    exact hcn
  · intro p hp
    exact nomatch hp
  · exact e0.hok.kept keep
  · rfl
theorem mc_eq (env : Env) (msg : Str) (j : Nat) (p0 p1 p2 p3 p4 : Pos) (h : (p2.endLine == p4.line) = true) : eval (.Call (.Attribute (.Call (.Name "super" p0) [] [] p1) "__init__" p2) [.Constant (.str msg) j p3] [] p4) env = (do
      let ov ← attributeBase (.Call (.Name "super" p0) [] [] p1) "__init__" env (eval (.Call (.Name "super" p0) [] [] p1) env)
      standAt p2.atName
      let (f, first) ← holding [ov] (getMethod ov "__init__" (do return (← importBound (.Call (.Name "super" p0) [] [] p1) env).getD true))
      callWith p4 f first (backTo p4 (starEach [.Constant (.str msg) j p3] env)) []) := by
  have e : methodCallPos true (.Call (.Name "super" p0) [] [] p1) env p2 p4 = pure p4 := by
    unfold methodCallPos
    rw [h]
    rfl
  show (do
      let ov ← attributeBase (.Call (.Name "super" p0) [] [] p1) "__init__" env (eval (.Call (.Name "super" p0) [] [] p1) env)
      standAt p2.atName
      let (f, first) ← holding [ov] (calleeOf true (.Call (.Name "super" p0) [] [] p1) env ov "__init__")
      let callPos ← methodCallPos true (.Call (.Name "super" p0) [] [] p1) env p2 p4
      callWith callPos f first (backTo p4 (starEach [.Constant (.str msg) j p3] env)) []) = _
  simp only [e, pure_bind]
  rfl
/-- ValueError.__init__ of the object at e, bound: called with a text -/
theorem call_bound {X : Cx} {pins : List (Addr × Obj)} {σ : L2.St} {H : Hp} {s : Shared} {C e u : Addr} {us : List Value} {Q : Value → Shared → Prop} (T : OexC X.K C) (I : Inv X pins σ H s) (he : H e = some (exo e C none))
    (hu : s.heap.get? u = some (PySem.W.kxs_mw "ValueError.__init__" e)) (few : us.length ≤ sizeLine) (hq : ∀ s', Inv X pins σ H s' → Q .none s') : wpAny (model X.prog X.w) X.A (call (.ref u) us) Q X.xe s := by
  obtain ⟨nm, q, N, bs, bm, sn, sub, ab, col, dd, k0, k1, k2, k3, k5, hC, hbm⟩ := T.cls
  obtain ⟨t1, ho⟩ := exo_at I.hok he
  have inC := I.kIn _ _ hC
  obtain ⟨hp, g, dr, tk, os⟩ := s
  apply wpAny_call
  apply codeAny_of_tree
  show wpAny _ X.A.in1 (callAny (.ref u) ⟨us, []⟩) _ _ _
  simp only [callAny]
  refine wpAny_bind (wpAny_load hu ?_)
  have y1 : (Value.type "method-wrapper" == Value.type "method" || Value.type "method-wrapper" == Value.type "builtin_function_or_method" || Value.type "method-wrapper" == Value.type "method-wrapper") = true := by decide
  simp only [PySem.W.kxs_mw, y1, if_true]
  refine PySem.W.KFB.if_so (by decide) ?_
  refine wpAny_bind (PySem.W.check_bound_init F.excBase_ValueError.toExcCallFacts inC ho rfl ?_)
  refine wpAny_bind (wpAny_pure (wpAny_pure ?_))
  refine ⟨plainId_quiet F.excBase_ValueError.init.plain _, codeAny_builtin F.excBase_ValueError.initEntry ?_⟩
  refine PySem.W.exc_init_tree (cls := .ref C) (t0 := t1) (dv := none) (c2 := .none) (c3 := .none) (b4 := .bool false) ho few fun h' keep hx ht => ?_
  have J := I.write (t' := tk) (x := e) (e := e) (o := exo e C none) (by rw [he]; exact True.intro) (.inl rfl) keep ⟨_, hx⟩ (exo_ok hx)
  have same : upd H e (exo e C none) = H := by
    funext b
    by_cases hb : b = e
    · rw [hb, upd_same, he]
    · rw [upd_ne hb]
  rw [same] at J
  exact hq _ J
theorem super_stmt {st : Stmt} {par field qual : Str} {C f cc cda e : Addr} {A : Around} {outer : List Env} {s0 s : Shared} {H0 H : Hp} {xe : Value → Shared → Prop} {v2 : V} {body : List Stmt} {msg : Str} {j : Nat} {p0 p1 p2 p3 p4 p5 : Pos} {Q : Flow → Shared → Prop}
    (S : Form st par field) (T : Txt P K st qual field C f cc) (gS : mg "super" = none) (look : ∃ (oc : Value) (od : Option Addr) (osl : Array (Option Value)) (kV doc pm : Value) (an : Option Addr) (ct : Value),
      K.lookup f = some ⟨oc, od, .func (fnX "__init__" qual (defArgs st) (defBody st) (defScope st) [("__class__", cc)] .none kV doc pm an (.ref cda) ct), osl⟩)
    (lookc : ∃ (ccl : Value) (cdd : Option Addr) (vs : Array Value) (ccs : Array (Option Value)) (file : Str) (tf : Tok), K.lookup cda = some ⟨ccl, cdd, .fields vs, ccs⟩ ∧ vs[2]? = some (.str file tf) ∧ ((P.main.file : Str) == file) = true)
    (I : Inv (cxI P w K mg base par qual (defScope st) f cc cda A outer s0 H0 xe) [] [some (.ref e), some v2] H s) (he : H e = some (exo e C none)) (hline : (p2.endLine == p4.line) = true)
    (hq : ∀ s', Inv (cxI P w K mg base par qual (defScope st) f cc cda A outer s0 H0 xe) [] [some (.ref e), some v2] H s' → Q .next s') :
    PySem.wpAt (model P w) (A.deeper (envX qual (defScope st) s0.heap.objs.size f (.ref cda) [("__class__", cc)])) (.func body (envX qual (defScope st) s0.heap.objs.size f (.ref cda) [("__class__", cc)]))
      (exec (.Expr (.Call (.Attribute (.Call (.Name "super" p0) [] [] p1) "__init__" p2) [.Constant (.str msg) j p3] [] p4) p5) (envX qual (defScope st) s0.heap.objs.size f (.ref cda) [("__class__", cc)])) Q xe s := by
  obtain ⟨oc, od, osl, kV, doc, pm, an, ct, look⟩ := look
  obtain ⟨ccl, cdd, cvs, ccs, file, tf, lookc, hfile, hmain⟩ := lookc
  obtain ⟨cl, cld, csl, hcell⟩ := T.cell
  obtain ⟨fpos, hfirst⟩ := S.first
  obtain ⟨nm, q, N, bs, bm, sn, sub, ab, col, dd, k0, k1, k2, k3, k5, hC, hbm⟩ := T.oex.cls
  obtain ⟨t1, ho⟩ := exo_at I.hok he
  have inK : K.In s.heap := I.kIn
  obtain ⟨m, hns, hl⟩ := I.loc
  obtain ⟨u0, ru0, lk0⟩ := hl 0 "self" (.ref e) rfl rfl (.inl S.lself)
  obtain rfl : u0 = Value.ref e := ru0
  have hself : m "self" = some (.ref e) := by
    rcases lk0 with ⟨_, z⟩ | ⟨z, _⟩
    · exact z
    · rcases z with z | z
      · have z' : (defScope st).names.lookup ("self" : Str) = some .cell := z
        rw [S.lself] at z'
        cases z'
      · have z' : (defScope st).names.lookup ("self" : Str) = some .free := z
        rw [S.lself] at z'
        cases z'
  obtain ⟨mb, hb1, hb2⟩ := I.mod.blt
  have hD1 := inK _ _ hC
  refine ks_wpAt_Expr_any (ks_wpAt_MethodCall ?_ (mc_eq _ msg j p0 p1 p2 p3 p4 hline)) (by simp [interactive, S.kind])
  refine ks_wpAt_super_base (env := envX qual (defScope st) s0.heap.objs.size f (.ref cda) [("__class__", cc)]) S.lsuper S.lclass (by decide) rfl (inK _ _ look) rfl hfirst rfl (inK _ _ lookc) rfl hfile hmain T.top ?_
  refine PySem.W.ks_loadName_global S.kind S.lsuper (Calls.loadGlobal_builtin (env := envX qual (defScope st) s0.heap.objs.size f (.ref cda) [("__class__", cc)]) (I.mod.glob.keeps I.bk) gS (hb1.keeps I.bk) ((hb2 _ (by decide)).trans (show bootBuiltins ("super" : Str) = some (.type "super") by decide +kernel)) ⟨rfl, ?_⟩)
  refine wpAny_loadName_free S.kind S.lclass rfl ⟨_, inK _ _ hcell, rfl⟩ ?_
  refine wpAny_loadName_local S.kind S.lself hns hself ?_
  obtain ⟨hp, g, dr, tk, os⟩ := s
  refine ks_wpAny_isType_cls hD1 rfl ⟨rfl, ?_⟩
  refine ks_wpAny_call_super hD1 rfl ho rfl (fun c z => nomatch z) (PySem.W.looks_mroIn inK T.self) (fun h1 hso keep1 => ?_)
  have I1 : Inv (cxI P w K mg base par qual (defScope st) f cc cda A outer s0 H0 xe) [] [some (.ref e), some v2] H ⟨h1, g, dr, tk, os⟩ := I.kept (t' := tk) keep1
  have inK1 : K.In h1 := I1.kIn
  have hx1 := keep1 _ _ ho
  have hcl : PySem.W.clsIn K C = some { name := nm, bases := bs, mro := .ref C :: bm, ns := N, qualname := q, hasDict := true, slotNames := sn, subclasses := sub, abstract := ab, collection := col, hasDel := false } := by
    unfold PySem.W.clsIn
    rw [hC] <;> rfl
  have inst : PySem.W.InstAt h1 e { cls := .ref C, dict := none, data := .fields #[.ref t1, .none, .none, .none, .bool false, .none] } C none := ⟨hx1, rfl, rfl, True.intro⟩
  have along := T.sup
  unfold PySem.W.ks_superIn at along
  rw [hcl] at along
  refine PySem.W.kxs_getMethod PySem.W.kxs_ValueError hso (PySem.W.looks_opaque inK1 T.plain) (l₀ := .ref C :: bm) ((PySem.W.looks_clsIn inK1 hcl).andThen .now) rfl inK1 along (inst.type.andThen (PySem.W.looks_subIn inK1 T.isVE)) (PySem.W.ks_ne inK1 inst hcl) (by decide) ?_
  have keep2 : ∀ b o, h1.get? b = some o → (h1.push (PySem.W.kxs_mw "ValueError.__init__" e)).get? b = some o := fun b o z => Heap.get?_push_of_some _ z
  have I2 : Inv (cxI P w K mg base par qual (defScope st) f cc cda A outer s0 H0 xe) [] [some (.ref e), some v2] H ⟨h1.push (PySem.W.kxs_mw "ValueError.__init__" e), g, dr, tk + 1, os⟩ := I1.kept (t' := tk + 1) keep2
  have pinned : ∀ p ∈ (cxI P w K mg base par qual (defScope st) f cc cda A outer s0 H0 xe).pn ++ [(h1.objs.size, PySem.W.kxs_mw "ValueError.__init__" e)], (h1.push (PySem.W.kxs_mw "ValueError.__init__" e)).get? p.1 = some p.2 ∧ H p.1 = none ∧
      p.1 ≠ (cxI P w K mg base par qual (defScope st) f cc cda A outer s0 H0 xe).env.locals ∧ p.1 ∉ (cxI P w K mg base par qual (defScope st) f cc cda A outer s0 H0 xe).fs ∧ ∀ v, p.2.data ≠ .cell v := by
    intro p hp
    have hp' : p = (h1.objs.size, PySem.W.kxs_mw "ValueError.__init__" e) := by simpa [cxI] using hp
    subst hp'
    exact ⟨Heap.get?_push_size h1 rfl, I1.hok.fresh (Nat.le_refl _), Ne.symm (Nat.ne_of_lt I1.lt), I1.nofs (Nat.le_refl _), fun v z => nomatch z⟩
  have I3 : Inv (cxI P w K mg base par qual (defScope st) f cc cda A outer s0 H0 xe) [(h1.objs.size, PySem.W.kxs_mw "ValueError.__init__" e)] [some (.ref e), some v2] H ⟨h1.push (PySem.W.kxs_mw "ValueError.__init__" e), g, dr, tk + 1, os⟩ := { I2 with pin := pinned }
  refine PySem.W.kxs_callWith (i := "ValueError.__init__") (x := e) rfl ?_
  apply Calls.evalArgs_plain
  refine thn ((pa_cons pe_str pa_nil : PA (cxI P w K mg base par qual (defScope st) f cc cda A outer s0 H0 xe) [.Constant (.str msg) j p3] _).run p4 _ _ _ H (fun vs H' => H' = H ∧ vs = [.str msg]) I3 ⟨rfl, rfl⟩) fun us s3 out => ?_
  obtain ⟨vs, H3, I4, r3, rfl, rfl⟩ := out
  have hu := (I4.pin (h1.objs.size, PySem.W.kxs_mw "ValueError.__init__" e) (by simp)).1
  refine ⟨hu, ?_⟩
  have len : us.length = 1 := (Paired.length r3).symm
  exact call_bound T.oex I4 he hu (by rw [List.nil_append, len, sizeLine_eq]; decide) fun s' J => hq s' { J with pin := fun p hp => J.pin p (by simp [cxI] at hp) }
/-- what the __init__ leaves: spc is the copying's promise -/
def spInit (C : Addr) (field : Str) (spc : Sp) : Sp := fun vs H Q _ => ∃ (e : Addr) (v : V), vs = [.ref e, v] ∧ H e = some (exo e C none) ∧
  spc [v] H (fun v' H' => H' e = some (exo e C none) ∧ ∀ dx, H' dx = none → dx ≠ e → Q .non (upd (upd H' dx (exd dx [(field, v')])) e (exo e C (some dx)))) E0
theorem ok_init {st : Stmt} {par field qual : Str} {C fI cc fC : Addr} {fdC : FuncData} {kc : Nat} {spc : Sp} (S : Form st par field) (T : Txt P K st qual field C fI cc) (FC : FnOk P w K mg base CX0 kc fC fdC ["value"] spc) (gC : mg "copied" = some (.ref fC))
    (kC : PySem.W.keepIn K (.ref fC) = true) (bC : Binds K fdC ["value"] []) (gS : mg "super" = none)
    (mono : ∀ (vs : List V) (H : Hp) (Q Q' : VK) (E : XK), (∀ v H', Q v H' → Q' v H') → spc vs H Q E → spc vs H Q' E) : ∃ fd : FuncData, FnOk P w K mg base CX0 (kc + 2) fI fd ["self", par] (spInit C field spc) ∧
      (∀ (s : Shared) (u1 u2 : Value), BindsTo s fd ⟨[u1, u2], []⟩ [(("self" : Str), u1), (par, u2)]) ∧ ∀ (s : Shared) (u1 u2 : Value), BindsTo s fd ⟨[u1], [(par, u2)]⟩ [(("self" : Str), u1), (par, u2)] := by
  obtain ⟨oc, od, osl, kV, doc, pm, an, cda, ct, look, code, ccl, cdd, cvs, ccs, file, tf, lookc, hfile, hmain⟩ := T.init
  obtain ⟨cl, cld, csl, hcell⟩ := T.cell
  obtain ⟨fpos, hfirst⟩ := S.first
  obtain ⟨msg, j, p0, p1, p2, p3, p4, p5, q1, q2, q3, q4, q5, q6, hline, few, hbody⟩ := S.body
  obtain ⟨nm, q, N, bs, bm, sn, sub, ab, col, dd, k0, k1, k2, k3, k5, hC, hbm⟩ := T.oex.cls
  refine ⟨fnX "__init__" qual (defArgs st) (defBody st) (defScope st) [("__class__", cc)] .none kV doc pm an (.ref cda) ct, ⟨fun vs H Q E ⟨e, v, h, _⟩ => by rw [h] <;> rfl, fun A outer s H args us vs Q E room e0 bnd rel want => ?_⟩, fun s u1 u2 => .of_eq (S.bnd qual _ kV doc pm an _ ct u1 u2), fun s u1 u2 => .of_eq (S.bndK qual _ kV doc pm an _ ct u1 u2)⟩
  obtain ⟨e, v, rfl, he, hwant⟩ := want
  cases rel with
  | cons r1 rest =>
    cases rest with
    | cons r2 nil_ =>
      cases nil_
      rename_i u1 u2
      obtain rfl : u1 = Value.ref e := r1
      have inK : K.In s.heap := e0.mod.kin.keeps fun b o z => (e0.bs b o z).1
      have noLim : s.heap.NoLimit := e0.mod.nolimit.keeps fun b o z => (e0.bs b o z).1
      refine ks_codeAny_call_defAt (body := defBody st) (binds := [(("self" : Str), Value.ref e), (par, u2)]) room.depth (inK _ _ look) rfl noLim (PySem.W.codeRec_of inK code) rfl bnd S.nocell ?_ (fun h1 ns keep => ?_) S.co S.gen S.kind
      · intro y hy
        rcases List.mem_cons.mp hy with rfl | hy
        · exact S.lself
        · rw [List.mem_singleton] at hy
          rw [hy]
          exact S.lpar
      · show PySem.wpAt (model P w) (A.deeper (envX qual (defScope st) s.heap.objs.size fI (.ref cda) [("__class__", cc)])) (.func (defBody st) (envX qual (defScope st) s.heap.objs.size fI (.ref cda) [("__class__", cc)])) (execs (defBody st) (envX qual (defScope st) s.heap.objs.size fI (.ref cda) [("__class__", cc)])) _ _ _
        have I := fun xe => inv_init (mg := mg) (base := base) (C := C) (cda := cda) (tk := s.toks + [(("self" : Str), Value.ref e), (par, u2)].length) (xe := xe) S T room.hd e0 (v1 := .ref e) (v2 := v) rfl r2 ns keep
        rw [hbody]
        refine ks_wpAt_execs_cons (super_stmt S T gS ⟨oc, od, osl, kV, doc, pm, an, ct, look⟩ ⟨ccl, cdd, cvs, ccs, file, tf, lookc, hfile, hmain⟩ (I _) he hline fun s' J => ?_)
        refine wpAt_of_wpAny ?_
        have deep := room.deeper (envX qual (defScope st) s.heap.objs.size fI (.ref cda) [("__class__", cc)])
        refine wpAny_mono ((pss_one (ps_ost (pe_var (i := 0) rfl (.inl S.lself)) (pe_call FC (deep.mono (Nat.le_succ _)) (by exact S.lcopied) gC kC bC .nil pass0 (pa_cons (pe_var (i := 1) rfl (.inl S.lpar) S.nod S.noc) pa_nil)))).run [] s' _ H { nx := fun _ H' => Q .non H', rt := Q } J ?_) (fun fl s2 out => ?_) fun e s2 out => out
        · refine ⟨_, rfl, mono [v] H _ _ _ (fun v' H' ⟨g1, g2⟩ => ?_) hwant⟩
          exact ⟨_, rfl, e, C, rfl, T.oex, T.noF, .inl ⟨g1, g2⟩⟩
        · match fl, out with
          | .ret u, ⟨v, σ', H', J, rv, q⟩ => exact ⟨v, H', J.os, J.bare, J.base, J.hok, rv, q⟩
          | .next, ⟨σ', H', J, q⟩ => exact ⟨V.non, H', J.os, J.bare, J.base, J.hok, rfl, q⟩
          | .brk, ⟨_, _, _, q⟩ => exact q.elim
          | .cont, ⟨_, _, _, q⟩ => exact q.elim
end
end Er

namespace Ca
open PySem PySem.Spec PyProof.Rows L2
/-! An error that is caught and kept as a value. -/
/-- such an error at a: its class, its dict -/
def CaO (cls : Value) (d : Option Addr) (a : Addr) : HO := .ext fun h => ∃ (o : Obj) (fs : Array Value), h.get? a = some o ∧ Zc cls d o ∧ o.data = .fields fs
section
variable {X : Cx} {pins : List (Addr × Obj)} {σ : L2.St} {H : Hp} {s : Shared} {a : Addr} {cls : Value} {d : Option Addr} {o : Obj} {fs : Array Value}
theorem caO_ok {P : Program} {w : World} {h : Heap} (at_ : h.get? a = some o) (z : Zc cls d o) (f : o.data = .fields fs) : ObjOk P w H h a (CaO cls d a) :=
  ⟨⟨o, fs, at_, z, f⟩, ⟨o, at_⟩, fun _ _ ⟨o', fs', e, q⟩ st => ⟨o', fs', st _ e, q⟩⟩
/-- from now on it is looked after -/
theorem tracked (I : Inv X pins σ H s) (at_ : s.heap.get? a = some o) (z : Zc cls d o) (f : o.data = .fields fs) (un : H a = none) (nl : a ≠ X.env.locals) (new : X.s_0.heap.get? a = none) (apart : ∀ p ∈ X.pn ++ pins, p.1 ≠ a) :
    Inv X pins σ (upd H a (CaO cls d a)) s := by
  have other : ∀ {b : Addr} {u : HO}, H b = some u → upd H a (CaO cls d a) b = some u := fun {b u} e => by
    rw [upd_ne (ne_of_none e un)]
    exact e
  refine ⟨I.ok, I.os, I.bare, ⟨I.base.keep, I.base.slot, fun b u e n nx => ?_, I.base.there, fun b xs e => other (I.base.tups b xs e), fun b u v e => other (I.base.frzs b u v e), fun b ps e => ?_⟩, I.loc, I.cell, ?_, fun y c e => ?_, fun p hp => ?_, fun b u e => ?_, I.len⟩
  · have ba : b ≠ a := fun q => by rw [q, new] at e; cases e
    rw [upd_ne ba]
    exact I.base.free b u e n nx
  · obtain ⟨m, q⟩ := I.base.tbls b ps e
    exact ⟨m, other q⟩
  · rw [upd_ne (Ne.symm nl)]
    exact I.free
  · have ca : c ≠ a := fun q => by
      obtain ⟨v, oc, e1, e2⟩ := I.cell y c e
      rw [q, at_] at e1
      cases e1
      rw [f] at e2
      cases e2
    rw [upd_ne ca]
    exact I.freeC y c e
  · obtain ⟨e1, e2, e3⟩ := I.pin p hp
    exact ⟨e1, by rw [upd_ne (apart p hp)]; exact e2, e3⟩
  · by_cases ba : b = a
    · subst ba
      rw [upd_same] at e
      cases e
      exact caO_ok at_ z f
    · rw [upd_ne ba] at e
      exact (I.hok b u e).stay (fun _ _ _ q => q) (fun c q => other q) fun c xs q => other q
end
/-- what such a clause wishes: as wAs, and the error stays known behind it -/
def wKeep (K : PySem.W.Frag) (c : Value) (i len : Nat) (ts : Addr → Value → Option Addr → TS) (out : WX) (D : Ends) : WX := fun cls d σ H =>
  ∃ hit, PySem.W.exmOne K cls c = some hit ∧ (hit = false → out cls d σ H) ∧
    (hit = true → σ.length = len → ∀ a, H a = none → ts a cls d ⟨fun σ' H' => H' a = none → D.nx (σ'.set i none) (upd H' a (CaO cls d a)), fun v H' => H' a = none → D.rt v (upd H' a (CaO cls d a)),
      fun σ' H' => H' a = none → D.bk (σ'.set i none) (upd H' a (CaO cls d a)), fun σ' H' => H' a = none → D.ct (σ'.set i none) (upd H' a (CaO cls d a))⟩ (σ.set i (some (.ref a))) H)
section
variable {X : Cx} {cn n : Str} {c : Value} {i : Nat} {body rest : List Stmt} {st₀ : Stmt} {pc ph pt : Pos} {tb : WX → TS} {ts : Addr → Value → Option Addr → TS} {out : WX}
theorem ps_try_keep (stk : X.stack = X.env :: X.outer) (fr : X.env.frame = some X.env.locals) (nd : X.N.Nodup) (slot : X.N[i]? = some n) (loc : X.env.kindOf n = some .local) (names : Names X cn c) (noex : X.ex = []) (leave : Takes X out)
    (hbody : ∀ (W : WX) (pn : List (Addr × Obj)) (xe : Value → Shared → Prop), Takes (X.tr pn xe) W → PassesOwn (model X.prog X.w) X.A X.env xe → PSs (X.tr pn xe) body (tb W))
    (hsuite : ∀ (a : Addr) (o : Obj) (cls : Value) (d : Option Addr) (pn : List (Addr × Obj)), Zc cls d o → (∃ fs, o.data = .fields fs) → PSs (X.suite a ((a, o) :: pn)) (st₀ :: rest) (ts a cls d)) :
    PS X (.Try body [.ExceptHandler (some (.Name cn pc)) (some n) (st₀ :: rest) ph] [] [] pt) (fun D σ H => tb (wKeep X.K c i X.N.length ts out D) D σ H) := by
  constructor
  intro pins s σ H D I h
  have ok := I.ok
  have frames : X.A.frames = some (X.env :: X.outer) := by rw [ok.frames, stk]
  apply wpAny_Try_except
  apply wpAny_mono ((hbody (wKeep X.K c i X.N.length ts out D) (X.pn ++ pins)
    (fun err t₁ => wpAny (model X.prog X.w) X.A (noteFrame err X.env) (fun _ t₂ => wpAny (model X.prog X.w) X.A (setFlight err none) (fun _ t₃ => wpAny (model X.prog X.w) X.A
      (handleBy err X.env [.ExceptHandler (some (.Name cn pc)) (some n) (st₀ :: rest) ph]) (SP X pins D) X.xe t₃) X.xe t₂) X.xe t₁)
    (fun u t air => ?caught) PassesOwn.looking).run [] s σ H D (I.toTry _) h)
  case caught =>
    obtain ⟨a, B, sI, qs, σ₁, H₁, cls, d, rfl, J₀, ground, up, sky, un, os, bare, hit, isHit, no, yes⟩ := air
    have J : Inv X pins σ₁ H₁ sI := J₀.ofTry ok
    have sky₁ : Sky B (X.env :: X.outer) a (Zc cls d) X.env.locals t.heap := by
      rw [← stk]
      exact sky
    show wpAny (model X.prog X.w) X.A (noteFrame (.ref a) X.env) _ _ _
    refine Sky.land Zc.steady frames fr sky₁ fun g₁ fly₁ upg₁ => ?_
    have J₁ : Inv X pins σ₁ H₁ { t with heap := g₁ } := J.landed ground fly₁.1 (up.trans upg₁) os bare
    obtain ⟨o₁, fs₁, at₁, z₁, f₁⟩ := fly₁.there
    have offFrames : a ∉ frs (X.env :: X.outer) := fun m => by
      obtain ⟨_, o', e', nof⟩ := fly₁.2.2.1.mem m
      rw [at₁] at e'
      cases e'
      exact nof _ f₁
    have nl : a ≠ X.env.locals := fun q => offFrames (List.mem_filterMap.mpr ⟨X.env, List.mem_cons_self, by rw [fr, q]⟩)
    have nfs : a ∉ X.fs := fun m => by
      obtain ⟨en, he, q⟩ := List.mem_filterMap.mp m
      exact offFrames (List.mem_filterMap.mpr ⟨en, List.mem_cons_of_mem _ he, q⟩)
    have notYet : ∀ o, sI.heap.get? a = some o → False := fun o e => by
      have q := ground a o e (by rw [stk]; exact offFrames)
      rw [fly₁.2.1] at q
      cases q
    have new : X.s_0.heap.get? a = none := by
      cases e : X.s_0.heap.get? a with
      | none => rfl
      | some o =>
        obtain ⟨o', q⟩ := J.base.there a o e (by rw [noex]; exact fun z => nomatch z)
        exact (notYet o' q).elim
    have apart : ∀ p ∈ X.pn ++ pins, p.1 ≠ a := fun p hp q => notYet p.2 (by rw [← q]; exact (J.pin p hp).1)
    have S₁ := J₁.suite at₁ f₁ un nl nfs
    refine wpAny_handleBy_cons (codeAny_handlers_test ?_) (by intro q; cases q)
    have type : PySem.W.Looks (model X.prog X.w) g₁ (typeOf (.ref a)) cls := fun A' Q' E' t' k q => wpAny_typeOf_ref (k _ _ at₁) (by rw [z₁.1]; exact q)
    have looks := PySem.W.exm_one (M := model X.prog X.w) J₁.kIn type isHit
    have named : ∀ {Q : Value → Shared → Prop} {E : Value → Shared → Prop}, Q c { t with heap := g₁ } → wpAny (model X.prog X.w) (X.A.mark (some (.ref a))) (eval (.Name cn pc) X.env) Q E { t with heap := g₁ } := by
      intro Q E q
      obtain ⟨gl, nodebug, m | ⟨m, bv, nn⟩⟩ := names
      · exact ld_glob (X := X.suite a ((a, o₁) :: (X.pn ++ pins))) S₁ gl m q nodebug
      · exact ld_blt (X := X.suite a ((a, o₁) :: (X.pn ++ pins))) S₁ gl m bv q nn nodebug
    refine named (looks.here ?_)
    cases hit with
    | true =>
      apply codeAny_handlers_suite_as
      refine HandSPX.lands_againZ fly₁ fun g₂ fly₂ upg₂ => ?_
      have J₂ : Inv X pins σ₁ H₁ { t with heap := g₂ } := J.landed ground fly₂.1 ((up.trans upg₁).trans upg₂) os bare
      obtain ⟨o₂, fs₂, at₂, z₂, f₂⟩ := fly₂.there
      have S₂ := J₂.suite at₂ f₂ un nl nfs
      refine store_ok (X := X.suite a ((a, o₂) :: (X.pn ++ pins))) (v := .ref a) S₂ nd slot (.inl loc) rfl (fun t₅ S₅ => ?_) (.inr loc)
      refine wpAny_mono ((hsuite a o₂ cls d (X.pn ++ pins) z₂ ⟨_, f₂⟩).run [] t₅ _ H₁ _ S₅ (yes rfl J.len a un)) (fun fl t₆ sp => ?_) fun _ _ q => q.elim
      have leaves : ∀ {σ₆ : L2.St} {H₆ : Hp} {R : Shared → Prop}, Inv (X.suite a ((a, o₂) :: (X.pn ++ pins))) [] σ₆ H₆ t₆ → (H₆ a = none → ∀ t₇, Inv X pins (σ₆.set i none) (upd H₆ a (CaO cls d a)) t₇ → R t₇) →
          wpAny (model X.prog X.w) X.A (do bindName X.env n .none; unbindBehindTheSuite X.env n ph) (fun _ t₇ => R t₇) X.xe t₆ := by
        intro σ₆ H₆ R S₆ q
        obtain ⟨at₆, un₆, _⟩ := S₆.pin (a, o₂) (List.mem_append_left _ List.mem_cons_self)
        exact gone_ok (tracked (S₆.unsuite ok) at₆ z₂ f₂ un₆ nl new apart) nd slot loc (q un₆)
      cases fl with
      | next =>
        obtain ⟨σ₆, H₆, S₆, q⟩ := sp
        exact leaves S₆ fun u₆ t₇ J₇ => ⟨_, _, J₇, q u₆⟩
      | ret v =>
        obtain ⟨x, σ₆, H₆, S₆, r, q⟩ := sp
        exact leaves S₆ fun u₆ t₇ J₇ => ⟨_, _, _, J₇, r, q u₆⟩
      | brk =>
        obtain ⟨σ₆, H₆, S₆, q⟩ := sp
        exact leaves S₆ fun u₆ t₇ J₇ => ⟨_, _, J₇, q u₆⟩
      | cont =>
        obtain ⟨σ₆, H₆, S₆, q⟩ := sp
        exact leaves S₆ fun u₆ t₇ J₇ => ⟨_, _, J₇, q u₆⟩
    | false =>
      show wpAny _ X.A (handleBy (.ref a) X.env []) _ _ _
      apply wpAny_handleBy_nil
      obtain ⟨_, _, _, o₃, fs₃, T, oT, tb₃, at₃, _, f₃, n₃, _⟩ := id fly₁
      unfold PySem.passOn
      refine wpAny_bind (wpAny_field at₃ f₃ n₃ ?_)
      rw [if_neg (show ¬ ((Value.ref T == Value.none) = true) from by simp)]
      have onward : wpAny (model X.prog X.w) X.A (setFlight (.ref a) X.env.frame) (fun _ t₄ => wpAny (model X.prog X.w) X.A (throw (.ref a) : Sem Flow) (SP X pins D) X.xe t₄) X.xe { t with heap := g₁ } := by
        rw [fr]
        exact HandSPX.setFlight_upZ fly₁ fun g₄ held up₄ => wpAny_throw (leave _ _
          ⟨a, B, sI, pins, σ₁, H₁, cls, d, rfl, J, ground, (up.trans upg₁).trans up₄, .inr (.inr (by rw [stk]; exact held)), un, os, bare, no rfl⟩)
      first
        | exact wpAny_bind (wpAny_pure (wpAny_bind onward))
        | exact wpAny_bind onward
  · intro fl t sp
    cases fl with
    | next =>
      obtain ⟨σ₁, H₁, J, q⟩ := sp
      exact wpAny_execs_nil ⟨σ₁, H₁, J.ofTry ok, q⟩
    | ret v =>
      obtain ⟨x, σ₁, H₁, J, r, q⟩ := sp
      exact ⟨x, σ₁, H₁, J.ofTry ok, r, q⟩
    | brk =>
      obtain ⟨σ₁, H₁, J, q⟩ := sp
      exact ⟨σ₁, H₁, J.ofTry ok, q⟩
    | cont =>
      obtain ⟨σ₁, H₁, J, q⟩ := sp
      exact ⟨σ₁, H₁, J.ofTry ok, q⟩
  · exact fun _ _ q => q
end
end Ca

namespace Ev
open PySem PySem.Spec PyProof.Rows L2
/-! An error as a value: made, asked for its class, read. -/
/-- what the written part says of an error's class, so that its objects may be asked -/
structure ECls (K : PySem.W.Frag) (C : Addr) : Prop where
  exc : L2.ExcC K C
  gc : PySem.W.isClsIn K C = true
/-- an error of the class at C stands at a; fs are its attributes (none as yet: its dict is not there) -/
def ErrAt (H : Hp) (a C : Addr) (fs : Option (List (Str × V))) : Prop := (fs = none ∧ H a = some (exo a C none)) ∨ (fs = none ∧ H a = some (ExO (.ref C) a)) ∨ (∃ (dx : Addr) (l : List (Str × V)), fs = some l ∧ H a = some (exo a C (some dx)) ∧ H dx = some (exd dx l)) ∨
  (fs = none ∧ H a = some (Ca.CaO (.ref C) none a)) ∨ ∃ (dx : Addr) (l : List (Str × V)), fs = some l ∧ H a = some (Ca.CaO (.ref C) (some dx) a) ∧ H dx = some (.xd l)
theorem ErrAt.same {H H' : Hp} {a C : Addr} {fs : Option (List (Str × V))} (h : ErrAt H a C fs) (s : Same H H') : ErrAt H' a C fs := by
  rcases h with ⟨r, h⟩ | ⟨r, h⟩ | ⟨dx, l, r, h1, h2⟩ | ⟨r, h⟩ | ⟨dx, l, r, h1, h2⟩
  · exact .inl ⟨r, s _ _ h⟩
  · exact .inr (.inl ⟨r, s _ _ h⟩)
  · exact .inr (.inr (.inl ⟨dx, l, r, s _ _ h1, s _ _ h2⟩))
  · exact .inr (.inr (.inr (.inl ⟨r, s _ _ h⟩)))
  · exact .inr (.inr (.inr (.inr ⟨dx, l, r, s _ _ h1, s _ _ h2⟩)))
section
variable {X : Cx} {pins : List (Addr × Obj)} {σ : L2.St} {H : Hp} {s : Shared} {a C : Addr}
/-- the object of an error -/
theorem ErrAt.inst {fs : Option (List (Str × V))} (h : ErrAt H a C fs) (I : Inv X pins σ H s) : ∃ ox od, PySem.W.InstAt s.heap a ox C od ∧ ∀ l, fs = some l → ∃ (o : Obj) (mA : Str → Option Value), od = some o ∧ (∀ f, PySem.W.lookIn f o = some (mA f)) ∧ ∀ f, RelO (l.lookup f) (mA f) := by
  rcases h with ⟨r, h⟩ | ⟨r, h⟩ | ⟨dx, l, r, h1, h2⟩ | ⟨r, h⟩ | ⟨dx, l, r, h1, h2⟩
  · obtain ⟨t1, ho⟩ := exo_at I.hok h
    exact ⟨_, none, ⟨ho, rfl, rfl, True.intro⟩, fun l q => by rw [r] at q; cases q⟩
  · obtain ⟨⟨oe, vs, ho, hz, hd, _⟩, _, _⟩ := I.hok a _ h
    obtain ⟨oc, od, oda, osl⟩ := oe
    obtain ⟨z1, z2⟩ := hz
    dsimp only at z1 z2 hd
    subst z1 z2 hd
    exact ⟨_, none, ⟨ho, rfl, rfl, True.intro⟩, fun l q => by rw [r] at q; cases q⟩
  · obtain ⟨t1, ho⟩ := exo_at I.hok h1
    obtain ⟨mA, hns, rel⟩ := exd_at I.hok h2
    obtain ⟨od, hd, hl⟩ := lookIn_ns hns
    refine ⟨_, some od, ⟨ho, rfl, rfl, hd⟩, fun l' q => ?_⟩
    rw [r] at q
    cases q
    exact ⟨od, mA, rfl, hl, rel⟩
  · obtain ⟨⟨o, vs, ho, ⟨z1, z2⟩, hd⟩, _, _⟩ := I.hok a _ h
    obtain ⟨oc, od, oda, osl⟩ := o
    dsimp only at z1 z2 hd
    subst z1 z2 hd
    exact ⟨_, none, ⟨ho, rfl, rfl, True.intro⟩, fun l q => by rw [r] at q; cases q⟩
  · obtain ⟨⟨o, vs, ho, ⟨z1, z2⟩, hd⟩, _, _⟩ := I.hok a _ h1
    obtain ⟨oc, od, oda, osl⟩ := o
    dsimp only at z1 z2 hd
    subst z1 z2 hd
    obtain ⟨mA, hns, rel⟩ := I.hok dx _ h2
    obtain ⟨od, he, hl⟩ := lookIn_ns hns
    refine ⟨_, some od, ⟨ho, rfl, rfl, he⟩, fun l' q => ?_⟩
    rw [r] at q
    cases q
    exact ⟨od, mA, rfl, hl, rel⟩
/-- isinstance(e, c) -/
def rIsErr (K : PySem.W.Frag) : List V → Hp → VK → Prop := fun xs H Q => ∃ (a C : Addr) (fs : Option (List (Str × V))) (c : V) (u : Value) (b : Bool), xs = [.ref a, c] ∧ ErrAt H a C fs ∧ ECls K C ∧ ClsV c u ∧ PySem.W.kitOne K (.ref C) u = some b ∧ Q (.bl b) H
theorem call_isErr : CallR X (.builtin "isinstance") (rIsErr X.K) := by
  intro pins s σ H xs us Q I r h
  obtain ⟨a, C, fs, c, u, b, rfl, he, T, hc, e, q⟩ := h
  obtain ⟨u1, u2, rfl, r1, r2⟩ := vals2 r
  obtain rfl : u1 = Value.ref a := r1
  have e2 := hc.eq r2
  subst e2
  obtain ⟨ox, od, J, _⟩ := he.inst I
  have out : ∀ tk : Nat, EP X pins σ Q (.bool b) { s with toks := tk } := fun tk => ⟨.bl b, H, I.tok tk, rfl, q⟩
  have D := T.exc
  exact PySem.W.kia_one (PySem.W.kitx_exc T.gc D.hg D.hk D.hs D.ha D.hn D.ht D.hm) I.kIn J e (fun z => nomatch z) fun tk => out tk
/-- e.f -/
def tErrF (K : PySem.W.Frag) (f : Str) (te : TE) : TE := fun σ H Q => te σ H fun x H1 => ∃ (a C : Addr) (l : List (Str × V)) (v : V), x = .ref a ∧ ErrAt H1 a C (some l) ∧ XfC K C ∧ PySem.W.findIn K (.ref C) f = some none ∧ l.lookup f = some v ∧ Q v H1
theorem pe_errF {e : Expr} {te : TE} {pos : Pos} {f : Str} (he : PE X e te) (hb : attributeBase e f X.env (eval e X.env) = eval e X.env := by rfl) : PE X (.Attribute e f pos) (tErrF X.K f te) := by
  constructor
  intro pins s σ H Q I h
  refine attr_of hb (thn (he.run pins s σ H _ I h) fun u s1 hh => ?_)
  obtain ⟨x, H1, I1, rx, a, C, l, v, ex, ea, T, no, lk, q⟩ := hh
  subst ex
  obtain rfl : u = Value.ref a := rx
  obtain ⟨ox, od, J, hl⟩ := ea.inst I1
  obtain ⟨o, mA, rfl, look, rel⟩ := hl l rfl
  obtain ⟨u, hu, ru⟩ := RelO.some_of (v := v) (o := mA f) (by rw [← lk]; exact rel f)
  exact HandSPX.exc_get I1.kIn J T.ga T.gg T.exC (PySem.W.findObj_own T.hdC no rfl (by rw [look, hu])) (handed_of ru) ⟨v, H1, I1.tok _, ru, q⟩
/-- C(e) as a value: the new error at a, then its __init__ -/
def tMkE (C : Addr) (sp : Sp) (ta : TA) : TE := fun σ H Q => ta σ H fun vs H1 => ∃ v, vs = [v] ∧ ∀ a, H1 a = none → sp [.ref a, v] (upd H1 a (exo a C none)) (fun z H2 => z = .non ∧ Q (.ref a) H2) E0
variable {k : Nat} {fI : Addr} {fd : FuncData} {sp : Sp} {x par : Str} {p pos : Pos} {e : Expr} {ta : TA}
/-- the call behind the arguments; kw tells whether the one argument came by its name -/
theorem makeErr {Q : VK} {u : Value} {v : V} {us : List Value} {kw : List (Str × Value)} (T : OexC X.K C) (iC : PySem.W.findIn X.K (.ref C) "__init__" = some (some (.ref fI))) (tI : PySem.W.typeIn X.K (.ref fI) = some (.type "function"))
    (F : FnOk X.prog X.w X.K X.mg X.base CX0 k fI fd ["self", par] sp) (room : Room (k + 1) X.A) (few : us.length ≤ 1) (bind : ∀ (s : Shared) (u1 : Value), BindsTo s fd ⟨u1 :: us, kw⟩ [(("self" : Str), u1), (par, u)]) (I : Inv X pins σ H s) (ru : RelV v u)
    (want : ∀ a, H a = none → sp [.ref a, v] (upd H a (exo a C none)) (fun z H2 => z = .non ∧ Q (.ref a) H2) E0) : wpAny (model X.prog X.w) X.A (call (.ref C) us kw) (EP X pins σ Q) X.xe s := by
  obtain ⟨nm, q, N, bs, bm, sn, sub, ab, col, dd, k0, k1, k2, k3, k5, hC, hbm⟩ := T.cls
  obtain ⟨hp, g, dr, tk, os⟩ := s
  have up : hp.objs.size ≤ hp.objs.size + 1 := Nat.le_succ _
  have free : H (hp.objs.size + 1) = none := I.hok.fresh up
  have keep : ∀ b o, hp.get? b = some o → ((hp.push (PySem.W.kdv_tup us)).push (PySem.HandSPX.excO C hp.objs.size)).get? b = some o := fun b o z => Heap.get?_push_of_some _ (Heap.get?_push_of_some _ z)
  have made : ((hp.push (PySem.W.kdv_tup us)).push (PySem.HandSPX.excO C hp.objs.size)).get? (hp.objs.size + 1) = some (PySem.HandSPX.excO C hp.objs.size) := by heap_get
  have I2 : Inv X pins σ (upd H (hp.objs.size + 1) (exo (hp.objs.size + 1) C none)) ⟨(hp.push (PySem.W.kdv_tup us)).push (PySem.HandSPX.excO C hp.objs.size), g, dr, tk, os⟩ :=
    I.laid (t' := tk) (a := hp.objs.size + 1) (o := exo (hp.objs.size + 1) C none) (h' := (hp.push (PySem.W.kdv_tup us)).push (PySem.HandSPX.excO C hp.objs.size)) keep up (exo_ok made)
  have env : Env0 X.prog X.w X.K X.mg X.base (X.A.under (.builtin "type.__call__" ⟨.ref C :: us, kw⟩)) X.stack _ _ := I2.env0.make C us kw
  have run := F.run _ X.stack _ _ ⟨Value.ref (hp.objs.size + 1) :: us, kw⟩ [Value.ref (hp.objs.size + 1), u] [V.ref (hp.objs.size + 1), v] _ E0 (room.make C us kw) env (bind _ _) (.cons rfl (.cons ru .nil)) (want _ free)
  refine wpAny_call (Kx.made PySem.F.excBase_ValueError (fun Y => PySem.HandSPX.refsVE_contains Y bm hbm) (I.kIn _ _ hC) (PySem.W.looks_findIn I.kIn iC) (fun self => PySem.W.bind_fn I.kIn self tI) (Nat.le_trans few (by decide)) (codeAny_mono run fun r s' out => ?_))
  match r, out with
  | .error er, out => exact (show False from out).elim
  | .ok .next, out => exact (show False from out).elim
  | .ok .brk, out => exact (show False from out).elim
  | .ok .cont, out => exact (show False from out).elim
  | .ok (.ret z), out =>
    obtain ⟨v', H', J, rz, ez, q2⟩ := I2.after out
    subst ez
    exact ⟨rz, ⟨V.ref (hp.objs.size + 1), H', J, rfl, q2⟩⟩
theorem pe_mkE (T : OexC X.K C) (iC : PySem.W.findIn X.K (.ref C) "__init__" = some (some (.ref fI))) (tI : PySem.W.typeIn X.K (.ref fI) = some (.type "function")) (F : FnOk X.prog X.w X.K X.mg X.base CX0 k fI fd ["self", par] sp) (room : Room (k + 1) X.A)
    (bind : ∀ (s : Shared) (u1 u2 : Value), BindsTo s fd ⟨[u1, u2], []⟩ [(("self" : Str), u1), (par, u2)]) (hg : Gl X x) (hm : X.mg x = some (.ref C)) (ha : PA X [e] ta)
    (n1 : (x == ("__debug__" : Str)) = false := by decide) (n2 : starEach [e] X.env = (false, eval e X.env) :: starEach [] X.env := by rfl) (n3 : (backTo pos (starEach [] X.env)).any (·.1) = false := by rfl) : PE X (.Call (.Name x p) [e] [] pos) (tMkE C sp ta) := by
  constructor
  intro pins s σ H Q I h
  apply wpAny_Call_Name_kw
  apply ld_glob I hg hm _ n1
  apply PySem.W.callWith_K (h₀ := X.base) I.ok.mod.kin T.kC _ n2 n3
  refine thn (ha.run pos pins s σ H _ I h) fun us s1 ⟨vs, H1, I1, r1, v, ev, q1⟩ => ⟨I1.kIn, ?_⟩
  subst ev
  cases r1 with
  | cons rv rn =>
    cases rn
    exact makeErr T iC tI F room (Nat.le_refl 1) (fun s u1 => bind s u1 _) I1 rv q1
theorem pe_mkEk {kws : List Keyword} (T : OexC X.K C) (iC : PySem.W.findIn X.K (.ref C) "__init__" = some (some (.ref fI))) (tI : PySem.W.typeIn X.K (.ref fI) = some (.type "function")) (F : FnOk X.prog X.w X.K X.mg X.base CX0 k fI fd ["self", par] sp) (room : Room (k + 1) X.A)
    (bind : ∀ (s : Shared) (u1 u2 : Value), BindsTo s fd ⟨[u1], [(par, u2)]⟩ [(("self" : Str), u1), (par, u2)]) (hg : Gl X x) (hm : X.mg x = some (.ref C)) (hk : PK X kws ta) (all : (backToKw pos (keywordEach kws X.env)).all (·.1.isSome) = true := by rfl)
    (names : (backToKw pos (keywordEach kws X.env)).filterMap (·.1) = [par] := by rfl) (n1 : (x == ("__debug__" : Str)) = false := by decide)
    (n3 : ((backTo pos (starEach [] X.env)).any (·.1) || (backToKw pos (keywordEach kws X.env)).any (·.1.isNone)) = false := by rfl) : PE X (.Call (.Name x p) [] kws pos) (tMkE C sp ta) := by
  constructor
  intro pins s σ H Q I h
  apply wpAny_Call_Name_kw
  apply ld_glob I hg hm _ n1
  apply PySem.W.callWith_KW0 (h₀ := X.base) I.ok.mod.kin T.kC all _ n3
  refine thn (hk.run pos pins s σ H _ I h) fun us s1 ⟨vs, H1, I1, r1, v, ev, q1⟩ => ⟨I1.kIn, ?_⟩
  subst ev
  cases r1 with
  | cons rv rn =>
    cases rn
    rw [names]
    exact makeErr T iC tI F room (Nat.zero_le 1) (fun s u1 => bind s u1 _) I1 rv q1
end
end Ev

namespace Co
open PySem PySem.Spec PyProof.Rows L2
/-! copied(value): as data the same, lists and dicts and tuples made anew. -/
def Fl : V → PyData → Prop
  | .non, .none => True
  | .bl b, .bool c => b = c
  | .int i, .int j => i = j
  | .str x, .str y => x = y
  | _, _ => False
def one : Option (Str × Int) → List (Key × V)
  | none => []
  | some p => [(Sum.inr p.1, .int p.2)]
def oneD : Option (Str × Int) → List (PyData × PyData)
  | none => []
  | some p => [(.str p.1, .int p.2)]
/-- at v stands the datum d, fewer than n deep; a dict has one entry at most, a text and an int -/
def Cp (K : PySem.W.Frag) (H : Hp) : Nat → V → PyData → Prop
  | 0, _, _ => False
  | n + 1, v, d => Fl v d ∨ (∃ (a : Addr) (xs : List V) (ds : List PyData), v = .ref a ∧ d = .list ds ∧ SqL K H a xs ∧ xs.length ≤ 100 ∧ Paired (Cp K H n) xs ds) ∨
      (∃ (a : Addr) (xs : List V) (ds : List PyData), v = .ref a ∧ d = .tuple ds ∧ SqT K H a xs ∧ xs.length ≤ 100 ∧ Paired (Cp K H n) xs ds) ∨
      ∃ (a : Addr) (o : Option (Str × Int)), v = .ref a ∧ d = .dict (oneD o) ∧ H a = some (.dK (one o)) ∧ (o = none ∨ 0 < n)
theorem sameT {K : PySem.W.Frag} {H H' : Hp} {a : Addr} {xs : List V} (s : Same H H') (h : SqT K H a xs) : SqT K H' a xs := by
  rcases h with (h | ⟨o, h⟩) | h
  · exact .inl (.inl (s _ _ h))
  · exact .inl (.inr ⟨o, s _ _ h⟩)
  · exact .inr h
theorem Cp.same {K : PySem.W.Frag} {H H' : Hp} (s : Same H H') : ∀ {n : Nat} {v : V} {d : PyData}, Cp K H n v d → Cp K H' n v d
  | 0, _, _, h => h
  | n + 1, v, d, h => by
    rcases h with h | ⟨a, xs, ds, e1, e2, h, l, r⟩ | ⟨a, xs, ds, e1, e2, h, l, r⟩ | ⟨a, o, e1, e2, h, z⟩
    · exact .inl h
    · exact .inr (.inl ⟨a, xs, ds, e1, e2, s.seq h, l, L2.Paired.mapP r fun _ _ q => Cp.same s q⟩)
    · exact .inr (.inr (.inl ⟨a, xs, ds, e1, e2, sameT s h, l, L2.Paired.mapP r fun _ _ q => Cp.same s q⟩))
    · exact .inr (.inr (.inr ⟨a, o, e1, e2, s _ _ h, z⟩))
theorem Cp.flat {K : PySem.W.Frag} {H : Hp} {n : Nat} {v : V} {d : PyData} (h : Fl v d) : Cp K H (n + 1) v d := .inl h
/-- v is made of what is new in H' beside H -/
def CpN (K : PySem.W.Frag) (H H' : Hp) (n : Nat) (v : V) (d : PyData) : Prop := ∀ T : Hp, (∀ b o, H b = none → H' b = some o → T b = some o) → Cp K T n v d
theorem CpN.here {K : PySem.W.Frag} {H H' : Hp} {n : Nat} {v : V} {d : PyData} (h : CpN K H H' n v d) : Cp K H' n v d := h H' fun _ _ _ q => q
def spCopy (K : PySem.W.Frag) (n : Nat) : Sp := fun vs H Q _ => ∃ (v : V) (d : PyData), vs = [v] ∧ Cp K H n v d ∧ ∀ (H' : Hp) (v' : V), Same H H' → CpN K H H' n v' d → Q v' H'
theorem spCopy_mono {K : PySem.W.Frag} {n : Nat} (vs : List V) (H : Hp) (Q Q' : VK) (E : XK) (h : ∀ v H', Q v H' → Q' v H') : spCopy K n vs H Q E → spCopy K n vs H Q' E := fun ⟨v, d, e, c, k⟩ => ⟨v, d, e, c, fun H' v' s r => h _ _ (k H' v' s r)⟩
theorem cpInt {K : PySem.W.Frag} {H : Hp} {i : Int} : ∀ {n : Nat} {v : V}, Cp K H n v (.int i) → v = .int i
  | 0, _, h => h.elim
  | n + 1, v, h => by
    rcases h with h | ⟨_, _, _, _, e, _⟩ | ⟨_, _, _, _, e, _⟩ | ⟨_, _, _, e, _⟩
    · cases v <;> first | exact h.elim | skip
      rw [show _ = i from h]
    · cases e
    · cases e
    · cases e
theorem cpStr {K : PySem.W.Frag} {H : Hp} {i : Str} : ∀ {n : Nat} {v : V}, Cp K H n v (.str i) → v = .str i
  | 0, _, h => h.elim
  | n + 1, v, h => by
    rcases h with h | ⟨_, _, _, _, e, _⟩ | ⟨_, _, _, _, e, _⟩ | ⟨_, _, _, e, _⟩
    · cases v <;> first | exact h.elim | skip
      rw [show _ = i from h]
    · cases e
    · cases e
    · cases e
theorem flatTy {K : PySem.W.Frag} {H : Hp} : ∀ {v : V} {d : PyData}, Fl v d → ∃ t : String, TyX K H v (.type t) ∧ kitB t "list" = some false ∧ kitB t "tuple" = some false ∧ kitB t "dict" = some false
  | .non, .none, _ => ⟨"NoneType", .base .non, by decide +kernel, by decide +kernel, by decide +kernel⟩
  | .bl b, .bool _, _ => ⟨"bool", .base (.bl b), by decide +kernel, by decide +kernel, by decide +kernel⟩
  | .int i, .int _, _ => ⟨"int", .base (.int i), by decide +kernel, by decide +kernel, by decide +kernel⟩
  | .str x, .str _, _ => ⟨"str", .base (.str x), by decide +kernel, by decide +kernel, by decide +kernel⟩
theorem listTy {K : PySem.W.Frag} {H : Hp} {a : Addr} {xs : List V} (h : SqL K H a xs) : TyX K H (.ref a) (.type "list") := by
  rcases h with (h | ⟨o, h⟩) | ⟨o, vs, n, h, hc, _⟩
  · exact .base (.lst h)
  · exact .base (.frz h)
  · exact .kList h hc
theorem tupTy {K : PySem.W.Frag} {H : Hp} {a : Addr} {xs : List V} (h : SqT K H a xs) : TyX K H (.ref a) (.type "tuple") := by
  rcases h with (h | ⟨o, h⟩) | ⟨o, vs, n, h, hc, _⟩
  · exact .base (.tup h)
  · exact .fTuple h
  · exact .kTuple h hc
theorem ifT {A B : Prop} {c : Bool} (e : c = true) (h : A) : if c = true then A else B := by
  rw [if_pos e]
  exact h
theorem ifF {A B : Prop} {c : Bool} (e : c = false) (h : B) : if c = true then A else B := by
  rw [e, if_neg Bool.false_ne_true]
  exact h
theorem pairAt {F : V → PyData → Prop} {xs : List V} {ds : List PyData} (r : Paired F xs ds) : ∀ {i : Nat} {x : V}, xs[i]? = some x → ∃ d, ds[i]? = some d ∧ F x d := by
  induction r with
  | nil => intro i x h; cases h
  | cons h t ih =>
    intro i x e
    cases i with
    | zero => cases e; exact ⟨_, rfl, h⟩
    | succ i => exact ih e
theorem pairSnoc {F : V → PyData → Prop} {xs : List V} {ds : List PyData} {x : V} {d : PyData} (r : Paired F xs ds) (h : F x d) : Paired F (xs ++ [x]) (ds ++ [d]) := by
  induction r with
  | nil => exact .cons h .nil
  | cons q t ih => exact .cons q ih
theorem takeMore {l : List PyData} {i : Nat} {x : PyData} (h : l[i]? = some x) : l.take (i + 1) = l.take i ++ [x] := by
  rw [List.take_add_one, h] <;> rfl
def top (i : Nat) : Stmt := PySem.Challenge.pw_presumebooks_k49_costs_of_courses.main.body.getD i (.Pass ⟨0, 0, 0, 0⟩)
abbrev sCopied : Stmt := top 2
theorem scCopied : FnScope ["value", "item", "key"] ["value"] (defScope sCopied) := ⟨rfl, rfl, rfl, by decide +kernel, rfl, by decide +kernel, by decide +kernel⟩
structure Bare (mg : Str → Option Value) : Prop where
  isi : mg "isinstance" = none
  list : mg "list" = none
  tuple : mg "tuple" = none
  dict : mg "dict" = none
section
variable {P : Program} {w : World} {K : PySem.W.Frag} {mg : Str → Option Value} {base : Heap}
theorem bList : bootBuiltins "list" = some (.type "list") := by decide +kernel
theorem bTuple : bootBuiltins "tuple" = some (.type "tuple") := by decide +kernel
theorem bDict : bootBuiltins "dict" = some (.type "dict") := by decide +kernel
theorem bIsi : bootBuiltins "isinstance" = some (.builtin "isinstance") := by decide +kernel
theorem ok_copied {f : Addr} {fd : FuncData} (F : Fun K "copied" "copied" sCopied f fd) (B : Bare mg) (gC : mg "copied" = some (.ref f)) (bC : Binds K fd ["value"] []) : ∀ n : Nat, FnOk P w K mg base CX0 n f fd ["value"] (spCopy K n)
  | 0 => ⟨fun _ _ _ _ ⟨_, _, _, h, _⟩ => h.elim, fun _ _ _ _ _ _ _ _ _ _ _ _ _ ⟨_, _, _, h, _⟩ => h.elim⟩
  | n + 1 => by
    have G := ok_copied F B gC bC n
    refine F.ok scCopied (fun vs H Q E h => ?_) (fun cdv A outer s H vs Q E hr h => ?_)
    · obtain ⟨v, d, rfl, _⟩ := h
      rfl
    · obtain ⟨v, d, rfl, c, k⟩ := h
      refine ⟨_, pss_cons (ps_if (pt_val (pe_callB call_isi (by rfl) B.isi bIsi (pa_cons (pv 0) (pa_cons (pe_bltn (v := .ty "list") (by rfl) B.list bList rfl) pa_nil))))
          (pss_one (ps_ret (pe_lc (own := [("item", 1)]) (g := gName 1) rfl scCopied.nd (pi_list (pv 0)) (blkOk_by (N := ["value", "item", "key"]) (sc := defScope sCopied) (by decide +kernel))
            (fun _ _ _ _ _ => pg_name (i := 1) scCopied.nd rfl (Or.inl rfl)) (fun _ _ _ _ _ => pts_nil) (fun _ _ _ _ _ => pe_call G hr (by rfl) gC F.kp bC .nil pass0 (pa_cons (pv 1) pa_nil))))) pss_nil)
        (pss_cons (ps_if (pt_val (pe_callB call_isi (by rfl) B.isi bIsi (pa_cons (pv 0) (pa_cons (pe_bltn (v := .ty "tuple") (by rfl) B.tuple bTuple rfl) pa_nil))))
          (pss_one (ps_ret (pe_callTy call_tuple_of (by rfl) B.tuple bTuple (pa_cons (pe_lc (own := [("item", 1)]) (g := gName 1) rfl scCopied.nd (pi_tup (pv 0)) (blkOk_by (N := ["value", "item", "key"]) (sc := defScope sCopied) (by decide +kernel))
            (fun _ _ _ _ _ => pg_name (i := 1) scCopied.nd rfl (Or.inl rfl)) (fun _ _ _ _ _ => pts_nil) (fun _ _ _ _ _ => pe_call G hr (by rfl) gC F.kp bC .nil pass0 (pa_cons (pv 1) pa_nil))) pa_nil)))) pss_nil)
        (pss_cons (ps_if (pt_val (pe_callB call_isi (by rfl) B.isi bIsi (pa_cons (pv 0) (pa_cons (pe_bltn (v := .ty "dict") (by rfl) B.dict bDict rfl) pa_nil))))
          (pss_one (ps_ret (pe_lock (pe_dc (own := [("key", 2)]) (g := gName 2) rfl scCopied.nd (pi_keys (pv 0)) (blkOk_by (N := ["value", "item", "key"]) (sc := defScope sCopied) (by decide +kernel))
            (fun _ _ _ _ _ => pg_name (i := 2) scCopied.nd rfl (Or.inl rfl)) (fun _ _ _ _ _ => pts_nil) (fun _ _ _ _ _ => pv 2)
            (fun _ _ _ _ _ => pe_call G hr (by rfl) gC F.kp bC .nil pass0 (pa_cons (pe_dget (hu_of hr) (pv 0) (pv 2) (fun _ _ => rfl)) pa_nil)))))) pss_nil)
        (pss_one (ps_ret (pv 0))))), ?_⟩
      -- a list's or a tuple's items, one behind the other
      have turn : ∀ (a D : Addr) (xs : List V) (ds : List PyData), xs.length ≤ 100 → H D = none → Paired (Cp K H n) xs ds → ∀ (i : Nat) (x : V) (H' : Hp), xs[i]? = some x →
          (∃ ys, ys.length = i ∧ H' D = some (.lst ys) ∧ Same H H' ∧ Paired (fun y d => ∀ T : Hp, (∀ b o, b ≠ D → H b = none → H' b = some o → T b = some o) → Cp K T n y d) ys (ds.take i)) →
          spCopy K n [x] H' (fun y H4 => ∃ acc, H4 D = some (.lst acc) ∧ acc.length < sizeLine ∧ ∃ ys, ys.length = i + 1 ∧ upd H4 D (.lst (acc ++ [y])) D = some (.lst ys) ∧ Same H (upd H4 D (.lst (acc ++ [y]))) ∧
            Paired (fun y' d => ∀ T : Hp, (∀ b o, b ≠ D → H b = none → upd H4 D (.lst (acc ++ [y])) b = some o → T b = some o) → Cp K T n y' d) ys (ds.take (i + 1))) E0 := by
        intro a D xs ds small hD pr i x H' hx ⟨ys, l1, l2, l3, l4⟩
        obtain ⟨dx, hdx, cx⟩ := pairAt pr hx
        have hi := (List.getElem?_eq_some_iff.mp hx).1
        refine ⟨x, dx, rfl, cx.same l3, fun H4 y s4 c4 => ⟨ys, s4 _ _ l2, ?_, ys ++ [y], ?_, upd_same, ?_, ?_⟩⟩
        · exact Nat.lt_of_le_of_lt (show ys.length ≤ 100 by omega) (by decide)
        · rw [List.length_append, l1]
          rfl
        · intro b o e
          rw [upd_ne (ne_of_none e hD)]
          exact s4 _ _ (l3 _ _ e)
        · rw [takeMore hdx]
          refine pairSnoc (L2.Paired.mapP l4 fun y' d' q T hT => q T fun b o nb h0 h1 => hT b o nb h0 ?_) (fun T hT => c4 T fun b o h0 h1 => ?_)
          · rw [upd_ne nb]
            exact s4 _ _ h1
          · have nb : b ≠ D := fun z => by rw [z, l2] at h0; cases h0
            exact hT b o nb (l3.free h0) (by rw [upd_ne nb]; exact h1)
      rcases c with c | ⟨a, xs, ds, rfl, rfl, sq, small, pr⟩ | ⟨a, xs, ds, rfl, rfl, sq, small, pr⟩ | ⟨a, o, rfl, rfl, hd, deep⟩
      · obtain ⟨t, ty, t1, t2, t3⟩ := flatTy (K := K) (H := H) c
        refine ⟨_, rfl, _, _, _, _, _, rfl, .ty "list", ty, kit_ty t1, _, rfl, ifF rfl ?_⟩
        refine ⟨_, rfl, _, _, _, _, _, rfl, .ty "tuple", ty, kit_ty t2, _, rfl, ifF rfl ?_⟩
        refine ⟨_, rfl, _, _, _, _, _, rfl, .ty "dict", ty, kit_ty t3, _, rfl, ifF rfl ?_⟩
        exact ⟨_, rfl, k _ _ (Same.refl H) fun T _ => .inl c⟩
      · refine ⟨_, rfl, _, _, _, _, _, rfl, .ty "list", listTy sq, kit_ty (r := true) (by decide +kernel), _, rfl, ifT rfl ?_⟩
        refine ⟨_, rfl, a, rfl, ⟨_, sq⟩, fun D hD => lc_list (K := K) (a := a) (xs := xs)
          (fun i H' => ∃ ys, ys.length = i ∧ H' D = some (.lst ys) ∧ Same H H' ∧ Paired (fun y d => ∀ T : Hp, (∀ b o, b ≠ D → H b = none → H' b = some o → T b = some o) → Cp K T n y d) ys (ds.take i))
          ⟨[], rfl, upd_same, fun b o e => by rw [upd_ne (ne_of_none e hD)]; exact e, .nil⟩ (fun i H' _ ⟨_, _, _, s, _⟩ => s.seq sq) (fun i x H' hx inv => ⟨rfl, ?_⟩) (fun H' ⟨ys, l1, l2, l3, l4⟩ => ?_)⟩
        · exact ⟨_, rfl, turn a D xs ds small hD pr i x H' hx inv⟩
        · have full : ds.take xs.length = ds := by rw [pr.length, List.take_length]
          rw [full] at l4
          exact k _ _ l3 fun T hT => .inr (.inl ⟨D, ys, ds, rfl, rfl, .inl (.inl (hT _ _ hD l2)), by omega, L2.Paired.mapP l4 fun y d q => q T fun b o _ h0 h1 => hT b o h0 h1⟩)
      · refine ⟨_, rfl, _, _, _, _, _, rfl, .ty "list", tupTy sq, kit_ty (r := false) (by decide +kernel), _, rfl, ifF rfl ?_⟩
        refine ⟨_, rfl, _, _, _, _, _, rfl, .ty "tuple", tupTy sq, kit_ty (r := true) (by decide +kernel), _, rfl, ifT rfl ?_⟩
        refine ⟨_, rfl, a, rfl, ⟨_, sq⟩, fun D hD => lc_tup (K := K) (a := a) (xs := xs)
          (fun i H' => ∃ ys, ys.length = i ∧ H' D = some (.lst ys) ∧ Same H H' ∧ Paired (fun y d => ∀ T : Hp, (∀ b o, b ≠ D → H b = none → H' b = some o → T b = some o) → Cp K T n y d) ys (ds.take i))
          ⟨[], rfl, upd_same, fun b o e => by rw [upd_ne (ne_of_none e hD)]; exact e, .nil⟩ (fun i H' _ ⟨_, _, _, s, _⟩ => sameT s sq) (fun i x H' hx inv => ⟨rfl, ?_⟩) (fun H' ⟨ys, l1, l2, l3, l4⟩ => ?_)⟩
        · exact ⟨_, rfl, turn a D xs ds small hD pr i x H' hx inv⟩
        · have full : ds.take xs.length = ds := by rw [pr.length, List.take_length]
          rw [full] at l4
          refine ⟨D, ys, rfl, .inl ⟨.inl (.inl l2), fun l hl => k _ _ (fun b o e => ?_) fun T hT => .inr (.inr (.inl ⟨l, ys, ds, rfl, rfl, .inl (.inl (hT _ _ (l3.free hl) upd_same)), by omega, L2.Paired.mapP l4 fun y d q => q T fun b o _ h0 h1 => hT b o h0 ?_⟩))⟩⟩
          · have z := l3 _ _ e
            rw [upd_ne (ne_of_none z hl)]
            exact z
          · rw [upd_ne (ne_of_none h1 hl)]
            exact h1
      · refine ⟨_, rfl, _, _, _, _, _, rfl, .ty "list", .base (.dK hd), kit_ty (r := false) (by decide +kernel), _, rfl, ifF rfl ?_⟩
        refine ⟨_, rfl, _, _, _, _, _, rfl, .ty "tuple", .base (.dK hd), kit_ty (r := false) (by decide +kernel), _, rfl, ifF rfl ?_⟩
        refine ⟨_, rfl, _, _, _, _, _, rfl, .ty "dict", .base (.dK hd), kit_ty (r := true) (by decide +kernel), _, rfl, ifT rfl ?_⟩
        refine ⟨a, _, hd, True.intro, fun od => ⟨_, rfl, a, od, rfl, .inl ⟨_, upd_same, fun D hD => ?_⟩⟩⟩
        have hDa : D ≠ a := fun z => by rw [z, upd_same] at hD; cases hD
        have hD0 : H D = none := by rw [upd_ne hDa] at hD; exact hD
        -- what stands behind the display, the lock let go
        have fin : ∀ H' : Hp, Same (upd H a (.frz od (.dK (one o)))) H' → H' D = some (.dK (one o)) → H' a = some (.frz od (.dK (one o))) ∧ Q (.ref D) (upd H' a (.dK (one o))) := by
          intro H' s hD'
          refine ⟨s _ _ upd_same, k _ _ (fun b u e => ?_) fun T hT => .inr (.inr (.inr ⟨D, o, rfl, rfl, hT _ _ hD0 (by rw [upd_ne hDa]; exact hD'), deep⟩))⟩
          by_cases hb : b = a
          · rw [hb, upd_same, ← hd, ← hb]
            exact e
          · rw [upd_ne hb]
            exact s _ _ (by rw [upd_ne hb]; exact e)
        cases o with
        | none =>
          refine ⟨fun i m H' => i = 0 ∧ Same (upd H a (.frz od (.dK (one none)))) H' ∧ H' D = some (.dK []), ⟨0, rfl, fun b u e => ?_, upd_same⟩, fun i m H' ⟨e0, s, hD'⟩ => .inl ⟨⟨s _ _ upd_same, Nat.zero_le _⟩, fin H' s hD'⟩⟩
          rw [upd_ne (ne_of_none e hD)]
          exact e
        | some p =>
          refine ⟨fun i m H' => m = 1 - i ∧ i ≤ 1 ∧ Same (upd H a (.frz od (.dK (one (some p))))) H' ∧ H' D = some (.dK ((one (some p)).take i)), ⟨1, rfl, Nat.zero_le _, fun b u e => ?_, upd_same⟩, fun i m H' ⟨em, i1, s, hD'⟩ => ?_⟩
          · rw [upd_ne (ne_of_none e hD)]
            exact e
          · match i, i1, em, hD' with
            | 1, _, _, hD' => exact .inl ⟨⟨s _ _ upd_same, Nat.le_refl _⟩, fin H' s hD'⟩
            | 0, _, em, hD' =>
              refine .inr ⟨⟨s _ _ upd_same, Nat.zero_lt_one⟩, fun H2 => Same (upd H a (.frz od (.dK (one (some p))))) H2 ∧ H2 D = some (.dK (one (some p))), fun H2 ⟨s2, q2⟩ => ⟨0, by omega, rfl, Nat.le_refl _, s2, q2⟩, fun x H2 y => ?_⟩
              obtain ⟨rfl, ky, vy, e1, rfl⟩ := y
              cases e1
              have n0 : 0 < n := by
                rcases deep with z | z
                · cases z
                · exact z
              have val : valV (one (some p)) (Sum.inr p.1) = some (.int p.2) := by simp [one, valV]
              obtain ⟨n', rfl⟩ : ∃ n', n = n' + 1 := ⟨n - 1, by omega⟩
              refine ⟨rfl, _, rfl, _, rfl, _, rfl, a, .int p.2, rfl, .inl ⟨_, Sum.inr p.1, .inr ⟨od, s _ _ upd_same⟩, rfl, val.symm⟩, .int p.2, .int p.2, rfl, .inl rfl, fun H5 v' s5 c5 => ?_⟩
              obtain rfl := cpInt c5.here
              refine ⟨[], Sum.inr p.1, rfl, s5 _ _ hD', Nat.lt_of_le_of_lt (Nat.zero_le 1) (by decide), fun b u e => ?_, ?_⟩
              · rw [upd_ne (ne_of_none e hD)]
                exact s5 _ _ (s _ _ e)
              · rw [upd_same]
                simp [one, putK]
end
end Co

namespace Ow
open PySem PySem.Spec PyProof.Rows L2 Ev Er Co
/-! The errors that keep a value, and those that keep none, as the callers see them. -/
theorem weaken {X : Cx} {e : Expr} {t t' : TE} (h : PE X e t) (i : ∀ σ H Q, t' σ H Q → t σ H Q) : PE X e t' := ⟨fun pins s σ H Q I z => h.run pins s σ H Q I (i σ H Q z)⟩
structure OwnE (P : Program) (w : World) (K : PySem.W.Frag) (mg : Str → Option Value) (base : Heap) (n k : Nat) (name par field : Str) (C : Addr) : Prop where
  ex : ∃ (fI : Addr) (fd : FuncData), FnOk P w K mg base CX0 k fI fd ["self", par] (spInit C field (spCopy K n)) ∧ PySem.W.findIn K (.ref C) "__init__" = some (some (.ref fI)) ∧ PySem.W.typeIn K (.ref fI) = some (.type "function") ∧
    (∀ (s : Shared) (u1 u2 : Value), BindsTo s fd ⟨[u1, u2], []⟩ [(("self" : Str), u1), (par, u2)]) ∧ ∀ (s : Shared) (u1 u2 : Value), BindsTo s fd ⟨[u1], [(par, u2)]⟩ [(("self" : Str), u1), (par, u2)]
  oex : OexC K C
  xf : XfC K C
  no : PySem.W.findIn K (.ref C) field = some none
  g : mg name = some (.ref C)
/-- the new error, as told to the caller -/
def tNewErr (K : PySem.W.Frag) (n : Nat) (C : Addr) (field : Str) (ta : TA) : TE := fun σ H Q => ta σ H fun vs H1 => ∃ (v : V) (d : PyData), vs = [v] ∧ Cp K H1 n v d ∧
  ∀ (H' : Hp) (a : Addr) (v' : V), Same H1 H' → H1 a = none → ErrAt H' a C (some [(field, v')]) → Cp K H' n v' d → Q (.ref a) H'
def tFieldOf (K : PySem.W.Frag) (n : Nat) (ta : TA) : TE := fun σ H Q => ta σ H fun vs H1 => ∃ (v : V) (d : PyData), vs = [v] ∧ Cp K H1 n v d ∧ ∀ (H' : Hp) (v' : V), Same H1 H' → Cp K H' n v' d → Q v' H'
theorem initRd {K : PySem.W.Frag} {n : Nat} {C : Addr} {field : Str} {H : Hp} {v : V} {d : PyData} {Q : VK} (c : Cp K H n v d) (q : ∀ (H' : Hp) (a : Addr) (v' : V), Same H H' → H a = none → ErrAt H' a C (some [(field, v')]) → Cp K H' n v' d → Q (.ref a) H') :
    ∀ a, H a = none → spInit C field (spCopy K n) [.ref a, v] (upd H a (exo a C none)) (fun z H2 => z = .non ∧ Q (.ref a) H2) E0 := by
  intro a ha
  have s0 : Same H (upd H a (exo a C none)) := fun b o e => by
    rw [upd_ne (ne_of_none e ha)]
    exact e
  refine ⟨a, v, rfl, upd_same, v, d, rfl, c.same s0, fun H' v' s cn => ⟨s _ _ upd_same, fun dx hdx ne => ⟨rfl, q _ a v' (fun b o e => ?_) ha (.inr (.inr (.inl ⟨dx, _, rfl, upd_same, ?_⟩))) (cn _ fun b o h0 h1 => ?_)⟩⟩⟩
  · have h1 := s _ _ (s0 _ _ e)
    rw [upd_ne (ne_of_none e ha), upd_ne (ne_of_none h1 hdx)]
    exact h1
  · rw [upd_ne ne, upd_same]
  · have na : b ≠ a := fun z => by rw [z, upd_same] at h0; cases h0
    rw [upd_ne na, upd_ne (ne_of_none h1 hdx)]
    exact h1
section
variable {X : Cx} {n k : Nat} {name par field : Str} {C : Addr} {e : Expr} {ta : TA} {p pos pos2 : Pos}
/-- arguments whose reading may be widened -/
def taW (ta : TA) : TA := fun σ H Q => ∃ R : List V → Hp → Prop, ta σ H R ∧ ∀ vs H', R vs H' → Q vs H'
theorem pa_wide {es : List Expr} (ha : PA X es ta) : PA X es (taW ta) := ⟨fun pos pins s σ H Q I ⟨R, h, i⟩ => wpAny_mono (ha.run pos pins s σ H R I h) (fun us s' ⟨vs, H', I', r, q⟩ => ⟨vs, H', I', r, i _ _ q⟩) fun _ _ z => z⟩
theorem pk_wide {kws : List Keyword} (ha : PK X kws ta) : PK X kws (taW ta) := ⟨fun pos pins s σ H Q I ⟨R, h, i⟩ => wpAny_mono (ha.run pos pins s σ H R I h) (fun us s' ⟨vs, H', I', r, q⟩ => ⟨vs, H', I', r, i _ _ q⟩) fun _ _ z => z⟩
theorem pe_newErr (O : OwnE X.prog X.w X.K X.mg X.base n k name par field C) (room : Room (k + 1) X.A) (hg : Gl X name) (ha : PA X [e] ta) (n1 : (name == ("__debug__" : Str)) = false := by decide)
    (n2 : starEach [e] X.env = (false, eval e X.env) :: starEach [] X.env := by rfl) (n3 : (backTo pos (starEach [] X.env)).any (·.1) = false := by rfl) : PE X (.Call (.Name name p) [e] [] pos) (tNewErr X.K n C field ta) := by
  obtain ⟨fI, fd, F, iC, tI, bp, bk⟩ := O.ex
  exact weaken (pe_mkE (p := p) (pos := pos) O.oex iC tI F room bp hg O.g (pa_wide ha) n1 n2 n3) fun σ H Q h => ⟨_, h, fun vs H' ⟨v, d, e, c, q⟩ => ⟨v, e, initRd c q⟩⟩
theorem pe_newErrK {kws : List Keyword} (O : OwnE X.prog X.w X.K X.mg X.base n k name par field C) (room : Room (k + 1) X.A) (hg : Gl X name) (hk : PK X kws ta) (all : (backToKw pos (keywordEach kws X.env)).all (·.1.isSome) = true := by rfl)
    (names : (backToKw pos (keywordEach kws X.env)).filterMap (·.1) = [par] := by rfl) (n1 : (name == ("__debug__" : Str)) = false := by decide)
    (n3 : ((backTo pos (starEach [] X.env)).any (·.1) || (backToKw pos (keywordEach kws X.env)).any (·.1.isNone)) = false := by rfl) : PE X (.Call (.Name name p) [] kws pos) (tNewErr X.K n C field ta) := by
  obtain ⟨fI, fd, F, iC, tI, bp, bk⟩ := O.ex
  exact weaken (pe_mkEk (p := p) (pos := pos) O.oex iC tI F room bk hg O.g (pk_wide hk) all names n1 n3) fun σ H Q h => ⟨_, h, fun vs H' ⟨v, d, e, c, q⟩ => ⟨v, e, initRd c q⟩⟩
/-- the value that the new error keeps -/
theorem pe_keeps {q : Pos} {ex : Expr} (O : OwnE X.prog X.w X.K X.mg X.base n k name par field C) (h : PE X ex (tNewErr X.K n C field (taW ta))) (hb : attributeBase ex field X.env (eval ex X.env) = eval ex X.env := by rfl) : PE X (.Attribute ex field q) (tFieldOf X.K n ta) :=
  weaken (pe_errF h hb) fun σ H Q z => ⟨_, z, fun vs H' ⟨v, d, e, c, k⟩ => ⟨v, d, e, c, fun H2 a v' s ha ea c' => ⟨a, C, _, v', rfl, ea, O.xf, O.no, by simp [List.lookup], k H2 v' s c'⟩⟩⟩
theorem pe_kept {p pos pos2 : Pos} (O : OwnE X.prog X.w X.K X.mg X.base n k name par field C) (room : Room (k + 1) X.A) (hg : Gl X name) (ha : PA X [e] ta) (hb : attributeBase (.Call (.Name name p) [e] [] pos) field X.env (eval (.Call (.Name name p) [e] [] pos) X.env) = eval (.Call (.Name name p) [e] [] pos) X.env := by rfl)
    (n1 : (name == ("__debug__" : Str)) = false := by decide) (n2 : starEach [e] X.env = (false, eval e X.env) :: starEach [] X.env := by rfl) (n3 : (backTo pos (starEach [] X.env)).any (·.1) = false := by rfl) :
    PE X (.Attribute (.Call (.Name name p) [e] [] pos) field pos2) (tFieldOf X.K n ta) := pe_keeps O (pe_newErr O room hg (pa_wide ha) n1 n2 n3) hb
theorem pe_keptK {kws : List Keyword} {p pos pos2 : Pos} (O : OwnE X.prog X.w X.K X.mg X.base n k name par field C) (room : Room (k + 1) X.A) (hg : Gl X name) (hk : PK X kws ta) (hb : attributeBase (.Call (.Name name p) [] kws pos) field X.env (eval (.Call (.Name name p) [] kws pos) X.env) = eval (.Call (.Name name p) [] kws pos) X.env := by rfl)
    (all : (backToKw pos (keywordEach kws X.env)).all (·.1.isSome) = true := by rfl) (names : (backToKw pos (keywordEach kws X.env)).filterMap (·.1) = [par] := by rfl) (n1 : (name == ("__debug__" : Str)) = false := by decide)
    (n3 : ((backTo pos (starEach [] X.env)).any (·.1) || (backToKw pos (keywordEach kws X.env)).any (·.1.isNone)) = false := by rfl) :
    PE X (.Attribute (.Call (.Name name p) [] kws pos) field pos2) (tFieldOf X.K n ta) := pe_keeps O (pe_newErrK O room hg (pk_wide hk) all names n1 n3) hb
/-- an error that keeps no value: made with a text -/
structure BareE (K : PySem.W.Frag) (mg : Str → Option Value) (name : Str) (C : Addr) : Prop where
  exc : PySem.W.excIn K C PySem.HandSPX.veTail "ValueError.__new__" = true
  g : mg name = some (.ref C)
  k : PySem.W.keepIn K (.ref C) = true
def tBareErr (C : Addr) (te : TE) : TE := fun σ H Q => te σ H fun _ H1 => ∀ (H' : Hp) (a : Addr), Same H1 H' → H1 a = none → ErrAt H' a C none → Q (.ref a) H'
theorem pe_bareErr {te : TE} (O : BareE X.K X.mg name C) (hg : Gl X name) (he : PE X e te) (n2 : starEach [e] X.env = (false, eval e X.env) :: starEach [] X.env := by rfl) (n1 : (name == ("__debug__" : Str)) = false := by decide) :
    PE X (.Call (.Name name p) [e] [] pos) (tBareErr C te) := by
  have wide : PE X e (fun σ H Q => ∃ R : VK, te σ H R ∧ ∀ v H', R v H' → Q v H') := ⟨fun pins s σ H Q I ⟨R, h, i⟩ => wpAny_mono (he.run pins s σ H R I h) (fun u s' ⟨v, H', I', r, q⟩ => ⟨v, H', I', r, i _ _ q⟩) fun _ _ z => z⟩
  refine weaken (pe_exc1 (p := p) (pos := pos) PySem.F.excBase_ValueError O.exc O.g O.k hg wide n2 n1) fun σ H Q h => ⟨_, h, fun v H1 k a ha => k _ a (fun b o e => ?_) ha (.inr (.inl ⟨rfl, upd_same⟩))⟩
  rw [upd_ne (ne_of_none e ha)]
  exact e
end
end Ow

namespace Sh
open PySem PySem.Spec PyProof.Rows L2 Co Gd
/-! What is copied can be shown. -/
theorem dpFl {K : PySem.W.Frag} {H : Hp} : ∀ {v : V} {d : PyData}, Fl v d → Dp K H v d
  | .non, .none, _ => .non
  | .bl b, .bool _, h => by cases (show b = _ from h); exact .bl b
  | .int i, .int _, h => by cases (show i = _ from h); exact .int i
  | .str x, .str _, h => by cases (show x = _ from h); exact .str x
theorem dpPair {K : PySem.W.Frag} {H : Hp} {xs : List V} {ds : List PyData} (r : Paired (fun v d => d.hasDict = false → Dp K H v d) xs ds) : PyData.hasDictAll ds = false → DpAll K H xs ds := by
  induction r with
  | nil => intro _; exact .nil
  | cons h t ih =>
    intro z
    simp only [PyData.hasDictAll, Bool.or_eq_false_iff] at z
    exact .cons (h z.1) (ih z.2)
theorem cpDp {K : PySem.W.Frag} {H : Hp} : ∀ {n : Nat} {v : V} {d : PyData}, Cp K H n v d → d.hasDict = false → Dp K H v d
  | 0, _, _, h, _ => h.elim
  | n + 1, v, d, h, z => by
    rcases h with h | ⟨a, xs, ds, rfl, rfl, sq, l, r⟩ | ⟨a, xs, ds, rfl, rfl, sq, l, r⟩ | ⟨a, o, rfl, rfl, hd, _⟩
    · exact dpFl h
    · simp only [PyData.hasDict] at z
      exact .lst sq (dpPair (L2.Paired.mapP r fun _ _ q => cpDp q) z)
    · simp only [PyData.hasDict] at z
      exact .tup sq (dpPair (L2.Paired.mapP r fun _ _ q => cpDp q) z)
    · simp only [PyData.hasDict] at z
      cases z
/-- what the laws show: no dict within it, or one of one entry -/
def Plain (d : PyData) : Prop := d.hasDict = false ∨ ∃ o, d = .dict (oneD o)
section
variable {P : Program} {w : World} {K : PySem.W.Frag} {H : Hp} {n : Nat} {v : V} {d : PyData}
theorem shown_dict0 {a : Addr} (h : H a = some (.dK [])) : Shown P w K H (.ref a) (.dict []) := fun X _ _ _ pins σ s u I r => by
  obtain rfl : u = Value.ref a := r
  obtain ⟨hz, hsys, vs, kv, o, es, ep, h1, h2, h3, h4, h5, h6⟩ := I.hok a _ h
  cases kv
  have hE : es.toList = [] := by
    cases q : es.toList with
    | nil => rfl
    | cons e rest => rw [q] at h5; cases h5
  refine ⟨_, Reads.dict h1 h2.1 h3 (as := []) (bs := []) ?_ ?_, fun _ m => ?_⟩
  · rw [hE]
    exact .nil
  · rw [hE]
    exact .nil
  · have q : sysModules = a := by simpa using m
    rw [q] at hsys
    simp at hsys
theorem cpShown (c : Cp K H n v d) (p : Plain d) : Shown P w K H v d := by
  rcases p with p | ⟨o, rfl⟩
  · exact shown_dp (cpDp c p) p
  · cases n with
    | zero => exact c.elim
    | succ n =>
      rcases c with c | ⟨_, _, _, _, e, _⟩ | ⟨_, _, _, _, e, _⟩ | ⟨a, o', rfl, e, hd, _⟩
      · cases v <;> exact c.elim
      · cases e
      · cases e
      · have eo : o = o' := by
          cases o with
          | none => cases o' with
            | none => rfl
            | some p' => cases e
          | some p => cases o' with
            | none => cases e
            | some p' =>
              obtain ⟨x, i⟩ := p
              obtain ⟨x', i'⟩ := p'
              simp only [oneD, PyData.dict.injEq, List.cons.injEq, Prod.mk.injEq, PyData.str.injEq, PyData.int.injEq, and_true] at e
              rw [e.1, e.2]
        subst eo
        cases o with
        | none => exact shown_dict0 hd
        | some p => exact shown_dict1 hd
/-- repr(x) of it -/
theorem showRd {Q : VK} (c : Cp K H n v d) (p : Plain d) (h1 : d.showable = true) (h2 : d.depth ≤ 40) (h3 : d.shown.length ≤ sizeLine) (q : Q (.str d.shown) H) : rShow P w K [v] H Q := ⟨v, d, rfl, cpShown c p, h1, h2, h3, q⟩
end
end Sh

namespace Wi
open PySem PySem.Spec PySem.Calls PyProof.Rows PySem.SeqAt PySem.MeetsSeq
open AutoSeq1 (wpAny_loadPart')
/-! A text beside a dict: never equal. Any datum sought among texts. -/
theorem sub_str_dict : isSubtype (.type "str") (.type "dict") = pure false := by
  rw [isSubtype_type]
  kernel_rfl
theorem dict_declines (l : Addr) (b : Str) (u : Tok) : Meets (Builtin.«dict.__eq__» ⟨[.ref l, .str b u], []⟩) (fun _ R s => R (.ok (.ret .notImplemented)) s) :=
  .of_wp fun prog w A R s h => by
    obtain ⟨hp, g, d, tk, os⟩ := s
    have f1 := sub_str_dict
    wp_walk
    exact ⟨_, rfl, h⟩
theorem str_declines (b : Str) (u : Tok) (l : Addr) (dd : Option Addr) (es : Array DictEntry) (n : Nat) (sl : Array (Option Value)) :
    Meets (Builtin.«str.__eq__» ⟨[.str b u, .ref l], []⟩) (fun _ R s => s.heap.get? l = some { cls := .type "dict", dict := dd, data := .dict es n, slots := sl } ∧ R (.ok (.ret .notImplemented)) s) :=
  .of_wp fun prog w A R s h => by
    obtain ⟨hp, g, d, tk, os⟩ := s
    obtain ⟨hl, h⟩ := h
    wp_walk using wpAny_loadPart' hl, wpAny_load hl
    exact ⟨_, rfl, h⟩
section
variable {A : Around} {s : Shared}
theorem str_dict {l : Addr} {dd : Option Addr} {es : Array DictEntry} {n : Nat} {sl : Array (Option Value)} (b : Str) (u : Tok) (at_ : s.heap.get? l = some { cls := .type "dict", dict := dd, data := .dict es n, slots := sl }) (room : A.units < cLine) :
    EqAt A s (.str b u) (.ref l) false := by
  intro prog w E Q h
  unfold eqBool
  refine wpAny_holding (wpAny_ite_split (fun same => absurd (eq_of_beq same) nofun) fun _ => wpAny_bind ?_)
  exact rc_eq_decline_or (k := false) (typeIs_str s b u) ⟨_, at_, rfl⟩ (by decide) F.sub_dict_str F.slot_str_eq F.slot_dict_eq_refl
    (fun _ q => call_meets F.slot_str_eq (typeIs_str s b u) F.entry_str_eq (F.args_str_eq_2 _ _) (str_declines b u l dd es n sl) ⟨at_, q⟩)
    (fun _ q => call_meets F.slot_dict_eq_refl ⟨_, at_, rfl⟩ F.entry_dict_eq (F.args_dict_eq_2 _ _) (dict_declines l b u) q)
    (fun _ q => wpAny_of_eq (rfl : isSame (.str b u) (.ref l) = pure false) q) (.inr room) (wpAny_truthy_bool h)
end
open L2 Co
/-- is the datum one of the texts? -/
def isW (d : PyData) (ws : List Str) : Bool := match d with
  | .str x => ws.contains x
  | _ => false
def oneOf (d : PyData) (y : Value) : Bool := match y, d with
  | .str a _, .str x => a == x
  | _, _ => false
theorem any_words {d : PyData} : ∀ {ws : List Str} {its : List Value}, Vals (ws.map V.str) its → its.any (oneOf d) = isW d ws
  | [], _, .nil => by cases d <;> rfl
  | x :: ws, _, .cons r rs => by
    obtain ⟨t, rfl⟩ := r
    rw [List.any_cons, any_words rs]
    cases d <;> first | rfl | skip
    rename_i y
    show (x == y || ws.contains y) = (x :: ws).contains y
    rw [List.contains_cons, Bool.beq_comm]
theorem texts {ws : List Str} : ∀ {its : List Value}, Vals (ws.map V.str) its → ∀ y ∈ its, ∃ (a : Str) (t : Tok), y = .str a t := by
  induction ws with
  | nil =>
    intro its r y m
    cases r
    cases m
  | cons x ws ih =>
    intro its r y m
    cases r with
    | cons h t =>
      rcases List.mem_cons.mp m with q | q
      · obtain ⟨u, e⟩ := h
        exact ⟨x, u, q.trans e⟩
      · exact ih t y q
section
variable {X : Cx}
/-- x in (.., texts, ..), any datum x -/
def rWord (K : PySem.W.Frag) (no : Bool) : R2 := fun x y H Q => ∃ (n : Nat) (d : PyData) (t : Addr) (ws : List Str), Cp K H n x d ∧ y = .ref t ∧ SqT K H t (ws.map V.str) ∧ Q (.bl (no ^^ isW d ws)) H
theorem word_at {pins : List (Addr × Obj)} {σ : L2.St} {H : Hp} {s : Shared} {n : Nat} {x : V} {d : PyData} {v : Value} {ws : List Str} {its : List Value} (room : X.A.units + 64 < cLine) (I : Inv X pins σ H s) (c : Cp X.K H n x d) (rx : L2.RelV x v) (r : Vals (ws.map V.str) its) :
    ∀ y ∈ its, EqAt X.A.in1 s y v (oneOf d y) := by
  intro y my
  obtain ⟨a, t, rfl⟩ := texts r y my
  have in1 : X.A.in1.units < cLine := by
    show X.A.units + 1 < cLine
    omega
  match n, c with
  | n + 1, .inl fl =>
    match x, d, fl with
    | .non, .none, _ =>
      cases rx
      exact EqAt.str_none a t
    | .bl k, .bool _, _ =>
      cases rx
      exact EqAt.str_bool a t k
    | .int i, .int _, _ =>
      obtain ⟨u, rfl⟩ := rx
      exact EqAt.str_int a t i u
    | .str z, .str _, e =>
      obtain ⟨u, rfl⟩ := rx
      cases (show z = _ from e)
      exact EqAt.str_str a t z u
  | n + 1, .inr (.inl ⟨p, xs, ds, e1, e2, sq, _⟩) =>
    subst e1 e2
    cases rx
    obtain ⟨_, _, pl, _⟩ := I.list sq
    exact EqAt.str_list a t pl.isList in1
  | n + 1, .inr (.inr (.inl ⟨p, xs, ds, e1, e2, sq, _⟩)) =>
    subst e1 e2
    cases rx
    obtain ⟨_, _, pl, _⟩ := I.tuple sq
    exact EqAt.str_tuple a t pl in1
  | n + 1, .inr (.inr (.inr ⟨p, o, e1, e2, hp, _⟩)) =>
    subst e1 e2
    cases rx
    obtain ⟨_, _, vs, _, ⟨cls, dd, data, sl⟩, es, k, g, ⟨hc, _⟩, hd, _⟩ := I.hok p _ hp
    dsimp only at hc hd
    subst hc hd
    exact str_dict a t g in1
theorem op_word (room : X.A.units + 64 < cLine) : OpR X (compareOp .In) (rWord X.K false) := by
  intro pins s σ H x y v u Q I rx ry h
  obtain ⟨n, d, t, ws, c, rfl, sq, q⟩ := h
  cases ry
  obtain ⟨its, r, pl, _⟩ := I.tuple sq
  refine in_tupleAt (oneOf d) pl (fun y my => word_at room I c rx r y (by simpa using my)) ⟨.bl _, H, I, rfl, ?_⟩
  rw [show its.toArray.any (oneOf d) = its.any (oneOf d) by simp, any_words r]
  simpa using q
theorem op_noWord (room : X.A.units + 64 < cLine) : OpR X (compareOp .NotIn) (rWord X.K true) := by
  intro pins s σ H x y v u Q I rx ry h
  obtain ⟨n, d, t, ws, c, rfl, sq, q⟩ := h
  cases ry
  obtain ⟨its, r, pl, _⟩ := I.tuple sq
  refine notIn_tupleAt (oneOf d) pl (fun y my => word_at room I c rx r y (by simpa using my)) ⟨.bl _, H, I, rfl, ?_⟩
  rw [show its.toArray.any (oneOf d) = its.any (oneOf d) by simp, any_words r]
  simpa using q
end
end Wi

namespace Ki
open PySem PySem.Spec PyProof.Rows L2 Co Wi
/-! is_list, first_unfit. -/
def top (i : Nat) : Stmt := PySem.Challenge.pw_presumebooks_k49_costs_of_courses.main.body.getD i (.Pass ⟨0, 0, 0, 0⟩)
abbrev sIsList : Stmt := top 9
abbrev sUnfit : Stmt := top 10
theorem scIsList : FnScope ["thing"] ["thing"] (defScope sIsList) := ⟨rfl, rfl, rfl, by decide +kernel, rfl, by decide +kernel, by decide +kernel⟩
theorem scUnfit : FnScope ["items", "choices", "at", "item"] ["items", "choices"] (defScope sUnfit) := ⟨rfl, rfl, rfl, by decide +kernel, rfl, by decide +kernel, by decide +kernel⟩
def isSeq : PyData → Bool
  | .list _ => true
  | .tuple _ => true
  | _ => false
theorem kits {K : PySem.W.Frag} {H : Hp} : ∀ {n : Nat} {x : V} {d : PyData}, Cp K H n x d → ∃ t : Value, TyX K H x t ∧ PySem.W.kitAny K t [.type "list", .type "tuple"] = some (isSeq d)
  | 0, _, _, h => h.elim
  | n + 1, x, d, h => by
    have any : ∀ {t : String} {b c : Bool}, kitB t "list" = some b → kitB t "tuple" = some c → PySem.W.kitAny K (.type t) [.type "list", .type "tuple"] = some (b || c) := by
      intro t b c h1 h2
      have e1 := kit_ty (K := K) h1
      have e2 := kit_ty (K := K) h2
      unfold PySem.W.kitAny
      rw [e1]
      cases b
      · dsimp only
        unfold PySem.W.kitAny
        rw [e2]
        cases c <;> rfl
      · rfl
    rcases h with h | ⟨a, xs, ds, rfl, rfl, sq, _⟩ | ⟨a, xs, ds, rfl, rfl, sq, _⟩ | ⟨a, o, rfl, rfl, hd, _⟩
    · obtain ⟨t, ty, t1, t2, _⟩ := flatTy (K := K) (H := H) h
      refine ⟨_, ty, ?_⟩
      rw [any t1 t2]
      cases x <;> cases d <;> first | rfl | exact h.elim
    · exact ⟨_, listTy sq, any (t := "list") (b := true) (c := false) (by decide +kernel) (by decide +kernel)⟩
    · exact ⟨_, tupTy sq, any (t := "tuple") (b := false) (c := true) (by decide +kernel) (by decide +kernel)⟩
    · exact ⟨_, .base (.dK hd), any (t := "dict") (b := false) (c := false) (by decide +kernel) (by decide +kernel)⟩
structure Bare (mg : Str → Option Value) : Prop where
  isi : mg "isinstance" = none
  list : mg "list" = none
  tuple : mg "tuple" = none
  enumerate : mg "enumerate" = none
section
variable {P : Program} {w : World} {K : PySem.W.Frag} {mg : Str → Option Value} {base : Heap}
theorem sameUp {H H' : Hp} {l : Addr} {o : HO} (s : Same H H') (h : H' l = none) : Same H (upd H' l o) := fun b u e => by
  rw [upd_ne (ne_of_none (s _ _ e) h)]
  exact s _ _ e
def spIsList (K : PySem.W.Frag) : Sp := fun vs H Q _ => ∃ (n : Nat) (x : V) (d : PyData), vs = [x] ∧ Cp K H n x d ∧ ∀ H', Same H H' → Q (.bl (isSeq d)) H'
theorem ok_isList {f : Addr} {fd : FuncData} (F : Fun K "is_list" "is_list" sIsList f fd) (B : Bare mg) : FnOk P w K mg base CX0 1 f fd ["thing"] (spIsList K) := by
  refine F.ok scIsList (fun vs H Q E h => ?_) (fun cdv A outer s H vs Q E hr h => ?_)
  · obtain ⟨n, x, d, rfl, _⟩ := h
    rfl
  · obtain ⟨n, x, d, rfl, c, k⟩ := h
    refine ⟨_, pss_one (ps_ret (pe_callB call_isiT (by rfl) B.isi bIsi (pa_cons (pv 0) (pa_cons (pe_tup (pa_cons (pe_bltn (v := .ty "list") (by rfl) B.list bList rfl) (pa_cons (pe_bltn (v := .ty "tuple") (by rfl) B.tuple bTuple rfl) pa_nil))) pa_nil)))), ?_⟩
    refine ⟨_, rfl, (by show 2 ≤ sizeLine; decide), fun p hp => ?_⟩
    have s1 : Same H (upd H p (.tup [.ty "list", .ty "tuple"])) := sameUp (Same.refl H) hp
    obtain ⟨t, ty, kit⟩ := kits (c.same s1)
    exact ⟨x, p, _, t, _, isSeq d, rfl, upd_same, .cons (.ty "list") (.cons (.ty "tuple") .nil), ty, kit, k _ s1⟩
/-- the place of the first item that is no text of ws, or there already; seen stands before -/
def unfit (ws : List Str) : List Str → List PyData → Nat → Option Nat
  | _, [], _ => none
  | seen, d :: ds, i => match d with
    | .str x => if ws.contains x = true ∧ seen.contains x = false then unfit ws (seen ++ [x]) ds (i + 1) else some i
    | _ => some i
theorem dropAt {α : Type} {l : List α} {i : Nat} {x : α} (h : l[i]? = some x) : l.drop i = x :: l.drop (i + 1) := by
  obtain ⟨hi, rfl⟩ := List.getElem?_eq_some_iff.mp h
  exact List.drop_eq_getElem_cons hi
theorem pairTake {F : V → PyData → Prop} {xs : List V} {ds : List PyData} (r : Paired F xs ds) : ∀ i : Nat, Paired F (xs.take i) (ds.take i) := by
  induction r with
  | nil => intro i; simp; exact .nil
  | cons h t ih =>
    intro i
    cases i with
    | zero => exact .nil
    | succ i => exact .cons h (ih i)
theorem textsOf {K : PySem.W.Frag} {H : Hp} {n : Nat} : ∀ {xs : List V} {ss : List Str}, Paired (Cp K H n) xs (ss.map PyData.str) → xs = ss.map V.str
  | [], [], _ => rfl
  | x :: xs, s :: ss, .cons h t => by rw [cpStr h, textsOf t] <;> rfl
theorem cutTake {xs : List V} {i : Nat} (h : i ≤ xs.length) : cutV xs none (some (i : Int)) = xs.take i := by
  unfold cutV
  rw [HT.sIx_none, HT.sIx_nat, Nat.min_eq_left h]
  rfl
def spUnfit (K : PySem.W.Frag) : Sp := fun vs H Q _ => ∃ (n : Nat) (a t : Addr) (xs : List V) (ds : List PyData) (ws : List Str), vs = [.ref a, .ref t] ∧ (SqL K H a xs ∨ SqT K H a xs) ∧ xs.length ≤ 100 ∧ Paired (Cp K H n) xs ds ∧ SqT K H t (ws.map V.str) ∧
  ∀ H', Same H H' → Q (match unfit ws [] ds 0 with | none => .non | some i => .int (i : Nat)) H'
theorem ok_unfit {f : Addr} {fd : FuncData} (F : Fun K "first_unfit" "first_unfit" sUnfit f fd) (B : Bare mg) : FnOk P w K mg base CX0 1 f fd ["items", "choices"] (spUnfit K) := by
  refine F.ok scUnfit (fun vs H Q E h => ?_) (fun cdv A outer s H vs Q E hr h => ?_)
  · obtain ⟨n, a, t, xs, ds, ws, rfl, _⟩ := h
    rfl
  · obtain ⟨n, a, t, xs, ds, ws, rfl, sq, few, pr, tw, k⟩ := h
    refine ⟨_, pss_cons (ps_for PassesOwn.never rfl (Et.pi_enumS (by rfl) B.enumerate (pa_cons (pv 0) pa_nil)) (pg_tup (by rfl) (pgs_cons (pg_name (i := 2) scUnfit.nd rfl (Or.inl rfl)) (pgs_cons (pg_name (i := 3) scUnfit.nd rfl (Or.inl rfl)) pgs_nil)))
        (pss_one (ps_if (PW.pt (pw_or (pt_cmpR (op_noWord hr.units) (pv 3) (pv 1) (by rfl)) (pw_or1 (pt_cmpR op_in_seq (pv 3) (pe_slice (SlR.or sl_list sl_tupA) (pv 0) po_none (po_some (pv 2))) (by rfl))))) (pss_one (ps_ret (pv 2))) pss_nil)))
      (pss_one (ps_ret pe_non)), ?_⟩
    -- one turn, over either
    have turn : ∀ (slice : ∀ (i : Nat) (H1 : Hp) (R : VK), i < xs.length → Same H H1 → (∀ p H2, Same H1 H2 → (SqL K H2 p (xs.take i) ∨ SqT K H2 p (xs.take i)) → R (.ref p) H2) → rSlL K (.ref a) none (some (i : Int)) H1 R ∨ rSlA K (.ref a) none (some (i : Int)) H1 R)
        (i : Nat) (y : V) (σ : L2.St) (H1 H2 : Hp), i < xs.length → (∃ v2 v3 : Option V, σ = [some (.ref a), some (.ref t), v2, v3] ∧ Same H H1 ∧ ∃ seen : List Str, ds.take i = seen.map PyData.str ∧ unfit ws seen (ds.drop i) i = unfit ws [] ds 0) →
        YPair (fun i => some (.int (i : Nat))) (fun i => xs[i]?) i H1 y H2 →
        gTup K 2 (gCons (gName 2) (gCons (gName 3) gNil)) y σ H2 fun σ2 H3 =>
          tIfS (tOr (tTest (tOp (rWord K true) (tVar 3) (tVar 1))) (tTest (tOp (rIn K false) (tVar 3) (tSl (fun x lo hi H Q => rSlL K x lo hi H Q ∨ rSlA K x lo hi H Q) (tVar 0) tNoPart (tPart (tVar 2)))))) (tRet (tVar 2)) tNext
            { nx := fun σ H1 => ∃ v2 v3 : Option V, σ = [some (.ref a), some (.ref t), v2, v3] ∧ Same H H1 ∧ ∃ seen : List Str, ds.take (i + 1) = seen.map PyData.str ∧ unfit ws seen (ds.drop (i + 1)) (i + 1) = unfit ws [] ds 0, rt := Q } σ2 H3 := by
      rintro slice i y σ H1 H2 hi ⟨v2, v3, rfl, s1, seen, took, same⟩ ⟨T, x1, x, rfl, fT, rfl, e1, hx⟩
      cases e1
      obtain ⟨d, hd, cx⟩ := pairAt pr hx
      have s2 : Same H (upd H1 T (.tup [.int (i : Nat), x])) := sameUp s1 fT
      refine ⟨T, _, rfl, .inl (.inl upd_same), rfl, _, _, rfl, _, _, rfl, rfl, ?_⟩
      generalize upd H1 T (.tup [.int (i : Nat), x]) = H3 at s2 ⊢
      have next := dropAt hd
      rw [next] at same
      refine ⟨_, rfl, _, rfl, n, d, t, ws, cx.same s2, rfl, sameT s2 tw, _, rfl, ?_⟩
      cases hw : isW d ws with
      | false =>
        rw [show (true ^^ false) = true from rfl, if_pos rfl]
        refine ⟨_, rfl, ?_⟩
        have stop : unfit ws seen (d :: ds.drop (i + 1)) i = some i := by
          cases d <;> first | rfl | skip
          rename_i z
          show (if ws.contains z = true ∧ seen.contains z = false then _ else some i) = some i
          rw [if_neg (fun q => by rw [show ws.contains z = false from hw] at q; cases q.1)]
        have q := k H3 s2
        rw [← same, stop] at q
        exact q
      | true =>
        rw [show (true ^^ true) = false from rfl, if_neg Bool.false_ne_true]
        obtain ⟨z, rfl⟩ : ∃ z, d = .str z := by
          cases d <;> first | exact ⟨_, rfl⟩ | cases hw
        have ex := cpStr cx
        subst ex
        have taken : xs.take i = seen.map V.str := by
          refine textsOf (n := n) (K := K) (H := H) ?_
          rw [← took]
          exact pairTake pr i
        refine ⟨_, rfl, _, rfl, _, rfl, _, rfl, slice i H3 _ hi s2 fun p H4 s4 hp => ?_⟩
        rw [taken] at hp
        refine ⟨p, _, rfl, hp, rfl, by simp [flatV], _, rfl, ?_⟩
        have inE : inV (.str z) (seen.map V.str) = seen.contains z := by
          unfold inV
          rw [List.any_map, List.contains_eq_any_beq]
          congr 1
          funext u
          show (u == z) = (z == u)
          exact Bool.beq_comm
        show (if inV (.str z) (seen.map V.str) = true then _ else _)
        rw [inE]
        cases hs : seen.contains z with
        | true =>
          rw [if_pos rfl]
          refine ⟨_, rfl, ?_⟩
          have stop : unfit ws seen (.str z :: ds.drop (i + 1)) i = some i := by
            show (if ws.contains z = true ∧ seen.contains z = false then _ else some i) = some i
            rw [if_neg (fun q => by rw [hs] at q; cases q.2)]
          have q := k H4 (s2.trans s4)
          rw [← same, stop] at q
          exact q
        | false =>
          rw [if_neg Bool.false_ne_true]
          refine ⟨_, _, rfl, s2.trans s4, seen ++ [z], ?_, ?_⟩
          · rw [takeMore hd, took, List.map_append] <;> rfl
          · rw [← same]
            show _ = (if ws.contains z = true ∧ seen.contains z = false then _ else some i)
            rw [if_pos ⟨hw, hs⟩]
    refine ⟨_, rfl, a, xs, rfl, ?_⟩
    have last : ∀ σ H1, (∃ v2 v3 : Option V, σ = [some (.ref a), some (.ref t), v2, v3] ∧ Same H H1 ∧ ∃ seen : List Str, ds.take xs.length = seen.map PyData.str ∧ unfit ws seen (ds.drop xs.length) xs.length = unfit ws [] ds 0) → Q .non H1 := by
      rintro σ H1 ⟨v2, v3, _, s1, seen, _, same⟩
      have q := k H1 s1
      rw [← same, pr.length, List.drop_length] at q
      exact q
    rcases sq with sq | sq
    · refine .inl ⟨sq, for_it (walk_enum (K := K) (a := a) (xs := xs)) (fun i σ H1 => ∃ v2 v3 : Option V, σ = [some (.ref a), some (.ref t), v2, v3] ∧ Same H H1 ∧ ∃ seen : List Str, ds.take i = seen.map PyData.str ∧ unfit ws seen (ds.drop i) i = unfit ws [] ds 0)
        ⟨_, _, rfl, Same.refl H, [], by simp, by simp⟩ (fun i σ H1 _ ⟨_, _, _, s1, _⟩ => s1.seq sq) (fun i y σ H1 H2 hi inv yl => ?_) last⟩
      exact turn (fun i H1 R hi s1 q => .inl ⟨a, xs, rfl, s1.seq sq, fun p hp => by
        rw [cutTake (Nat.le_of_lt hi)]
        exact q p _ (sameUp (Same.refl H1) hp) (.inl (.inl (.inl upd_same)))⟩) i y σ H1 H2 hi inv yl
    · refine .inr ⟨sq, for_it (Et.walk_enumT (K := K) (a := a) (xs := xs)) (fun i σ H1 => ∃ v2 v3 : Option V, σ = [some (.ref a), some (.ref t), v2, v3] ∧ Same H H1 ∧ ∃ seen : List Str, ds.take i = seen.map PyData.str ∧ unfit ws seen (ds.drop i) i = unfit ws [] ds 0)
        ⟨_, _, rfl, Same.refl H, [], by simp, by simp⟩ (fun i σ H1 _ ⟨_, _, _, s1, _⟩ => sameT s1 sq) (fun i y σ H1 H2 hi inv yl => ?_) last⟩
      exact turn (fun i H1 R hi s1 q => .inr ⟨a, xs, rfl, sameT s1 sq, fun z => by
          have z2 := z.2
          rw [HT.sIx_nat] at z2
          omega, fun _ p hp => by
        rw [cutTake (Nat.le_of_lt hi)]
        exact q p _ (sameUp (Same.refl H1) hp) (.inr (.inl (.inl upd_same)))⟩) i y σ H1 H2 hi inv yl
end
end Ki

namespace Bk
open PySem PySem.Spec PyProof.Rows L2 Co Wi Ki
/-! Books: wrong_part. -/
def recs : List Str := ["begin", "yes", "no", "ready", "agreed", "refused"]
def wordsL : List Str := ["none", "lazy", "forced"]
def outs : List Str := ["no", "yes"]
def pres : List Str := ["no", "wait", "yes"]
abbrev sWrong : Stmt := Ki.top 16
theorem scWrong : FnScope ["words", "answers", "presume", "record"] ["words", "answers", "presume"] (defScope sWrong) := ⟨rfl, rfl, rfl, by decide +kernel, rfl, by decide +kernel, by decide +kernel⟩
/-- the tuples of the module -/
structure Tups (K : PySem.W.Frag) (mg : Str → Option Value) (tR tW tO tP : Addr) : Prop where
  gR : mg "RECORDS" = some (.ref tR)
  gW : mg "WORDS" = some (.ref tW)
  gO : mg "OUTCOMES" = some (.ref tO)
  gP : mg "PRESUMPTIONS" = some (.ref tP)
  sR : ∀ H : Hp, SqT K H tR (recs.map V.str)
  sW : ∀ H : Hp, SqT K H tW (wordsL.map V.str)
  sO : ∀ H : Hp, SqT K H tO (outs.map V.str)
  sP : ∀ H : Hp, SqT K H tP (pres.map V.str)
def wrongW : List Str → List PyData → Option Str
  | r :: rs, d :: ds => if isW d wordsL = true then wrongW rs ds else some r
  | _, _ => none
def items : PyData → List PyData
  | .list ds => ds
  | .tuple ds => ds
  | _ => []
/-- the first part that is wrong -/
def wrong (ds : List PyData) (da dp : PyData) : Option Str := match wrongW recs ds with
  | some r => some r
  | none => if isSeq da = true ∧ unfit outs [] (items da) 0 = none then (if isW dp pres = true then none else some "presume") else some "answers"
def dictW (ws : List V) : List (Key × V) := (recs.map Sum.inr).zip ws
def said : Option Str → V
  | none => .non
  | some x => .str x
def spWrong (K : PySem.W.Frag) : Sp := fun vs H Q _ => ∃ (n : Nat) (dW : Addr) (a p : V) (ws : List V) (ds : List PyData) (da dp : PyData), vs = [.ref dW, a, p] ∧ H dW = some (.dK (dictW ws)) ∧ ws.length = 6 ∧
  Paired (Cp K H (n + 1)) ws ds ∧ Cp K H (n + 1) a da ∧ Cp K H (n + 1) p dp ∧ ∀ H', Same H H' → Q (said (wrong ds da dp)) H'
/-- an answer's items -/
theorem seqItems {K : PySem.W.Frag} {H : Hp} {n : Nat} {a : V} {da : PyData} (c : Cp K H (n + 1) a da) (h : isSeq da = true) : ∃ (p : Addr) (xs : List V), a = .ref p ∧ (SqL K H p xs ∨ SqT K H p xs) ∧ xs.length ≤ 100 ∧ Paired (Cp K H n) xs (items da) := by
  rcases c with c | ⟨p, xs, ds, rfl, rfl, sq, few, pr⟩ | ⟨p, xs, ds, rfl, rfl, sq, few, pr⟩ | ⟨p, o, rfl, rfl, _⟩
  · cases a <;> cases da <;> first | exact c.elim | cases h
  · exact ⟨p, xs, rfl, .inl sq, few, pr⟩
  · exact ⟨p, xs, rfl, .inr sq, few, pr⟩
  · cases h
theorem getW {ws : List V} (six : ws.length = 6) {i : Nat} {r : Str} {x : V} (hr : recs[i]? = some r) (hx : ws[i]? = some x) : valV (dictW ws) (Sum.inr r : Key) = some x := by
  match ws, six with
  | [a, b, c, d, e, f], _ =>
    match i, hr, hx with
    | 0, hr, hx => cases hr; cases hx; rfl
    | 1, hr, hx => cases hr; cases hx; rfl
    | 2, hr, hx => cases hr; cases hx; rfl
    | 3, hr, hx => cases hr; cases hx; rfl
    | 4, hr, hx => cases hr; cases hx; rfl
    | 5, hr, hx => cases hr; cases hx; rfl
    | i + 6, hr, hx => cases hr
section
variable {P : Program} {w : World} {K : PySem.W.Frag} {mg : Str → Option Value} {base : Heap} {tR tW tO tP : Addr}
theorem ok_wrong {f fL fU : Addr} {fd fdL fdU : FuncData} (F : Fun K "wrong_part" "wrong_part" sWrong f fd) (N : Tups K mg tR tW tO tP)
    (GL : FnOk P w K mg base CX0 1 fL fdL ["thing"] (spIsList K)) (gL : mg "is_list" = some (.ref fL)) (kL : PySem.W.keepIn K (.ref fL) = true) (bL : Binds K fdL ["thing"] [])
    (GU : FnOk P w K mg base CX0 1 fU fdU ["items", "choices"] (spUnfit K)) (gU : mg "first_unfit" = some (.ref fU)) (kU : PySem.W.keepIn K (.ref fU) = true) (bU : Binds K fdU ["items", "choices"] []) :
    FnOk P w K mg base CX0 2 f fd ["words", "answers", "presume"] (spWrong K) := by
  refine F.ok scWrong (fun vs H Q E h => ?_) (fun cdv A outer s H vs Q E hr h => ?_)
  · obtain ⟨n, dW, a, p, ws, ds, da, dp, rfl, _⟩ := h
    rfl
  · obtain ⟨n, dW, a, p, ws, ds, da, dp, rfl, hd, six, pr, ca, cp, k⟩ := h
    have hr1 : Room 1 _ := hr.mono (by decide)
    refine ⟨_, pss_cons (ps_for PassesOwn.never rfl (pi_tup (pe_glob (v := .ref tR) (by rfl) N.gR rfl)) (pg_name (i := 3) scWrong.nd rfl (Or.inl rfl))
        (pss_one (ps_if (pt_cmpR (op_noWord hr.units) (pe_dget (hu_of hr) (pv 0) (pv 3) (fun _ _ => rfl)) (pe_glob (v := .ref tW) (by rfl) N.gW rfl) (by rfl)) (pss_one (ps_ret (pv 3))) pss_nil)))
      (pss_cons (ps_if (PW.pt (pw_or (pt_not (pt_val (pe_call GL hr1 rfl gL kL bL .nil pass0 (pa_cons (pv 1) pa_nil))))
          (pw_or1 (pt_cmpR op_notN (pe_call GU hr1 rfl gU kU bU .nil pass0 (pa_cons (pv 1) (pa_cons (pe_glob (v := .ref tO) (by rfl) N.gO rfl) pa_nil))) pe_non (by rfl))))) (pss_one (ps_ret pe_str)) pss_nil)
      (pss_cons (ps_if (pt_cmpR (op_noWord hr.units) (pv 2) (pe_glob (v := .ref tP) (by rfl) N.gP rfl) (by rfl)) (pss_one (ps_ret pe_str)) pss_nil)
      (pss_one (ps_ret pe_non)))), ?_⟩
    refine ⟨tR, rfl, ⟨_, N.sR H⟩, for_it (walk_tup (K := K) (a := tR) (xs := recs.map V.str)) (fun i σ H1 => ∃ v3 : Option V, σ = [some (.ref dW), some a, some p, v3] ∧ Same H H1 ∧ wrongW (recs.drop i) (ds.drop i) = wrongW recs ds)
      ⟨_, rfl, Same.refl H, rfl⟩ (fun i σ H1 _ _ => N.sR H1) ?_ ?_⟩
    · rintro i y σ H1 H2 hi ⟨v3, rfl, s1, same⟩ ⟨rfl, hy⟩
      have i6 : i < 6 := by
        have q : i < (recs.map V.str).length := hi
        exact q
      obtain ⟨r, hr', ey⟩ : ∃ r, recs[i]? = some r ∧ y = .str r := by
        have q : (recs.map V.str)[i]? = some y := hy
        rw [List.getElem?_map] at q
        obtain ⟨r, h1, h2⟩ := Option.map_eq_some_iff.mp q
        exact ⟨r, h1, h2.symm⟩
      subst ey
      obtain ⟨x, hx⟩ : ∃ x, ws[i]? = some x := ⟨ws[i]'(by omega), by simp [six, i6]⟩
      obtain ⟨d, hdd, cx⟩ := pairAt pr hx
      rw [dropAt hr', dropAt hdd] at same
      refine ⟨_, rfl, _, rfl, dW, x, rfl, ?_, n + 1, d, tW, wordsL, cx.same s1, rfl, N.sW _, _, rfl, ?_⟩
      · rw [← getW six hr' hx]
        exact DGet.k (k := Sum.inr r) (s1 _ _ hd)
      · cases hw : isW d wordsL with
        | false =>
          rw [show (true ^^ false) = true from rfl, if_pos rfl]
          refine ⟨_, rfl, ?_⟩
          have stop : wrong ds da dp = some r := by
            unfold wrong
            rw [← same]
            show (match (if isW d wordsL = true then _ else some r) with | some r => some r | none => _) = some r
            rw [hw, if_neg Bool.false_ne_true]
          have q := k _ s1
          rw [stop] at q
          exact q
        | true =>
          rw [show (true ^^ true) = false from rfl, if_neg Bool.false_ne_true]
          refine ⟨_, rfl, s1, ?_⟩
          rw [← same]
          show _ = (if isW d wordsL = true then _ else some r)
          rw [hw, if_pos rfl]
    · rintro σ H1 ⟨v3, rfl, s1, same⟩
      have none : wrongW recs ds = none := by
        rw [← same]
        rfl
      have ans : ∀ b : Option Str, (if isSeq da = true ∧ unfit outs [] (items da) 0 = Option.none then (if isW dp pres = true then Option.none else some ("presume" : Str)) else some ("answers" : Str)) = b → wrong ds da dp = b := fun b e => by
        unfold wrong
        rw [none]
        exact e
      refine ⟨_, rfl, n + 1, a, da, rfl, ca.same s1, fun H2 s2 => ⟨_, rfl, ?_⟩⟩
      have s12 := s1.trans s2
      cases hs : isSeq da with
      | false =>
        refine ifT rfl (ifT rfl ?_)
        have q := k _ s12
        rw [ans _ (if_neg fun z => by rw [hs] at z; cases z.1)] at q
        exact q
      | true =>
        refine ifF rfl ?_
        obtain ⟨ap, xs, rfl, sq, few, pa⟩ := seqItems ca hs
        refine ⟨_, rfl, n, ap, tO, xs, items da, outs, rfl, sq.imp (fun z => s12.seq z) (fun z => sameT s12 z), few, L2.Paired.mapP pa fun _ _ z => z.same s12, N.sO _, fun H3 s3 => ⟨rfl, _, rfl, ?_⟩⟩
        have s13 := s12.trans s3
        cases hu : unfit outs [] (items da) 0 with
        | some i =>
          refine ifT (by simp) ?_
          have q := k _ s13
          rw [ans _ (if_neg fun z => by rw [hu] at z; cases z.2)] at q
          exact q
        | none =>
          refine ifF (by simp) ?_
          refine ⟨_, rfl, n + 1, dp, tP, pres, cp.same s13, rfl, N.sP _, _, rfl, ?_⟩
          cases hw : isW dp pres with
          | false =>
            refine ifT rfl ?_
            have q := k _ s13
            rw [ans _ (if_pos ⟨hs, hu⟩), hw, if_neg Bool.false_ne_true] at q
            exact q
          | true =>
            refine ifF rfl ?_
            have q := k _ s13
            rw [ans _ (if_pos ⟨hs, hu⟩), hw, if_pos rfl] at q
            exact q
end
end Bk

namespace Ra
open PySem PySem.Spec PyProof.Rows L2 Ev Er Co Ow
/-! raise BadX(value), BadX one of the package's errors that keep a value. -/
/-- the error as the def's caller sees it in the air: its dict at dx holds a copy -/
def tRaised (K : PySem.W.Frag) (n : Nat) (C : Addr) (field : Str) (ta : TA) : L2.St → Hp → XK → Prop := fun σ H Q => ta σ H fun vs H1 => ∃ (v : V) (d : PyData), vs = [v] ∧ Cp K H1 n v d ∧
  ∀ (H' : Hp) (dx : Addr) (v' : V), Same H1 H' → H1 dx = none → H' dx = some (.xd [(field, v')]) → Cp K H' n v' d → Q (.ref C) (some dx) H'
section
variable {X : Cx} {n k : Nat} {name par field : Str} {C : Addr} {e : Expr} {ta : TA} {p pos : Pos}
theorem pmk_bad (O : OwnE X.prog X.w X.K X.mg X.base n k name par field C) (room : Room (k + 1) X.A) (hg : Gl X name) (ha : PA X [e] ta) (nodebug : (name == ("__debug__" : Str)) = false := by decide)
    (he : starEach [e] X.env = (false, eval e X.env) :: starEach [] X.env := by rfl) (hpl : (backTo pos (starEach [] X.env)).any (·.1) = false := by rfl) : PMk X (.Call (.Name name p) [e] [] pos) (tRaised X.K n C field ta) := by
  obtain ⟨fI, fd, F, iC, tI, b1, b2⟩ := O.ex
  have bind : Binds X.K fd ["self", par] [] := by
    intro s us _ len
    rw [List.append_nil] at len ⊢
    match us, len with
    | [u1, u2], _ => exact b1 s u1 u2
  have core := pmk_oex (p := p) (pos := pos) (e := e) (es := []) (ta := taW ta) O.oex iC tI F room bind .nil pass0 hg O.g (pa_wide ha) nodebug he hpl
  intro pins s σ H Q I h
  refine core pins s σ H Q I ⟨_, h, fun vs H1 ⟨v, d, ev, c, q⟩ => ⟨by rw [ev]; show 1 ≤ 1000; decide, fun a fa => ?_⟩⟩
  subst ev
  have s0 : Same H1 (upd H1 a (exo a C none)) := fun b o z => by
    rw [upd_ne (ne_of_none z fa)]
    exact z
  refine ⟨a, v, rfl, upd_same, v, d, rfl, c.same s0, fun H' v' s' cn => ⟨s' _ _ upd_same, fun dx fdx ne => ⟨rfl, dx, _, upd_same, by rw [upd_ne ne, upd_same], ?_, ?_⟩⟩⟩
  · exact (Same.trans s0 s').free fdx
  · refine q _ dx v' (fun b o z => ?_) ((Same.trans s0 s').free fdx) upd_same (cn _ fun b o h0 h1 => ?_)
    · have z1 := s' _ _ (s0 _ _ z)
      rw [upd_ne (ne_of_none z1 fdx), del_ne (ne_of_none z fa), upd_ne (ne_of_none z fa), upd_ne (ne_of_none z1 fdx)]
      exact z1
    · have na : b ≠ a := fun z => by rw [z, upd_same] at h0; cases h0
      rw [upd_ne (ne_of_none h1 fdx), del_ne na, upd_ne na, upd_ne (ne_of_none h1 fdx)]
      exact h1
end
end Ra

namespace Bi
open PySem PySem.Spec PyProof.Rows L2 Co Wi Ki Bk Ow Ra
open L2 (FunD)
/-! Book.__init__. -/
abbrev sInit : Stmt := inClass (Ki.top 17) 0
abbrev nInit : List Str := ["self", "begin", "yes", "no", "ready", "agreed", "refused", "answers", "presume", "words", "part", "outcome", "record"]
abbrev pInit : List Str := ["self", "begin", "yes", "no", "ready", "agreed", "refused", "answers", "presume"]
theorem scInit : FnScope nInit pInit (defScope sInit) := ⟨rfl, rfl, rfl, by decide +kernel, rfl, by decide +kernel, by decide +kernel⟩
/-- a book's attributes -/
def fields (ws : List V) (tA : Addr) (p : V) (tF dW : Addr) : List (Str × V) := recs.zip ws ++ ([("answers", .ref tA), ("presume", p), ("forced", .ref tF), ("_words", .ref dW)] : List (Str × V))
def eight (ws : List V) (tA : Addr) (p : V) : List (Str × V) := recs.zip ws ++ ([("answers", .ref tA), ("presume", p)] : List (Str × V))
/-- the records whose word is forced, in the records' order -/
def hard' (rs ss : List Str) : List Str := ((rs.zip ss).filter fun p => p.2 == ("forced" : Str)).map (·.1)
def hard (ss : List Str) : List Str := hard' recs ss
/-- the book with these words, answers (ascending), presumption stands at o -/
def BookAt (C : Addr) (H : Hp) (o : Addr) (ss as : List Str) (p : Str) : Prop := ∃ (dx tA tF dW : Addr) (ys : List Str), ss.length = 6 ∧ (∀ x ∈ as, outs.contains x = true) ∧ H o = some (.ins C dx (fields (ss.map V.str) tA (.str p) tF dW)) ∧ H tA = some (.tup (as.map V.str)) ∧
  ys.Perm (hard ss) ∧ sortedS ys = true ∧ H tF = some (.tup (ys.map V.str)) ∧ H dW = some (.dK (dictW (ss.map V.str)))
/-- what stood stands, but for o -/
def Off (o : Addr) (H H' : Hp) : Prop := ∀ b u, b ≠ o → H b = some u → H' b = some u
def spBook (K : PySem.W.Frag) (C CB : Addr) : Sp := fun vs H Q E => ∃ (n : Nat) (o dx : Addr) (a p : V) (ws : List V) (ds : List PyData) (da dp : PyData), vs = .ref o :: (ws ++ [a, p]) ∧ ws.length = 6 ∧ H o = some (.ins C dx []) ∧ Paired (Cp K H (n + 1)) ws ds ∧ Cp K H (n + 1) a da ∧ Cp K H (n + 1) p dp ∧
  (∀ x, wrong ds da dp = some x → ∀ (H' : Hp) (dd : Addr), Same H H' → H dd = none → H' dd = some (.xd [("part", .str x)]) → E (.ref CB) (some dd) H') ∧
  ∀ (ss as : List Str) (pre : Str), ds = ss.map PyData.str → items da = as.map PyData.str → dp = .str pre → wrong ds da dp = none → ∀ H', Off o H H' → BookAt C H' o ss (outs.filter as.contains) pre → Q .non H'
structure Cl (K : PySem.W.Frag) (C : Addr) : Prop where
  cl : Cls K C
  no : ∀ f ∈ recs ++ (["answers", "presume", "forced", "_words"] : List Str), NoAttr K C f
structure Bare (mg : Str → Option Value) : Prop where
  tuple : mg "tuple" = none
  sorted : mg "sorted" = none
theorem wordsOf : ∀ (rs : List Str) (ds : List PyData), rs.length = ds.length → wrongW rs ds = none → ∃ ss : List Str, ds = ss.map PyData.str ∧ ∀ s ∈ ss, wordsL.contains s = true
  | [], [], _, _ => ⟨[], rfl, fun s m => by cases m⟩
  | r :: rs, d :: ds, l, h => by
    have h' : (if isW d wordsL = true then wrongW rs ds else some r) = none := h
    by_cases hw : isW d wordsL = true
    · rw [if_pos hw] at h'
      obtain ⟨ss, e, q⟩ := wordsOf rs ds (by simpa using l) h'
      cases d <;> first | cases hw | skip
      rename_i s
      refine ⟨s :: ss, by rw [e] <;> rfl, fun t m => ?_⟩
      rcases List.mem_cons.mp m with z | z
      · rw [z]
        exact hw
      · exact q t z
    · rw [if_neg hw] at h'
      cases h'
theorem fitOf {ws : List Str} : ∀ (ds : List PyData) (seen : List Str) (i : Nat), unfit ws seen ds i = none → ∃ ss : List Str, ds = ss.map PyData.str ∧ ∀ s ∈ ss, ws.contains s = true ∧ seen.contains s = false
  | [], _, _, _ => ⟨[], rfl, fun s m => by cases m⟩
  | d :: ds, seen, i, h => by
    cases d <;> first | cases h | skip
    rename_i x
    have h' : (if ws.contains x = true ∧ seen.contains x = false then unfit ws (seen ++ [x]) ds (i + 1) else some i) = none := h
    by_cases hc : ws.contains x = true ∧ seen.contains x = false
    · rw [if_pos hc] at h'
      obtain ⟨ss, e, q⟩ := fitOf ds _ _ h'
      refine ⟨x :: ss, by rw [e] <;> rfl, fun t m => ?_⟩
      rcases List.mem_cons.mp m with z | z
      · rw [z]
        exact hc
      · refine ⟨(q t z).1, ?_⟩
        have z2 := (q t z).2
        rw [List.contains_eq_any_beq, List.any_append, Bool.or_eq_false_iff] at z2
        rw [List.contains_eq_any_beq]
        exact z2.1
    · rw [if_neg hc] at h'
      cases h'
/-- nothing is wrong: what is known then -/
theorem allRight {ds : List PyData} {da dp : PyData} (six : ds.length = 6) (h : wrong ds da dp = none) :
    (∃ ss : List Str, ds = ss.map PyData.str ∧ ∀ s ∈ ss, wordsL.contains s = true) ∧ isSeq da = true ∧ (∃ as : List Str, items da = as.map PyData.str ∧ ∀ s ∈ as, outs.contains s = true) ∧ ∃ pre : Str, dp = .str pre ∧ pres.contains pre = true := by
  unfold wrong at h
  cases hw : wrongW recs ds with
  | some r => rw [hw] at h; cases h
  | none =>
    rw [hw] at h
    dsimp only at h
    by_cases h1 : isSeq da = true ∧ unfit outs [] (items da) 0 = none
    · rw [if_pos h1] at h
      by_cases h2 : isW dp pres = true
      · refine ⟨wordsOf recs ds (by rw [six] <;> rfl) hw, h1.1, ?_, ?_⟩
        · obtain ⟨as, e, q⟩ := fitOf _ _ _ h1.2
          exact ⟨as, e, fun s m => (q s m).1⟩
        · cases dp <;> first | cases h2 | exact ⟨_, rfl, h2⟩
      · rw [if_neg h2] at h
        cases h
    · rw [if_neg h1] at h
      cases h
theorem six6 {ws : List V} (h : ws.length = 6) : ∃ a b c d e f, ws = [a, b, c, d, e, f] := match ws, h with
  | [a, b, c, d, e, f], _ => ⟨a, b, c, d, e, f, rfl⟩
theorem Off.self {o : Addr} {H H' : Hp} {u : HO} (h : Off o H H') : Off o H (upd H' o u) := fun b v nb e => by
  rw [upd_ne nb]
  exact h b v nb e
theorem Off.same {o : Addr} {H H' H2 : Hp} (h : Off o H H') (s : Same H' H2) : Off o H H2 := fun b v nb e => s _ _ (h b v nb e)
theorem Off.seq {K : PySem.W.Frag} {o C dx : Addr} {fs : List (Str × V)} {H H' : Hp} {a : Addr} {xs : List V} (h : Off o H H') (ho : H o = some (.ins C dx fs)) (q : SqL K H a xs ∨ SqT K H a xs) : SqL K H' a xs ∨ SqT K H' a xs := by
  have ne : ∀ {u : HO}, H a = some u → (∀ fs, u ≠ .ins C dx fs) → H' a = some u := fun {u} e n => h a u (fun z => by
    rw [z, ho] at e
    cases e
    exact n _ rfl) e
  rcases q with q | q
  · rcases q with (q | ⟨f, q⟩) | q
    · exact .inl (.inl (.inl (ne q fun fs z => by cases z)))
    · exact .inl (.inl (.inr ⟨f, ne q fun fs z => by cases z⟩))
    · exact .inl (.inr q)
  · rcases q with (q | ⟨f, q⟩) | q
    · exact .inr (.inl (.inl (ne q fun fs z => by cases z)))
    · exact .inr (.inl (.inr ⟨f, ne q fun fs z => by cases z⟩))
    · exact .inr (.inr q)
theorem ne_of_none' {H : Hp} {a b : Addr} {u : HO} (h : H a = some u) (f : H b = none) : b ≠ a := fun z => by
  rw [z, h] at f
  cases f
theorem takeOne {α : Type} {l : List α} {i : Nat} {x : α} (h : l[i]? = some x) : l.take (i + 1) = l.take i ++ [x] := by
  rw [List.take_add_one, h] <;> rfl
theorem hardMore {rs ss : List Str} {i : Nat} {r t : Str} (h1 : rs[i]? = some r) (h2 : ss[i]? = some t) : hard' (rs.take (i + 1)) (ss.take (i + 1)) = hard' (rs.take i) (ss.take i) ++ if (t == ("forced" : Str)) = true then [r] else [] := by
  have l1 := (List.getElem?_eq_some_iff.mp h1).1
  have l2 := (List.getElem?_eq_some_iff.mp h2).1
  unfold hard'
  rw [takeOne h1, takeOne h2, List.zip_append (by rw [List.length_take, List.length_take]; omega), List.filter_append, List.map_append]
  congr 1
  show List.map _ (List.filter _ [(r, t)]) = _
  cases hc : (t == ("forced" : Str)) with
  | true => rw [List.filter_cons_of_pos (by exact hc)] <;> rfl
  | false => rw [List.filter_cons_of_neg (by show ¬ (t == ("forced" : Str)) = true; rw [hc]; exact Bool.false_ne_true)] <;> rfl
theorem hardFew (rs ss : List Str) : (hard' rs ss).length ≤ rs.length := by
  unfold hard'
  rw [List.length_map]
  refine Nat.le_trans (List.length_filter_le _ _) ?_
  rw [List.length_zip]
  exact Nat.min_le_left _ _
theorem inV_texts {z : Str} {ss : List Str} : inV (.str z) (ss.map V.str) = ss.contains z := by
  unfold inV
  rw [List.any_map, List.contains_eq_any_beq]
  congr 1
  funext u
  show (u == z) = (z == u)
  exact Bool.beq_comm
section
variable {P : Program} {w : World} {K : PySem.W.Frag} {mg : Str → Option Value} {base : Heap} {tR tW tO tP C CB : Addr} {dvs : List V}
theorem ok_book {f fP : Addr} {fd fdP : FuncData} (F : FunD K "__init__" "Book.__init__" (defArgs sInit) (defBody sInit) (defScope sInit) dvs [] f fd) (N : Tups K mg tR tW tO tP) (L : Cl K C) (B : Bare mg)
    (GP : FnOk P w K mg base CX0 2 fP fdP ["words", "answers", "presume"] (spWrong K)) (gP : mg "wrong_part" = some (.ref fP)) (kP : PySem.W.keepIn K (.ref fP) = true) (bP : Binds K fdP ["words", "answers", "presume"] [])
    (EB : OwnE P w K mg base 3 5 "BadBook" "part" "part" CB) : FnOk P w K mg base (L2.CX P w) 7 f fd pInit (spBook K C CB) := by
  refine F.ok scInit (fun vs H Q E h => ?_) (fun cdv A outer s H vs Q E hr h => ?_)
  · obtain ⟨n, o, dx, a, p, ws, ds, da, dp, rfl, six, _⟩ := h
    simp [six]
  · obtain ⟨n, o, dx, a, p, ws, ds, da, dp, rfl, six, ho, pr, ca, cp, kx, kq⟩ := h
    have hr2 : Room 2 _ := hr.mono (by decide)
    refine ⟨_, pss_cons (ps_set (i := 9) scInit.nd rfl (Or.inr rfl) (pe_disp (pps_cons pe_str (pv 1) (pps_cons pe_str (pv 2) (pps_cons pe_str (pv 3) (pps_cons pe_str (pv 4) (pps_cons pe_str (pv 5) (pps_cons pe_str (pv 6) pps_nil)))))) (by rfl) (by rfl) (fun z => by cases z) (by decide)))
      (pss_cons (ps_set (i := 10) scInit.nd rfl (Or.inl rfl) (pe_call GP hr2 rfl gP kP bP .nil pass0 (pa_cons (pv 9) (pa_cons (pv 7) (pa_cons (pv 8) pa_nil)))))
      (pss_cons (ps_if (pt_cmpR op_notN (pv 10) pe_non (by rfl)) (pss_one (ps_raise rfl (takes_of rfl rfl rfl rfl) (pmk_bad EB hr (by rfl) (pa_cons (pv 10) pa_nil)))) pss_nil)
      (pss_cons (ps_fld (pv 0) (pv 1) rfl) (pss_cons (ps_fld (pv 0) (pv 2) rfl) (pss_cons (ps_fld (pv 0) (pv 3) rfl) (pss_cons (ps_fld (pv 0) (pv 4) rfl) (pss_cons (ps_fld (pv 0) (pv 5) rfl) (pss_cons (ps_fld (pv 0) (pv 6) rfl)
      (pss_cons (ps_fld (pv 0) (pe_callTy call_tuple_of (by rfl) B.tuple bTuple (pa_cons (pe_lc (own := [("outcome", 11)]) (g := gName 11) rfl scInit.nd (pi_tup (pe_glob (v := .ref tO) (by rfl) N.gO rfl)) (blkOk_by (N := nInit) (sc := defScope sInit) (by decide +kernel))
          (fun _ _ _ _ _ => pg_name (i := 11) scInit.nd rfl (Or.inl rfl)) (fun _ _ _ _ _ => pts_one (pt_cmpR (show OpR _ (compareOp .In) (rIn K false) from op_in_seq) (pv 11) (pv 7) (by rfl))) (fun _ _ _ _ _ => pv 11)) pa_nil)) rfl)
      (pss_cons (ps_fld (pv 0) (pv 8) rfl)
      (pss_cons (ps_fld (pv 0) (pe_callTy call_tuple_of (by rfl) B.tuple bTuple (pa_cons (pe_callB cr_sortedS (by rfl) B.sorted (by decide +kernel) (pa_cons (pe_lc (own := [("record", 12)]) (g := gName 12) rfl scInit.nd (pi_tup (pe_glob (v := .ref tR) (by rfl) N.gR rfl)) (blkOk_by (N := nInit) (sc := defScope sInit) (by decide +kernel))
          (fun _ _ _ _ _ => pg_name (i := 12) scInit.nd rfl (Or.inl rfl)) (fun _ _ _ _ _ => pts_one (pt_cmpR op_eq (pe_dget (hu_of hr) (pv 9) (pv 12) (fun _ _ => rfl)) pe_str (nomark _))) (fun _ _ _ _ _ => pv 12)) pa_nil)) pa_nil)) rfl)
      (pss_one (ps_fld (pv 0) (pv 9) rfl)))))))))))))
      , ?_⟩
    obtain ⟨w1, w2, w3, w4, w5, w6, rfl⟩ := six6 six
    refine fun dW fW => ⟨w1, rfl, w2, rfl, w3, rfl, w4, rfl, w5, rfl, w6, rfl, upd_same, dictW [w1, w2, w3, w4, w5, w6], rfl, (by show 6 ≤ 15; decide), ?_⟩
    have hW : upd (upd H dW (.dK [])) dW (.dK (mergeK [] (dictW [w1, w2, w3, w4, w5, w6]))) dW = some (.dK (dictW [w1, w2, w3, w4, w5, w6])) := upd_same
    have s1 : Same H (upd (upd H dW (.dK [])) dW (.dK (mergeK [] (dictW [w1, w2, w3, w4, w5, w6])))) := by
      rw [upd_upd]
      exact sameUp (Same.refl H) fW
    generalize upd (upd H dW (.dK [])) dW (.dK (mergeK [] (dictW [w1, w2, w3, w4, w5, w6]))) = H1 at hW s1 ⊢
    refine ⟨_, rfl, a, rfl, p, rfl, n, dW, a, p, [w1, w2, w3, w4, w5, w6], ds, da, dp, rfl, hW, rfl, L2.Paired.mapP pr fun _ _ z => z.same s1, ca.same s1, cp.same s1, fun H2 s2 => ?_⟩
    have s12 := s1.trans s2
    cases hw : wrong ds da dp with
    | some x =>
      refine ⟨_, rfl, rfl, _, rfl, ifT rfl ?_⟩
      refine ⟨_, rfl, .str x, .str x, rfl, .inl rfl, fun H' dd v' s3 fd hd cv => ?_⟩
      rw [cpStr cv] at hd
      exact kx x hw H' dd (s12.trans s3) (s12.free fd) hd
    | none =>
      refine ⟨_, rfl, rfl, _, rfl, ifF rfl ?_⟩
      have six' : ds.length = 6 := by
        rw [← pr.length]
        rfl
      obtain ⟨⟨ss, eds, okS⟩, isq, ⟨as, eas, okA⟩, pre, edp, okP⟩ := allRight six' hw
      have sixS : ss.length = 6 := by
        rw [eds, List.length_map] at six'
        exact six'
      have ews : [w1, w2, w3, w4, w5, w6] = ss.map V.str := textsOf (n := n + 1) (K := K) (H := H) (by rw [← eds]; exact pr)
      subst edp
      have ep := cpStr cp
      subst ep
      obtain ⟨ap, xa, rfl, sqa, fewA, prA⟩ := seqItems ca isq
      rw [eas] at prA
      have exa := textsOf prA
      subst exa
      have ho2 : H2 o = some (.ins C dx []) := s12 _ _ ho
      have off2 : Off o H H2 := fun b u _ e => s12 _ _ e
      have hW2 : H2 dW = some (.dK (dictW (ss.map V.str))) := by
        rw [← ews]
        exact s2 _ _ hW
      have oW : dW ≠ o := fun z => by
        rw [z] at hW2
        rw [hW2] at ho2
        cases ho2
      refine ⟨w1, rfl, _, rfl, o, C, dx, _, rfl, ho2, L.cl, L.no _ (by decide), (by decide), ?_⟩
      refine ⟨w2, rfl, _, rfl, o, C, dx, _, rfl, upd_same, L.cl, L.no _ (by decide), (by show 1 < 1000; decide), ?_⟩
      refine ⟨w3, rfl, _, rfl, o, C, dx, _, rfl, upd_same, L.cl, L.no _ (by decide), (by show 2 < 1000; decide), ?_⟩
      refine ⟨w4, rfl, _, rfl, o, C, dx, _, rfl, upd_same, L.cl, L.no _ (by decide), (by show 3 < 1000; decide), ?_⟩
      refine ⟨w5, rfl, _, rfl, o, C, dx, _, rfl, upd_same, L.cl, L.no _ (by decide), (by show 4 < 1000; decide), ?_⟩
      refine ⟨w6, rfl, _, rfl, o, C, dx, _, rfl, upd_same, L.cl, L.no _ (by decide), (by show 5 < 1000; decide), ?_⟩
      rw [upd_upd, upd_upd, upd_upd, upd_upd, upd_upd, show putF ("refused" : Str) w6 (putF ("agreed" : Str) w5 (putF ("ready" : Str) w4 (putF ("no" : Str) w3 (putF ("yes" : Str) w2 (putF ("begin" : Str) w1 []))))) = recs.zip [w1, w2, w3, w4, w5, w6] from rfl]
      have ho3 : upd H2 o (.ins C dx (recs.zip [w1, w2, w3, w4, w5, w6])) o = some (.ins C dx (recs.zip [w1, w2, w3, w4, w5, w6])) := upd_same
      have off3 : Off o H (upd H2 o (.ins C dx (recs.zip [w1, w2, w3, w4, w5, w6]))) := off2.self
      have hW3 : upd H2 o (.ins C dx (recs.zip [w1, w2, w3, w4, w5, w6])) dW = some (.dK (dictW (ss.map V.str))) := by
        rw [upd_ne oW]
        exact hW2
      have sq3 : SqL K (upd H2 o (.ins C dx (recs.zip [w1, w2, w3, w4, w5, w6]))) ap (as.map V.str) ∨ SqT K (upd H2 o (.ins C dx (recs.zip [w1, w2, w3, w4, w5, w6]))) ap (as.map V.str) := off3.seq ho sqa
      generalize upd H2 o (.ins C dx (recs.zip [w1, w2, w3, w4, w5, w6])) = H3 at ho3 off3 hW3 sq3 ⊢
      -- the answers
      refine ⟨tO, rfl, ⟨_, N.sO _⟩, fun D fD => lc_tup (K := K) (a := tO) (xs := outs.map V.str) (fun i H' => H' D = some (.lst (((outs.take i).filter as.contains).map V.str)) ∧ Same H3 H') ⟨upd_same, sameUp (Same.refl H3) fD⟩ (fun i H' _ _ => N.sO H')
        (fun i x H' hx ⟨hD, s4⟩ => ?_) (fun H4 ⟨hD, s4⟩ => ?_)⟩
      · obtain ⟨r, hr', rfl⟩ : ∃ r, outs[i]? = some r ∧ x = .str r := by
          rw [List.getElem?_map] at hx
          obtain ⟨r, h1, h2⟩ := Option.map_eq_some_iff.mp hx
          exact ⟨r, h1, h2.symm⟩
        refine ⟨rfl, ⟨_, rfl, .ref ap, rfl, ap, as.map V.str, rfl, sq3.imp (fun z => s4.seq z) (fun z => sameT s4 z), rfl, by simp [flatV], _, rfl, ?_⟩⟩
        have more := takeOne hr'
        show (if inV (.str r) (as.map V.str) = true then _ else _)
        rw [inV_texts]
        cases hc : as.contains r with
        | true =>
          rw [if_pos rfl]
          refine ⟨.str r, rfl, _, hD, (by rw [List.length_map]; exact Nat.lt_of_le_of_lt (Nat.le_trans (List.length_filter_le _ _) (List.length_take_le' _ _)) (by decide : outs.length < sizeLine)), ?_, fun b u e => by rw [upd_ne (ne_of_none e fD)]; exact s4 b u e⟩
          rw [upd_same, more, List.filter_append, List.filter_cons_of_pos hc, List.map_append] <;> rfl
        | false =>
          rw [if_neg Bool.false_ne_true]
          refine ⟨?_, s4⟩
          rw [hD, more, List.filter_append, List.filter_cons_of_neg (by rw [hc]; exact Bool.false_ne_true), List.filter_nil, List.append_nil]
      · have hD' : H4 D = some (.lst ((outs.filter as.contains).map V.str)) := hD
        refine ⟨D, _, rfl, .inl ⟨.inl (.inl hD'), fun tA fA => ?_⟩⟩
        have off4 : Off o H H4 := off3.same s4
        have ho4 : upd H4 tA (.tup ((outs.filter as.contains).map V.str)) o = some (.ins C dx (recs.zip [w1, w2, w3, w4, w5, w6])) := by
          rw [upd_ne (ne_of_none (s4 _ _ ho3) fA)]
          exact s4 _ _ ho3
        refine ⟨_, rfl, o, C, dx, _, rfl, ho4, L.cl, L.no _ (by decide), (by show 6 < 1000; decide), ?_⟩
        refine ⟨_, rfl, _, rfl, o, C, dx, _, rfl, upd_same, L.cl, L.no _ (by decide), (by show 7 < 1000; decide), ?_⟩
        rw [upd_upd, show putF ("presume" : Str) (.str pre) (putF ("answers" : Str) (.ref tA) (recs.zip [w1, w2, w3, w4, w5, w6])) = eight [w1, w2, w3, w4, w5, w6] tA (.str pre) from rfl]
        have ho5 : upd (upd H4 tA (.tup ((outs.filter as.contains).map V.str))) o (.ins C dx (eight [w1, w2, w3, w4, w5, w6] tA (.str pre))) o = some (.ins C dx (eight [w1, w2, w3, w4, w5, w6] tA (.str pre))) := upd_same
        have oA : tA ≠ o := ne_of_none' (s4 _ _ ho3) fA
        have hA5 : upd (upd H4 tA (.tup ((outs.filter as.contains).map V.str))) o (.ins C dx (eight [w1, w2, w3, w4, w5, w6] tA (.str pre))) tA = some (.tup ((outs.filter as.contains).map V.str)) := by
          rw [upd_ne oA, upd_same]
        have hW5 : upd (upd H4 tA (.tup ((outs.filter as.contains).map V.str))) o (.ins C dx (eight [w1, w2, w3, w4, w5, w6] tA (.str pre))) dW = some (.dK (dictW (ss.map V.str))) := by
          rw [upd_ne oW, upd_ne (ne_of_none (s4 _ _ hW3) fA)]
          exact s4 _ _ hW3
        have off5 : Off o H (upd (upd H4 tA (.tup ((outs.filter as.contains).map V.str))) o (.ins C dx (eight [w1, w2, w3, w4, w5, w6] tA (.str pre)))) := (off4.same (sameUp (Same.refl H4) fA)).self
        generalize upd (upd H4 tA (.tup ((outs.filter as.contains).map V.str))) o (.ins C dx (eight [w1, w2, w3, w4, w5, w6] tA (.str pre))) = H5 at ho5 hA5 hW5 off5 ⊢
        -- the forced ones
        refine ⟨tR, rfl, ⟨_, N.sR _⟩, fun D fD => lc_tup (K := K) (a := tR) (xs := recs.map V.str) (fun i H' => H' D = some (.lst ((hard' (recs.take i) (ss.take i)).map V.str)) ∧ Same H5 H') ⟨upd_same, sameUp (Same.refl H5) fD⟩ (fun i H' _ _ => N.sR H')
          (fun i x H' hx ⟨hD, s6⟩ => ?_) (fun H6 ⟨hD, s6⟩ => ?_)⟩
        · obtain ⟨r, hr', rfl⟩ : ∃ r, recs[i]? = some r ∧ x = .str r := by
            rw [List.getElem?_map] at hx
            obtain ⟨r, h1, h2⟩ := Option.map_eq_some_iff.mp hx
            exact ⟨r, h1, h2.symm⟩
          have i6 : i < 6 := (List.getElem?_eq_some_iff.mp hr').1
          obtain ⟨t, ht⟩ : ∃ t, ss[i]? = some t := ⟨ss[i]'(by omega), by simp [sixS, i6]⟩
          refine ⟨rfl, ⟨_, rfl, _, rfl, dW, .str t, rfl, ?_, rfl, _, rfl, ?_⟩⟩
          · rw [← getW (ws := ss.map V.str) (by rw [List.length_map]; exact sixS) hr' (by rw [List.getElem?_map, ht] <;> rfl)]
            exact DGet.k (k := Sum.inr r) (s6 _ _ hW5)
          · have more := hardMore hr' ht
            cases hc : (t == ("forced" : Str)) with
            | true =>
              refine ifT (by simpa using hc) ⟨.str r, rfl, _, hD, (by rw [List.length_map]; exact Nat.lt_of_le_of_lt (hardFew _ _) (Nat.lt_of_le_of_lt (List.length_take_le' _ _) (by decide : recs.length < sizeLine))), ?_, fun b u e => by rw [upd_ne (ne_of_none e fD)]; exact s6 b u e⟩
              rw [upd_same, more, hc, if_pos rfl, List.map_append] <;> rfl
            | false =>
              refine ifF (by simpa using hc) ⟨?_, s6⟩
              rw [hD, more, hc, if_neg Bool.false_ne_true, List.append_nil]
        · have hD' : H6 D = some (.lst ((hard ss).map V.str)) := by
            have z : ss.take (recs.map V.str).length = ss := by
              rw [show (recs.map V.str).length = ss.length from sixS.symm, List.take_length]
            rw [z] at hD
            exact hD
          refine ⟨D, hard ss, rfl, .inl (.inl hD'), Nat.lt_of_le_of_lt (hardFew _ _) (by decide : recs.length < 64), fun ys l perm sorted fl => ?_⟩
          have s7 : Same H5 (upd H6 l (.lst (ys.map V.str))) := sameUp s6 fl
          refine ⟨l, _, rfl, .inl ⟨.inl (.inl upd_same), fun tF fF => ?_⟩⟩
          generalize upd H6 l (.lst (ys.map V.str)) = H7 at s7 fF ⊢
          have ho7 : upd H7 tF (.tup (ys.map V.str)) o = some (.ins C dx (eight [w1, w2, w3, w4, w5, w6] tA (.str pre))) := by
            rw [upd_ne (ne_of_none (s7 _ _ ho5) fF)]
            exact s7 _ _ ho5
          refine ⟨_, rfl, o, C, dx, _, rfl, ho7, L.cl, L.no _ (by decide), (by show 8 < 1000; decide), ?_⟩
          refine ⟨_, rfl, _, rfl, o, C, dx, _, rfl, upd_same, L.cl, L.no _ (by decide), (by show 9 < 1000; decide), ?_⟩
          rw [upd_upd, show putF ("_words" : Str) (.ref dW) (putF ("forced" : Str) (.ref tF) (eight [w1, w2, w3, w4, w5, w6] tA (.str pre))) = fields [w1, w2, w3, w4, w5, w6] tA (.str pre) tF dW from rfl]
          refine kq ss as pre eds eas rfl hw _ ((off5.same s7).same (sameUp (Same.refl H7) fF)).self ⟨dx, tA, tF, dW, ys, sixS, fun x m => List.contains_iff_mem.mpr (List.mem_filter.mp m).1, ?_, ?_, perm, sorted, ?_, ?_⟩
          · rw [upd_same, ews]
          · rw [upd_ne oA, upd_ne (ne_of_none (s7 _ _ hA5) fF)]
            exact s7 _ _ hA5
          · rw [upd_ne (ne_of_none' (s7 _ _ ho5) fF), upd_same]
          · rw [upd_ne oW, upd_ne (ne_of_none (s7 _ _ hW5) fF)]
            exact s7 _ _ hW5
end
end Bi

namespace Bm
open PySem PySem.Spec PyProof.Rows L2 Co Wi Ki Bk Bi Ow
/-! Book(..), as the callers see it. -/
/-- a book is made, or BadBook names the first wrong part -/
def spMade (K : PySem.W.Frag) (C CB : Addr) : Sp := fun vs H Q E => ∃ (n : Nat) (a p : V) (ws : List V) (ds : List PyData) (da dp : PyData), vs = ws ++ [a, p] ∧ ws.length = 6 ∧ Paired (Cp K H (n + 1)) ws ds ∧ Cp K H (n + 1) a da ∧ Cp K H (n + 1) p dp ∧
  (∀ x, wrong ds da dp = some x → ∀ (H' : Hp) (dd : Addr), Same H H' → H dd = none → H' dd = some (.xd [("part", .str x)]) → E (.ref CB) (some dd) H') ∧
  ∀ (ss as : List Str) (pre : Str), ds = ss.map PyData.str → items da = as.map PyData.str → dp = .str pre → wrong ds da dp = none → ∀ (H' : Hp) (o : Addr), Same H H' → H o = none → BookAt C H' o ss (outs.filter as.contains) pre → Q (.ref o) H'
theorem madeRd {K : PySem.W.Frag} {C CB : Addr} {vs : List V} {H : Hp} {Q : VK} {E : XK} (h : spMade K C CB vs H Q E) : ∀ x dx, H x = none → H dx = none → dx ≠ x → spBook K C CB (.ref x :: vs) (upd (upd H dx (.own x)) x (.ins C dx [])) (fun v H2 => v = .non ∧ Q (.ref x) H2) E := by
  intro x dx hx hdx ne
  obtain ⟨n, a, p, ws, ds, da, dp, rfl, six, pr, ca, cp, bad, good⟩ := h
  have s0 : Same H (upd (upd H dx (.own x)) x (.ins C dx [])) := fun b o e => by
    rw [upd_ne (ne_of_none e hx), upd_ne (ne_of_none e hdx)]
    exact e
  refine ⟨n, x, dx, a, p, ws, ds, da, dp, rfl, six, upd_same, L2.Paired.mapP pr fun _ _ z => z.same s0, ca.same s0, cp.same s0, fun y hw H' dd s1 fd hd => bad y hw H' dd (s0.trans s1) (s0.free fd) hd, fun ss as pre e1 e2 e3 hw H' off bk => ⟨rfl, good ss as pre e1 e2 e3 hw H' x (fun b o e => ?_) hx bk⟩⟩
  exact off b o (ne_of_none e hx) (s0 _ _ e)
def tBook (K : PySem.W.Frag) (C CB : Addr) (dvs : List V) (E : XK) (ta : TA) : TE := fun σ H Q => ta σ H fun vs H1 => spMade K C CB (vs ++ dvs) H1 Q E
section
variable {X : Cx} {C CB f : Addr} {fd : FuncData} {ds : List Value} {dvs : List V} {E : XK} {e : Expr} {es : List Expr} {ta : TA} {p pos : Pos}
theorem pe_book (M : Mk X.K C f) (F : FnOk X.prog X.w X.K X.mg X.base (L2.CX X.prog X.w) 7 f fd pInit (spBook X.K C CB)) (room : Room 8 X.A) (hg : Gl X "Book") (hm : X.mg "Book" = some (.ref C)) (hb : Binds X.K fd pInit ds) (hd : Vals dvs ds) (hx : Passes (L2.CX X.prog X.w) X E)
    (ha : PA X (e :: es) ta) (n2 : starEach (e :: es) X.env = (false, eval e X.env) :: starEach es X.env := by rfl) (n3 : (backTo pos (starEach es X.env)).any (·.1) = false := by rfl) : PE X (.Call (.Name "Book" p) (e :: es) [] pos) (tBook X.K C CB dvs E ta) := by
  refine weaken (pe_make (p := p) (pos := pos) M F room hg hm hb hd hx (pa_wide ha) (by decide) n2 n3) fun σ H Q h => ⟨_, h, fun vs H1 z => ?_⟩
  exact madeRd z
/-- by name alone: g puts self and the keywords' values in the parameters' order -/
def tBookK (K : PySem.W.Frag) (C CB : Addr) (m : Nat) (gV : List V → List V → List V) (E : XK) (tk : TA) : TE := fun σ H Q => tk σ H fun zs H1 => zs.length = m ∧ ∃ vs : List V, (∀ x, gV [x] zs = x :: vs) ∧ spMade K C CB vs H1 Q E
theorem pe_bookK {ks : List Str} {g : List Value → List Value → List Value} {gV : List V → List V → List V} {kws : List Keyword} {tk : TA} (M : Mk X.K C f) (F : FnOk X.prog X.w X.K X.mg X.base (L2.CX X.prog X.w) 7 f fd pInit (spBook X.K C CB)) (room : Room 8 X.A)
    (hg : Gl X "Book") (hm : X.mg "Book" = some (.ref C)) (hb : KBn X.K fd pInit 1 ks g gV) (hx : Passes (L2.CX X.prog X.w) X E) (hk : PK X kws tk) (all : (backToKw pos (keywordEach kws X.env)).all (·.1.isSome) = true := by rfl)
    (names : (backToKw pos (keywordEach kws X.env)).filterMap (·.1) = ks := by rfl) (n3 : ((backTo pos (starEach [] X.env)).any (·.1) || (backToKw pos (keywordEach kws X.env)).any (·.1.isNone)) = false := by rfl) :
    PE X (.Call (.Name "Book" p) [] kws pos) (tBookK X.K C CB ks.length gV E tk) := by
  constructor
  intro pins s σ H Q I h
  apply wpAny_Call_Name_kw
  apply ld_glob I hg hm _ (by decide)
  apply PySem.W.callWith_KW0 (h₀ := X.base) I.ok.mod.kin M.kp all _ n3
  refine thn (hk.run pos pins s σ H _ I h) fun us s1 ⟨zs, H1, I1, r1, len, vs, eg, z⟩ => ⟨I1.kIn, ?_⟩
  rw [names]
  refine run_makeN (n := 0) M F room hb hx I1 .nil r1 rfl len fun x dx hx hdx ne => ?_
  rw [eg]
  exact madeRd z x dx hx hdx ne
end
/-- binding by name where defaults stand -/
theorem kbinds {K : PySem.W.Frag} {x qual : Str} {params : Arguments} {body : List Stmt} {scope : Scope} {dvs : List V} {f : Addr} {fd : FuncData} {ps : List Str} (F : FunD K x qual params body scope dvs [] f fd) (n : Nat) (ks : List Str) (g : {α : Type} → List α → List α → List α → List α) (some_ : dvs ≠ [])
    (rel : ∀ {vs ds zs : List V} {us its ws : List Value}, Vals vs us → Vals ds its → Vals zs ws → Vals (g vs ds zs) (g us its ws))
    (h : ∀ (T : Addr) (kV doc pm : Value) (an : Option Addr) (cdv ct : Value) (us its ws : List Value), us.length = n → its.length = dvs.length → ws.length = ks.length →
      ∃ k, bindArgs (PySem.W.fnOf x qual params body scope (.ref T) kV doc pm an cdv ct) ⟨us, ks.zip ws⟩ = seqItems? (.ref T) >>= k ∧ k (some its.toArray) = pure (ps.zip (g us its ws))) :
    ∃ its : List Value, KBn K fd ps n ks (fun us ws => g us its ws) (fun vs zs => g vs dvs zs) := by
  obtain ⟨oc, od, dV, kV, doc, pm, an, cdv, ct, osl, rfl, lk, hcd, hD, _⟩ := F.ex
  rcases hD with ⟨e, _⟩ | ⟨_, T, o, its, m, rfl, lT, oT, rT⟩
  · exact absurd e some_
  · refine ⟨its, ⟨fun s us ws X l1 l2 => ?_, fun r1 r2 => rel r1 rT r2⟩⟩
    obtain ⟨k, e1, e2⟩ := h T kV doc pm an cdv ct us its ws l1 rT.length.symm l2
    refine BindsTo.of_looks fun M => ?_
    rw [e1]
    exact looks_items X lT oT (.of_pure e2)
end Bm

namespace Be
open PySem PySem.Spec PyProof.Rows L2 Co Wi Ki Bk Ow Ra Bi
/-! Book.__eq__. -/
abbrev sEq : Stmt := inClass (Ki.top 17) 1
theorem scEq : FnScope ["self", "other"] ["self", "other"] (defScope sEq) := ⟨rfl, rfl, rfl, by decide +kernel, rfl, by decide +kernel, by decide +kernel⟩
/-- what isinstance asks of the class -/
structure Isa (K : PySem.W.Frag) (C : Addr) : Prop where
  ha : PySem.W.findIn K (.ref C) "__class__" = some (some (.builtin "object.__class__"))
  hn : PySem.W.specialIn K (.builtin "object.__class__") "__get__" = some (some (.builtin "getset_descriptor.__get__"))
  ht : PySem.W.takesIn K (.builtin "object.__class__") = some true
  hm : PySem.W.mroIn K C (.type "object") = some true
/-- a value that is no book: its type is built in -/
def Alien (K : PySem.W.Frag) (C : Addr) (H : Hp) (y : V) : Prop := ∃ t : String, TyX K H y (.type t) ∧ PySem.W.kitOne K (.type t) (.ref C) = some false
def spEqB (K : PySem.W.Frag) (C : Addr) : Sp := fun vs H Q _ => ∃ (o : Addr) (y : V) (ss as : List Str) (p : Str), vs = [.ref o, y] ∧ BookAt C H o ss as p ∧
  ((∃ (o2 : Addr) (ss2 as2 : List Str) (p2 : Str), y = .ref o2 ∧ BookAt C H o2 ss2 as2 p2 ∧ Q (.bl (decide (ss = ss2 ∧ as = as2 ∧ p = p2))) H) ∨ (Alien K C H y ∧ Q (.bl false) H))
theorem split {A B : Prop} {c : Bool} (h1 : c = true → A) (h2 : c = false → B) : if c = true then A else B := by
  cases c with
  | true => exact ifT rfl (h1 rfl)
  | false => exact ifF rfl (h2 rfl)
theorem eqvTexts : ∀ xs ys : List Str, PyData.eqvAll (xs.map PyData.str) (ys.map PyData.str) = decide (xs = ys)
  | [], [] => rfl
  | [], _ :: _ => rfl
  | _ :: _, [] => rfl
  | x :: xs, y :: ys => by
    show PyData.eqvAll (PyData.str x :: xs.map PyData.str) (PyData.str y :: ys.map PyData.str) = _
    rw [PyData.eqvAll, eqvTexts xs ys]
    show ((x == y) && decide (xs = ys)) = _
    rw [Bool.eq_iff_iff]
    simp
theorem dpTexts {K : PySem.W.Frag} {H : Hp} : ∀ xs : List Str, DpAll K H (xs.map V.str) (xs.map PyData.str)
  | [] => .nil
  | x :: xs => .cons (.str x) (dpTexts xs)
theorem shapedTexts (xs : List Str) (ok : ∀ x ∈ xs, outs.contains x = true) : SeqAt.shaped (.tuple (xs.map PyData.str)) = true := by
  have good : ∀ x, outs.contains x = true → PyData.strOk x = true := fun x h => by
    have m : x ∈ outs := List.contains_iff_mem.mp h
    have all : ∀ x ∈ outs, PyData.strOk x = true := by decide +kernel
    exact all x m
  have lay : ∀ l : List Str, (∀ x ∈ l, outs.contains x = true) → PyData.canLayAll0 (l.map PyData.str) = true := fun l => by
    induction l with
    | nil => exact fun _ => rfl
    | cons x l ih =>
      intro ok
      show PyData.canLayAll0 (PyData.str x :: l.map PyData.str) = true
      rw [PyData.canLayAll0, ih fun y m => ok y (List.mem_cons_of_mem _ m), PyData.canLay0, good x (ok x List.mem_cons_self)]
      rfl
  have deep : ∀ l : List Str, PyData.depthAll (l.map PyData.str) ≤ 1 := fun l => by
    induction l with
    | nil => decide
    | cons x l ih =>
      show PyData.depthAll (PyData.str x :: l.map PyData.str) ≤ 1
      rw [PyData.depthAll]
      exact Nat.max_le.mpr ⟨by rw [PyData.depth]; decide, ih⟩
  refine Bool.and_eq_true_iff.mpr ⟨?_, decide_eq_true ?_⟩
  · rw [PyData.canLay0]
    exact lay xs ok
  · rw [PyData.depth]
    have := deep xs
    omega
theorem strs6 {ss : List Str} (h : ss.length = 6) : ∃ a b c d e f, ss = [a, b, c, d, e, f] := match ss, h with
  | [a, b, c, d, e, f], _ => ⟨a, b, c, d, e, f, rfl⟩
section
variable {P : Program} {w : World} {K : PySem.W.Frag} {mg : Str → Option Value} {base : Heap} {C : Addr}
theorem ok_eq {f : Addr} {fd : FuncData} (F : Fun K "__eq__" "Book.__eq__" sEq f fd) (L : Cl K C) (J : Isa K C) (iI : mg "isinstance" = none) (gC : mg "Book" = some (.ref C)) : FnOk P w K mg base CX0 1 f fd ["self", "other"] (spEqB K C) := by
  refine F.ok scEq (fun vs H Q E h => ?_) (fun cdv A outer s H vs Q E hr h => ?_)
  · obtain ⟨o, y, ss, as, p, rfl, _⟩ := h
    rfl
  · obtain ⟨o, y, ss, as, p, rfl, bk, h⟩ := h
    refine ⟨_, pss_one (ps_ret (pe_and (pe_callB call_isi (by rfl) iI bIsi (pa_cons (pv 1) (pa_cons (pe_glob (v := .ref C) (by rfl) gC rfl) pa_nil)))
      (pe_and (pe_cmpR op_eq (pe_fld (pv 0) rfl) (pe_fld (pv 1) rfl) (nomark _)) (pe_and (pe_cmpR op_eq (pe_fld (pv 0) rfl) (pe_fld (pv 1) rfl) (nomark _)) (pe_and (pe_cmpR op_eq (pe_fld (pv 0) rfl) (pe_fld (pv 1) rfl) (nomark _))
      (pe_and (pe_cmpR op_eq (pe_fld (pv 0) rfl) (pe_fld (pv 1) rfl) (nomark _)) (pe_and (pe_cmpR op_eq (pe_fld (pv 0) rfl) (pe_fld (pv 1) rfl) (nomark _)) (pe_and (pe_cmpR op_eq (pe_fld (pv 0) rfl) (pe_fld (pv 1) rfl) (nomark _))
      (pe_and (pe_cmpR (op_eqD hr.units) (pe_fld (pv 0) rfl) (pe_fld (pv 1) rfl) (nomark _)) (pe_one (pe_cmpR op_eq (pe_fld (pv 0) rfl) (pe_fld (pv 1) rfl) (nomark _)))))))))))), ?_⟩
    rcases h with ⟨o2, ss2, as2, p2, rfl, bk2, q⟩ | ⟨⟨t, ty, kit⟩, q⟩
    · obtain ⟨dx, tA, tF, dW, ys, six, okA, ho, hA, _, _, _, _⟩ := bk
      obtain ⟨dx2, tA2, tF2, dW2, ys2, six2, okA2, ho2, hA2, _, _, _, _⟩ := bk2
      obtain ⟨a1, a2, a3, a4, a5, a6, rfl⟩ := strs6 six
      obtain ⟨b1, b2, b3, b4, b5, b6, rfl⟩ := strs6 six2
      have out : ∀ b : Bool, decide ([a1, a2, a3, a4, a5, a6] = [b1, b2, b3, b4, b5, b6] ∧ as = as2 ∧ p = p2) = b → Q (.bl b) H := fun b e => by
        rw [← e]
        exact q
      refine ⟨_, rfl, _, _, .ref C, .ref C, true, rfl, .own C, .base (.ins ho2 L.cl J.ha J.hn J.ht J.hm), by unfold PySem.W.kitOne; rw [if_pos (by simp)], _, rfl, ifT rfl ?_⟩
      refine ⟨_, rfl, o, C, dx, _, _, rfl, ho, L.cl, L.no _ (by decide), rfl, _, rfl, o2, C, dx2, _, _, rfl, ho2, L.cl, L.no _ (by decide), rfl, rfl, _, rfl, split (fun e1 => ?_) fun e1 => out _ (decide_eq_false fun z => by simp at e1 z; exact e1 z.1.1)⟩
      refine ⟨_, rfl, o, C, dx, _, _, rfl, ho, L.cl, L.no _ (by decide), rfl, _, rfl, o2, C, dx2, _, _, rfl, ho2, L.cl, L.no _ (by decide), rfl, rfl, _, rfl, split (fun e2 => ?_) fun e2 => out _ (decide_eq_false fun z => by simp at e2 z; exact e2 z.1.2.1)⟩
      refine ⟨_, rfl, o, C, dx, _, _, rfl, ho, L.cl, L.no _ (by decide), rfl, _, rfl, o2, C, dx2, _, _, rfl, ho2, L.cl, L.no _ (by decide), rfl, rfl, _, rfl, split (fun e3 => ?_) fun e3 => out _ (decide_eq_false fun z => by simp at e3 z; exact e3 z.1.2.2.1)⟩
      refine ⟨_, rfl, o, C, dx, _, _, rfl, ho, L.cl, L.no _ (by decide), rfl, _, rfl, o2, C, dx2, _, _, rfl, ho2, L.cl, L.no _ (by decide), rfl, rfl, _, rfl, split (fun e4 => ?_) fun e4 => out _ (decide_eq_false fun z => by simp at e4 z; exact e4 z.1.2.2.2.1)⟩
      refine ⟨_, rfl, o, C, dx, _, _, rfl, ho, L.cl, L.no _ (by decide), rfl, _, rfl, o2, C, dx2, _, _, rfl, ho2, L.cl, L.no _ (by decide), rfl, rfl, _, rfl, split (fun e5 => ?_) fun e5 => out _ (decide_eq_false fun z => by simp at e5 z; exact e5 z.1.2.2.2.2.1)⟩
      refine ⟨_, rfl, o, C, dx, _, _, rfl, ho, L.cl, L.no _ (by decide), rfl, _, rfl, o2, C, dx2, _, _, rfl, ho2, L.cl, L.no _ (by decide), rfl, rfl, _, rfl, split (fun e6 => ?_) fun e6 => out _ (decide_eq_false fun z => by simp at e6 z; exact e6 z.1.2.2.2.2.2)⟩
      refine ⟨_, rfl, o, C, dx, _, _, rfl, ho, L.cl, L.no _ (by decide), rfl, _, rfl, o2, C, dx2, _, _, rfl, ho2, L.cl, L.no _ (by decide), rfl, .tuple (as.map PyData.str), .tuple (as2.map PyData.str), .tup (.inl (.inl hA)) (dpTexts as), .tup (.inl (.inl hA2)) (dpTexts as2), shapedTexts as okA, shapedTexts as2 okA2, _, rfl, ?_⟩
      rw [show PyData.eqv (.tuple (as.map PyData.str)) (.tuple (as2.map PyData.str)) = decide (as = as2) by rw [PyData.eqv]; exact eqvTexts as as2]
      refine split (fun e7 => ?_) fun e7 => out _ (decide_eq_false fun z => by simp at e7 z; exact e7 z.2.1)
      refine ⟨_, rfl, o, C, dx, _, _, rfl, ho, L.cl, L.no _ (by decide), rfl, _, rfl, o2, C, dx2, _, _, rfl, ho2, L.cl, L.no _ (by decide), rfl, rfl, ?_⟩
      refine out _ ?_
      simp at e1 e2 e3 e4 e5 e6 e7
      subst e1 e2 e3 e4 e5 e6 e7
      simp
    · exact ⟨_, rfl, _, _, _, _, false, rfl, .own C, ty, kit, _, rfl, ifF rfl q⟩
end
end Be

namespace Db
open PySem PySem.Spec PyProof.Rows L2 Co Wi Ki Bk Bi Ow Bm
open L2 (FunD)
open DL (Ent S Lay FE FA FS FT FF XE XT XA XS XSs Rp RpAll Rs RsAll Ok Mv Frm Zt vis Hk HkAt)
/-! Books among data: Book(..), its parts, isinstance. -/
/-- a book as a datum: the words, the answers (ascending), the presumption -/
def bookD (ss as : List Str) (pre : Str) : PyData := .tuple [.tuple (ss.map PyData.str), .tuple (as.map PyData.str), .str pre]
/-- all of them texts -/
def strsD : List PyData → Option (List Str)
  | [] => some []
  | .str x :: r => (strsD r).map (x :: ·)
  | _ :: _ => none
theorem strsD_map : ∀ ss : List Str, strsD (ss.map PyData.str) = some ss
  | [] => rfl
  | x :: r => by rw [List.map_cons, strsD, strsD_map r] <;> rfl
theorem strsD_eq : ∀ {ds : List PyData} {ss : List Str}, strsD ds = some ss → ds = ss.map PyData.str
  | [], _, e => by cases e; rfl
  | .str x :: r, ss, e => by
    cases q : strsD r with
    | none => rw [strsD, q] at e; cases e
    | some t =>
      rw [strsD, q] at e
      cases e
      rw [strsD_eq q] <;> rfl
  | .none :: _, _, e => by cases e
  | .bool _ :: _, _, e => by cases e
  | .int _ :: _, _, e => by cases e
  | .list _ :: _, _, e => by cases e
  | .tuple _ :: _, _, e => by cases e
  | .dict _ :: _, _, e => by cases e
def ObB (C : Addr) (K : PySem.W.Frag) (t : Nat) (d : PyData) (v : V) (H : Hp) : Prop := match t with
  | 0 => ∃ (o : Addr) (ss as : List Str) (pre : Str), v = .ref o ∧ d = bookD ss as pre ∧ BookAt C H o ss as pre
  | 1 => ∃ (a : Addr) (ns : List Int), v = .ref a ∧ d = .list (ns.map PyData.int) ∧ SqL K H a (ns.map V.int)
  | _ => False
theorem bookAt_same {C : Addr} {H H' : Hp} {o : Addr} {ss as : List Str} {p : Str} (s : Same H H') (h : BookAt C H o ss as p) : BookAt C H' o ss as p := by
  obtain ⟨dx, tA, tF, dW, ys, h1, h2, h3, h4, h5, h6, h7, h8⟩ := h
  exact ⟨dx, tA, tF, dW, ys, h1, h2, s _ _ h3, s _ _ h4, h5, h6, s _ _ h7, s _ _ h8⟩
def StkD (z : Addr × Addr × Addr) (n : Nat) (H : Hp) : Prop := Draw.Stock H z.1 z.2.1 z.2.2 n
def lay (C : Addr) : Lay where
  Ob := fun K t d v H => ObB C K t d v H
  mono := fun {K t d v H H'} s h => match t, h with
    | 0, ⟨o, ss, as, pre, h1, h2, h3⟩ => ⟨o, ss, as, pre, h1, h2, bookAt_same s h3⟩
    | 1, ⟨a, ns, h1, h2, h3⟩ => ⟨a, ns, h1, h2, s.seq h3⟩
  Stk := StkD
  keep := fun {z n H H'} h k => by
    obtain ⟨⟨r, t, a, b, c, hd⟩, ⟨ws, w1, w2, hw⟩, ⟨cs, c1, c2, hc⟩, ne⟩ := h
    exact ⟨⟨r, t, a, b, c, k _ _ (.inl rfl) hd⟩, ⟨ws, w1, w2, k _ _ (.inr (.inl rfl)) hw⟩, ⟨cs, c1, c2, k _ _ (.inr (.inr rfl)) hc⟩, ne⟩
  there := fun {z n H} h b hb => by
    obtain ⟨⟨r, t, a, b', c, hd⟩, ⟨ws, w1, w2, hw⟩, ⟨cs, c1, c2, hc⟩, ne⟩ := h
    rcases hb with rfl | rfl | rfl
    · exact ⟨_, hd, .inr (.inl ⟨_, _, rfl⟩)⟩
    · exact ⟨_, hw, .inl ⟨_, rfl⟩⟩
    · exact ⟨_, hc, .inl ⟨_, rfl⟩⟩
/-- a book that stands in the whole heap is seen -/
theorem bookSeen {C : Addr} {L : Lay} {K : PySem.W.Frag} {hd : Addr → Bool} {Z : Zt} {B : Hp} {O : List Addr} {σ : L2.St} {H : Hp} {s : S} (k : Ok L K hd Z B O σ H s) {o : Addr} {ss as : List Str} {p : Str} (h : BookAt C H o ss as p) : BookAt C (vis hd O H) o ss as p := by
  obtain ⟨dx, tA, tF, dW, ys, h1, h2, h3, h4, h5, h6, h7, h8⟩ := h
  refine ⟨dx, tA, tF, dW, ys, h1, h2, k.seen h3 ?_, k.seen h4 ?_, h5, h6, k.seen h7 ?_, k.seen h8 ?_⟩
  · rintro (⟨_, z⟩ | ⟨_, _, z⟩ | z) <;> cases z
  · rintro (⟨_, z⟩ | ⟨_, _, z⟩ | z) <;> cases z
  · rintro (⟨_, z⟩ | ⟨_, _, z⟩ | z) <;> cases z
  · obtain ⟨a, b, c, d, e, f, rfl⟩ := Be.strs6 h1
    rintro (⟨_, z⟩ | ⟨_, _, z⟩ | z)
    · cases z
    · have z'' : (Sum.inr ("begin" : Str) : Key) = Sum.inr ("wide" : Str) := congrArg Prod.fst (List.cons.inj (HO.dK.inj z)).1
      exact absurd z'' (by decide)
    · cases z
/-- what a book's class must have -/
structure BookX (P : Program) (w : World) (K : PySem.W.Frag) (mg : Str → Option Value) (base : Heap) (C : Addr) : Prop where
  g : mg "Book" = some (.ref C)
  cl : Cl K C
  isa : Be.Isa K C
  no : ∀ t ∈ (["NoneType", "bool", "int", "str", "list", "tuple", "dict"] : List String), PySem.W.kitOne K (.type t) (.ref C) = some false
  yes : PySem.W.kitOne K (.ref C) (.ref C) = some true
  ex : ∃ (CB fI : Addr) (fd : FuncData), FnOk P w K mg base (L2.CX P w) 7 fI fd pInit (spBook K C CB) ∧ Mk K C fI ∧ Binds K fd pInit []
section
variable {C : Addr} {X : Cx} {pos : Pos}
/-! ### the parts -/
/-- the records whose word is forced, ascending -/
def asc : List Str := ["agreed", "begin", "no", "ready", "refused", "yes"]
def wordOf : List Str → List Str → Str → Option Str
  | r :: rs, s :: ss, x => if r = x then some s else wordOf rs ss x
  | _, _, _ => none
def forcedOf (ss : List Str) : List Str := asc.filter fun r => decide (wordOf recs ss r = some "forced")
theorem forced_eq {ss ys : List Str} (six : ss.length = 6) (p : ys.Perm (hard ss)) (so : sortedS ys = true) : ys = forcedOf ss := by
  obtain ⟨a, b, c, d, e, f, rfl⟩ := Be.strs6 six
  have key : ∀ (x1 x2 x3 x4 x5 x6 : Bool), ∃ l : List Str, ((((recs.zip [x1, x2, x3, x4, x5, x6]).filter fun p => p.2).map (·.1)).Perm l) ∧ sortedS l = true ∧ l = asc.filter fun r => (((recs.zip [x1, x2, x3, x4, x5, x6]).lookup r).getD false) := by
    intro x1 x2 x3 x4 x5 x6
    refine ⟨_, ?_, ?_, rfl⟩
    · cases x1 <;> cases x2 <;> cases x3 <;> cases x4 <;> cases x5 <;> cases x6 <;> decide +kernel
    · cases x1 <;> cases x2 <;> cases x3 <;> cases x4 <;> cases x5 <;> cases x6 <;> decide +kernel
  obtain ⟨l, h1, h2, h3⟩ := key (a == ("forced" : Str)) (b == ("forced" : Str)) (c == ("forced" : Str)) (d == ("forced" : Str)) (e == ("forced" : Str)) (f == ("forced" : Str))
  have e1 : hard [a, b, c, d, e, f] = (((recs.zip [(a == ("forced" : Str)), (b == ("forced" : Str)), (c == ("forced" : Str)), (d == ("forced" : Str)), (e == ("forced" : Str)), (f == ("forced" : Str))]).filter fun p => p.2).map (·.1)) := by
    show (((recs.zip [a, b, c, d, e, f]).filter fun p => p.2 == ("forced" : Str)).map (·.1)) = _
    simp only [recs, List.zip_cons_cons, List.zip_nil_right, List.filter_cons]
    cases a == ("forced" : Str) <;> cases b == ("forced" : Str) <;> cases c == ("forced" : Str) <;> cases d == ("forced" : Str) <;> cases e == ("forced" : Str) <;> cases f == ("forced" : Str) <;> rfl
  have e2 : forcedOf [a, b, c, d, e, f] = l := by
    rw [h3]
    unfold forcedOf
    have w : ∀ r ∈ asc, decide (wordOf recs [a, b, c, d, e, f] r = some "forced") = (((recs.zip [(a == ("forced" : Str)), (b == ("forced" : Str)), (c == ("forced" : Str)), (d == ("forced" : Str)), (e == ("forced" : Str)), (f == ("forced" : Str))]).lookup r).getD false) := by
      have sm : ∀ x : Str, decide (some x = some ("forced" : Str)) = (x == ("forced" : Str)) := fun x => by
        rw [Bool.eq_iff_iff]
        simp
      intro r hr
      simp only [asc, List.mem_cons, List.not_mem_nil, or_false] at hr
      rcases hr with rfl | rfl | rfl | rfl | rfl | rfl <;> exact sm _
    exact List.filter_congr w
  rw [e2]
  rw [e1] at p
  exact So.sortUniq (p.trans h1) so h2
/-- a part of a book -/
def partOf (f : Str) : PyData → Option PyData
  | .tuple [.tuple ws, .tuple as, pre] => match strsD ws with
    | some ss => if f = "answers" then some (.tuple as) else if f = "presume" then some pre else if f = "forced" then some (.tuple ((forcedOf ss).map PyData.str)) else (wordOf recs ss f).map PyData.str
    | none => none
  | _ => none
def fPart (f : Str) (g : FE) : FE := fun s Q => g s fun r s1 => match r with
  | .ob 0 d => match partOf f d with
    | some e => Q (.im e) s1
    | none => False
  | _ => False
theorem rpStrs {K : PySem.W.Frag} {H : Hp} : ∀ ss : List Str, RpAll K H (ss.map V.str) (ss.map PyData.str)
  | [] => .nil
  | x :: r => .cons (.str x) (rpStrs r)
def partNames : List Str := recs ++ (["answers", "presume", "forced"] : List Str)
variable {e : Expr} {g : FE} {f : Str}
theorem xPart {P : Program} {w : World} {mg : Str → Option Value} {base : Heap} (BX : BookX P w X.K mg base C) (he : XE (lay C) X e g) (hf : f ∈ partNames) (hb : attributeBase e f X.env (eval e X.env) = eval e X.env := by rfl) : XE (lay C) X (.Attribute e f pos) (fPart f g) := by
  refine ⟨fun s Q Q' k h => he.mono _ _ _ (fun r s1 h1 => ?_) h, fun hd Z B O σ H s Q ok h => DL.tW_of (pe_fld DL.peW hb) (he.run hd Z B O σ H s _ ok (he.mono _ _ _ (fun r s1 h1 v H1 k1 f1 r1 => ?_) h))⟩
  · split at h1
    · split at h1
      · exact k _ _ h1
      · exact h1.elim
    · exact h1.elim
  · split at h1
    · rename_i d
      split at h1
      · rename_i x ex
        obtain ⟨o, ss, as, pre, rfl, rfl, dx, tA, tF, dW, ys, six, oka, h3, h4, h5, h6, h7, h8⟩ := r1
        have yf := forced_eq six h5 h6
        subst yf
        have ex' : (if f = "answers" then some (PyData.tuple (as.map PyData.str)) else if f = "presume" then some (PyData.str pre) else if f = "forced" then some (PyData.tuple ((forcedOf ss).map PyData.str)) else (wordOf recs ss f).map PyData.str) = some x := by
          have q : partOf f (bookD ss as pre) = some x := ex
          have q' : (match strsD (ss.map PyData.str) with | some ss => (if f = "answers" then some (PyData.tuple (as.map PyData.str)) else if f = "presume" then some (PyData.str pre) else if f = "forced" then some (PyData.tuple ((forcedOf ss).map PyData.str)) else (wordOf recs ss f).map PyData.str) | none => none) = some x := q
          rw [strsD_map] at q'
          exact q'
        have seen : ∀ {a : Addr} {u : HO}, vis hd O H1 a = some u → H1 a = some u := fun z => DL.vis_le _ _ z
        have hno : NoAttr X.K C f := BX.cl.no f (by
          rcases List.mem_append.mp hf with z | z
          · exact List.mem_append_left _ z
          · refine List.mem_append_right _ ?_
            simp only [List.mem_cons, List.not_mem_nil, or_false] at z ⊢
            rcases z with rfl | rfl | rfl
            · exact .inl rfl
            · exact .inr (.inl rfl)
            · exact .inr (.inr (.inl rfl)))
        obtain ⟨a, b, c, d, e', f', rfl⟩ := Be.strs6 six
        refine ⟨o, C, dx, fields ([a, b, c, d, e', f'].map V.str) tA (.str pre) tF dW, ?_⟩
        have goal : ∀ (v : V), (fields ([a, b, c, d, e', f'].map V.str) tA (.str pre) tF dW).lookup f = some v → Rp X.K (vis hd O H1) v x → ∃ v, V.ref o = .ref o ∧ H1 o = some (.ins C dx (fields ([a, b, c, d, e', f'].map V.str) tA (.str pre) tF dW)) ∧ Cls X.K C ∧ NoAttr X.K C f ∧ (fields ([a, b, c, d, e', f'].map V.str) tA (.str pre) tF dW).lookup f = some v ∧ Q v H1 := fun v l r =>
          ⟨v, rfl, seen h3, BX.cl.cl, hno, l, h1 v H1 k1 f1 r⟩
        have hf' := hf
        simp only [partNames, recs, List.cons_append, List.nil_append, List.mem_cons, List.not_mem_nil, or_false] at hf'
        rcases hf' with rfl | rfl | rfl | rfl | rfl | rfl | rfl | rfl | rfl
        · cases ex'; exact goal (.str a) rfl (.str _)
        · cases ex'; exact goal (.str b) rfl (.str _)
        · cases ex'; exact goal (.str c) rfl (.str _)
        · cases ex'; exact goal (.str d) rfl (.str _)
        · cases ex'; exact goal (.str e') rfl (.str _)
        · cases ex'; exact goal (.str f') rfl (.str _)
        · cases ex'; exact goal (.ref tA) rfl (.tup (SqT.of h4) (rpStrs _))
        · cases ex'; exact goal (.str pre) rfl (.str _)
        · cases ex'; exact goal (.ref tF) rfl (.tup (SqT.of h7) (rpStrs _))
      · exact h1.elim
    · exact h1.elim
/-! ### isinstance(x, Book) -/
def fIsBook (g : FE) : FE := fun s Q => g s fun r s1 => match r with
  | .ob 0 _ => Q (.im (.bool true)) s1
  | .ob _ _ => False
  | .dr => False
  | _ => Q (.im (.bool false)) s1
variable {p py : Pos}
theorem xIsBook {P : Program} {w : World} {base : Heap} (BX : BookX P w X.K X.mg base C) (he : XE (lay C) X e g) (hm : X.mg "isinstance" = none) (hg : Gl X "isinstance" := by rfl) (hgB : Gl X "Book" := by rfl)
    (hs : starEach [e, .Name "Book" py] X.env = (false, eval e X.env) :: starEach [.Name "Book" py] X.env := by rfl) : XE (lay C) X (.Call (.Name "isinstance" p) [e, .Name "Book" py] [] pos) (fIsBook g) := by
  refine ⟨fun s Q Q' k h => he.mono _ _ _ (fun r s1 h1 => ?_) h, fun hd Z B O σ H s Q ok h => DL.tW_of (pe_callB call_isi hg hm DL.bIsi (pa_cons DL.peW (pa_cons (pe_glob (v := .ref C) hgB BX.g rfl) pa_nil) hs) (he := hs)) (he.run hd Z B O σ H s _ ok (he.mono _ _ _ (fun r s1 h1 v H1 k1 f1 r1 => ?_) h))⟩
  · cases r with
    | ob t d => cases t with
      | zero => exact k _ _ h1
      | succ _ => exact h1.elim
    | dr => exact h1.elim
    | im d => exact k _ _ h1
    | ow d => exact k _ _ h1
    | br _ d => exact k _ _ h1
  · have data : ∀ d, r.dat = some d → (∀ v H', Ok (lay C) X.K hd Z B O σ H' s1 → Mv Z H H' s s1 → Rs (lay C) X.K hd Z O σ H H' v (.im (.bool false)) → Q v H') → ∃ (x c : V) (t u : Value) (b : Bool), [v, V.ref C] = [x, c] ∧ ClsV c u ∧ TyX X.K H1 x t ∧ PySem.W.kitOne X.K t u = some b ∧ Q (.bl b) H1 := fun d ed q =>
      ⟨v, .ref C, _, .ref C, false, rfl, .own C, DL.rp_tyX (Rs.data r1 ed), BX.no _ (DL.kty_mem d), q _ H1 k1 f1 (.bl _)⟩
    cases r with
    | ob t d => cases t with
      | zero =>
        obtain ⟨o, ss, as, pre, rfl, rfl, dx, tA, tF, dW, ys, six, oka, h3, _⟩ := r1
        exact ⟨.ref o, .ref C, .ref C, .ref C, true, rfl, .own C, .base (.ins (DL.vis_le _ _ h3) BX.cl.cl BX.isa.ha BX.isa.hn BX.isa.ht BX.isa.hm), BX.yes, h1 _ H1 k1 f1 (.bl _)⟩
      | succ _ => exact h1.elim
    | dr => exact h1.elim
    | im d => exact data d rfl h1
    | ow d => exact data (.list d) rfl h1
    | br i d => exact data (.list d) rfl h1
/-! ### Book(..) -/
/-- the book of eight parts, if nothing is wrong -/
def mk8 : List PyData → Option PyData
  | [.str a, .str b, .str c, .str d, .str e, .str f, da, .str p] => match strsD (items da) with
    | some as => if wrong [.str a, .str b, .str c, .str d, .str e, .str f] da (.str p) = none then some (bookD [a, b, c, d, e, f] (outs.filter as.contains) p) else none
    | none => none
  | _ => none
def fBook (fs : FA) : FE := fun s Q => fs s fun rs s1 => DL.kepts rs fun ds => match mk8 ds with
  | some b => Q (.ob 0 b) s1
  | none => False
theorem fBook_mono {es : List Expr} {m : Nat} {fs : FA} (ha : XA (lay C) X es m fs) : ∀ s Q Q', (∀ r s', Q r s' → Q' r s') → fBook fs s Q → fBook fs s Q' := fun s Q Q' k h => ha.mono _ _ _ (fun rs s1 h1 => DL.kepts_mono (fun ds h2 => by
    split at h2
    · exact k _ _ h2
    · exact h2.elim) h1) h
/-- what is copied of data that Book takes -/
theorem cpSeq {K : PySem.W.Frag} {H : Hp} {v : V} {d : PyData} {as : List Str} (r : Rp K H v d) (hi : isSeq d = true) (h : items d = as.map PyData.str) (few : as.length ≤ 100) : Cp K H 2 v d := by
  have cps : ∀ {vs : List V} {ds : List PyData} {as : List Str}, RpAll K H vs ds → ds = as.map PyData.str → Paired (Cp K H 1) vs ds := fun {vs ds} => by
    induction ds generalizing vs with
    | nil => intro as r _; cases r; exact .nil
    | cons d ds ih =>
      intro as r e
      cases r with
      | cons a b =>
        cases as with
        | nil => cases e
        | cons x as =>
          obtain ⟨e1, e2⟩ := List.cons.inj e
          subst e1
          cases a
          exact .cons (.inl rfl) (ih b e2)
  cases r with
  | @lst _ _ es s q =>
    have hh : es = as.map PyData.str := h
    exact .inr (.inl ⟨_, _, _, rfl, rfl, SqL.of s, by rw [q.length, hh, List.length_map]; exact few, cps q hh⟩)
  | @tup _ _ es s q =>
    have hh : es = as.map PyData.str := h
    exact .inr (.inr (.inl ⟨_, _, _, rfl, rfl, s, by rw [q.length, hh, List.length_map]; exact few, cps q hh⟩))
  | non => cases hi
  | bl _ => cases hi
  | int _ => cases hi
  | str _ => cases hi
  | dct _ _ => cases hi
theorem few_of {da dp : PyData} {ds : List PyData} {as : List Str} (six : ds.length = 6) (h : wrong ds da dp = none) (e : items da = as.map PyData.str) : isSeq da = true ∧ as.length ≤ 100 := by
  have q := h
  unfold wrong at q
  cases hw : wrongW recs ds with
  | some r => rw [hw] at q; cases q
  | none =>
    rw [hw] at q
    dsimp only at q
    by_cases h1 : isSeq da = true ∧ unfit outs [] (items da) 0 = none
    · refine ⟨h1.1, ?_⟩
      have u := h1.2
      rw [e] at u
      match as, u with
      | [], _ => exact Nat.zero_le _
      | [_], _ => exact (by decide : 1 ≤ 100)
      | [_, _], _ => exact (by decide : 2 ≤ 100)
      | a :: b :: c :: r, u =>
        exfalso
        have two : ∀ x : Str, outs.contains x = true → x = "no" ∨ x = "yes" := fun x hx => by
          have := List.contains_iff_mem.mp hx
          simpa [outs] using this
        obtain ⟨ss, es, fit⟩ := fitOf _ _ _ u
        have u1 : (if outs.contains a = true ∧ ([] : List Str).contains a = false then unfit outs ([] ++ [a]) ((b :: c :: r).map PyData.str) 1 else some 0) = none := u
        by_cases ca : outs.contains a = true ∧ ([] : List Str).contains a = false
        · rw [if_pos ca] at u1
          have u2 : (if outs.contains b = true ∧ ([a] : List Str).contains b = false then unfit outs ([a] ++ [b]) ((c :: r).map PyData.str) 2 else some 1) = none := u1
          by_cases cb : outs.contains b = true ∧ ([a] : List Str).contains b = false
          · rw [if_pos cb] at u2
            have u3 : (if outs.contains c = true ∧ ([a, b] : List Str).contains c = false then unfit outs ([a, b] ++ [c]) (r.map PyData.str) 3 else some 2) = none := u2
            by_cases cc : outs.contains c = true ∧ ([a, b] : List Str).contains c = false
            · have n1 : b ≠ a := by simpa using cb.2
              have n2 : c ≠ a ∧ c ≠ b := by simpa using cc.2
              rcases two a ca.1 with rfl | rfl <;> rcases two b cb.1 with rfl | rfl <;> rcases two c cc.1 with rfl | rfl <;> simp_all
            · rw [if_neg cc] at u3; cases u3
          · rw [if_neg cb] at u2; cases u2
        · rw [if_neg ca] at u1; cases u1
    · rw [if_neg h1] at q; cases q
theorem cx0 {X : Cx} : Passes (L2.CX X.prog X.w) X E0 := fun _ _ _ _ _ _ _ h => by
  obtain ⟨_, _, _, _, _, _, _, _, _, _, _, _, z⟩ := h
  exact z.elim
theorem book_run {K : PySem.W.Frag} {CB : Addr} {hd : Addr → Bool} {Z : Zt} {B : Hp} {O : List Addr} {σ : L2.St} {H H1 : Hp} {s s1 : S} {Q : VK} {vs : List V} {ds : List PyData} {b : PyData} (ok : Ok (lay C) K hd Z B O σ H s) (f1 : Mv Z H H1 s s1) (k1 : Ok (lay C) K hd Z B O σ H1 s1) (rp : RpAll K (vis hd O H1) vs ds) (hb : mk8 ds = some b)
    (h : ∀ v H', Ok (lay C) K hd Z B O σ H' s1 → Mv Z H H' s s1 → Rs (lay C) K hd Z O σ H H' v (.ob 0 b) → Q v H') : spMade K C CB vs H1 Q E0 := by
  unfold mk8 at hb
  split at hb
  · rename_i a b' c d e f da p
    split at hb
    · rename_i as has
      by_cases hw : wrong [.str a, .str b', .str c, .str d, .str e, .str f] da (.str p) = none
      · rw [if_pos hw] at hb
        cases hb
        have rp' := rp.same DL.vis_le
        cases rp' with
        | cons r1 q => cases q with
          | cons r2 q => cases q with
            | cons r3 q => cases q with
              | cons r4 q => cases q with
                | cons r5 q => cases q with
                  | cons r6 q => cases q with
                    | cons r7 q => cases q with
                      | cons r8 q =>
                        cases q
                        cases r1; cases r2; cases r3; cases r4; cases r5; cases r6; cases r8
                        have ei := strsD_eq has
                        obtain ⟨sq, few⟩ := few_of rfl hw ei
                        refine ⟨1, _, .str p, [.str a, .str b', .str c, .str d, .str e, .str f], [.str a, .str b', .str c, .str d, .str e, .str f], da, .str p, rfl, rfl, .cons (.inl rfl) (.cons (.inl rfl) (.cons (.inl rfl) (.cons (.inl rfl) (.cons (.inl rfl) (.cons (.inl rfl) .nil))))), cpSeq r7 sq ei few, .inl rfl, fun x hx => ?_, fun ss as' pre e1 e2 e3 _ H' o sm fo bk => ?_⟩
                        · rw [hw] at hx; cases hx
                        · have es : ss = [a, b', c, d, e, f] := by
                            have := e1.symm
                            exact Option.some.inj (by rw [← strsD_map ss, this]; rfl)
                          have ea : as' = as := Option.some.inj (by rw [← strsD_map as', ← strsD_map as, ← e2, ← ei])
                          cases e3
                          subst es ea
                          have k2 := k1.same sm
                          exact h _ H' k2 (f1.trans (Mv.of sm)) ⟨o, _, _, _, rfl, rfl, bookSeen k2 bk⟩
      · rw [if_neg hw] at hb; cases hb
    · cases hb
  · cases hb
variable {es : List Expr} {fs : FA} {m : Nat}
theorem xBook (BX : BookX X.prog X.w X.K X.mg X.base C) (hr : Room 8 X.A) (ha : XA (lay C) X (e :: es) m fs) (hg : Gl X "Book" := by rfl) (n2 : starEach (e :: es) X.env = (false, eval e X.env) :: starEach es X.env := by rfl) (n3 : (backTo pos (starEach es X.env)).any (·.1) = false := by rfl) :
    XE (lay C) X (.Call (.Name "Book" p) (e :: es) [] pos) (fBook fs) := by
  obtain ⟨CB, fI, fd, G, M, hb⟩ := BX.ex
  refine ⟨fBook_mono ha, fun hd Z B O σ H s Q ok h => DL.tW_of (pe_book M G hr hg BX.g hb .nil cx0 DL.paW n2 n3) (ha.run hd Z B O σ H s _ ok (ha.mono _ _ _ (fun rs s1 h1 vs H1 k1 f1 r1 => ?_) h))⟩
  obtain ⟨ds, rp, h2⟩ := DL.kepts_v r1 h1
  split at h2
  · rename_i b hb'
    rw [List.append_nil]
    exact book_run ok f1 k1 rp hb' h2
  · exact h2.elim
end
end Db

namespace Draw
open PySem PySem.Spec PyProof.Rows L2
section
variable {P : Program} {w : World} {K : PySem.W.Frag} {mg : Str → Option Value} {base : Heap}
/-- one of the items -/
def spPickW (K : PySem.W.Frag) : Sp := fun vs H Q _ => ∃ (d w c l : Addr) (n : Nat) (xs : List V), vs = [.ref d, .ref l] ∧ Stock H d w c n ∧ n < 1000000 ∧ ((SqL K H l xs ∧ l ≠ w) ∨ SqT K H l xs) ∧ 0 < xs.length ∧ xs.length < 1000 ∧
  ∀ (H' : Hp) (i : Nat) (x : V), xs[i]? = some x → But d w H H' → Stock H' d w c (n + 1) → Q x H'
theorem ok_pickW {f fT : Addr} {fd fdT : FuncData} (F : Fun K "_law_pick" "_law_pick" sPick f fd) (B : Bare mg) (GT : FnOk P w K mg base CX0 2 fT fdT ["draw", "size"] Draw.spTake) (gT : mg "_law_take" = some (.ref fT)) (kT : PySem.W.keepIn K (.ref fT) = true) (bT : Binds K fdT ["draw", "size"] []) :
    FnOk P w K mg base CX0 3 f fd ["draw", "some"] (spPickW K) := by
  refine F.ok scPick (fun vs H Q E h => ?_) (fun cdv A outer s H vs Q E hr h => ?_)
  · obtain ⟨d, w, c, l, n, xs, rfl, _⟩ := h
    rfl
  · obtain ⟨d, w, c, l, n, xs, rfl, S, hn, hl', l0, l1, k⟩ := h
    have hl : Seq K H l xs := hl'.imp And.left id
    refine ⟨_, pss_one (ps_ret (pe_ix ix_seq (pv 1) (pe_call GT hr rfl gT kT bT .nil pass0 (pa_cons (pv 0) (pa_cons (pe_callB call_len_seq (by rfl) B.len PySem.boot_len (pa_cons (pv 1) pa_nil)) pa_nil))) (fun _ _ => rfl))), ?_⟩
    obtain ⟨r, t, r0, t0, tn, hd⟩ := S.own
    obtain ⟨ws, lw, pw, hw⟩ := S.wide
    refine ⟨_, rfl, _, rfl, _, rfl, l, xs, rfl, hl, d, w, c, n, _, rfl, S, hn, by omega, by omega, fun H' x bt S' x0 x1 => ?_⟩
    have hx : x.toNat < xs.length := by omega
    have e : xs[x.toNat]? = some xs[x.toNat] := List.getElem?_eq_getElem hx
    have ex : ((x.toNat : Nat) : Int) = x := Int.toNat_of_nonneg x0
    have ea : atI xs x = some xs[x.toNat] := by
      have q := atI_nat e
      rw [ex] at q
      exact q
    rcases hl' with ⟨hl, nw⟩ | hl
    · exact .inl ⟨l, xs, x, _, rfl, rfl, bt.lst hd nw hl, ea, k _ _ _ e bt S'⟩
    · exact .inr (.inl ⟨l, xs, x, _, rfl, rfl, bt.tup hd hw hl, ea, k _ _ _ e bt S'⟩)
end
end Draw
namespace Db
open PySem PySem.Spec PyProof.Rows L2 Co Wi Ki Bk Bi Ow Bm
open L2 (FunD)
open DL (Ent S Lay FE FA FS FT FF XE XT XA XS XSs Rp RpAll Rs RsAll Ok Mv Frm Zt vis zin Hk HkAt DefOk spW argsOf taW)
/-! A class call with a leading star; methods of books; the draws; the script; the law. -/
theorem evalArgs_star2 {M : Model} {A : Around} {E : Value → Shared → Prop} {s : Shared} {f : Value} {x y : Sem Value} {b : Bool} {rest : List (Bool × Sem Value)} {Q : Args → Shared → Prop}
    (h : wpAny M A (spliced ((true, x) :: (b, y) :: rest)) (fun vs s' => Q ⟨vs, []⟩ s') E s) : wpAny M A (evalArgs f true ((true, x) :: (b, y) :: rest) []) Q E s := by
  unfold evalArgs
  show wpAny M A (spliced ((true, x) :: (b, y) :: rest) >>= _) Q E s
  refine wpAny_bind (wpAny_mono h (fun vs s' h' => ?_) fun _ _ x => x)
  refine wpAny_holding ?_
  exact wpAny_bind (wpAny_pure (wpAny_bind (wpAny_pure (wpAny_pure h'))))
theorem callWith_SP {M : Model} {A : Around} {E : Value → Shared → Prop} {s : Shared} {K : PySem.W.Frag} {env : Env} {pos sp_ : Pos} {f : Value} {first : List Value} {Q : Value → Shared → Prop} {h₀ : Heap} {e e2 : Expr} {rest : List Expr} (_X : K.In h₀) (hk : PySem.W.keepIn K f = true)
    (h : wpAny M A (spliced (backTo pos (starEach (.Starred e sp_ :: e2 :: rest) env))) (fun vs s₁ => K.In s₁.heap ∧ wpAny M A (call f (first ++ vs)) Q E s₁) E s)
    (he : starEach (.Starred e sp_ :: e2 :: rest) env = (true, eval e env) :: starEach (e2 :: rest) env) (he2 : starEach (e2 :: rest) env = (false, eval e2 env) :: starEach rest env) :
    wpAny M A (callWith pos f first (backTo pos (starEach (.Starred e sp_ :: e2 :: rest) env)) []) Q E s := by
  rw [he, he2] at h ⊢
  exact PySem.W.ks_call rfl (PySem.W.keeps_K hk) (evalArgs_star2 h)
section
variable {X : Cx} {C CB f : Addr} {fd : FuncData} {ds : List Value} {dvs : List V} {E : XK} {e e2 : Expr} {es : List Expr} {ta : TA} {p pos sp_ : Pos}
theorem pe_bookS (M : Mk X.K C f) (F : FnOk X.prog X.w X.K X.mg X.base (L2.CX X.prog X.w) 7 f fd pInit (spBook X.K C CB)) (room : Room 8 X.A) (hg : Gl X "Book") (hm : X.mg "Book" = some (.ref C)) (hb : Binds X.K fd pInit ds) (hd : Vals dvs ds) (hx : Passes (L2.CX X.prog X.w) X E)
    (ha : PA X (.Starred e sp_ :: e2 :: es) ta) (he : starEach (.Starred e sp_ :: e2 :: es) X.env = (true, eval e X.env) :: starEach (e2 :: es) X.env) (he2 : starEach (e2 :: es) X.env = (false, eval e2 X.env) :: starEach es X.env) : PE X (.Call (.Name "Book" p) (.Starred e sp_ :: e2 :: es) [] pos) (tBook X.K C CB dvs E ta) := by
  refine ⟨fun pins s σ H Q I h => ?_⟩
  refine wpAny_Call_Name_kw (ld_glob I hg hm ?_ (by decide))
  refine callWith_SP (h₀ := X.base) I.ok.mod.kin M.kp (thn (ha.run pos pins s σ H _ I h) fun us s1 ⟨vs, H1, I1, r, q⟩ => ⟨I1.kIn, ?_⟩) he he2
  exact run_make M F room hb hd hx I1 r fun x dx hx hdx ne => madeRd q x dx hx hdx ne
end
section
variable {C : Addr} {X : Cx} {pos p sp_ apos : Pos} {e e2 : Expr} {es : List Expr} {fs : FA} {g : FE} {m : Nat}
theorem xBookStar (BX : BookX X.prog X.w X.K X.mg X.base C) (hr : Room 8 X.A) (ha : XA (lay C) X (.Starred e sp_ :: e2 :: es) m fs) (hg : Gl X "Book" := by rfl) (he : starEach (.Starred e sp_ :: e2 :: es) X.env = (true, eval e X.env) :: starEach (e2 :: es) X.env := by rfl) (he2 : starEach (e2 :: es) X.env = (false, eval e2 X.env) :: starEach es X.env := by rfl) :
    XE (lay C) X (.Call (.Name "Book" p) (.Starred e sp_ :: e2 :: es) [] pos) (fBook fs) := by
  obtain ⟨CB, fI, fd, G, M, hb⟩ := BX.ex
  refine ⟨fBook_mono ha, fun hd Z B O σ H s Q ok h => DL.tW_of (pe_bookS M G hr hg BX.g hb .nil cx0 DL.paW he he2) (ha.run hd Z B O σ H s _ ok (ha.mono _ _ _ (fun rs s1 h1 vs H1 k1 f1 r1 => ?_) h))⟩
  obtain ⟨ds, rp, h2⟩ := DL.kepts_v r1 h1
  split at h2
  · rename_i b hb'
    rw [List.append_nil]
    exact book_run ok f1 k1 rp hb' h2
  · exact h2.elim
/-! ### methods of books -/
structure MethOk (C : Addr) (P : Program) (w : World) (K : PySem.W.Frag) (mg : Str → Option Value) (base : Heap) (k : Nat) (m : Str) (F : FF) : Prop where
  mono : ∀ (A : Around) (_ : Shared), Room k A → ∀ es n Q Q', (∀ r m, Q r m → Q' r m) → F es n Q → F es n Q'
  ex : ∃ f fd ps, FnOk P w K mg base CX0 k f fd ps (spW (lay C) K F) ∧ Meth K C m f ∧ Binds K fd ps []
  no : ∀ (a b c d e f : V) (tA : Addr) (pre : V) (tF dW : Addr), (fields [a, b, c, d, e, f] tA pre tF dW).lookup m = none
def fMeth (F : FF) (fo : FE) (fs : FA) : FE := fun s Q => fo s fun r s1 => match r with
  | .ob 0 d => fs s1 fun rs s2 => argsOf rs fun es => F (.ob 0 d :: es) s2.n fun r m => Q r { s2 with n := m }
  | _ => False
theorem xMeth {o : Expr} {fo : FE} {k : Nat} {mn : Str} {F : FF} {pl : Sem Bool} (BX : BookX X.prog X.w X.K X.mg X.base C) (D : MethOk C X.prog X.w X.K X.mg X.base k mn F) (hr : Room k X.A) (ho : XE (lay C) X o fo) (ha : XA (lay C) X (e :: es) m fs)
    (hst : starEach (e :: es) X.env = (false, eval e X.env) :: starEach es X.env := by rfl) (hpl : (backTo pos (starEach es X.env)).any (·.1) = false := by rfl)
    (ht : eval (.Call (.Attribute o mn apos) (e :: es) [] pos) X.env = (do
      let ov ← eval o X.env
      standAt apos.atName
      let (f, first) ← holding [ov] (getMethod ov mn pl)
      callWith pos f first (backTo pos (starEach (e :: es) X.env)) (backToKw pos (keywordEach [] X.env))) := by rfl) : XE (lay C) X (.Call (.Attribute o mn apos) (e :: es) [] pos) (fMeth F fo fs) := by
  obtain ⟨f, fd, ps, G, M, hb⟩ := D.ex
  have mono := D.mono X.A X.s_0 hr
  refine ⟨fun s Q Q' k h => ho.mono _ _ _ (fun r s1 h1 => ?_) h, fun hd Z B O σ H s Q ok h => DL.tW_of (pe_meth DL.peW BX.cl.cl M G hr hb .nil pass0 DL.paW hst hpl ht) (ho.run hd Z B O σ H s _ ok (ho.mono _ _ _ (fun r s1 h1 v H1 k1 f1 r1 => ?_) h))⟩
  · split at h1
    · exact ha.mono _ _ _ (fun rs s2 h2 => DL.argsOf_mono (fun es h3 => mono _ _ _ _ (fun r m q => k _ _ q) h3) h2) h1
    · exact h1.elim
  · split at h1
    · rename_i d
      obtain ⟨o', ss, as, pre, rfl, rfl, bk⟩ := r1
      have bk1 := bookAt_same DL.vis_le bk
      obtain ⟨dx, tA, tF, dW, ys, six, oka, h3, h4, h5, h6, h7, h8⟩ := bk1
      obtain ⟨a, b, c, d, e', f', rfl⟩ := Be.strs6 six
      refine ⟨o', dx, _, rfl, h3, D.no _ _ _ _ _ _ _ _ _ _, ha.run hd Z B O σ H1 s1 _ k1 (ha.mono _ _ _ (fun rs s2 h2 vs H2 k2 f2 r2 => ?_) h1)⟩
      rw [List.append_nil]
      have r1' : Rs (lay C) X.K hd Z O σ H H2 (.ref o') (.ob 0 (bookD [a, b, c, d, e', f'] as pre)) := Rs.step k1 f2 (s1 := s1) (s2 := s2) ⟨o', _, as, pre, rfl, rfl, bk⟩
      exact DL.run_F ok (f1.trans f2) k2 (.cons r1' (r2.back ok f1)) mono h2
    · exact h1.elim
/-! ### the draws -/
def F_take : FF := fun es n Q => match es with
  | [.dr, .im (.int z)] => (n < 1000000 ∧ 0 < z ∧ z < 1000000) ∧ ∀ x : Int, 0 ≤ x → x < z → Q (.im (.int x)) (n + 1)
  | _ => False
def F_pick : FF := fun es n Q => match es with
  | [.dr, .im d] => match DL.items d with
    | some ds => (n < 1000000 ∧ 0 < ds.length ∧ ds.length < 1000) ∧ ∀ x ∈ ds, Q (.im x) (n + 1)
    | none => False
  | _ => False
theorem F_take_mono : ∀ es n Q Q', (∀ r m, Q r m → Q' r m) → F_take es n Q → F_take es n Q' := fun es n Q Q' k h => by
  unfold F_take at h ⊢
  split at h
  · exact ⟨h.1, fun x a b => k _ _ (h.2 x a b)⟩
  · exact h.elim
theorem F_pick_mono : ∀ es n Q Q', (∀ r m, Q r m → Q' r m) → F_pick es n Q → F_pick es n Q' := fun es n Q Q' k h => by
  unfold F_pick at h ⊢
  split at h
  · split at h
    · exact ⟨h.1, fun x a => k _ _ (h.2 x a)⟩
    · exact h.elim
  · exact h.elim
theorem frm_but {z : Addr × Addr × Addr} {H H' : Hp} (b : Draw.But z.1 z.2.1 H H') : Frm (some z) H H' := fun a o nz e => b a o (fun q => nz ⟨z, rfl, .inl q⟩) (fun q => nz ⟨z, rfl, .inr (.inl q)⟩) e
theorem vis_but {hd : Addr → Bool} {z : Addr × Addr × Addr} {H H' : Hp} (hz : ∀ a, zin (some z) a → hd a = true) (b : Draw.But z.1 z.2.1 H H') : Same (vis hd [] H) (vis hd [] H') := fun a o e => by
  obtain ⟨h1, h2, h3⟩ := DL.vis_some.mp e
  exact DL.vis_some.mpr ⟨h1, h2, frm_but b a o (fun q => by rw [hz a q] at h1; cases h1) h3⟩
variable {P : Program} {w : World} {K : PySem.W.Frag} {mg : Str → Option Value} {base : Heap} {f : Addr} {fd : FuncData} {ps : List Str}
theorem ok_take (G : FnOk P w K mg base CX0 2 f fd ["draw", "size"] Draw.spTake) (hm : mg "_law_take" = some (.ref f)) (kp : PySem.W.keepIn K (.ref f) = true) (hb : Binds K fd ["draw", "size"] []) : DefOk (lay C) P w K mg base 2 "_law_take" F_take := by
  refine ⟨fun _ _ _ => F_take_mono, f, fd, _, G.imp fun vs H Q E h => ?_, hm, kp, hb⟩
  obtain ⟨hd, Z, es, n, h1, h2, h3, r, q⟩ := h
  unfold F_take at q
  split at q
  · rename_i z
    cases r with
    | cons a r => cases r with
      | cons b r =>
        cases r
        obtain ⟨zz, rfl, rfl⟩ := a
        cases b
        exact ⟨_, zz.2.1, zz.2.2, n, z, rfl, h3 zz rfl, q.1.1, q.1.2.1, q.1.2.2, fun H' x bt st x0 x1 => q.2 x x0 x1 _ H' (frm_but bt) (fun z' e => by cases e; exact st) (.int x)⟩
  · exact q.elim
theorem ok_pick (G : FnOk P w K mg base CX0 3 f fd ["draw", "some"] (Draw.spPickW K)) (hm : mg "_law_pick" = some (.ref f)) (kp : PySem.W.keepIn K (.ref f) = true) (hb : Binds K fd ["draw", "some"] []) : DefOk (lay C) P w K mg base 3 "_law_pick" F_pick := by
  refine ⟨fun _ _ _ => F_pick_mono, f, fd, _, G.imp fun vs H Q E h => ?_, hm, kp, hb⟩
  obtain ⟨hd, Z, es, n, h1, h2, h3, r, q⟩ := h
  unfold F_pick at q
  split at q
  · rename_i d
    split at q
    · rename_i ds hi
      cases r with
      | cons a r => cases r with
        | cons b r =>
          cases r
          obtain ⟨zz, rfl, rfl⟩ := a
          have b' : Rp K (vis hd [] H) _ d := b
          have fin : ∀ (l : Addr) (xs : List V), ((SqL K H l xs ∧ l ≠ zz.2.1) ∨ SqT K H l xs) → RpAll K (vis hd [] H) xs ds → Draw.spPickW K [.ref zz.1, .ref l] H Q E := fun l xs sq ra =>
            ⟨_, zz.2.1, zz.2.2, l, n, xs, rfl, h3 zz rfl, q.1.1, sq, by rw [ra.length]; exact q.1.2.1, by rw [ra.length]; exact q.1.2.2, fun H' i x hx bt st => by
              obtain ⟨d', g1, g2⟩ := ra.get hx
              exact q.2 d' (List.mem_of_getElem? g1) _ H' (frm_but bt) (fun z' e => by cases e; exact st) (g2.same (vis_but h2 bt))⟩
          have nw : ∀ (l : Addr) (o : HO), vis hd [] H l = some o → l ≠ zz.2.1 := fun l o e z => by
            have h1 := (DL.vis_some.mp e).1
            rw [z, h2 _ ⟨zz, rfl, .inr (.inl rfl)⟩] at h1
            cases h1
          cases b' with
          | @lst l xs es hl ra =>
            cases hi
            exact fin l xs (.inl ⟨.inl (.inl (DL.vis_le _ _ hl)), nw l _ hl⟩) ra
          | @tup l xs es hl ra =>
            cases hi
            exact fin l xs (.inr (DL.sameT DL.vis_le hl)) ra
          | non => cases hi
          | bl _ => cases hi
          | int _ => cases hi
          | str _ => cases hi
          | dct _ _ => cases hi
    · exact q.elim
  · exact q.elim
end
end Db
namespace Db
open PySem PySem.Spec PyProof.Rows L2 Co Wi Ki Bk Bi Ow Bm
open L2 (FunD)
open DL (Ent S EE Lay FE FA FS FT FF XE XT XA XS XSs Rp RpAll Rs RsAll Ok Mv Frm Zt vis zin Hk HkAt DefOk spW argsOf taW Real runF CallS)
/-! ### len of the script -/
def oLenS (rs : List Ent) (Q : Ent → Prop) : Prop := match rs with
  | [.ob 1 (.list ds)] => Q (.im (.int ds.length))
  | _ => False
theorem cs_lenS {C : Addr} {X : Cx} : CallS (lay C) X (.builtin "len") oLenS := by
  refine ⟨fun rs Q Q' k h => ?_, _, call_len_seq, fun hd Z B O σ H0 H s xs rs Q ok r h Q' k => ?_⟩
  · unfold oLenS at h ⊢
    split at h
    · exact k _ h
    · exact h.elim
  · unfold oLenS at h
    split at h
    · cases r with
      | cons a r =>
        cases r
        obtain ⟨a, ns, rfl, e, sq⟩ := a
        cases e
        refine ⟨a, _, rfl, .inl (DL.vis_le.seq sq), ?_⟩
        have := k (.int ((ns.map V.int).length : Nat)) _ H h (Same.refl H) (by rw [List.length_map, ← List.length_map (f := PyData.int)]; exact .int _)
        exact this
    · exact h.elim
/-! ### methods, the law -/
section
variable {C : Addr} {P : Program} {w : World} {K : PySem.W.Frag} {mg : Str → Option Value} {base : Heap} {x qual : Str} {st s1 : Stmt} {rest : List Stmt} {f : Addr} {fd : FuncData} {N ps : List Str} {k nN np : Nat} {g : FS}
theorem meth_ok (F : Fun K x qual st f fd) (M : Meth K C x f) (hb0 : Binds K fd ps []) (Sc : FnScope N ps (defScope st)) (no : ∀ (a b c d e f : V) (tA : Addr) (pre : V) (tF dW : Addr), (fields [a, b, c, d, e, f] tA pre tF dW).lookup x = none)
    (hb : ∀ (cdv : Value) (A : Around) (outer : List Env) (s : Shared) (H : Hp) (E : XK), Room k (A.deeper (envOfC qual (defScope st) s.heap.objs.size f cdv)) → XSs (lay C) (cxOf CX0 P w K mg base N qual (defScope st) f cdv A outer s H E).nox (defBody st) g) (hN : N.length = nN := by rfl) (hp : ps.length = np := by rfl) :
    MethOk C P w K mg base (k + 1) x (runF nN np g) := ⟨DL.def_mono hb, ⟨f, fd, ps, DL.def_mk F Sc hN hp hb, M, hb0⟩, no⟩
def spLaw (K : PySem.W.Frag) : Sp := fun vs H Q _ => ∃ (a : Addr) (ns : List Int), vs = [.ref a] ∧ SqL K H a (ns.map V.int) ∧ ns.length ≤ 63 ∧ ∀ H', Q (.bl true) H'
def hdZ (z : Addr × Addr × Addr) : Addr → Bool := fun b => decide (b = z.1 ∨ b = z.2.1 ∨ b = z.2.2)
def lawE : EE := { nx := fun _ => False, rt := fun r _ => r = .im (.bool true) }
theorem law_mk (F : Fun K x qual st f fd) (Sc : FnScope N ["script"] (defScope st)) (hbody : defBody st = s1 :: rest)
    (hs1 : ∀ (cdv : Value) (A : Around) (outer : List Env) (s : Shared) (H : Hp) (E : XK), Room k (A.deeper (envOfC qual (defScope st) s.heap.objs.size f cdv)) → ∃ t, PS (cxOf CX0 P w K mg base N qual (defScope st) f cdv A outer s H E).nox s1 t ∧
      ∀ (D : Ends) (σ : L2.St) (H : Hp) (a : Addr), σ[0]? = some (some (.ref a)) → Draw.spBegun K [.ref a] H (fun v H' => D.nx (σ.set 1 (some v)) H') E0 → t D σ H)
    (hb : ∀ (cdv : Value) (A : Around) (outer : List Env) (s : Shared) (H : Hp) (E : XK), Room k (A.deeper (envOfC qual (defScope st) s.heap.objs.size f cdv)) → XSs (lay C) (cxOf CX0 P w K mg base N qual (defScope st) f cdv A outer s H E).nox rest g)
    (hg : ∀ ns : List Int, ns.length ≤ 63 → g lawE ⟨some (.ob 1 (.list (ns.map PyData.int))) :: some .dr :: List.replicate nN none, 0⟩) (hN : N.length = nN + 2 := by rfl) :
    FnOk P w K mg base CX0 (k + 1) f fd ["script"] (spLaw K) := by
  refine F.ok Sc (fun vs H Q E h => ?_) (fun cdv A outer s H vs Q E hr h => ?_)
  · obtain ⟨a, ns, rfl, _⟩ := h
    rfl
  · obtain ⟨a, ns, rfl, sq, few, kq⟩ := h
    obtain ⟨t, p1, q1⟩ := hs1 cdv A outer s H E hr
    rw [hbody]
    refine ⟨_, pss_cons p1 DL.pssW, q1 _ _ H a (by show (start N [V.ref a])[0]? = _; rfl) ⟨a, ns, rfl, sq, few, fun H' d wd c sm fd0 fw fc stk => ?_⟩⟩
    have hk : ∀ b, hdZ (d, wd, c) b = true → zin (some (d, wd, c)) b := fun b e => ⟨_, rfl, of_decide_eq_true e⟩
    have sq' : SqL K (vis (hdZ (d, wd, c)) [] H') a (ns.map V.int) := by
      have see : ∀ o, H a = some o → vis (hdZ (d, wd, c)) [] H' a = some o := fun o e => by
        refine DL.vis_some.mpr ⟨?_, by simp, sm _ _ e⟩
        refine decide_eq_false ?_
        rintro (rfl | rfl | rfl)
        · rw [fd0] at e; cases e
        · rw [fw] at e; cases e
        · rw [fc] at e; cases e
      rcases sq with (sq | ⟨o, sq⟩) | sq
      · exact .inl (.inl (see _ sq))
      · exact .inl (.inr ⟨o, see _ sq⟩)
      · exact .inr sq
    have kb := DL.Ok.begin (L := lay C) (K := K) (hd := hdZ (d, wd, c)) (Z := some (d, wd, c)) (H := H') (N := N) (vs := [.ref a]) (es := [.ob 1 (.list (ns.map PyData.int))]) (n := 0) (np := 1)
      (fun b hb => (lay C).there (n := 0) (z := (d, wd, c)) stk b (of_decide_eq_true hb)) (fun b ⟨z, e, q⟩ => by cases e; exact decide_eq_true q) (fun z e => by cases e; exact stk) (.cons (r := .ob 1 _) ⟨a, ns, rfl, rfl, sq'⟩ .nil) rfl
    have kc := kb.set 1 (v := .ref d) (e := some .dr) fun x e => by
      cases e
      exact ⟨fun ds z => Ent.noConfusion z, ⟨_, rfl, rfl⟩⟩
    refine (hb cdv A outer s H E hr).run _ _ _ _ _ H' _ lawE _ kc ⟨fun _ _ _ _ (z : False) _ => z.elim, fun r n v H2 e fr st' rr => ?_, fun _ _ _ _ (z : False) _ => z.elim, fun _ _ _ _ (z : False) _ => z.elim⟩ ?_
    · have e' : r = .im (.bool true) := e
      subst e'
      cases rr
      exact kq H2
    · have := hg ns few
      rw [show N.length - 1 = nN + 1 by omega]
      exact this
end
end Db

namespace Db
open PySem PySem.Spec PyProof.Rows L2 Co Wi Ki Bk Bi Ow Bm
open L2 (FunD)
open DL (Ent S EE Lay FE FA FS FT FF XE XT XA XS XSs Rp RpAll Rs RsAll Ok Mv Frm Zt vis zin Hk HkAt DefOk spW argsOf taW Real runF CallS)
section
variable {C : Addr} {P : Program} {w : World} {K : PySem.W.Frag} {mg : Str → Option Value} {base : Heap} {x qual : Str} {st s1 : Stmt} {rest : List Stmt} {f : Addr} {fd : FuncData} {N ps : List Str} {k nN np : Nat} {g : FS}
theorem law_mkG (F : Fun K x qual st f fd) (Sc : FnScope N ["script"] (defScope st)) (hbody : defBody st = s1 :: rest)
    (hs1 : ∀ (cdv : Value) (A : Around) (outer : List Env) (s : Shared) (H : Hp) (E : XK), Room k (A.deeper (envOfC qual (defScope st) s.heap.objs.size f cdv)) → ∃ t, PS (cxOf CX0 P w K mg base N qual (defScope st) f cdv A outer s H E).nox s1 t ∧
      ∀ (D : Ends) (σ : L2.St) (H : Hp) (a : Addr), σ[0]? = some (some (.ref a)) → Draw.spBegun K [.ref a] H (fun v H' => D.nx (σ.set 1 (some v)) H') E0 → t D σ H)
    (hb : ∀ (cdv : Value) (A : Around) (outer : List Env) (s : Shared) (H : Hp) (E : XK), Room k (A.deeper (envOfC qual (defScope st) s.heap.objs.size f cdv)) → (cxOf CX0 P w K mg base N qual (defScope st) f cdv A outer s H E).nox.A.guards = some [] → XSs (lay C) (cxOf CX0 P w K mg base N qual (defScope st) f cdv A outer s H E).nox rest g)
    (hg : ∀ ns : List Int, ns.length ≤ 63 → g lawE ⟨some (.ob 1 (.list (ns.map PyData.int))) :: some .dr :: List.replicate nN none, 0⟩) (hN : N.length = nN + 2 := by rfl) :
    Gd.FnG P w K mg base CX0 (k + 1) f fd ["script"] (spLaw K) := by
  refine Gd.bodyG0 F Sc (fun vs H Q E h => ?_) (fun cdv A outer s H vs Q E hr gd h => ?_)
  · obtain ⟨a, ns, rfl, _⟩ := h
    rfl
  · obtain ⟨a, ns, rfl, sq, few, kq⟩ := h
    obtain ⟨t, p1, q1⟩ := hs1 cdv A outer s H E hr
    rw [hbody]
    refine ⟨_, pss_cons p1 DL.pssW, q1 _ _ H a (by show (start N [V.ref a])[0]? = _; rfl) ⟨a, ns, rfl, sq, few, fun H' d wd c sm fd0 fw fc stk => ?_⟩⟩
    have hk : ∀ b, hdZ (d, wd, c) b = true → zin (some (d, wd, c)) b := fun b e => ⟨_, rfl, of_decide_eq_true e⟩
    have sq' : SqL K (vis (hdZ (d, wd, c)) [] H') a (ns.map V.int) := by
      have see : ∀ o, H a = some o → vis (hdZ (d, wd, c)) [] H' a = some o := fun o e => by
        refine DL.vis_some.mpr ⟨?_, by simp, sm _ _ e⟩
        refine decide_eq_false ?_
        rintro (rfl | rfl | rfl)
        · rw [fd0] at e; cases e
        · rw [fw] at e; cases e
        · rw [fc] at e; cases e
      rcases sq with (sq | ⟨o, sq⟩) | sq
      · exact .inl (.inl (see _ sq))
      · exact .inl (.inr ⟨o, see _ sq⟩)
      · exact .inr sq
    have kb := DL.Ok.begin (L := lay C) (K := K) (hd := hdZ (d, wd, c)) (Z := some (d, wd, c)) (H := H') (N := N) (vs := [.ref a]) (es := [.ob 1 (.list (ns.map PyData.int))]) (n := 0) (np := 1)
      (fun b hb => (lay C).there (n := 0) (z := (d, wd, c)) stk b (of_decide_eq_true hb)) (fun b ⟨z, e, q⟩ => by cases e; exact decide_eq_true q) (fun z e => by cases e; exact stk) (.cons (r := .ob 1 _) ⟨a, ns, rfl, rfl, sq'⟩ .nil) rfl
    have kc := kb.set 1 (v := .ref d) (e := some .dr) fun x e => by
      cases e
      exact ⟨fun ds z => Ent.noConfusion z, ⟨_, rfl, rfl⟩⟩
    refine (hb cdv A outer s H E hr gd).run _ _ _ _ _ H' _ lawE _ kc ⟨fun _ _ _ _ (z : False) _ => z.elim, fun r n v H2 e fr st' rr => ?_, fun _ _ _ _ (z : False) _ => z.elim, fun _ _ _ _ (z : False) _ => z.elim⟩ ?_
    · have e' : r = .im (.bool true) := e
      subst e'
      cases rr
      exact kq H2
    · have := hg ns few
      rw [show N.length - 1 = nN + 1 by omega]
      exact this
end
end Db

namespace Sf
open PySem PySem.Spec PyProof.Rows L2
/-! _law_shuffled, of texts. -/
abbrev sShuf : Stmt := Draw.top 29
theorem scShuf : FnScope ["draw", "some", "left", "found"] ["draw", "some"] (defScope sShuf) := ⟨rfl, rfl, rfl, by decide +kernel, rfl, by decide +kernel, by decide +kernel⟩
theorem dpStrs {K : PySem.W.Frag} {H : Hp} : ∀ ss : List Str, DpAll K H (ss.map V.str) (ss.map PyData.str)
  | [] => .nil
  | x :: r => .cons (.str x) (dpStrs r)
theorem depthStrs : ∀ ss : List Str, PyData.depthAll (ss.map PyData.str) = 0
  | [] => rfl
  | x :: r => by
    rw [List.map_cons, PyData.depthAll, depthStrs r]
    rfl
theorem layStrs : ∀ {ss : List Str}, (∀ x ∈ ss, (PyData.str x).canLay0 = true) → PyData.canLayAll0 (ss.map PyData.str) = true
  | [], _ => rfl
  | x :: r, h => by
    rw [List.map_cons, PyData.canLayAll0, h x List.mem_cons_self, layStrs fun y m => h y (List.mem_cons_of_mem _ m)]
    rfl
theorem shStrs {ss : List Str} (h : ∀ x ∈ ss, (PyData.str x).canLay0 = true) : SeqAt.shaped (.list (ss.map PyData.str)) = true := by
  unfold SeqAt.shaped
  rw [Bool.and_eq_true]
  refine ⟨by rw [PyData.canLay0]; exact layStrs h, decide_eq_true ?_⟩
  rw [PyData.depth, depthStrs]
  decide
theorem nilEq (ss : List Str) : PyData.eqv (.list (ss.map PyData.str)) (.list []) = ss.isEmpty := by
  cases ss with
  | nil => rfl
  | cons x r => rfl
def spShuf (K : PySem.W.Frag) : Sp := fun vs H Q _ => ∃ (d w c l : Addr) (n : Nat) (xs : List Str), vs = [.ref d, .ref l] ∧ Draw.Stock H d w c n ∧ n + xs.length < 1000000 ∧ SqL K H l (xs.map V.str) ∧ l ≠ w ∧ xs.length < 1000 ∧ (∀ x ∈ xs, (PyData.str x).canLay0 = true) ∧
  ∀ (H' : Hp) (p : Addr) (ys : List Str), ys.Perm xs → Draw.But d w H H' → Draw.Stock H' d w c (n + xs.length) → H p = none → H' p = some (.lst (ys.map V.str)) → Q (.ref p) H'
section
variable {P : Program} {w : World} {K : PySem.W.Frag} {mg : Str → Option Value} {base : Heap}
theorem getStr {ls : List Str} {k : Nat} (h : k < ls.length) : (ls.map V.str)[k]? = some (.str ls[k]) := by
  rw [List.getElem?_map, List.getElem?_eq_getElem h]
  rfl
theorem eraseStr {ls : List Str} {k : Nat} : (ls.map V.str).eraseIdx k = (ls.eraseIdx k).map V.str := by
  induction ls generalizing k with
  | nil => rfl
  | cons x r ih =>
    cases k with
    | zero => rfl
    | succ k =>
      rw [List.map_cons, List.eraseIdx_cons_succ, List.eraseIdx_cons_succ, List.map_cons, ih]
theorem permErase {α : Type} : ∀ (l : List α) (k : Nat) (h : k < l.length), (l[k] :: l.eraseIdx k).Perm l
  | x :: r, 0, _ => List.Perm.refl _
  | x :: r, k + 1, h => by
    have h' : k < r.length := by simpa using h
    show (r[k] :: x :: r.eraseIdx k).Perm (x :: r)
    exact (List.Perm.swap x r[k] _).trans ((permErase r k h').cons x)
theorem seqIx {x : Int} {m : Nat} (h0 : 0 ≤ x) (h1 : x < m) : seqIndex? x m = some x.toNat := by
  unfold seqIndex?
  have a : ¬ x < 0 := by omega
  have b : (0 : Int) ≤ x ∧ x < m := ⟨h0, h1⟩
  simp [a, h0, h1]
theorem ok_shuf {f fT : Addr} {fd fdT : FuncData} (F : Fun K "_law_shuffled" "_law_shuffled" sShuf f fd) (B : Draw.Bare mg) (mL : mg "list" = none) (GT : FnOk P w K mg base CX0 2 fT fdT ["draw", "size"] Draw.spTake) (gT : mg "_law_take" = some (.ref fT)) (kT : PySem.W.keepIn K (.ref fT) = true) (bT : Binds K fdT ["draw", "size"] []) :
    FnOk P w K mg base CX0 3 f fd ["draw", "some"] (spShuf K) := by
  refine F.ok scShuf (fun vs H Q E h => ?_) (fun cdv A outer s H vs Q E hr h => ?_)
  · obtain ⟨d, w, c, l, n, xs, rfl, _⟩ := h
    rfl
  · obtain ⟨d, w, c, l, n, xs, rfl, S, hn, hl, nw, l1, lay, k⟩ := h
    refine ⟨_, pss_cons (ps_par (i := 2) (j := 3) (by rfl) scShuf.nd rfl rfl (by decide) rfl rfl (pa_cons (pe_callTy call_list_of (by rfl) mL (by decide +kernel) (pa_cons (pv 1) pa_nil)) (pa_cons (pe_lst pa_nil) pa_nil)) (by rfl))
      (pss_cons (ps_while PassesOwn.never (pt_cmpR (op_neD hr.units) (pv 2) (pe_lst pa_nil) (nomark _))
        (pss_one (ps_expr (pe_bm PySem.F.plainAttrs_list PySem.F.slot_list_append PySem.F.type_list_append mt_append (pv 3) (pa_cons (pe_bm PySem.F.plainAttrs_list PySem.F.slot_list_pop PySem.F.type_list_pop mt_popAt (pv 2)
          (pa_cons (pe_call GT hr rfl gT kT bT .nil pass0 (pa_cons (pv 0) (pa_cons (pe_callB call_len_seq (by rfl) B.len PySem.boot_len (pa_cons (pv 2) pa_nil)) pa_nil))) pa_nil)) pa_nil)) (by rfl))))
      (pss_one (ps_ret (pv 3)))), ?_⟩
    have hne := Draw.stockNe S
    obtain ⟨r0, t0, _, _, _, hd⟩ := S.own
    obtain ⟨ws0, _, _, hw⟩ := S.wide
    obtain ⟨cs0, _, _, hc⟩ := S.cells
    refine ⟨_, rfl, l, _, rfl, .inl hl, fun a ha => ⟨Nat.zero_le _, fun b hb => ⟨_, _, rfl, ?_⟩⟩⟩
    have ba : b ≠ a := fun q => by rw [q, upd_same] at hb; cases hb
    have hb0 : H b = none := by rw [upd_ne ba] at hb; exact hb
    have da : d ≠ a := fun q => by rw [← q, hd] at ha; cases ha
    have db : d ≠ b := fun q => by rw [← q, hd] at hb0; cases hb0
    have wa : w ≠ a := fun q => by rw [← q, hw] at ha; cases ha
    have wb : w ≠ b := fun q => by rw [← q, hw] at hb0; cases hb0
    have ca : c ≠ a := fun q => by rw [← q, hc] at ha; cases ha
    have cb : c ≠ b := fun q => by rw [← q, hc] at hb0; cases hb0
    have stay : ∀ {m : Nat} {HH : Hp} {p : Addr} {o : HO}, p ≠ d → p ≠ w → p ≠ c → Draw.Stock HH d w c m → Draw.Stock (upd HH p o) d w c m := fun pd pw pc st => by
      obtain ⟨⟨r, t, x1, x2, x3, x4⟩, ⟨ws, y1, y2, y3⟩, ⟨cs, z1, z2, z3⟩, ap⟩ := st
      exact ⟨⟨r, t, x1, x2, x3, by rw [upd_ne (Ne.symm pd)]; exact x4⟩, ⟨ws, y1, y2, by rw [upd_ne (Ne.symm pw)]; exact y3⟩, ⟨cs, z1, z2, by rw [upd_ne (Ne.symm pc)]; exact z3⟩, ap⟩
    have free : ∀ {HH : Hp} {p : Addr} {o : HO}, H p = none → Draw.But d w H HH → Draw.But d w H (upd HH p o) := fun hp bt x o xd xw e => by
      rw [upd_ne (ne_of_none e hp)]
      exact bt x o xd xw e
    refine ⟨fun m σ HH => ∃ ls fs : List Str, σ = [some (.ref d), some (.ref l), some (.ref a), some (.ref b)] ∧ m = ls.length ∧ HH a = some (.lst (ls.map V.str)) ∧ HH b = some (.lst (fs.map V.str)) ∧ (fs ++ ls).Perm xs ∧ Draw.Stock HH d w c (n + fs.length) ∧ Draw.But d w H HH,
      ⟨xs.length, xs, [], rfl, rfl, by rw [upd_ne (Ne.symm ba), upd_same], upd_same, List.Perm.refl _, stay (Ne.symm db) (Ne.symm wb) (Ne.symm cb) (stay (Ne.symm da) (Ne.symm wa) (Ne.symm ca) S), free hb0 (free ha fun _ _ _ _ e => e)⟩, ?_⟩
    rintro m σ HH ⟨ls, fs, rfl, rfl, hA, hB, pm, st, bt⟩
    have len : fs.length + ls.length = xs.length := by rw [← List.length_append]; exact pm.length_eq
    have layL : ∀ x ∈ ls, (PyData.str x).canLay0 = true := fun x m => lay x (pm.mem_iff.mp (List.mem_append_right _ m))
    refine ⟨_, rfl, Nat.zero_le _, fun q hq => ?_⟩
    have qa : a ≠ q := fun z => by rw [← z, hA] at hq; cases hq
    have qb : b ≠ q := fun z => by rw [← z, hB] at hq; cases hq
    have qd : q ≠ d := fun z => by obtain ⟨_, _, _, _, _, e⟩ := st.own; rw [z, e] at hq; cases hq
    have qw : q ≠ w := fun z => by obtain ⟨_, _, _, e⟩ := st.wide; rw [z, e] at hq; cases hq
    have qc : q ≠ c := fun z => by obtain ⟨_, _, _, e⟩ := st.cells; rw [z, e] at hq; cases hq
    have hA1 : upd HH q (.lst []) a = some (.lst (ls.map V.str)) := by rw [upd_ne qa]; exact hA
    have hB1 : upd HH q (.lst []) b = some (.lst (fs.map V.str)) := by rw [upd_ne qb]; exact hB
    have st1 : Draw.Stock (upd HH q (.lst [])) d w c (n + fs.length) := stay qd qw qc st
    have bt1 : Draw.But d w H (upd HH q (.lst [])) := fun x o xd xw e => by
      have e' := bt x o xd xw e
      rw [upd_ne (ne_of_none e' hq)]
      exact e'
    refine ⟨.list (ls.map PyData.str), .list [], .lst (.inl (.inl hA1)) (dpStrs ls), .lst (.inl (.inl upd_same)) .nil, shStrs layL, rfl, _, rfl, ?_⟩
    rw [nilEq]
    generalize upd HH q (.lst []) = Z at hA1 hB1 st1 bt1 ⊢
    match ls, hA1, pm, len with
    | [], hA1, pm, len =>
      show tRet (tVar 3) _ _ _
      refine ⟨_, rfl, ?_⟩
      have lf : n + fs.length = n + xs.length := by rw [← len] <;> rfl
      rw [List.append_nil] at pm
      rw [lf] at st1
      exact k Z b fs pm bt1 st1 hb0 hB1
    | y :: r, hA1, pm, len =>
      show ∃ N : L2.St → Hp → Prop, _
      rw [List.length_cons] at len
      refine ⟨fun σ' H' => ∃ ls fs : List Str, σ' = [some (.ref d), some (.ref l), some (.ref a), some (.ref b)] ∧ ls.length = r.length ∧ H' a = some (.lst (ls.map V.str)) ∧ H' b = some (.lst (fs.map V.str)) ∧ (fs ++ ls).Perm xs ∧ Draw.Stock H' d w c (n + fs.length) ∧ Draw.But d w H H',
        fun σ' H' ⟨ls, fs, h1, h2, h3⟩ => ⟨ls.length, by rw [h2, List.length_cons]; omega, ls, fs, h1, rfl, h3⟩, ?_⟩
      refine ⟨_, rfl, .inl ⟨rfl, _, .inl (.inl hB1)⟩, _, rfl, .inl ⟨rfl, _, .inl (.inl hA1)⟩, _, rfl, _, rfl, a, _, rfl, .inl (.inl (.inl hA1)), d, w, c, n + fs.length, _, rfl, st1, by omega, by rw [List.length_map, List.length_cons]; omega, by rw [List.length_map, List.length_cons]; omega, fun H2 x b2 st2 x0 x1 => ?_⟩
      rw [List.length_map] at x1
      have hA2 : H2 a = some (.lst ((y :: r).map V.str)) := b2 a _ (Ne.symm da) (Ne.symm wa) hA1
      have hB2 : H2 b = some (.lst (fs.map V.str)) := b2 b _ (Ne.symm db) (Ne.symm wb) hB1
      have hk : x.toNat < (y :: r).length := by omega
      have lr : (y :: r).length = r.length + 1 := rfl
      have six : seqIndex? x ((y :: r).map V.str).length = some x.toNat := seqIx x0 (by rw [List.length_map]; omega)
      refine ⟨a, _, x, x.toNat, _, rfl, rfl, hA2, by omega, by omega, six, getStr hk, b, _, _, rfl, rfl, by rw [upd_ne ba]; exact hB2, by rw [List.length_map]; exact Nat.lt_of_lt_of_le (m := 1000) (by omega) (by decide), ?_⟩
      refine ⟨(y :: r).eraseIdx x.toNat, fs ++ [(y :: r)[x.toNat]], rfl, ?_, ?_, ?_, ?_, ?_, ?_⟩
      · rw [List.length_eraseIdx_of_lt hk]
        rfl
      · rw [upd_ne (Ne.symm ba), upd_same, eraseStr]
      · rw [upd_same, List.map_append]
        rfl
      · refine List.Perm.trans ?_ pm
        rw [List.append_assoc]
        refine List.Perm.append_left _ ?_
        exact permErase (y :: r) x.toNat hk
      · refine stay (Ne.symm db) (Ne.symm wb) (Ne.symm cb) (stay (Ne.symm da) (Ne.symm wa) (Ne.symm ca) ?_)
        rw [List.length_append]
        exact st2
      · refine free hb0 (free ha fun x o xd xw e => b2 x o xd xw (bt1 x o xd xw e))
end
end Sf

namespace Sh2
open PySem PySem.Spec PyProof.Rows L2
/-! _law_known_sheet, _law_sheet. -/
abbrev sKnown : Stmt := Draw.top 31
abbrev sNotes : Stmt := Draw.top 30
theorem scKnown : FnScope ["draw", "way", "must", "verbs", "replies", "note"] ["draw"] (defScope sKnown) := ⟨rfl, rfl, rfl, by decide +kernel, rfl, by decide +kernel, by decide +kernel⟩
theorem scNotes : FnScope [] [] (defScope sNotes) := ⟨rfl, rfl, rfl, by decide +kernel, rfl, by decide +kernel, by decide +kernel⟩
def notes : List Str := ["begin", "yes", "no", "ready", "agreed", "refused"]
def spNotes : Sp := fun vs H Q _ => vs = [] ∧ ∀ p, H p = none → Q (.ref p) (upd H p (.lst (notes.map V.str)))
section
variable {P : Program} {w : World} {K : PySem.W.Frag} {mg : Str → Option Value} {base : Heap}
theorem ok_notes {f : Addr} {fd : FuncData} (F : Fun K "_law_notes" "_law_notes" sNotes f fd) : FnOk P w K mg base CX0 1 f fd [] spNotes := by
  refine F.ok scNotes (fun vs H Q E h => by rw [h.1] <;> rfl) (fun cdv A outer s H vs Q E hr h => ?_)
  obtain ⟨rfl, k⟩ := h
  exact ⟨_, pss_one (ps_ret (pe_lst (pa_cons pe_str (pa_cons pe_str (pa_cons pe_str (pa_cons pe_str (pa_cons pe_str (pa_cons pe_str pa_nil)))))))), (by decide : 6 ≤ sizeLine), fun p hp => k p hp⟩
def wordsOk (ws : List Str) : Prop := ws.length = 6 ∧ ∀ s ∈ ws, s = "none" ∨ s = "lazy" ∨ s = "forced"
def ansL : List (List Str) := [[], ["no"], ["yes"], ["no", "yes"]]
def preL : List Str := ["no", "wait", "yes"]
/-- a sheet at r, its words at wA -/
structure SheetAt (K : PySem.W.Frag) (H : Hp) (r wA : Addr) (ws as : List Str) (pp : Str) : Prop where
  top : ∃ tA : Addr, H r = some (.dK [(Sum.inr "words", .ref wA), (Sum.inr "answers", .ref tA), (Sum.inr "presume", .str pp)]) ∧ SqT K H tA (as.map V.str)
  words : H wA = some (.dK ((notes.map Sum.inr).zip (ws.map V.str)))
  ok : wordsOk ws
  ans : as ∈ ansL
  pre : pp ∈ preL
def spKnown (K : PySem.W.Frag) : Sp := fun vs H Q _ => ∃ (d w c : Addr) (n : Nat), vs = [.ref d] ∧ Draw.Stock H d w c n ∧ n < 900000 ∧
  ∀ (H' : Hp) (r wA : Addr) (ws as : List Str) (pp : Str), Draw.But d w H H' → Draw.Stock H' d w c (n + 1) → H r = none → H wA = none → r ≠ wA → SheetAt K H' r wA ws as pp → Q (.ref r) H'
theorem keepT {HH : Hp} {D q p : Addr} {xs zs : List V} {o o' : HO} (hD : HH D = some (.lst zs)) (hq : HH q = none) (h : SqT K HH p xs) : SqT K (upd (upd HH q o) D o') p xs := by
  have st : ∀ u, (∀ zs, u ≠ HO.lst zs) → HH p = some u → upd (upd HH q o) D o' p = some u := fun u nu e => by
    have n1 : p ≠ D := fun z => by rw [z, hD] at e; cases e; exact nu _ rfl
    rw [upd_ne n1, upd_ne (ne_of_none e hq)]
    exact e
  rcases h with (h | ⟨u, h⟩) | h
  · exact .inl (.inl (st _ (fun _ z => by cases z) h))
  · exact .inl (.inr ⟨u, st _ (fun _ z => by cases z) h⟩)
  · exact .inr h
theorem pairedApp {α β : Type} {R : α → β → Prop} : ∀ {as cs : List α} {bs ds : List β}, Paired R as bs → Paired R cs ds → Paired R (as ++ cs) (bs ++ ds)
  | _, _, _, _, .nil, q => q
  | _, _, _, _, .cons a b, q => .cons a (pairedApp b q)
theorem stockSame {H H' : Hp} {d w c : Addr} {n : Nat} (s : Same H H') (S : Draw.Stock H d w c n) : Draw.Stock H' d w c n := by
  obtain ⟨⟨r, t, x1, x2, x3, x4⟩, ⟨ws, y1, y2, y3⟩, ⟨cs, z1, z2, z3⟩, ap⟩ := S
  exact ⟨⟨r, t, x1, x2, x3, s _ _ x4⟩, ⟨ws, y1, y2, s _ _ y3⟩, ⟨cs, z1, z2, s _ _ z3⟩, ap⟩
theorem merge6 : ∀ {ws : List Str}, ws.length = 6 → mergeK [] (((notes.map Sum.inr).zip (ws.map V.str)) : List (Key × V)) = (notes.map Sum.inr).zip (ws.map V.str)
  | [_, _, _, _, _, _], _ => rfl
theorem ok_known {f fT fN : Addr} {fd fdT fdN : FuncData} (F : Fun K "_law_known_sheet" "_law_known_sheet" sKnown f fd) (B : Draw.Bare mg) (mD : mg "dict" = none) (GT : FnOk P w K mg base CX0 2 fT fdT ["draw", "size"] Draw.spTake) (gT : mg "_law_take" = some (.ref fT)) (kT : PySem.W.keepIn K (.ref fT) = true) (bT : Binds K fdT ["draw", "size"] [])
    (GN : FnOk P w K mg base CX0 1 fN fdN [] spNotes) (gN : mg "_law_notes" = some (.ref fN)) (kN : PySem.W.keepIn K (.ref fN) = true) (bN : Binds K fdN [] []) :
    FnOk P w K mg base CX0 3 f fd ["draw"] (spKnown K) := by
  refine F.ok scKnown (fun vs H Q E h => ?_) (fun cdv A outer s H vs Q E hr h => ?_)
  · obtain ⟨d, w, c, n, rfl, _⟩ := h
    rfl
  · obtain ⟨d, w, c, n, rfl, S, hn, k⟩ := h
    refine ⟨_, pss_cons (ps_set (i := 1) scKnown.nd rfl (Or.inl rfl) (pe_call GT hr rfl gT kT bT .nil pass0 (pa_cons (pv 0) (pa_cons pe_int pa_nil))))
      (pss_cons (ps_set (i := 2) scKnown.nd rfl (Or.inr rfl) (pe_op op_cat (pe_ix ix_list (pe_lst (pa_cons (pe_lst (pa_cons pe_str pa_nil)) (pa_cons (pe_lst (pa_cons pe_str (pa_cons pe_str pa_nil))) (pa_cons (pe_lst (pa_cons pe_str (pa_cons pe_str (pa_cons pe_str (pa_cons pe_str pa_nil))))) pa_nil)))) (pv 1) (fun _ _ => rfl)) (pe_lst (pa_cons pe_str (pa_cons pe_str pa_nil)))))
      (pss_cons (ps_set (i := 3) scKnown.nd rfl (Or.inl rfl) (pe_callTy (call_dictP (by rfl)) (by rfl) mD (by decide +kernel) (pa_cons
        (pe_lc (own := [("note", 5)]) (g := gName 5) rfl scKnown.nd (pi_list (pe_call0 GN (hr.mono (by decide)) rfl gN kN bN .nil pass0)) (blkOk_by (N := ["draw", "way", "must", "verbs", "replies", "note"]) (sc := defScope sKnown) (by decide +kernel))
          (fun _ _ _ _ _ => pg_name (i := 5) scKnown.nd rfl (Or.inl rfl)) (fun _ _ _ _ _ => pts_nil)
          (fun _ _ _ _ _ => pe_tup (pa_cons (pv 5) (pa_cons (pe_ifExp (pt_cmpR (show OpR _ (compareOp .In) (rIn K false) from op_in_seq) (pv 5) (pv 2) (by rfl)) pe_str pe_str) pa_nil)))) pa_nil)))
      (pss_cons (ps_set (i := 4) scKnown.nd rfl (Or.inl rfl) (pe_ix ix_list (pe_lst (pa_cons (pe_tup (pa_cons pe_str pa_nil)) (pa_cons (pe_tup (pa_cons pe_str pa_nil)) (pa_cons (pe_tup (pa_cons pe_str (pa_cons pe_str pa_nil))) pa_nil)))) (pv 1) (fun _ _ => rfl)))
      (pss_one (ps_ret (pe_disp (pps_cons pe_str (pv 3) (pps_cons pe_str (pv 4) (pps_cons pe_str (pe_ix ix_list (pe_lst (pa_cons pe_str (pa_cons pe_str (pa_cons pe_str pa_nil)))) (pv 1) (fun _ _ => rfl)) pps_nil))) (by rfl) (by rfl) (fun z => by cases z) (by decide))))))), ?_⟩
    have hne := Draw.stockNe S
    refine ⟨_, rfl, d, w, c, n, 3, rfl, S, by omega, by decide, by decide, fun H1 x bt S1 x0 x1 => ?_⟩
    refine ⟨(by decide : 1 ≤ sizeLine), fun l0 f0 => ⟨(by decide : 2 ≤ sizeLine), fun l1 f1 => ⟨(by decide : 4 ≤ sizeLine), fun l2 f2 => ⟨(by decide : 3 ≤ sizeLine), fun L fL => ⟨_, rfl, ?_⟩⟩⟩⟩⟩
    have s1 : Same H1 (upd H1 l0 (.lst [.str "agreed"])) := Draw.sameNew f0
    have a0 : upd H1 l0 (.lst [.str "agreed"]) l0 = some (.lst ((["agreed"] : List Str).map V.str)) := upd_same
    generalize upd H1 l0 (.lst [.str "agreed"]) = Z0 at s1 a0 f1 f2 fL ⊢
    have s2 : Same Z0 (upd Z0 l1 (.lst [.str "begin", .str "refused"])) := Draw.sameNew f1
    have a1 : upd Z0 l1 (.lst [.str "begin", .str "refused"]) l1 = some (.lst ((["begin", "refused"] : List Str).map V.str)) := upd_same
    generalize upd Z0 l1 (.lst [.str "begin", .str "refused"]) = Z1 at s2 a1 f2 fL ⊢
    have s3 : Same Z1 (upd Z1 l2 (.lst [.str "agreed", .str "begin", .str "no", .str "refused"])) := Draw.sameNew f2
    have a2 : upd Z1 l2 (.lst [.str "agreed", .str "begin", .str "no", .str "refused"]) l2 = some (.lst ((["agreed", "begin", "no", "refused"] : List Str).map V.str)) := upd_same
    generalize upd Z1 l2 (.lst [.str "agreed", .str "begin", .str "no", .str "refused"]) = Z2 at s3 a2 fL ⊢
    have s4 : Same Z2 (upd Z2 L (.lst [.ref l0, .ref l1, .ref l2])) := Draw.sameNew fL
    have aL : upd Z2 L (.lst [.ref l0, .ref l1, .ref l2]) L = some (.lst [.ref l0, .ref l1, .ref l2]) := upd_same
    generalize upd Z2 L (.lst [.ref l0, .ref l1, .ref l2]) = Z3 at s4 aL ⊢
    have way : x = 0 ∨ x = 1 ∨ x = 2 := by omega
    obtain ⟨lk, ms, at_, hk, few⟩ : ∃ (lk : Addr) (ms : List Str), atI [V.ref l0, V.ref l1, V.ref l2] x = some (.ref lk) ∧ Z3 lk = some (.lst (ms.map V.str)) ∧ ms.length ≤ 4 := by
      rcases way with rfl | rfl | rfl
      · exact ⟨l0, _, rfl, s4 _ _ (s3 _ _ (s2 _ _ a0)), by decide⟩
      · exact ⟨l1, _, rfl, s4 _ _ (s3 _ _ a1), by decide⟩
      · exact ⟨l2, _, rfl, s4 _ _ a2, by decide⟩
    have s03 : Same H1 Z3 := ((s1.trans s2).trans s3).trans s4
    refine ⟨L, _, x, .ref lk, rfl, rfl, .inl (.inl aL), at_, ?_⟩
    refine ⟨(by decide : 2 ≤ sizeLine), fun m fm => ⟨lk, m, ms.map V.str, [.str "yes", .str "ready"], rfl, rfl, Draw.sameNew fm _ _ hk, upd_same, ?_, fun mu fu => ?_⟩⟩
    · rw [List.length_map]
      exact Nat.le_trans (m := 6) (Nat.add_le_add_right few 2) (by decide)
    have s5 : Same Z3 (upd (upd Z3 m (.lst [.str "yes", .str "ready"])) mu (.lst (ms.map V.str ++ [.str "yes", .str "ready"]))) := (Draw.sameNew fm).trans (Draw.sameNew fu)
    have am : upd (upd Z3 m (.lst [.str "yes", .str "ready"])) mu (.lst (ms.map V.str ++ [.str "yes", .str "ready"])) mu = some (.lst ((ms ++ (["yes", "ready"] : List Str)).map V.str)) := by
      rw [upd_same, List.map_append]
      rfl
    generalize upd (upd Z3 m (.lst [.str "yes", .str "ready"])) mu (.lst (ms.map V.str ++ [.str "yes", .str "ready"])) = Z4 at s5 am ⊢
    generalize ms ++ (["yes", "ready"] : List Str) = must at am
    have s04 : Same H1 Z4 := s03.trans s5
    refine ⟨rfl, fun p hp => ⟨p, rfl, ⟨_, .inl (.inl upd_same)⟩, fun D hD => ?_⟩⟩
    have s6 : Same Z4 (upd Z4 p (.lst (notes.map V.str))) := Draw.sameNew hp
    have ap : upd Z4 p (.lst (notes.map V.str)) p = some (.lst (notes.map V.str)) := upd_same
    generalize upd Z4 p (.lst (notes.map V.str)) = Z5 at s6 ap hD ⊢
    refine lc_list (K := K) (a := p) (xs := notes.map V.str) (fun i HH => ∃ (ps : List Addr) (ws : List Str), ws.length = i ∧ HH D = some (.lst (ps.map V.ref)) ∧ Paired (fun p kv => SqT K HH p [kV kv.1, kv.2]) ps (((notes.take i).map Sum.inr).zip (ws.map V.str)) ∧ (∀ s ∈ ws, s = "forced" ∨ s = "none") ∧ ps.length = i ∧ Same Z5 HH)
      ⟨[], [], rfl, upd_same, .nil, fun _ h => absurd h (by simp), rfl, Draw.sameNew hD⟩ (fun i HH _ ⟨_, _, _, _, _, _, _, sm⟩ => .inl (.inl (sm _ _ ap))) (fun i y HH hi ⟨ps, ws, l1, hDD, pr, ok, l2, sm⟩ => ?_) (fun HH ⟨ps, ws, l1, hDD, pr, ok, l2, sm⟩ => ?_)
    · obtain ⟨r, hr', rfl⟩ : ∃ r, notes[i]? = some r ∧ y = .str r := by
        rw [List.getElem?_map] at hi
        obtain ⟨r, h1, h2⟩ := Option.map_eq_some_iff.mp hi
        exact ⟨r, h1, h2.symm⟩
      have i6 : i < 6 := (List.getElem?_eq_some_iff.mp hr').1
      have step : ∀ word : Str, (word = "forced" ∨ word = "none") → (2 ≤ sizeLine ∧ ∀ q, HH q = none → ∃ acc, upd HH q (.tup [.str r, .str word]) D = some (HO.lst acc) ∧ acc.length < sizeLine ∧ ∃ (ps : List Addr) (ws : List Str), ws.length = i + 1 ∧ upd (upd HH q (.tup [.str r, .str word])) D (HO.lst (acc ++ [.ref q])) D = some (HO.lst (List.map V.ref ps)) ∧
          Paired (fun p kv => SqT K (upd (upd HH q (.tup [.str r, .str word])) D (HO.lst (acc ++ [.ref q]))) p [kV kv.1, kv.2]) ps (((notes.take (i + 1)).map Sum.inr).zip (ws.map V.str)) ∧ (∀ s ∈ ws, s = "forced" ∨ s = "none") ∧ ps.length = i + 1 ∧ Same Z5 (upd (upd HH q (.tup [.str r, .str word])) D (HO.lst (acc ++ [.ref q])))) := by
        intro word hw
        refine ⟨by decide, fun q hq => ?_⟩
        have qD : D ≠ q := fun z => by rw [← z, hDD] at hq; cases hq
        refine ⟨ps.map V.ref, by rw [upd_ne qD]; exact hDD, by rw [List.length_map, l2]; exact Nat.lt_of_lt_of_le i6 (by decide), ps ++ [q], ws ++ [word], by rw [List.length_append, l1] <;> rfl, by rw [upd_same, List.map_append] <;> rfl, ?_, ?_, by rw [List.length_append, l2] <;> rfl, fun b o e => ?_⟩
        · have tk : notes.take (i + 1) = notes.take i ++ [r] := by
            rw [List.take_add_one, hr'] <;> rfl
          rw [tk, List.map_append, List.map_append, List.zip_append (by rw [List.length_map, List.length_map, l1, List.length_take]; show min i 6 = i; omega)]
          refine pairedApp (L2.Paired.mapP pr fun _ _ z => keepT hDD hq z) (.cons ?_ .nil)
          refine .inl (.inl ?_)
          rw [upd_ne (Ne.symm qD), upd_same]
          rfl
        · intro s hs
          rcases List.mem_append.mp hs with z | z
          · exact ok s z
          · rw [List.mem_singleton.mp z]; exact hw
        · have e' := sm _ _ e
          have bD : b ≠ D := ne_of_none e hD
          rw [upd_ne bD, upd_ne (ne_of_none e' hq)]
          exact e'
      refine ⟨rfl, _, rfl, ?_⟩
      refine ⟨_, rfl, _, rfl, mu, _, rfl, .inl (.inl (.inl (sm _ _ (s6 _ _ am)))), rfl, by rw [List.all_map]; exact List.all_eq_true.mpr fun _ _ => rfl, _, rfl, ?_⟩
      exact ite2 (fun _ => step "forced" (.inl rfl)) (fun _ => step "none" (.inr rfl))
    · rw [List.length_map] at l1 l2 pr
      have l6 : ws.length = 6 := l1
      rw [show notes.take notes.length = notes from rfl] at pr
      refine ⟨D, ps, _, rfl, .inl (.inl hDD), pr, fun pv fv => ?_⟩
      rw [merge6 l6]
      have s7 : Same Z5 (upd HH pv (.dK ((notes.map Sum.inr).zip (ws.map V.str)))) := sm.trans (Draw.sameNew fv)
      have av : upd HH pv (.dK ((notes.map Sum.inr).zip (ws.map V.str))) pv = some (.dK ((notes.map Sum.inr).zip (ws.map V.str))) := upd_same
      have fv1 : H1 pv = none := ((s04.trans s6).trans sm).free fv
      generalize upd HH pv (.dK ((notes.map Sum.inr).zip (ws.map V.str))) = Z6 at s7 av ⊢
      have s17 : Same H1 Z6 := (s04.trans s6).trans s7
      refine ⟨(by decide : 1 ≤ sizeLine), fun t0 g0 => ⟨(by decide : 1 ≤ sizeLine), fun t1 g1 => ⟨(by decide : 2 ≤ sizeLine), fun t2 g2 => ⟨(by decide : 3 ≤ sizeLine), fun L2 gL => ⟨_, rfl, ?_⟩⟩⟩⟩⟩
      have r1 : Same Z6 (upd Z6 t0 (.tup [.str "yes"])) := Draw.sameNew g0
      have b0 : upd Z6 t0 (.tup [.str "yes"]) t0 = some (.tup ((["yes"] : List Str).map V.str)) := upd_same
      generalize upd Z6 t0 (.tup [.str "yes"]) = Y0 at r1 b0 g1 g2 gL ⊢
      have r2 : Same Y0 (upd Y0 t1 (.tup [.str "no"])) := Draw.sameNew g1
      have b1 : upd Y0 t1 (.tup [.str "no"]) t1 = some (.tup ((["no"] : List Str).map V.str)) := upd_same
      generalize upd Y0 t1 (.tup [.str "no"]) = Y1 at r2 b1 g2 gL ⊢
      have r3 : Same Y1 (upd Y1 t2 (.tup [.str "no", .str "yes"])) := Draw.sameNew g2
      have b2 : upd Y1 t2 (.tup [.str "no", .str "yes"]) t2 = some (.tup ((["no", "yes"] : List Str).map V.str)) := upd_same
      generalize upd Y1 t2 (.tup [.str "no", .str "yes"]) = Y2 at r3 b2 gL ⊢
      have r4 : Same Y2 (upd Y2 L2 (.lst [.ref t0, .ref t1, .ref t2])) := Draw.sameNew gL
      have bL : upd Y2 L2 (.lst [.ref t0, .ref t1, .ref t2]) L2 = some (.lst [.ref t0, .ref t1, .ref t2]) := upd_same
      generalize upd Y2 L2 (.lst [.ref t0, .ref t1, .ref t2]) = Y3 at r4 bL ⊢
      have r04 : Same Z6 Y3 := ((r1.trans r2).trans r3).trans r4
      obtain ⟨tk, as, pp, at2, hk2, ha, at3, hp3⟩ : ∃ (tk : Addr) (as : List Str) (pp : Str), atI [V.ref t0, V.ref t1, V.ref t2] x = some (.ref tk) ∧ Y3 tk = some (.tup (as.map V.str)) ∧ as ∈ ansL ∧ atI [V.str "no", V.str "yes", V.str "wait"] x = some (.str pp) ∧ pp ∈ preL := by
        rcases way with rfl | rfl | rfl
        · exact ⟨t0, _, _, rfl, r4 _ _ (r3 _ _ (r2 _ _ b0)), by decide, rfl, by decide⟩
        · exact ⟨t1, _, _, rfl, r4 _ _ (r3 _ _ b1), by decide, rfl, by decide⟩
        · exact ⟨t2, _, _, rfl, r4 _ _ b2, by decide, rfl, by decide⟩
      refine ⟨L2, _, x, .ref tk, rfl, rfl, .inl (.inl bL), at2, ?_⟩
      refine fun r fr => ⟨_, rfl, _, rfl, (by decide : 3 ≤ sizeLine), fun L3 h3 => ⟨_, rfl, L3, _, x, .str pp, rfl, rfl, .inl (.inl upd_same), at3, ?_⟩⟩
      have rL : r ≠ L3 := fun z => by rw [← z, upd_same] at h3; cases h3
      refine ⟨by rw [upd_ne rL, upd_same], [(Sum.inr "words", .ref pv), (Sum.inr "answers", .ref tk), (Sum.inr "presume", .str pp)], rfl, (by show 3 ≤ 15; decide), ?_⟩
      have fin : Same Y3 (upd (upd (upd Y3 r (.dK [])) L3 (.lst [.str "no", .str "yes", .str "wait"])) r (.dK (mergeK [] [(Sum.inr "words", .ref pv), (Sum.inr "answers", .ref tk), (Sum.inr "presume", .str pp)]))) := fun b o e => by
        have n1 : b ≠ r := ne_of_none e fr
        have n2 : b ≠ L3 := ne_of_none (by rw [upd_ne n1]; exact e) h3
        rw [upd_ne n1, upd_ne n2, upd_ne n1]
        exact e
      have all : Same H1 (upd (upd (upd Y3 r (.dK [])) L3 (.lst [.str "no", .str "yes", .str "wait"])) r (.dK (mergeK [] [(Sum.inr "words", .ref pv), (Sum.inr "answers", .ref tk), (Sum.inr "presume", .str pp)]))) := (s17.trans r04).trans fin
      have old : ∀ {p : Addr}, p ≠ d → p ≠ w → H1 p = none → H p = none := fun {p} pd pw e => by
        cases q : H p with
        | none => rfl
        | some o => rw [bt p o pd pw q] at e; cases e
      have notZ : ∀ {p : Addr}, H1 p = none → p ≠ d ∧ p ≠ w := fun {p} e => by
        obtain ⟨_, _, _, _, _, z1⟩ := S1.own
        obtain ⟨_, _, _, z2⟩ := S1.wide
        exact ⟨fun z => (by rw [z, z1] at e; cases e), fun z => (by rw [z, z2] at e; cases e)⟩
      have fr1 : H1 r = none := (s17.trans r04).free fr
      refine k _ r pv ws as pp (fun b o bd bw e => all _ _ (bt b o bd bw e)) (stockSame all S1) (old (notZ fr1).1 (notZ fr1).2 fr1) (old (notZ fv1).1 (notZ fv1).2 fv1) (fun z => ?_) ⟨⟨tk, upd_same, ?_⟩, fin _ _ (r04 _ _ av), ⟨l6, fun s hs => ?_⟩, ha, hp3⟩
      · have := r04 _ _ av
        rw [← z, fr] at this
        cases this
      · exact .inl (.inl (fin _ _ hk2))
      · rcases ok s hs with z | z
        · exact .inr (.inr z)
        · exact .inl z
abbrev sSheet : Stmt := Draw.top 32
theorem scSheet : FnScope ["draw", "lazies", "found", "note", "turn"] ["draw", "lazies"] (defScope sSheet) := ⟨rfl, rfl, rfl, by decide +kernel, rfl, by decide +kernel, by decide +kernel⟩
def spSheet (K : PySem.W.Frag) : Sp := fun vs H Q _ => ∃ (d w c : Addr) (n : Nat) (z : Int), vs = [.ref d, .int z] ∧ Draw.Stock H d w c n ∧ n < 900000 ∧ 0 ≤ z ∧ z < 1000 ∧
  ∀ (H' : Hp) (r wA : Addr) (ws as : List Str) (pp : Str), Draw.But d w H H' → Draw.Stock H' d w c (n + 22) → H r = none → H wA = none → r ≠ wA → SheetAt K H' r wA ws as pp → Q (.ref r) H'
theorem putW : ∀ {ws : List Str} {note word : Str}, wordsOk ws → note ∈ notes → (word = "none" ∨ word = "lazy" ∨ word = "forced") → ∃ ws', wordsOk ws' ∧ putK ((notes.map Sum.inr).zip (ws.map V.str) : List (Key × V)) (Sum.inr note) (.str word) = (notes.map Sum.inr).zip (ws'.map V.str)
  | [a, b, c, d, e, f], note, word, ⟨_, ok⟩, hn, hw => by
    have fin : ∀ ws' : List Str, ws'.length = 6 → (∀ s ∈ ws', s = word ∨ s ∈ [a, b, c, d, e, f]) → wordsOk ws' := fun ws' l h => ⟨l, fun s hs => by
      rcases h s hs with q | q
      · rw [q]; exact hw
      · exact ok s q⟩
    simp only [notes, List.mem_cons, List.not_mem_nil, or_false] at hn
    rcases hn with rfl | rfl | rfl | rfl | rfl | rfl
    · exact ⟨[word, b, c, d, e, f], fin _ rfl (by simp), rfl⟩
    · exact ⟨[a, word, c, d, e, f], fin _ rfl (by simp), rfl⟩
    · exact ⟨[a, b, word, d, e, f], fin _ rfl (by simp), rfl⟩
    · exact ⟨[a, b, c, word, e, f], fin _ rfl (by simp), rfl⟩
    · exact ⟨[a, b, c, d, word, f], fin _ rfl (by simp), rfl⟩
    · exact ⟨[a, b, c, d, e, word], fin _ rfl (by simp), rfl⟩
theorem upT {HH : Hp} {D p : Addr} {xs : List V} {kvs : List (Key × V)} {o' : HO} (hD : HH D = some (.dK kvs)) (h : SqT K HH p xs) : SqT K (upd HH D o') p xs := by
  have st : ∀ u, (∀ z, u ≠ HO.dK z) → HH p = some u → upd HH D o' p = some u := fun u nu e => by
    have n1 : p ≠ D := fun z => by rw [z, hD] at e; cases e; exact nu _ rfl
    rw [upd_ne n1]
    exact e
  rcases h with (h | ⟨u, h⟩) | h
  · exact .inl (.inl (st _ (fun _ z => by cases z) h))
  · exact .inl (.inr ⟨u, st _ (fun _ z => by cases z) h⟩)
  · exact .inr h
theorem SheetAt.but {H H' : Hp} {d w c r wA : Addr} {ws as : List Str} {pp : Str} {m : Nat} (b : Draw.But d w H H') (S : Draw.Stock H d w c m) (n1 : r ≠ d ∧ r ≠ w) (n2 : wA ≠ d ∧ wA ≠ w) (s : SheetAt K H r wA ws as pp) : SheetAt K H' r wA ws as pp := by
  obtain ⟨⟨tA, h1, h2⟩, h3, h4, h5, h6⟩ := s
  obtain ⟨_, _, _, _, _, hd⟩ := S.own
  obtain ⟨_, _, _, hw⟩ := S.wide
  exact ⟨⟨tA, b _ _ n1.1 n1.2 h1, b.tup hd hw h2⟩, b _ _ n2.1 n2.2 h3, h4, h5, h6⟩
theorem SheetAt.same {H H' : Hp} {r wA : Addr} {ws as : List Str} {pp : Str} (b : Same H H') (s : SheetAt K H r wA ws as pp) : SheetAt K H' r wA ws as pp := by
  obtain ⟨⟨tA, h1, h2⟩, h3, h4, h5, h6⟩ := s
  refine ⟨⟨tA, b _ _ h1, ?_⟩, b _ _ h3, h4, h5, h6⟩
  rcases h2 with (h | ⟨u, h⟩) | h
  · exact .inl (.inl (b _ _ h))
  · exact .inl (.inr ⟨u, b _ _ h⟩)
  · exact .inr h
theorem SheetAt.word {H : Hp} {r wA : Addr} {ws as : List Str} {pp note word : Str} (ne : r ≠ wA) (s : SheetAt K H r wA ws as pp) (hn : note ∈ notes) (hw : word = "none" ∨ word = "lazy" ∨ word = "forced") :
    ∃ ws', SheetAt K (upd H wA (.dK (putK ((notes.map Sum.inr).zip (ws.map V.str)) (Sum.inr note) (.str word)))) r wA ws' as pp := by
  obtain ⟨⟨tA, h1, h2⟩, h3, h4, h5, h6⟩ := s
  obtain ⟨ws', ok, e⟩ := putW h4 hn hw
  exact ⟨ws', ⟨⟨tA, by rw [upd_ne ne]; exact h1, upT h3 h2⟩, by rw [upd_same, e], ok, h5, h6⟩⟩
theorem SheetAt.setAns {H : Hp} {r wA tB : Addr} {ws as bs : List Str} {pp : Str} (ne : r ≠ wA) (s : SheetAt K H r wA ws as pp) (hb : bs ∈ ansL) (hT : SqT K H tB (bs.map V.str)) :
    ∃ kvs, H r = some (.dK kvs) ∧ kvs.length < sizeLine ∧ SheetAt K (upd H r (.dK (putK kvs (Sum.inr "answers") (.ref tB)))) r wA ws bs pp := by
  obtain ⟨⟨tA, h1, h2⟩, h3, h4, h5, h6⟩ := s
  exact ⟨_, h1, (by show 3 < sizeLine; decide), ⟨⟨tB, upd_same, upT h1 hT⟩, by rw [upd_ne (Ne.symm ne)]; exact h3, h4, hb, h6⟩⟩
theorem SheetAt.setPre {H : Hp} {r wA : Addr} {ws as : List Str} {pp qq : Str} (ne : r ≠ wA) (s : SheetAt K H r wA ws as pp) (hb : qq ∈ preL) :
    ∃ kvs, H r = some (.dK kvs) ∧ kvs.length < sizeLine ∧ SheetAt K (upd H r (.dK (putK kvs (Sum.inr "presume") (.str qq)))) r wA ws as qq := by
  obtain ⟨⟨tA, h1, h2⟩, h3, h4, h5, h6⟩ := s
  exact ⟨_, h1, (by show 3 < sizeLine; decide), ⟨⟨tA, upd_same, upT h1 h2⟩, by rw [upd_ne (Ne.symm ne)]; exact h3, h4, h5, hb⟩⟩
theorem pickRd {HH : Hp} {d w c l : Addr} {m : Nat} {xs : List V} {Q : VK} {E : XK} (st : Draw.Stock HH d w c m) (hm : m < 1000000) (hl : HH l = none) (h0 : 0 < xs.length) (h1 : xs.length < 1000) (k : ∀ (H' : Hp) (v : V), v ∈ xs → Draw.But d w HH H' → Draw.Stock H' d w c (m + 1) → Q v H') : Draw.spPick K [.ref d, .ref l] (upd HH l (.lst xs)) Q E := by
  have lw : l ≠ w := fun z => by
    obtain ⟨_, _, _, e⟩ := st.wide
    rw [z, e] at hl
    cases hl
  exact ⟨d, w, c, l, m, xs, rfl, stockSame (Draw.sameNew hl) st, hm, .inl (.inl (.inl upd_same)), lw, h0, h1, fun H' i x hx bt st' => k H' x (List.mem_of_getElem? hx) (fun b o bd bw e => bt b o bd bw (Draw.sameNew hl _ _ e)) st'⟩
theorem ok_sheet {f fT fN fP fS fG : Addr} {fd fdT fdN fdP fdS fdG : FuncData} (F : Fun K "_law_sheet" "_law_sheet" sSheet f fd) (B : Draw.Bare mg) (GT : FnOk P w K mg base CX0 2 fT fdT ["draw", "size"] Draw.spTake) (gT : mg "_law_take" = some (.ref fT)) (kT : PySem.W.keepIn K (.ref fT) = true) (bT : Binds K fdT ["draw", "size"] [])
    (GN : FnOk P w K mg base CX0 1 fN fdN [] spNotes) (gN : mg "_law_notes" = some (.ref fN)) (kN : PySem.W.keepIn K (.ref fN) = true) (bN : Binds K fdN [] [])
    (GP : FnOk P w K mg base CX0 3 fP fdP ["draw", "some"] (Draw.spPick K)) (gP : mg "_law_pick" = some (.ref fP)) (kP : PySem.W.keepIn K (.ref fP) = true) (bP : Binds K fdP ["draw", "some"] [])
    (GS : FnOk P w K mg base CX0 3 fS fdS ["draw", "some"] (Sf.spShuf K)) (gS : mg "_law_shuffled" = some (.ref fS)) (kS : PySem.W.keepIn K (.ref fS) = true) (bS : Binds K fdS ["draw", "some"] [])
    (GG : FnOk P w K mg base CX0 3 fG fdG ["draw"] (spKnown K)) (gG : mg "_law_known_sheet" = some (.ref fG)) (kG : PySem.W.keepIn K (.ref fG) = true) (bG : Binds K fdG ["draw"] []) :
    FnOk P w K mg base CX0 4 f fd ["draw", "lazies"] (spSheet K) := by
  refine F.ok scSheet (fun vs H Q E h => ?_) (fun cdv A outer s H vs Q E hr h => ?_)
  · obtain ⟨d, w, c, n, z, rfl, _⟩ := h
    rfl
  · obtain ⟨d, w, c, n, z, rfl, S, hn, z0, z1, k⟩ := h
    refine ⟨_, pss_cons (ps_set (i := 2) scSheet.nd rfl (Or.inl rfl) (pe_call GG hr rfl gG kG bG .nil pass0 (pa_cons (pv 0) pa_nil)))
      (C8.pss_cut (ps_if (pt_cmpR op_eq (pe_call GT (hr.mono (by decide)) rfl gT kT bT .nil pass0 (pa_cons (pv 0) (pa_cons pe_int pa_nil))) pe_int (nomark _))
          (pss_cons (ps_for PassesOwn.never rfl (pi_list (pe_call0 GN (hr.mono (by decide)) rfl gN kN bN .nil pass0)) (pg_name (i := 3) scSheet.nd rfl (Or.inl rfl))
            (pss_one (ps_dput (hu_of hr) (pe_dget (hu_of hr) (pv 2) pe_str (fun _ _ => rfl)) (pv 3) (pe_call GP hr rfl gP kP bP .nil pass0 (pa_cons (pv 0) (pa_cons (pe_lst (pa_cons pe_str (pa_cons pe_str pa_nil))) pa_nil))) rfl)))
          (pss_cons (ps_dput (hu_of hr) (pv 2) pe_str (pe_call GP hr rfl gP kP bP .nil pass0 (pa_cons (pv 0) (pa_cons (pe_lst (pa_cons (pe_tup pa_nil) (pa_cons (pe_tup (pa_cons pe_str pa_nil)) (pa_cons (pe_tup (pa_cons pe_str pa_nil)) (pa_cons (pe_tup (pa_cons pe_str (pa_cons pe_str pa_nil))) pa_nil))))) pa_nil))) rfl)
          (pss_one (ps_dput (hu_of hr) (pv 2) pe_str (pe_call GP hr rfl gP kP bP .nil pass0 (pa_cons (pv 0) (pa_cons (pe_lst (pa_cons pe_str (pa_cons pe_str (pa_cons pe_str pa_nil)))) pa_nil))) rfl)))) pss_nil)
      (pss_cons (ps_for PassesOwn.never rfl (pi_range1 (by rfl) B.range (pa_cons (pe_call GT (hr.mono (by decide)) rfl gT kT bT .nil pass0 (pa_cons (pv 0) (pa_cons pe_int pa_nil))) pa_nil)) (pg_name (i := 4) scSheet.nd rfl (Or.inl rfl))
        (pss_one (ps_dput (hu_of hr) (pe_dget (hu_of hr) (pv 2) pe_str (fun _ _ => rfl)) (pe_call GP hr rfl gP kP bP .nil pass0 (pa_cons (pv 0) (pa_cons (pe_call0 GN (hr.mono (by decide)) rfl gN kN bN .nil pass0) pa_nil))) (pe_call GP hr rfl gP kP bP .nil pass0 (pa_cons (pv 0) (pa_cons (pe_lst (pa_cons pe_str (pa_cons pe_str pa_nil))) pa_nil))) rfl)))
      (pss_cons (ps_for PassesOwn.never rfl (pi_list (pe_slice sl_list (pe_call GS hr rfl gS kS bS .nil pass0 (pa_cons (pv 0) (pa_cons (pe_call0 GN (hr.mono (by decide)) rfl gN kN bN .nil pass0) pa_nil))) po_none (po_some (pe_call GT (hr.mono (by decide)) rfl gT kT bT .nil pass0 (pa_cons (pv 0) (pa_cons (pe_op op_add (pv 1) pe_int) pa_nil)))))) (pg_name (i := 3) scSheet.nd rfl (Or.inl rfl))
        (pss_one (ps_dput (hu_of hr) (pe_dget (hu_of hr) (pv 2) pe_str (fun _ _ => rfl)) (pv 3) pe_str rfl)))
      (pss_one (ps_ret (pv 2)))))), ?_⟩
    have hne := Draw.stockNe S
    refine ⟨_, rfl, d, w, c, n, rfl, S, hn, fun H1 r wA ws as pp b1 S1 fr fw ne sh => ?_⟩
    obtain ⟨_, _, _, _, _, hd⟩ := S.own
    obtain ⟨_, _, _, hw⟩ := S.wide
    obtain ⟨_, _, _, hc⟩ := S.cells
    have off : ∀ {p : Addr}, H p = none → p ≠ d ∧ p ≠ w ∧ p ≠ c := fun {p} e => ⟨fun q => (by rw [q, hd] at e; cases e), fun q => (by rw [q, hw] at e; cases e), fun q => (by rw [q, hc] at e; cases e)⟩
    obtain ⟨nr1, nr2, nr3⟩ := off fr
    obtain ⟨nw1, nw2, nw3⟩ := off fw
    have stay : ∀ {m : Nat} {HH : Hp} {p : Addr} {o : HO}, p ≠ d → p ≠ w → p ≠ c → Draw.Stock HH d w c m → Draw.Stock (upd HH p o) d w c m := fun pd pw pc st => by
      obtain ⟨⟨r, t, x1, x2, x3, x4⟩, ⟨ws, y1, y2, y3⟩, ⟨cs, z1, z2, z3⟩, ap⟩ := st
      exact ⟨⟨r, t, x1, x2, x3, by rw [upd_ne (Ne.symm pd)]; exact x4⟩, ⟨ws, y1, y2, by rw [upd_ne (Ne.symm pw)]; exact y3⟩, ⟨cs, z1, z2, by rw [upd_ne (Ne.symm pc)]; exact z3⟩, ap⟩
    have free : ∀ {HH : Hp} {p : Addr} {o : HO}, H p = none → Draw.But d w H HH → Draw.But d w H (upd HH p o) := fun hp bt x o xd xw e => by
      rw [upd_ne (ne_of_none e hp)]
      exact bt x o xd xw e
    have sameB : ∀ {HH H' : Hp}, Draw.But d w H HH → Same HH H' → Draw.But d w H H' := fun bt sm b o bd bw e => sm _ _ (bt b o bd bw e)
    have compB : ∀ {HH H' : Hp}, Draw.But d w H HH → Draw.But d w HH H' → Draw.But d w H H' := fun b1 b2 b o bd bw e => b2 b o bd bw (b1 b o bd bw e)
    have back : ∀ {HH : Hp} {m : Nat} {p : Addr}, Draw.But d w H HH → Draw.Stock HH d w c m → HH p = none → H p = none := fun {HH m p} bt st e => by
      obtain ⟨_, _, _, _, _, z1⟩ := st.own
      obtain ⟨_, _, _, z2⟩ := st.wide
      cases q : H p with
      | none => rfl
      | some o =>
        have := bt p o (fun z => by rw [z, z1] at e; cases e) (fun z => by rw [z, z2] at e; cases e) q
        rw [this] at e
        cases e
    let T : Nat → L2.St → Hp → Prop := fun m σ HH => ∃ (ws as : List Str) (pp : Str) (v3 v4 : Option V), σ = [some (.ref d), some (.int z), some (.ref r), v3, v4] ∧ SheetAt K HH r wA ws as pp ∧ Draw.Stock HH d w c m ∧ Draw.But d w H HH
    refine ⟨fun σ HH => T (n + 10) σ HH, ?_, ?_⟩
    · refine ⟨_, rfl, d, w, c, n + 1, 2, rfl, S1, by omega, by decide, by decide, fun H2 x b2 S2 x0 x1 => ⟨rfl, _, rfl, ?_⟩⟩
      have sh2 := sh.but b2 S1 ⟨nr1, nr2⟩ ⟨nw1, nw2⟩
      have B2 : Draw.But d w H H2 := compB b1 b2
      refine ite2 (fun _ => ?_) (fun _ => ⟨ws, as, pp, none, none, rfl, sh2, Draw.stockMono S2 (by omega), B2⟩)
      refine ⟨rfl, fun p hp => ⟨p, rfl, ⟨_, .inl (.inl upd_same)⟩, for_list (K := K) (a := p) (xs := notes.map V.str) (fun i σ HH => T (n + 2 + i) σ HH ∧ HH p = some (.lst (notes.map V.str)))
        ⟨⟨ws, as, pp, none, none, rfl, sh2.same (Draw.sameNew hp), stockSame (Draw.sameNew hp) S2, sameB B2 (Draw.sameNew hp)⟩, upd_same⟩ (fun i σ HH _ h => .inl (.inl h.2)) ?_ ?_⟩⟩
      · have hp0 := back B2 S2 hp
        obtain ⟨np1, np2, _⟩ := off hp0
        rintro i y σ HH hi ⟨⟨ws, as, pp, v3, v4, rfl, sh3, st, bt⟩, hpp⟩
        obtain ⟨note, hn', rfl⟩ : ∃ r, notes[i]? = some r ∧ y = .str r := by
          rw [List.getElem?_map] at hi
          obtain ⟨r, h1, h2⟩ := Option.map_eq_some_iff.mp hi
          exact ⟨r, h1, h2.symm⟩
        have i6 : i < 6 := (List.getElem?_eq_some_iff.mp hn').1
        refine ⟨_, rfl, (by decide : 2 ≤ sizeLine), fun l hl => pickRd (E := E0) st (by omega) hl (by decide) (by decide) fun H' v hv b3 s3 => ?_⟩
        obtain ⟨word, rfl, hwd⟩ : ∃ word : Str, v = .str word ∧ (word = "none" ∨ word = "lazy" ∨ word = "forced") := by
          simp only [List.mem_cons, List.not_mem_nil, or_false] at hv
          rcases hv with rfl | rfl
          · exact ⟨_, rfl, .inl rfl⟩
          · exact ⟨_, rfl, .inr (.inr rfl)⟩
        have sh4 := sh3.but b3 st ⟨nr1, nr2⟩ ⟨nw1, nw2⟩
        obtain ⟨ws', sh5⟩ := sh4.word ne (List.mem_of_getElem? hn') hwd
        obtain ⟨⟨tA, t1, _⟩, w1, wk, _, _⟩ := sh4
        refine ⟨_, rfl, r, _, rfl, DGet.k (k := Sum.inr "words") t1, _, rfl, wA, _, rfl, DPut.k (k := Sum.inr note) w1 ?_, ⟨ws', as, pp, _, _, rfl, sh5, stay nw1 nw2 nw3 s3, free fw (compB bt b3)⟩, ?_⟩
        · rw [List.length_zip, List.length_map, List.length_map, wk.1]
          decide
        · have hp4 := b3 p _ np1 np2 hpp
          rw [upd_ne (ne_of hp4 w1 (by intro q; cases q))]
          exact hp4
      · rintro σ HH ⟨⟨ws, as, pp, v3, v4, rfl, sh3, st, bt⟩, _⟩
        have st8 : Draw.Stock HH d w c (n + 8) := st
        refine ⟨_, rfl, (by decide : 0 ≤ sizeLine), fun t0 g0 => ⟨(by decide : 1 ≤ sizeLine), fun t1 g1 => ⟨(by decide : 1 ≤ sizeLine), fun t2 g2 => ⟨(by decide : 2 ≤ sizeLine), fun t3 g3 => ⟨(by decide : 4 ≤ sizeLine), fun l hl => ?_⟩⟩⟩⟩⟩
        have q0 : Same HH (upd HH t0 (.tup [])) := Draw.sameNew g0
        have c0 : upd HH t0 (.tup []) t0 = some (.tup (([] : List Str).map V.str)) := upd_same
        generalize upd HH t0 (.tup []) = Y0 at q0 c0 g1 g2 g3 hl ⊢
        have q1 : Same Y0 (upd Y0 t1 (.tup [.str "no"])) := Draw.sameNew g1
        have c1 : upd Y0 t1 (.tup [.str "no"]) t1 = some (.tup ((["no"] : List Str).map V.str)) := upd_same
        generalize upd Y0 t1 (.tup [.str "no"]) = Y1 at q1 c1 g2 g3 hl ⊢
        have q2 : Same Y1 (upd Y1 t2 (.tup [.str "yes"])) := Draw.sameNew g2
        have c2 : upd Y1 t2 (.tup [.str "yes"]) t2 = some (.tup ((["yes"] : List Str).map V.str)) := upd_same
        generalize upd Y1 t2 (.tup [.str "yes"]) = Y2 at q2 c2 g3 hl ⊢
        have q3 : Same Y2 (upd Y2 t3 (.tup [.str "no", .str "yes"])) := Draw.sameNew g3
        have c3 : upd Y2 t3 (.tup [.str "no", .str "yes"]) t3 = some (.tup ((["no", "yes"] : List Str).map V.str)) := upd_same
        generalize upd Y2 t3 (.tup [.str "no", .str "yes"]) = Y3 at q3 c3 hl ⊢
        have q4 : Same HH Y3 := ((q0.trans q1).trans q2).trans q3
        have stY := stockSame q4 st8
        have shY := sh3.same q4
        refine pickRd (E := E0) stY (by omega) hl (by show 0 < 4; decide) (by show 4 < 1000; decide) fun H' v hv b3 s3 => ?_
        obtain ⟨tb, bs, rfl, hbs, htb⟩ : ∃ (tb : Addr) (bs : List Str), v = .ref tb ∧ bs ∈ ansL ∧ SqT K Y3 tb (bs.map V.str) := by
          simp only [List.mem_cons, List.not_mem_nil, or_false] at hv
          rcases hv with rfl | rfl | rfl | rfl
          · exact ⟨_, _, rfl, by decide, .inl (.inl (q3 _ _ (q2 _ _ (q1 _ _ c0))))⟩
          · exact ⟨_, _, rfl, by decide, .inl (.inl (q3 _ _ (q2 _ _ c1)))⟩
          · exact ⟨_, _, rfl, by decide, .inl (.inl (q3 _ _ c2))⟩
          · exact ⟨_, _, rfl, by decide, .inl (.inl c3)⟩
        have sh4 := shY.but b3 stY ⟨nr1, nr2⟩ ⟨nw1, nw2⟩
        have htb' : SqT K H' tb (bs.map V.str) := by
          obtain ⟨_, _, _, _, _, z1⟩ := stY.own
          obtain ⟨_, _, _, z2⟩ := stY.wide
          exact b3.tup z1 z2 htb
        obtain ⟨kvs, k1, k2, sh5⟩ := sh4.setAns ne hbs htb'
        refine ⟨_, rfl, r, _, rfl, DPut.k (k := Sum.inr "answers") k1 k2, ?_⟩
        have st5 := stay (o := .dK (putK kvs (Sum.inr "answers") (.ref tb))) nr1 nr2 nr3 s3
        have bt5 : Draw.But d w H (upd H' r (.dK (putK kvs (Sum.inr "answers") (.ref tb)))) := free fr (compB (sameB bt q4) b3)
        generalize upd H' r (.dK (putK kvs (Sum.inr "answers") (.ref tb))) = Y5 at sh5 st5 bt5 ⊢
        refine ⟨_, rfl, (by decide : 3 ≤ sizeLine), fun l hl => pickRd (E := E0) st5 (by omega) hl (by decide) (by decide) fun H6 v hv b6 s6 => ?_⟩
        obtain ⟨qq, rfl, hq⟩ : ∃ qq : Str, v = .str qq ∧ qq ∈ preL := by
          simp only [List.mem_cons, List.not_mem_nil, or_false] at hv
          rcases hv with rfl | rfl | rfl
          · exact ⟨_, rfl, by decide⟩
          · exact ⟨_, rfl, by decide⟩
          · exact ⟨_, rfl, by decide⟩
        have sh6 := sh5.but b6 st5 ⟨nr1, nr2⟩ ⟨nw1, nw2⟩
        obtain ⟨kvs, k1, k2, sh7⟩ := sh6.setPre ne hq
        exact ⟨_, rfl, r, _, rfl, DPut.k (k := Sum.inr "presume") k1 k2, ws, bs, qq, v3, v4, rfl, sh7, stay nr1 nr2 nr3 s6, free fr (compB bt5 b6)⟩
    · rintro σ HH ⟨ws, as, pp, v3, v4, rfl, sh3, st, bt⟩
      refine ⟨_, rfl, d, w, c, n + 10, 3, rfl, st, by omega, by decide, by decide, fun H2 x b2 S2 x0 x1 => ⟨x, rfl, by omega, by omega, ?_⟩⟩
      have sh2 := sh3.but b2 st ⟨nr1, nr2⟩ ⟨nw1, nw2⟩
      refine for_range (lo := 0) (fun i σ HH => T (n + 11 + 2 * i) σ HH) ⟨ws, as, pp, _, _, rfl, sh2, S2, compB bt b2⟩ ?_ ?_
      · rintro i σ HH hi ⟨ws, as, pp, v3, v4, rfl, sh3, st, bt⟩
        have i2 : i < 3 := by omega
        refine ⟨_, rfl, (by decide : 2 ≤ sizeLine), fun l hl => pickRd (E := E0) st (by omega) hl (by decide) (by decide) fun H' v hv b3 s3 => ?_⟩
        obtain ⟨word, rfl, hwd⟩ : ∃ word : Str, v = .str word ∧ (word = "none" ∨ word = "lazy" ∨ word = "forced") := by
          simp only [List.mem_cons, List.not_mem_nil, or_false] at hv
          rcases hv with rfl | rfl
          · exact ⟨_, rfl, .inl rfl⟩
          · exact ⟨_, rfl, .inr (.inr rfl)⟩
        have sh4 := sh3.but b3 st ⟨nr1, nr2⟩ ⟨nw1, nw2⟩
        obtain ⟨tA, t1, _⟩ := sh4.top
        refine ⟨_, rfl, r, _, rfl, DGet.k (k := Sum.inr "words") t1, _, rfl, rfl, fun p hp => pickRd (E := E0) s3 (by omega) hp (by decide) (by decide) fun H6 v2 hv2 b6 s6 => ?_⟩
        obtain ⟨note, hn', rfl⟩ : ∃ note, note ∈ notes ∧ v2 = .str note := by
          obtain ⟨a, h1, h2⟩ := List.mem_map.mp hv2
          exact ⟨a, h1, h2.symm⟩
        have sh6 := sh4.but b6 s3 ⟨nr1, nr2⟩ ⟨nw1, nw2⟩
        obtain ⟨ws', sh7⟩ := sh6.word ne hn' hwd
        refine ⟨wA, _, rfl, DPut.k (k := Sum.inr note) sh6.words ?_, ws', as, pp, _, _, rfl, sh7, stay nw1 nw2 nw3 ?_, free fw (compB (compB bt b3) b6)⟩
        · rw [List.length_zip, List.length_map, List.length_map, sh6.ok.1]
          decide
        · have e : n + 11 + 2 * (i + 1) = n + 11 + 2 * i + 1 + 1 := by omega
          rw [e]
          exact s6
      · rintro σ HH ⟨ws, as, pp, v3, v4, rfl, sh3, st, bt⟩
        have st15 : Draw.Stock HH d w c (n + 15) := Draw.stockMono st (by omega)
        refine ⟨_, rfl, rfl, fun p hp => ?_⟩
        have pw : p ≠ w := fun q => by
          obtain ⟨_, _, _, e⟩ := st15.wide
          rw [q, e] at hp
          cases hp
        refine ⟨d, w, c, p, n + 15, notes, rfl, stockSame (Draw.sameNew hp) st15, by show n + 15 + 6 < 1000000; omega, .inl (.inl upd_same), pw, (by decide), (by decide +kernel), fun H5 p2 ys perm b5 s5 f5 h5 => ?_⟩
        have shp := sh3.same (Draw.sameNew (o := .lst (notes.map V.str)) hp)
        have stp := stockSame (Draw.sameNew (o := .lst (notes.map V.str)) hp) st15
        have sh5 := shp.but b5 stp ⟨nr1, nr2⟩ ⟨nw1, nw2⟩
        have bt5 := compB (sameB bt (Draw.sameNew (o := .lst (notes.map V.str)) hp)) b5
        have s21 : Draw.Stock H5 d w c (n + 21) := s5
        refine ⟨_, rfl, _, rfl, _, _, rfl, rfl, d, w, c, n + 21, _, rfl, s21, by omega, by omega, by omega, fun H6 x b6 s6 x0 x1 => ?_⟩
        have p2n : p2 ≠ d ∧ p2 ≠ w := by
          obtain ⟨_, _, _, _, _, z1⟩ := s21.own
          obtain ⟨_, _, _, _, _, z0⟩ := stp.own
          obtain ⟨_, _, _, z2⟩ := stp.wide
          exact ⟨fun q => (by rw [q, z0] at f5; cases f5), fun q => (by rw [q, z2] at f5; cases f5)⟩
        have h6 : H6 p2 = some (.lst (ys.map V.str)) := b6 _ _ p2n.1 p2n.2 h5
        have sh6 := sh5.but b6 s21 ⟨nr1, nr2⟩ ⟨nw1, nw2⟩
        have bt6 := compB bt5 b6
        refine ⟨_, rfl, p2, _, rfl, .inl (.inl h6), fun p3 h3 => ⟨p3, rfl, ⟨_, .inl (.inl upd_same)⟩, ?_⟩⟩
        generalize hx : cutV (ys.map V.str) none (some x) = cut
        have inN : ∀ v ∈ cut, ∃ note, note ∈ notes ∧ v = .str note := fun v hv => by
          rw [← hx] at hv
          unfold cutV at hv
          have h1 := List.mem_of_mem_drop (List.mem_of_mem_take hv)
          obtain ⟨a, g1, g2⟩ := List.mem_map.mp h1
          exact ⟨a, perm.mem_iff.mp g1, g2.symm⟩
        refine for_list (K := K) (a := p3) (xs := cut) (fun i σ HH => T (n + 22) σ HH ∧ HH p3 = some (.lst cut)) ⟨⟨ws, as, pp, _, _, rfl, sh6.same (Draw.sameNew h3), stockSame (Draw.sameNew h3) s6, sameB bt6 (Draw.sameNew h3)⟩, upd_same⟩ (fun i σ HH _ h => .inl (.inl h.2)) ?_ ?_
        · rintro i y σ HH hi ⟨⟨ws, as, pp, v3, v4, rfl, sh3, st, bt⟩, hpp⟩
          obtain ⟨note, hn', rfl⟩ := inN y (List.mem_of_getElem? hi)
          obtain ⟨ws', sh5⟩ := sh3.word ne hn' (.inr (.inl rfl) : ("lazy" : Str) = "none" ∨ ("lazy" : Str) = "lazy" ∨ ("lazy" : Str) = "forced")
          obtain ⟨tA, t1, _⟩ := sh3.top
          refine ⟨_, rfl, r, _, rfl, DGet.k (k := Sum.inr "words") t1, _, rfl, wA, _, rfl, DPut.k (k := Sum.inr note) sh3.words ?_, ⟨ws', as, pp, _, _, rfl, sh5, stay nw1 nw2 nw3 st, free fw bt⟩, ?_⟩
          · rw [List.length_zip, List.length_map, List.length_map, sh3.ok.1]
            decide
          · rw [upd_ne (ne_of hpp sh3.words (by intro q; cases q))]
            exact hpp
        · rintro σ HH ⟨⟨ws, as, pp, v3, v4, rfl, sh3, st, bt⟩, _⟩
          exact ⟨_, rfl, k HH r wA ws as pp bt st fr fw ne sh3⟩
end
end Sh2

namespace Db
open PySem PySem.Spec PyProof.Rows L2
open DL (Ent S Lay FE FF Rp RpAll Rs RsAll Frm Zt vis zin Hk HkAt DefOk spW)
open Sh2 (notes wordsOk ansL preL)
/-! a drawn sheet, as a datum -/
def sheetD (ws as : List Str) (pp : Str) : PyData := .dict [(.str "words", .dict ((notes.map PyData.str).zip (ws.map PyData.str))), (.str "answers", .tuple (as.map PyData.str)), (.str "presume", .str pp)]
def F_sheet : FF := fun es n Q => match es with
  | [.dr, .im (.int z)] => (n < 900000 ∧ 0 ≤ z ∧ z < 1000) ∧ ∀ (ws as : List Str) (pp : Str), wordsOk ws → as ∈ ansL → pp ∈ preL → Q (.im (sheetD ws as pp)) (n + 22)
  | _ => False
theorem F_sheet_mono : ∀ es n Q Q', (∀ r m, Q r m → Q' r m) → F_sheet es n Q → F_sheet es n Q' := fun es n Q Q' k h => by
  unfold F_sheet at h ⊢
  split at h
  · exact ⟨h.1, fun ws as pp a b c => k _ _ (h.2 ws as pp a b c)⟩
  · exact h.elim
section
variable {C : Addr} {P : Program} {w : World} {K : PySem.W.Frag} {mg : Str → Option Value} {base : Heap} {f : Addr} {fd : FuncData}
theorem zip_keys : ∀ (ns : List Str) (vs : List V) (ds : List PyData), vs.length = ds.length → ns.length = vs.length → ((ns.map (Sum.inr : Str → Key)).zip vs).map (·.2) = vs ∧ (((ns.map (Sum.inr : Str → Key)).zip vs).map fun p => DL.keyD p.1).zip ds = (ns.map PyData.str).zip ds
  | [], [], [], _, _ => ⟨rfl, rfl⟩
  | n :: ns, v :: vs, d :: ds, h1, h2 => by
    obtain ⟨a, b⟩ := zip_keys ns vs ds (by simpa using h1) (by simpa using h2)
    exact ⟨by rw [List.map_cons, List.zip_cons_cons, List.map_cons, a], by rw [List.map_cons, List.zip_cons_cons, List.map_cons, List.zip_cons_cons, List.map_cons, List.zip_cons_cons, b] <;> rfl⟩
theorem ok_sheet (G : FnOk P w K mg base CX0 4 f fd ["draw", "lazies"] (Sh2.spSheet K)) (hm : mg "_law_sheet" = some (.ref f)) (kp : PySem.W.keepIn K (.ref f) = true) (hb : Binds K fd ["draw", "lazies"] []) : DefOk (lay C) P w K mg base 4 "_law_sheet" F_sheet := by
  refine ⟨fun _ _ _ => F_sheet_mono, f, fd, _, G.imp fun vs H Q E h => ?_, hm, kp, hb⟩
  obtain ⟨hd, Z, es, n, h1, h2, h3, r, q⟩ := h
  unfold F_sheet at q
  split at q
  · rename_i z
    cases r with
    | cons a r => cases r with
      | cons b r =>
        cases r
        obtain ⟨zz, rfl, rfl⟩ := a
        cases b
        refine ⟨_, zz.2.1, zz.2.2, n, z, rfl, h3 zz rfl, q.1.1, q.1.2.1, q.1.2.2, fun H' r wA ws as pp bt st fr fw ne sh => q.2 ws as pp sh.ok sh.ans sh.pre _ H' (frm_but bt) (fun z' e => by cases e; exact st) ?_⟩
        obtain ⟨⟨tA, t1, t2⟩, w1, wk, _, _⟩ := sh
        have off : ∀ {p : Addr}, H p = none → hd p = false := fun {p} e => by
          cases q : hd p with
          | false => rfl
          | true =>
            obtain ⟨o, e', _⟩ := h1 p q
            rw [e] at e'
            cases e'
        have see : ∀ {p : Addr} {o : HO}, H p = none → H' p = some o → vis hd [] H' p = some o := fun e e' => DL.vis_some.mpr ⟨off e, by simp, e'⟩
        have seeT : ∀ {p : Addr} {o : HO}, (∀ xs, o ≠ .lst xs) → (∀ kvs, o ≠ .dK kvs) → H' p = some o → vis hd [] H' p = some o := fun {p o} n1 n2 e => by
          refine DL.vis_some.mpr ⟨?_, by simp, e⟩
          cases q : hd p with
          | false => rfl
          | true =>
            exfalso
            obtain ⟨o', e', hk⟩ := h1 p q
            obtain ⟨_, _, _, _, _, z1⟩ := (st : Draw.Stock H' zz.1 zz.2.1 zz.2.2 (n + 22)).own
            obtain ⟨_, _, _, z2⟩ := (st : Draw.Stock H' zz.1 zz.2.1 zz.2.2 (n + 22)).wide
            by_cases p1 : p = zz.1
            · rw [p1, z1] at e
              cases e
              exact n2 _ rfl
            · by_cases p2 : p = zz.2.1
              · rw [p2, z2] at e
                cases e
                exact n1 _ rfl
              · have := bt p o' p1 p2 e'
                rw [e] at this
                cases this
                rcases hk with ⟨xs, hk⟩ | ⟨_, _, hk⟩ | hk
                · exact n1 _ hk
                · exact n2 _ hk
                · exact n2 _ hk
        have t2' : SqT K (vis hd [] H') tA (as.map V.str) := by
          rcases t2 with (t2 | ⟨o, t2⟩) | t2
          · exact .inl (.inl (seeT (fun _ z => by cases z) (fun _ z => by cases z) t2))
          · exact .inl (.inr ⟨o, seeT (fun _ z => by cases z) (fun _ z => by cases z) t2⟩)
          · exact .inr t2
        have wl : (ws.map V.str).length = (ws.map PyData.str).length := by rw [List.length_map, List.length_map]
        obtain ⟨g1, g2⟩ := zip_keys notes (ws.map V.str) (ws.map PyData.str) wl (by rw [List.length_map, wk.1] <;> rfl)
        have words : Rp K (vis hd [] H') (.ref wA) (.dict ((notes.map PyData.str).zip (ws.map PyData.str))) := by
          rw [← g2]
          exact .dct (see fw w1) (by rw [g1]; exact rpStrs ws)
        exact DL.Rp.dct (see fr t1) (.cons words (.cons (.tup t2' (rpStrs as)) (.cons (.str pp) .nil)))
  · exact q.elim
end
end Db

namespace Db
open PySem PySem.Spec PyProof.Rows L2 DL
/-! books, computed -/
def cPart (f : Str) (c : CE) : CE := fun env => (c env).bind fun r => match r with
  | .ob 0 d => (partOf f d).map .im
  | _ => none
section
variable {fa : FE} {ca : CE} {fs : FA} {cs : CA}
instance {f : Str} [A : KE fa ca] : KE (fPart f fa) (cPart f ca) := ⟨fun env n r Q h q => by
  obtain ⟨x, h1, h2⟩ := bind_some' h
  refine A.run _ _ _ _ h1 ?_
  split at h2
  · rename_i d
    cases e : partOf f d with
    | none => rw [e] at h2; cases h2
    | some y => rw [e] at h2; cases h2; simp only [e]; exact q
  · cases h2⟩
def cIsBook (c : CE) : CE := fun env => (c env).bind fun r => match r with
  | .ob 0 _ => some (.im (.bool true))
  | .ob _ _ => none
  | .dr => none
  | _ => some (.im (.bool false))
instance [A : KE fa ca] : KE (fIsBook fa) (cIsBook ca) := ⟨fun env n r Q h q => by
  obtain ⟨x, h1, h2⟩ := bind_some' h
  refine A.run _ _ _ _ h1 ?_
  cases x with
  | im d => cases h2; exact q
  | ow d => cases h2; exact q
  | br i d => cases h2; exact q
  | ob t d => cases t with
    | zero => cases h2; exact q
    | succ t => cases h2
  | dr => cases h2⟩
def cBook (cs : CA) : CE := fun env => (cs env).bind fun rs => (keptL rs).bind fun ds => (mk8 ds).map (.ob 0)
instance [A : KA fs cs] : KE (fBook fs) (cBook cs) := ⟨fun env n r Q h q => by
  obtain ⟨x, h1, h2⟩ := bind_some' h
  obtain ⟨ds, h3, h4⟩ := bind_some' h2
  refine A.run _ _ _ _ h1 (kepts_of h3 ?_)
  cases e : mk8 ds with
  | none => rw [e] at h4; cases h4
  | some y => rw [e] at h4; cases h4; simp only [e]; exact q⟩
def cMeth (F : CF) (co : CE) (cs : CA) : CE := fun env => (co env).bind fun r => match r with
  | .ob 0 d => (cs env).bind fun rs => (argsL rs).bind fun es => F (.ob 0 d :: es)
  | _ => none
instance {F : FF} {G : CF} [K : KF F G] [A : KE fa ca] [B : KA fs cs] : KE (fMeth F fa fs) (cMeth G ca cs) := ⟨fun env n r Q h q => by
  obtain ⟨x, h1, h2⟩ := bind_some' h
  refine A.run _ _ _ _ h1 ?_
  split at h2
  · obtain ⟨rs, h3, h4⟩ := bind_some' h2
    obtain ⟨es, h5, h6⟩ := bind_some' h4
    exact B.run _ _ _ _ h3 (argsOf_of h5 (K.run _ _ _ _ h6 q))
  · cases h2⟩
end
end Db

namespace K49
open PySem PySem.Spec PyProof.Rows L2 DL
open Draw (top)
def Here (K : PySem.W.Frag) (mg : Str → Option Value) (x : Str) (st : Stmt) (ps : List Str) : Prop := ∃ f fd, Fun K x x st f fd ∧ mg x = some (.ref f) ∧ Binds K fd ps []
def HereK (K : PySem.W.Frag) (mg : Str → Option Value) (x : Str) (st : Stmt) (ps ks : List Str) (perm : List Nat) : Prop := ∃ f fd, Fun K x x st f fd ∧ mg x = some (.ref f) ∧ KBn K fd ps 0 ks (fun _ ws => permL perm ws) (fun _ zs => permL perm zs)
def GKm (K : PySem.W.Frag) (mg : Str → Option Value) (x : Str) (d : PyData) : Prop := ∃ v u, mg x = some u ∧ RelV v u ∧ ∀ H, Rp K H v d
def d_OUTCOMES : PyData := .tuple [.str "no", .str "yes"]
def d_MOST_HOUSES : PyData := .int 100
structure Consts (K : PySem.W.Frag) (mg : Str → Option Value) : Prop where
  OUTCOMES : GKm K mg "OUTCOMES" d_OUTCOMES
  MOST_HOUSES : GKm K mg "MOST_HOUSES" d_MOST_HOUSES
def bltNames : List Str := ["bool", "enumerate", "int", "isinstance", "len", "list", "min", "range", "repr", "sorted", "sum", "tuple"]
section
variable {P : Program} {w : World} {K : PySem.W.Frag} {mg : Str → Option Value} {base : Heap} {CB : Addr}

abbrev s__law_notes : Stmt := top 30
abbrev n__law_notes : List Str := []
abbrev p__law_notes : List Str := []
theorem sc__law_notes : FnScope n__law_notes p__law_notes (defScope s__law_notes) := ⟨rfl, rfl, rfl, by decide +kernel, rfl, by decide +kernel, by decide +kernel⟩
def g__law_notes : FS := (fRet (fLst (fCons (fK (.str "begin")) (fCons (fK (.str "yes")) (fCons (fK (.str "no")) (fCons (fK (.str "ready")) (fCons (fK (.str "agreed")) (fCons (fK (.str "refused")) fNil))))))))
def F__law_notes : FF := runF 0 0 g__law_notes
def c__law_notes : CS := (cRet (cLst (cCons (cK (.str "begin")) (cCons (cK (.str "yes")) (cCons (cK (.str "no")) (cCons (cK (.str "ready")) (cCons (cK (.str "agreed")) (cCons (cK (.str "refused")) cNil))))))))
def C__law_notes : CF := cRun 0 0 c__law_notes
instance : KF F__law_notes C__law_notes := by
  unfold F__law_notes C__law_notes g__law_notes
  unfold c__law_notes
  infer_instance
theorem ok__law_notes (h0 : Here K mg "_law_notes" s__law_notes p__law_notes) (B0 : ∀ x ∈ bltNames, mg x = none) (C0 : Consts K mg) : DefOk (Db.lay CB) P w K mg base 1 "_law_notes" F__law_notes := by
  obtain ⟨f, fd, F, hm, hb⟩ := h0
  refine def_ok F hm hb sc__law_notes fun cdv A outer s H E hr => ?_
  have nd := sc__law_notes.nd
  have C0g := C0
  exact (xssOne (xsRet (xLst (xaCons xStr (xaCons xStr (xaCons xStr (xaCons xStr (xaCons xStr (xaCons xStr xaNil)))))))))

abbrev s__law_book : Stmt := top 33
abbrev n__law_book : List Str := ["sheet", "verbs", "replies", "guess", "note"]
abbrev p__law_book : List Str := ["sheet"]
theorem sc__law_book : FnScope n__law_book p__law_book (defScope s__law_book) := ⟨rfl, rfl, rfl, by decide +kernel, rfl, by decide +kernel, by decide +kernel⟩
def g__law_book : FS := (fSeq (fSet 1 (fLc (fItL true (fFn F__law_notes fNil)) (gN 4) fYes (f2 oDGet (f2 oDGet (fVar 0) (fK (.str "words"))) (fVar 4)) [4])) (fSeq (fPar 2 3 false false (f2 oDGet (fVar 0) (fK (.str "answers"))) (f2 oDGet (fVar 0) (fK (.str "presume")))) (fRet (Db.fBook (fCons (f2 oIx (fVar 1) (fK (.int 0))) (fCons (f2 oIx (fVar 1) (fK (.int 1))) (fCons (f2 oIx (fVar 1) (fK (.int 2))) (fCons (f2 oIx (fVar 1) (fK (.int 3))) (fCons (f2 oIx (fVar 1) (fK (.int 4))) (fCons (f2 oIx (fVar 1) (fK (.int 5))) (fCons (fVar 2) (fCons (fVar 3) fNil))))))))))))
def F__law_book : FF := runF 5 1 g__law_book
def c__law_book_2 : CS := (cRet (Db.cBook (cCons (c2 kIx (cVar 1) (cK (.int 0))) (cCons (c2 kIx (cVar 1) (cK (.int 1))) (cCons (c2 kIx (cVar 1) (cK (.int 2))) (cCons (c2 kIx (cVar 1) (cK (.int 3))) (cCons (c2 kIx (cVar 1) (cK (.int 4))) (cCons (c2 kIx (cVar 1) (cK (.int 5))) (cCons (cVar 2) (cCons (cVar 3) cNil))))))))))
def c__law_book_1 : CS := (cSeq (cPar 2 3 false false (c2 kDGet (cVar 0) (cK (.str "answers"))) (c2 kDGet (cVar 0) (cK (.str "presume")))) c__law_book_2)
def c__law_book : CS := (cSeq (cSet 1 (cLc (cItL true (cFn C__law_notes cNil)) (cgN 4) cYes (c2 kDGet (c2 kDGet (cVar 0) (cK (.str "words"))) (cVar 4)) [4])) c__law_book_1)
def C__law_book : CF := cRun 5 1 c__law_book
instance : KF F__law_book C__law_book := by
  unfold F__law_book C__law_book g__law_book
  unfold c__law_book c__law_book_1 c__law_book_2
  infer_instance
theorem ok__law_book (h0 : Here K mg "_law_book" s__law_book p__law_book) (B0 : ∀ x ∈ bltNames, mg x = none) (C0 : Consts K mg) (BX : Db.BookX P w K mg base CB) (D__law_notes : DefOk (Db.lay CB) P w K mg base 1 "_law_notes" F__law_notes) : DefOk (Db.lay CB) P w K mg base 9 "_law_book" F__law_book := by
  obtain ⟨f, fd, F, hm, hb⟩ := h0
  refine def_ok F hm hb sc__law_book fun cdv A outer s H E hr => ?_
  have nd := sc__law_book.nd
  have C0g := C0
  exact (xssCons (xsSetLc 1 [("note", 4)] rfl nd (xiList true (xCall0 D__law_notes (hr.mono (by decide)))) (by change blkC n__law_book (defScope s__law_book) _ _ = true; decide +kernel) (fun _ _ _ _ _ => (xgName 4 nd)) (fun _ _ _ _ _ => xtsNil) (fun _ _ _ _ _ => (xDGet (hu_of hr) (xDGet (hu_of hr) (xVar 0) xStr) (xVar 4))) (sw_true rfl rfl rfl (by decide +kernel))) (xssCons (xsPar 2 3 false false (xDGet (hu_of hr) (xVar 0) xStr) (xDGet (hu_of hr) (xVar 0) xStr) nd) (xssOne (xsRet (Db.xBook BX (hr.mono (by decide)) (xaCons (xIx (xVar 1) xInt) (xaCons (xIx (xVar 1) xInt) (xaCons (xIx (xVar 1) xInt) (xaCons (xIx (xVar 1) xInt) (xaCons (xIx (xVar 1) xInt) (xaCons (xIx (xVar 1) xInt) (xaCons (xVar 2) (xaCons (xVar 3) xaNil)))))))))))))

abbrev s__law_plain_acts : Stmt := top 44
abbrev n__law_plain_acts : List Str := ["sheet", "said", "many", "voters", "found", "at"]
abbrev p__law_plain_acts : List Str := ["sheet", "said", "many"]
theorem sc__law_plain_acts : FnScope n__law_plain_acts p__law_plain_acts (defScope s__law_plain_acts) := ⟨rfl, rfl, rfl, by decide +kernel, rfl, by decide +kernel, by decide +kernel⟩
def g__law_plain_acts : FS := (fSeq (fSet 3 (fLstRg1 (fIf (fB (f2 (oEq false) (fVar 1) (fK (.str "yes")))) (fVar 2) (f2 oSub (fVar 2) (fK (.int 1)))))) (fSeq (fSetO 4 (f2 oAdd (fLst (fCons (fTup (fCons (fK (.str "ask")) fNil)) fNil)) (fLc (fItL true (fVar 3)) (gN 5) fYes (fTup (fCons (fK (.str "vote")) (fCons (fVar 5) fNil))) [5]))) (fSeq (fIfS (fB (f2 (oEq false) (fVar 1) (fK (.str "no")))) (fAppend 4 (fTup (fCons (fK (.str "refuse")) (fCons (f2 oSub (fVar 2) (fK (.int 1))) fNil)))) fSkip) (fSeq (fAppend 4 (fTup (fCons (fK (.str "decide")) (fCons (fVar 1) fNil)))) (fSeq (fFor (fRng1 (fCons (fVar 2) fNil)) (gN 5) (fSeq (fSetO 4 (f2 oAdd (f2 oAdd (fVar 4) (fLst (fCons (fTup (fCons (fK (.str "tell")) (fCons (fVar 5) fNil))) fNil))) (f2 oMul (fLst (fCons (fTup (fCons (fK (.str "hear")) (fCons (fVar 5) (fCons (fVar 1) fNil)))) fNil)) (fCall (o1 gInt) (fCons (f2 (oIn false) (fVar 5) (fVar 3)) fNil))))) (fSetO 4 (f2 oAdd (fVar 4) (f2 oMul (fLst (fCons (fTup (fCons (fK (.str "answer")) (fCons (fVar 5) (fCons (fVar 1) fNil)))) fNil)) (fCall (o1 gInt) (fCons (f2 (oIn false) (fVar 1) (f2 oDGet (fVar 0) (fK (.str "answers")))) fNil))))))) (fRet (fVar 4)))))))
def F__law_plain_acts : FF := runF 6 3 g__law_plain_acts
def c__law_plain_acts_L1_1 : CS := (cSetO 4 (c2 kAdd (cVar 4) (c2 kMul (cLst (cCons (cTup (cCons (cK (.str "answer")) (cCons (cVar 5) (cCons (cVar 1) cNil)))) cNil)) (cCall (k1 kInt) (cCons (c2 (kIn false) (cVar 1) (c2 kDGet (cVar 0) (cK (.str "answers")))) cNil)))))
def c__law_plain_acts_L1 : CS := (cSeq (cSetO 4 (c2 kAdd (c2 kAdd (cVar 4) (cLst (cCons (cTup (cCons (cK (.str "tell")) (cCons (cVar 5) cNil))) cNil))) (c2 kMul (cLst (cCons (cTup (cCons (cK (.str "hear")) (cCons (cVar 5) (cCons (cVar 1) cNil)))) cNil)) (cCall (k1 kInt) (cCons (c2 (kIn false) (cVar 5) (cVar 3)) cNil))))) c__law_plain_acts_L1_1)
def c__law_plain_acts_5 : CS := (cRet (cVar 4))
def c__law_plain_acts_4 : CS := (cSeq (cFor (cRng1 (cCons (cVar 2) cNil)) (cgN 5) c__law_plain_acts_L1) c__law_plain_acts_5)
def c__law_plain_acts_3 : CS := (cSeq (cAppend 4 (cTup (cCons (cK (.str "decide")) (cCons (cVar 1) cNil)))) c__law_plain_acts_4)
def c__law_plain_acts_2 : CS := (cSeq (cIfS (cB (c2 (kEq false) (cVar 1) (cK (.str "no")))) (cAppend 4 (cTup (cCons (cK (.str "refuse")) (cCons (c2 kSub (cVar 2) (cK (.int 1))) cNil)))) cSkip) c__law_plain_acts_3)
def c__law_plain_acts_1 : CS := (cSeq (cSetO 4 (c2 kAdd (cLst (cCons (cTup (cCons (cK (.str "ask")) cNil)) cNil)) (cLc (cItL true (cVar 3)) (cgN 5) cYes (cTup (cCons (cK (.str "vote")) (cCons (cVar 5) cNil))) [5]))) c__law_plain_acts_2)
def c__law_plain_acts : CS := (cSeq (cSet 3 (cLstRg1 (cIf (cB (c2 (kEq false) (cVar 1) (cK (.str "yes")))) (cVar 2) (c2 kSub (cVar 2) (cK (.int 1)))))) c__law_plain_acts_1)
def C__law_plain_acts : CF := cRun 6 3 c__law_plain_acts
instance : KF F__law_plain_acts C__law_plain_acts := by
  unfold F__law_plain_acts C__law_plain_acts g__law_plain_acts
  unfold c__law_plain_acts c__law_plain_acts_1 c__law_plain_acts_2 c__law_plain_acts_3 c__law_plain_acts_4 c__law_plain_acts_5 c__law_plain_acts_L1 c__law_plain_acts_L1_1
  infer_instance
theorem ok__law_plain_acts (h0 : Here K mg "_law_plain_acts" s__law_plain_acts p__law_plain_acts) (B0 : ∀ x ∈ bltNames, mg x = none) (C0 : Consts K mg) : DefOk (Db.lay CB) P w K mg base 1 "_law_plain_acts" F__law_plain_acts := by
  obtain ⟨f, fd, F, hm, hb⟩ := h0
  refine def_ok F hm hb sc__law_plain_acts fun cdv A outer s H E hr => ?_
  have nd := sc__law_plain_acts.nd
  have C0g := C0
  exact (xssCons (xsSet 3 (xListRg1 rfl (xIf (xtCmp (os_eq hr.units) (xVar 1) xStr) (xVar 2) (xBin os_sub (xVar 2) xInt)) (B0 "list" (by decide)) (B0 "range" (by decide))) nd) (xssCons (xsSetO 4 (xBin os_add (xLst (xaCons (xTup (xaCons xStr xaNil)) xaNil)) (xLc [("at", 5)] rfl nd (xiList true (xVar 3)) (by change blkC n__law_plain_acts (defScope s__law_plain_acts) _ _ = true; decide +kernel) (fun _ _ _ _ _ => (xgName 5 nd)) (fun _ _ _ _ _ => xtsNil) (fun _ _ _ _ _ => (xTup (xaCons xStr (xaCons (xVar 5) xaNil)))))) nd) (xssCons (xsIf (xtCmp (os_eq hr.units) (xVar 1) xStr) (xssOne (xsAppend 4 (xTup (xaCons xStr (xaCons (xBin os_sub (xVar 2) xInt) xaNil))))) xssNil) (xssCons (xsAppend 4 (xTup (xaCons xStr (xaCons (xVar 1) xaNil)))) (xssCons (xsFor (xiRng1 false (xaCons (xVar 2) xaNil) (B0 "range" (by decide))) (xgName 5 nd) (xssCons (xsSetO 4 (xBin os_add (xBin os_add (xVar 4) (xLst (xaCons (xTup (xaCons xStr (xaCons (xVar 5) xaNil))) xaNil))) (xBin os_mul (xLst (xaCons (xTup (xaCons xStr (xaCons (xVar 5) (xaCons (xVar 1) xaNil)))) xaNil)) (xCallTy cs_int (B0 "int" (by decide)) (by decide +kernel) (xaCons (xCmp (os_in (room65 hr)) (xVar 5) (xVar 3)) xaNil)))) nd) (xssOne (xsSetO 4 (xBin os_add (xVar 4) (xBin os_mul (xLst (xaCons (xTup (xaCons xStr (xaCons (xVar 5) (xaCons (xVar 1) xaNil)))) xaNil)) (xCallTy cs_int (B0 "int" (by decide)) (by decide +kernel) (xaCons (xCmp (os_in (room65 hr)) (xVar 1) (xDGet (hu_of hr) (xVar 0) xStr)) xaNil)))) nd))) PassesOwn.never rfl) (xssOne (xsRet (xVar 4))))))))

abbrev s__law_first : Stmt := top 34
abbrev n__law_first : List Str := ["many"]
abbrev p__law_first : List Str := ["many"]
theorem sc__law_first : FnScope n__law_first p__law_first (defScope s__law_first) := ⟨rfl, rfl, rfl, by decide +kernel, rfl, by decide +kernel, by decide +kernel⟩
def g__law_first : FS := (fRet (fTup (fCons (fTup (fCons (fK (.str "new")) (fCons (fTup (fCons (fTup fNil) (fCons (fK (.int 0)) fNil))) (fCons (fK (.bool false)) fNil)))) (fCons (f2 oMul (fTup (fCons (fTup (fCons (fK (.str "idle")) (fCons (fTup (fCons (fTup fNil) (fCons (fK (.int 0)) fNil))) (fCons (fK (.bool false)) (fCons (fTup fNil) (fCons (fTup fNil) (fCons (fK (.bool false)) (fCons (fK (.bool false)) fNil)))))))) fNil)) (fVar 0)) fNil))))
def F__law_first : FF := runF 1 1 g__law_first
def c__law_first : CS := (cRet (cTup (cCons (cTup (cCons (cK (.str "new")) (cCons (cTup (cCons (cTup cNil) (cCons (cK (.int 0)) cNil))) (cCons (cK (.bool false)) cNil)))) (cCons (c2 kMul (cTup (cCons (cTup (cCons (cK (.str "idle")) (cCons (cTup (cCons (cTup cNil) (cCons (cK (.int 0)) cNil))) (cCons (cK (.bool false)) (cCons (cTup cNil) (cCons (cTup cNil) (cCons (cK (.bool false)) (cCons (cK (.bool false)) cNil)))))))) cNil)) (cVar 0)) cNil))))
def C__law_first : CF := cRun 1 1 c__law_first
instance : KF F__law_first C__law_first := by
  unfold F__law_first C__law_first g__law_first
  unfold c__law_first
  infer_instance
theorem ok__law_first (h0 : Here K mg "_law_first" s__law_first p__law_first) (B0 : ∀ x ∈ bltNames, mg x = none) (C0 : Consts K mg) : DefOk (Db.lay CB) P w K mg base 1 "_law_first" F__law_first := by
  obtain ⟨f, fd, F, hm, hb⟩ := h0
  refine def_ok F hm hb sc__law_first fun cdv A outer s H E hr => ?_
  have nd := sc__law_first.nd
  have C0g := C0
  exact (xssOne (xsRet (xTup (xaCons (xTup (xaCons xStr (xaCons (xTup (xaCons (xTup xaNil) (xaCons xInt xaNil))) (xaCons xBl xaNil)))) (xaCons (xBin os_mul (xTup (xaCons (xTup (xaCons xStr (xaCons (xTup (xaCons (xTup xaNil) (xaCons xInt xaNil))) (xaCons xBl (xaCons (xTup xaNil) (xaCons (xTup xaNil) (xaCons xBl (xaCons xBl xaNil)))))))) xaNil)) (xVar 0)) xaNil)))))

abbrev s__law_write : Stmt := top 35
abbrev n__law_write : List Str := ["sheet", "tape", "note", "verb", "notes", "safe"]
abbrev p__law_write : List Str := ["sheet", "tape", "note"]
theorem sc__law_write : FnScope n__law_write p__law_write (defScope s__law_write) := ⟨rfl, rfl, rfl, by decide +kernel, rfl, by decide +kernel, by decide +kernel⟩
def g__law_write : FS := (fSeq (fAsg (gTup 2 (gsCons (gN 3) (gsCons (gTup 2 (gsCons (gN 4) (gsCons (gN 5) gsNil))) gsNil))) (fTup (fCons (f2 oDGet (f2 oDGet (fVar 0) (fK (.str "words"))) (fVar 2)) (fCons (fVar 1) fNil)))) (fSeq (fIfS (fOr (fB (f2 (oEq false) (fVar 3) (fK (.str "none")))) (fB (f2 (oIn false) (fVar 2) (fVar 4)))) (fRet (fVar 1)) fSkip) (fRet (fTup (fCons (f2 oAdd (fVar 4) (fTup (fCons (fVar 2) fNil))) (fCons (fIf (fB (f2 (oEq false) (fVar 3) (fK (.str "forced")))) (f2 oAdd (fCall (o1 gLen) (fCons (fVar 4) fNil)) (fK (.int 1))) (fVar 5)) fNil))))))
def F__law_write : FF := runF 6 3 g__law_write
def c__law_write_2 : CS := (cRet (cTup (cCons (c2 kAdd (cVar 4) (cTup (cCons (cVar 2) cNil))) (cCons (cIf (cB (c2 (kEq false) (cVar 3) (cK (.str "forced")))) (c2 kAdd (cCall (k1 kLen) (cCons (cVar 4) cNil)) (cK (.int 1))) (cVar 5)) cNil))))
def c__law_write_1 : CS := (cSeq (cIfS (cOr (cB (c2 (kEq false) (cVar 3) (cK (.str "none")))) (cB (c2 (kIn false) (cVar 2) (cVar 4)))) (cRet (cVar 1)) cSkip) c__law_write_2)
def c__law_write : CS := (cSeq (cAsg (cgTup 2 (cgsCons (cgN 3) (cgsCons (cgTup 2 (cgsCons (cgN 4) (cgsCons (cgN 5) cgsNil))) cgsNil))) (cTup (cCons (c2 kDGet (c2 kDGet (cVar 0) (cK (.str "words"))) (cVar 2)) (cCons (cVar 1) cNil)))) c__law_write_1)
def C__law_write : CF := cRun 6 3 c__law_write
instance : KF F__law_write C__law_write := by
  unfold F__law_write C__law_write g__law_write
  unfold c__law_write c__law_write_1 c__law_write_2
  infer_instance
theorem ok__law_write (h0 : Here K mg "_law_write" s__law_write p__law_write) (B0 : ∀ x ∈ bltNames, mg x = none) (C0 : Consts K mg) : DefOk (Db.lay CB) P w K mg base 1 "_law_write" F__law_write := by
  obtain ⟨f, fd, F, hm, hb⟩ := h0
  refine def_ok F hm hb sc__law_write fun cdv A outer s H E hr => ?_
  have nd := sc__law_write.nd
  have C0g := C0
  exact (xssCons (xsAsg (xTup (xaCons (xDGet (hu_of hr) (xDGet (hu_of hr) (xVar 0) xStr) (xVar 2)) (xaCons (xVar 1) xaNil))) (xgTup rfl (xgsCons (xgName 3 nd) (xgsCons (xgTup rfl (xgsCons (xgName 4 nd) (xgsCons (xgName 5 nd) xgsNil))) xgsNil)))) (xssCons (xsIf (XW.xt (xwOr (xtCmp (os_eq hr.units) (xVar 3) xStr) (xwOr1 (xtCmp (os_in (room65 hr)) (xVar 2) (xVar 4))))) (xssOne (xsRet (xVar 1))) xssNil) (xssOne (xsRet (xTup (xaCons (xBin os_add (xVar 4) (xTup (xaCons (xVar 2) xaNil))) (xaCons (xIf (xtCmp (os_eq hr.units) (xVar 3) xStr) (xBin os_add (xCallB cs_len (B0 "len" (by decide)) (by decide +kernel) (xaCons (xVar 4) xaNil)) xInt) (xVar 5)) xaNil)))))))

abbrev s__law_seat_behind : Stmt := top 40
abbrev n__law_seat_behind : List Str := ["sheet", "seat", "act", "mind", "tape", "is_decided", "notes", "later"]
abbrev p__law_seat_behind : List Str := ["sheet", "seat", "act"]
theorem sc__law_seat_behind : FnScope n__law_seat_behind p__law_seat_behind (defScope s__law_seat_behind) := ⟨rfl, rfl, rfl, by decide +kernel, rfl, by decide +kernel, by decide +kernel⟩
def g__law_seat_behind : FS := (fSeq (fAsg (gTup 3 (gsCons (gN 3) (gsCons (gN 4) (gsCons (gN 5) gsNil)))) (fVar 1)) (fSeq (fIfS (fB (f2 (oEq false) (f2 oIx (fVar 2) (fK (.int 0))) (fK (.str "ask")))) (fRet (fTup (fCons (fK (.str "asking")) (fCons (fFn F__law_write (fCons (fVar 0) (fCons (fVar 4) (fCons (fK (.str "begin")) fNil)))) (fCons (fVar 5) fNil))))) fSkip) (fSeq (fIfS (fB (f2 (oEq false) (f2 oIx (fVar 2) (fK (.int 0))) (fK (.str "decide")))) (fRet (fTup (fCons (f2 oIx (fVar 2) (fK (.int 1))) (fCons (fFn F__law_write (fCons (fVar 0) (fCons (fVar 4) (fCons (f2 oIx (fVar 2) (fK (.int 1))) fNil)))) (fCons (fOrV (fVar 5) (f2 (oEq false) (f2 oIx (fVar 2) (fK (.int 1))) (fK (.str "yes")))) fNil))))) fSkip) (fSeq (fIfS (fB (f2 (oEq false) (f2 oIx (fVar 2) (fK (.int 0))) (fK (.str "forget")))) (fRet (fTup (fCons (fK (.str "gone")) (fCons (fTup (fCons (fTup fNil) (fCons (fK (.int 0)) fNil))) (fCons (fVar 5) fNil))))) fSkip) (fSeq (fSet 6 (fSl (f2 oIx (fVar 4) (fK (.int 0))) fNoPart (fPart (f2 oIx (fVar 2) (fK (.int 1)))))) (fSeq (fSet 7 (fIf (fB (f2 (oEq true) (fVar 6) (fTup fNil))) (f2 oDGet (fDisp [("begin", (fK (.str "no"))), ("yes", (fK (.str "yes"))), ("no", (fK (.str "no")))]) (f2 oIx (fVar 6) (fNeg (fK (.int 1))))) (fK (.str "gone")))) (fRet (fTup (fCons (fVar 7) (fCons (fTup (fCons (fVar 6) (fCons (fCall (o1 gLen) (fCons (fVar 6) fNil)) fNil))) (fCons (fVar 5) fNil)))))))))))
def F__law_seat_behind : FF := runF 8 3 g__law_seat_behind
def c__law_seat_behind_6 : CS := (cRet (cTup (cCons (cVar 7) (cCons (cTup (cCons (cVar 6) (cCons (cCall (k1 kLen) (cCons (cVar 6) cNil)) cNil))) (cCons (cVar 5) cNil)))))
def c__law_seat_behind_5 : CS := (cSeq (cSet 7 (cIf (cB (c2 (kEq true) (cVar 6) (cTup cNil))) (c2 kDGet (cDisp [("begin" , (cK (.str "no"))) , ("yes" , (cK (.str "yes"))) , ("no" , (cK (.str "no")))]) (c2 kIx (cVar 6) (cNeg (cK (.int 1))))) (cK (.str "gone")))) c__law_seat_behind_6)
def c__law_seat_behind_4 : CS := (cSeq (cSet 6 (cSl (c2 kIx (cVar 4) (cK (.int 0))) cNoPart (cPart (c2 kIx (cVar 2) (cK (.int 1)))))) c__law_seat_behind_5)
def c__law_seat_behind_3 : CS := (cSeq (cIfS (cB (c2 (kEq false) (c2 kIx (cVar 2) (cK (.int 0))) (cK (.str "forget")))) (cRet (cTup (cCons (cK (.str "gone")) (cCons (cTup (cCons (cTup cNil) (cCons (cK (.int 0)) cNil))) (cCons (cVar 5) cNil))))) cSkip) c__law_seat_behind_4)
def c__law_seat_behind_2 : CS := (cSeq (cIfS (cB (c2 (kEq false) (c2 kIx (cVar 2) (cK (.int 0))) (cK (.str "decide")))) (cRet (cTup (cCons (c2 kIx (cVar 2) (cK (.int 1))) (cCons (cFn C__law_write (cCons (cVar 0) (cCons (cVar 4) (cCons (c2 kIx (cVar 2) (cK (.int 1))) cNil)))) (cCons (cOrV (cVar 5) (c2 (kEq false) (c2 kIx (cVar 2) (cK (.int 1))) (cK (.str "yes")))) cNil))))) cSkip) c__law_seat_behind_3)
def c__law_seat_behind_1 : CS := (cSeq (cIfS (cB (c2 (kEq false) (c2 kIx (cVar 2) (cK (.int 0))) (cK (.str "ask")))) (cRet (cTup (cCons (cK (.str "asking")) (cCons (cFn C__law_write (cCons (cVar 0) (cCons (cVar 4) (cCons (cK (.str "begin")) cNil)))) (cCons (cVar 5) cNil))))) cSkip) c__law_seat_behind_2)
def c__law_seat_behind : CS := (cSeq (cAsg (cgTup 3 (cgsCons (cgN 3) (cgsCons (cgN 4) (cgsCons (cgN 5) cgsNil)))) (cVar 1)) c__law_seat_behind_1)
def C__law_seat_behind : CF := cRun 8 3 c__law_seat_behind
instance : KF F__law_seat_behind C__law_seat_behind := by
  unfold F__law_seat_behind C__law_seat_behind g__law_seat_behind
  unfold c__law_seat_behind c__law_seat_behind_1 c__law_seat_behind_2 c__law_seat_behind_3 c__law_seat_behind_4 c__law_seat_behind_5 c__law_seat_behind_6
  infer_instance
theorem ok__law_seat_behind (h0 : Here K mg "_law_seat_behind" s__law_seat_behind p__law_seat_behind) (B0 : ∀ x ∈ bltNames, mg x = none) (C0 : Consts K mg) (D__law_write : DefOk (Db.lay CB) P w K mg base 1 "_law_write" F__law_write) : DefOk (Db.lay CB) P w K mg base 2 "_law_seat_behind" F__law_seat_behind := by
  obtain ⟨f, fd, F, hm, hb⟩ := h0
  refine def_ok F hm hb sc__law_seat_behind fun cdv A outer s H E hr => ?_
  have nd := sc__law_seat_behind.nd
  have C0g := C0
  exact (xssCons (xsAsg (xVar 1) (xgTup rfl (xgsCons (xgName 3 nd) (xgsCons (xgName 4 nd) (xgsCons (xgName 5 nd) xgsNil))))) (xssCons (xsIf (xtCmp (os_eq hr.units) (xIx (xVar 2) xInt) xStr) (xssOne (xsRet (xTup (xaCons xStr (xaCons (xCall D__law_write (hr.mono (by decide)) (xaCons (xVar 0) (xaCons (xVar 4) (xaCons xStr xaNil)))) (xaCons (xVar 5) xaNil)))))) xssNil) (xssCons (xsIf (xtCmp (os_eq hr.units) (xIx (xVar 2) xInt) xStr) (xssOne (xsRet (xTup (xaCons (xIx (xVar 2) xInt) (xaCons (xCall D__law_write (hr.mono (by decide)) (xaCons (xVar 0) (xaCons (xVar 4) (xaCons (xIx (xVar 2) xInt) xaNil)))) (xaCons (xOr (xVar 5) (xOne (xCmp (os_eq hr.units) (xIx (xVar 2) xInt) xStr))) xaNil)))))) xssNil) (xssCons (xsIf (xtCmp (os_eq hr.units) (xIx (xVar 2) xInt) xStr) (xssOne (xsRet (xTup (xaCons xStr (xaCons (xTup (xaCons (xTup xaNil) (xaCons xInt xaNil))) (xaCons (xVar 5) xaNil)))))) xssNil) (xssCons (xsSet 6 (xSl (xIx (xVar 4) xInt) xoNone (xoSome (xIx (xVar 2) xInt))) nd) (xssCons (xsSet 7 (xIf (xtCmp (os_ne hr.units) (xVar 6) (xTup xaNil)) (xDGet (hu_of hr) (xDisp (.cons xStr (.cons xStr (.cons xStr .nil)))) (xIx (xVar 6) (xNeg xInt))) xStr) nd) (xssOne (xsRet (xTup (xaCons (xVar 7) (xaCons (xTup (xaCons (xVar 6) (xaCons (xCallB cs_len (B0 "len" (by decide)) (by decide +kernel) (xaCons (xVar 6) xaNil)) xaNil))) (xaCons (xVar 5) xaNil))))))))))))

abbrev s__law_room_fallen : Stmt := top 41
abbrev n__law_room_fallen : List Str := ["room", "left", "notes", "later", "is_lost"]
abbrev p__law_room_fallen : List Str := ["room", "left"]
theorem sc__law_room_fallen : FnScope n__law_room_fallen p__law_room_fallen (defScope s__law_room_fallen) := ⟨rfl, rfl, rfl, by decide +kernel, rfl, by decide +kernel, by decide +kernel⟩
def g__law_room_fallen : FS := (fSeq (fSet 2 (fSl (f2 oIx (f2 oIx (fVar 0) (fK (.int 1))) (fK (.int 0))) fNoPart (fPart (fVar 1)))) (fSeq (fSet 3 (fIf (fB (f2 (oEq true) (fVar 2) (fTup fNil))) (f2 oDGet (fDisp [("ready", (fK (.str "ready"))), ("agreed", (fK (.str "yes"))), ("refused", (fK (.str "no")))]) (f2 oIx (fVar 2) (fNeg (fK (.int 1))))) (fK (.str "empty")))) (fSeq (fSet 4 (fAndV (f2 (oEq false) (fVar 2) (fTup fNil)) (f2 (oEq true) (f2 oIx (fVar 0) (fK (.int 0))) (fK (.str "empty"))))) (fRet (f2 oAdd (f2 oAdd (fTup (fCons (fVar 3) (fCons (fTup (fCons (fVar 2) (fCons (fVar 1) fNil))) fNil))) (fSl (fVar 0) (fPart (fK (.int 2))) (fPart (fK (.int 6))))) (fTup (fCons (fOrV (f2 oIx (fVar 0) (fK (.int 6))) (fVar 4)) fNil)))))))
def F__law_room_fallen : FF := runF 5 2 g__law_room_fallen
def c__law_room_fallen_3 : CS := (cRet (c2 kAdd (c2 kAdd (cTup (cCons (cVar 3) (cCons (cTup (cCons (cVar 2) (cCons (cVar 1) cNil))) cNil))) (cSl (cVar 0) (cPart (cK (.int 2))) (cPart (cK (.int 6))))) (cTup (cCons (cOrV (c2 kIx (cVar 0) (cK (.int 6))) (cVar 4)) cNil))))
def c__law_room_fallen_2 : CS := (cSeq (cSet 4 (cAndV (c2 (kEq false) (cVar 2) (cTup cNil)) (c2 (kEq true) (c2 kIx (cVar 0) (cK (.int 0))) (cK (.str "empty"))))) c__law_room_fallen_3)
def c__law_room_fallen_1 : CS := (cSeq (cSet 3 (cIf (cB (c2 (kEq true) (cVar 2) (cTup cNil))) (c2 kDGet (cDisp [("ready" , (cK (.str "ready"))) , ("agreed" , (cK (.str "yes"))) , ("refused" , (cK (.str "no")))]) (c2 kIx (cVar 2) (cNeg (cK (.int 1))))) (cK (.str "empty")))) c__law_room_fallen_2)
def c__law_room_fallen : CS := (cSeq (cSet 2 (cSl (c2 kIx (c2 kIx (cVar 0) (cK (.int 1))) (cK (.int 0))) cNoPart (cPart (cVar 1)))) c__law_room_fallen_1)
def C__law_room_fallen : CF := cRun 5 2 c__law_room_fallen
instance : KF F__law_room_fallen C__law_room_fallen := by
  unfold F__law_room_fallen C__law_room_fallen g__law_room_fallen
  unfold c__law_room_fallen c__law_room_fallen_1 c__law_room_fallen_2 c__law_room_fallen_3
  infer_instance
theorem ok__law_room_fallen (h0 : Here K mg "_law_room_fallen" s__law_room_fallen p__law_room_fallen) (B0 : ∀ x ∈ bltNames, mg x = none) (C0 : Consts K mg) : DefOk (Db.lay CB) P w K mg base 1 "_law_room_fallen" F__law_room_fallen := by
  obtain ⟨f, fd, F, hm, hb⟩ := h0
  refine def_ok F hm hb sc__law_room_fallen fun cdv A outer s H E hr => ?_
  have nd := sc__law_room_fallen.nd
  have C0g := C0
  exact (xssCons (xsSet 2 (xSl (xIx (xIx (xVar 0) xInt) xInt) xoNone (xoSome (xVar 1))) nd) (xssCons (xsSet 3 (xIf (xtCmp (os_ne hr.units) (xVar 2) (xTup xaNil)) (xDGet (hu_of hr) (xDisp (.cons xStr (.cons xStr (.cons xStr .nil)))) (xIx (xVar 2) (xNeg xInt))) xStr) nd) (xssCons (xsSet 4 (xAnd (xCmp (os_eq hr.units) (xVar 2) (xTup xaNil)) (xOne (xCmp (os_ne hr.units) (xIx (xVar 0) xInt) xStr))) nd) (xssOne (xsRet (xBin os_add (xBin os_add (xTup (xaCons (xVar 3) (xaCons (xTup (xaCons (xVar 2) (xaCons (xVar 1) xaNil))) xaNil))) (xSl (xVar 0) (xoSome xInt) (xoSome xInt))) (xTup (xaCons (xOr (xIx (xVar 0) xInt) (xOne (xVar 4))) xaNil))))))))

abbrev s__law_said : Stmt := top 36
abbrev n__law_said : List Str := ["sheet", "seat"]
abbrev p__law_said : List Str := ["sheet", "seat"]
theorem sc__law_said : FnScope n__law_said p__law_said (defScope s__law_said) := ⟨rfl, rfl, rfl, by decide +kernel, rfl, by decide +kernel, by decide +kernel⟩
def g__law_said : FS := (fSeq (fIfS (fB (f2 (oIn false) (f2 oIx (fVar 1) (fK (.int 0))) (fTup (fCons (fK (.str "yes")) (fCons (fK (.str "no")) fNil))))) (fRet (f2 oIx (fVar 1) (fK (.int 0)))) fSkip) (fRet (fIf (fAnd (fB (f2 (oEq false) (f2 oIx (fVar 1) (fK (.int 0))) (fK (.str "gone")))) (fB (f2 (oEq true) (f2 oDGet (fVar 0) (fK (.str "presume"))) (fK (.str "wait"))))) (f2 oDGet (fVar 0) (fK (.str "presume"))) (fK .none))))
def F__law_said : FF := runF 2 2 g__law_said
def c__law_said_1 : CS := (cRet (cIf (cAnd (cB (c2 (kEq false) (c2 kIx (cVar 1) (cK (.int 0))) (cK (.str "gone")))) (cB (c2 (kEq true) (c2 kDGet (cVar 0) (cK (.str "presume"))) (cK (.str "wait"))))) (c2 kDGet (cVar 0) (cK (.str "presume"))) (cK .none)))
def c__law_said : CS := (cSeq (cIfS (cB (c2 (kIn false) (c2 kIx (cVar 1) (cK (.int 0))) (cTup (cCons (cK (.str "yes")) (cCons (cK (.str "no")) cNil))))) (cRet (c2 kIx (cVar 1) (cK (.int 0)))) cSkip) c__law_said_1)
def C__law_said : CF := cRun 2 2 c__law_said
instance : KF F__law_said C__law_said := by
  unfold F__law_said C__law_said g__law_said
  unfold c__law_said c__law_said_1
  infer_instance
theorem ok__law_said (h0 : Here K mg "_law_said" s__law_said p__law_said) (B0 : ∀ x ∈ bltNames, mg x = none) (C0 : Consts K mg) : DefOk (Db.lay CB) P w K mg base 1 "_law_said" F__law_said := by
  obtain ⟨f, fd, F, hm, hb⟩ := h0
  refine def_ok F hm hb sc__law_said fun cdv A outer s H E hr => ?_
  have nd := sc__law_said.nd
  have C0g := C0
  exact (xssCons (xsIf (xtCmp (os_in (room65 hr)) (xIx (xVar 1) xInt) (xTup (xaCons xStr (xaCons xStr xaNil)))) (xssOne (xsRet (xIx (xVar 1) xInt))) xssNil) (xssOne (xsRet (xIf (XW.xt (xwAnd (xtCmp (os_eq hr.units) (xIx (xVar 1) xInt) xStr) (xwAnd1 (xtCmp (os_ne hr.units) (xDGet (hu_of hr) (xVar 0) xStr) xStr)))) (xDGet (hu_of hr) (xVar 0) xStr) xNon))))

abbrev s__law_room_behind : Stmt := top 42
abbrev n__law_room_behind : List Str := ["sheet", "seat", "room", "act", "mind", "tape", "voted", "told_here", "replied", "took", "dropped", "more"]
abbrev p__law_room_behind : List Str := ["sheet", "seat", "room", "act"]
theorem sc__law_room_behind : FnScope n__law_room_behind p__law_room_behind (defScope s__law_room_behind) := ⟨rfl, rfl, rfl, by decide +kernel, rfl, by decide +kernel, by decide +kernel⟩
def g__law_room_behind : FS := (fSeq (fAsg (gTup 7 (gsCons (gN 4) (gsCons (gN 5) (gsCons (gN 6) (gsCons (gN 7) (gsCons (gN 8) (gsCons (gN 9) (gsCons (gN 10) gsNil)))))))) (fVar 2)) (fSeq (fIfS (fB (f2 (oEq false) (f2 oIx (fVar 3) (fK (.int 0))) (fK (.str "vote")))) (fRet (fTup (fCons (fK (.str "ready")) (fCons (fFn F__law_write (fCons (fVar 0) (fCons (fVar 5) (fCons (fK (.str "ready")) fNil)))) (fCons (fK (.bool true)) (fCons (fVar 7) (fCons (fVar 8) (fCons (fVar 9) (fCons (fVar 10) fNil))))))))) fSkip) (fSeq (fIfS (fB (f2 (oEq false) (f2 oIx (fVar 3) (fK (.int 0))) (fK (.str "tell")))) (fSeq (fSet 11 (fCall (o1 gTuple) (fCons (fCall (o1 gSortedS) (fCons (f2 oAdd (fVar 7) (fTup (fCons (fFn F__law_said (fCons (fVar 0) (fCons (fVar 1) fNil))) fNil))) fNil)) fNil))) (fRet (fTup (fCons (fVar 4) (fCons (fVar 5) (fCons (fVar 6) (fCons (fVar 11) (fCons (fVar 8) (fCons (fVar 9) (fCons (fVar 10) fNil)))))))))) fSkip) (fSeq (fIfS (fB (f2 (oEq false) (f2 oIx (fVar 3) (fK (.int 0))) (fK (.str "answer")))) (fRet (fTup (fCons (fVar 4) (fCons (fVar 5) (fCons (fVar 6) (fCons (fVar 7) (fCons (fCall (o1 gTuple) (fCons (fCall (o1 gSortedS) (fCons (f2 oAdd (fVar 8) (fTup (fCons (f2 oIx (fVar 3) (fK (.int 2))) fNil))) fNil)) fNil)) (fCons (fVar 9) (fCons (fVar 10) fNil))))))))) fSkip) (fSeq (fIfS (fB (f2 (oEq false) (f2 oIx (fVar 3) (fK (.int 0))) (fK (.str "clear")))) (fRet (fTup (fCons (fK (.str "empty")) (fCons (fTup (fCons (fTup fNil) (fCons (fK (.int 0)) fNil))) (fCons (fVar 6) (fCons (fVar 7) (fCons (fVar 8) (fCons (fVar 9) (fCons (fVar 10) fNil))))))))) fSkip) (fSeq (fIfS (fB (f2 (oEq false) (f2 oIx (fVar 3) (fK (.int 0))) (fK (.str "fall")))) (fRet (fFn F__law_room_fallen (fCons (fVar 2) (fCons (f2 oIx (fVar 3) (fK (.int 2))) fNil)))) fSkip) (fSeq (fIfS (fAnd (fB (f2 (oEq false) (f2 oIx (fVar 3) (fK (.int 0))) (fK (.str "hear")))) (fB (f2 (oEq false) (f2 oIx (fVar 3) (fK (.int 2))) (fK (.str "yes"))))) (fRet (fTup (fCons (fK (.str "yes")) (fCons (fFn F__law_write (fCons (fVar 0) (fCons (fVar 5) (fCons (fK (.str "agreed")) fNil)))) (fCons (fVar 6) (fCons (fVar 7) (fCons (fVar 8) (fCons (fK (.bool true)) (fCons (fVar 10) fNil))))))))) fSkip) (fRet (fTup (fCons (fK (.str "no")) (fCons (fFn F__law_write (fCons (fVar 0) (fCons (fVar 5) (fCons (fK (.str "refused")) fNil)))) (fCons (fVar 6) (fCons (fVar 7) (fCons (fVar 8) (fCons (fVar 9) (fCons (fK (.bool true)) fNil))))))))))))))))
def F__law_room_behind : FF := runF 12 4 g__law_room_behind
def c__law_room_behind_7 : CS := (cRet (cTup (cCons (cK (.str "no")) (cCons (cFn C__law_write (cCons (cVar 0) (cCons (cVar 5) (cCons (cK (.str "refused")) cNil)))) (cCons (cVar 6) (cCons (cVar 7) (cCons (cVar 8) (cCons (cVar 9) (cCons (cK (.bool true)) cNil)))))))))
def c__law_room_behind_6 : CS := (cSeq (cIfS (cAnd (cB (c2 (kEq false) (c2 kIx (cVar 3) (cK (.int 0))) (cK (.str "hear")))) (cB (c2 (kEq false) (c2 kIx (cVar 3) (cK (.int 2))) (cK (.str "yes"))))) (cRet (cTup (cCons (cK (.str "yes")) (cCons (cFn C__law_write (cCons (cVar 0) (cCons (cVar 5) (cCons (cK (.str "agreed")) cNil)))) (cCons (cVar 6) (cCons (cVar 7) (cCons (cVar 8) (cCons (cK (.bool true)) (cCons (cVar 10) cNil))))))))) cSkip) c__law_room_behind_7)
def c__law_room_behind_5 : CS := (cSeq (cIfS (cB (c2 (kEq false) (c2 kIx (cVar 3) (cK (.int 0))) (cK (.str "fall")))) (cRet (cFn C__law_room_fallen (cCons (cVar 2) (cCons (c2 kIx (cVar 3) (cK (.int 2))) cNil)))) cSkip) c__law_room_behind_6)
def c__law_room_behind_4 : CS := (cSeq (cIfS (cB (c2 (kEq false) (c2 kIx (cVar 3) (cK (.int 0))) (cK (.str "clear")))) (cRet (cTup (cCons (cK (.str "empty")) (cCons (cTup (cCons (cTup cNil) (cCons (cK (.int 0)) cNil))) (cCons (cVar 6) (cCons (cVar 7) (cCons (cVar 8) (cCons (cVar 9) (cCons (cVar 10) cNil))))))))) cSkip) c__law_room_behind_5)
def c__law_room_behind_3 : CS := (cSeq (cIfS (cB (c2 (kEq false) (c2 kIx (cVar 3) (cK (.int 0))) (cK (.str "answer")))) (cRet (cTup (cCons (cVar 4) (cCons (cVar 5) (cCons (cVar 6) (cCons (cVar 7) (cCons (cCall (k1 kTuple) (cCons (cCall (k1 kSortedS) (cCons (c2 kAdd (cVar 8) (cTup (cCons (c2 kIx (cVar 3) (cK (.int 2))) cNil))) cNil)) cNil)) (cCons (cVar 9) (cCons (cVar 10) cNil))))))))) cSkip) c__law_room_behind_4)
def c__law_room_behind_2 : CS := (cSeq (cIfS (cB (c2 (kEq false) (c2 kIx (cVar 3) (cK (.int 0))) (cK (.str "tell")))) (cSeq (cSet 11 (cCall (k1 kTuple) (cCons (cCall (k1 kSortedS) (cCons (c2 kAdd (cVar 7) (cTup (cCons (cFn C__law_said (cCons (cVar 0) (cCons (cVar 1) cNil))) cNil))) cNil)) cNil))) (cRet (cTup (cCons (cVar 4) (cCons (cVar 5) (cCons (cVar 6) (cCons (cVar 11) (cCons (cVar 8) (cCons (cVar 9) (cCons (cVar 10) cNil)))))))))) cSkip) c__law_room_behind_3)
def c__law_room_behind_1 : CS := (cSeq (cIfS (cB (c2 (kEq false) (c2 kIx (cVar 3) (cK (.int 0))) (cK (.str "vote")))) (cRet (cTup (cCons (cK (.str "ready")) (cCons (cFn C__law_write (cCons (cVar 0) (cCons (cVar 5) (cCons (cK (.str "ready")) cNil)))) (cCons (cK (.bool true)) (cCons (cVar 7) (cCons (cVar 8) (cCons (cVar 9) (cCons (cVar 10) cNil))))))))) cSkip) c__law_room_behind_2)
def c__law_room_behind : CS := (cSeq (cAsg (cgTup 7 (cgsCons (cgN 4) (cgsCons (cgN 5) (cgsCons (cgN 6) (cgsCons (cgN 7) (cgsCons (cgN 8) (cgsCons (cgN 9) (cgsCons (cgN 10) cgsNil)))))))) (cVar 2)) c__law_room_behind_1)
def C__law_room_behind : CF := cRun 12 4 c__law_room_behind
instance : KF F__law_room_behind C__law_room_behind := by
  unfold F__law_room_behind C__law_room_behind g__law_room_behind
  unfold c__law_room_behind c__law_room_behind_1 c__law_room_behind_2 c__law_room_behind_3 c__law_room_behind_4 c__law_room_behind_5 c__law_room_behind_6 c__law_room_behind_7
  infer_instance
theorem ok__law_room_behind (h0 : Here K mg "_law_room_behind" s__law_room_behind p__law_room_behind) (B0 : ∀ x ∈ bltNames, mg x = none) (C0 : Consts K mg) (D__law_write : DefOk (Db.lay CB) P w K mg base 1 "_law_write" F__law_write) (D__law_room_fallen : DefOk (Db.lay CB) P w K mg base 1 "_law_room_fallen" F__law_room_fallen) (D__law_said : DefOk (Db.lay CB) P w K mg base 1 "_law_said" F__law_said) : DefOk (Db.lay CB) P w K mg base 2 "_law_room_behind" F__law_room_behind := by
  obtain ⟨f, fd, F, hm, hb⟩ := h0
  refine def_ok F hm hb sc__law_room_behind fun cdv A outer s H E hr => ?_
  have nd := sc__law_room_behind.nd
  have C0g := C0
  exact (xssCons (xsAsg (xVar 2) (xgTup rfl (xgsCons (xgName 4 nd) (xgsCons (xgName 5 nd) (xgsCons (xgName 6 nd) (xgsCons (xgName 7 nd) (xgsCons (xgName 8 nd) (xgsCons (xgName 9 nd) (xgsCons (xgName 10 nd) xgsNil))))))))) (xssCons (xsIf (xtCmp (os_eq hr.units) (xIx (xVar 3) xInt) xStr) (xssOne (xsRet (xTup (xaCons xStr (xaCons (xCall D__law_write (hr.mono (by decide)) (xaCons (xVar 0) (xaCons (xVar 5) (xaCons xStr xaNil)))) (xaCons xBl (xaCons (xVar 7) (xaCons (xVar 8) (xaCons (xVar 9) (xaCons (xVar 10) xaNil)))))))))) xssNil) (xssCons (xsIf (xtCmp (os_eq hr.units) (xIx (xVar 3) xInt) xStr) (xssCons (xsSet 11 (xCallTy cs_tuple (B0 "tuple" (by decide)) (by decide +kernel) (xaCons (xCallB cs_sortedS (B0 "sorted" (by decide)) (by decide +kernel) (xaCons (xBin os_add (xVar 7) (xTup (xaCons (xCall D__law_said (hr.mono (by decide)) (xaCons (xVar 0) (xaCons (xVar 1) xaNil))) xaNil))) xaNil)) xaNil)) nd) (xssOne (xsRet (xTup (xaCons (xVar 4) (xaCons (xVar 5) (xaCons (xVar 6) (xaCons (xVar 11) (xaCons (xVar 8) (xaCons (xVar 9) (xaCons (xVar 10) xaNil))))))))))) xssNil) (xssCons (xsIf (xtCmp (os_eq hr.units) (xIx (xVar 3) xInt) xStr) (xssOne (xsRet (xTup (xaCons (xVar 4) (xaCons (xVar 5) (xaCons (xVar 6) (xaCons (xVar 7) (xaCons (xCallTy cs_tuple (B0 "tuple" (by decide)) (by decide +kernel) (xaCons (xCallB cs_sortedS (B0 "sorted" (by decide)) (by decide +kernel) (xaCons (xBin os_add (xVar 8) (xTup (xaCons (xIx (xVar 3) xInt) xaNil))) xaNil)) xaNil)) (xaCons (xVar 9) (xaCons (xVar 10) xaNil)))))))))) xssNil) (xssCons (xsIf (xtCmp (os_eq hr.units) (xIx (xVar 3) xInt) xStr) (xssOne (xsRet (xTup (xaCons xStr (xaCons (xTup (xaCons (xTup xaNil) (xaCons xInt xaNil))) (xaCons (xVar 6) (xaCons (xVar 7) (xaCons (xVar 8) (xaCons (xVar 9) (xaCons (xVar 10) xaNil)))))))))) xssNil) (xssCons (xsIf (xtCmp (os_eq hr.units) (xIx (xVar 3) xInt) xStr) (xssOne (xsRet (xCall D__law_room_fallen (hr.mono (by decide)) (xaCons (xVar 2) (xaCons (xIx (xVar 3) xInt) xaNil))))) xssNil) (xssCons (xsIf (XW.xt (xwAnd (xtCmp (os_eq hr.units) (xIx (xVar 3) xInt) xStr) (xwAnd1 (xtCmp (os_eq hr.units) (xIx (xVar 3) xInt) xStr)))) (xssOne (xsRet (xTup (xaCons xStr (xaCons (xCall D__law_write (hr.mono (by decide)) (xaCons (xVar 0) (xaCons (xVar 5) (xaCons xStr xaNil)))) (xaCons (xVar 6) (xaCons (xVar 7) (xaCons (xVar 8) (xaCons xBl (xaCons (xVar 10) xaNil)))))))))) xssNil) (xssOne (xsRet (xTup (xaCons xStr (xaCons (xCall D__law_write (hr.mono (by decide)) (xaCons (xVar 0) (xaCons (xVar 5) (xaCons xStr xaNil)))) (xaCons (xVar 6) (xaCons (xVar 7) (xaCons (xVar 8) (xaCons (xVar 9) (xaCons xBl xaNil)))))))))))))))))

abbrev s__law_stand_behind : Stmt := top 43
abbrev n__law_stand_behind : List Str := ["sheet", "stand", "act", "seat", "rooms", "at"]
abbrev p__law_stand_behind : List Str := ["sheet", "stand", "act"]
theorem sc__law_stand_behind : FnScope n__law_stand_behind p__law_stand_behind (defScope s__law_stand_behind) := ⟨rfl, rfl, rfl, by decide +kernel, rfl, by decide +kernel, by decide +kernel⟩
def g__law_stand_behind : FS := (fSeq (fAsg (gTup 2 (gsCons (gN 3) (gsCons (gN 4) gsNil))) (fVar 1)) (fSeq (fIfS (fB (f2 (oIn false) (f2 oIx (fVar 2) (fK (.int 0))) (fTup (fCons (fK (.str "ask")) (fCons (fK (.str "decide")) (fCons (fK (.str "forget")) (fCons (fK (.str "down")) fNil))))))) (fRet (fTup (fCons (fFn F__law_seat_behind (fCons (fVar 0) (fCons (fVar 3) (fCons (fVar 2) fNil)))) (fCons (fVar 4) fNil)))) fSkip) (fSeq (fSet 5 (f2 oIx (fVar 2) (fK (.int 1)))) (fRet (fTup (fCons (fVar 3) (fCons (f2 oAdd (f2 oAdd (fSl (fVar 4) fNoPart (fPart (fVar 5))) (fTup (fCons (fFn F__law_room_behind (fCons (fVar 0) (fCons (fVar 3) (fCons (f2 oIx (fVar 4) (fVar 5)) (fCons (fVar 2) fNil))))) fNil))) (fSl (fVar 4) (fPart (f2 oAdd (fVar 5) (fK (.int 1)))) fNoPart)) fNil)))))))
def F__law_stand_behind : FF := runF 6 3 g__law_stand_behind
def c__law_stand_behind_3 : CS := (cRet (cTup (cCons (cVar 3) (cCons (c2 kAdd (c2 kAdd (cSl (cVar 4) cNoPart (cPart (cVar 5))) (cTup (cCons (cFn C__law_room_behind (cCons (cVar 0) (cCons (cVar 3) (cCons (c2 kIx (cVar 4) (cVar 5)) (cCons (cVar 2) cNil))))) cNil))) (cSl (cVar 4) (cPart (c2 kAdd (cVar 5) (cK (.int 1)))) cNoPart)) cNil))))
def c__law_stand_behind_2 : CS := (cSeq (cSet 5 (c2 kIx (cVar 2) (cK (.int 1)))) c__law_stand_behind_3)
def c__law_stand_behind_1 : CS := (cSeq (cIfS (cB (c2 (kIn false) (c2 kIx (cVar 2) (cK (.int 0))) (cTup (cCons (cK (.str "ask")) (cCons (cK (.str "decide")) (cCons (cK (.str "forget")) (cCons (cK (.str "down")) cNil))))))) (cRet (cTup (cCons (cFn C__law_seat_behind (cCons (cVar 0) (cCons (cVar 3) (cCons (cVar 2) cNil)))) (cCons (cVar 4) cNil)))) cSkip) c__law_stand_behind_2)
def c__law_stand_behind : CS := (cSeq (cAsg (cgTup 2 (cgsCons (cgN 3) (cgsCons (cgN 4) cgsNil))) (cVar 1)) c__law_stand_behind_1)
def C__law_stand_behind : CF := cRun 6 3 c__law_stand_behind
instance : KF F__law_stand_behind C__law_stand_behind := by
  unfold F__law_stand_behind C__law_stand_behind g__law_stand_behind
  unfold c__law_stand_behind c__law_stand_behind_1 c__law_stand_behind_2 c__law_stand_behind_3
  infer_instance
theorem ok__law_stand_behind (h0 : Here K mg "_law_stand_behind" s__law_stand_behind p__law_stand_behind) (B0 : ∀ x ∈ bltNames, mg x = none) (C0 : Consts K mg) (D__law_seat_behind : DefOk (Db.lay CB) P w K mg base 2 "_law_seat_behind" F__law_seat_behind) (D__law_room_behind : DefOk (Db.lay CB) P w K mg base 2 "_law_room_behind" F__law_room_behind) : DefOk (Db.lay CB) P w K mg base 3 "_law_stand_behind" F__law_stand_behind := by
  obtain ⟨f, fd, F, hm, hb⟩ := h0
  refine def_ok F hm hb sc__law_stand_behind fun cdv A outer s H E hr => ?_
  have nd := sc__law_stand_behind.nd
  have C0g := C0
  exact (xssCons (xsAsg (xVar 1) (xgTup rfl (xgsCons (xgName 3 nd) (xgsCons (xgName 4 nd) xgsNil)))) (xssCons (xsIf (xtCmp (os_in (room65 hr)) (xIx (xVar 2) xInt) (xTup (xaCons xStr (xaCons xStr (xaCons xStr (xaCons xStr xaNil)))))) (xssOne (xsRet (xTup (xaCons (xCall D__law_seat_behind (hr.mono (by decide)) (xaCons (xVar 0) (xaCons (xVar 3) (xaCons (xVar 2) xaNil)))) (xaCons (xVar 4) xaNil))))) xssNil) (xssCons (xsSet 5 (xIx (xVar 2) xInt) nd) (xssOne (xsRet (xTup (xaCons (xVar 3) (xaCons (xBin os_add (xBin os_add (xSl (xVar 4) xoNone (xoSome (xVar 5))) (xTup (xaCons (xCall D__law_room_behind (hr.mono (by decide)) (xaCons (xVar 0) (xaCons (xVar 3) (xaCons (xIx (xVar 4) (xVar 5)) (xaCons (xVar 2) xaNil))))) xaNil))) (xSl (xVar 4) (xoSome (xBin os_add (xVar 5) xInt)) xoNone)) xaNil))))))))

abbrev s__law_chair_acts : Stmt := top 37
abbrev n__law_chair_acts : List Str := ["sheet", "seat", "rooms", "found", "rest", "is_free", "left", "room"]
abbrev p__law_chair_acts : List Str := ["sheet", "seat", "rooms"]
theorem sc__law_chair_acts : FnScope n__law_chair_acts p__law_chair_acts (defScope s__law_chair_acts) := ⟨rfl, rfl, rfl, by decide +kernel, rfl, by decide +kernel, by decide +kernel⟩
def g__law_chair_acts : FS := (fSeq (fIfS (fB (f2 (oEq false) (f2 oIx (fVar 1) (fK (.int 0))) (fK (.str "new")))) (fRet (fLst (fCons (fTup (fCons (fK (.str "ask")) fNil)) fNil))) fSkip) (fSeq (fSetO 3 (fLc (fRng2 (fCons (f2 oIx (f2 oIx (fVar 1) (fK (.int 1))) (fK (.int 1))) (fCons (f2 oAdd (fCall (o1 gLen) (fCons (f2 oIx (f2 oIx (fVar 1) (fK (.int 1))) (fK (.int 0))) fNil)) (fK (.int 1))) fNil))) (gN 6) fYes (fTup (fCons (fK (.str "down")) (fCons (fVar 6) fNil))) [6])) (fSeq (fIfS (fB (f2 (oEq false) (f2 oIx (fVar 1) (fK (.int 0))) (fK (.str "asking")))) (fSeq (fAppend 3 (fTup (fCons (fK (.str "decide")) (fCons (fK (.str "no")) fNil)))) (fIfS (fB (f2 (oEq false) (fLc (fItT (fVar 2)) (gN 7) (fNot (fB (f2 oIx (fVar 7) (fK (.int 2))))) (fVar 7) [7]) (fLst fNil))) (fAppend 3 (fTup (fCons (fK (.str "decide")) (fCons (fK (.str "yes")) fNil)))) fSkip)) fSkip) (fSeq (fSet 4 (fLc (fItT (fVar 2)) (gN 7) (fB (f2 (oIn true) (f2 oIx (fVar 1) (fK (.int 0))) (f2 oIx (fVar 7) (fK (.int 4))))) (fVar 7) [7])) (fSeq (fSet 5 (fOrV (f2 (oIn true) (f2 oIx (fVar 1) (fK (.int 0))) (f2 oDGet (fVar 0) (fK (.str "answers")))) (f2 (oEq false) (fVar 4) (fLst fNil)))) (fRet (fIf (fAnd (fB (f2 (oIn false) (f2 oIx (fVar 1) (fK (.int 0))) (fTup (fCons (fK (.str "yes")) (fCons (fK (.str "no")) fNil))))) (fB (fVar 5))) (f2 oAdd (fVar 3) (fLst (fCons (fTup (fCons (fK (.str "forget")) fNil)) fNil))) (fVar 3))))))))
def F__law_chair_acts : FF := runF 8 3 g__law_chair_acts
def c__law_chair_acts_5 : CS := (cRet (cIf (cAnd (cB (c2 (kIn false) (c2 kIx (cVar 1) (cK (.int 0))) (cTup (cCons (cK (.str "yes")) (cCons (cK (.str "no")) cNil))))) (cB (cVar 5))) (c2 kAdd (cVar 3) (cLst (cCons (cTup (cCons (cK (.str "forget")) cNil)) cNil))) (cVar 3)))
def c__law_chair_acts_4 : CS := (cSeq (cSet 5 (cOrV (c2 (kIn true) (c2 kIx (cVar 1) (cK (.int 0))) (c2 kDGet (cVar 0) (cK (.str "answers")))) (c2 (kEq false) (cVar 4) (cLst cNil)))) c__law_chair_acts_5)
def c__law_chair_acts_3 : CS := (cSeq (cSet 4 (cLc (cItT (cVar 2)) (cgN 7) (cB (c2 (kIn true) (c2 kIx (cVar 1) (cK (.int 0))) (c2 kIx (cVar 7) (cK (.int 4))))) (cVar 7) [7])) c__law_chair_acts_4)
def c__law_chair_acts_2 : CS := (cSeq (cIfS (cB (c2 (kEq false) (c2 kIx (cVar 1) (cK (.int 0))) (cK (.str "asking")))) (cSeq (cAppend 3 (cTup (cCons (cK (.str "decide")) (cCons (cK (.str "no")) cNil)))) (cIfS (cB (c2 (kEq false) (cLc (cItT (cVar 2)) (cgN 7) (cNot (cB (c2 kIx (cVar 7) (cK (.int 2))))) (cVar 7) [7]) (cLst cNil))) (cAppend 3 (cTup (cCons (cK (.str "decide")) (cCons (cK (.str "yes")) cNil)))) cSkip)) cSkip) c__law_chair_acts_3)
def c__law_chair_acts_1 : CS := (cSeq (cSetO 3 (cLc (cRng2 (cCons (c2 kIx (c2 kIx (cVar 1) (cK (.int 1))) (cK (.int 1))) (cCons (c2 kAdd (cCall (k1 kLen) (cCons (c2 kIx (c2 kIx (cVar 1) (cK (.int 1))) (cK (.int 0))) cNil)) (cK (.int 1))) cNil))) (cgN 6) cYes (cTup (cCons (cK (.str "down")) (cCons (cVar 6) cNil))) [6])) c__law_chair_acts_2)
def c__law_chair_acts : CS := (cSeq (cIfS (cB (c2 (kEq false) (c2 kIx (cVar 1) (cK (.int 0))) (cK (.str "new")))) (cRet (cLst (cCons (cTup (cCons (cK (.str "ask")) cNil)) cNil))) cSkip) c__law_chair_acts_1)
def C__law_chair_acts : CF := cRun 8 3 c__law_chair_acts
instance : KF F__law_chair_acts C__law_chair_acts := by
  unfold F__law_chair_acts C__law_chair_acts g__law_chair_acts
  unfold c__law_chair_acts c__law_chair_acts_1 c__law_chair_acts_2 c__law_chair_acts_3 c__law_chair_acts_4 c__law_chair_acts_5
  infer_instance
theorem ok__law_chair_acts (h0 : Here K mg "_law_chair_acts" s__law_chair_acts p__law_chair_acts) (B0 : ∀ x ∈ bltNames, mg x = none) (C0 : Consts K mg) : DefOk (Db.lay CB) P w K mg base 1 "_law_chair_acts" F__law_chair_acts := by
  obtain ⟨f, fd, F, hm, hb⟩ := h0
  refine def_ok F hm hb sc__law_chair_acts fun cdv A outer s H E hr => ?_
  have nd := sc__law_chair_acts.nd
  have C0g := C0
  exact (xssCons (xsIf (xtCmp (os_eq hr.units) (xIx (xVar 1) xInt) xStr) (xssOne (xsRet (xLst (xaCons (xTup (xaCons xStr xaNil)) xaNil)))) xssNil) (xssCons (xsSetLcO 3 [("left", 6)] rfl nd (xiRng2 true (xaCons (xIx (xIx (xVar 1) xInt) xInt) (xaCons (xBin os_add (xCallB cs_len (B0 "len" (by decide)) (by decide +kernel) (xaCons (xIx (xIx (xVar 1) xInt) xInt) xaNil)) xInt) xaNil)) (B0 "range" (by decide))) (by change blkC n__law_chair_acts (defScope s__law_chair_acts) _ _ = true; decide +kernel) (fun _ _ _ _ _ => (xgName 6 nd)) (fun _ _ _ _ _ => xtsNil) (fun _ _ _ _ _ => (xTup (xaCons xStr (xaCons (xVar 6) xaNil)))) (sw_true rfl rfl rfl (by decide +kernel))) (xssCons (xsIf (xtCmp (os_eq hr.units) (xIx (xVar 1) xInt) xStr) (xssCons (xsAppend 3 (xTup (xaCons xStr (xaCons xStr xaNil)))) (xssOne (xsIf (xtCmp (os_eq hr.units) (xLc [("room", 7)] rfl nd (xiTup true (xVar 2)) (by change blkC n__law_chair_acts (defScope s__law_chair_acts) _ _ = true; decide +kernel) (fun _ _ _ _ _ => (xgName 7 nd)) (fun _ _ _ _ _ => (xtsOne (xtNot (xtVal (xIx (xVar 7) xInt))))) (fun _ _ _ _ _ => (xVar 7))) (xLst xaNil)) (xssOne (xsAppend 3 (xTup (xaCons xStr (xaCons xStr xaNil))))) xssNil))) xssNil) (xssCons (xsSetLc 4 [("room", 7)] rfl nd (xiTup true (xVar 2)) (by change blkC n__law_chair_acts (defScope s__law_chair_acts) _ _ = true; decide +kernel) (fun _ _ _ _ _ => (xgName 7 nd)) (fun _ _ _ _ _ => (xtsOne (xtCmp (os_notIn (room65 hr)) (xIx (xVar 1) xInt) (xIx (xVar 7) xInt)))) (fun _ _ _ _ _ => (xVar 7)) (sw_true rfl rfl rfl (by decide +kernel))) (xssCons (xsSet 5 (xOr (xCmp (os_notIn (room65 hr)) (xIx (xVar 1) xInt) (xDGet (hu_of hr) (xVar 0) xStr)) (xOne (xCmp (os_eq hr.units) (xVar 4) (xLst xaNil)))) nd) (xssOne (xsRet (xIf (XW.xt (xwAnd (xtCmp (os_in (room65 hr)) (xIx (xVar 1) xInt) (xTup (xaCons xStr (xaCons xStr xaNil)))) (xwAnd1 (xtVal (xVar 5))))) (xBin os_add (xVar 3) (xLst (xaCons (xTup (xaCons xStr xaNil)) xaNil))) (xVar 3)))))))))

abbrev s__law_room_acts : Stmt := top 38
abbrev n__law_room_acts : List Str := ["sheet", "seat", "at", "room", "mind", "tape", "told_here", "said", "found", "item", "left"]
abbrev p__law_room_acts : List Str := ["sheet", "seat", "at", "room"]
theorem sc__law_room_acts : FnScope n__law_room_acts p__law_room_acts (defScope s__law_room_acts) := ⟨rfl, rfl, rfl, by decide +kernel, rfl, by decide +kernel, by decide +kernel⟩
def g__law_room_acts : FS := (fSeq (fPar3 4 5 6 (fCons (f2 oIx (fVar 3) (fK (.int 0))) (fCons (f2 oIx (fVar 3) (fK (.int 1))) (fCons (f2 oIx (fVar 3) (fK (.int 3))) fNil)))) (fSeq (fSet 7 (fFn F__law_said (fCons (fVar 0) (fCons (fVar 1) fNil)))) (fSeq (fSetO 8 (fLc (fRng2 (fCons (f2 oIx (fVar 5) (fK (.int 1))) (fCons (f2 oAdd (fCall (o1 gLen) (fCons (f2 oIx (fVar 5) (fK (.int 0))) fNil)) (fK (.int 1))) fNil))) (gN 10) fYes (fTup (fCons (fK (.str "fall")) (fCons (fVar 2) (fCons (fVar 10) fNil)))) [10])) (fSeq (fIfS (fB (f2 (oEq false) (fVar 4) (fK (.str "idle")))) (fSetO 8 (f2 oAdd (f2 oAdd (fVar 8) (fLst (fCons (fTup (fCons (fK (.str "refuse")) (fCons (fVar 2) fNil))) fNil))) (fIf (fB (f2 (oEq true) (f2 oIx (fVar 1) (fK (.int 0))) (fK (.str "new")))) (fLst (fCons (fTup (fCons (fK (.str "vote")) (fCons (fVar 2) fNil))) fNil)) (fLst fNil)))) fSkip) (fSeq (fFor (fItT (fVar 6)) (gN 9) (fSeq (fIfS (fOr (fB (f2 (oEq false) (fVar 4) (fK (.str "ready")))) (fAnd (fB (f2 (oEq false) (fVar 4) (fK (.str "idle")))) (fB (f2 (oEq false) (fVar 9) (fK (.str "no")))))) (fAppend 8 (fTup (fCons (fK (.str "hear")) (fCons (fVar 2) (fCons (fVar 9) fNil))))) fSkip) (fIfS (fAnd (fB (f2 (oIn false) (fVar 4) (fTup (fCons (fK (.str "yes")) (fCons (fK (.str "no")) (fCons (fK (.str "empty")) fNil)))))) (fB (f2 (oIn true) (fVar 9) (f2 oIx (fVar 3) (fK (.int 4)))))) (fAppend 8 (fTup (fCons (fK (.str "answer")) (fCons (fVar 2) (fCons (fVar 9) fNil))))) fSkip))) (fSeq (fIfS (fB (f2 (oIn false) (fVar 4) (fTup (fCons (fK (.str "yes")) (fCons (fK (.str "no")) fNil))))) (fAppend 8 (fTup (fCons (fK (.str "clear")) (fCons (fVar 2) fNil)))) fSkip) (fRet (fIf (fAnd (fB (f2 (oIs true) (fVar 7) (fK .none))) (fB (f2 (oIn true) (fVar 7) (fVar 6)))) (f2 oAdd (fVar 8) (fLst (fCons (fTup (fCons (fK (.str "tell")) (fCons (fVar 2) fNil))) fNil))) (fVar 8)))))))))
def F__law_room_acts : FF := runF 11 4 g__law_room_acts
def c__law_room_acts_L1_1 : CS := (cIfS (cAnd (cB (c2 (kIn false) (cVar 4) (cTup (cCons (cK (.str "yes")) (cCons (cK (.str "no")) (cCons (cK (.str "empty")) cNil)))))) (cB (c2 (kIn true) (cVar 9) (c2 kIx (cVar 3) (cK (.int 4)))))) (cAppend 8 (cTup (cCons (cK (.str "answer")) (cCons (cVar 2) (cCons (cVar 9) cNil))))) cSkip)
def c__law_room_acts_L1 : CS := (cSeq (cIfS (cOr (cB (c2 (kEq false) (cVar 4) (cK (.str "ready")))) (cAnd (cB (c2 (kEq false) (cVar 4) (cK (.str "idle")))) (cB (c2 (kEq false) (cVar 9) (cK (.str "no")))))) (cAppend 8 (cTup (cCons (cK (.str "hear")) (cCons (cVar 2) (cCons (cVar 9) cNil))))) cSkip) c__law_room_acts_L1_1)
def c__law_room_acts_6 : CS := (cRet (cIf (cAnd (cB (c2 (kIs true) (cVar 7) (cK .none))) (cB (c2 (kIn true) (cVar 7) (cVar 6)))) (c2 kAdd (cVar 8) (cLst (cCons (cTup (cCons (cK (.str "tell")) (cCons (cVar 2) cNil))) cNil))) (cVar 8)))
def c__law_room_acts_5 : CS := (cSeq (cIfS (cB (c2 (kIn false) (cVar 4) (cTup (cCons (cK (.str "yes")) (cCons (cK (.str "no")) cNil))))) (cAppend 8 (cTup (cCons (cK (.str "clear")) (cCons (cVar 2) cNil)))) cSkip) c__law_room_acts_6)
def c__law_room_acts_4 : CS := (cSeq (cFor (cItT (cVar 6)) (cgN 9) c__law_room_acts_L1) c__law_room_acts_5)
def c__law_room_acts_3 : CS := (cSeq (cIfS (cB (c2 (kEq false) (cVar 4) (cK (.str "idle")))) (cSetO 8 (c2 kAdd (c2 kAdd (cVar 8) (cLst (cCons (cTup (cCons (cK (.str "refuse")) (cCons (cVar 2) cNil))) cNil))) (cIf (cB (c2 (kEq true) (c2 kIx (cVar 1) (cK (.int 0))) (cK (.str "new")))) (cLst (cCons (cTup (cCons (cK (.str "vote")) (cCons (cVar 2) cNil))) cNil)) (cLst cNil)))) cSkip) c__law_room_acts_4)
def c__law_room_acts_2 : CS := (cSeq (cSetO 8 (cLc (cRng2 (cCons (c2 kIx (cVar 5) (cK (.int 1))) (cCons (c2 kAdd (cCall (k1 kLen) (cCons (c2 kIx (cVar 5) (cK (.int 0))) cNil)) (cK (.int 1))) cNil))) (cgN 10) cYes (cTup (cCons (cK (.str "fall")) (cCons (cVar 2) (cCons (cVar 10) cNil)))) [10])) c__law_room_acts_3)
def c__law_room_acts_1 : CS := (cSeq (cSet 7 (cFn C__law_said (cCons (cVar 0) (cCons (cVar 1) cNil)))) c__law_room_acts_2)
def c__law_room_acts : CS := (cSeq (cPar3 4 5 6 (cCons (c2 kIx (cVar 3) (cK (.int 0))) (cCons (c2 kIx (cVar 3) (cK (.int 1))) (cCons (c2 kIx (cVar 3) (cK (.int 3))) cNil)))) c__law_room_acts_1)
def C__law_room_acts : CF := cRun 11 4 c__law_room_acts
instance : KF F__law_room_acts C__law_room_acts := by
  unfold F__law_room_acts C__law_room_acts g__law_room_acts
  unfold c__law_room_acts c__law_room_acts_1 c__law_room_acts_2 c__law_room_acts_3 c__law_room_acts_4 c__law_room_acts_5 c__law_room_acts_6 c__law_room_acts_L1 c__law_room_acts_L1_1
  infer_instance
theorem ok__law_room_acts (h0 : Here K mg "_law_room_acts" s__law_room_acts p__law_room_acts) (B0 : ∀ x ∈ bltNames, mg x = none) (C0 : Consts K mg) (D__law_said : DefOk (Db.lay CB) P w K mg base 1 "_law_said" F__law_said) : DefOk (Db.lay CB) P w K mg base 2 "_law_room_acts" F__law_room_acts := by
  obtain ⟨f, fd, F, hm, hb⟩ := h0
  refine def_ok F hm hb sc__law_room_acts fun cdv A outer s H E hr => ?_
  have nd := sc__law_room_acts.nd
  have C0g := C0
  exact (xssCons (xsPar3 4 5 6 (xaCons (xIx (xVar 3) xInt) (xaCons (xIx (xVar 3) xInt) (xaCons (xIx (xVar 3) xInt) xaNil))) nd) (xssCons (xsSet 7 (xCall D__law_said (hr.mono (by decide)) (xaCons (xVar 0) (xaCons (xVar 1) xaNil))) nd) (xssCons (xsSetLcO 8 [("left", 10)] rfl nd (xiRng2 true (xaCons (xIx (xVar 5) xInt) (xaCons (xBin os_add (xCallB cs_len (B0 "len" (by decide)) (by decide +kernel) (xaCons (xIx (xVar 5) xInt) xaNil)) xInt) xaNil)) (B0 "range" (by decide))) (by change blkC n__law_room_acts (defScope s__law_room_acts) _ _ = true; decide +kernel) (fun _ _ _ _ _ => (xgName 10 nd)) (fun _ _ _ _ _ => xtsNil) (fun _ _ _ _ _ => (xTup (xaCons xStr (xaCons (xVar 2) (xaCons (xVar 10) xaNil))))) (sw_true rfl rfl rfl (by decide +kernel))) (xssCons (xsIf (xtCmp (os_eq hr.units) (xVar 4) xStr) (xssOne (xsSetO 8 (xBin os_add (xBin os_add (xVar 8) (xLst (xaCons (xTup (xaCons xStr (xaCons (xVar 2) xaNil))) xaNil))) (xIf (xtCmp (os_ne hr.units) (xIx (xVar 1) xInt) xStr) (xLst (xaCons (xTup (xaCons xStr (xaCons (xVar 2) xaNil))) xaNil)) (xLst xaNil))) nd)) xssNil) (xssCons (xsFor (xiTup false (xVar 6)) (xgName 9 nd) (xssCons (xsIf (XW.xt (xwOr (xtCmp (os_eq hr.units) (xVar 4) xStr) (xwOr1 (XW.xt (xwAnd (xtCmp (os_eq hr.units) (xVar 4) xStr) (xwAnd1 (xtCmp (os_eq hr.units) (xVar 9) xStr))))))) (xssOne (xsAppend 8 (xTup (xaCons xStr (xaCons (xVar 2) (xaCons (xVar 9) xaNil)))))) xssNil) (xssOne (xsIf (XW.xt (xwAnd (xtCmp (os_in (room65 hr)) (xVar 4) (xTup (xaCons xStr (xaCons xStr (xaCons xStr xaNil))))) (xwAnd1 (xtCmp (os_notIn (room65 hr)) (xVar 9) (xIx (xVar 3) xInt))))) (xssOne (xsAppend 8 (xTup (xaCons xStr (xaCons (xVar 2) (xaCons (xVar 9) xaNil)))))) xssNil))) PassesOwn.never rfl) (xssCons (xsIf (xtCmp (os_in (room65 hr)) (xVar 4) (xTup (xaCons xStr (xaCons xStr xaNil)))) (xssOne (xsAppend 8 (xTup (xaCons xStr (xaCons (xVar 2) xaNil))))) xssNil) (xssOne (xsRet (xIf (XW.xt (xwAnd (xtCmp os_isNot (xVar 7) xNon) (xwAnd1 (xtCmp (os_notIn (room65 hr)) (xVar 7) (xVar 6))))) (xBin os_add (xVar 8) (xLst (xaCons (xTup (xaCons xStr (xaCons (xVar 2) xaNil))) xaNil))) (xVar 8))))))))))

abbrev s__law_acts_at : Stmt := top 39
abbrev n__law_acts_at : List Str := ["sheet", "stand", "seat", "rooms", "found", "at", "room"]
abbrev p__law_acts_at : List Str := ["sheet", "stand"]
theorem sc__law_acts_at : FnScope n__law_acts_at p__law_acts_at (defScope s__law_acts_at) := ⟨rfl, rfl, rfl, by decide +kernel, rfl, by decide +kernel, by decide +kernel⟩
def g__law_acts_at : FS := (fSeq (fAsg (gTup 2 (gsCons (gN 2) (gsCons (gN 3) gsNil))) (fVar 1)) (fSeq (fSet 4 (fFn F__law_chair_acts (fCons (fVar 0) (fCons (fVar 2) (fCons (fVar 3) fNil))))) (fSeq (fFor (fEnum false (fVar 3)) (gTup 2 (gsCons (gN 5) (gsCons (gN 6) gsNil))) (fSet 4 (f2 oAdd (fVar 4) (fFn F__law_room_acts (fCons (fVar 0) (fCons (fVar 2) (fCons (fVar 5) (fCons (fVar 6) fNil)))))))) (fRet (fCall (o1 gSorted) (fCons (fVar 4) fNil))))))
def F__law_acts_at : FF := runF 7 2 g__law_acts_at
def c__law_acts_at_L1 : CS := (cSet 4 (c2 kAdd (cVar 4) (cFn C__law_room_acts (cCons (cVar 0) (cCons (cVar 2) (cCons (cVar 5) (cCons (cVar 6) cNil)))))))
def c__law_acts_at_3 : CS := (cRet (cCall (k1 kSorted) (cCons (cVar 4) cNil)))
def c__law_acts_at_2 : CS := (cSeq (cFor (cEnum false (cVar 3)) (cgTup 2 (cgsCons (cgN 5) (cgsCons (cgN 6) cgsNil))) c__law_acts_at_L1) c__law_acts_at_3)
def c__law_acts_at_1 : CS := (cSeq (cSet 4 (cFn C__law_chair_acts (cCons (cVar 0) (cCons (cVar 2) (cCons (cVar 3) cNil))))) c__law_acts_at_2)
def c__law_acts_at : CS := (cSeq (cAsg (cgTup 2 (cgsCons (cgN 2) (cgsCons (cgN 3) cgsNil))) (cVar 1)) c__law_acts_at_1)
def C__law_acts_at : CF := cRun 7 2 c__law_acts_at
instance : KF F__law_acts_at C__law_acts_at := by
  unfold F__law_acts_at C__law_acts_at g__law_acts_at
  unfold c__law_acts_at c__law_acts_at_1 c__law_acts_at_2 c__law_acts_at_3 c__law_acts_at_L1
  infer_instance
theorem ok__law_acts_at (h0 : Here K mg "_law_acts_at" s__law_acts_at p__law_acts_at) (B0 : ∀ x ∈ bltNames, mg x = none) (C0 : Consts K mg) (D__law_chair_acts : DefOk (Db.lay CB) P w K mg base 1 "_law_chair_acts" F__law_chair_acts) (D__law_room_acts : DefOk (Db.lay CB) P w K mg base 2 "_law_room_acts" F__law_room_acts) : DefOk (Db.lay CB) P w K mg base 3 "_law_acts_at" F__law_acts_at := by
  obtain ⟨f, fd, F, hm, hb⟩ := h0
  refine def_ok F hm hb sc__law_acts_at fun cdv A outer s H E hr => ?_
  have nd := sc__law_acts_at.nd
  have C0g := C0
  exact (xssCons (xsAsg (xVar 1) (xgTup rfl (xgsCons (xgName 2 nd) (xgsCons (xgName 3 nd) xgsNil)))) (xssCons (xsSet 4 (xCall D__law_chair_acts (hr.mono (by decide)) (xaCons (xVar 0) (xaCons (xVar 2) (xaCons (xVar 3) xaNil)))) nd) (xssCons (xsFor (xiEnum false (xVar 3) (B0 "enumerate" (by decide))) (xgTup rfl (xgsCons (xgName 5 nd) (xgsCons (xgName 6 nd) xgsNil))) (xssOne (xsSet 4 (xBin os_add (xVar 4) (xCall D__law_room_acts (hr.mono (by decide)) (xaCons (xVar 0) (xaCons (xVar 2) (xaCons (xVar 5) (xaCons (xVar 6) xaNil)))))) nd)) PassesOwn.never rfl) (xssOne (xsRet (xCallB (cs_sorted (room70 hr)) (B0 "sorted" (by decide)) (by decide +kernel) (xaCons (xVar 4) xaNil)))))))

abbrev s__law_forced_by : Stmt := top 45
abbrev n__law_forced_by : List Str := ["sheet", "act", "notes", "note"]
abbrev p__law_forced_by : List Str := ["sheet", "act"]
theorem sc__law_forced_by : FnScope n__law_forced_by p__law_forced_by (defScope s__law_forced_by) := ⟨rfl, rfl, rfl, by decide +kernel, rfl, by decide +kernel, by decide +kernel⟩
def g__law_forced_by : FS := (fSeq (fSet 2 (fDisp [("ask", (fK (.str "begin"))), ("vote", (fK (.str "ready"))), ("refuse", (fK (.str "refused")))])) (fSeq (fSet 3 (fDGet2 (fVar 2) (f2 oIx (fVar 1) (fK (.int 0))) (fK (.str "")))) (fSeq (fIfS (fB (f2 (oEq false) (f2 oIx (fVar 1) (fK (.int 0))) (fK (.str "decide")))) (fSet 3 (f2 oIx (fVar 1) (fK (.int 1)))) fSkip) (fSeq (fIfS (fB (f2 (oEq false) (f2 oIx (fVar 1) (fK (.int 0))) (fK (.str "hear")))) (fSet 3 (fIf (fB (f2 (oEq false) (f2 oIx (fVar 1) (fK (.int 2))) (fK (.str "yes")))) (fK (.str "agreed")) (fK (.str "refused")))) fSkip) (fRet (fCall (o1 gInt) (fCons (fAndV (f2 (oEq true) (fVar 3) (fK (.str ""))) (f2 (oEq false) (f2 oDGet (f2 oDGet (fVar 0) (fK (.str "words"))) (fVar 3)) (fK (.str "forced")))) fNil)))))))
def F__law_forced_by : FF := runF 4 2 g__law_forced_by
def c__law_forced_by_4 : CS := (cRet (cCall (k1 kInt) (cCons (cAndV (c2 (kEq true) (cVar 3) (cK (.str ""))) (c2 (kEq false) (c2 kDGet (c2 kDGet (cVar 0) (cK (.str "words"))) (cVar 3)) (cK (.str "forced")))) cNil)))
def c__law_forced_by_3 : CS := (cSeq (cIfS (cB (c2 (kEq false) (c2 kIx (cVar 1) (cK (.int 0))) (cK (.str "hear")))) (cSet 3 (cIf (cB (c2 (kEq false) (c2 kIx (cVar 1) (cK (.int 2))) (cK (.str "yes")))) (cK (.str "agreed")) (cK (.str "refused")))) cSkip) c__law_forced_by_4)
def c__law_forced_by_2 : CS := (cSeq (cIfS (cB (c2 (kEq false) (c2 kIx (cVar 1) (cK (.int 0))) (cK (.str "decide")))) (cSet 3 (c2 kIx (cVar 1) (cK (.int 1)))) cSkip) c__law_forced_by_3)
def c__law_forced_by_1 : CS := (cSeq (cSet 3 (cDGet2 (cVar 2) (c2 kIx (cVar 1) (cK (.int 0))) (cK (.str "")))) c__law_forced_by_2)
def c__law_forced_by : CS := (cSeq (cSet 2 (cDisp [("ask" , (cK (.str "begin"))) , ("vote" , (cK (.str "ready"))) , ("refuse" , (cK (.str "refused")))])) c__law_forced_by_1)
def C__law_forced_by : CF := cRun 4 2 c__law_forced_by
instance : KF F__law_forced_by C__law_forced_by := by
  unfold F__law_forced_by C__law_forced_by g__law_forced_by
  unfold c__law_forced_by c__law_forced_by_1 c__law_forced_by_2 c__law_forced_by_3 c__law_forced_by_4
  infer_instance
theorem ok__law_forced_by (h0 : Here K mg "_law_forced_by" s__law_forced_by p__law_forced_by) (B0 : ∀ x ∈ bltNames, mg x = none) (C0 : Consts K mg) : DefOk (Db.lay CB) P w K mg base 1 "_law_forced_by" F__law_forced_by := by
  obtain ⟨f, fd, F, hm, hb⟩ := h0
  refine def_ok F hm hb sc__law_forced_by fun cdv A outer s H E hr => ?_
  have nd := sc__law_forced_by.nd
  have C0g := C0
  exact (xssCons (xsSet 2 (xDisp (.cons xStr (.cons xStr (.cons xStr .nil)))) nd) (xssCons (xsSet 3 (xDGet2 (hu_of hr) (xVar 2) (xIx (xVar 1) xInt) xStr) nd) (xssCons (xsIf (xtCmp (os_eq hr.units) (xIx (xVar 1) xInt) xStr) (xssOne (xsSet 3 (xIx (xVar 1) xInt) nd)) xssNil) (xssCons (xsIf (xtCmp (os_eq hr.units) (xIx (xVar 1) xInt) xStr) (xssOne (xsSet 3 (xIf (xtCmp (os_eq hr.units) (xIx (xVar 1) xInt) xStr) xStr xStr) nd)) xssNil) (xssOne (xsRet (xCallTy cs_int (B0 "int" (by decide)) (by decide +kernel) (xaCons (xAnd (xCmp (os_ne hr.units) (xVar 3) xStr) (xOne (xCmp (os_eq hr.units) (xDGet (hu_of hr) (xDGet (hu_of hr) (xVar 0) xStr) (xVar 3)) xStr))) xaNil))))))))

abbrev s__law_told_costs : Stmt := top 46
abbrev n__law_told_costs : List Str := ["sheet", "said", "many", "stand", "forced", "letters", "act"]
abbrev p__law_told_costs : List Str := ["sheet", "said", "many"]
theorem sc__law_told_costs : FnScope n__law_told_costs p__law_told_costs (defScope s__law_told_costs) := ⟨rfl, rfl, rfl, by decide +kernel, rfl, by decide +kernel, by decide +kernel⟩
def g__law_told_costs : FS := (fSeq (fPar3 3 4 5 (fCons (fFn F__law_first (fCons (fVar 2) fNil)) (fCons (fK (.int 0)) (fCons (fVar 2) fNil)))) (fSeq (fFor (fItL false (fFn F__law_plain_acts (fCons (fVar 0) (fCons (fVar 1) (fCons (fVar 2) fNil))))) (gN 6) (fSeq (fIfS (fB (f2 (oIn true) (fVar 6) (fFn F__law_acts_at (fCons (fVar 0) (fCons (fVar 3) fNil))))) (fRet (fK .none)) fSkip) (fSeq (fSet 4 (f2 oAdd (fVar 4) (fFn F__law_forced_by (fCons (fVar 0) (fCons (fVar 6) fNil))))) (fSeq (fSet 5 (f2 oAdd (fVar 5) (fCall (o1 gInt) (fCons (f2 (oIn false) (f2 oIx (fVar 6) (fK (.int 0))) (fTup (fCons (fK (.str "vote")) (fCons (fK (.str "refuse")) (fCons (fK (.str "tell")) (fCons (fK (.str "answer")) fNil)))))) fNil)))) (fSet 3 (fFn F__law_stand_behind (fCons (fVar 0) (fCons (fVar 3) (fCons (fVar 6) fNil))))))))) (fRet (fTup (fCons (fVar 4) (fCons (fVar 5) fNil))))))
def F__law_told_costs : FF := runF 7 3 g__law_told_costs
def c__law_told_costs_L1_3 : CS := (cSet 3 (cFn C__law_stand_behind (cCons (cVar 0) (cCons (cVar 3) (cCons (cVar 6) cNil)))))
def c__law_told_costs_L1_2 : CS := (cSeq (cSet 5 (c2 kAdd (cVar 5) (cCall (k1 kInt) (cCons (c2 (kIn false) (c2 kIx (cVar 6) (cK (.int 0))) (cTup (cCons (cK (.str "vote")) (cCons (cK (.str "refuse")) (cCons (cK (.str "tell")) (cCons (cK (.str "answer")) cNil)))))) cNil)))) c__law_told_costs_L1_3)
def c__law_told_costs_L1_1 : CS := (cSeq (cSet 4 (c2 kAdd (cVar 4) (cFn C__law_forced_by (cCons (cVar 0) (cCons (cVar 6) cNil))))) c__law_told_costs_L1_2)
def c__law_told_costs_L1 : CS := (cSeq (cIfS (cB (c2 (kIn true) (cVar 6) (cFn C__law_acts_at (cCons (cVar 0) (cCons (cVar 3) cNil))))) (cRet (cK .none)) cSkip) c__law_told_costs_L1_1)
def c__law_told_costs_2 : CS := (cRet (cTup (cCons (cVar 4) (cCons (cVar 5) cNil))))
def c__law_told_costs_1 : CS := (cSeq (cFor (cItL false (cFn C__law_plain_acts (cCons (cVar 0) (cCons (cVar 1) (cCons (cVar 2) cNil))))) (cgN 6) c__law_told_costs_L1) c__law_told_costs_2)
def c__law_told_costs : CS := (cSeq (cPar3 3 4 5 (cCons (cFn C__law_first (cCons (cVar 2) cNil)) (cCons (cK (.int 0)) (cCons (cVar 2) cNil)))) c__law_told_costs_1)
def C__law_told_costs : CF := cRun 7 3 c__law_told_costs
instance : KF F__law_told_costs C__law_told_costs := by
  unfold F__law_told_costs C__law_told_costs g__law_told_costs
  unfold c__law_told_costs c__law_told_costs_1 c__law_told_costs_2 c__law_told_costs_L1 c__law_told_costs_L1_1 c__law_told_costs_L1_2 c__law_told_costs_L1_3
  infer_instance
theorem ok__law_told_costs (h0 : Here K mg "_law_told_costs" s__law_told_costs p__law_told_costs) (B0 : ∀ x ∈ bltNames, mg x = none) (C0 : Consts K mg) (D__law_plain_acts : DefOk (Db.lay CB) P w K mg base 1 "_law_plain_acts" F__law_plain_acts) (D__law_first : DefOk (Db.lay CB) P w K mg base 1 "_law_first" F__law_first) (D__law_stand_behind : DefOk (Db.lay CB) P w K mg base 3 "_law_stand_behind" F__law_stand_behind) (D__law_acts_at : DefOk (Db.lay CB) P w K mg base 3 "_law_acts_at" F__law_acts_at) (D__law_forced_by : DefOk (Db.lay CB) P w K mg base 1 "_law_forced_by" F__law_forced_by) : DefOk (Db.lay CB) P w K mg base 4 "_law_told_costs" F__law_told_costs := by
  obtain ⟨f, fd, F, hm, hb⟩ := h0
  refine def_ok F hm hb sc__law_told_costs fun cdv A outer s H E hr => ?_
  have nd := sc__law_told_costs.nd
  have C0g := C0
  exact (xssCons (xsPar3 3 4 5 (xaCons (xCall D__law_first (hr.mono (by decide)) (xaCons (xVar 2) xaNil)) (xaCons xInt (xaCons (xVar 2) xaNil))) nd) (xssCons (xsFor (xiList false (xCall D__law_plain_acts (hr.mono (by decide)) (xaCons (xVar 0) (xaCons (xVar 1) (xaCons (xVar 2) xaNil))))) (xgName 6 nd) (xssCons (xsIf (xtCmp (os_notIn (room65 hr)) (xVar 6) (xCall D__law_acts_at (hr.mono (by decide)) (xaCons (xVar 0) (xaCons (xVar 3) xaNil)))) (xssOne (xsRet xNon)) xssNil) (xssCons (xsSet 4 (xBin os_add (xVar 4) (xCall D__law_forced_by (hr.mono (by decide)) (xaCons (xVar 0) (xaCons (xVar 6) xaNil)))) nd) (xssCons (xsSet 5 (xBin os_add (xVar 5) (xCallTy cs_int (B0 "int" (by decide)) (by decide +kernel) (xaCons (xCmp (os_in (room65 hr)) (xIx (xVar 6) xInt) (xTup (xaCons xStr (xaCons xStr (xaCons xStr (xaCons xStr xaNil)))))) xaNil))) nd) (xssOne (xsSet 3 (xCall D__law_stand_behind (hr.mono (by decide)) (xaCons (xVar 0) (xaCons (xVar 3) (xaCons (xVar 6) xaNil)))) nd))))) PassesOwn.never rfl) (xssOne (xsRet (xTup (xaCons (xVar 4) (xaCons (xVar 5) xaNil)))))))

abbrev s_is_number : Stmt := top 8
abbrev n_is_number : List Str := ["thing", "low", "high"]
abbrev p_is_number : List Str := ["thing", "low", "high"]
theorem sc_is_number : FnScope n_is_number p_is_number (defScope s_is_number) := ⟨rfl, rfl, rfl, by decide +kernel, rfl, by decide +kernel, by decide +kernel⟩
def g_is_number : FS := (fRet (fAndV (fIs isIntD (fVar 0)) (fAndV (fNotV (fIs isBoolD (fVar 0))) (fChain oLe oLe (fVar 1) (fVar 0) (fVar 2)))))
def F_is_number : FF := runF 3 3 g_is_number
def c_is_number : CS := (cRet (cAndV (cIs isIntD (cVar 0)) (cAndV (cNotV (cIs isBoolD (cVar 0))) (cChain kLe kLe (cVar 1) (cVar 0) (cVar 2)))))
def C_is_number : CF := cRun 3 3 c_is_number
instance : KF F_is_number C_is_number := by
  unfold F_is_number C_is_number g_is_number
  unfold c_is_number
  infer_instance
theorem ok_is_number (h0 : Here K mg "is_number" s_is_number p_is_number) (B0 : ∀ x ∈ bltNames, mg x = none) (C0 : Consts K mg) : DefOk (Db.lay CB) P w K mg base 1 "is_number" F_is_number := by
  obtain ⟨f, fd, F, hm, hb⟩ := h0
  refine def_ok F hm hb sc_is_number fun cdv A outer s H E hr => ?_
  have nd := sc_is_number.nd
  have C0g := C0
  exact (xssOne (xsRet (xAnd (xIs kb_int (xVar 0) (B0 "isinstance" (by decide)) (B0 "int" (by decide)) (by decide +kernel)) (xAnd (xNot (xIs kb_bool (xVar 0) (B0 "isinstance" (by decide)) (B0 "bool" (by decide)) (by decide +kernel))) (xOne (xChain os_le os_le (xVar 1) (xVar 0) (xVar 2)))))))

abbrev s_check_course : Stmt := top 20
abbrev n_check_course : List Str := ["outcome", "houses"]
abbrev p_check_course : List Str := ["outcome", "houses"]
theorem sc_check_course : FnScope n_check_course p_check_course (defScope s_check_course) := ⟨rfl, rfl, rfl, by decide +kernel, rfl, by decide +kernel, by decide +kernel⟩
def g_check_course : FS := (fSeq (fIfS (fB (f2 (oIn true) (fVar 0) (fK d_OUTCOMES))) fNever fSkip) (fIfS (fNot (fB (fFn F_is_number (fCons (fVar 1) (fCons (fK (.int 1)) (fCons (fK d_MOST_HOUSES) fNil)))))) fNever fSkip))
def F_check_course : FF := runF 2 2 g_check_course
def c_check_course_1 : CS := (cIfS (cNot (cB (cFn C_is_number (cCons (cVar 1) (cCons (cK (.int 1)) (cCons (cK d_MOST_HOUSES) cNil)))))) cNever cSkip)
def c_check_course : CS := (cSeq (cIfS (cB (c2 (kIn true) (cVar 0) (cK d_OUTCOMES))) cNever cSkip) c_check_course_1)
def C_check_course : CF := cRun 2 2 c_check_course
instance : KF F_check_course C_check_course := by
  unfold F_check_course C_check_course g_check_course
  unfold c_check_course c_check_course_1
  infer_instance
theorem ok_check_course (h0 : Here K mg "check_course" s_check_course p_check_course) (B0 : ∀ x ∈ bltNames, mg x = none) (C0 : Consts K mg) (D_is_number : DefOk (Db.lay CB) P w K mg base 1 "is_number" F_is_number) : DefOk (Db.lay CB) P w K mg base 2 "check_course" F_check_course := by
  obtain ⟨f, fd, F, hm, hb⟩ := h0
  refine def_ok F hm hb sc_check_course fun cdv A outer s H E hr => ?_
  have nd := sc_check_course.nd
  have C0g := C0
  exact (xssCons (xsIf (xtCmp (os_notIn (room65 hr)) (xVar 0) (xGlob ⟨C0g.OUTCOMES⟩)) xssNever xssNil) (xssOne (xsIf (xtNot (xtVal (xCall D_is_number (hr.mono (by decide)) (xaCons (xVar 1) (xaCons xInt (xaCons (xGlob ⟨C0g.MOST_HOUSES⟩) xaNil)))))) xssNever xssNil)))

abbrev s_times_written : Stmt := top 21
abbrev n_times_written : List Str := ["outcome", "houses"]
abbrev p_times_written : List Str := ["outcome", "houses"]
theorem sc_times_written : FnScope n_times_written p_times_written (defScope s_times_written) := ⟨rfl, rfl, rfl, by decide +kernel, rfl, by decide +kernel, by decide +kernel⟩
def g_times_written : FS := (fSeq (fIfS (fB (f2 (oEq false) (fVar 0) (fK (.str "yes")))) (fRet (fDisp [("begin", (fK (.int 1))), ("ready", (fVar 1)), ("yes", (fK (.int 1))), ("agreed", (fVar 1))])) fSkip) (fRet (fDisp [("begin", (fK (.int 1))), ("ready", (f2 oSub (fVar 1) (fK (.int 1)))), ("no", (fK (.int 1))), ("refused", (fVar 1))])))
def F_times_written : FF := runF 2 2 g_times_written
def c_times_written_1 : CS := (cRet (cDisp [("begin" , (cK (.int 1))) , ("ready" , (c2 kSub (cVar 1) (cK (.int 1)))) , ("no" , (cK (.int 1))) , ("refused" , (cVar 1))]))
def c_times_written : CS := (cSeq (cIfS (cB (c2 (kEq false) (cVar 0) (cK (.str "yes")))) (cRet (cDisp [("begin" , (cK (.int 1))) , ("ready" , (cVar 1)) , ("yes" , (cK (.int 1))) , ("agreed" , (cVar 1))])) cSkip) c_times_written_1)
def C_times_written : CF := cRun 2 2 c_times_written
instance : KF F_times_written C_times_written := by
  unfold F_times_written C_times_written g_times_written
  unfold c_times_written c_times_written_1
  infer_instance
theorem ok_times_written (h0 : Here K mg "times_written" s_times_written p_times_written) (B0 : ∀ x ∈ bltNames, mg x = none) (C0 : Consts K mg) : DefOk (Db.lay CB) P w K mg base 1 "times_written" F_times_written := by
  obtain ⟨f, fd, F, hm, hb⟩ := h0
  refine def_ok F hm hb sc_times_written fun cdv A outer s H E hr => ?_
  have nd := sc_times_written.nd
  have C0g := C0
  exact (xssCons (xsIf (xtCmp (os_eq hr.units) (xVar 0) xStr) (xssOne (xsRet (xDisp (.cons xInt (.cons (xVar 1) (.cons xInt (.cons (xVar 1) .nil))))))) xssNil) (xssOne (xsRet (xDisp (.cons xInt (.cons (xBin os_sub (xVar 1) xInt) (.cons xInt (.cons (xVar 1) .nil))))))))

abbrev s_forced_writings : Stmt := top 22
abbrev n_forced_writings : List Str := ["lot", "outcome", "houses", "times", "record"]
abbrev p_forced_writings : List Str := ["lot", "outcome", "houses"]
theorem sc_forced_writings : FnScope n_forced_writings p_forced_writings (defScope s_forced_writings) := ⟨rfl, rfl, rfl, by decide +kernel, rfl, by decide +kernel, by decide +kernel⟩
def g_forced_writings : FS := (fSeq (fSet 3 (fFn F_times_written (fCons (fVar 1) (fCons (fVar 2) fNil)))) (fRet (fCall (o1 gSum) (fCons (fLc (fItT (fVar 0)) (gN 4) fYes (fDGet2 (fVar 3) (fVar 4) (fK (.int 0))) [4]) fNil))))
def F_forced_writings : FF := runF 5 3 g_forced_writings
def c_forced_writings_1 : CS := (cRet (cCall (k1 kSum) (cCons (cLc (cItT (cVar 0)) (cgN 4) cYes (cDGet2 (cVar 3) (cVar 4) (cK (.int 0))) [4]) cNil)))
def c_forced_writings : CS := (cSeq (cSet 3 (cFn C_times_written (cCons (cVar 1) (cCons (cVar 2) cNil)))) c_forced_writings_1)
def C_forced_writings : CF := cRun 5 3 c_forced_writings
instance : KF F_forced_writings C_forced_writings := by
  unfold F_forced_writings C_forced_writings g_forced_writings
  unfold c_forced_writings c_forced_writings_1
  infer_instance
theorem ok_forced_writings (h0 : Here K mg "forced_writings" s_forced_writings p_forced_writings) (B0 : ∀ x ∈ bltNames, mg x = none) (C0 : Consts K mg) (D_times_written : DefOk (Db.lay CB) P w K mg base 1 "times_written" F_times_written) : DefOk (Db.lay CB) P w K mg base 2 "forced_writings" F_forced_writings := by
  obtain ⟨f, fd, F, hm, hb⟩ := h0
  refine def_ok F hm hb sc_forced_writings fun cdv A outer s H E hr => ?_
  have nd := sc_forced_writings.nd
  have C0g := C0
  exact (xssCons (xsSet 3 (xCall D_times_written (hr.mono (by decide)) (xaCons (xVar 1) (xaCons (xVar 2) xaNil))) nd) (xssOne (xsRet (xCallB cs_sum (B0 "sum" (by decide)) (by decide +kernel) (xaCons (xLc [("record", 4)] rfl nd (xiTup true (xVar 0)) (by change blkC n_forced_writings (defScope s_forced_writings) _ _ = true; decide +kernel) (fun _ _ _ _ _ => (xgName 4 nd)) (fun _ _ _ _ _ => xtsNil) (fun _ _ _ _ _ => (xDGet2 (hu_of hr) (xVar 3) (xVar 4) xInt))) xaNil)))))

abbrev s_costs : Stmt := top 23
abbrev n_costs : List Str := ["book", "outcome", "houses", "letters"]
abbrev p_costs : List Str := ["book", "outcome", "houses"]
theorem sc_costs : FnScope n_costs p_costs (defScope s_costs) := ⟨rfl, rfl, rfl, by decide +kernel, rfl, by decide +kernel, by decide +kernel⟩
def g_costs : FS := (fSeq (fIfS (fNot (fB (Db.fIsBook (fVar 0)))) fNever fSkip) (fSeq (fExpr (fFn F_check_course (fCons (fVar 1) (fCons (fVar 2) fNil)))) (fSeq (fSet 3 (f2 oMul (fK (.int 3)) (fVar 2))) (fSeq (fIfS (fB (f2 (oIn false) (fVar 1) (Db.fPart "answers" (fVar 0)))) (fAug 3 (fun i j => i + j) (fVar 2)) fSkip) (fRet (fTup (fCons (fFn F_forced_writings (fCons (Db.fPart "forced" (fVar 0)) (fCons (fVar 1) (fCons (fVar 2) fNil)))) (fCons (fVar 3) fNil))))))))
def F_costs : FF := runF 4 3 g_costs
def c_costs_4 : CS := (cRet (cTup (cCons (cFn C_forced_writings (cCons (Db.cPart "forced" (cVar 0)) (cCons (cVar 1) (cCons (cVar 2) cNil)))) (cCons (cVar 3) cNil))))
def c_costs_3 : CS := (cSeq (cIfS (cB (c2 (kIn false) (cVar 1) (Db.cPart "answers" (cVar 0)))) (cAug 3 (fun i j => i + j) (cVar 2)) cSkip) c_costs_4)
def c_costs_2 : CS := (cSeq (cSet 3 (c2 kMul (cK (.int 3)) (cVar 2))) c_costs_3)
def c_costs_1 : CS := (cSeq (cExpr (cFn C_check_course (cCons (cVar 1) (cCons (cVar 2) cNil)))) c_costs_2)
def c_costs : CS := (cSeq (cIfS (cNot (cB (Db.cIsBook (cVar 0)))) cNever cSkip) c_costs_1)
def C_costs : CF := cRun 4 3 c_costs
instance : KF F_costs C_costs := by
  unfold F_costs C_costs g_costs
  unfold c_costs c_costs_1 c_costs_2 c_costs_3 c_costs_4
  infer_instance
theorem ok_costs (h0 : Here K mg "costs" s_costs p_costs) (B0 : ∀ x ∈ bltNames, mg x = none) (C0 : Consts K mg) (BX : Db.BookX P w K mg base CB) (D_check_course : DefOk (Db.lay CB) P w K mg base 2 "check_course" F_check_course) (D_forced_writings : DefOk (Db.lay CB) P w K mg base 2 "forced_writings" F_forced_writings) : DefOk (Db.lay CB) P w K mg base 3 "costs" F_costs := by
  obtain ⟨f, fd, F, hm, hb⟩ := h0
  refine def_ok F hm hb sc_costs fun cdv A outer s H E hr => ?_
  have nd := sc_costs.nd
  have C0g := C0
  exact (xssCons (xsIf (xtNot (xtVal (Db.xIsBook BX (xVar 0) (B0 "isinstance" (by decide))))) xssNever xssNil) (xssCons (xsExpr (xCall D_check_course (hr.mono (by decide)) (xaCons (xVar 1) (xaCons (xVar 2) xaNil)))) (xssCons (xsSet 3 (xBin os_mul xInt (xVar 2)) nd) (xssCons (xsIf (xtCmp (os_in (room65 hr)) (xVar 1) (Db.xPart BX (xVar 0) (by decide))) (xssOne (xsAug 3 ip_add (xVar 2) nd)) xssNil) (xssOne (xsRet (xTup (xaCons (xCall D_forced_writings (hr.mono (by decide)) (xaCons (Db.xPart BX (xVar 0) (by decide)) (xaCons (xVar 1) (xaCons (xVar 2) xaNil)))) (xaCons (xVar 3) xaNil)))))))))

theorem okK_costs_210 (h0 : HereK K mg "costs" s_costs p_costs ["houses", "outcome", "book"] [2, 1, 0]) (B0 : ∀ x ∈ bltNames, mg x = none) (C0 : Consts K mg) (BX : Db.BookX P w K mg base CB) (D_check_course : DefOk (Db.lay CB) P w K mg base 2 "check_course" F_check_course) (D_forced_writings : DefOk (Db.lay CB) P w K mg base 2 "forced_writings" F_forced_writings) : DefOkK (Db.lay CB) P w K mg base 3 "costs" ["houses", "outcome", "book"] [2, 1, 0] F_costs := by
  obtain ⟨f, fd, F, hm, hb⟩ := h0
  refine def_okK F hm ["houses", "outcome", "book"] [2, 1, 0] hb sc_costs fun cdv A outer s H E hr => ?_
  have nd := sc_costs.nd
  have C0g := C0
  exact (xssCons (xsIf (xtNot (xtVal (Db.xIsBook BX (xVar 0) (B0 "isinstance" (by decide))))) xssNever xssNil) (xssCons (xsExpr (xCall D_check_course (hr.mono (by decide)) (xaCons (xVar 1) (xaCons (xVar 2) xaNil)))) (xssCons (xsSet 3 (xBin os_mul xInt (xVar 2)) nd) (xssCons (xsIf (xtCmp (os_in (room65 hr)) (xVar 1) (Db.xPart BX (xVar 0) (by decide))) (xssOne (xsAug 3 ip_add (xVar 2) nd)) xssNil) (xssOne (xsRet (xTup (xaCons (xCall D_forced_writings (hr.mono (by decide)) (xaCons (Db.xPart BX (xVar 0) (by decide)) (xaCons (xVar 1) (xaCons (xVar 2) xaNil)))) (xaCons (xVar 3) xaNil)))))))))

def g_st_1 : FS := (fPar 6 7 false false (fFn F__law_book (fCons (fVar 3) fNil)) (fFn F__law_told_costs (fCons (fVar 3) (fCons (fVar 4) (fCons (fVar 5) fNil)))))
def c_st_1 : CS := (cPar 6 7 false false (cFn C__law_book (cCons (cVar 3) cNil)) (cFn C__law_told_costs (cCons (cVar 3) (cCons (cVar 4) (cCons (cVar 5) cNil)))))
instance : KS g_st_1 c_st_1 := by
  unfold g_st_1 c_st_1
  infer_instance
def g_st_2 : FS := (fSet 8 (fLst (fCons (fFn F_costs (fCons (fVar 6) (fCons (fVar 4) (fCons (fVar 5) fNil)))) (fCons (fFnK F_costs [2, 1, 0] (fCons (fVar 5) (fCons (fVar 4) (fCons (fVar 6) fNil)))) fNil))))
def c_st_2 : CS := (cSet 8 (cLst (cCons (cFn C_costs (cCons (cVar 6) (cCons (cVar 4) (cCons (cVar 5) cNil)))) (cCons (cFnK C_costs [2, 1, 0] (cCons (cVar 5) (cCons (cVar 4) (cCons (cVar 6) cNil)))) cNil))))
instance : KS g_st_2 c_st_2 := by
  unfold g_st_2 c_st_2
  infer_instance
def g_st_3 : FS := (fIfS (fB (f2 (oEq true) (fCall (o1 gRepr) (fCons (fVar 8) fNil)) (fCall (o1 gRepr) (fCons (fLst (fCons (fVar 7) (fCons (fVar 7) fNil))) fNil)))) (fRet (fK (.bool false))) fSkip)
def c_st_3 : CS := (cIfS (cB (c2 (kEq true) (cCall (k1 kRepr) (cCons (cVar 8) cNil)) (cCall (k1 kRepr) (cCons (cLst (cCons (cVar 7) (cCons (cVar 7) cNil))) cNil)))) (cRet (cK (.bool false))) cSkip)
instance : KS g_st_3 c_st_3 := by
  unfold g_st_3 c_st_3
  infer_instance
def g_st_5 : FS := (fAsg (gTup 2 (gsCons (gN 10) (gsCons (gN 11) gsNil))) (fTup (fCons (fFn F__law_told_costs (fCons (fVar 3) (fCons (fVar 4) (fCons (fK (.int 2)) fNil)))) (fCons (fFn F__law_told_costs (fCons (fVar 3) (fCons (fVar 4) (fCons (fK (.int 3)) fNil)))) fNil))))
def c_st_5 : CS := (cAsg (cgTup 2 (cgsCons (cgN 10) (cgsCons (cgN 11) cgsNil))) (cTup (cCons (cFn C__law_told_costs (cCons (cVar 3) (cCons (cVar 4) (cCons (cK (.int 2)) cNil)))) (cCons (cFn C__law_told_costs (cCons (cVar 3) (cCons (cVar 4) (cCons (cK (.int 3)) cNil)))) cNil))))
instance : KS g_st_5 c_st_5 := by
  unfold g_st_5 c_st_5
  infer_instance
def g_st_6 : FS := (fSet 7 (fCall (o1 gTuple) (fCons (fLc (fRng1 (fCons (fK (.int 2)) fNil)) (gN 12) fYes (f2 oAdd (f2 oIx (fVar 10) (fVar 12)) (f2 oMul (f2 oSub (fVar 9) (fK (.int 2))) (f2 oSub (f2 oIx (fVar 11) (fVar 12)) (f2 oIx (fVar 10) (fVar 12))))) [12]) fNil)))
def c_st_6 : CS := (cSet 7 (cCall (k1 kTuple) (cCons (cLc (cRng1 (cCons (cK (.int 2)) cNil)) (cgN 12) cYes (c2 kAdd (c2 kIx (cVar 10) (cVar 12)) (c2 kMul (c2 kSub (cVar 9) (cK (.int 2))) (c2 kSub (c2 kIx (cVar 11) (cVar 12)) (c2 kIx (cVar 10) (cVar 12))))) [12]) cNil)))
instance : KS g_st_6 c_st_6 := by
  unfold g_st_6 c_st_6
  infer_instance
def g_st_7 : FS := (fIfS (fB (f2 (oEq true) (fCall (o1 gRepr) (fCons (fFn F_costs (fCons (fVar 6) (fCons (fVar 4) (fCons (fVar 9) fNil)))) fNil)) (fCall (o1 gRepr) (fCons (fVar 7) fNil)))) (fRet (fK (.bool false))) fSkip)
def c_st_7 : CS := (cIfS (cB (c2 (kEq true) (cCall (k1 kRepr) (cCons (cFn C_costs (cCons (cVar 6) (cCons (cVar 4) (cCons (cVar 9) cNil)))) cNil)) (cCall (k1 kRepr) (cCons (cVar 7) cNil)))) (cRet (cK (.bool false))) cSkip)
instance : KS g_st_7 c_st_7 := by
  unfold g_st_7 c_st_7
  infer_instance
def g_lap_7 : FS := g_st_7
def g_lap_6 : FS := (fSeq g_st_6 g_lap_7)
def g_lap_5 : FS := (fSeq g_st_5 g_lap_6)
def g_lap_4 : FS := (fSeq (fSet 9 (fFn Db.F_pick (fCons (fVar 1) (fCons (fLst (fCons (fK (.int 6)) (fCons (fK (.int 99)) (fCons (fK (.int 100)) (fCons (f2 oAdd (fK (.int 1)) (fFn Db.F_take (fCons (fVar 1) (fCons (fK (.int 100)) fNil)))) fNil))))) fNil)))) g_lap_5)
def g_lap_3 : FS := (fSeq g_st_3 g_lap_4)
def g_lap_2 : FS := (fSeq g_st_2 g_lap_3)
def g_lap_1 : FS := (fSeq g_st_1 g_lap_2)
def g_lap_0 : FS := (fSeq (fPar3 3 4 5 (fCons (fFn Db.F_sheet (fCons (fVar 1) (fCons (fK (.int 2)) fNil))) (fCons (fFn Db.F_pick (fCons (fVar 1) (fCons (fLst (fCons (fK (.str "yes")) (fCons (fK (.str "no")) fNil))) fNil))) (fCons (f2 oAdd (fK (.int 1)) (fFn Db.F_take (fCons (fVar 1) (fCons (fK (.int 5)) fNil)))) fNil)))) g_lap_1)
abbrev g_lap : FS := g_lap_0
abbrev s_law : Stmt := top 47
abbrev n_law : List Str := ["script", "draw", "lap", "sheet", "said", "many", "choice", "due", "found", "far", "low", "high", "k"]
theorem sc_law : FnScope n_law ["script"] (defScope s_law) := ⟨rfl, rfl, rfl, by decide +kernel, rfl, by decide +kernel, by decide +kernel⟩
def g_law : FS := (fSeq (fFor (fRng1 (fCons (f2 oAdd (fK (.int 3)) (fCall oMin (fCons (fCall Db.oLenS (fCons (fVar 0) fNil)) (fCons (fK (.int 12)) fNil)))) fNil)) (gN 2) g_lap) (fRet (fK (.bool true))))
theorem ok_law {f fB : Addr} {fd fdB : FuncData} (F : Fun K "law" "law" s_law f fd) (GB : FnOk P w K mg base CX0 1 fB fdB ["script"] (Draw.spBegun K)) (gB : mg "_law_begun" = some (.ref fB)) (kB : PySem.W.keepIn K (.ref fB) = true) (bB : Binds K fdB ["script"] [])
    (B0 : ∀ x ∈ bltNames, mg x = none) (C0 : Consts K mg) (BX : Db.BookX P w K mg base CB) (D__law_book : DefOk (Db.lay CB) P w K mg base 9 "_law_book" F__law_book) (D__law_pick : DefOk (Db.lay CB) P w K mg base 3 "_law_pick" Db.F_pick) (D__law_sheet : DefOk (Db.lay CB) P w K mg base 4 "_law_sheet" Db.F_sheet) (D__law_take : DefOk (Db.lay CB) P w K mg base 2 "_law_take" Db.F_take) (D__law_told_costs : DefOk (Db.lay CB) P w K mg base 4 "_law_told_costs" F__law_told_costs) (D_costs : DefOk (Db.lay CB) P w K mg base 3 "costs" F_costs) (DK_costs_210 : DefOkK (Db.lay CB) P w K mg base 3 "costs" ["houses", "outcome", "book"] [2, 1, 0] F_costs) 
    (hg : ∀ ns : List Int, ns.length ≤ 63 → g_law Db.lawE ⟨some (.ob 1 (.list (ns.map PyData.int))) :: some .dr :: List.replicate 11 none, 0⟩) : Gd.FnG P w K mg base CX0 10 f fd ["script"] (Db.spLaw K) := by
  have nd := sc_law.nd
  have C0g := C0
  refine Db.law_mkG (C := CB) (k := 9) (nN := 11) (g := g_law) F sc_law (by rfl) (fun cdv A outer s H E hr => ?_) (fun cdv A outer s H E hr gd => ?_) hg
  · refine ⟨_, ps_set (i := 1) nd rfl (Or.inl rfl) (pe_call GB (hr.mono (by decide)) rfl gB kB bB .nil pass0 (pa_cons (pv 0) pa_nil)), fun D σ H a e q => ?_⟩
    exact ⟨_, e, q⟩
  · exact (xssCons (xsFor (xiRng1 false (xaCons (xBin os_add xInt (xCallB cs_min (B0 "min" (by decide)) (by decide +kernel) (xaCons (xCallB Db.cs_lenS (B0 "len" (by decide)) (by decide +kernel) (xaCons (xVar 0) xaNil)) (xaCons xInt xaNil)))) xaNil) (B0 "range" (by decide))) (xgName 2 nd) (xssCons (xsPar3 3 4 5 (xaCons (xCall D__law_sheet (hr.mono (by decide)) (xaCons (xVar 1) (xaCons xInt xaNil))) (xaCons (xCall D__law_pick (hr.mono (by decide)) (xaCons (xVar 1) (xaCons (xLst (xaCons xStr (xaCons xStr xaNil))) xaNil))) (xaCons (xBin os_add xInt (xCall D__law_take (hr.mono (by decide)) (xaCons (xVar 1) (xaCons xInt xaNil)))) xaNil))) nd) (xssCons (xsPar 6 7 false false (xCall D__law_book (hr.mono (by decide)) (xaCons (xVar 3) xaNil)) (xCall D__law_told_costs (hr.mono (by decide)) (xaCons (xVar 3) (xaCons (xVar 4) (xaCons (xVar 5) xaNil)))) nd) (xssCons (xsSet 8 (xLst (xaCons (xCall D_costs (hr.mono (by decide)) (xaCons (xVar 6) (xaCons (xVar 4) (xaCons (xVar 5) xaNil)))) (xaCons (xCallK DK_costs_210 (hr.mono (by decide)) (xkCons (xVar 5) (xkCons (xVar 4) (xkCons (xVar 6) xkNil)))) xaNil))) nd) (xssCons (xsIf (xtCmp (os_ne hr.units) (xCallB (cs_repr gd hr.units) (B0 "repr" (by decide)) (by decide +kernel) (xaCons (xVar 8) xaNil)) (xCallB (cs_repr gd hr.units) (B0 "repr" (by decide)) (by decide +kernel) (xaCons (xLst (xaCons (xVar 7) (xaCons (xVar 7) xaNil))) xaNil))) (xssOne (xsRet xBl)) xssNil) (xssCons (xsSet 9 (xCall D__law_pick (hr.mono (by decide)) (xaCons (xVar 1) (xaCons (xLst (xaCons xInt (xaCons xInt (xaCons xInt (xaCons (xBin os_add xInt (xCall D__law_take (hr.mono (by decide)) (xaCons (xVar 1) (xaCons xInt xaNil)))) xaNil))))) xaNil))) nd) (xssCons (xsAsg (xTup (xaCons (xCall D__law_told_costs (hr.mono (by decide)) (xaCons (xVar 3) (xaCons (xVar 4) (xaCons xInt xaNil)))) (xaCons (xCall D__law_told_costs (hr.mono (by decide)) (xaCons (xVar 3) (xaCons (xVar 4) (xaCons xInt xaNil)))) xaNil))) (xgTup rfl (xgsCons (xgName 10 nd) (xgsCons (xgName 11 nd) xgsNil)))) (xssCons (xsSet 7 (xCallTy cs_tuple (B0 "tuple" (by decide)) (by decide +kernel) (xaCons (xLc [("k", 12)] rfl nd (xiRng1 true (xaCons xInt xaNil) (B0 "range" (by decide))) (by change blkC n_law (defScope s_law) _ _ = true; decide +kernel) (fun _ _ _ _ _ => (xgName 12 nd)) (fun _ _ _ _ _ => xtsNil) (fun _ _ _ _ _ => (xBin os_add (xIx (xVar 10) (xVar 12)) (xBin os_mul (xBin os_sub (xVar 9) xInt) (xBin os_sub (xIx (xVar 11) (xVar 12)) (xIx (xVar 10) (xVar 12))))))) xaNil)) nd) (xssOne (xsIf (xtCmp (os_ne hr.units) (xCallB (cs_repr gd hr.units) (B0 "repr" (by decide)) (by decide +kernel) (xaCons (xCall D_costs (hr.mono (by decide)) (xaCons (xVar 6) (xaCons (xVar 4) (xaCons (xVar 9) xaNil)))) xaNil)) (xCallB (cs_repr gd hr.units) (B0 "repr" (by decide)) (by decide +kernel) (xaCons (xVar 7) xaNil))) (xssOne (xsRet xBl)) xssNil))))))))) PassesOwn.never rfl) (xssOne (xsRet xBl)))
end
end K49

namespace Nb
open PySem PySem.Spec PyProof.Rows L2 DL Nv
/-! books and sheets in Lean's own kinds -/
theorem wd_of {s : Str} (h : s = "none" ∨ s = "lazy" ∨ s = "forced") : ∃ w : Wd, w.s = s := by
  rcases h with rfl | rfl | rfl
  · exact ⟨.none, rfl⟩
  · exact ⟨.lazy, rfl⟩
  · exact ⟨.forced, rfl⟩
def pick6 (a b c d e f : Wd) : Rec → Wd | .begin => a | .yes => b | .no => c | .ready => d | .agreed => e | .refused => f
theorem sheet_nat {ws as : List Str} {pp : Str} (h : Sh2.wordsOk ws) (ha : as ∈ Sh2.ansL) (hp : pp ∈ Sh2.preL) : ∃ S : Sh, Db.sheetD ws as pp = S.d := by
  obtain ⟨six, hw⟩ := h
  obtain ⟨a, b, c, d, e, f, rfl⟩ := Be.strs6 six
  obtain ⟨a', rfl⟩ := wd_of (hw a (by simp))
  obtain ⟨b', rfl⟩ := wd_of (hw b (by simp))
  obtain ⟨c', rfl⟩ := wd_of (hw c (by simp))
  obtain ⟨d', rfl⟩ := wd_of (hw d (by simp))
  obtain ⟨e', rfl⟩ := wd_of (hw e (by simp))
  obtain ⟨f', rfl⟩ := wd_of (hw f (by simp))
  have hA : ∃ x : OS, x.l.map O.s = as := by
    simp only [Sh2.ansL, List.mem_cons, List.not_mem_nil, or_false] at ha
    rcases ha with rfl | rfl | rfl | rfl
    · exact ⟨⟨false, false⟩, rfl⟩
    · exact ⟨⟨true, false⟩, rfl⟩
    · exact ⟨⟨false, true⟩, rfl⟩
    · exact ⟨⟨true, true⟩, rfl⟩
  obtain ⟨x, rfl⟩ := hA
  have hP : ∃ p : Pre, p.s = pp := by
    simp only [Sh2.preL, List.mem_cons, List.not_mem_nil, or_false] at hp
    rcases hp with rfl | rfl | rfl
    · exact ⟨.no, rfl⟩
    · exact ⟨.wait, rfl⟩
    · exact ⟨.yes, rfl⟩
  obtain ⟨p, rfl⟩ := hP
  refine ⟨⟨pick6 a' b' c' d' e' f', x, p⟩, ?_⟩
  show PyData.dict [_, (_, .tuple ((x.l.map O.s).map PyData.str)), _] = PyData.dict [_, (_, .tuple (x.l.map O.d)), _]
  rw [List.map_map]
  rfl
def book (S : Sh) : PyData := Db.bookD S.ws (S.ans.l.map O.s) S.pre.s
theorem okW (w : Wd) : Wi.isW (.str w.s) Bk.wordsL = true := by cases w <;> decide +kernel
theorem okA (x : OS) : Ki.isSeq x.d = true ∧ Ki.unfit Bk.outs [] (Bk.items x.d) 0 = none := by
  obtain ⟨n, y⟩ := x
  cases n <;> cases y <;> exact ⟨by decide +kernel, by decide +kernel⟩
theorem okP (p : Pre) : Wi.isW (.str p.s) Bk.pres = true := by cases p <;> decide +kernel
theorem wrong_none (S : Sh) : Bk.wrong [.str (S.w .begin).s, .str (S.w .yes).s, .str (S.w .no).s, .str (S.w .ready).s, .str (S.w .agreed).s, .str (S.w .refused).s] S.ans.d (.str S.pre.s) = none := by
  have e : Bk.wrongW Bk.recs [.str (S.w .begin).s, .str (S.w .yes).s, .str (S.w .no).s, .str (S.w .ready).s, .str (S.w .agreed).s, .str (S.w .refused).s] = none := by
    simp only [Bk.recs, Bk.wrongW, okW, if_true]
  unfold Bk.wrong
  simp only [e]
  rw [if_pos (okA S.ans), if_pos (okP S.pre)]
theorem okF (x : OS) : Bk.outs.filter (x.l.map O.s).contains = x.l.map O.s := by
  obtain ⟨n, y⟩ := x
  cases n <;> cases y <;> decide +kernel
theorem partOf_book (f : Str) (ss as : List Str) (pre : Str) : Db.partOf f (Db.bookD ss as pre) = if f = "answers" then some (.tuple (as.map PyData.str)) else if f = "presume" then some (.str pre) else if f = "forced" then some (.tuple ((Db.forcedOf ss).map PyData.str)) else (Db.wordOf Bk.recs ss f).map PyData.str := by
  unfold Db.partOf Db.bookD
  simp only [Db.strsD_map]
theorem mk_ok (S : Sh) : Db.mk8 [.str (S.w .begin).s, .str (S.w .yes).s, .str (S.w .no).s, .str (S.w .ready).s, .str (S.w .agreed).s, .str (S.w .refused).s, S.ans.d, .str S.pre.s] = some (book S) := by
  have e : Db.strsD (Bk.items S.ans.d) = some (S.ans.l.map O.s) := by
    show Db.strsD (S.ans.l.map O.d) = _
    rw [show S.ans.l.map O.d = (S.ans.l.map O.s).map PyData.str by rw [List.map_map]; rfl, Db.strsD_map]
  unfold Db.mk8
  simp only [e]
  rw [if_pos (wrong_none S)]
  rw [okF S.ans]
  rfl
theorem part_answers (S : Sh) : Db.partOf "answers" (book S) = some S.ans.d := by
  unfold book
  rw [partOf_book, if_pos rfl, List.map_map]
  rfl
theorem part_presume (S : Sh) : Db.partOf "presume" (book S) = some (.str S.pre.s) := by
  unfold book
  rw [partOf_book, if_neg (by decide +kernel), if_pos rfl]
theorem part_rec (S : Sh) (r : Rec) : Db.partOf r.s (book S) = some (.str (S.w r).s) := by
  unfold book
  cases r
  all_goals
    rw [partOf_book, if_neg (by decide +kernel), if_neg (by decide +kernel), if_neg (by decide +kernel)]
    rfl
/-- the records that are forced, ascending -/
def forced (S : Sh) : List Rec := [Rec.agreed, .begin, .no, .ready, .refused, .yes].filter fun r => decide (S.w r = .forced)
theorem part_forced (S : Sh) : Db.partOf "forced" (book S) = some (.tuple ((forced S).map Rec.d)) := by
  have e : Db.forcedOf S.ws = (forced S).map Rec.s := by
    unfold Db.forcedOf forced
    rw [show Db.asc = [Rec.agreed, .begin, .no, .ready, .refused, .yes].map Rec.s from rfl, List.filter_map]
    congr 1
    refine List.filter_congr fun r _ => ?_
    have e1 : Db.wordOf Bk.recs S.ws r.s = some (S.w r).s := by cases r <;> rfl
    show decide (Db.wordOf Bk.recs S.ws r.s = some "forced") = _
    rw [e1]
    cases S.w r <;> decide +kernel
  unfold book
  rw [partOf_book, if_neg (by decide +kernel), if_neg (by decide +kernel), if_pos rfl, e, List.map_map]
  rfl
section
variable {env : Env'} {i : Nat} {d : PyData}
theorem e_part {f : Str} {c : CE} : Db.cPart f c env = (c env).bind fun r => match r with | .ob 0 d => (Db.partOf f d).map .im | _ => none := rfl
theorem p_answers (S : Sh) (h : DL.gt env i = some (.ob 0 (book S))) : Db.cPart "answers" (cVar i) env = some (.im S.ans.d) := by
  unfold Db.cPart cVar
  simp only [h, Option.map_some, asR, Option.bind_some, part_answers]
theorem p_presume (S : Sh) (h : DL.gt env i = some (.ob 0 (book S))) : Db.cPart "presume" (cVar i) env = some (.im (.str S.pre.s)) := by
  unfold Db.cPart cVar
  simp only [h, Option.map_some, asR, Option.bind_some, part_presume]
theorem p_forced (S : Sh) (h : DL.gt env i = some (.ob 0 (book S))) : Db.cPart "forced" (cVar i) env = some (.im (.tuple ((forced S).map Rec.d))) := by
  unfold Db.cPart cVar
  simp only [h, Option.map_some, asR, Option.bind_some, part_forced]
theorem p_rec (S : Sh) (r : Rec) (h : DL.gt env i = some (.ob 0 (book S))) : Db.cPart r.s (cVar i) env = some (.im (.str (S.w r).s)) := by
  unfold Db.cPart cVar
  simp only [h, Option.map_some, asR, Option.bind_some, part_rec]
theorem is_book {d : PyData} (h : DL.gt env i = some (.ob 0 d)) : Db.cIsBook (cVar i) env = some (.im (.bool true)) := by
  unfold Db.cIsBook cVar
  simp only [h, Option.map_some, asR, Option.bind_some]
theorem e_book {cs : CA} : Db.cBook cs env = (cs env).bind fun rs => (keptL rs).bind fun ds => (Db.mk8 ds).map (.ob 0) := rfl
end
end Nb

namespace K49
open PySem PySem.Spec PyProof.Rows L2 DL Nv
local macro_rules
  | `(tactic| decreasing_trivial_pre_omega) => `(tactic| simp (config := { failIfUnchanged := false, implicitDefEqProofs := false }) only [t_nx, t_rt, t_ct, t_bk, e_var, e_K, e_2, e_B, bOf_b, iOf_i, e_And, e_Or, e_Not, e_AndV, e_OrV, e_NotV, e_If, e_Nil, e_Cons, e_Tup, e_Lst, kp_nil, kp_im, kp_ow, k_I, k_IsI, k_IsO, k_IsB, k_addI, k_dget, k_ixT, k_ixL, k_ixO, k_ixB, e_Chain, e_Call, k1_eq, dat_im', dat_ow, dat_br, kept_im, kept_ow, len_l, len_t, e_Is, e_NoPart, e_Part, e_Sl, sl_l, sl_t, ar_nil, ar_im, ar_ow, ar_ob, e_Fn, e_FnK, pl_im, pl_ow, pl_ob, e_Set, ow_ow, e_SetO, rt_im, rt_ow, rt_br, rt_ob, e_Ret, e_RetN, e_Skip, e_Seq, e_IfS, e_Asg, g_N, g_sNil, g_sCons, g_Tup, e_ItL, w_im, w_ow, w_br, e_ItT, w_t, e_Rng1, e_Rng2, e_Enum, en_t, en_l, e_For, e_Lc, e_Yes, e_Run, end_rt, end_nx, e_Star, e_Freeze, fz_ow, fz_im, e_Append, e_Extend, ex_l, e_DGet2, d_2, e_Aug, e_LstRg1, it_l, it_t, e_Expr, e_Disp, di_nil, di_cons, e_Neg, tk_f, tk_t, e_Par, e_Par3, s3, e_Tru, as_im, as_ow, as_ob, g_t, tup_t, tup_l, lst_t, lst_l, int_i, int_b, fg_nil, DL.gt, DL.pt, wipeE, Option.bind_some, Option.map_some, cond_true, cond_false, List.map_cons, List.map_nil, List.length_cons, List.length_nil, List.cons_append, List.nil_append, List.reduceReplicate, List.isEmpty_nil, List.isEmpty_cons, List.zip_cons_cons, List.zip_nil_right, Nat.reduceAdd, Nat.reduceSub, beq_self_eq_true, Bool.not_true, Bool.not_false, bne_self_eq_false, Bool.bne_false, Bool.bne_true, Bool.false_bne, Bool.true_bne, reduceCtorEq, decide_true, decide_false, Bool.or_true, Bool.true_or, Bool.or_false, Bool.false_or, Bool.and_true, Bool.true_and, Bool.and_false, Bool.false_and, ↓reduceIte, eq_tx, in_tx1, in_tx2, in_tx3, in_tx4, ok_cm, ok_hm, ok_rec, ok_o, ok_wd, ok_pre, tx_none, tx_lazy, tx_forced, tx_no, tx_yes, tx_wait, tx_new, tx_asking, tx_gone, tx_idle, tx_ready, tx_empty, tx_begin, tx_agreed, tx_refused, tx_words, tx_answers, tx_presume, tx_ask, tx_vote, tx_refuse, tx_decide, tx_tell, tx_hear, tx_answer, tx_forget, tx_clear, tx_down, tx_fall, cm_new, cm_newR, cm_asking, cm_askingR, cm_yes, cm_yesR, cm_no, cm_noR, cm_gone, cm_goneR, hm_idle, hm_idleR, hm_ready, hm_readyR, hm_yes, hm_yesR, hm_no, hm_noR, hm_empty, hm_emptyR, wd_none, wd_noneR, wd_lazy, wd_lazyR, wd_forced, wd_forcedR, o_no, o_noR, o_yes, o_yesR, pre_no, pre_noR, pre_wait, pre_waitR, pre_yes, pre_yesR, rec_begin, rec_beginR, rec_yes, rec_yesR, rec_no, rec_noR, rec_ready, rec_readyR, rec_agreed, rec_agreedR, rec_refused, rec_refusedR, dg_words, dg_answers, dg_presume, dg_word, dg_wordS, in_notes, in_os, in_osS, in_cm, eq_ox, eq_xo, eq_rx, in_ox2, eq_oo, nd_o, nd_none, at_4, at_5, at_6, at_7, ii_i, ib_i, ii_b, ib_b, is_s, it_t', it_l', il_l, il_t, tx_e, rec_e, e_e, Option.getD_some, Option.getD_none, add_os, tup_os, sl_room26, ko_str, ko_rec, ko_o, dg_cons, dg_nil, nd_str, nd_int, nd_tup, nd_lst, at_0, at_1, at_2, at_3, g_tape, ix_tape0, ix_tape1, g_seat, ix_seat0, ix_seat1, ix_seat2, g_room, ix_room0, ix_room1, ix_room2, ix_room3, ix_room4, ix_room5, ix_room6, g_stand, ix_stand0, ix_stand1, w_os, nq_ask_vote, nq_ask_refuse, nq_ask_decide, nq_ask_tell, nq_ask_hear, nq_ask_answer, nq_ask_forget, nq_ask_clear, nq_ask_down, nq_ask_fall, nq_vote_ask, nq_vote_refuse, nq_vote_decide, nq_vote_tell, nq_vote_hear, nq_vote_answer, nq_vote_forget, nq_vote_clear, nq_vote_down, nq_vote_fall, nq_refuse_ask, nq_refuse_vote, nq_refuse_decide, nq_refuse_tell, nq_refuse_hear, nq_refuse_answer, nq_refuse_forget, nq_refuse_clear, nq_refuse_down, nq_refuse_fall, nq_decide_ask, nq_decide_vote, nq_decide_refuse, nq_decide_tell, nq_decide_hear, nq_decide_answer, nq_decide_forget, nq_decide_clear, nq_decide_down, nq_decide_fall, nq_tell_ask, nq_tell_vote, nq_tell_refuse, nq_tell_decide, nq_tell_hear, nq_tell_answer, nq_tell_forget, nq_tell_clear, nq_tell_down, nq_tell_fall, nq_hear_ask, nq_hear_vote, nq_hear_refuse, nq_hear_decide, nq_hear_tell, nq_hear_answer, nq_hear_forget, nq_hear_clear, nq_hear_down, nq_hear_fall, nq_answer_ask, nq_answer_vote, nq_answer_refuse, nq_answer_decide, nq_answer_tell, nq_answer_hear, nq_answer_forget, nq_answer_clear, nq_answer_down, nq_answer_fall, nq_forget_ask, nq_forget_vote, nq_forget_refuse, nq_forget_decide, nq_forget_tell, nq_forget_hear, nq_forget_answer, nq_forget_clear, nq_forget_down, nq_forget_fall, nq_clear_ask, nq_clear_vote, nq_clear_refuse, nq_clear_decide, nq_clear_tell, nq_clear_hear, nq_clear_answer, nq_clear_forget, nq_clear_down, nq_clear_fall, nq_down_ask, nq_down_vote, nq_down_refuse, nq_down_decide, nq_down_tell, nq_down_hear, nq_down_answer, nq_down_forget, nq_down_clear, nq_down_fall, nq_fall_ask, nq_fall_vote, nq_fall_refuse, nq_fall_decide, nq_fall_tell, nq_fall_hear, nq_fall_answer, nq_fall_forget, nq_fall_clear, nq_fall_down])
theorem write_ok (S : Sh) (t : Tape) (r : Rec) (h : t.notes.length ≤ 1000) : C__law_write [.im S.d, .im t.d, .im r.d] = some (.im (write S t r).d) := by
  unfold C__law_write c__law_write c__law_write_1 c__law_write_2 write
  decreasing_trivial_pre_omega
  by_cases h1 : S.w r = .none
  · rw [h1]
    decreasing_trivial_pre_omega
    rfl
  · by_cases h2 : r ∈ t.notes
    · rw [decide_eq_false h1, decide_eq_true h2, if_pos (.inr h2)]
      decreasing_trivial_pre_omega
    · rw [decide_eq_false h1, decide_eq_false h2, if_neg (by rintro (q | q); exact h1 q; exact h2 q)]
      decreasing_trivial_pre_omega
      rw [k_addT, guard_dec (by rw [List.length_map]; exact Nat.le_trans (m := 1001) (by simpa using h) (by decide))]
      decreasing_trivial_pre_omega
      by_cases h3 : S.w r = .forced
      · rw [decide_eq_true h3, if_pos h3]
        decreasing_trivial_pre_omega
        show some (Ent.im (.tuple [.tuple _, .int _])) = some (Ent.im (.tuple [.tuple _, .int _]))
        rw [List.map_append, List.length_map]
        rfl
      · rw [decide_eq_false h3, if_neg h3]
        decreasing_trivial_pre_omega
        show some (Ent.im (.tuple [.tuple _, .int _])) = some (Ent.im (.tuple [.tuple _, .int _]))
        rw [List.map_append]
        rfl
theorem said_ok (S : Sh) (s : Seat) : C__law_said [.im S.d, .im s.d] = some (.im (match said S s with | some o => o.d | none => .none)) := by
  obtain ⟨mind, tape, dec⟩ := s
  obtain ⟨w, ans, pre⟩ := S
  unfold C__law_said c__law_said c__law_said_1 said
  cases mind <;> decreasing_trivial_pre_omega
  all_goals first | rfl | skip
  cases pre <;> rfl
theorem chairActs_ok (S : Sh) (s : Seat) (rs : List Room) (h : TOk s.tape) : C__law_chair_acts [.im S.d, .im s.d, .im (.tuple (rs.map Room.d))] = some (.ow ((chairActs S s rs).map Act.d)) := by
  obtain ⟨mind, tape, dec⟩ := s
  have sm : (lefts tape).length ≤ 1001 := lefts_len tape h
  have z1 := big
  unfold C__law_chair_acts c__law_chair_acts c__law_chair_acts_1 c__law_chair_acts_2 c__law_chair_acts_3 c__law_chair_acts_4 c__law_chair_acts_5
  by_cases e : mind = .new
  · subst e
    decreasing_trivial_pre_omega
    rfl
  · decreasing_trivial_pre_omega
    rw [decide_eq_false e]
    decreasing_trivial_pre_omega
    rw [r_2 (rng_ok h)]
    decreasing_trivial_pre_omega
    rw [rng_lefts, lc_enc (val := fun l : Nat => (Act.down l).d) (fun x hx => by rfl)]
    decreasing_trivial_pre_omega
    cases mind with
    | new => exact absurd rfl e
    | asking =>
      decreasing_trivial_pre_omega
      rw [guard_dec (by rw [List.length_map]; omega)]
      decreasing_trivial_pre_omega
      rw [lc_encF (p := fun r => !r.voted) (val := Room.d) (fun r hr => by rw [lcOne_eq]; decreasing_trivial_pre_omega; cases r.voted <;> rfl)]
      decreasing_trivial_pre_omega
      rw [eq_nil (fit_some fit_room _) (by decide), filt_emp, guard_dec (by simp only [List.length_append, List.length_map, List.length_cons, List.length_nil]; omega)]
      decreasing_trivial_pre_omega
      cases q : rs.all Room.voted
      all_goals
        decreasing_trivial_pre_omega
        rw [lc_encF (p := fun r => !r.rep.hasM .asking) (val := Room.d) (fun r hr => by rw [lcOne_eq]; decreasing_trivial_pre_omega; cases r.rep.hasM .asking <;> rfl)]
        decreasing_trivial_pre_omega
        rw [show S.ans.hasM .asking = false from rfl]
        decreasing_trivial_pre_omega
        unfold chairActs askActs forgetActs
        simp [q, CM.o, Act.d, Act.ds, O.d, O.s]
    | yes =>
      decreasing_trivial_pre_omega
      rw [lc_encF (p := fun r => !r.rep.hasM .yes) (val := Room.d) (fun r hr => by rw [lcOne_eq]; decreasing_trivial_pre_omega; cases r.rep.hasM .yes <;> rfl)]
      decreasing_trivial_pre_omega
      rw [eq_nilI (fit_some fit_room _) (by decide), filt_emp]
      unfold chairActs askActs forgetActs
      cases q1 : S.ans.hasM .yes <;> cases q2 : rs.all fun r => r.rep.hasM .yes
      all_goals
        decreasing_trivial_pre_omega
        try rw [k_addL (ds := (lefts tape).map fun l => (Act.down l).d) (es := [.tuple [.str "forget"]]) rfl rfl (by simp only [List.length_append, List.length_map, List.length_cons, List.length_nil]; omega)]
        decreasing_trivial_pre_omega
        have q1' : S.ans.has .yes = _ := q1
        have q2' : (rs.all fun r => r.rep.has .yes) = _ := q2
        simp only [CM.o, q1', q2']
        simp [Act.d, Act.ds]
    | no =>
      decreasing_trivial_pre_omega
      rw [lc_encF (p := fun r => !r.rep.hasM .no) (val := Room.d) (fun r hr => by rw [lcOne_eq]; decreasing_trivial_pre_omega; cases r.rep.hasM .no <;> rfl)]
      decreasing_trivial_pre_omega
      rw [eq_nilI (fit_some fit_room _) (by decide), filt_emp]
      unfold chairActs askActs forgetActs
      cases q1 : S.ans.hasM .no <;> cases q2 : rs.all fun r => r.rep.hasM .no
      all_goals
        decreasing_trivial_pre_omega
        try rw [k_addL (ds := (lefts tape).map fun l => (Act.down l).d) (es := [.tuple [.str "forget"]]) rfl rfl (by simp only [List.length_append, List.length_map, List.length_cons, List.length_nil]; omega)]
        decreasing_trivial_pre_omega
        have q1' : S.ans.has .no = _ := q1
        have q2' : (rs.all fun r => r.rep.has .no) = _ := q2
        simp only [CM.o, q1', q2']
        simp [Act.d, Act.ds]
    | gone =>
      decreasing_trivial_pre_omega
      rw [lc_encF (p := fun r => !r.rep.hasM .gone) (val := Room.d) (fun r hr => by rw [lcOne_eq]; decreasing_trivial_pre_omega; cases r.rep.hasM .gone <;> rfl)]
      decreasing_trivial_pre_omega
      rw [show S.ans.hasM .gone = false from rfl]
      decreasing_trivial_pre_omega
      unfold chairActs askActs forgetActs
      simp [CM.o, Act.d, Act.ds]
theorem letter_len (k : Nat) (r : Room) (o : O) : (letterActs k r o).length ≤ 2 := by
  unfold letterActs
  rw [List.length_append]
  split <;> split <;> simp
theorem letters_len (k : Nat) (r : Room) (l : List O) : ((l.map (letterActs k r)).flatten).length ≤ 2 * l.length := by
  induction l with
  | nil => simp
  | cons o l ih =>
    rw [List.map_cons, List.flatten_cons, List.length_append, List.length_cons]
    have := letter_len k r o
    omega
theorem os_len (x : OS) : x.l.length ≤ 2 := by
  obtain ⟨a, b⟩ := x
  cases a <;> cases b <;> decide
/-- the state of the loop over what was told -/
def lettersE (S : Sh) (s : Seat) (k : Nat) (r : Room) (z : PyData) (L : List Nv.Act) (e : Option Ent) : Env' := [some (.im S.d), some (.im s.d), some (.im (.int k)), some (.im r.d), some (.im (.str r.mind.s)), some (.im r.tape.d), some (.im r.told.d), some (.im z), some (.ow (L.map Act.d)), e, none]
theorem letter_ok (S : Sh) (s : Seat) (k : Nat) (r : Room) (z : PyData) (L : List Nv.Act) (o : O) (h : L.length ≤ 1100) : c__law_room_acts_L1 (lettersE S s k r z L (some (.im o.d))) = some (.nx (lettersE S s k r z (L ++ letterActs k r o) (some (.im o.d)))) := by
  have z1 := big
  have z2 : L.length < sizeLine := by omega
  obtain ⟨mind, tape, voted, told, rep, took, dropped⟩ := r
  unfold c__law_room_acts_L1 c__law_room_acts_L1_1 lettersE letterActs
  cases q : rep.has o
  all_goals
    cases mind <;> cases o <;> decreasing_trivial_pre_omega
    all_goals
      try rw [guard_dec (by rw [List.length_map]; exact z2)]
      decreasing_trivial_pre_omega
      simp [HM.ended, Act.d, Act.ds, guardB, z2, q]
theorem letters_ok (S : Sh) (s : Seat) (k : Nat) (r : Room) (z : PyData) (L : List Nv.Act) (h : L.length ≤ 1090) : ∃ e, cForGo (cgN 9) c__law_room_acts_L1 (r.told.l.map O.d) (lettersE S s k r z L none) = some (.nx (lettersE S s k r z (L ++ (r.told.l.map (letterActs k r)).flatten) e)) := by
  obtain ⟨mind, tape, voted, ⟨a, b⟩, rep, took, dropped⟩ := r
  have one : ∀ (L : List Nv.Act) (o : O) (e : Option Ent) (l : List PyData) (r : Room), L.length ≤ 1100 → cForGo (cgN 9) c__law_room_acts_L1 (o.d :: l) (lettersE S s k r z L e) = cForGo (cgN 9) c__law_room_acts_L1 l (lettersE S s k r z (L ++ letterActs k r o) (some (.im o.d))) := fun L o e l r h => by
    rw [cForGo]
    show (c__law_room_acts_L1 (lettersE S s k r z L (some (.im o.d)))).bind _ = _
    rw [letter_ok S s k r z L o h]
    rfl
  have ll := letter_len k ⟨mind, tape, voted, ⟨a, b⟩, rep, took, dropped⟩ .no
  cases a <;> cases b
  · exact ⟨none, by rw [show (OS.l ⟨false, false⟩) = [] from rfl]; simp [cForGo]⟩
  · exact ⟨_, by rw [show (OS.l ⟨false, true⟩) = [.yes] from rfl]; simp only [List.map_cons, List.map_nil]; rw [one _ _ _ _ _ (by omega)]; simp [cForGo]; rfl⟩
  · exact ⟨_, by rw [show (OS.l ⟨true, false⟩) = [.no] from rfl]; simp only [List.map_cons, List.map_nil]; rw [one _ _ _ _ _ (by omega)]; simp [cForGo]; rfl⟩
  · exact ⟨_, by rw [show (OS.l ⟨true, true⟩) = [.no, .yes] from rfl]; simp only [List.map_cons, List.map_nil]; rw [one _ _ _ _ _ (by omega), one _ _ _ _ _ (by rw [List.length_append]; omega)]; simp [cForGo]; rfl⟩
theorem roomActs_ok (S : Sh) (s : Seat) (k : Nat) (r : Room) (h : TOk r.tape) : C__law_room_acts [.im S.d, .im s.d, .im (.int k), .im r.d] = some (.ow ((roomActs S s k r).map Act.d)) := by
  have sm : (lefts r.tape).length ≤ 1001 := lefts_len r.tape h
  have z1 := big
  unfold C__law_room_acts c__law_room_acts c__law_room_acts_1 c__law_room_acts_2
  decreasing_trivial_pre_omega
  rw [said_ok]
  decreasing_trivial_pre_omega
  rw [r_2 (rng_ok h)]
  decreasing_trivial_pre_omega
  rw [rng_lefts, lc_enc (val := fun l : Nat => (Act.fall k l).d) (fun x hx => by rfl)]
  decreasing_trivial_pre_omega
  have rest : ∀ L : List Nv.Act, L.length ≤ 1090 → c__law_room_acts_4 (lettersE S s k r (match said S s with | some o => o.d | none => .none) L none) = some (.rt (.ow ((L ++ (r.told.l.map (letterActs k r)).flatten ++ clearActs k r ++ tellActs S s k r).map Act.d))) := fun L hL => by
    unfold c__law_room_acts_4 lettersE
    decreasing_trivial_pre_omega
    obtain ⟨e, he⟩ := letters_ok S s k r (match said S s with | some o => o.d | none => .none) L hL
    unfold lettersE at he
    rw [he]
    have l2 := letters_len k r r.told.l
    have l3 := os_len r.told
    generalize (r.told.l.map (letterActs k r)).flatten = M at l2
    have z2 : (L ++ M).length < sizeLine := by rw [List.length_append]; omega
    have z3 : (L ++ M).length ≤ 1095 := by rw [List.length_append]; omega
    unfold c__law_room_acts_5 c__law_room_acts_6 clearActs tellActs
    generalize L ++ M = N at z2 z3
    decreasing_trivial_pre_omega
    rw [guard_dec (by rw [List.length_map]; exact z2)]
    cases said S s with
    | none =>
      cases r.mind <;> decreasing_trivial_pre_omega <;> simp [Act.d, Act.ds]
    | some o =>
      dsimp only
      cases q : r.told.has o
      all_goals
        cases r.mind <;> decreasing_trivial_pre_omega
        all_goals
          rw [q]
          decreasing_trivial_pre_omega
          try rw [k_addL rfl rfl (by simp only [List.length_append, List.length_map, List.length_cons, List.length_nil]; omega)]
          decreasing_trivial_pre_omega
          simp [Act.d, Act.ds]
  have head : thenO (some (.nx (lettersE S s k r (match said S s with | some o => o.d | none => .none) ((lefts r.tape).map (Nv.Act.fall k)) none))) c__law_room_acts_3 = some (.rt (.ow ((roomActs S s k r).map Act.d))) := by
    unfold c__law_room_acts_3 lettersE
    decreasing_trivial_pre_omega
    unfold lettersE at rest
    unfold roomActs idleActs
    cases e : r.mind
    case idle =>
      decreasing_trivial_pre_omega
      rw [e] at rest
      rw [k_addL (ds := ((lefts r.tape).map (Nv.Act.fall k)).map Act.d) (es := [.tuple [.str "refuse", .int k]]) rfl rfl (by simp only [List.length_map, List.length_cons, List.length_nil]; omega)]
      decreasing_trivial_pre_omega
      by_cases en : s.mind = .new
      · rw [decide_eq_true en, if_pos en]
        decreasing_trivial_pre_omega
        rw [k_addL (ds := ((lefts r.tape).map (Nv.Act.fall k)).map Act.d ++ [.tuple [.str "refuse", .int k]]) (es := []) rfl rfl (by simp only [List.length_map, List.length_append, List.length_cons, List.length_nil]; omega)]
        decreasing_trivial_pre_omega
        have q := rest ((lefts r.tape).map (Nv.Act.fall k) ++ [.refuse k]) (by rw [List.length_append, List.length_map]; simp only [List.length_cons, List.length_nil]; omega)
        rw [List.map_append] at q
        rw [List.append_nil]
        exact q
      · rw [decide_eq_false en, if_neg en]
        decreasing_trivial_pre_omega
        rw [k_addL (ds := ((lefts r.tape).map (Nv.Act.fall k)).map Act.d ++ [.tuple [.str "refuse", .int k]]) (es := [.tuple [.str "vote", .int k]]) rfl rfl (by simp only [List.length_map, List.length_append, List.length_cons, List.length_nil]; omega)]
        decreasing_trivial_pre_omega
        have q := rest ((lefts r.tape).map (Nv.Act.fall k) ++ [.refuse k, .vote k]) (by rw [List.length_append, List.length_map]; simp only [List.length_cons, List.length_nil]; omega)
        rw [List.map_append] at q
        rw [List.append_assoc]
        exact q
    all_goals
      decreasing_trivial_pre_omega
      rw [e] at rest
      rw [rest _ (by rw [List.length_map]; omega)]
      simp
  unfold lettersE at head
  rw [List.map_map] at head
  exact congrArg endO head
theorem roomActs_len (S : Sh) (s : Seat) (k : Nat) (r : Room) (h : TOk r.tape) : (roomActs S s k r).length ≤ 1100 := by
  have h1 := lefts_len r.tape h
  have h2 := letters_len k r r.told.l
  have h3 := os_len r.told
  unfold roomActs
  simp only [List.length_append, List.length_map]
  have a1 : (idleActs s k r).length ≤ 2 := by unfold idleActs; split <;> first | (split <;> simp) | simp
  have a2 : (clearActs k r).length ≤ 1 := by unfold clearActs; split <;> simp
  have a3 : (tellActs S s k r).length ≤ 1 := by unfold tellActs; split <;> first | (split <;> simp) | simp
  omega
theorem chairActs_len (S : Sh) (s : Seat) (rs : List Room) (h : TOk s.tape) : (chairActs S s rs).length ≤ 1010 := by
  have h1 := lefts_len s.tape h
  have a1 : ∀ m, (askActs m rs).length ≤ 2 := fun m => by unfold askActs; split <;> first | (split <;> simp) | simp
  have a2 : ∀ m, (forgetActs S m rs).length ≤ 1 := fun m => by unfold forgetActs; split <;> first | (split <;> simp) | simp
  unfold chairActs
  split
  · simp
  · simp only [List.length_append, List.length_map]
    have := a1 s.mind
    have := a2 s.mind
    omega
/-- a standing as it can be -/
structure SOk (t : Stand) : Prop where
  seat : TOk t.seat.tape
  rooms : ∀ r ∈ t.rooms, TOk r.tape
  few : t.rooms.length ≤ 10
theorem roomsLoop (S : Sh) (t : Stand) : ∀ (rs : List Room) (k : Nat) (L : List Nv.Act) (e5 e6 : Option Ent), (∀ r ∈ rs, TOk r.tape) → L.length + 1100 * rs.length ≤ 1000000 → ∃ e5' e6', cForGo (cgTup 2 (cgsCons (cgN 5) (cgsCons (cgN 6) cgsNil))) c__law_acts_at_L1 (enumD k (rs.map Room.d)) [some (.im S.d), some (.im t.d), some (.im t.seat.d), some (.im (.tuple (t.rooms.map Room.d))), some (.im (.list (L.map Act.d))), e5, e6] =
    some (.nx [some (.im S.d), some (.im t.d), some (.im t.seat.d), some (.im (.tuple (t.rooms.map Room.d))), some (.im (.list ((L ++ roomsActs S t.seat k rs).map Act.d))), e5', e6'])
  | [], k, L, e5, e6, _, _ => ⟨e5, e6, by simp [enumD, roomsActs, cForGo]⟩
  | r :: rs, k, L, e5, e6, h, l => by
    have h0 := h r List.mem_cons_self
    have ln := roomActs_len S t.seat k r h0
    rw [List.length_cons] at l
    obtain ⟨e5', e6', ih⟩ := roomsLoop S t rs (k + 1) (L ++ roomActs S t.seat k r) (some (.im (.int k))) (some (.im r.d)) (fun x hx => h x (List.mem_cons_of_mem _ hx)) (by rw [List.length_append]; omega)
    refine ⟨e5', e6', ?_⟩
    rw [List.map_cons, enumD, cForGo]
    unfold c__law_acts_at_L1
    decreasing_trivial_pre_omega
    rw [roomActs_ok S t.seat k r h0]
    decreasing_trivial_pre_omega
    rw [k_addL (ds := L.map Act.d) (es := (roomActs S t.seat k r).map Act.d) rfl rfl (by have := big; rw [List.length_map, List.length_map]; omega)]
    decreasing_trivial_pre_omega
    rw [List.map_append] at ih
    unfold c__law_acts_at_L1 at ih
    rw [ih, List.append_assoc]
    rfl
/-- one's acts, ascending -/
theorem actsAt_ok (S : Sh) (t : Stand) (h : SOk t) : C__law_acts_at [.im S.d, .im t.d] = some (.ow (sortActs (acts S t))) := by
  unfold C__law_acts_at c__law_acts_at c__law_acts_at_1 c__law_acts_at_2
  decreasing_trivial_pre_omega
  rw [chairActs_ok S t.seat t.rooms h.seat]
  decreasing_trivial_pre_omega
  have l1 := chairActs_len S t.seat t.rooms h.seat
  have l2 := h.few
  obtain ⟨e5, e6, q⟩ := roomsLoop S t t.rooms 0 (chairActs S t.seat t.rooms) none none h.rooms (by omega)
  rw [q]
  unfold c__law_acts_at_3
  decreasing_trivial_pre_omega
  rw [sort_acts]
  rfl
end K49

namespace K49
open PySem PySem.Spec PyProof.Rows L2 DL Nv
local macro_rules
  | `(tactic| decreasing_trivial_pre_omega) => `(tactic| simp (config := { failIfUnchanged := false, implicitDefEqProofs := false }) only [t_nx, t_rt, t_ct, t_bk, e_var, e_K, e_2, e_B, bOf_b, iOf_i, e_And, e_Or, e_Not, e_AndV, e_OrV, e_NotV, e_If, e_Nil, e_Cons, e_Tup, e_Lst, kp_nil, kp_im, kp_ow, k_I, k_IsI, k_IsO, k_IsB, k_addI, k_dget, k_ixT, k_ixL, k_ixO, k_ixB, e_Chain, e_Call, k1_eq, dat_im', dat_ow, dat_br, kept_im, kept_ow, len_l, len_t, e_Is, e_NoPart, e_Part, e_Sl, sl_l, sl_t, ar_nil, ar_im, ar_ow, ar_ob, e_Fn, e_FnK, pl_im, pl_ow, pl_ob, e_Set, ow_ow, e_SetO, rt_im, rt_ow, rt_br, rt_ob, e_Ret, e_RetN, e_Skip, e_Seq, e_IfS, e_Asg, g_N, g_sNil, g_sCons, g_Tup, e_ItL, w_im, w_ow, w_br, e_ItT, w_t, e_Rng1, e_Rng2, e_Enum, en_t, en_l, e_For, e_Lc, e_Yes, e_Run, end_rt, end_nx, e_Star, e_Freeze, fz_ow, fz_im, e_Append, e_Extend, ex_l, e_DGet2, d_2, e_Aug, e_LstRg1, it_l, it_t, e_Expr, e_Disp, di_nil, di_cons, e_Neg, tk_f, tk_t, e_Par, e_Par3, s3, e_Tru, as_im, as_ow, as_ob, g_t, tup_t, tup_l, lst_t, lst_l, int_i, int_b, fg_nil, DL.gt, DL.pt, wipeE, Option.bind_some, Option.map_some, cond_true, cond_false, List.map_cons, List.map_nil, List.length_cons, List.length_nil, List.cons_append, List.nil_append, List.reduceReplicate, List.isEmpty_nil, List.isEmpty_cons, List.zip_cons_cons, List.zip_nil_right, Nat.reduceAdd, Nat.reduceSub, beq_self_eq_true, Bool.not_true, Bool.not_false, bne_self_eq_false, Bool.bne_false, Bool.bne_true, Bool.false_bne, Bool.true_bne, reduceCtorEq, decide_true, decide_false, Bool.or_true, Bool.true_or, Bool.or_false, Bool.false_or, Bool.and_true, Bool.true_and, Bool.and_false, Bool.false_and, ↓reduceIte, eq_tx, in_tx1, in_tx2, in_tx3, in_tx4, ok_cm, ok_hm, ok_rec, ok_o, ok_wd, ok_pre, tx_none, tx_lazy, tx_forced, tx_no, tx_yes, tx_wait, tx_new, tx_asking, tx_gone, tx_idle, tx_ready, tx_empty, tx_begin, tx_agreed, tx_refused, tx_words, tx_answers, tx_presume, tx_ask, tx_vote, tx_refuse, tx_decide, tx_tell, tx_hear, tx_answer, tx_forget, tx_clear, tx_down, tx_fall, cm_new, cm_newR, cm_asking, cm_askingR, cm_yes, cm_yesR, cm_no, cm_noR, cm_gone, cm_goneR, hm_idle, hm_idleR, hm_ready, hm_readyR, hm_yes, hm_yesR, hm_no, hm_noR, hm_empty, hm_emptyR, wd_none, wd_noneR, wd_lazy, wd_lazyR, wd_forced, wd_forcedR, o_no, o_noR, o_yes, o_yesR, pre_no, pre_noR, pre_wait, pre_waitR, pre_yes, pre_yesR, rec_begin, rec_beginR, rec_yes, rec_yesR, rec_no, rec_noR, rec_ready, rec_readyR, rec_agreed, rec_agreedR, rec_refused, rec_refusedR, dg_words, dg_answers, dg_presume, dg_word, dg_wordS, in_notes, in_os, in_osS, in_cm, eq_ox, eq_xo, eq_rx, in_ox2, eq_oo, nd_o, nd_none, at_4, at_5, at_6, at_7, ii_i, ib_i, ii_b, ib_b, is_s, it_t', it_l', il_l, il_t, tx_e, rec_e, e_e, Option.getD_some, Option.getD_none, add_os, tup_os, sl_room26, ko_str, ko_rec, ko_o, dg_cons, dg_nil, nd_str, nd_int, nd_tup, nd_lst, at_0, at_1, at_2, at_3, g_tape, ix_tape0, ix_tape1, g_seat, ix_seat0, ix_seat1, ix_seat2, g_room, ix_room0, ix_room1, ix_room2, ix_room3, ix_room4, ix_room5, ix_room6, g_stand, ix_stand0, ix_stand1, w_os, nq_ask_vote, nq_ask_refuse, nq_ask_decide, nq_ask_tell, nq_ask_hear, nq_ask_answer, nq_ask_forget, nq_ask_clear, nq_ask_down, nq_ask_fall, nq_vote_ask, nq_vote_refuse, nq_vote_decide, nq_vote_tell, nq_vote_hear, nq_vote_answer, nq_vote_forget, nq_vote_clear, nq_vote_down, nq_vote_fall, nq_refuse_ask, nq_refuse_vote, nq_refuse_decide, nq_refuse_tell, nq_refuse_hear, nq_refuse_answer, nq_refuse_forget, nq_refuse_clear, nq_refuse_down, nq_refuse_fall, nq_decide_ask, nq_decide_vote, nq_decide_refuse, nq_decide_tell, nq_decide_hear, nq_decide_answer, nq_decide_forget, nq_decide_clear, nq_decide_down, nq_decide_fall, nq_tell_ask, nq_tell_vote, nq_tell_refuse, nq_tell_decide, nq_tell_hear, nq_tell_answer, nq_tell_forget, nq_tell_clear, nq_tell_down, nq_tell_fall, nq_hear_ask, nq_hear_vote, nq_hear_refuse, nq_hear_decide, nq_hear_tell, nq_hear_answer, nq_hear_forget, nq_hear_clear, nq_hear_down, nq_hear_fall, nq_answer_ask, nq_answer_vote, nq_answer_refuse, nq_answer_decide, nq_answer_tell, nq_answer_hear, nq_answer_forget, nq_answer_clear, nq_answer_down, nq_answer_fall, nq_forget_ask, nq_forget_vote, nq_forget_refuse, nq_forget_decide, nq_forget_tell, nq_forget_hear, nq_forget_answer, nq_forget_clear, nq_forget_down, nq_forget_fall, nq_clear_ask, nq_clear_vote, nq_clear_refuse, nq_clear_decide, nq_clear_tell, nq_clear_hear, nq_clear_answer, nq_clear_forget, nq_clear_down, nq_clear_fall, nq_down_ask, nq_down_vote, nq_down_refuse, nq_down_decide, nq_down_tell, nq_down_hear, nq_down_answer, nq_down_forget, nq_down_clear, nq_down_fall, nq_fall_ask, nq_fall_vote, nq_fall_refuse, nq_fall_decide, nq_fall_tell, nq_fall_hear, nq_fall_answer, nq_fall_forget, nq_fall_clear, nq_fall_down])
theorem seatBehind_ok (S : Sh) (s : Seat) (a : Nv.Act) (h : s.tape.notes.length ≤ 1000) (hc : ∀ r ∈ s.tape.notes, r.chair = true) (ha : a.at = none) : C__law_seat_behind [.im S.d, .im s.d, .im a.d] = some (.im (seatBehind S s a).d) := by
  obtain ⟨mind, tape, dec⟩ := s
  unfold C__law_seat_behind c__law_seat_behind
  cases a <;> first | (cases ha; done) | skip
  all_goals simp only [Act.d, Act.ds]
  case ask =>
    decreasing_trivial_pre_omega
    unfold c__law_seat_behind_1
    decreasing_trivial_pre_omega
    rw [show (PyData.str "begin") = Rec.begin.d from rfl, write_ok S tape .begin h]
    decreasing_trivial_pre_omega
    rfl
  case decide o =>
    decreasing_trivial_pre_omega
    unfold c__law_seat_behind_1 c__law_seat_behind_2
    decreasing_trivial_pre_omega
    cases o
    · rw [show O.no.d = Rec.no.d from rfl, write_ok S tape .no h]
      decreasing_trivial_pre_omega
      cases dec <;> decreasing_trivial_pre_omega <;> rfl
    · rw [show O.yes.d = Rec.yes.d from rfl, write_ok S tape .yes h]
      decreasing_trivial_pre_omega
      cases dec <;> decreasing_trivial_pre_omega <;> rfl
  case forget =>
    decreasing_trivial_pre_omega
    unfold c__law_seat_behind_1 c__law_seat_behind_2 c__law_seat_behind_3
    decreasing_trivial_pre_omega
    rfl
  case down l =>
    decreasing_trivial_pre_omega
    unfold c__law_seat_behind_1 c__law_seat_behind_2 c__law_seat_behind_3 c__law_seat_behind_4 c__law_seat_behind_5 c__law_seat_behind_6
    decreasing_trivial_pre_omega
    rw [sl_take]
    decreasing_trivial_pre_omega
    rw [eq_nilT (fit_some fit_rec _) (by decide)]
    show _ = some (Ent.im (Seat.d ⟨lastMind chairLeft .gone (tape.notes.take l), ⟨tape.notes.take l, (tape.notes.take l).length⟩, dec⟩))
    have hc' : ∀ r ∈ tape.notes.take l, r.chair = true := fun r hr => hc r (List.mem_of_mem_take hr)
    rcases nil_or_snoc (tape.notes.take l) with e | ⟨m, x, e⟩
    · rw [e]
      decreasing_trivial_pre_omega
      rfl
    · rw [e] at hc' ⊢
      have hx := hc' x (by simp)
      rw [last_snoc, List.map_append, List.map_cons, List.map_nil, L2.atI_last, show ((m.map Rec.d) ++ [x.d]).isEmpty = false by cases m <;> rfl]
      decreasing_trivial_pre_omega
      cases x <;> first | (cases hx; done) | skip
      all_goals
        decreasing_trivial_pre_omega
        rw [← List.map_singleton, ← List.map_append, List.length_map]
        rfl
theorem roomFallen_ok (r : Room) (l : Nat) (hc : ∀ x ∈ r.tape.notes, x.chair = false) : C__law_room_fallen [.im r.d, .im (.int l)] = some (.im (roomFallen r l).d) := by
  unfold C__law_room_fallen c__law_room_fallen c__law_room_fallen_1 c__law_room_fallen_2 c__law_room_fallen_3
  decreasing_trivial_pre_omega
  rw [sl_take]
  decreasing_trivial_pre_omega
  rw [eq_nilT (fit_some fit_rec _) (by decide)]
  unfold roomFallen
  have hc' : ∀ x ∈ r.tape.notes.take l, x.chair = false := fun x hr => hc x (List.mem_of_mem_take hr)
  rcases nil_or_snoc (r.tape.notes.take l) with e | ⟨m, x, e⟩
  · rw [e]
    decreasing_trivial_pre_omega
    rw [show kEq false (.im (.tuple [])) (.im (.tuple [])) = some (.im (.bool true)) from rfl]
    decreasing_trivial_pre_omega
    rw [k_addT, guard_dec (Nat.le_of_ble_eq_true rfl)]
    decreasing_trivial_pre_omega
    cases r.dropped <;> cases r.mind <;> decreasing_trivial_pre_omega
    all_goals
      rw [k_addT, guard_dec (Nat.le_of_ble_eq_true rfl)]
      rfl
  · rw [e] at hc' ⊢
    have hx := hc' x (by simp)
    rw [last_snoc, List.map_append, List.map_cons, List.map_nil, L2.atI_last, show ((m.map Rec.d) ++ [x.d]).isEmpty = false by cases m <;> rfl]
    have ne : ∀ y : Rec, (m ++ [y]).isEmpty = false := fun y => by cases m <;> rfl
    have em : ∀ neg, kEq neg (.im (.tuple (m.map Rec.d ++ [x.d]))) (.im (.tuple [])) = some (.im (.bool neg)) := fun neg => by
      rw [← List.map_singleton, ← List.map_append, eq_nilT (fit_some fit_rec _) (by decide)]
      cases neg <;> cases m <;> rfl
    decreasing_trivial_pre_omega
    cases x <;> first | (cases hx; done) | skip
    all_goals
      decreasing_trivial_pre_omega
      rw [em]
      decreasing_trivial_pre_omega
      rw [k_addT, guard_dec (Nat.le_of_ble_eq_true rfl)]
      decreasing_trivial_pre_omega
      rw [← List.map_singleton, ← List.map_append, ne]
      cases r.dropped <;> decreasing_trivial_pre_omega
      all_goals
        rw [k_addT, guard_dec (Nat.le_of_ble_eq_true rfl)]
        rfl
theorem roomBehind_ok (S : Sh) (s : Seat) (r : Room) (a : Nv.Act) (h : r.tape.notes.length ≤ 1000) (hc : ∀ x ∈ r.tape.notes, x.chair = false) (ha : a.at ≠ none)
    (ht : ∀ k, a = .tell k → ∃ o, said S s = some o ∧ r.told.has o = false) (hn : ∀ k o, a = .answer k o → r.rep.has o = false) :
    C__law_room_behind [.im S.d, .im s.d, .im r.d, .im a.d] = some (.im (roomBehind S s r a).d) := by
  unfold C__law_room_behind c__law_room_behind
  cases a <;> first | (exact absurd rfl ha) | skip
  all_goals simp only [Act.d, Act.ds]
  all_goals decreasing_trivial_pre_omega
  all_goals unfold c__law_room_behind_1
  all_goals decreasing_trivial_pre_omega
  case vote k =>
    rw [show (PyData.str "ready") = Rec.ready.d from rfl, write_ok S r.tape .ready h]
    decreasing_trivial_pre_omega
    rfl
  all_goals unfold c__law_room_behind_2
  all_goals decreasing_trivial_pre_omega
  case tell k =>
    obtain ⟨o, e1, e2⟩ := ht k rfl
    rw [said_ok, e1]
    decreasing_trivial_pre_omega
    rw [sort_os _ _ e2]
    decreasing_trivial_pre_omega
    show _ = some (Ent.im (Room.d (match said S s with | some o => { r with told := r.told.add o } | none => r)))
    rw [e1]
    rfl
  all_goals unfold c__law_room_behind_3
  all_goals decreasing_trivial_pre_omega
  case answer k o =>
    rw [sort_os _ _ (hn k o rfl)]
    decreasing_trivial_pre_omega
    rfl
  all_goals unfold c__law_room_behind_4
  all_goals decreasing_trivial_pre_omega
  case clear k => rfl
  all_goals unfold c__law_room_behind_5
  all_goals decreasing_trivial_pre_omega
  case fall k l =>
    rw [roomFallen_ok r l hc]
    rfl
  all_goals unfold c__law_room_behind_6 c__law_room_behind_7
  all_goals decreasing_trivial_pre_omega
  case refuse k =>
    rw [show (PyData.str "refused") = Rec.refused.d from rfl, write_ok S r.tape .refused h]
    decreasing_trivial_pre_omega
    rfl
  case hear k o =>
    cases o
    · decreasing_trivial_pre_omega
      rw [show (PyData.str "refused") = Rec.refused.d from rfl, write_ok S r.tape .refused h]
      decreasing_trivial_pre_omega
      rfl
    · decreasing_trivial_pre_omega
      rw [show (PyData.str "agreed") = Rec.agreed.d from rfl, write_ok S r.tape .agreed h]
      decreasing_trivial_pre_omega
      rfl
theorem standBehind_ok (S : Sh) (t : Stand) (a : Nv.Act) (h : SW t) (ha : a ∈ acts S t) : C__law_stand_behind [.im S.d, .im t.d, .im a.d] = some (.im (behind S t a).d) := by
  unfold C__law_stand_behind c__law_stand_behind c__law_stand_behind_1
  decreasing_trivial_pre_omega
  rcases mem_acts.mp ha with m | ⟨k, r, e, m⟩
  · have na := mem_chair m
    have q := seatBehind_ok S t.seat a (Nat.le_trans h.seat.few (by decide)) h.seat.own na
    unfold behind
    rw [na]
    cases a <;> first | (cases na; done) | skip
    all_goals
      simp only [Act.d, Act.ds] at q ⊢
      decreasing_trivial_pre_omega
      rw [q]
      decreasing_trivial_pre_omega
      rfl
  · have w := h.rooms r (List.mem_of_getElem? e)
    have q := roomBehind_ok S t.seat r a (Nat.le_trans w.few (by decide)) w.own (by rw [m.at]; simp) (fun k' e' => by subst e'; cases m with | tell e1 e2 => exact ⟨_, e1, e2⟩) (fun k' o' e' => by subst e'; cases m with | answer e1 e2 e3 => exact e3)
    have ix : atI (t.rooms.map Room.d) (k : Int) = some r.d := atI_nat (v := r.d) (by rw [List.getElem?_map, e]; rfl)
    have few := h.few
    have z := big
    have fin : thenO (some (.nx [some (.im S.d), some (.im t.d), some (.im a.d), some (.im t.seat.d), some (.im (.tuple (t.rooms.map Room.d))), none])) c__law_stand_behind_2 = some (.rt (.im (behind S t a).d)) := by
      have ix1 : kIx (.im a.d) (.im (.int 1)) = some (.im (.int (k : Nat))) := by cases m <;> rfl
      unfold c__law_stand_behind_2 c__law_stand_behind_3
      decreasing_trivial_pre_omega
      rw [ix1]
      decreasing_trivial_pre_omega
      rw [ix]
      decreasing_trivial_pre_omega
      rw [q]
      decreasing_trivial_pre_omega
      rw [sl_takeR]
      decreasing_trivial_pre_omega
      rw [k_addT, guard_dec (by simp only [List.length_map, List.length_take, List.length_cons, List.length_nil]; omega)]
      decreasing_trivial_pre_omega
      rw [sl_dropR]
      decreasing_trivial_pre_omega
      rw [k_addT, guard_dec (by simp only [List.length_map, List.length_append, List.length_take, List.length_drop, List.length_cons, List.length_nil]; omega)]
      decreasing_trivial_pre_omega
      unfold behind
      rw [m.at]
      show _ = some (Out.rt (.im (Stand.d ⟨t.seat, t.rooms.modify k (roomBehind S t.seat · a)⟩)))
      rw [modify_at e]
      unfold Stand.d
      simp
    have kw : kIx (.im a.d) (.im (.int 0)) = some (.im (a.ds.headD .none)) := by cases m <;> rfl
    cases m
    all_goals
      simp only [Act.d, Act.ds] at fin ⊢
      decreasing_trivial_pre_omega
      exact congrArg endO fin
end K49

namespace K49
open PySem PySem.Spec PyProof.Rows L2 DL Nv
local macro_rules
  | `(tactic| decreasing_trivial_pre_omega) => `(tactic| simp (config := { failIfUnchanged := false, implicitDefEqProofs := false }) only [t_nx, t_rt, t_ct, t_bk, e_var, e_K, e_2, e_B, bOf_b, iOf_i, e_And, e_Or, e_Not, e_AndV, e_OrV, e_NotV, e_If, e_Nil, e_Cons, e_Tup, e_Lst, kp_nil, kp_im, kp_ow, k_I, k_IsI, k_IsO, k_IsB, k_addI, k_dget, k_ixT, k_ixL, k_ixO, k_ixB, e_Chain, e_Call, k1_eq, dat_im', dat_ow, dat_br, kept_im, kept_ow, len_l, len_t, e_Is, e_NoPart, e_Part, e_Sl, sl_l, sl_t, ar_nil, ar_im, ar_ow, ar_ob, e_Fn, e_FnK, pl_im, pl_ow, pl_ob, e_Set, ow_ow, e_SetO, rt_im, rt_ow, rt_br, rt_ob, e_Ret, e_RetN, e_Skip, e_Seq, e_IfS, e_Asg, g_N, g_sNil, g_sCons, g_Tup, e_ItL, w_im, w_ow, w_br, e_ItT, w_t, e_Rng1, e_Rng2, e_Enum, en_t, en_l, e_For, e_Lc, e_Yes, e_Run, end_rt, end_nx, e_Star, e_Freeze, fz_ow, fz_im, e_Append, e_Extend, ex_l, e_DGet2, d_2, e_Aug, e_LstRg1, it_l, it_t, e_Expr, e_Disp, di_nil, di_cons, e_Neg, tk_f, tk_t, e_Par, e_Par3, s3, e_Tru, as_im, as_ow, as_ob, g_t, tup_t, tup_l, lst_t, lst_l, int_i, int_b, fg_nil, DL.gt, DL.pt, wipeE, Option.bind_some, Option.map_some, cond_true, cond_false, List.map_cons, List.map_nil, List.length_cons, List.length_nil, List.cons_append, List.nil_append, List.reduceReplicate, List.isEmpty_nil, List.isEmpty_cons, List.zip_cons_cons, List.zip_nil_right, Nat.reduceAdd, Nat.reduceSub, beq_self_eq_true, Bool.not_true, Bool.not_false, bne_self_eq_false, Bool.bne_false, Bool.bne_true, Bool.false_bne, Bool.true_bne, reduceCtorEq, decide_true, decide_false, Bool.or_true, Bool.true_or, Bool.or_false, Bool.false_or, Bool.and_true, Bool.true_and, Bool.and_false, Bool.false_and, ↓reduceIte, eq_tx, in_tx1, in_tx2, in_tx3, in_tx4, ok_cm, ok_hm, ok_rec, ok_o, ok_wd, ok_pre, tx_none, tx_lazy, tx_forced, tx_no, tx_yes, tx_wait, tx_new, tx_asking, tx_gone, tx_idle, tx_ready, tx_empty, tx_begin, tx_agreed, tx_refused, tx_words, tx_answers, tx_presume, tx_ask, tx_vote, tx_refuse, tx_decide, tx_tell, tx_hear, tx_answer, tx_forget, tx_clear, tx_down, tx_fall, cm_new, cm_newR, cm_asking, cm_askingR, cm_yes, cm_yesR, cm_no, cm_noR, cm_gone, cm_goneR, hm_idle, hm_idleR, hm_ready, hm_readyR, hm_yes, hm_yesR, hm_no, hm_noR, hm_empty, hm_emptyR, wd_none, wd_noneR, wd_lazy, wd_lazyR, wd_forced, wd_forcedR, o_no, o_noR, o_yes, o_yesR, pre_no, pre_noR, pre_wait, pre_waitR, pre_yes, pre_yesR, rec_begin, rec_beginR, rec_yes, rec_yesR, rec_no, rec_noR, rec_ready, rec_readyR, rec_agreed, rec_agreedR, rec_refused, rec_refusedR, dg_words, dg_answers, dg_presume, dg_word, dg_wordS, in_notes, in_os, in_osS, in_cm, eq_ox, eq_xo, eq_rx, in_ox2, eq_oo, nd_o, nd_none, at_4, at_5, at_6, at_7, ii_i, ib_i, ii_b, ib_b, is_s, it_t', it_l', il_l, il_t, tx_e, rec_e, e_e, Option.getD_some, Option.getD_none, add_os, tup_os, sl_room26, ko_str, ko_rec, ko_o, dg_cons, dg_nil, nd_str, nd_int, nd_tup, nd_lst, at_0, at_1, at_2, at_3, g_tape, ix_tape0, ix_tape1, g_seat, ix_seat0, ix_seat1, ix_seat2, g_room, ix_room0, ix_room1, ix_room2, ix_room3, ix_room4, ix_room5, ix_room6, g_stand, ix_stand0, ix_stand1, w_os, nq_ask_vote, nq_ask_refuse, nq_ask_decide, nq_ask_tell, nq_ask_hear, nq_ask_answer, nq_ask_forget, nq_ask_clear, nq_ask_down, nq_ask_fall, nq_vote_ask, nq_vote_refuse, nq_vote_decide, nq_vote_tell, nq_vote_hear, nq_vote_answer, nq_vote_forget, nq_vote_clear, nq_vote_down, nq_vote_fall, nq_refuse_ask, nq_refuse_vote, nq_refuse_decide, nq_refuse_tell, nq_refuse_hear, nq_refuse_answer, nq_refuse_forget, nq_refuse_clear, nq_refuse_down, nq_refuse_fall, nq_decide_ask, nq_decide_vote, nq_decide_refuse, nq_decide_tell, nq_decide_hear, nq_decide_answer, nq_decide_forget, nq_decide_clear, nq_decide_down, nq_decide_fall, nq_tell_ask, nq_tell_vote, nq_tell_refuse, nq_tell_decide, nq_tell_hear, nq_tell_answer, nq_tell_forget, nq_tell_clear, nq_tell_down, nq_tell_fall, nq_hear_ask, nq_hear_vote, nq_hear_refuse, nq_hear_decide, nq_hear_tell, nq_hear_answer, nq_hear_forget, nq_hear_clear, nq_hear_down, nq_hear_fall, nq_answer_ask, nq_answer_vote, nq_answer_refuse, nq_answer_decide, nq_answer_tell, nq_answer_hear, nq_answer_forget, nq_answer_clear, nq_answer_down, nq_answer_fall, nq_forget_ask, nq_forget_vote, nq_forget_refuse, nq_forget_decide, nq_forget_tell, nq_forget_hear, nq_forget_answer, nq_forget_clear, nq_forget_down, nq_forget_fall, nq_clear_ask, nq_clear_vote, nq_clear_refuse, nq_clear_decide, nq_clear_tell, nq_clear_hear, nq_clear_answer, nq_clear_forget, nq_clear_down, nq_clear_fall, nq_down_ask, nq_down_vote, nq_down_refuse, nq_down_decide, nq_down_tell, nq_down_hear, nq_down_answer, nq_down_forget, nq_down_clear, nq_down_fall, nq_fall_ask, nq_fall_vote, nq_fall_refuse, nq_fall_decide, nq_fall_tell, nq_fall_hear, nq_fall_answer, nq_fall_forget, nq_fall_clear, nq_fall_down])
/-! the plain course, in Lean's own kinds -/
def fw (S : Sh) (r : Rec) : Int := if S.w r = .forced then 1 else 0
def fb (S : Sh) : Nv.Act → Int
  | .ask => fw S .begin
  | .vote _ => fw S .ready
  | .refuse _ => fw S .refused
  | .decide .yes => fw S .yes
  | .decide .no => fw S .no
  | .hear _ .yes => fw S .agreed
  | .hear _ .no => fw S .refused
  | _ => 0
def lt' : Nv.Act → Int
  | .vote _ => 1 | .refuse _ => 1 | .tell _ => 1 | .answer _ _ => 1 | _ => 0
inductive Runs (S : Sh) : Stand → List Nv.Act → Stand → Int → Int → Prop
  | nil (t : Stand) : Runs S t [] t 0 0
  | cons {t t' : Stand} {a : Nv.Act} {l : List Nv.Act} {F L : Int} : a ∈ acts S t → Runs S (behind S t a) l t' F L → Runs S t (a :: l) t' (fb S a + F) (lt' a + L)
theorem Runs.app {S : Sh} {t t1 t2 : Stand} {l l' : List Nv.Act} {F L F' L' : Int} (h : Runs S t l t1 F L) (h' : Runs S t1 l' t2 F' L') : Runs S t (l ++ l') t2 (F + F') (L + L') := by
  induction h with
  | nil t => rw [Int.zero_add, Int.zero_add]; exact h'
  | cons m r ih => rw [Int.add_assoc, Int.add_assoc]; exact .cons m (ih h')
theorem Runs.to {S : Sh} {t t' : Stand} {l : List Nv.Act} {F L F' L' : Int} (h : Runs S t l t' F L) (e : F = F') (e' : L = L') : Runs S t l t' F' L' := e ▸ e' ▸ h
theorem Runs.one {S : Sh} {t : Stand} {a : Nv.Act} (h : a ∈ acts S t) : Runs S t [a] (behind S t a) (fb S a) (lt' a) := (Runs.cons h (.nil _)).to (Int.add_zero _) (Int.add_zero _)
theorem forcedFin (S : Sh) (r : Rec) (x : Env') : c__law_forced_by_4 [some (.im S.d), x.headD none, (x.drop 1).headD none, some (.im r.d)] = some (.rt (.im (.int (fw S r)))) := by
  unfold c__law_forced_by_4 fw
  decreasing_trivial_pre_omega
  by_cases h : S.w r = .forced
  · rw [decide_eq_true h, if_pos h]
    rfl
  · rw [decide_eq_false h, if_neg h]
    rfl
theorem forcedNil (S : Sh) (x : Env') : c__law_forced_by_4 [some (.im S.d), x.headD none, (x.drop 1).headD none, some (.im (.str ""))] = some (.rt (.im (.int 0))) := by
  unfold c__law_forced_by_4
  decreasing_trivial_pre_omega
theorem forcedBy_ok (S : Sh) (a : Nv.Act) : C__law_forced_by [.im S.d, .im a.d] = some (.im (.int (fb S a))) := by
  unfold C__law_forced_by c__law_forced_by c__law_forced_by_1 c__law_forced_by_2 c__law_forced_by_3
  cases a
  case hear k o =>
    simp only [Act.d, Act.ds]
    decreasing_trivial_pre_omega
    cases o
    · decreasing_trivial_pre_omega
      exact congrArg endO (forcedFin S .refused [_, _])
    · decreasing_trivial_pre_omega
      exact congrArg endO (forcedFin S .agreed [_, _])
  case decide o =>
    simp only [Act.d, Act.ds]
    decreasing_trivial_pre_omega
    cases o
    · exact congrArg endO (forcedFin S .no [_, _])
    · exact congrArg endO (forcedFin S .yes [_, _])
  case ask =>
    simp only [Act.d, Act.ds]
    decreasing_trivial_pre_omega
    exact congrArg endO (forcedFin S .begin [_, _])
  case vote =>
    simp only [Act.d, Act.ds]
    decreasing_trivial_pre_omega
    exact congrArg endO (forcedFin S .ready [_, _])
  case refuse =>
    simp only [Act.d, Act.ds]
    decreasing_trivial_pre_omega
    exact congrArg endO (forcedFin S .refused [_, _])
  all_goals
    simp only [Act.d, Act.ds]
    decreasing_trivial_pre_omega
    exact congrArg endO (forcedNil S [_, _])
/-- the loop of the law's costs -/
def costE (S : Sh) (x1 x2 : Option Ent) (t : Stand) (f n : Int) (e : Option Ent) : Env' := [some (.im S.d), x1, x2, some (.im t.d), some (.im (.int f)), some (.im (.int n)), e]
theorem letter_ix (a : Nv.Act) : ∃ w : Str, kIx (.im a.d) (.im (.int 0)) = some (.im (.str w)) ∧ kIn false (.im (.str w)) (.im (.tuple [.str "vote", .str "refuse", .str "tell", .str "answer"])) = some (.im (.bool (decide (lt' a = 1)))) := by
  cases a <;> exact ⟨_, rfl, by decreasing_trivial_pre_omega <;> rfl⟩
theorem lt01 (a : Nv.Act) : (if decide (lt' a = 1) = true then (1 : Int) else 0) = lt' a := by cases a <;> rfl
theorem costLoop {S : Sh} {t t' : Stand} {l : List Nv.Act} {F L : Int} (h : Runs S t l t' F L) : SW t → ∀ (x1 x2 e : Option Ent) (f n : Int), ∃ e', cForGo (cgN 6) c__law_told_costs_L1 (l.map Act.d) (costE S x1 x2 t f n e) = some (.nx (costE S x1 x2 t' (f + F) (n + L) e')) := by
  induction h with
  | nil t => exact fun _ x1 x2 e f n => ⟨e, by rw [Int.add_zero, Int.add_zero]; rfl⟩
  | @cons t t' a l F L m r ih =>
    intro w x1 x2 e f n
    obtain ⟨e', q⟩ := ih (w.behind m) x1 x2 (some (.im a.d)) (f + fb S a) (n + lt' a)
    refine ⟨e', ?_⟩
    rw [List.map_cons, cForGo]
    have step : c__law_told_costs_L1 (costE S x1 x2 t f n (some (.im a.d))) = some (.nx (costE S x1 x2 (behind S t a) (f + fb S a) (n + lt' a) (some (.im a.d)))) := by
      unfold c__law_told_costs_L1 c__law_told_costs_L1_1 c__law_told_costs_L1_2 c__law_told_costs_L1_3 costE
      decreasing_trivial_pre_omega
      rw [actsAt_ok S t ⟨w.seat.ok, fun r hr => (w.rooms r hr).ok, w.few⟩]
      decreasing_trivial_pre_omega
      rw [kIn_ok (d := a.d) (es := sortActs (acts S t)) rfl rfl (fit_act a).shaped (fit_sorted _).shaped, any_sorted, decide_eq_true m]
      decreasing_trivial_pre_omega
      rw [forcedBy_ok]
      decreasing_trivial_pre_omega
      obtain ⟨x, i1, i2⟩ := letter_ix a
      rw [i1]
      decreasing_trivial_pre_omega
      rw [i2]
      decreasing_trivial_pre_omega
      rw [standBehind_ok S t a w m]
      decreasing_trivial_pre_omega
      rw [lt01]
    show (c__law_told_costs_L1 (costE S x1 x2 t f n (some (.im a.d)))).bind _ = _
    rw [step, ← Int.add_assoc, ← Int.add_assoc]
    exact q
end K49

namespace K49
open PySem PySem.Spec PyProof.Rows L2 DL Nv
local macro_rules
  | `(tactic| decreasing_trivial_pre_omega) => `(tactic| simp (config := { failIfUnchanged := false, implicitDefEqProofs := false }) only [t_nx, t_rt, t_ct, t_bk, e_var, e_K, e_2, e_B, bOf_b, iOf_i, e_And, e_Or, e_Not, e_AndV, e_OrV, e_NotV, e_If, e_Nil, e_Cons, e_Tup, e_Lst, kp_nil, kp_im, kp_ow, k_I, k_IsI, k_IsO, k_IsB, k_addI, k_dget, k_ixT, k_ixL, k_ixO, k_ixB, e_Chain, e_Call, k1_eq, dat_im', dat_ow, dat_br, kept_im, kept_ow, len_l, len_t, e_Is, e_NoPart, e_Part, e_Sl, sl_l, sl_t, ar_nil, ar_im, ar_ow, ar_ob, e_Fn, e_FnK, pl_im, pl_ow, pl_ob, e_Set, ow_ow, e_SetO, rt_im, rt_ow, rt_br, rt_ob, e_Ret, e_RetN, e_Skip, e_Seq, e_IfS, e_Asg, g_N, g_sNil, g_sCons, g_Tup, e_ItL, w_im, w_ow, w_br, e_ItT, w_t, e_Rng1, e_Rng2, e_Enum, en_t, en_l, e_For, e_Lc, e_Yes, e_Run, end_rt, end_nx, e_Star, e_Freeze, fz_ow, fz_im, e_Append, e_Extend, ex_l, e_DGet2, d_2, e_Aug, e_LstRg1, it_l, it_t, e_Expr, e_Disp, di_nil, di_cons, e_Neg, tk_f, tk_t, e_Par, e_Par3, s3, e_Tru, as_im, as_ow, as_ob, g_t, tup_t, tup_l, lst_t, lst_l, int_i, int_b, fg_nil, DL.gt, DL.pt, wipeE, Option.bind_some, Option.map_some, cond_true, cond_false, List.map_cons, List.map_nil, List.length_cons, List.length_nil, List.cons_append, List.nil_append, List.reduceReplicate, List.isEmpty_nil, List.isEmpty_cons, List.zip_cons_cons, List.zip_nil_right, Nat.reduceAdd, Nat.reduceSub, beq_self_eq_true, Bool.not_true, Bool.not_false, bne_self_eq_false, Bool.bne_false, Bool.bne_true, Bool.false_bne, Bool.true_bne, reduceCtorEq, decide_true, decide_false, Bool.or_true, Bool.true_or, Bool.or_false, Bool.false_or, Bool.and_true, Bool.true_and, Bool.and_false, Bool.false_and, ↓reduceIte, eq_tx, in_tx1, in_tx2, in_tx3, in_tx4, ok_cm, ok_hm, ok_rec, ok_o, ok_wd, ok_pre, tx_none, tx_lazy, tx_forced, tx_no, tx_yes, tx_wait, tx_new, tx_asking, tx_gone, tx_idle, tx_ready, tx_empty, tx_begin, tx_agreed, tx_refused, tx_words, tx_answers, tx_presume, tx_ask, tx_vote, tx_refuse, tx_decide, tx_tell, tx_hear, tx_answer, tx_forget, tx_clear, tx_down, tx_fall, cm_new, cm_newR, cm_asking, cm_askingR, cm_yes, cm_yesR, cm_no, cm_noR, cm_gone, cm_goneR, hm_idle, hm_idleR, hm_ready, hm_readyR, hm_yes, hm_yesR, hm_no, hm_noR, hm_empty, hm_emptyR, wd_none, wd_noneR, wd_lazy, wd_lazyR, wd_forced, wd_forcedR, o_no, o_noR, o_yes, o_yesR, pre_no, pre_noR, pre_wait, pre_waitR, pre_yes, pre_yesR, rec_begin, rec_beginR, rec_yes, rec_yesR, rec_no, rec_noR, rec_ready, rec_readyR, rec_agreed, rec_agreedR, rec_refused, rec_refusedR, dg_words, dg_answers, dg_presume, dg_word, dg_wordS, in_notes, in_os, in_osS, in_cm, eq_ox, eq_xo, eq_rx, in_ox2, eq_oo, nd_o, nd_none, at_4, at_5, at_6, at_7, ii_i, ib_i, ii_b, ib_b, is_s, it_t', it_l', il_l, il_t, tx_e, rec_e, e_e, Option.getD_some, Option.getD_none, add_os, tup_os, sl_room26, ko_str, ko_rec, ko_o, dg_cons, dg_nil, nd_str, nd_int, nd_tup, nd_lst, at_0, at_1, at_2, at_3, g_tape, ix_tape0, ix_tape1, g_seat, ix_seat0, ix_seat1, ix_seat2, g_room, ix_room0, ix_room1, ix_room2, ix_room3, ix_room4, ix_room5, ix_room6, g_stand, ix_stand0, ix_stand1, w_os, nq_ask_vote, nq_ask_refuse, nq_ask_decide, nq_ask_tell, nq_ask_hear, nq_ask_answer, nq_ask_forget, nq_ask_clear, nq_ask_down, nq_ask_fall, nq_vote_ask, nq_vote_refuse, nq_vote_decide, nq_vote_tell, nq_vote_hear, nq_vote_answer, nq_vote_forget, nq_vote_clear, nq_vote_down, nq_vote_fall, nq_refuse_ask, nq_refuse_vote, nq_refuse_decide, nq_refuse_tell, nq_refuse_hear, nq_refuse_answer, nq_refuse_forget, nq_refuse_clear, nq_refuse_down, nq_refuse_fall, nq_decide_ask, nq_decide_vote, nq_decide_refuse, nq_decide_tell, nq_decide_hear, nq_decide_answer, nq_decide_forget, nq_decide_clear, nq_decide_down, nq_decide_fall, nq_tell_ask, nq_tell_vote, nq_tell_refuse, nq_tell_decide, nq_tell_hear, nq_tell_answer, nq_tell_forget, nq_tell_clear, nq_tell_down, nq_tell_fall, nq_hear_ask, nq_hear_vote, nq_hear_refuse, nq_hear_decide, nq_hear_tell, nq_hear_answer, nq_hear_forget, nq_hear_clear, nq_hear_down, nq_hear_fall, nq_answer_ask, nq_answer_vote, nq_answer_refuse, nq_answer_decide, nq_answer_tell, nq_answer_hear, nq_answer_forget, nq_answer_clear, nq_answer_down, nq_answer_fall, nq_forget_ask, nq_forget_vote, nq_forget_refuse, nq_forget_decide, nq_forget_tell, nq_forget_hear, nq_forget_answer, nq_forget_clear, nq_forget_down, nq_forget_fall, nq_clear_ask, nq_clear_vote, nq_clear_refuse, nq_clear_decide, nq_clear_tell, nq_clear_hear, nq_clear_answer, nq_clear_forget, nq_clear_down, nq_clear_fall, nq_down_ask, nq_down_vote, nq_down_refuse, nq_down_decide, nq_down_tell, nq_down_hear, nq_down_answer, nq_down_forget, nq_down_clear, nq_down_fall, nq_fall_ask, nq_fall_vote, nq_fall_refuse, nq_fall_decide, nq_fall_tell, nq_fall_hear, nq_fall_answer, nq_fall_forget, nq_fall_clear, nq_fall_down])
/-! the plain course -/
def voters (o : O) (m : Nat) : Nat := match o with | .yes => m | .no => m - 1
def tailActs (S : Sh) (o : O) (v : Nat) (k : Nat) : List Nv.Act := .tell k :: ((if k < v then [.hear k o] else []) ++ (if S.ans.has o then [.answer k o] else []))
def plainActs (S : Sh) (o : O) (m : Nat) : List Nv.Act :=
  (.ask :: ((List.range (voters o m)).map Nv.Act.vote ++ (match o with | .no => [.refuse (m - 1)] | .yes => []))) ++ [.decide o] ++ ((List.range m).map (tailActs S o (voters o m))).flatten
theorem rngD0 (n : Nat) : rngD 0 n = (List.range n).map fun i : Nat => PyData.int i := by
  unfold rngD
  exact List.map_congr_left fun i _ => by rw [Int.zero_add]
theorem mulB {x : PyData} (b : Bool) : kMul (.ow [x]) (.im (.int (if b then 1 else 0))) = some (.ow (if b then [x] else [])) := by cases b <;> rfl
theorem in_rng {neg : Bool} (k n : Nat) : kIn neg (.im (.int k)) (.im (.list ((List.range n).map fun i : Nat => PyData.int i))) = some (.im (.bool (neg != decide (k < n)))) := by
  rw [kIn_ok (d := .int k) (es := (List.range n).map fun i : Nat => PyData.int i) rfl rfl (fit_int _).shaped ((fit_lst (n := 0) (fit_some (fun i => fit_int _) _)).shaped)]
  congr 4
  rw [Bool.eq_iff_iff, List.any_eq_true, decide_eq_true_eq]
  constructor
  · rintro ⟨x, hx, e⟩
    obtain ⟨i, hi, rfl⟩ := List.mem_map.mp hx
    have e : PyData.eqv (.int (i : Nat)) (.int (k : Nat)) = true := e
    rw [int_eqv, decide_eq_true_eq] at e
    subst e
    exact List.mem_range.mp hi
  · intro h
    exact ⟨_, List.mem_map.mpr ⟨k, List.mem_range.mpr h, rfl⟩, by rw [int_eqv, decide_eq_true_eq]⟩
def plainE (S : Sh) (o : O) (m v : Nat) (L : List Nv.Act) (e : Option Ent) : Env' := [some (.im S.d), some (.im o.d), some (.im (.int m)), some (.im (.list ((List.range v).map fun i : Nat => PyData.int i))), some (.ow (L.map Act.d)), e]
theorem tail_ok (S : Sh) (o : O) (m v : Nat) (L : List Nv.Act) (k : Nat) (h : L.length ≤ 1000) : c__law_plain_acts_L1 (plainE S o m v L (some (.im (.int k)))) = some (.nx (plainE S o m v (L ++ tailActs S o v k) (some (.im (.int k))))) := by
  have z := big
  unfold c__law_plain_acts_L1 c__law_plain_acts_L1_1 plainE
  decreasing_trivial_pre_omega
  rw [k_addL (ds := L.map Act.d) (es := [.tuple [.str "tell", .int k]]) rfl rfl (by simp only [List.length_map, List.length_cons, List.length_nil]; omega)]
  decreasing_trivial_pre_omega
  rw [in_rng]
  decreasing_trivial_pre_omega
  rw [mulB]
  decreasing_trivial_pre_omega
  rw [k_addL (ds := L.map Act.d ++ [.tuple [.str "tell", .int k]]) (es := if decide (k < v) = true then [.tuple [.str "hear", .int k, o.d]] else []) rfl rfl (by split <;> simp only [List.length_map, List.length_append, List.length_cons, List.length_nil] <;> omega)]
  decreasing_trivial_pre_omega
  rw [mulB]
  decreasing_trivial_pre_omega
  rw [k_addL (ds := L.map Act.d ++ [.tuple [.str "tell", .int k]] ++ if decide (k < v) = true then [.tuple [.str "hear", .int k, o.d]] else []) (es := if S.ans.has o = true then [.tuple [.str "answer", .int k, o.d]] else []) rfl rfl (by split <;> split <;> simp only [List.length_map, List.length_append, List.length_cons, List.length_nil] <;> omega)]
  decreasing_trivial_pre_omega
  unfold tailActs
  by_cases h1 : k < v <;> cases h2 : S.ans.has o <;> simp [h1, h2, Act.d, Act.ds]
theorem tail_len (S : Sh) (o : O) (v k : Nat) : (tailActs S o v k).length ≤ 3 := by
  unfold tailActs
  split <;> split <;> simp
theorem tails_ok (S : Sh) (o : O) (m v : Nat) : ∀ (l : List Nat) (L : List Nv.Act) (e : Option Ent), L.length + 3 * l.length ≤ 1000 → ∃ e', cForGo (cgN 5) c__law_plain_acts_L1 (l.map fun i : Nat => PyData.int i) (plainE S o m v L e) = some (.nx (plainE S o m v (L ++ (l.map (tailActs S o v)).flatten) e'))
  | [], L, e, h => ⟨e, by simp [cForGo]⟩
  | k :: l, L, e, h => by
    have ln := tail_len S o v k
    rw [List.length_cons] at h
    obtain ⟨e', q⟩ := tails_ok S o m v l (L ++ tailActs S o v k) (some (.im (.int k))) (by rw [List.length_append]; omega)
    refine ⟨e', ?_⟩
    rw [List.map_cons, cForGo]
    show (c__law_plain_acts_L1 (plainE S o m v L (some (.im (.int k))))).bind _ = _
    rw [tail_ok S o m v L k (by omega), List.map_cons, List.flatten_cons, ← List.append_assoc]
    exact q
theorem plain_ok (S : Sh) (o : O) (m : Nat) (h1 : 1 ≤ m) (h2 : m ≤ 10) : C__law_plain_acts [.im S.d, .im o.d, .im (.int m)] = some (.ow ((plainActs S o m).map Act.d)) := by
  have z := big
  unfold C__law_plain_acts c__law_plain_acts c__law_plain_acts_1
  decreasing_trivial_pre_omega
  have ev : (bif decide (o = .yes) then some (Ent.im (.int (m : Nat))) else some (Ent.im (.int ((m : Int) - 1)))) = some (Ent.im (.int (voters o m : Nat))) := by
    cases o
    · show some (Ent.im (.int ((m : Int) - 1))) = some (Ent.im (.int ((m - 1 : Nat) : Int)))
      rw [Int.ofNat_sub h1]
      rfl
    · rfl
  rw [ev]
  have vl : voters o m ≤ 10 := by cases o; (show m - 1 ≤ 10; omega); (show m ≤ 10; omega)
  decreasing_trivial_pre_omega
  rw [guard_dec (by omega), Int.toNat_natCast, rngD0]
  decreasing_trivial_pre_omega
  rw [lc_enc (val := fun i : Nat => (Nv.Act.vote i).d) (fun x hx => by rfl)]
  decreasing_trivial_pre_omega
  rw [k_addL (ds := [.tuple [.str "ask"]]) (es := (List.range (voters o m)).map fun i : Nat => (Nv.Act.vote i).d) rfl rfl (by simp only [List.length_map, List.length_range, List.length_cons, List.length_nil]; omega)]
  decreasing_trivial_pre_omega
  have rest : ∀ L : List Nv.Act, L.length ≤ 100 → c__law_plain_acts_3 (plainE S o m (voters o m) L none) = some (.rt (.ow ((L ++ [Nv.Act.decide o] ++ ((List.range m).map (tailActs S o (voters o m))).flatten).map Act.d))) := fun L hL => by
    unfold c__law_plain_acts_3 c__law_plain_acts_4 c__law_plain_acts_5 plainE
    decreasing_trivial_pre_omega
    rw [guard_dec (by simp only [List.length_map]; omega)]
    decreasing_trivial_pre_omega
    rw [r_1 (by rw [Int.toNat_natCast]; omega)]
    decreasing_trivial_pre_omega
    rw [Int.toNat_natCast, rngD0]
    obtain ⟨e', q⟩ := tails_ok S o m (voters o m) (List.range m) (L ++ [Nv.Act.decide o]) none (by rw [List.length_append, List.length_range]; simp only [List.length_cons, List.length_nil]; omega)
    unfold plainE at q
    rw [List.map_append] at q
    rw [show [PyData.tuple [PyData.str "decide", o.d]] = [Nv.Act.decide o].map Act.d from rfl, q]
    decreasing_trivial_pre_omega
  unfold c__law_plain_acts_2
  unfold plainE at rest
  cases o
  · decreasing_trivial_pre_omega
    rw [guard_dec (by simp only [List.length_map, List.length_range, List.length_cons, List.length_nil]; omega)]
    decreasing_trivial_pre_omega
    have q := rest (.ask :: ((List.range (m - 1)).map Nv.Act.vote ++ [.refuse (m - 1)])) (by simp only [List.length_map, List.length_append, List.length_range, List.length_cons, List.length_nil]; omega)
    have e1 : (.tuple [.str "ask"] :: ((List.range (m - 1)).map fun i : Nat => (Nv.Act.vote i).d) ++ [PyData.tuple [.str "refuse", .int ((m : Int) - 1)]]) = (Nv.Act.ask :: ((List.range (m - 1)).map Nv.Act.vote ++ [.refuse (m - 1)])).map Act.d := by
      rw [List.map_cons, List.map_append, List.map_map]
      show _ = _ :: (_ ++ [PyData.tuple [.str "refuse", .int ((m - 1 : Nat) : Int)]])
      rw [Int.ofNat_sub h1]
      rfl
    rw [← e1] at q
    exact congrArg endO q
  · decreasing_trivial_pre_omega
    have q := rest (.ask :: ((List.range m).map Nv.Act.vote ++ [])) (by simp only [List.length_map, List.length_append, List.length_range, List.length_cons, List.length_nil]; omega)
    have e1 : (.tuple [.str "ask"] :: ((List.range m).map fun i : Nat => (Nv.Act.vote i).d)) = (Nv.Act.ask :: ((List.range m).map Nv.Act.vote ++ [])).map Act.d := by
      rw [List.append_nil, List.map_cons, List.map_map]
      rfl
    rw [← e1] at q
    exact congrArg endO q
end K49

namespace K49
open PySem PySem.Spec PyProof.Rows L2 DL Nv
local macro_rules
  | `(tactic| decreasing_trivial_pre_omega) => `(tactic| simp (config := { failIfUnchanged := false, implicitDefEqProofs := false }) only [t_nx, t_rt, t_ct, t_bk, e_var, e_K, e_2, e_B, bOf_b, iOf_i, e_And, e_Or, e_Not, e_AndV, e_OrV, e_NotV, e_If, e_Nil, e_Cons, e_Tup, e_Lst, kp_nil, kp_im, kp_ow, k_I, k_IsI, k_IsO, k_IsB, k_addI, k_dget, k_ixT, k_ixL, k_ixO, k_ixB, e_Chain, e_Call, k1_eq, dat_im', dat_ow, dat_br, kept_im, kept_ow, len_l, len_t, e_Is, e_NoPart, e_Part, e_Sl, sl_l, sl_t, ar_nil, ar_im, ar_ow, ar_ob, e_Fn, e_FnK, pl_im, pl_ow, pl_ob, e_Set, ow_ow, e_SetO, rt_im, rt_ow, rt_br, rt_ob, e_Ret, e_RetN, e_Skip, e_Seq, e_IfS, e_Asg, g_N, g_sNil, g_sCons, g_Tup, e_ItL, w_im, w_ow, w_br, e_ItT, w_t, e_Rng1, e_Rng2, e_Enum, en_t, en_l, e_For, e_Lc, e_Yes, e_Run, end_rt, end_nx, e_Star, e_Freeze, fz_ow, fz_im, e_Append, e_Extend, ex_l, e_DGet2, d_2, e_Aug, e_LstRg1, it_l, it_t, e_Expr, e_Disp, di_nil, di_cons, e_Neg, tk_f, tk_t, e_Par, e_Par3, s3, e_Tru, as_im, as_ow, as_ob, g_t, tup_t, tup_l, lst_t, lst_l, int_i, int_b, fg_nil, DL.gt, DL.pt, wipeE, Option.bind_some, Option.map_some, cond_true, cond_false, List.map_cons, List.map_nil, List.length_cons, List.length_nil, List.cons_append, List.nil_append, List.reduceReplicate, List.isEmpty_nil, List.isEmpty_cons, List.zip_cons_cons, List.zip_nil_right, Nat.reduceAdd, Nat.reduceSub, beq_self_eq_true, Bool.not_true, Bool.not_false, bne_self_eq_false, Bool.bne_false, Bool.bne_true, Bool.false_bne, Bool.true_bne, reduceCtorEq, decide_true, decide_false, Bool.or_true, Bool.true_or, Bool.or_false, Bool.false_or, Bool.and_true, Bool.true_and, Bool.and_false, Bool.false_and, ↓reduceIte, eq_tx, in_tx1, in_tx2, in_tx3, in_tx4, ok_cm, ok_hm, ok_rec, ok_o, ok_wd, ok_pre, tx_none, tx_lazy, tx_forced, tx_no, tx_yes, tx_wait, tx_new, tx_asking, tx_gone, tx_idle, tx_ready, tx_empty, tx_begin, tx_agreed, tx_refused, tx_words, tx_answers, tx_presume, tx_ask, tx_vote, tx_refuse, tx_decide, tx_tell, tx_hear, tx_answer, tx_forget, tx_clear, tx_down, tx_fall, cm_new, cm_newR, cm_asking, cm_askingR, cm_yes, cm_yesR, cm_no, cm_noR, cm_gone, cm_goneR, hm_idle, hm_idleR, hm_ready, hm_readyR, hm_yes, hm_yesR, hm_no, hm_noR, hm_empty, hm_emptyR, wd_none, wd_noneR, wd_lazy, wd_lazyR, wd_forced, wd_forcedR, o_no, o_noR, o_yes, o_yesR, pre_no, pre_noR, pre_wait, pre_waitR, pre_yes, pre_yesR, rec_begin, rec_beginR, rec_yes, rec_yesR, rec_no, rec_noR, rec_ready, rec_readyR, rec_agreed, rec_agreedR, rec_refused, rec_refusedR, dg_words, dg_answers, dg_presume, dg_word, dg_wordS, in_notes, in_os, in_osS, in_cm, eq_ox, eq_xo, eq_rx, in_ox2, eq_oo, nd_o, nd_none, at_4, at_5, at_6, at_7, ii_i, ib_i, ii_b, ib_b, is_s, it_t', it_l', il_l, il_t, tx_e, rec_e, e_e, Option.getD_some, Option.getD_none, add_os, tup_os, sl_room26, ko_str, ko_rec, ko_o, dg_cons, dg_nil, nd_str, nd_int, nd_tup, nd_lst, at_0, at_1, at_2, at_3, g_tape, ix_tape0, ix_tape1, g_seat, ix_seat0, ix_seat1, ix_seat2, g_room, ix_room0, ix_room1, ix_room2, ix_room3, ix_room4, ix_room5, ix_room6, g_stand, ix_stand0, ix_stand1, w_os, nq_ask_vote, nq_ask_refuse, nq_ask_decide, nq_ask_tell, nq_ask_hear, nq_ask_answer, nq_ask_forget, nq_ask_clear, nq_ask_down, nq_ask_fall, nq_vote_ask, nq_vote_refuse, nq_vote_decide, nq_vote_tell, nq_vote_hear, nq_vote_answer, nq_vote_forget, nq_vote_clear, nq_vote_down, nq_vote_fall, nq_refuse_ask, nq_refuse_vote, nq_refuse_decide, nq_refuse_tell, nq_refuse_hear, nq_refuse_answer, nq_refuse_forget, nq_refuse_clear, nq_refuse_down, nq_refuse_fall, nq_decide_ask, nq_decide_vote, nq_decide_refuse, nq_decide_tell, nq_decide_hear, nq_decide_answer, nq_decide_forget, nq_decide_clear, nq_decide_down, nq_decide_fall, nq_tell_ask, nq_tell_vote, nq_tell_refuse, nq_tell_decide, nq_tell_hear, nq_tell_answer, nq_tell_forget, nq_tell_clear, nq_tell_down, nq_tell_fall, nq_hear_ask, nq_hear_vote, nq_hear_refuse, nq_hear_decide, nq_hear_tell, nq_hear_answer, nq_hear_forget, nq_hear_clear, nq_hear_down, nq_hear_fall, nq_answer_ask, nq_answer_vote, nq_answer_refuse, nq_answer_decide, nq_answer_tell, nq_answer_hear, nq_answer_forget, nq_answer_clear, nq_answer_down, nq_answer_fall, nq_forget_ask, nq_forget_vote, nq_forget_refuse, nq_forget_decide, nq_forget_tell, nq_forget_hear, nq_forget_answer, nq_forget_clear, nq_forget_down, nq_forget_fall, nq_clear_ask, nq_clear_vote, nq_clear_refuse, nq_clear_decide, nq_clear_tell, nq_clear_hear, nq_clear_answer, nq_clear_forget, nq_clear_down, nq_clear_fall, nq_down_ask, nq_down_vote, nq_down_refuse, nq_down_decide, nq_down_tell, nq_down_hear, nq_down_answer, nq_down_forget, nq_down_clear, nq_down_fall, nq_fall_ask, nq_fall_vote, nq_fall_refuse, nq_fall_decide, nq_fall_tell, nq_fall_hear, nq_fall_answer, nq_fall_forget, nq_fall_clear, nq_fall_down])
/-! the plain course can be done -/
theorem room_step {S : Sh} {s : Seat} {A B : List Room} {x : Room} {a : Nv.Act} (h : RA S s A.length x a) : Runs S ⟨s, A ++ x :: B⟩ [a] ⟨s, A ++ roomBehind S s x a :: B⟩ (fb S a) (lt' a) := by
  have e : (A ++ x :: B)[A.length]? = some x := by rw [List.getElem?_append_right (Nat.le_refl _), Nat.sub_self]; rfl
  have m : a ∈ acts S ⟨s, A ++ x :: B⟩ := mem_acts.mpr (.inr ⟨A.length, x, e, h⟩)
  have b : behind S ⟨s, A ++ x :: B⟩ a = ⟨s, A ++ roomBehind S s x a :: B⟩ := by
    unfold behind
    rw [h.at]
    show Stand.mk s ((A ++ x :: B).modify A.length (roomBehind S s · a)) = _
    rw [modify_at e, List.take_left', List.drop_append, List.drop_of_length_le (by omega)]
    · simp
    · rfl
  exact b ▸ Runs.one m
def r0 : Room := ⟨.idle, ⟨[], 0⟩, false, ⟨false, false⟩, ⟨false, false⟩, false, false⟩
def rv (S : Sh) : Room := ⟨.ready, Nv.write S ⟨[], 0⟩ .ready, true, ⟨false, false⟩, ⟨false, false⟩, false, false⟩
def rr (S : Sh) : Room := ⟨.no, Nv.write S ⟨[], 0⟩ .refused, false, ⟨false, false⟩, ⟨false, false⟩, false, true⟩
theorem votes {S : Sh} {s : Seat} (hs : s.mind ≠ .new) (B : List Room) : ∀ (n : Nat) (A : List Room), Runs S ⟨s, A ++ (List.replicate n r0 ++ B)⟩ ((List.range' A.length n).map Nv.Act.vote) ⟨s, A ++ (List.replicate n (rv S) ++ B)⟩ (n * fw S .ready) n
  | 0, A => (Runs.nil _).to (by simp) (by simp)
  | n + 1, A => by
    have st : Runs S ⟨s, A ++ r0 :: (List.replicate n r0 ++ B)⟩ [.vote A.length] ⟨s, A ++ rv S :: (List.replicate n r0 ++ B)⟩ (fw S .ready) 1 := room_step (.vote rfl hs)
    have ih := votes (S := S) hs B n (A ++ [rv S])
    rw [List.length_append, List.length_cons, List.length_nil] at ih
    have := st.app (by simpa using ih)
    rw [List.range'_succ, List.map_cons]
    refine (Runs.to ?_ (F := fw S .ready + n * fw S .ready) (L := 1 + n) (by push_cast; rw [Int.add_mul]; omega) (by push_cast; omega))
    simpa [List.replicate_succ] using this
def an (S : Sh) (o : O) : Int := if S.ans.has o then 1 else 0
/-- what a house that voted is behind hearing -/
def rh (S : Sh) : O → Room
  | .yes => { rv S with mind := .yes, tape := Nv.write S (rv S).tape .agreed, told := ⟨false, true⟩, rep := ⟨false, S.ans.y⟩, took := true }
  | .no => { rv S with mind := .no, tape := Nv.write S (rv S).tape .refused, told := ⟨true, false⟩, rep := ⟨S.ans.n, false⟩, dropped := true }
def hw (S : Sh) : O → Int | .yes => fw S .agreed | .no => fw S .refused
theorem voter_tail {S : Sh} {s : Seat} {o : O} (hs : said S s = some o) (A B : List Room) (v : Nat) (hv : A.length < v) : Runs S ⟨s, A ++ rv S :: B⟩ (tailActs S o v A.length) ⟨s, A ++ rh S o :: B⟩ (hw S o) (1 + an S o) := by
  unfold tailActs an
  rw [if_pos hv]
  have f0 : (rv S).told.has o = false := by cases o <;> rfl
  have s1 : Runs S ⟨s, A ++ rv S :: B⟩ [.tell A.length] ⟨s, A ++ { rv S with told := (rv S).told.add o } :: B⟩ 0 1 := by
    have q := room_step (B := B) (RA.tell (k := A.length) hs f0)
    have e : roomBehind S s (rv S) (.tell A.length) = { rv S with told := (rv S).told.add o } := by
      show (match said S s with | some o => { rv S with told := (rv S).told.add o } | none => rv S) = _
      rw [hs]
    rw [e] at q
    exact q
  cases o with
  | yes =>
    have s2 : Runs S ⟨s, A ++ { rv S with told := (rv S).told.add .yes } :: B⟩ [.hear A.length .yes] ⟨s, A ++ { rv S with mind := .yes, tape := Nv.write S (rv S).tape .agreed, told := ⟨false, true⟩, took := true } :: B⟩ (fw S .agreed) 0 := room_step (.hear rfl (.inl rfl))
    have s12 := s1.app s2
    cases e : S.ans.has .yes with
    | true =>
      have s3 : Runs S ⟨s, A ++ { rv S with mind := .yes, tape := Nv.write S (rv S).tape .agreed, told := ⟨false, true⟩, took := true } :: B⟩ [.answer A.length .yes] ⟨s, A ++ rh S .yes :: B⟩ 0 1 := by
        have q := room_step (S := S) (s := s) (A := A) (B := B) (x := { rv S with mind := .yes, tape := Nv.write S (rv S).tape .agreed, told := ⟨false, true⟩, took := true }) (.answer (o := .yes) rfl rfl rfl)
        have e2 : roomBehind S s { rv S with mind := .yes, tape := Nv.write S (rv S).tape .agreed, told := ⟨false, true⟩, took := true } (.answer A.length .yes) = rh S .yes := by
          have e' : S.ans.y = true := e
          unfold rh
          rw [e']
          rfl
        rw [e2] at q
        exact q
      exact (s12.app s3).to (by simp [hw]) (by simp)
    | false =>
      have e' : S.ans.y = false := e
      have e2 : rh S .yes = { rv S with mind := .yes, tape := Nv.write S (rv S).tape .agreed, told := ⟨false, true⟩, took := true } := by
        unfold rh
        rw [e']
        rfl
      rw [e2]
      exact s12.to (by simp [hw]) (by simp)
  | no =>
    have s2 : Runs S ⟨s, A ++ { rv S with told := (rv S).told.add .no } :: B⟩ [.hear A.length .no] ⟨s, A ++ { rv S with mind := .no, tape := Nv.write S (rv S).tape .refused, told := ⟨true, false⟩, dropped := true } :: B⟩ (fw S .refused) 0 := room_step (.hear rfl (.inl rfl))
    have s12 := s1.app s2
    cases e : S.ans.has .no with
    | true =>
      have s3 : Runs S ⟨s, A ++ { rv S with mind := .no, tape := Nv.write S (rv S).tape .refused, told := ⟨true, false⟩, dropped := true } :: B⟩ [.answer A.length .no] ⟨s, A ++ rh S .no :: B⟩ 0 1 := by
        have q := room_step (S := S) (s := s) (A := A) (B := B) (x := { rv S with mind := .no, tape := Nv.write S (rv S).tape .refused, told := ⟨true, false⟩, dropped := true }) (.answer (o := .no) rfl rfl rfl)
        have e2 : roomBehind S s { rv S with mind := .no, tape := Nv.write S (rv S).tape .refused, told := ⟨true, false⟩, dropped := true } (.answer A.length .no) = rh S .no := by
          have e' : S.ans.n = true := e
          unfold rh
          rw [e']
          rfl
        rw [e2] at q
        exact q
      exact (s12.app s3).to (by simp [hw]) (by simp)
    | false =>
      have e' : S.ans.n = false := e
      have e2 : rh S .no = { rv S with mind := .no, tape := Nv.write S (rv S).tape .refused, told := ⟨true, false⟩, dropped := true } := by
        unfold rh
        rw [e']
        rfl
      rw [e2]
      exact s12.to (by simp [hw]) (by simp)
theorem refuser_tail {S : Sh} {s : Seat} (hs : said S s = some .no) (A B : List Room) (v : Nat) (hv : ¬ A.length < v) : ∃ x, Runs S ⟨s, A ++ rr S :: B⟩ (tailActs S .no v A.length) ⟨s, A ++ x :: B⟩ 0 (1 + an S .no) := by
  unfold tailActs an
  rw [if_neg hv]
  have s1 : Runs S ⟨s, A ++ rr S :: B⟩ [.tell A.length] ⟨s, A ++ { rr S with told := ⟨true, false⟩ } :: B⟩ 0 1 := by
    have q := room_step (B := B) (RA.tell (k := A.length) (r := rr S) hs rfl)
    have e : roomBehind S s (rr S) (.tell A.length) = { rr S with told := ⟨true, false⟩ } := by
      show (match said S s with | some o => { rr S with told := (rr S).told.add o } | none => rr S) = _
      rw [hs]
      rfl
    rw [e] at q
    exact q
  cases e : S.ans.has .no with
  | true =>
    have s2 := room_step (S := S) (s := s) (A := A) (B := B) (x := { rr S with told := ⟨true, false⟩ }) (.answer (o := .no) rfl rfl rfl)
    exact ⟨_, (s1.app s2).to (by simp [fb]) (by simp [lt'])⟩
  | false => exact ⟨_, s1.to (by simp) (by simp)⟩
theorem voter_tails {S : Sh} {s : Seat} {o : O} (hs : said S s = some o) (B : List Room) (v : Nat) : ∀ (n : Nat) (A : List Room), A.length + n ≤ v → Runs S ⟨s, A ++ (List.replicate n (rv S) ++ B)⟩ ((List.range' A.length n).map (tailActs S o v)).flatten ⟨s, A ++ (List.replicate n (rh S o) ++ B)⟩ (n * hw S o) (n * (1 + an S o))
  | 0, A, _ => (Runs.nil _).to (by simp) (by simp)
  | n + 1, A, h => by
    have st := voter_tail hs A (List.replicate n (rv S) ++ B) v (by omega)
    have ih := voter_tails hs B v n (A ++ [rh S o]) (by rw [List.length_append]; simp only [List.length_cons, List.length_nil]; omega)
    rw [List.length_append, List.length_cons, List.length_nil] at ih
    have := st.app (by simpa using ih)
    rw [List.range'_succ, List.map_cons, List.flatten_cons]
    refine (Runs.to ?_ (F := hw S o + n * hw S o) (L := (1 + an S o) + n * (1 + an S o)) (by push_cast; rw [Int.add_mul]; omega) (by push_cast; rw [Int.add_mul]; omega))
    simpa [List.replicate_succ] using this
/-- how many records are forced in the plain course -/
def due (S : Sh) (m : Nat) : O → Int
  | .yes => fw S .begin + m * fw S .ready + fw S .yes + m * fw S .agreed
  | .no => fw S .begin + (m - 1) * fw S .ready + fw S .refused + fw S .no + (m - 1) * fw S .refused
def seat1 (S : Sh) : Seat := ⟨.asking, Nv.write S ⟨[], 0⟩ .begin, false⟩
theorem first_eq (m : Nat) : Nv.first m = ⟨⟨.new, ⟨[], 0⟩, false⟩, List.replicate m r0⟩ := rfl
theorem chair_step {S : Sh} {t : Stand} {a : Nv.Act} (h : a ∈ chairActs S t.seat t.rooms) : Runs S t [a] ⟨seatBehind S t.seat a, t.rooms⟩ (fb S a) (lt' a) := by
  have b : behind S t a = ⟨seatBehind S t.seat a, t.rooms⟩ := by
    unfold behind
    rw [mem_chair h]
  exact b ▸ Runs.one (mem_acts.mpr (.inl h))
theorem plain_runs (S : Sh) (m : Nat) (h1 : 1 ≤ m) (o : O) : ∃ t, Runs S (Nv.first m) (plainActs S o m) t (due S m o) (2 * m + m * an S o) := by
  rw [first_eq]
  have a1 : Runs S ⟨⟨.new, ⟨[], 0⟩, false⟩, List.replicate m r0⟩ [.ask] ⟨seat1 S, List.replicate m r0⟩ (fw S .begin) 0 := chair_step (by simp [chairActs])
  have ns : (seat1 S).mind ≠ .new := by intro h; cases h
  cases o with
  | yes =>
    have a2 := votes (S := S) ns [] m []
    simp only [List.nil_append, List.append_nil, List.length_nil] at a2
    have dc : Nv.Act.decide .yes ∈ chairActs S (seat1 S) (List.replicate m (rv S)) := by
      have : (List.replicate m (rv S)).all (·.voted) = true := by
        rw [List.all_eq_true]
        intro x hx
        rw [List.eq_of_mem_replicate hx]
        rfl
      simp [chairActs, seat1, askActs, this]
    have a3 := chair_step (t := ⟨seat1 S, List.replicate m (rv S)⟩) dc
    have a4 := voter_tails (S := S) (s := seatBehind S (seat1 S) (.decide .yes)) (o := .yes) rfl [] m m [] (by simp)
    simp only [List.nil_append, List.append_nil, List.length_nil] at a4
    have all := ((a1.app a2).app a3).app a4
    have el : plainActs S .yes m = [Nv.Act.ask] ++ (List.range' 0 m).map Nv.Act.vote ++ [Nv.Act.decide .yes] ++ ((List.range' 0 m).map (tailActs S .yes m)).flatten := by
      unfold plainActs voters
      simp [List.range_eq_range']
    rw [el]
    refine ⟨_, all.to ?_ ?_⟩
    · simp only [due, fb, hw]
    · simp only [lt', Int.mul_add, Int.mul_one]
      omega
  | no =>
    obtain ⟨k, rfl⟩ : ∃ k, m = k + 1 := ⟨m - 1, by omega⟩
    have a2 := votes (S := S) ns [r0] k []
    simp only [List.nil_append, List.length_nil] at a2
    have er : List.replicate (k + 1) r0 = List.replicate k r0 ++ [r0] := by rw [List.replicate_succ']
    rw [er] at a1 ⊢
    have a3 : Runs S ⟨seat1 S, List.replicate k (rv S) ++ r0 :: []⟩ [.refuse (List.replicate k (rv S)).length] ⟨seat1 S, List.replicate k (rv S) ++ rr S :: []⟩ (fw S .refused) 1 := room_step (.refuse rfl)
    rw [List.length_replicate] at a3
    have dc : Nv.Act.decide .no ∈ chairActs S (seat1 S) (List.replicate k (rv S) ++ [rr S]) := by simp [chairActs, seat1, askActs]
    have a4 := chair_step (t := ⟨seat1 S, List.replicate k (rv S) ++ [rr S]⟩) dc
    have a5 := voter_tails (S := S) (s := seatBehind S (seat1 S) (.decide .no)) (o := .no) rfl [rr S] k k [] (by simp)
    simp only [List.nil_append, List.length_nil] at a5
    obtain ⟨x, a6⟩ := refuser_tail (S := S) (s := seatBehind S (seat1 S) (.decide .no)) rfl (List.replicate k (rh S .no)) [] k (by rw [List.length_replicate]; omega)
    rw [List.length_replicate] at a6
    have all := ((((a1.app a2).app a3).app a4).app a5).app a6
    have el : plainActs S .no (k + 1) = [Nv.Act.ask] ++ (List.range' 0 k).map Nv.Act.vote ++ [Nv.Act.refuse k] ++ [Nv.Act.decide .no] ++ ((List.range' 0 k).map (tailActs S .no k)).flatten ++ tailActs S .no k k := by
      unfold plainActs voters
      rw [List.range_succ]
      simp [List.range_eq_range']
    rw [el]
    refine ⟨_, all.to ?_ ?_⟩
    · simp only [due, fb, hw]
      push_cast
      rw [show ((k : Int) + 1 - 1) = k by omega]
      omega
    · simp only [lt', Int.mul_add, Int.mul_one]
      push_cast
      rw [Int.add_mul]
      omega
theorem first_ok (m : Nat) (h1 : 1 ≤ m) (h2 : m ≤ 10) : C__law_first [.im (.int m)] = some (.im (Nv.first m).d) := by
  unfold C__law_first c__law_first
  decreasing_trivial_pre_omega
  have q : ∀ x : PyData, kMul (.im (.tuple [x])) (.im (.int (m : Nat))) = some (.im (.tuple (List.replicate m x))) := fun x => by
    show guardB (!([x] : List PyData).isEmpty && decide (1 ≤ (m : Int) ∧ (m : Int) ≤ 1000 ∧ ([x] : List PyData).length ≤ 1000)) (some (Ent.im (.tuple (List.replicate (m : Int).toNat [x]).flatten))) = _
    rw [decide_eq_true (by simp only [List.length_cons, List.length_nil]; omega), Int.toNat_natCast]
    have : (List.replicate m [x]).flatten = List.replicate m x := by
      clear h1 h2
      induction m with
      | zero => rfl
      | succ m ih => rw [List.replicate_succ, List.replicate_succ, List.flatten_cons, ih]; rfl
    rw [this]
    rfl
  rw [q]
  decreasing_trivial_pre_omega
  show some (Ent.im (.tuple [_, .tuple (List.replicate m r0.d)])) = some (Ent.im (.tuple [_, .tuple ((List.replicate m r0).map Room.d)]))
  rw [List.map_replicate]
  rfl
theorem told_ok (S : Sh) (m : Nat) (h1 : 1 ≤ m) (h2 : m ≤ 10) (o : O) : C__law_told_costs [.im S.d, .im o.d, .im (.int m)] = some (.im (.tuple [.int (due S m o), .int (3 * m + m * an S o)])) := by
  unfold C__law_told_costs c__law_told_costs
  decreasing_trivial_pre_omega
  rw [first_ok m h1 h2]
  decreasing_trivial_pre_omega
  unfold c__law_told_costs_1
  decreasing_trivial_pre_omega
  rw [plain_ok S o m h1 h2]
  decreasing_trivial_pre_omega
  obtain ⟨t, r⟩ := plain_runs S m h1 o
  obtain ⟨e', q⟩ := costLoop r (SW.first h2) (some (.im o.d)) (some (.im (.int m))) none 0 m
  unfold costE at q
  rw [q]
  unfold c__law_told_costs_2
  decreasing_trivial_pre_omega
  rw [Int.zero_add, show (m : Int) + (2 * m + m * an S o) = 3 * m + m * an S o by omega]
end K49

namespace K49
open PySem PySem.Spec PyProof.Rows L2 DL Nv
local macro_rules
  | `(tactic| decreasing_trivial_pre_omega) => `(tactic| simp (config := { failIfUnchanged := false, implicitDefEqProofs := false }) only [t_nx, t_rt, t_ct, t_bk, e_var, e_K, e_2, e_B, bOf_b, iOf_i, e_And, e_Or, e_Not, e_AndV, e_OrV, e_NotV, e_If, e_Nil, e_Cons, e_Tup, e_Lst, kp_nil, kp_im, kp_ow, k_I, k_IsI, k_IsO, k_IsB, k_addI, k_dget, k_ixT, k_ixL, k_ixO, k_ixB, e_Chain, e_Call, k1_eq, dat_im', dat_ow, dat_br, kept_im, kept_ow, len_l, len_t, e_Is, e_NoPart, e_Part, e_Sl, sl_l, sl_t, ar_nil, ar_im, ar_ow, ar_ob, e_Fn, e_FnK, pl_im, pl_ow, pl_ob, e_Set, ow_ow, e_SetO, rt_im, rt_ow, rt_br, rt_ob, e_Ret, e_RetN, e_Skip, e_Seq, e_IfS, e_Asg, g_N, g_sNil, g_sCons, g_Tup, e_ItL, w_im, w_ow, w_br, e_ItT, w_t, e_Rng1, e_Rng2, e_Enum, en_t, en_l, e_For, e_Lc, e_Yes, e_Run, end_rt, end_nx, e_Star, e_Freeze, fz_ow, fz_im, e_Append, e_Extend, ex_l, e_DGet2, d_2, e_Aug, e_LstRg1, it_l, it_t, e_Expr, e_Disp, di_nil, di_cons, e_Neg, tk_f, tk_t, e_Par, e_Par3, s3, e_Tru, as_im, as_ow, as_ob, g_t, tup_t, tup_l, lst_t, lst_l, int_i, int_b, fg_nil, DL.gt, DL.pt, wipeE, Option.bind_some, Option.map_some, cond_true, cond_false, List.map_cons, List.map_nil, List.length_cons, List.length_nil, List.cons_append, List.nil_append, List.reduceReplicate, List.isEmpty_nil, List.isEmpty_cons, List.zip_cons_cons, List.zip_nil_right, Nat.reduceAdd, Nat.reduceSub, beq_self_eq_true, Bool.not_true, Bool.not_false, bne_self_eq_false, Bool.bne_false, Bool.bne_true, Bool.false_bne, Bool.true_bne, reduceCtorEq, decide_true, decide_false, Bool.or_true, Bool.true_or, Bool.or_false, Bool.false_or, Bool.and_true, Bool.true_and, Bool.and_false, Bool.false_and, ↓reduceIte, eq_tx, in_tx1, in_tx2, in_tx3, in_tx4, ok_cm, ok_hm, ok_rec, ok_o, ok_wd, ok_pre, tx_none, tx_lazy, tx_forced, tx_no, tx_yes, tx_wait, tx_new, tx_asking, tx_gone, tx_idle, tx_ready, tx_empty, tx_begin, tx_agreed, tx_refused, tx_words, tx_answers, tx_presume, tx_ask, tx_vote, tx_refuse, tx_decide, tx_tell, tx_hear, tx_answer, tx_forget, tx_clear, tx_down, tx_fall, cm_new, cm_newR, cm_asking, cm_askingR, cm_yes, cm_yesR, cm_no, cm_noR, cm_gone, cm_goneR, hm_idle, hm_idleR, hm_ready, hm_readyR, hm_yes, hm_yesR, hm_no, hm_noR, hm_empty, hm_emptyR, wd_none, wd_noneR, wd_lazy, wd_lazyR, wd_forced, wd_forcedR, o_no, o_noR, o_yes, o_yesR, pre_no, pre_noR, pre_wait, pre_waitR, pre_yes, pre_yesR, rec_begin, rec_beginR, rec_yes, rec_yesR, rec_no, rec_noR, rec_ready, rec_readyR, rec_agreed, rec_agreedR, rec_refused, rec_refusedR, dg_words, dg_answers, dg_presume, dg_word, dg_wordS, in_notes, in_os, in_osS, in_cm, eq_ox, eq_xo, eq_rx, in_ox2, eq_oo, nd_o, nd_none, at_4, at_5, at_6, at_7, ii_i, ib_i, ii_b, ib_b, is_s, it_t', it_l', il_l, il_t, tx_e, rec_e, e_e, Option.getD_some, Option.getD_none, add_os, tup_os, sl_room26, ko_str, ko_rec, ko_o, dg_cons, dg_nil, nd_str, nd_int, nd_tup, nd_lst, at_0, at_1, at_2, at_3, g_tape, ix_tape0, ix_tape1, g_seat, ix_seat0, ix_seat1, ix_seat2, g_room, ix_room0, ix_room1, ix_room2, ix_room3, ix_room4, ix_room5, ix_room6, g_stand, ix_stand0, ix_stand1, w_os, nq_ask_vote, nq_ask_refuse, nq_ask_decide, nq_ask_tell, nq_ask_hear, nq_ask_answer, nq_ask_forget, nq_ask_clear, nq_ask_down, nq_ask_fall, nq_vote_ask, nq_vote_refuse, nq_vote_decide, nq_vote_tell, nq_vote_hear, nq_vote_answer, nq_vote_forget, nq_vote_clear, nq_vote_down, nq_vote_fall, nq_refuse_ask, nq_refuse_vote, nq_refuse_decide, nq_refuse_tell, nq_refuse_hear, nq_refuse_answer, nq_refuse_forget, nq_refuse_clear, nq_refuse_down, nq_refuse_fall, nq_decide_ask, nq_decide_vote, nq_decide_refuse, nq_decide_tell, nq_decide_hear, nq_decide_answer, nq_decide_forget, nq_decide_clear, nq_decide_down, nq_decide_fall, nq_tell_ask, nq_tell_vote, nq_tell_refuse, nq_tell_decide, nq_tell_hear, nq_tell_answer, nq_tell_forget, nq_tell_clear, nq_tell_down, nq_tell_fall, nq_hear_ask, nq_hear_vote, nq_hear_refuse, nq_hear_decide, nq_hear_tell, nq_hear_answer, nq_hear_forget, nq_hear_clear, nq_hear_down, nq_hear_fall, nq_answer_ask, nq_answer_vote, nq_answer_refuse, nq_answer_decide, nq_answer_tell, nq_answer_hear, nq_answer_forget, nq_answer_clear, nq_answer_down, nq_answer_fall, nq_forget_ask, nq_forget_vote, nq_forget_refuse, nq_forget_decide, nq_forget_tell, nq_forget_hear, nq_forget_answer, nq_forget_clear, nq_forget_down, nq_forget_fall, nq_clear_ask, nq_clear_vote, nq_clear_refuse, nq_clear_decide, nq_clear_tell, nq_clear_hear, nq_clear_answer, nq_clear_forget, nq_clear_down, nq_clear_fall, nq_down_ask, nq_down_vote, nq_down_refuse, nq_down_decide, nq_down_tell, nq_down_hear, nq_down_answer, nq_down_forget, nq_down_clear, nq_down_fall, nq_fall_ask, nq_fall_vote, nq_fall_refuse, nq_fall_decide, nq_fall_tell, nq_fall_hear, nq_fall_answer, nq_fall_forget, nq_fall_clear, nq_fall_down])
theorem book_ok (S : Sh) : C__law_book [.im S.d] = some (.ob 0 (Nb.book S)) := by
  unfold C__law_book c__law_book
  have notes : C__law_notes [] = some (.ow ([Rec.begin, .yes, .no, .ready, .agreed, .refused].map Rec.d)) := by
    unfold C__law_notes c__law_notes
    decreasing_trivial_pre_omega
    rfl
  decreasing_trivial_pre_omega
  rw [notes]
  decreasing_trivial_pre_omega
  rw [show [Rec.begin.d, Rec.yes.d, Rec.no.d, Rec.ready.d, Rec.agreed.d, Rec.refused.d] = [Rec.begin, .yes, .no, .ready, .agreed, .refused].map Rec.d from rfl, lc_enc (val := fun r : Rec => PyData.str (S.w r).s) (fun r _ => by rw [lcOne_eq]; decreasing_trivial_pre_omega)]
  unfold c__law_book_1 c__law_book_2
  decreasing_trivial_pre_omega
  rw [Nb.e_book]
  decreasing_trivial_pre_omega
  rw [Nb.mk_ok]
  rfl
theorem num_ok (m : Nat) (h1 : 1 ≤ m) (h2 : m ≤ 100) : C_is_number [.im (.int m), .im (.int 1), .im d_MOST_HOUSES] = some (.im (.bool true)) := by
  unfold C_is_number c_is_number d_MOST_HOUSES
  decreasing_trivial_pre_omega
  rw [decide_eq_true (by omega), decide_eq_true (by omega)]
  decreasing_trivial_pre_omega
theorem check_ok (o : O) (m : Nat) (h1 : 1 ≤ m) (h2 : m ≤ 100) : C_check_course [.im o.d, .im (.int m)] = some (.im .none) := by
  unfold C_check_course c_check_course c_check_course_1 d_OUTCOMES
  decreasing_trivial_pre_omega
  cases o
  all_goals
    decreasing_trivial_pre_omega
    rw [num_ok m h1 h2]
    decreasing_trivial_pre_omega
def worth (o : O) (m : Nat) (r : Rec) : Int := match o, r with
  | _, .begin => 1
  | .yes, .ready => m | .yes, .yes => 1 | .yes, .agreed => m
  | .no, .ready => m - 1 | .no, .no => 1 | .no, .refused => m
  | _, _ => 0
def timesD (o : O) (m : Nat) : PyData := match o with
  | .yes => .dict [(.str "begin", .int 1), (.str "ready", .int m), (.str "yes", .int 1), (.str "agreed", .int m)]
  | .no => .dict [(.str "begin", .int 1), (.str "ready", .int (m - 1)), (.str "no", .int 1), (.str "refused", .int m)]
theorem times_ok (o : O) (m : Nat) : C_times_written [.im o.d, .im (.int m)] = some (.im (timesD o m)) := by
  unfold C_times_written c_times_written c_times_written_1
  cases o <;> decreasing_trivial_pre_omega <;> rfl
theorem sum_ints (l : List Int) : kSum (.list (l.map PyData.int)) = some (.im (.int l.sum)) := by
  show (intsD (l.map PyData.int)).map (fun ns : List Int => Ent.im (.int ns.sum)) = _
  have : intsD (l.map PyData.int) = some l := by
    induction l with
    | nil => rfl
    | cons x l ih => rw [List.map_cons, intsD, ih]; rfl
  rw [this]
  rfl
theorem writings_ok (o : O) (m : Nat) (l : List Rec) : C_forced_writings [.im (.tuple (l.map Rec.d)), .im o.d, .im (.int m)] = some (.im (.int (l.map (worth o m)).sum)) := by
  unfold C_forced_writings c_forced_writings c_forced_writings_1
  decreasing_trivial_pre_omega
  rw [times_ok]
  decreasing_trivial_pre_omega
  rw [lc_enc (val := fun r : Rec => PyData.int (worth o m r)) (fun r _ => by
    rw [lcOne_eq]
    cases o <;> cases r <;> (unfold timesD; decreasing_trivial_pre_omega) <;> rfl)]
  decreasing_trivial_pre_omega
  rw [show l.map (fun r => PyData.int (worth o m r)) = (l.map (worth o m)).map PyData.int by rw [List.map_map]; rfl, sum_ints]
  decreasing_trivial_pre_omega
theorem due_sum (S : Sh) (o : O) (m : Nat) : ((Nb.forced S).map (worth o m)).sum = due S m o := by
  have e : ∀ l : List Rec, ((l.filter fun r => decide (S.w r = .forced)).map (worth o m)).sum = (l.map fun r => fw S r * worth o m r).sum := fun l => by
    induction l with
    | nil => rfl
    | cons r l ih =>
      rw [List.filter_cons, List.map_cons, List.sum_cons]
      unfold fw
      by_cases h : S.w r = .forced
      · rw [if_pos (decide_eq_true h), if_pos h, List.map_cons, List.sum_cons, ih, Int.one_mul]
        rfl
      · rw [if_neg (by rw [decide_eq_false h]; simp), if_neg h, ih, Int.zero_mul, Int.zero_add]
        rfl
  unfold Nb.forced
  rw [e]
  have two : ∀ r, fw S r = 0 ∨ fw S r = 1 := fun r => by unfold fw; split <;> simp
  simp only [List.map_cons, List.map_nil, List.sum_cons, List.sum_nil]
  cases o
  · simp only [worth, due]
    rcases two .ready with h1 | h1 <;> rcases two .refused with h2 | h2 <;> rw [h1, h2] <;> omega
  · simp only [worth, due]
    rcases two .ready with h1 | h1 <;> rcases two .agreed with h2 | h2 <;> rw [h1, h2] <;> omega
theorem costs_ok (S : Sh) (o : O) (m : Nat) (h1 : 1 ≤ m) (h2 : m ≤ 100) : C_costs [.ob 0 (Nb.book S), .im o.d, .im (.int m)] = some (.im (.tuple [.int (due S m o), .int (3 * m + m * an S o)])) := by
  unfold C_costs c_costs c_costs_1 c_costs_2 c_costs_3 c_costs_4
  decreasing_trivial_pre_omega
  rw [Nb.is_book rfl]
  decreasing_trivial_pre_omega
  rw [check_ok o m h1 h2]
  decreasing_trivial_pre_omega
  rw [k_mulI, guard_dec (by exact .inl (by decide))]
  decreasing_trivial_pre_omega
  rw [Nb.p_answers S rfl]
  decreasing_trivial_pre_omega
  cases e : S.ans.has o
  all_goals
    decreasing_trivial_pre_omega
    rw [Nb.p_forced S rfl]
    decreasing_trivial_pre_omega
    rw [writings_ok, due_sum]
    decreasing_trivial_pre_omega
    unfold an
    rw [e]
    simp
end K49

namespace K49
open PySem PySem.Spec PyProof.Rows L2 DL Nv
local macro_rules
  | `(tactic| decreasing_trivial_pre_omega) => `(tactic| simp (config := { failIfUnchanged := false, implicitDefEqProofs := false }) only [t_nx, t_rt, t_ct, t_bk, e_var, e_K, e_2, e_B, bOf_b, iOf_i, e_And, e_Or, e_Not, e_AndV, e_OrV, e_NotV, e_If, e_Nil, e_Cons, e_Tup, e_Lst, kp_nil, kp_im, kp_ow, k_I, k_IsI, k_IsO, k_IsB, k_addI, k_dget, k_ixT, k_ixL, k_ixO, k_ixB, e_Chain, e_Call, k1_eq, dat_im', dat_ow, dat_br, kept_im, kept_ow, len_l, len_t, e_Is, e_NoPart, e_Part, e_Sl, sl_l, sl_t, ar_nil, ar_im, ar_ow, ar_ob, e_Fn, e_FnK, pl_im, pl_ow, pl_ob, e_Set, ow_ow, e_SetO, rt_im, rt_ow, rt_br, rt_ob, e_Ret, e_RetN, e_Skip, e_Seq, e_IfS, e_Asg, g_N, g_sNil, g_sCons, g_Tup, e_ItL, w_im, w_ow, w_br, e_ItT, w_t, e_Rng1, e_Rng2, e_Enum, en_t, en_l, e_For, e_Lc, e_Yes, e_Run, end_rt, end_nx, e_Star, e_Freeze, fz_ow, fz_im, e_Append, e_Extend, ex_l, e_DGet2, d_2, e_Aug, e_LstRg1, it_l, it_t, e_Expr, e_Disp, di_nil, di_cons, e_Neg, tk_f, tk_t, e_Par, e_Par3, s3, e_Tru, as_im, as_ow, as_ob, g_t, tup_t, tup_l, lst_t, lst_l, int_i, int_b, fg_nil, DL.gt, DL.pt, wipeE, Option.bind_some, Option.map_some, cond_true, cond_false, List.map_cons, List.map_nil, List.length_cons, List.length_nil, List.cons_append, List.nil_append, List.reduceReplicate, List.isEmpty_nil, List.isEmpty_cons, List.zip_cons_cons, List.zip_nil_right, Nat.reduceAdd, Nat.reduceSub, beq_self_eq_true, Bool.not_true, Bool.not_false, bne_self_eq_false, Bool.bne_false, Bool.bne_true, Bool.false_bne, Bool.true_bne, reduceCtorEq, decide_true, decide_false, Bool.or_true, Bool.true_or, Bool.or_false, Bool.false_or, Bool.and_true, Bool.true_and, Bool.and_false, Bool.false_and, ↓reduceIte, eq_tx, in_tx1, in_tx2, in_tx3, in_tx4, ok_cm, ok_hm, ok_rec, ok_o, ok_wd, ok_pre, tx_none, tx_lazy, tx_forced, tx_no, tx_yes, tx_wait, tx_new, tx_asking, tx_gone, tx_idle, tx_ready, tx_empty, tx_begin, tx_agreed, tx_refused, tx_words, tx_answers, tx_presume, tx_ask, tx_vote, tx_refuse, tx_decide, tx_tell, tx_hear, tx_answer, tx_forget, tx_clear, tx_down, tx_fall, cm_new, cm_newR, cm_asking, cm_askingR, cm_yes, cm_yesR, cm_no, cm_noR, cm_gone, cm_goneR, hm_idle, hm_idleR, hm_ready, hm_readyR, hm_yes, hm_yesR, hm_no, hm_noR, hm_empty, hm_emptyR, wd_none, wd_noneR, wd_lazy, wd_lazyR, wd_forced, wd_forcedR, o_no, o_noR, o_yes, o_yesR, pre_no, pre_noR, pre_wait, pre_waitR, pre_yes, pre_yesR, rec_begin, rec_beginR, rec_yes, rec_yesR, rec_no, rec_noR, rec_ready, rec_readyR, rec_agreed, rec_agreedR, rec_refused, rec_refusedR, dg_words, dg_answers, dg_presume, dg_word, dg_wordS, in_notes, in_os, in_osS, in_cm, eq_ox, eq_xo, eq_rx, in_ox2, eq_oo, nd_o, nd_none, at_4, at_5, at_6, at_7, ii_i, ib_i, ii_b, ib_b, is_s, it_t', it_l', il_l, il_t, tx_e, rec_e, e_e, Option.getD_some, Option.getD_none, add_os, tup_os, sl_room26, ko_str, ko_rec, ko_o, dg_cons, dg_nil, nd_str, nd_int, nd_tup, nd_lst, at_0, at_1, at_2, at_3, g_tape, ix_tape0, ix_tape1, g_seat, ix_seat0, ix_seat1, ix_seat2, g_room, ix_room0, ix_room1, ix_room2, ix_room3, ix_room4, ix_room5, ix_room6, g_stand, ix_stand0, ix_stand1, w_os, nq_ask_vote, nq_ask_refuse, nq_ask_decide, nq_ask_tell, nq_ask_hear, nq_ask_answer, nq_ask_forget, nq_ask_clear, nq_ask_down, nq_ask_fall, nq_vote_ask, nq_vote_refuse, nq_vote_decide, nq_vote_tell, nq_vote_hear, nq_vote_answer, nq_vote_forget, nq_vote_clear, nq_vote_down, nq_vote_fall, nq_refuse_ask, nq_refuse_vote, nq_refuse_decide, nq_refuse_tell, nq_refuse_hear, nq_refuse_answer, nq_refuse_forget, nq_refuse_clear, nq_refuse_down, nq_refuse_fall, nq_decide_ask, nq_decide_vote, nq_decide_refuse, nq_decide_tell, nq_decide_hear, nq_decide_answer, nq_decide_forget, nq_decide_clear, nq_decide_down, nq_decide_fall, nq_tell_ask, nq_tell_vote, nq_tell_refuse, nq_tell_decide, nq_tell_hear, nq_tell_answer, nq_tell_forget, nq_tell_clear, nq_tell_down, nq_tell_fall, nq_hear_ask, nq_hear_vote, nq_hear_refuse, nq_hear_decide, nq_hear_tell, nq_hear_answer, nq_hear_forget, nq_hear_clear, nq_hear_down, nq_hear_fall, nq_answer_ask, nq_answer_vote, nq_answer_refuse, nq_answer_decide, nq_answer_tell, nq_answer_hear, nq_answer_forget, nq_answer_clear, nq_answer_down, nq_answer_fall, nq_forget_ask, nq_forget_vote, nq_forget_refuse, nq_forget_decide, nq_forget_tell, nq_forget_hear, nq_forget_answer, nq_forget_clear, nq_forget_down, nq_forget_fall, nq_clear_ask, nq_clear_vote, nq_clear_refuse, nq_clear_decide, nq_clear_tell, nq_clear_hear, nq_clear_answer, nq_clear_forget, nq_clear_down, nq_clear_fall, nq_down_ask, nq_down_vote, nq_down_refuse, nq_down_decide, nq_down_tell, nq_down_hear, nq_down_answer, nq_down_forget, nq_down_clear, nq_down_fall, nq_fall_ask, nq_fall_vote, nq_fall_refuse, nq_fall_decide, nq_fall_tell, nq_fall_hear, nq_fall_answer, nq_fall_forget, nq_fall_clear, nq_fall_down])
theorem pairD_repr {a b : Int} (h0 : 0 ≤ a) (h1 : a < 1024) (h2 : 0 ≤ b) (h3 : b < 1024) : Sw 1 22 (.tuple [.int a, .int b]) := sw_tup (ds := [.int a, .int b]) (n := 0) (w := 10) fun d hd => by
  simp only [List.mem_cons, List.not_mem_nil, or_false] at hd
  rcases hd with rfl | rfl
  · exact sw_int h0 h1
  · exact sw_int h2 h3
theorem fw01 (S : Sh) (r : Rec) : 0 ≤ fw S r ∧ fw S r ≤ 1 := by unfold fw; split <;> omega
theorem an01 (S : Sh) (o : O) : 0 ≤ an S o ∧ an S o ≤ 1 := by unfold an; split <;> omega
theorem mul01 {x : Int} (h : 0 ≤ x ∧ x ≤ 1) (m : Int) (hm : 0 ≤ m) : 0 ≤ m * x ∧ m * x ≤ m := by
  rcases (show x = 0 ∨ x = 1 by omega) with rfl | rfl
  · rw [Int.mul_zero]; omega
  · rw [Int.mul_one]; omega
theorem due_small (S : Sh) (m : Nat) (h1 : 1 ≤ m) (h2 : m ≤ 100) (o : O) : 0 ≤ due S m o ∧ due S m o < 1024 := by
  cases o
  · have a1 := mul01 (fw01 S .ready) (m - 1) (by omega)
    have a2 := mul01 (fw01 S .refused) (m - 1) (by omega)
    have a3 := fw01 S .begin
    have a4 := fw01 S .no
    have a5 := fw01 S .refused
    simp only [due]
    omega
  · have a1 := mul01 (fw01 S .ready) m (by omega)
    have a2 := mul01 (fw01 S .agreed) m (by omega)
    have a3 := fw01 S .begin
    have a4 := fw01 S .yes
    simp only [due]
    omega
theorem let_small (S : Sh) (m : Nat) (h2 : m ≤ 100) (o : O) : 0 ≤ 3 * (m : Int) + m * an S o ∧ 3 * (m : Int) + m * an S o < 1024 := by
  have := mul01 (an01 S o) m (by omega)
  omega
def costD (S : Sh) (m : Nat) (o : O) : PyData := .tuple [.int (due S m o), .int (3 * m + m * an S o)]
theorem cost_sw (S : Sh) (m : Nat) (h1 : 1 ≤ m) (h2 : m ≤ 100) (o : O) : Sw 1 22 (costD S m o) :=
  pairD_repr (due_small S m h1 h2 o).1 (due_small S m h1 h2 o).2 (let_small S m h2 o).1 (let_small S m h2 o).2
theorem law_book_told (S : Sh) (o : O) (m : Nat) (h1 : 1 ≤ m) (h2 : m ≤ 10) (e0 e1 e2 e6 e7 e8 e9 e10 e11 e12 : Option Ent) :
    c_st_1 [e0, e1, e2, some (.im S.d), some (.im o.d), some (.im (.int m)), e6, e7, e8, e9, e10, e11, e12] = some (.nx [e0, e1, e2, some (.im S.d), some (.im o.d), some (.im (.int m)), some (.ob 0 (Nb.book S)), some (.im (costD S m o)), e8, e9, e10, e11, e12]) := by
  unfold c_st_1
  decreasing_trivial_pre_omega
  rw [book_ok]
  decreasing_trivial_pre_omega
  rw [told_ok S m h1 h2 o]
  decreasing_trivial_pre_omega
  rfl
theorem law_found (S : Sh) (o : O) (m : Nat) (h1 : 1 ≤ m) (h2 : m ≤ 100) (e0 e1 e2 e3 e7 e8 e9 e10 e11 e12 : Option Ent) :
    c_st_2 [e0, e1, e2, e3, some (.im o.d), some (.im (.int m)), some (.ob 0 (Nb.book S)), e7, e8, e9, e10, e11, e12] = some (.nx [e0, e1, e2, e3, some (.im o.d), some (.im (.int m)), some (.ob 0 (Nb.book S)), e7, some (.im (.list [costD S m o, costD S m o])), e9, e10, e11, e12]) := by
  unfold c_st_2
  decreasing_trivial_pre_omega
  rw [costs_ok S o m h1 h2]
  decreasing_trivial_pre_omega
  rw [show permL [2, 1, 0] [Ent.im (.int m), Ent.im o.d, Ent.ob 0 (Nb.book S)] = [Ent.ob 0 (Nb.book S), Ent.im o.d, Ent.im (.int m)] from rfl]
  decreasing_trivial_pre_omega
  rw [costs_ok S o m h1 h2]
  decreasing_trivial_pre_omega
  rfl
theorem law_same (S : Sh) (o : O) (m : Nat) (h1 : 1 ≤ m) (h2 : m ≤ 100) (e0 e1 e2 e3 e4 e5 e6 e9 e10 e11 e12 : Option Ent) :
    c_st_3 [e0, e1, e2, e3, e4, e5, e6, some (.im (costD S m o)), some (.im (.list [costD S m o, costD S m o])), e9, e10, e11, e12] = some (.nx [e0, e1, e2, e3, e4, e5, e6, some (.im (costD S m o)), some (.im (.list [costD S m o, costD S m o])), e9, e10, e11, e12]) := by
  have r := cost_sw S m h1 h2 o
  have rl : reprB (.list [costD S m o, costD S m o]) = true := (sw_lst (ds := [costD S m o, costD S m o]) (n := 1) (w := 22) fun d hd => by
    simp only [List.mem_cons, List.not_mem_nil, or_false] at hd
    rcases hd with rfl | rfl <;> exact r).repr (by decide) (Nat.le_of_ble_eq_true rfl)
  unfold c_st_3
  decreasing_trivial_pre_omega
  rw [k_repr rl]
  decreasing_trivial_pre_omega
  rw [eq_same]
  decreasing_trivial_pre_omega
theorem law_low (S : Sh) (o : O) (e0 e1 e2 e5 e6 e7 e8 e9 e10 e11 e12 : Option Ent) :
    c_st_5 [e0, e1, e2, some (.im S.d), some (.im o.d), e5, e6, e7, e8, e9, e10, e11, e12] = some (.nx [e0, e1, e2, some (.im S.d), some (.im o.d), e5, e6, e7, e8, e9, some (.im (costD S 2 o)), some (.im (costD S 3 o)), e12]) := by
  unfold c_st_5
  decreasing_trivial_pre_omega
  rw [show (PyData.int 2) = .int ((2 : Nat) : Int) from rfl, told_ok S 2 (by decide) (by decide) o, show (PyData.int 3) = .int ((3 : Nat) : Int) from rfl, told_ok S 3 (by decide) (by decide) o]
  decreasing_trivial_pre_omega
  rfl
theorem law_far (S : Sh) (o : O) (m : Nat) (h1 : 1 ≤ m) (h2 : m ≤ 100) (e0 e1 e2 e3 e4 e5 e6 e7 e8 e12 : Option Ent) :
    c_st_6 [e0, e1, e2, e3, e4, e5, e6, e7, e8, some (.im (.int m)), some (.im (costD S 2 o)), some (.im (costD S 3 o)), e12] = some (.nx [e0, e1, e2, e3, e4, e5, e6, some (.im (costD S m o)), e8, some (.im (.int m)), some (.im (costD S 2 o)), some (.im (costD S 3 o)), e12]) := by
  unfold c_st_6
  decreasing_trivial_pre_omega
  rw [r_1 (by decide)]
  decreasing_trivial_pre_omega
  rw [show rngD 0 (Int.toNat 2) = [.int 0, .int 1] from rfl]
  simp only [cLcGo, lcOne_eq]
  unfold costD
  decreasing_trivial_pre_omega
  rw [k_mulI, guard_dec (.inl (by omega))]
  decreasing_trivial_pre_omega
  rw [k_mulI, guard_dec (.inl (by omega))]
  decreasing_trivial_pre_omega
  have q1 : due S 2 o + ((m : Int) - 2) * (due S 3 o - due S 2 o) = due S m o := by
    have two : ∀ r, fw S r = 0 ∨ fw S r = 1 := fun r => by unfold fw; split <;> simp
    cases o
    · simp only [due]
      rcases two .ready with h1 | h1 <;> rcases two .refused with h2 | h2 <;> rw [h1, h2] <;> push_cast <;> omega
    · simp only [due]
      rcases two .ready with h1 | h1 <;> rcases two .agreed with h2 | h2 <;> rw [h1, h2] <;> push_cast <;> omega
  have q2 : 3 * ((2 : Nat) : Int) + ((2 : Nat) : Int) * an S o + ((m : Int) - 2) * (3 * ((3 : Nat) : Int) + ((3 : Nat) : Int) * an S o - (3 * ((2 : Nat) : Int) + ((2 : Nat) : Int) * an S o)) = 3 * m + m * an S o := by
    rcases (show an S o = 0 ∨ an S o = 1 by have := an01 S o; omega) with h | h <;> rw [h] <;> push_cast <;> omega
  rw [q1, q2]
theorem law_end (S : Sh) (o : O) (m : Nat) (h1 : 1 ≤ m) (h2 : m ≤ 100) (e0 e1 e2 e3 e5 e8 e10 e11 e12 : Option Ent) :
    c_st_7 [e0, e1, e2, e3, some (.im o.d), e5, some (.ob 0 (Nb.book S)), some (.im (costD S m o)), e8, some (.im (.int m)), e10, e11, e12] = some (.nx [e0, e1, e2, e3, some (.im o.d), e5, some (.ob 0 (Nb.book S)), some (.im (costD S m o)), e8, some (.im (.int m)), e10, e11, e12]) := by
  have r := (cost_sw S m h1 h2 o).repr (by decide) (by decide)
  unfold c_st_7
  decreasing_trivial_pre_omega
  rw [costs_ok S o m h1 h2]
  decreasing_trivial_pre_omega
  rw [show kRepr (.tuple [.int (due S m o), .int (3 * m + m * an S o)]) = _ from k_repr r, k_repr r]
  decreasing_trivial_pre_omega
  rw [show kEq true (.im (.str (PyData.tuple [.int (due S m o), .int (3 * m + m * an S o)]).shown)) (.im (.str (costD S m o).shown)) = some (.im (.bool (!true))) from eq_same]
  decreasing_trivial_pre_omega
theorem take_ok {z : Int} {n : Nat} {Q : Ent → Nat → Prop} (hn : n < 1000000) (h0 : 0 < z) (h1 : z < 1000000) (q : ∀ x : Int, 0 ≤ x → x < z → Q (.im (.int x)) (n + 1)) : Db.F_take [.dr, .im (.int z)] n Q := ⟨⟨hn, h0, h1⟩, q⟩
theorem pick_ok {ds : List PyData} {n : Nat} {Q : Ent → Nat → Prop} (hn : n < 1000000) (h0 : 0 < ds.length) (h1 : ds.length < 1000) (q : ∀ x ∈ ds, Q (.im x) (n + 1)) : Db.F_pick [.dr, .im (.list ds)] n Q := ⟨⟨hn, h0, h1⟩, q⟩
theorem sheet_ok {z : Int} {n : Nat} {Q : Ent → Nat → Prop} (hn : n < 900000) (h0 : 0 ≤ z) (h1 : z < 1000) (q : ∀ S : Sh, Q (.im S.d) (n + 22)) : Db.F_sheet [.dr, .im (.int z)] n Q := ⟨⟨hn, h0, h1⟩, fun ws as pp a b c => by
  obtain ⟨S, e⟩ := Nb.sheet_nat a b c
  rw [e]
  exact q S⟩
local macro_rules
  | `(tactic| get_elem_tactic_extensible) => `(tactic| simp (config := { failIfUnchanged := false, implicitDefEqProofs := false }) only [fSeq, fPar3, fCons, fNil, fFn, fVar, fK, fLst, f2, fSet, argsOf, asR, DL.gt, DL.pt, kepts, plainR, set3])
theorem lap_ok {E : EE} {s0 : PyData} {e2 e3 e4 e5 e6 e7 e8 e9 e10 e11 e12 : Option Ent} {n : Nat} (hn : n < 899900)
    (k : ∀ e3 e4 e5 e6 e7 e8 e9 e10 e11 e12 : Option Ent, E.nx ⟨[some (.ob 1 s0), some .dr, e2, e3, e4, e5, e6, e7, e8, e9, e10, e11, e12], n + 26⟩) : g_lap E ⟨[some (.ob 1 s0), some .dr, e2, e3, e4, e5, e6, e7, e8, e9, e10, e11, e12], n⟩ := by
  show g_lap_0 E _
  unfold g_lap_0
  get_elem_tactic_extensible
  refine sheet_ok (by omega) (by decide) (by decide) fun S => ?_
  get_elem_tactic_extensible
  refine pick_ok (by omega) (by decide) (by decide) fun x hx => ?_
  obtain ⟨o, rfl⟩ : ∃ o : O, x = o.d := by
    simp only [List.mem_cons, List.not_mem_nil, or_false] at hx
    rcases hx with rfl | rfl
    · exact ⟨.yes, rfl⟩
    · exact ⟨.no, rfl⟩
  get_elem_tactic_extensible
  refine take_ok (by omega) (by decide) (by decide) fun x x0 x1 => ?_
  obtain ⟨m, hm, h1, h2⟩ : ∃ m : Nat, (1 : Int) + x = m ∧ 1 ≤ m ∧ m ≤ 10 := ⟨(1 + x).toNat, by omega, by omega, by omega⟩
  show g_lap_1 E ⟨[some (.ob 1 s0), some .dr, e2, some (.im S.d), some (.im o.d), some (.im (.int (1 + x))), e6, e7, e8, e9, e10, e11, e12], n + 24⟩
  rw [hm]
  unfold g_lap_1
  refine seq_c (law_book_told S o m h1 h2 _ _ _ _ _ _ _ _ _ _) ?_
  unfold g_lap_2
  refine seq_c (law_found S o m h1 (by omega) _ _ _ _ _ _ _ _ _ _) ?_
  unfold g_lap_3
  refine seq_c (law_same S o m h1 (by omega) _ _ _ _ _ _ _ _ _ _ _) ?_
  unfold g_lap_4
  get_elem_tactic_extensible
  refine take_ok (by omega) (by decide) (by decide) fun y y0 y1 => ?_
  rw [show ∀ Q : Ent → Prop, oAdd (.im (.int 1)) (.im (.int y)) Q = Q (.im (.int (1 + y))) from fun _ => rfl]
  get_elem_tactic_extensible
  refine pick_ok (by omega) (by simp only [List.length_cons]; omega) (Nat.le_of_ble_eq_true rfl) fun z hz => ?_
  obtain ⟨far, rfl, f1, f2⟩ : ∃ far : Nat, z = .int far ∧ 1 ≤ far ∧ far ≤ 100 := by
    simp only [List.mem_cons, List.not_mem_nil, or_false] at hz
    rcases hz with rfl | rfl | rfl | rfl
    · exact ⟨6, rfl, by decide, by decide⟩
    · exact ⟨99, rfl, by decide, by decide⟩
    · exact ⟨100, rfl, by decide, by decide⟩
    · exact ⟨(1 + y).toNat, by rw [Int.toNat_of_nonneg (by omega)], by omega, by omega⟩
  get_elem_tactic_extensible
  unfold g_lap_5
  refine seq_c (law_low S o _ _ _ _ _ _ _ _ _ _ _) ?_
  unfold g_lap_6
  refine seq_c (law_far S o far f1 f2 _ _ _ _ _ _ _ _ _ _) ?_
  unfold g_lap_7
  refine one_c (law_end S o far f1 f2 _ _ _ _ _ _ _ _ _) ?_
  exact k _ _ _ _ _ _ _ _ _ _
theorem loop_ok {E : EE} {s0 : PyData} (q : ∀ s, E.nx s) : ∀ (ds : List PyData) (e2 e3 e4 e5 e6 e7 e8 e9 e10 e11 e12 : Option Ent) (n : Nat), n + 26 * ds.length < 899900 → forGo (gN 2) g_lap ds E ⟨[some (.ob 1 s0), some .dr, e2, e3, e4, e5, e6, e7, e8, e9, e10, e11, e12], n⟩
  | [], _, _, _, _, _, _, _, _, _, _, _, _, _ => q _
  | d :: ds, e2, e3, e4, e5, e6, e7, e8, e9, e10, e11, e12, n, hn => by
    rw [forGo]
    rw [List.length_cons] at hn
    show g_lap _ ⟨[some (.ob 1 s0), some .dr, some (.im d), e3, e4, e5, e6, e7, e8, e9, e10, e11, e12], n⟩
    exact lap_ok (by omega) fun f3 f4 f5 f6 f7 f8 f9 f10 f11 f12 => loop_ok q ds _ _ _ _ _ _ _ _ _ _ _ _ (by omega)
theorem law_math (ns : List Int) (few : ns.length ≤ 63) : g_law Db.lawE ⟨some (.ob 1 (.list (ns.map PyData.int))) :: some .dr :: List.replicate 11 none, 0⟩ := by
  show fSeq _ _ _ ⟨[some (.ob 1 (.list (ns.map PyData.int))), some .dr, none, none, none, none, none, none, none, none, none, none, none], 0⟩
  have mn : ∀ k : Int, 0 ≤ k → k ≤ 63 → 0 ≤ (if (12 : Int) < k then (12 : Int) else k) ∧ (if (12 : Int) < k then (12 : Int) else k) ≤ 12 := fun k h1 h2 => by split <;> omega
  have e := mn (((ns.map PyData.int).length : Nat) : Int) (by omega) (by rw [List.length_map]; omega)
  show (-(2 ^ 62) ≤ (3 : Int) + (if (12 : Int) < (((ns.map PyData.int).length : Nat) : Int) then (12 : Int) else (((ns.map PyData.int).length : Nat) : Int)) ∧ _ ∧ _) ∧ _
  generalize (if (12 : Int) < (((ns.map PyData.int).length : Nat) : Int) then (12 : Int) else (((ns.map PyData.int).length : Nat) : Int)) = z at e ⊢
  refine ⟨⟨by omega, by omega, Nat.le_trans (m := 15) (by omega) (by decide)⟩, ?_⟩
  refine loop_ok (fun s => ?_) _ _ _ _ _ _ _ _ _ _ _ _ _ ?_
  · show (Ent.im (PyData.bool true)) = _
    rfl
  · unfold rngD
    rw [List.length_map, List.length_range]
    omega
end K49

namespace En
open PySem PySem.Spec PyProof.Rows L2 Ev Er Co Ow Gd
/-! What the top has left, in words that the kernel reckons out at once. -/
variable {P : Program} {w : World} {K : PySem.W.Frag} {mg : Str → Option Value} {base : Heap} {C : Addr}
/-- an error's class, as isinstance and attributes want it -/
def ecB (K : PySem.W.Frag) (C : Addr) : Bool := (PySem.W.findIn K (.ref C) "__getattribute__" == some (some (.builtin "BaseException.__getattribute__"))) && ((PySem.W.findIn K (.ref C) "__getattr__" == some none) &&
  ((PySem.W.subIn K (.ref C) (.type "BaseException") == some true) && (PySem.W.hasDictIn K C && ((PySem.W.findIn K (.ref C) "__class__" == some (some (.builtin "object.__class__"))) && ((PySem.W.mroIn K C (.type "object") == some true) && PySem.W.isClsIn K C)))))
theorem and2 {a b : Bool} (h : (a && b) = true) : a = true ∧ b = true := Bool.and_eq_true_iff.mp h
theorem ec_all (h : ecB K C = true) : PySem.W.findIn K (.ref C) "__getattribute__" = some (some (.builtin "BaseException.__getattribute__")) ∧ PySem.W.findIn K (.ref C) "__getattr__" = some none ∧ PySem.W.subIn K (.ref C) (.type "BaseException") = some true ∧
    PySem.W.hasDictIn K C = true ∧ PySem.W.findIn K (.ref C) "__class__" = some (some (.builtin "object.__class__")) ∧ PySem.W.mroIn K C (.type "object") = some true ∧ PySem.W.isClsIn K C = true := by
  obtain ⟨h1, h⟩ := and2 h
  obtain ⟨h2, h⟩ := and2 h
  obtain ⟨h3, h⟩ := and2 h
  obtain ⟨h4, h⟩ := and2 h
  obtain ⟨h5, h⟩ := and2 h
  obtain ⟨h6, h7⟩ := and2 h
  exact ⟨beq_iff_eq.mp h1, beq_iff_eq.mp h2, beq_iff_eq.mp h3, h4, beq_iff_eq.mp h5, beq_iff_eq.mp h6, h7⟩
/-- what builtins the class questions reach -/
structure Root (P : Program) (K : PySem.W.Frag) : Prop where
  hn : PySem.W.specialIn K (.builtin "object.__class__") "__get__" = some (some (.builtin "getset_descriptor.__get__"))
  ht : PySem.W.takesIn K (.builtin "object.__class__") = some true
  plain : PySem.W.nsIn K PySem.cStatics "thirdparty.any" = some none
  top : (P.main.scope.names.lookup ("super" : Str)).isSome = false
theorem ecls (R : Root P K) (h : ecB K C = true) : ECls K C := by
  obtain ⟨h1, h2, h3, h4, h5, h6, h7⟩ := ec_all h
  exact ⟨⟨h1, h2, h3, h4, h5, R.hn, R.ht, h6⟩, h7⟩
theorem xf (h : ecB K C = true) : XfC K C := by
  obtain ⟨h1, h2, h3, h4, h5, h6, h7⟩ := ec_all h
  exact ⟨h1, h2, h3, h4⟩
/-- beyond that, of a class with its own __init__ at fI -/
def owB (K : PySem.W.Frag) (C fI : Addr) (field : Str) : Bool := (PySem.W.findIn K (.ref C) "__setattr__" == some (some (.builtin "object.__setattr__"))) && ((PySem.W.typeIn K (.ref C) == some (.type "type")) && (PySem.W.keepIn K (.ref C) &&
  ((PySem.W.findIn K (.ref C) field == some none) && ((PySem.W.typeIn K (.ref fI) == some (.type "function")) && ((PySem.W.ks_superIn K C C "__init__" == some (some (.builtin "ValueError.__init__"))) && ((PySem.W.mroIn K C (.ref C) == some true) && (PySem.W.subIn K (.ref C) (.type "ValueError") == some true)))))))
theorem own {name par field qual : Str} {st : Stmt} {fI cc cda fC : Addr} {fdC : FuncData} {nm q : Str} {N : Addr} {bs bm : List Value} {sn : List Str} {sub : List Value} {ab : Bool} {col : Option Bool} {dd : Option Addr} {k0 k1 k2 k3 k5 : Option Value}
    {oc : Value} {od : Option Addr} {osl : Array (Option Value)} {kV doc pm : Value} {an : Option Addr} {ct ccl : Value} {cdd : Option Addr} {vs : Array Value} {ccs : Array (Option Value)} {file : Str} {tf : Tok} {cl : Value} {cld : Option Addr} {csl : Array (Option Value)}
    (R : Root P K) (S : Form st par field) (hC : ecB K C = true) (hO : owB K C fI field = true) (lC : K.lookup C = some (excClassObj nm q C N bs bm true sn sub ab col dd k0 k1 k2 k3 k5 "ValueError.__new__")) (rC : PySem.HandSPX.refsVE bm = true)
    (iC : PySem.W.findIn K (.ref C) "__init__" = some (some (.ref fI))) (lI : K.lookup fI = some ⟨oc, od, .func (PySem.W.fnX "__init__" qual (defArgs st) (defBody st) (defScope st) [("__class__", cc)] .none kV doc pm an (.ref cda) ct), osl⟩)
    (cI : PySem.W.codeIn K (.ref cda) qual = true) (lc : K.lookup cda = some ⟨ccl, cdd, .fields vs, ccs⟩) (hv : vs[2]? = some (.str file tf)) (hm : ((P.main.file : Str) == file) = true) (ce : K.lookup cc = some ⟨cl, cld, .cell (some (.ref C)), csl⟩)
    (g : mg name = some (.ref C)) (gS : mg "super" = none) (FC : FnOk P w K mg base CX0 3 fC fdC ["value"] (spCopy K 3)) (gC : mg "copied" = some (.ref fC)) (kC : PySem.W.keepIn K (.ref fC) = true) (bC : Binds K fdC ["value"] []) : OwnE P w K mg base 3 5 name par field C := by
  obtain ⟨h1, h2, h3, h4, h5, h6, h7⟩ := ec_all hC
  obtain ⟨o1, h⟩ := and2 hO
  obtain ⟨o2, h⟩ := and2 h
  obtain ⟨o3, h⟩ := and2 h
  obtain ⟨o4, h⟩ := and2 h
  obtain ⟨o5, h⟩ := and2 h
  obtain ⟨o6, h⟩ := and2 h
  obtain ⟨o7, o8⟩ := and2 h
  have X : OexC K C := ⟨⟨nm, q, N, bs, bm, sn, sub, ab, col, dd, k0, k1, k2, k3, k5, lC, rC⟩, beq_iff_eq.mp o1, h3, beq_iff_eq.mp o2, o3⟩
  have T : Txt P K st qual field C fI cc := ⟨X, ⟨oc, od, osl, kV, doc, pm, an, cda, ct, lI, cI, ccl, cdd, vs, ccs, file, tf, lc, hv, hm⟩, ⟨cl, cld, csl, ce⟩, beq_iff_eq.mp o6, beq_iff_eq.mp o7, R.plain, beq_iff_eq.mp o8, beq_iff_eq.mp o4, R.top⟩
  obtain ⟨fd, F, b1, b2⟩ := ok_init (kc := 3) (spc := spCopy K 3) S T FC gC kC bC gS spCopy_mono
  exact ⟨⟨fI, fd, F, iC, beq_iff_eq.mp o5, b1, b2⟩, X, xf hC, beq_iff_eq.mp o4, g⟩
theorem paired_of {f : Addr → Option Bool} : ∀ {Ds : List Addr} {bs : List Bool}, Ds.map f = bs.map some → Paired (fun D b => f D = some b) Ds bs
  | [], [], _ => .nil
  | D :: Ds, b :: bs, h => by
    obtain ⟨h1, h2⟩ := List.cons_eq_cons.mp h
    exact .cons h1 (paired_of h2)
  | [], _ :: _, h => by cases h
  | _ :: _, [], h => by cases h
end En

namespace K49
open PySem PySem.Spec PyProof.Rows L2 Ev Er Co Ow En
abbrev iBadBook : Stmt := inClass (Draw.top 4) 0
theorem formBadBook : Form iBadBook "part" "part" := ⟨rfl, rfl, rfl, by decide +kernel, by decide +kernel, rfl, rfl, rfl, rfl, rfl, ⟨_, rfl⟩, by decide, by decide, by decide, fun _ _ _ _ _ _ _ _ _ _ => rfl, fun _ _ _ _ _ _ _ _ _ _ => rfl, ⟨_, _, _, _, _, _, _, _, _, _, _, _, _, _, rfl, by decide +kernel, rfl⟩⟩
def bookB (K : PySem.W.Frag) (C fI : Addr) : Bool := PySem.W.makesIn K C && (PySem.W.isFn K (.ref fI) && (PySem.W.keepIn K (.ref C) && (PySem.W.plainGet K C Str.empty && (PySem.W.hasDictIn K C && (PySem.W.plainOver K C && ((PySem.W.findIn K (.ref C) "__setattr__" == some (some (.builtin "object.__setattr__"))) &&
  (((Bk.recs ++ (["answers", "presume", "forced", "_words"] : List Str)).all fun f => PySem.W.findIn K (.ref C) f == some none) && ((PySem.W.findIn K (.ref C) "__class__" == some (some (.builtin "object.__class__"))) && ((PySem.W.mroIn K C (.type "object") == some true) &&
  (((["NoneType", "bool", "int", "str", "list", "tuple", "dict"] : List String).all fun t => PySem.W.kitOne K (.type t) (.ref C) == some false) && ((PySem.W.kitOne K (.ref C) (.ref C) == some true) && true)))))))))))
theorem all_mk {P : Program} {w : World} {K : PySem.W.Frag} {h : Heap} {mg : Str → Option Value} {fa : Addr} {fCopied : Addr} {odCopied anCopied : Option Addr} {slCopied : Array (Option Value)} {ocCopied kVCopied dcCopied pmCopied cdCopied ctCopied : Value} {fLawBegunL : Addr} {odLawBegunL anLawBegunL : Option Addr} {slLawBegunL : Array (Option Value)} {ocLawBegunL kVLawBegunL dcLawBegunL pmLawBegunL cdLawBegunL ctLawBegunL : Value} {fLawMixedL : Addr} {odLawMixedL anLawMixedL : Option Addr} {slLawMixedL : Array (Option Value)} {ocLawMixedL kVLawMixedL dcLawMixedL pmLawMixedL cdLawMixedL ctLawMixedL : Value} {fLawTakeL : Addr} {odLawTakeL anLawTakeL : Option Addr} {slLawTakeL : Array (Option Value)} {ocLawTakeL kVLawTakeL dcLawTakeL pmLawTakeL cdLawTakeL ctLawTakeL : Value} {fLawPickL : Addr} {odLawPickL anLawPickL : Option Addr} {slLawPickL : Array (Option Value)} {ocLawPickL kVLawPickL dcLawPickL pmLawPickL cdLawPickL ctLawPickL : Value} {fIsList : Addr} {odIsList anIsList : Option Addr} {slIsList : Array (Option Value)} {ocIsList kVIsList dcIsList pmIsList cdIsList ctIsList : Value} {fFirstUnfit : Addr} {odFirstUnfit anFirstUnfit : Option Addr} {slFirstUnfit : Array (Option Value)} {ocFirstUnfit kVFirstUnfit dcFirstUnfit pmFirstUnfit cdFirstUnfit ctFirstUnfit : Value} {fWrongPart : Addr} {odWrongPart anWrongPart : Option Addr} {slWrongPart : Array (Option Value)} {ocWrongPart kVWrongPart dcWrongPart pmWrongPart cdWrongPart ctWrongPart : Value} {fLawShuffledL : Addr} {odLawShuffledL anLawShuffledL : Option Addr} {slLawShuffledL : Array (Option Value)} {ocLawShuffledL kVLawShuffledL dcLawShuffledL pmLawShuffledL cdLawShuffledL ctLawShuffledL : Value} {fLawKnownSheetL : Addr} {odLawKnownSheetL anLawKnownSheetL : Option Addr} {slLawKnownSheetL : Array (Option Value)} {ocLawKnownSheetL kVLawKnownSheetL dcLawKnownSheetL pmLawKnownSheetL cdLawKnownSheetL ctLawKnownSheetL : Value} {fLawSheetL : Addr} {odLawSheetL anLawSheetL : Option Addr} {slLawSheetL : Array (Option Value)} {ocLawSheetL kVLawSheetL dcLawSheetL pmLawSheetL cdLawSheetL ctLawSheetL : Value} {fLawNotesL : Addr} {odLawNotesL anLawNotesL : Option Addr} {slLawNotesL : Array (Option Value)} {ocLawNotesL kVLawNotesL dcLawNotesL pmLawNotesL cdLawNotesL ctLawNotesL : Value} {fLawBookL : Addr} {odLawBookL anLawBookL : Option Addr} {slLawBookL : Array (Option Value)} {ocLawBookL kVLawBookL dcLawBookL pmLawBookL cdLawBookL ctLawBookL : Value} {fLawPlainActsL : Addr} {odLawPlainActsL anLawPlainActsL : Option Addr} {slLawPlainActsL : Array (Option Value)} {ocLawPlainActsL kVLawPlainActsL dcLawPlainActsL pmLawPlainActsL cdLawPlainActsL ctLawPlainActsL : Value} {fLawFirstL : Addr} {odLawFirstL anLawFirstL : Option Addr} {slLawFirstL : Array (Option Value)} {ocLawFirstL kVLawFirstL dcLawFirstL pmLawFirstL cdLawFirstL ctLawFirstL : Value} {fLawWriteL : Addr} {odLawWriteL anLawWriteL : Option Addr} {slLawWriteL : Array (Option Value)} {ocLawWriteL kVLawWriteL dcLawWriteL pmLawWriteL cdLawWriteL ctLawWriteL : Value} {fLawSeatBehindL : Addr} {odLawSeatBehindL anLawSeatBehindL : Option Addr} {slLawSeatBehindL : Array (Option Value)} {ocLawSeatBehindL kVLawSeatBehindL dcLawSeatBehindL pmLawSeatBehindL cdLawSeatBehindL ctLawSeatBehindL : Value} {fLawRoomFallenL : Addr} {odLawRoomFallenL anLawRoomFallenL : Option Addr} {slLawRoomFallenL : Array (Option Value)} {ocLawRoomFallenL kVLawRoomFallenL dcLawRoomFallenL pmLawRoomFallenL cdLawRoomFallenL ctLawRoomFallenL : Value} {fLawSaidL : Addr} {odLawSaidL anLawSaidL : Option Addr} {slLawSaidL : Array (Option Value)} {ocLawSaidL kVLawSaidL dcLawSaidL pmLawSaidL cdLawSaidL ctLawSaidL : Value} {fLawRoomBehindL : Addr} {odLawRoomBehindL anLawRoomBehindL : Option Addr} {slLawRoomBehindL : Array (Option Value)} {ocLawRoomBehindL kVLawRoomBehindL dcLawRoomBehindL pmLawRoomBehindL cdLawRoomBehindL ctLawRoomBehindL : Value} {fLawStandBehindL : Addr} {odLawStandBehindL anLawStandBehindL : Option Addr} {slLawStandBehindL : Array (Option Value)} {ocLawStandBehindL kVLawStandBehindL dcLawStandBehindL pmLawStandBehindL cdLawStandBehindL ctLawStandBehindL : Value} {fLawChairActsL : Addr} {odLawChairActsL anLawChairActsL : Option Addr} {slLawChairActsL : Array (Option Value)} {ocLawChairActsL kVLawChairActsL dcLawChairActsL pmLawChairActsL cdLawChairActsL ctLawChairActsL : Value} {fLawRoomActsL : Addr} {odLawRoomActsL anLawRoomActsL : Option Addr} {slLawRoomActsL : Array (Option Value)} {ocLawRoomActsL kVLawRoomActsL dcLawRoomActsL pmLawRoomActsL cdLawRoomActsL ctLawRoomActsL : Value} {fLawActsAtL : Addr} {odLawActsAtL anLawActsAtL : Option Addr} {slLawActsAtL : Array (Option Value)} {ocLawActsAtL kVLawActsAtL dcLawActsAtL pmLawActsAtL cdLawActsAtL ctLawActsAtL : Value} {fLawForcedByL : Addr} {odLawForcedByL anLawForcedByL : Option Addr} {slLawForcedByL : Array (Option Value)} {ocLawForcedByL kVLawForcedByL dcLawForcedByL pmLawForcedByL cdLawForcedByL ctLawForcedByL : Value} {fLawToldCostsL : Addr} {odLawToldCostsL anLawToldCostsL : Option Addr} {slLawToldCostsL : Array (Option Value)} {ocLawToldCostsL kVLawToldCostsL dcLawToldCostsL pmLawToldCostsL cdLawToldCostsL ctLawToldCostsL : Value} {fIsNumber : Addr} {odIsNumber anIsNumber : Option Addr} {slIsNumber : Array (Option Value)} {ocIsNumber kVIsNumber dcIsNumber pmIsNumber cdIsNumber ctIsNumber : Value} {fCheckCourse : Addr} {odCheckCourse anCheckCourse : Option Addr} {slCheckCourse : Array (Option Value)} {ocCheckCourse kVCheckCourse dcCheckCourse pmCheckCourse cdCheckCourse ctCheckCourse : Value} {fTimesWritten : Addr} {odTimesWritten anTimesWritten : Option Addr} {slTimesWritten : Array (Option Value)} {ocTimesWritten kVTimesWritten dcTimesWritten pmTimesWritten cdTimesWritten ctTimesWritten : Value} {fForcedWritings : Addr} {odForcedWritings anForcedWritings : Option Addr} {slForcedWritings : Array (Option Value)} {ocForcedWritings kVForcedWritings dcForcedWritings pmForcedWritings cdForcedWritings ctForcedWritings : Value} {fCosts : Addr} {odCosts anCosts : Option Addr} {slCosts : Array (Option Value)} {ocCosts kVCosts dcCosts pmCosts cdCosts ctCosts : Value} {fLaw : Addr} {odLaw anLaw : Option Addr} {slLaw : Array (Option Value)} {ocLaw kVLaw dcLaw pmLaw cdLaw ctLaw : Value} {CBadBook : Addr} {nmBadBook qBadBook fileBadBook : Str} {NBadBook fBadBook cdBadBook ccBadBook : Addr} {bsBadBook bmBadBook subBadBook : List Value} {snBadBook : List Str} {abBadBook : Bool} {colBadBook : Option Bool} {ddBadBook odBadBook anBadBook cddBadBook cldBadBook : Option Addr} {k0BadBook k1BadBook k2BadBook k3BadBook k5BadBook : Option Value} {ocBadBook kVBadBook dcBadBook pmBadBook ctBadBook cclBadBook clBadBook : Value} {slBadBook ccsBadBook cslBadBook : Array (Option Value)} {vsBadBook : Array Value} {tfBadBook : Tok} {CBk fInit tdInit tEmpty : Addr} {odInit anInit dDef : Option Addr} {ocInit kVInit dcInit pmInit cdInit ctInit cDef : Value} {slInit slDef : Array (Option Value)} {itDef : Array Value} {mDef : Nat} {tkDef : Tok} {tRECORDS : Addr} {dRECORDS : Option Addr} {itRECORDS : Array Value} {mRECORDS : Nat} {slRECORDS : Array (Option Value)} {tWORDS : Addr} {dWORDS : Option Addr} {itWORDS : Array Value} {mWORDS : Nat} {slWORDS : Array (Option Value)} {tOUTCOMES : Addr} {dOUTCOMES : Option Addr} {itOUTCOMES : Array Value} {mOUTCOMES : Nat} {slOUTCOMES : Array (Option Value)} {tPRESUMPTIONS : Addr} {dPRESUMPTIONS : Option Addr} {itPRESUMPTIONS : Array Value} {mPRESUMPTIONS : Nat} {slPRESUMPTIONS : Array (Option Value)} {tkMOST_HOUSES : Tok}
    (X : K.In h) (G : h.Ns mainGlobals mg) (hfa : mg "law" = some (.ref fa))
    (aCopied : PySem.W.nsIn K mainGlobals "copied" = some (some (.ref fCopied)))
    (lCopied : K.lookup fCopied = some ⟨ocCopied, odCopied, .func (PySem.W.fnOf "copied" "copied" (defArgs Co.sCopied) (defBody Co.sCopied) (defScope Co.sCopied) .none kVCopied dcCopied pmCopied anCopied cdCopied ctCopied), slCopied⟩)
    (cCopied : PySem.W.codeIn K cdCopied "copied" = true)
    (kCopied : PySem.W.keepIn K (.ref fCopied) = true)
    (aLawBegunL : PySem.W.nsIn K mainGlobals "_law_begun" = some (some (.ref fLawBegunL)))
    (lLawBegunL : K.lookup fLawBegunL = some ⟨ocLawBegunL, odLawBegunL, .func (PySem.W.fnOf "_law_begun" "_law_begun" (defArgs Draw.sBegun) (defBody Draw.sBegun) (defScope Draw.sBegun) .none kVLawBegunL dcLawBegunL pmLawBegunL anLawBegunL cdLawBegunL ctLawBegunL), slLawBegunL⟩)
    (cLawBegunL : PySem.W.codeIn K cdLawBegunL "_law_begun" = true)
    (kLawBegunL : PySem.W.keepIn K (.ref fLawBegunL) = true)
    (aLawMixedL : PySem.W.nsIn K mainGlobals "_law_mixed" = some (some (.ref fLawMixedL)))
    (lLawMixedL : K.lookup fLawMixedL = some ⟨ocLawMixedL, odLawMixedL, .func (PySem.W.fnOf "_law_mixed" "_law_mixed" (defArgs Draw.sMixed) (defBody Draw.sMixed) (defScope Draw.sMixed) .none kVLawMixedL dcLawMixedL pmLawMixedL anLawMixedL cdLawMixedL ctLawMixedL), slLawMixedL⟩)
    (cLawMixedL : PySem.W.codeIn K cdLawMixedL "_law_mixed" = true)
    (kLawMixedL : PySem.W.keepIn K (.ref fLawMixedL) = true)
    (aLawTakeL : PySem.W.nsIn K mainGlobals "_law_take" = some (some (.ref fLawTakeL)))
    (lLawTakeL : K.lookup fLawTakeL = some ⟨ocLawTakeL, odLawTakeL, .func (PySem.W.fnOf "_law_take" "_law_take" (defArgs Draw.sTake) (defBody Draw.sTake) (defScope Draw.sTake) .none kVLawTakeL dcLawTakeL pmLawTakeL anLawTakeL cdLawTakeL ctLawTakeL), slLawTakeL⟩)
    (cLawTakeL : PySem.W.codeIn K cdLawTakeL "_law_take" = true)
    (kLawTakeL : PySem.W.keepIn K (.ref fLawTakeL) = true)
    (aLawPickL : PySem.W.nsIn K mainGlobals "_law_pick" = some (some (.ref fLawPickL)))
    (lLawPickL : K.lookup fLawPickL = some ⟨ocLawPickL, odLawPickL, .func (PySem.W.fnOf "_law_pick" "_law_pick" (defArgs Draw.sPick) (defBody Draw.sPick) (defScope Draw.sPick) .none kVLawPickL dcLawPickL pmLawPickL anLawPickL cdLawPickL ctLawPickL), slLawPickL⟩)
    (cLawPickL : PySem.W.codeIn K cdLawPickL "_law_pick" = true)
    (kLawPickL : PySem.W.keepIn K (.ref fLawPickL) = true)
    (aIsList : PySem.W.nsIn K mainGlobals "is_list" = some (some (.ref fIsList)))
    (lIsList : K.lookup fIsList = some ⟨ocIsList, odIsList, .func (PySem.W.fnOf "is_list" "is_list" (defArgs Ki.sIsList) (defBody Ki.sIsList) (defScope Ki.sIsList) .none kVIsList dcIsList pmIsList anIsList cdIsList ctIsList), slIsList⟩)
    (cIsList : PySem.W.codeIn K cdIsList "is_list" = true)
    (kIsList : PySem.W.keepIn K (.ref fIsList) = true)
    (aFirstUnfit : PySem.W.nsIn K mainGlobals "first_unfit" = some (some (.ref fFirstUnfit)))
    (lFirstUnfit : K.lookup fFirstUnfit = some ⟨ocFirstUnfit, odFirstUnfit, .func (PySem.W.fnOf "first_unfit" "first_unfit" (defArgs Ki.sUnfit) (defBody Ki.sUnfit) (defScope Ki.sUnfit) .none kVFirstUnfit dcFirstUnfit pmFirstUnfit anFirstUnfit cdFirstUnfit ctFirstUnfit), slFirstUnfit⟩)
    (cFirstUnfit : PySem.W.codeIn K cdFirstUnfit "first_unfit" = true)
    (kFirstUnfit : PySem.W.keepIn K (.ref fFirstUnfit) = true)
    (aWrongPart : PySem.W.nsIn K mainGlobals "wrong_part" = some (some (.ref fWrongPart)))
    (lWrongPart : K.lookup fWrongPart = some ⟨ocWrongPart, odWrongPart, .func (PySem.W.fnOf "wrong_part" "wrong_part" (defArgs Bk.sWrong) (defBody Bk.sWrong) (defScope Bk.sWrong) .none kVWrongPart dcWrongPart pmWrongPart anWrongPart cdWrongPart ctWrongPart), slWrongPart⟩)
    (cWrongPart : PySem.W.codeIn K cdWrongPart "wrong_part" = true)
    (kWrongPart : PySem.W.keepIn K (.ref fWrongPart) = true)
    (aLawShuffledL : PySem.W.nsIn K mainGlobals "_law_shuffled" = some (some (.ref fLawShuffledL)))
    (lLawShuffledL : K.lookup fLawShuffledL = some ⟨ocLawShuffledL, odLawShuffledL, .func (PySem.W.fnOf "_law_shuffled" "_law_shuffled" (defArgs Sf.sShuf) (defBody Sf.sShuf) (defScope Sf.sShuf) .none kVLawShuffledL dcLawShuffledL pmLawShuffledL anLawShuffledL cdLawShuffledL ctLawShuffledL), slLawShuffledL⟩)
    (cLawShuffledL : PySem.W.codeIn K cdLawShuffledL "_law_shuffled" = true)
    (kLawShuffledL : PySem.W.keepIn K (.ref fLawShuffledL) = true)
    (aLawKnownSheetL : PySem.W.nsIn K mainGlobals "_law_known_sheet" = some (some (.ref fLawKnownSheetL)))
    (lLawKnownSheetL : K.lookup fLawKnownSheetL = some ⟨ocLawKnownSheetL, odLawKnownSheetL, .func (PySem.W.fnOf "_law_known_sheet" "_law_known_sheet" (defArgs Sh2.sKnown) (defBody Sh2.sKnown) (defScope Sh2.sKnown) .none kVLawKnownSheetL dcLawKnownSheetL pmLawKnownSheetL anLawKnownSheetL cdLawKnownSheetL ctLawKnownSheetL), slLawKnownSheetL⟩)
    (cLawKnownSheetL : PySem.W.codeIn K cdLawKnownSheetL "_law_known_sheet" = true)
    (kLawKnownSheetL : PySem.W.keepIn K (.ref fLawKnownSheetL) = true)
    (aLawSheetL : PySem.W.nsIn K mainGlobals "_law_sheet" = some (some (.ref fLawSheetL)))
    (lLawSheetL : K.lookup fLawSheetL = some ⟨ocLawSheetL, odLawSheetL, .func (PySem.W.fnOf "_law_sheet" "_law_sheet" (defArgs Sh2.sSheet) (defBody Sh2.sSheet) (defScope Sh2.sSheet) .none kVLawSheetL dcLawSheetL pmLawSheetL anLawSheetL cdLawSheetL ctLawSheetL), slLawSheetL⟩)
    (cLawSheetL : PySem.W.codeIn K cdLawSheetL "_law_sheet" = true)
    (kLawSheetL : PySem.W.keepIn K (.ref fLawSheetL) = true)
    (aLawNotesL : PySem.W.nsIn K mainGlobals "_law_notes" = some (some (.ref fLawNotesL)))
    (lLawNotesL : K.lookup fLawNotesL = some ⟨ocLawNotesL, odLawNotesL, .func (PySem.W.fnOf "_law_notes" "_law_notes" (defArgs Sh2.sNotes) (defBody Sh2.sNotes) (defScope Sh2.sNotes) .none kVLawNotesL dcLawNotesL pmLawNotesL anLawNotesL cdLawNotesL ctLawNotesL), slLawNotesL⟩)
    (cLawNotesL : PySem.W.codeIn K cdLawNotesL "_law_notes" = true)
    (kLawNotesL : PySem.W.keepIn K (.ref fLawNotesL) = true)
    (aLawBookL : PySem.W.nsIn K mainGlobals "_law_book" = some (some (.ref fLawBookL)))
    (lLawBookL : K.lookup fLawBookL = some ⟨ocLawBookL, odLawBookL, .func (PySem.W.fnOf "_law_book" "_law_book" (defArgs s__law_book) (defBody s__law_book) (defScope s__law_book) .none kVLawBookL dcLawBookL pmLawBookL anLawBookL cdLawBookL ctLawBookL), slLawBookL⟩)
    (cLawBookL : PySem.W.codeIn K cdLawBookL "_law_book" = true)
    (kLawBookL : PySem.W.keepIn K (.ref fLawBookL) = true)
    (aLawPlainActsL : PySem.W.nsIn K mainGlobals "_law_plain_acts" = some (some (.ref fLawPlainActsL)))
    (lLawPlainActsL : K.lookup fLawPlainActsL = some ⟨ocLawPlainActsL, odLawPlainActsL, .func (PySem.W.fnOf "_law_plain_acts" "_law_plain_acts" (defArgs s__law_plain_acts) (defBody s__law_plain_acts) (defScope s__law_plain_acts) .none kVLawPlainActsL dcLawPlainActsL pmLawPlainActsL anLawPlainActsL cdLawPlainActsL ctLawPlainActsL), slLawPlainActsL⟩)
    (cLawPlainActsL : PySem.W.codeIn K cdLawPlainActsL "_law_plain_acts" = true)
    (kLawPlainActsL : PySem.W.keepIn K (.ref fLawPlainActsL) = true)
    (aLawFirstL : PySem.W.nsIn K mainGlobals "_law_first" = some (some (.ref fLawFirstL)))
    (lLawFirstL : K.lookup fLawFirstL = some ⟨ocLawFirstL, odLawFirstL, .func (PySem.W.fnOf "_law_first" "_law_first" (defArgs s__law_first) (defBody s__law_first) (defScope s__law_first) .none kVLawFirstL dcLawFirstL pmLawFirstL anLawFirstL cdLawFirstL ctLawFirstL), slLawFirstL⟩)
    (cLawFirstL : PySem.W.codeIn K cdLawFirstL "_law_first" = true)
    (kLawFirstL : PySem.W.keepIn K (.ref fLawFirstL) = true)
    (aLawWriteL : PySem.W.nsIn K mainGlobals "_law_write" = some (some (.ref fLawWriteL)))
    (lLawWriteL : K.lookup fLawWriteL = some ⟨ocLawWriteL, odLawWriteL, .func (PySem.W.fnOf "_law_write" "_law_write" (defArgs s__law_write) (defBody s__law_write) (defScope s__law_write) .none kVLawWriteL dcLawWriteL pmLawWriteL anLawWriteL cdLawWriteL ctLawWriteL), slLawWriteL⟩)
    (cLawWriteL : PySem.W.codeIn K cdLawWriteL "_law_write" = true)
    (kLawWriteL : PySem.W.keepIn K (.ref fLawWriteL) = true)
    (aLawSeatBehindL : PySem.W.nsIn K mainGlobals "_law_seat_behind" = some (some (.ref fLawSeatBehindL)))
    (lLawSeatBehindL : K.lookup fLawSeatBehindL = some ⟨ocLawSeatBehindL, odLawSeatBehindL, .func (PySem.W.fnOf "_law_seat_behind" "_law_seat_behind" (defArgs s__law_seat_behind) (defBody s__law_seat_behind) (defScope s__law_seat_behind) .none kVLawSeatBehindL dcLawSeatBehindL pmLawSeatBehindL anLawSeatBehindL cdLawSeatBehindL ctLawSeatBehindL), slLawSeatBehindL⟩)
    (cLawSeatBehindL : PySem.W.codeIn K cdLawSeatBehindL "_law_seat_behind" = true)
    (kLawSeatBehindL : PySem.W.keepIn K (.ref fLawSeatBehindL) = true)
    (aLawRoomFallenL : PySem.W.nsIn K mainGlobals "_law_room_fallen" = some (some (.ref fLawRoomFallenL)))
    (lLawRoomFallenL : K.lookup fLawRoomFallenL = some ⟨ocLawRoomFallenL, odLawRoomFallenL, .func (PySem.W.fnOf "_law_room_fallen" "_law_room_fallen" (defArgs s__law_room_fallen) (defBody s__law_room_fallen) (defScope s__law_room_fallen) .none kVLawRoomFallenL dcLawRoomFallenL pmLawRoomFallenL anLawRoomFallenL cdLawRoomFallenL ctLawRoomFallenL), slLawRoomFallenL⟩)
    (cLawRoomFallenL : PySem.W.codeIn K cdLawRoomFallenL "_law_room_fallen" = true)
    (kLawRoomFallenL : PySem.W.keepIn K (.ref fLawRoomFallenL) = true)
    (aLawSaidL : PySem.W.nsIn K mainGlobals "_law_said" = some (some (.ref fLawSaidL)))
    (lLawSaidL : K.lookup fLawSaidL = some ⟨ocLawSaidL, odLawSaidL, .func (PySem.W.fnOf "_law_said" "_law_said" (defArgs s__law_said) (defBody s__law_said) (defScope s__law_said) .none kVLawSaidL dcLawSaidL pmLawSaidL anLawSaidL cdLawSaidL ctLawSaidL), slLawSaidL⟩)
    (cLawSaidL : PySem.W.codeIn K cdLawSaidL "_law_said" = true)
    (kLawSaidL : PySem.W.keepIn K (.ref fLawSaidL) = true)
    (aLawRoomBehindL : PySem.W.nsIn K mainGlobals "_law_room_behind" = some (some (.ref fLawRoomBehindL)))
    (lLawRoomBehindL : K.lookup fLawRoomBehindL = some ⟨ocLawRoomBehindL, odLawRoomBehindL, .func (PySem.W.fnOf "_law_room_behind" "_law_room_behind" (defArgs s__law_room_behind) (defBody s__law_room_behind) (defScope s__law_room_behind) .none kVLawRoomBehindL dcLawRoomBehindL pmLawRoomBehindL anLawRoomBehindL cdLawRoomBehindL ctLawRoomBehindL), slLawRoomBehindL⟩)
    (cLawRoomBehindL : PySem.W.codeIn K cdLawRoomBehindL "_law_room_behind" = true)
    (kLawRoomBehindL : PySem.W.keepIn K (.ref fLawRoomBehindL) = true)
    (aLawStandBehindL : PySem.W.nsIn K mainGlobals "_law_stand_behind" = some (some (.ref fLawStandBehindL)))
    (lLawStandBehindL : K.lookup fLawStandBehindL = some ⟨ocLawStandBehindL, odLawStandBehindL, .func (PySem.W.fnOf "_law_stand_behind" "_law_stand_behind" (defArgs s__law_stand_behind) (defBody s__law_stand_behind) (defScope s__law_stand_behind) .none kVLawStandBehindL dcLawStandBehindL pmLawStandBehindL anLawStandBehindL cdLawStandBehindL ctLawStandBehindL), slLawStandBehindL⟩)
    (cLawStandBehindL : PySem.W.codeIn K cdLawStandBehindL "_law_stand_behind" = true)
    (kLawStandBehindL : PySem.W.keepIn K (.ref fLawStandBehindL) = true)
    (aLawChairActsL : PySem.W.nsIn K mainGlobals "_law_chair_acts" = some (some (.ref fLawChairActsL)))
    (lLawChairActsL : K.lookup fLawChairActsL = some ⟨ocLawChairActsL, odLawChairActsL, .func (PySem.W.fnOf "_law_chair_acts" "_law_chair_acts" (defArgs s__law_chair_acts) (defBody s__law_chair_acts) (defScope s__law_chair_acts) .none kVLawChairActsL dcLawChairActsL pmLawChairActsL anLawChairActsL cdLawChairActsL ctLawChairActsL), slLawChairActsL⟩)
    (cLawChairActsL : PySem.W.codeIn K cdLawChairActsL "_law_chair_acts" = true)
    (kLawChairActsL : PySem.W.keepIn K (.ref fLawChairActsL) = true)
    (aLawRoomActsL : PySem.W.nsIn K mainGlobals "_law_room_acts" = some (some (.ref fLawRoomActsL)))
    (lLawRoomActsL : K.lookup fLawRoomActsL = some ⟨ocLawRoomActsL, odLawRoomActsL, .func (PySem.W.fnOf "_law_room_acts" "_law_room_acts" (defArgs s__law_room_acts) (defBody s__law_room_acts) (defScope s__law_room_acts) .none kVLawRoomActsL dcLawRoomActsL pmLawRoomActsL anLawRoomActsL cdLawRoomActsL ctLawRoomActsL), slLawRoomActsL⟩)
    (cLawRoomActsL : PySem.W.codeIn K cdLawRoomActsL "_law_room_acts" = true)
    (kLawRoomActsL : PySem.W.keepIn K (.ref fLawRoomActsL) = true)
    (aLawActsAtL : PySem.W.nsIn K mainGlobals "_law_acts_at" = some (some (.ref fLawActsAtL)))
    (lLawActsAtL : K.lookup fLawActsAtL = some ⟨ocLawActsAtL, odLawActsAtL, .func (PySem.W.fnOf "_law_acts_at" "_law_acts_at" (defArgs s__law_acts_at) (defBody s__law_acts_at) (defScope s__law_acts_at) .none kVLawActsAtL dcLawActsAtL pmLawActsAtL anLawActsAtL cdLawActsAtL ctLawActsAtL), slLawActsAtL⟩)
    (cLawActsAtL : PySem.W.codeIn K cdLawActsAtL "_law_acts_at" = true)
    (kLawActsAtL : PySem.W.keepIn K (.ref fLawActsAtL) = true)
    (aLawForcedByL : PySem.W.nsIn K mainGlobals "_law_forced_by" = some (some (.ref fLawForcedByL)))
    (lLawForcedByL : K.lookup fLawForcedByL = some ⟨ocLawForcedByL, odLawForcedByL, .func (PySem.W.fnOf "_law_forced_by" "_law_forced_by" (defArgs s__law_forced_by) (defBody s__law_forced_by) (defScope s__law_forced_by) .none kVLawForcedByL dcLawForcedByL pmLawForcedByL anLawForcedByL cdLawForcedByL ctLawForcedByL), slLawForcedByL⟩)
    (cLawForcedByL : PySem.W.codeIn K cdLawForcedByL "_law_forced_by" = true)
    (kLawForcedByL : PySem.W.keepIn K (.ref fLawForcedByL) = true)
    (aLawToldCostsL : PySem.W.nsIn K mainGlobals "_law_told_costs" = some (some (.ref fLawToldCostsL)))
    (lLawToldCostsL : K.lookup fLawToldCostsL = some ⟨ocLawToldCostsL, odLawToldCostsL, .func (PySem.W.fnOf "_law_told_costs" "_law_told_costs" (defArgs s__law_told_costs) (defBody s__law_told_costs) (defScope s__law_told_costs) .none kVLawToldCostsL dcLawToldCostsL pmLawToldCostsL anLawToldCostsL cdLawToldCostsL ctLawToldCostsL), slLawToldCostsL⟩)
    (cLawToldCostsL : PySem.W.codeIn K cdLawToldCostsL "_law_told_costs" = true)
    (kLawToldCostsL : PySem.W.keepIn K (.ref fLawToldCostsL) = true)
    (aIsNumber : PySem.W.nsIn K mainGlobals "is_number" = some (some (.ref fIsNumber)))
    (lIsNumber : K.lookup fIsNumber = some ⟨ocIsNumber, odIsNumber, .func (PySem.W.fnOf "is_number" "is_number" (defArgs s_is_number) (defBody s_is_number) (defScope s_is_number) .none kVIsNumber dcIsNumber pmIsNumber anIsNumber cdIsNumber ctIsNumber), slIsNumber⟩)
    (cIsNumber : PySem.W.codeIn K cdIsNumber "is_number" = true)
    (kIsNumber : PySem.W.keepIn K (.ref fIsNumber) = true)
    (aCheckCourse : PySem.W.nsIn K mainGlobals "check_course" = some (some (.ref fCheckCourse)))
    (lCheckCourse : K.lookup fCheckCourse = some ⟨ocCheckCourse, odCheckCourse, .func (PySem.W.fnOf "check_course" "check_course" (defArgs s_check_course) (defBody s_check_course) (defScope s_check_course) .none kVCheckCourse dcCheckCourse pmCheckCourse anCheckCourse cdCheckCourse ctCheckCourse), slCheckCourse⟩)
    (cCheckCourse : PySem.W.codeIn K cdCheckCourse "check_course" = true)
    (kCheckCourse : PySem.W.keepIn K (.ref fCheckCourse) = true)
    (aTimesWritten : PySem.W.nsIn K mainGlobals "times_written" = some (some (.ref fTimesWritten)))
    (lTimesWritten : K.lookup fTimesWritten = some ⟨ocTimesWritten, odTimesWritten, .func (PySem.W.fnOf "times_written" "times_written" (defArgs s_times_written) (defBody s_times_written) (defScope s_times_written) .none kVTimesWritten dcTimesWritten pmTimesWritten anTimesWritten cdTimesWritten ctTimesWritten), slTimesWritten⟩)
    (cTimesWritten : PySem.W.codeIn K cdTimesWritten "times_written" = true)
    (kTimesWritten : PySem.W.keepIn K (.ref fTimesWritten) = true)
    (aForcedWritings : PySem.W.nsIn K mainGlobals "forced_writings" = some (some (.ref fForcedWritings)))
    (lForcedWritings : K.lookup fForcedWritings = some ⟨ocForcedWritings, odForcedWritings, .func (PySem.W.fnOf "forced_writings" "forced_writings" (defArgs s_forced_writings) (defBody s_forced_writings) (defScope s_forced_writings) .none kVForcedWritings dcForcedWritings pmForcedWritings anForcedWritings cdForcedWritings ctForcedWritings), slForcedWritings⟩)
    (cForcedWritings : PySem.W.codeIn K cdForcedWritings "forced_writings" = true)
    (kForcedWritings : PySem.W.keepIn K (.ref fForcedWritings) = true)
    (aCosts : PySem.W.nsIn K mainGlobals "costs" = some (some (.ref fCosts)))
    (lCosts : K.lookup fCosts = some ⟨ocCosts, odCosts, .func (PySem.W.fnOf "costs" "costs" (defArgs s_costs) (defBody s_costs) (defScope s_costs) .none kVCosts dcCosts pmCosts anCosts cdCosts ctCosts), slCosts⟩)
    (cCosts : PySem.W.codeIn K cdCosts "costs" = true)
    (kCosts : PySem.W.keepIn K (.ref fCosts) = true)
    (aLaw : PySem.W.nsIn K mainGlobals "law" = some (some (.ref fLaw)))
    (lLaw : K.lookup fLaw = some ⟨ocLaw, odLaw, .func (PySem.W.fnOf "law" "law" (defArgs s_law) (defBody s_law) (defScope s_law) .none kVLaw dcLaw pmLaw anLaw cdLaw ctLaw), slLaw⟩)
    (cLaw : PySem.W.codeIn K cdLaw "law" = true)
    (kLaw : PySem.W.keepIn K (.ref fLaw) = true)
    (aBadBook : PySem.W.nsIn K mainGlobals "BadBook" = some (some (.ref CBadBook)))
    (xBadBook : K.lookup CBadBook = some (excClassObj nmBadBook qBadBook CBadBook NBadBook bsBadBook bmBadBook true snBadBook subBadBook abBadBook colBadBook ddBadBook k0BadBook k1BadBook k2BadBook k3BadBook k5BadBook "ValueError.__new__"))
    (rBadBook : PySem.HandSPX.refsVE bmBadBook = true)
    (iBadBookI : PySem.W.findIn K (.ref CBadBook) "__init__" = some (some (.ref fBadBook)))
    (lBadBook : K.lookup fBadBook = some ⟨ocBadBook, odBadBook, .func (PySem.W.fnX "__init__" "BadBook.__init__" (defArgs iBadBook) (defBody iBadBook) (defScope iBadBook) [("__class__", ccBadBook)] .none kVBadBook dcBadBook pmBadBook anBadBook (.ref cdBadBook) ctBadBook), slBadBook⟩)
    (cBadBook : PySem.W.codeIn K (.ref cdBadBook) "BadBook.__init__" = true)
    (hBadBook : K.lookup cdBadBook = some ⟨cclBadBook, cddBadBook, .fields vsBadBook, ccsBadBook⟩)
    (vBadBook : vsBadBook[2]? = some (.str fileBadBook tfBadBook))
    (mBadBook : ((P.main.file : Str) == fileBadBook) = true)
    (eBadBook : K.lookup ccBadBook = some ⟨clBadBook, cldBadBook, .cell (some (.ref CBadBook)), cslBadBook⟩)
    (oBadBook : owB K CBadBook fBadBook "part" = true)
    (ecbBadBook : ecB K CBadBook = true)
    (aBook : PySem.W.nsIn K mainGlobals "Book" = some (some (.ref CBk)))
    (iBook : PySem.W.findIn K (.ref CBk) "__init__" = some (some (.ref fInit)))
    (lInit : K.lookup fInit = some ⟨ocInit, odInit, .func (PySem.W.fnOf "__init__" "Book.__init__" (defArgs Bi.sInit) (defBody Bi.sInit) (defScope Bi.sInit) (.ref tdInit) kVInit dcInit pmInit anInit cdInit ctInit), slInit⟩)
    (cInit : PySem.W.codeIn K cdInit "Book.__init__" = true)
    (kInit : PySem.W.keepIn K (.ref fInit) = true)
    (lDef : K.lookup tdInit = some ⟨cDef, dDef, .seq itDef mDef, slDef⟩)
    (vDef : itDef.toList = [.ref tEmpty, .str "no" tkDef])
    (bBook : bookB K CBk fInit = true)
    (gRECORDS : PySem.W.nsIn K mainGlobals "RECORDS" = some (some (.ref tRECORDS)))
    (lRECORDS : K.lookup tRECORDS = some ⟨.type "tuple", dRECORDS, .seq itRECORDS mRECORDS, slRECORDS⟩)
    (vRECORDS : Vals ([.str "begin", .str "yes", .str "no", .str "ready", .str "agreed", .str "refused"] : List V) itRECORDS.toList)
    (zRECORDSS : decide (itRECORDS.size ≤ sizeLine) = true)
    (gWORDS : PySem.W.nsIn K mainGlobals "WORDS" = some (some (.ref tWORDS)))
    (lWORDS : K.lookup tWORDS = some ⟨.type "tuple", dWORDS, .seq itWORDS mWORDS, slWORDS⟩)
    (vWORDS : Vals ([.str "none", .str "lazy", .str "forced"] : List V) itWORDS.toList)
    (zWORDSS : decide (itWORDS.size ≤ sizeLine) = true)
    (gOUTCOMES : PySem.W.nsIn K mainGlobals "OUTCOMES" = some (some (.ref tOUTCOMES)))
    (lOUTCOMES : K.lookup tOUTCOMES = some ⟨.type "tuple", dOUTCOMES, .seq itOUTCOMES mOUTCOMES, slOUTCOMES⟩)
    (vOUTCOMES : Vals ([.str "no", .str "yes"] : List V) itOUTCOMES.toList)
    (zOUTCOMESS : decide (itOUTCOMES.size ≤ sizeLine) = true)
    (gPRESUMPTIONS : PySem.W.nsIn K mainGlobals "PRESUMPTIONS" = some (some (.ref tPRESUMPTIONS)))
    (lPRESUMPTIONS : K.lookup tPRESUMPTIONS = some ⟨.type "tuple", dPRESUMPTIONS, .seq itPRESUMPTIONS mPRESUMPTIONS, slPRESUMPTIONS⟩)
    (vPRESUMPTIONS : Vals ([.str "no", .str "wait", .str "yes"] : List V) itPRESUMPTIONS.toList)
    (zPRESUMPTIONSS : decide (itPRESUMPTIONS.size ≤ sizeLine) = true)
    (gMOST_HOUSES : PySem.W.nsIn K mainGlobals "MOST_HOUSES" = some (some (.int 100 tkMOST_HOUSES)))
    (zabs : PySem.W.nsIn K mainGlobals "abs" = some none)
    (zbool : PySem.W.nsIn K mainGlobals "bool" = some none)
    (zdict : PySem.W.nsIn K mainGlobals "dict" = some none)
    (zenumerate : PySem.W.nsIn K mainGlobals "enumerate" = some none)
    (zint : PySem.W.nsIn K mainGlobals "int" = some none)
    (zisinstance : PySem.W.nsIn K mainGlobals "isinstance" = some none)
    (zlen : PySem.W.nsIn K mainGlobals "len" = some none)
    (zlist : PySem.W.nsIn K mainGlobals "list" = some none)
    (zmin : PySem.W.nsIn K mainGlobals "min" = some none)
    (zrange : PySem.W.nsIn K mainGlobals "range" = some none)
    (zrepr : PySem.W.nsIn K mainGlobals "repr" = some none)
    (zsorted : PySem.W.nsIn K mainGlobals "sorted" = some none)
    (zsum : PySem.W.nsIn K mainGlobals "sum" = some none)
    (zsuper : PySem.W.nsIn K mainGlobals "super" = some none)
    (ztuple : PySem.W.nsIn K mainGlobals "tuple" = some none)
    (hn : PySem.W.specialIn K (.builtin "object.__class__") "__get__" = some (some (.builtin "getset_descriptor.__get__")))
    (ht : PySem.W.takesIn K (.builtin "object.__class__") = some true)
    (hp : PySem.W.nsIn K PySem.cStatics "thirdparty.any" = some none)
    (hs : (P.main.scope.names.lookup ("super" : Str)).isSome = false)
    : ∃ fd : FuncData, (∀ (s : Shared) (u : Value), BindsTo s fd ⟨[u], []⟩ [("script", u)]) ∧ ∀ base : Heap, K.In base → base.Ns mainGlobals mg → Gd.FnG P w K mg base CX0 10 fa fd ["script"] (Db.spLaw K) := by
  have e := hfa.symm.trans (PySem.W.mg_of X G aLaw)
  cases e
  have R : Root P K := ⟨hn, ht, hp, hs⟩
  have nabs := PySem.W.mg_none_of X G zabs
  have nbool := PySem.W.mg_none_of X G zbool
  have ndict := PySem.W.mg_none_of X G zdict
  have nenumerate := PySem.W.mg_none_of X G zenumerate
  have nint := PySem.W.mg_none_of X G zint
  have nisinstance := PySem.W.mg_none_of X G zisinstance
  have nlen := PySem.W.mg_none_of X G zlen
  have nlist := PySem.W.mg_none_of X G zlist
  have nmin := PySem.W.mg_none_of X G zmin
  have nrange := PySem.W.mg_none_of X G zrange
  have nrepr := PySem.W.mg_none_of X G zrepr
  have nsorted := PySem.W.mg_none_of X G zsorted
  have nsum := PySem.W.mg_none_of X G zsum
  have nsuper := PySem.W.mg_none_of X G zsuper
  have ntuple := PySem.W.mg_none_of X G ztuple
  have gCopied := PySem.W.mg_of X G aCopied
  have FCopied := fun_mk (st := Co.sCopied) lCopied cCopied kCopied
  have bCopied := FCopied.binds (ps := ["value"]) fun _ _ _ _ _ _ us hl => match us, hl with | [_], _ => rfl
  have gLawBegunL := PySem.W.mg_of X G aLawBegunL
  have FLawBegunL := fun_mk (st := Draw.sBegun) lLawBegunL cLawBegunL kLawBegunL
  have bLawBegunL := FLawBegunL.binds (ps := ["script"]) fun _ _ _ _ _ _ us hl => match us, hl with | [_], _ => rfl
  have gLawMixedL := PySem.W.mg_of X G aLawMixedL
  have FLawMixedL := fun_mk (st := Draw.sMixed) lLawMixedL cLawMixedL kLawMixedL
  have bLawMixedL := FLawMixedL.binds (ps := ["draw"]) fun _ _ _ _ _ _ us hl => match us, hl with | [_], _ => rfl
  have gLawTakeL := PySem.W.mg_of X G aLawTakeL
  have FLawTakeL := fun_mk (st := Draw.sTake) lLawTakeL cLawTakeL kLawTakeL
  have bLawTakeL := FLawTakeL.binds (ps := ["draw", "size"]) fun _ _ _ _ _ _ us hl => match us, hl with | [_, _], _ => rfl
  have gLawPickL := PySem.W.mg_of X G aLawPickL
  have FLawPickL := fun_mk (st := Draw.sPick) lLawPickL cLawPickL kLawPickL
  have bLawPickL := FLawPickL.binds (ps := ["draw", "some"]) fun _ _ _ _ _ _ us hl => match us, hl with | [_, _], _ => rfl
  have gIsList := PySem.W.mg_of X G aIsList
  have FIsList := fun_mk (st := Ki.sIsList) lIsList cIsList kIsList
  have bIsList := FIsList.binds (ps := ["thing"]) fun _ _ _ _ _ _ us hl => match us, hl with | [_], _ => rfl
  have gFirstUnfit := PySem.W.mg_of X G aFirstUnfit
  have FFirstUnfit := fun_mk (st := Ki.sUnfit) lFirstUnfit cFirstUnfit kFirstUnfit
  have bFirstUnfit := FFirstUnfit.binds (ps := ["items", "choices"]) fun _ _ _ _ _ _ us hl => match us, hl with | [_, _], _ => rfl
  have gWrongPart := PySem.W.mg_of X G aWrongPart
  have FWrongPart := fun_mk (st := Bk.sWrong) lWrongPart cWrongPart kWrongPart
  have bWrongPart := FWrongPart.binds (ps := ["words", "answers", "presume"]) fun _ _ _ _ _ _ us hl => match us, hl with | [_, _, _], _ => rfl
  have gLawShuffledL := PySem.W.mg_of X G aLawShuffledL
  have FLawShuffledL := fun_mk (st := Sf.sShuf) lLawShuffledL cLawShuffledL kLawShuffledL
  have bLawShuffledL := FLawShuffledL.binds (ps := ["draw", "some"]) fun _ _ _ _ _ _ us hl => match us, hl with | [_, _], _ => rfl
  have gLawKnownSheetL := PySem.W.mg_of X G aLawKnownSheetL
  have FLawKnownSheetL := fun_mk (st := Sh2.sKnown) lLawKnownSheetL cLawKnownSheetL kLawKnownSheetL
  have bLawKnownSheetL := FLawKnownSheetL.binds (ps := ["draw"]) fun _ _ _ _ _ _ us hl => match us, hl with | [_], _ => rfl
  have gLawSheetL := PySem.W.mg_of X G aLawSheetL
  have FLawSheetL := fun_mk (st := Sh2.sSheet) lLawSheetL cLawSheetL kLawSheetL
  have bLawSheetL := FLawSheetL.binds (ps := ["draw", "lazies"]) fun _ _ _ _ _ _ us hl => match us, hl with | [_, _], _ => rfl
  have gLawNotesL := PySem.W.mg_of X G aLawNotesL
  have FLawNotesL := fun_mk (st := Sh2.sNotes) lLawNotesL cLawNotesL kLawNotesL
  have bLawNotesL := FLawNotesL.binds (ps := []) fun _ _ _ _ _ _ us hl => match us, hl with | [], _ => rfl
  have gLawBookL := PySem.W.mg_of X G aLawBookL
  have FLawBookL := fun_mk (st := s__law_book) lLawBookL cLawBookL kLawBookL
  have bLawBookL := FLawBookL.binds (ps := ["sheet"]) fun _ _ _ _ _ _ us hl => match us, hl with | [_], _ => rfl
  have gLawPlainActsL := PySem.W.mg_of X G aLawPlainActsL
  have FLawPlainActsL := fun_mk (st := s__law_plain_acts) lLawPlainActsL cLawPlainActsL kLawPlainActsL
  have bLawPlainActsL := FLawPlainActsL.binds (ps := ["sheet", "said", "many"]) fun _ _ _ _ _ _ us hl => match us, hl with | [_, _, _], _ => rfl
  have gLawFirstL := PySem.W.mg_of X G aLawFirstL
  have FLawFirstL := fun_mk (st := s__law_first) lLawFirstL cLawFirstL kLawFirstL
  have bLawFirstL := FLawFirstL.binds (ps := ["many"]) fun _ _ _ _ _ _ us hl => match us, hl with | [_], _ => rfl
  have gLawWriteL := PySem.W.mg_of X G aLawWriteL
  have FLawWriteL := fun_mk (st := s__law_write) lLawWriteL cLawWriteL kLawWriteL
  have bLawWriteL := FLawWriteL.binds (ps := ["sheet", "tape", "note"]) fun _ _ _ _ _ _ us hl => match us, hl with | [_, _, _], _ => rfl
  have gLawSeatBehindL := PySem.W.mg_of X G aLawSeatBehindL
  have FLawSeatBehindL := fun_mk (st := s__law_seat_behind) lLawSeatBehindL cLawSeatBehindL kLawSeatBehindL
  have bLawSeatBehindL := FLawSeatBehindL.binds (ps := ["sheet", "seat", "act"]) fun _ _ _ _ _ _ us hl => match us, hl with | [_, _, _], _ => rfl
  have gLawRoomFallenL := PySem.W.mg_of X G aLawRoomFallenL
  have FLawRoomFallenL := fun_mk (st := s__law_room_fallen) lLawRoomFallenL cLawRoomFallenL kLawRoomFallenL
  have bLawRoomFallenL := FLawRoomFallenL.binds (ps := ["room", "left"]) fun _ _ _ _ _ _ us hl => match us, hl with | [_, _], _ => rfl
  have gLawSaidL := PySem.W.mg_of X G aLawSaidL
  have FLawSaidL := fun_mk (st := s__law_said) lLawSaidL cLawSaidL kLawSaidL
  have bLawSaidL := FLawSaidL.binds (ps := ["sheet", "seat"]) fun _ _ _ _ _ _ us hl => match us, hl with | [_, _], _ => rfl
  have gLawRoomBehindL := PySem.W.mg_of X G aLawRoomBehindL
  have FLawRoomBehindL := fun_mk (st := s__law_room_behind) lLawRoomBehindL cLawRoomBehindL kLawRoomBehindL
  have bLawRoomBehindL := FLawRoomBehindL.binds (ps := ["sheet", "seat", "room", "act"]) fun _ _ _ _ _ _ us hl => match us, hl with | [_, _, _, _], _ => rfl
  have gLawStandBehindL := PySem.W.mg_of X G aLawStandBehindL
  have FLawStandBehindL := fun_mk (st := s__law_stand_behind) lLawStandBehindL cLawStandBehindL kLawStandBehindL
  have bLawStandBehindL := FLawStandBehindL.binds (ps := ["sheet", "stand", "act"]) fun _ _ _ _ _ _ us hl => match us, hl with | [_, _, _], _ => rfl
  have gLawChairActsL := PySem.W.mg_of X G aLawChairActsL
  have FLawChairActsL := fun_mk (st := s__law_chair_acts) lLawChairActsL cLawChairActsL kLawChairActsL
  have bLawChairActsL := FLawChairActsL.binds (ps := ["sheet", "seat", "rooms"]) fun _ _ _ _ _ _ us hl => match us, hl with | [_, _, _], _ => rfl
  have gLawRoomActsL := PySem.W.mg_of X G aLawRoomActsL
  have FLawRoomActsL := fun_mk (st := s__law_room_acts) lLawRoomActsL cLawRoomActsL kLawRoomActsL
  have bLawRoomActsL := FLawRoomActsL.binds (ps := ["sheet", "seat", "at", "room"]) fun _ _ _ _ _ _ us hl => match us, hl with | [_, _, _, _], _ => rfl
  have gLawActsAtL := PySem.W.mg_of X G aLawActsAtL
  have FLawActsAtL := fun_mk (st := s__law_acts_at) lLawActsAtL cLawActsAtL kLawActsAtL
  have bLawActsAtL := FLawActsAtL.binds (ps := ["sheet", "stand"]) fun _ _ _ _ _ _ us hl => match us, hl with | [_, _], _ => rfl
  have gLawForcedByL := PySem.W.mg_of X G aLawForcedByL
  have FLawForcedByL := fun_mk (st := s__law_forced_by) lLawForcedByL cLawForcedByL kLawForcedByL
  have bLawForcedByL := FLawForcedByL.binds (ps := ["sheet", "act"]) fun _ _ _ _ _ _ us hl => match us, hl with | [_, _], _ => rfl
  have gLawToldCostsL := PySem.W.mg_of X G aLawToldCostsL
  have FLawToldCostsL := fun_mk (st := s__law_told_costs) lLawToldCostsL cLawToldCostsL kLawToldCostsL
  have bLawToldCostsL := FLawToldCostsL.binds (ps := ["sheet", "said", "many"]) fun _ _ _ _ _ _ us hl => match us, hl with | [_, _, _], _ => rfl
  have gIsNumber := PySem.W.mg_of X G aIsNumber
  have FIsNumber := fun_mk (st := s_is_number) lIsNumber cIsNumber kIsNumber
  have bIsNumber := FIsNumber.binds (ps := ["thing", "low", "high"]) fun _ _ _ _ _ _ us hl => match us, hl with | [_, _, _], _ => rfl
  have gCheckCourse := PySem.W.mg_of X G aCheckCourse
  have FCheckCourse := fun_mk (st := s_check_course) lCheckCourse cCheckCourse kCheckCourse
  have bCheckCourse := FCheckCourse.binds (ps := ["outcome", "houses"]) fun _ _ _ _ _ _ us hl => match us, hl with | [_, _], _ => rfl
  have gTimesWritten := PySem.W.mg_of X G aTimesWritten
  have FTimesWritten := fun_mk (st := s_times_written) lTimesWritten cTimesWritten kTimesWritten
  have bTimesWritten := FTimesWritten.binds (ps := ["outcome", "houses"]) fun _ _ _ _ _ _ us hl => match us, hl with | [_, _], _ => rfl
  have gForcedWritings := PySem.W.mg_of X G aForcedWritings
  have FForcedWritings := fun_mk (st := s_forced_writings) lForcedWritings cForcedWritings kForcedWritings
  have bForcedWritings := FForcedWritings.binds (ps := ["lot", "outcome", "houses"]) fun _ _ _ _ _ _ us hl => match us, hl with | [_, _, _], _ => rfl
  have gCosts := PySem.W.mg_of X G aCosts
  have FCosts := fun_mk (st := s_costs) lCosts cCosts kCosts
  have bCosts := FCosts.binds (ps := ["book", "outcome", "houses"]) fun _ _ _ _ _ _ us hl => match us, hl with | [_, _, _], _ => rfl
  have FLaw := fun_mk (st := s_law) lLaw cLaw kLaw
  have sqRECORDS : ∀ H : Hp, SqT K H tRECORDS ([.str "begin", .str "yes", .str "no", .str "ready", .str "agreed", .str "refused"] : List V) := fun H => .inr ⟨_, itRECORDS, mRECORDS, lRECORDS, rfl, rfl, of_decide_eq_true zRECORDSS, vRECORDS⟩
  have rRECORDS : ∀ H : Hp, DL.Rp K H (.ref tRECORDS) (.tuple [.str "begin", .str "yes", .str "no", .str "ready", .str "agreed", .str "refused"]) := fun H => .tup (sqRECORDS H) (.cons (.str _) (.cons (.str _) (.cons (.str _) (.cons (.str _) (.cons (.str _) (.cons (.str _) .nil))))))
  have sqWORDS : ∀ H : Hp, SqT K H tWORDS ([.str "none", .str "lazy", .str "forced"] : List V) := fun H => .inr ⟨_, itWORDS, mWORDS, lWORDS, rfl, rfl, of_decide_eq_true zWORDSS, vWORDS⟩
  have rWORDS : ∀ H : Hp, DL.Rp K H (.ref tWORDS) (.tuple [.str "none", .str "lazy", .str "forced"]) := fun H => .tup (sqWORDS H) (.cons (.str _) (.cons (.str _) (.cons (.str _) .nil)))
  have sqOUTCOMES : ∀ H : Hp, SqT K H tOUTCOMES ([.str "no", .str "yes"] : List V) := fun H => .inr ⟨_, itOUTCOMES, mOUTCOMES, lOUTCOMES, rfl, rfl, of_decide_eq_true zOUTCOMESS, vOUTCOMES⟩
  have rOUTCOMES : ∀ H : Hp, DL.Rp K H (.ref tOUTCOMES) (.tuple [.str "no", .str "yes"]) := fun H => .tup (sqOUTCOMES H) (.cons (.str _) (.cons (.str _) .nil))
  have sqPRESUMPTIONS : ∀ H : Hp, SqT K H tPRESUMPTIONS ([.str "no", .str "wait", .str "yes"] : List V) := fun H => .inr ⟨_, itPRESUMPTIONS, mPRESUMPTIONS, lPRESUMPTIONS, rfl, rfl, of_decide_eq_true zPRESUMPTIONSS, vPRESUMPTIONS⟩
  have rPRESUMPTIONS : ∀ H : Hp, DL.Rp K H (.ref tPRESUMPTIONS) (.tuple [.str "no", .str "wait", .str "yes"]) := fun H => .tup (sqPRESUMPTIONS H) (.cons (.str _) (.cons (.str _) (.cons (.str _) .nil)))
  have N : Bk.Tups K mg tRECORDS tWORDS tOUTCOMES tPRESUMPTIONS := ⟨PySem.W.mg_of X G gRECORDS, PySem.W.mg_of X G gWORDS, PySem.W.mg_of X G gOUTCOMES, PySem.W.mg_of X G gPRESUMPTIONS, sqRECORDS, sqWORDS, sqOUTCOMES, sqPRESUMPTIONS⟩
  have C0 : Consts K mg := ⟨⟨.ref tOUTCOMES, _, PySem.W.mg_of X G gOUTCOMES, rfl, rOUTCOMES⟩, ⟨.int 100, _, PySem.W.mg_of X G gMOST_HOUSES, ⟨_, rfl⟩, fun H => .int 100⟩⟩
  obtain ⟨q1, q⟩ := and2 bBook
  obtain ⟨q2, q⟩ := and2 q
  obtain ⟨q3, q⟩ := and2 q
  obtain ⟨q4, q⟩ := and2 q
  obtain ⟨q5, q⟩ := and2 q
  obtain ⟨q6, q⟩ := and2 q
  obtain ⟨q7, q⟩ := and2 q
  obtain ⟨q8, q⟩ := and2 q
  obtain ⟨q9, q⟩ := and2 q
  obtain ⟨q10, q⟩ := and2 q
  obtain ⟨q11, q⟩ := and2 q
  obtain ⟨q12, q⟩ := and2 q
  have cl : Bi.Cl K CBk := ⟨⟨q4, q5, q6, beq_iff_eq.mp q7⟩, fun f m => beq_iff_eq.mp (List.all_eq_true.mp q8 f m)⟩
  have isa : Be.Isa K CBk := ⟨beq_iff_eq.mp q9, hn, ht, beq_iff_eq.mp q10⟩
  have M : Mk K CBk fInit := ⟨q1, iBook, q2, q3⟩
  have FI : L2.FunD K "__init__" "Book.__init__" (defArgs Bi.sInit) (defBody Bi.sInit) (defScope Bi.sInit) [.ref tEmpty, .str "no"] [] fInit (PySem.W.fnOf "__init__" "Book.__init__" (defArgs Bi.sInit) (defBody Bi.sInit) (defScope Bi.sInit) (.ref tdInit) kVInit dcInit pmInit anInit cdInit ctInit) := ⟨⟨ocInit, odInit, .ref tdInit, kVInit, dcInit, pmInit, anInit, cdInit, ctInit, slInit, rfl, lInit, cInit, .inr ⟨by simp, tdInit, _, [.ref tEmpty, .str "no" tkDef], mDef, rfl, lDef, by rw [← vDef], .cons rfl (.cons ⟨_, rfl⟩ .nil)⟩, .inl rfl⟩, kInit⟩
  have bI : Binds K (PySem.W.fnOf "__init__" "Book.__init__" (defArgs Bi.sInit) (defBody Bi.sInit) (defScope Bi.sInit) (.ref tdInit) kVInit dcInit pmInit anInit cdInit ctInit) Bi.pInit [] := by
    obtain ⟨ds, r, b⟩ := FI.binds1 (ps := Bi.pInit) 9 2 (by simp) rfl fun _ _ _ _ _ _ _ us its l1 l2 => match us, its, l1, l2 with
      | [_, _, _, _, _, _, _, _, _], [_, _], _, _ => ⟨_, rfl, rfl⟩
    cases r
    exact b
  have B0 : ∀ x ∈ bltNames, mg x = none := by
    intro x hx
    simp only [bltNames, List.mem_cons, List.not_mem_nil, or_false] at hx
    rcases hx with rfl | rfl | rfl | rfl | rfl | rfl | rfl | rfl | rfl | rfl | rfl | rfl
    · exact nbool
    · exact nenumerate
    · exact nint
    · exact nisinstance
    · exact nlen
    · exact nlist
    · exact nmin
    · exact nrange
    · exact nrepr
    · exact nsorted
    · exact nsum
    · exact ntuple
  refine ⟨PySem.W.fnOf "law" "law" (defArgs s_law) (defBody s_law) (defScope s_law) .none kVLaw dcLaw pmLaw anLaw cdLaw ctLaw, fun s v => .of_eq rfl, fun base _ _ => ?_⟩
  have GC := fun n => ok_copied (P := P) (w := w) (base := base) FCopied ⟨nisinstance, nlist, ntuple, ndict⟩ gCopied bCopied n
  have EBadBook : OwnE P w K mg base 3 5 "BadBook" "part" "part" CBadBook := own R formBadBook ecbBadBook oBadBook xBadBook rBadBook iBadBookI lBadBook cBadBook hBadBook vBadBook mBadBook eBadBook (PySem.W.mg_of X G aBadBook) nsuper (GC 3) gCopied kCopied bCopied
  have BK : Ki.Bare mg := ⟨nisinstance, nlist, ntuple, nenumerate⟩
  have GW := Bk.ok_wrong (P := P) (w := w) (base := base) FWrongPart N (Ki.ok_isList FIsList BK) gIsList kIsList bIsList (Ki.ok_unfit FFirstUnfit BK) gFirstUnfit kFirstUnfit bFirstUnfit
  have GI := Bi.ok_book (P := P) (w := w) (base := base) FI N cl ⟨ntuple, nsorted⟩ GW gWrongPart kWrongPart bWrongPart EBadBook
  have BX : Db.BookX P w K mg base CBk := ⟨PySem.W.mg_of X G aBook, cl, isa, fun t m => beq_iff_eq.mp (List.all_eq_true.mp q11 t m), beq_iff_eq.mp q12, ⟨CBadBook, fInit, _, GI, M, bI⟩⟩
  have B : Draw.Bare mg := ⟨nabs, nint, nlen, nrange, nmin⟩
  have GT := Draw.ok_take (P := P) (w := w) (base := base) FLawTakeL B FLawMixedL gLawMixedL bLawMixedL
  have GP := Draw.ok_pickW (P := P) (w := w) (base := base) FLawPickL B GT gLawTakeL kLawTakeL bLawTakeL
  have D__law_take := Db.ok_take (C := CBk) GT gLawTakeL kLawTakeL bLawTakeL
  have D__law_pick := Db.ok_pick (C := CBk) GP gLawPickL kLawPickL bLawPickL
  have GS := Sf.ok_shuf (P := P) (w := w) (base := base) FLawShuffledL B nlist GT gLawTakeL kLawTakeL bLawTakeL
  have GPs := Draw.ok_pick (P := P) (w := w) (base := base) FLawPickL B GT gLawTakeL kLawTakeL bLawTakeL
  have GN := Sh2.ok_notes (P := P) (w := w) (mg := mg) (base := base) FLawNotesL
  have GG := Sh2.ok_known (P := P) (w := w) (base := base) FLawKnownSheetL B ndict GT gLawTakeL kLawTakeL bLawTakeL GN gLawNotesL kLawNotesL bLawNotesL
  have GH := Sh2.ok_sheet (P := P) (w := w) (base := base) FLawSheetL B GT gLawTakeL kLawTakeL bLawTakeL GN gLawNotesL kLawNotesL bLawNotesL GPs gLawPickL kLawPickL bLawPickL GS gLawShuffledL kLawShuffledL bLawShuffledL GG gLawKnownSheetL kLawKnownSheetL bLawKnownSheetL
  have D__law_sheet := Db.ok_sheet (C := CBk) GH gLawSheetL kLawSheetL bLawSheetL
  have D__law_notes := ok__law_notes (P := P) (w := w) (base := base) (CB := CBk) ⟨_, _, FLawNotesL, gLawNotesL, bLawNotesL⟩ B0 C0 
  have D__law_book := ok__law_book (P := P) (w := w) (base := base) (CB := CBk) ⟨_, _, FLawBookL, gLawBookL, bLawBookL⟩ B0 C0 BX D__law_notes
  have D__law_plain_acts := ok__law_plain_acts (P := P) (w := w) (base := base) (CB := CBk) ⟨_, _, FLawPlainActsL, gLawPlainActsL, bLawPlainActsL⟩ B0 C0 
  have D__law_first := ok__law_first (P := P) (w := w) (base := base) (CB := CBk) ⟨_, _, FLawFirstL, gLawFirstL, bLawFirstL⟩ B0 C0 
  have D__law_write := ok__law_write (P := P) (w := w) (base := base) (CB := CBk) ⟨_, _, FLawWriteL, gLawWriteL, bLawWriteL⟩ B0 C0 
  have D__law_seat_behind := ok__law_seat_behind (P := P) (w := w) (base := base) (CB := CBk) ⟨_, _, FLawSeatBehindL, gLawSeatBehindL, bLawSeatBehindL⟩ B0 C0 D__law_write
  have D__law_room_fallen := ok__law_room_fallen (P := P) (w := w) (base := base) (CB := CBk) ⟨_, _, FLawRoomFallenL, gLawRoomFallenL, bLawRoomFallenL⟩ B0 C0 
  have D__law_said := ok__law_said (P := P) (w := w) (base := base) (CB := CBk) ⟨_, _, FLawSaidL, gLawSaidL, bLawSaidL⟩ B0 C0 
  have D__law_room_behind := ok__law_room_behind (P := P) (w := w) (base := base) (CB := CBk) ⟨_, _, FLawRoomBehindL, gLawRoomBehindL, bLawRoomBehindL⟩ B0 C0 D__law_write D__law_room_fallen D__law_said
  have D__law_stand_behind := ok__law_stand_behind (P := P) (w := w) (base := base) (CB := CBk) ⟨_, _, FLawStandBehindL, gLawStandBehindL, bLawStandBehindL⟩ B0 C0 D__law_seat_behind D__law_room_behind
  have D__law_chair_acts := ok__law_chair_acts (P := P) (w := w) (base := base) (CB := CBk) ⟨_, _, FLawChairActsL, gLawChairActsL, bLawChairActsL⟩ B0 C0 
  have D__law_room_acts := ok__law_room_acts (P := P) (w := w) (base := base) (CB := CBk) ⟨_, _, FLawRoomActsL, gLawRoomActsL, bLawRoomActsL⟩ B0 C0 D__law_said
  have D__law_acts_at := ok__law_acts_at (P := P) (w := w) (base := base) (CB := CBk) ⟨_, _, FLawActsAtL, gLawActsAtL, bLawActsAtL⟩ B0 C0 D__law_chair_acts D__law_room_acts
  have D__law_forced_by := ok__law_forced_by (P := P) (w := w) (base := base) (CB := CBk) ⟨_, _, FLawForcedByL, gLawForcedByL, bLawForcedByL⟩ B0 C0 
  have D__law_told_costs := ok__law_told_costs (P := P) (w := w) (base := base) (CB := CBk) ⟨_, _, FLawToldCostsL, gLawToldCostsL, bLawToldCostsL⟩ B0 C0 D__law_plain_acts D__law_first D__law_stand_behind D__law_acts_at D__law_forced_by
  have D_is_number := ok_is_number (P := P) (w := w) (base := base) (CB := CBk) ⟨_, _, FIsNumber, gIsNumber, bIsNumber⟩ B0 C0 
  have D_check_course := ok_check_course (P := P) (w := w) (base := base) (CB := CBk) ⟨_, _, FCheckCourse, gCheckCourse, bCheckCourse⟩ B0 C0 D_is_number
  have D_times_written := ok_times_written (P := P) (w := w) (base := base) (CB := CBk) ⟨_, _, FTimesWritten, gTimesWritten, bTimesWritten⟩ B0 C0 
  have D_forced_writings := ok_forced_writings (P := P) (w := w) (base := base) (CB := CBk) ⟨_, _, FForcedWritings, gForcedWritings, bForcedWritings⟩ B0 C0 D_times_written
  have D_costs := ok_costs (P := P) (w := w) (base := base) (CB := CBk) ⟨_, _, FCosts, gCosts, bCosts⟩ B0 C0 BX D_check_course D_forced_writings
  have DK_costs_210 := okK_costs_210 (P := P) (w := w) (base := base) (CB := CBk) ⟨_, _, FCosts, gCosts, DL.kbnF (ps := ["book", "outcome", "houses"]) (ks := ["houses", "outcome", "book"]) (perm := [2, 1, 0]) FCosts fun _ _ _ _ _ _ ws hl => match ws, hl with | [_, _, _], _ => rfl⟩ B0 C0 BX D_check_course D_forced_writings
  exact ok_law FLaw (Draw.ok_begun FLawBegunL B) gLawBegunL kLawBegunL bLawBegunL B0 C0 BX D__law_book D__law_pick D__law_sheet D__law_take D__law_told_costs D_costs DK_costs_210 law_math
end K49

open PySem PySem.W PyProof.Rows in
set_option maxRecDepth 100000 in
set_option maxHeartbeats 0 in
theorem PySem.Challenge.cw_presumebooks_k49_costs_of_courses_holds : PySem.Challenge.rw_presumebooks_k49_costs_of_courses.Holds := by
  w_on; o_law; k_head; (case hw => w_witness2)
  k_fill
  refine Gd.walkG (l := PySem.Challenge.rw_presumebooks_k49_costs_of_courses) (n := 63) (k := 10) (sp := Db.spLaw) (x := "script") rfl (by decide) rfl ⟨rfl, by decide, by decide⟩ (fun w h Y => PySem.W.kIn_of Y) ?F (fun K H a ns hl sq => ⟨a, ns, rfl, sq, hl, fun _ => rfl⟩)
  case F =>
    intro w mg fa h KX G hmg
    refine' K49.all_mk (P := PySem.Challenge.rw_presumebooks_k49_costs_of_courses.prog) KX G hmg ?aCopied ?lCopied ?cCopied ?kCopied ?aLawBegunL ?lLawBegunL ?cLawBegunL ?kLawBegunL ?aLawMixedL ?lLawMixedL ?cLawMixedL ?kLawMixedL ?aLawTakeL ?lLawTakeL ?cLawTakeL ?kLawTakeL ?aLawPickL ?lLawPickL ?cLawPickL ?kLawPickL ?aIsList ?lIsList ?cIsList ?kIsList ?aFirstUnfit ?lFirstUnfit ?cFirstUnfit ?kFirstUnfit ?aWrongPart ?lWrongPart ?cWrongPart ?kWrongPart ?aLawShuffledL ?lLawShuffledL ?cLawShuffledL ?kLawShuffledL ?aLawKnownSheetL ?lLawKnownSheetL ?cLawKnownSheetL ?kLawKnownSheetL ?aLawSheetL ?lLawSheetL ?cLawSheetL ?kLawSheetL ?aLawNotesL ?lLawNotesL ?cLawNotesL ?kLawNotesL ?aLawBookL ?lLawBookL ?cLawBookL ?kLawBookL ?aLawPlainActsL ?lLawPlainActsL ?cLawPlainActsL ?kLawPlainActsL ?aLawFirstL ?lLawFirstL ?cLawFirstL ?kLawFirstL ?aLawWriteL ?lLawWriteL ?cLawWriteL ?kLawWriteL ?aLawSeatBehindL ?lLawSeatBehindL ?cLawSeatBehindL ?kLawSeatBehindL ?aLawRoomFallenL ?lLawRoomFallenL ?cLawRoomFallenL ?kLawRoomFallenL ?aLawSaidL ?lLawSaidL ?cLawSaidL ?kLawSaidL ?aLawRoomBehindL ?lLawRoomBehindL ?cLawRoomBehindL ?kLawRoomBehindL ?aLawStandBehindL ?lLawStandBehindL ?cLawStandBehindL ?kLawStandBehindL ?aLawChairActsL ?lLawChairActsL ?cLawChairActsL ?kLawChairActsL ?aLawRoomActsL ?lLawRoomActsL ?cLawRoomActsL ?kLawRoomActsL ?aLawActsAtL ?lLawActsAtL ?cLawActsAtL ?kLawActsAtL ?aLawForcedByL ?lLawForcedByL ?cLawForcedByL ?kLawForcedByL ?aLawToldCostsL ?lLawToldCostsL ?cLawToldCostsL ?kLawToldCostsL ?aIsNumber ?lIsNumber ?cIsNumber ?kIsNumber ?aCheckCourse ?lCheckCourse ?cCheckCourse ?kCheckCourse ?aTimesWritten ?lTimesWritten ?cTimesWritten ?kTimesWritten ?aForcedWritings ?lForcedWritings ?cForcedWritings ?kForcedWritings ?aCosts ?lCosts ?cCosts ?kCosts ?aLaw ?lLaw ?cLaw ?kLaw ?aBadBook ?xBadBook ?rBadBook ?iBadBookI ?lBadBook ?cBadBook ?hBadBook ?vBadBook ?mBadBook ?eBadBook ?oBadBook ?ecbBadBook ?aBook ?iBook ?lInit ?cInit ?kInit ?lDef ?vDef ?bBook ?gRECORDS ?lRECORDS ?vRECORDS ?zRECORDSS ?gWORDS ?lWORDS ?vWORDS ?zWORDSS ?gOUTCOMES ?lOUTCOMES ?vOUTCOMES ?zOUTCOMESS ?gPRESUMPTIONS ?lPRESUMPTIONS ?vPRESUMPTIONS ?zPRESUMPTIONSS ?gMOST_HOUSES ?zabs ?zbool ?zdict ?zenumerate ?zint ?zisinstance ?zlen ?zlist ?zmin ?zrange ?zrepr ?zsorted ?zsum ?zsuper ?ztuple ?hn ?ht ?hp ?hs
    (case aCopied => k_is)
    (case lCopied => k_is)
    (case cCopied => k_is)
    (case kCopied => k_is)
    (case aLawBegunL => k_is)
    (case lLawBegunL => k_is)
    (case cLawBegunL => k_is)
    (case kLawBegunL => k_is)
    (case aLawMixedL => k_is)
    (case lLawMixedL => k_is)
    (case cLawMixedL => k_is)
    (case kLawMixedL => k_is)
    (case aLawTakeL => k_is)
    (case lLawTakeL => k_is)
    (case cLawTakeL => k_is)
    (case kLawTakeL => k_is)
    (case aLawPickL => k_is)
    (case lLawPickL => k_is)
    (case cLawPickL => k_is)
    (case kLawPickL => k_is)
    (case aIsList => k_is)
    (case lIsList => k_is)
    (case cIsList => k_is)
    (case kIsList => k_is)
    (case aFirstUnfit => k_is)
    (case lFirstUnfit => k_is)
    (case cFirstUnfit => k_is)
    (case kFirstUnfit => k_is)
    (case aWrongPart => k_is)
    (case lWrongPart => k_is)
    (case cWrongPart => k_is)
    (case kWrongPart => k_is)
    (case aLawShuffledL => k_is)
    (case lLawShuffledL => k_is)
    (case cLawShuffledL => k_is)
    (case kLawShuffledL => k_is)
    (case aLawKnownSheetL => k_is)
    (case lLawKnownSheetL => k_is)
    (case cLawKnownSheetL => k_is)
    (case kLawKnownSheetL => k_is)
    (case aLawSheetL => k_is)
    (case lLawSheetL => k_is)
    (case cLawSheetL => k_is)
    (case kLawSheetL => k_is)
    (case aLawNotesL => k_is)
    (case lLawNotesL => k_is)
    (case cLawNotesL => k_is)
    (case kLawNotesL => k_is)
    (case aLawBookL => k_is)
    (case lLawBookL => k_is)
    (case cLawBookL => k_is)
    (case kLawBookL => k_is)
    (case aLawPlainActsL => k_is)
    (case lLawPlainActsL => k_is)
    (case cLawPlainActsL => k_is)
    (case kLawPlainActsL => k_is)
    (case aLawFirstL => k_is)
    (case lLawFirstL => k_is)
    (case cLawFirstL => k_is)
    (case kLawFirstL => k_is)
    (case aLawWriteL => k_is)
    (case lLawWriteL => k_is)
    (case cLawWriteL => k_is)
    (case kLawWriteL => k_is)
    (case aLawSeatBehindL => k_is)
    (case lLawSeatBehindL => k_is)
    (case cLawSeatBehindL => k_is)
    (case kLawSeatBehindL => k_is)
    (case aLawRoomFallenL => k_is)
    (case lLawRoomFallenL => k_is)
    (case cLawRoomFallenL => k_is)
    (case kLawRoomFallenL => k_is)
    (case aLawSaidL => k_is)
    (case lLawSaidL => k_is)
    (case cLawSaidL => k_is)
    (case kLawSaidL => k_is)
    (case aLawRoomBehindL => k_is)
    (case lLawRoomBehindL => k_is)
    (case cLawRoomBehindL => k_is)
    (case kLawRoomBehindL => k_is)
    (case aLawStandBehindL => k_is)
    (case lLawStandBehindL => k_is)
    (case cLawStandBehindL => k_is)
    (case kLawStandBehindL => k_is)
    (case aLawChairActsL => k_is)
    (case lLawChairActsL => k_is)
    (case cLawChairActsL => k_is)
    (case kLawChairActsL => k_is)
    (case aLawRoomActsL => k_is)
    (case lLawRoomActsL => k_is)
    (case cLawRoomActsL => k_is)
    (case kLawRoomActsL => k_is)
    (case aLawActsAtL => k_is)
    (case lLawActsAtL => k_is)
    (case cLawActsAtL => k_is)
    (case kLawActsAtL => k_is)
    (case aLawForcedByL => k_is)
    (case lLawForcedByL => k_is)
    (case cLawForcedByL => k_is)
    (case kLawForcedByL => k_is)
    (case aLawToldCostsL => k_is)
    (case lLawToldCostsL => k_is)
    (case cLawToldCostsL => k_is)
    (case kLawToldCostsL => k_is)
    (case aIsNumber => k_is)
    (case lIsNumber => k_is)
    (case cIsNumber => k_is)
    (case kIsNumber => k_is)
    (case aCheckCourse => k_is)
    (case lCheckCourse => k_is)
    (case cCheckCourse => k_is)
    (case kCheckCourse => k_is)
    (case aTimesWritten => k_is)
    (case lTimesWritten => k_is)
    (case cTimesWritten => k_is)
    (case kTimesWritten => k_is)
    (case aForcedWritings => k_is)
    (case lForcedWritings => k_is)
    (case cForcedWritings => k_is)
    (case kForcedWritings => k_is)
    (case aCosts => k_is)
    (case lCosts => k_is)
    (case cCosts => k_is)
    (case kCosts => k_is)
    (case aLaw => k_is)
    (case lLaw => k_is)
    (case cLaw => k_is)
    (case kLaw => k_is)
    (case aBadBook => k_is)
    (case xBadBook => k_is)
    (case rBadBook => kernel_rfl!)
    (case iBadBookI => k_is)
    (case lBadBook => k_is)
    (case cBadBook => k_is)
    (case hBadBook => k_is)
    (case vBadBook => exact rfl)
    (case mBadBook => kernel_rfl!)
    (case eBadBook => k_is)
    (case oBadBook => kernel_rfl!)
    (case ecbBadBook => kernel_rfl!)
    (case aBook => k_is)
    (case iBook => k_is)
    (case lInit => k_is)
    (case cInit => k_is)
    (case kInit => k_is)
    (case lDef => k_is)
    (case vDef => exact rfl)
    (case bBook => kernel_rfl!)
    (case gRECORDS => k_is)
    (case lRECORDS => k_is)
    (case vRECORDS => exact (.cons ⟨_, rfl⟩ (.cons ⟨_, rfl⟩ (.cons ⟨_, rfl⟩ (.cons ⟨_, rfl⟩ (.cons ⟨_, rfl⟩ (.cons ⟨_, rfl⟩ .nil)))))))
    (case zRECORDSS => kernel_rfl!)
    (case gWORDS => k_is)
    (case lWORDS => k_is)
    (case vWORDS => exact (.cons ⟨_, rfl⟩ (.cons ⟨_, rfl⟩ (.cons ⟨_, rfl⟩ .nil))))
    (case zWORDSS => kernel_rfl!)
    (case gOUTCOMES => k_is)
    (case lOUTCOMES => k_is)
    (case vOUTCOMES => exact (.cons ⟨_, rfl⟩ (.cons ⟨_, rfl⟩ .nil)))
    (case zOUTCOMESS => kernel_rfl!)
    (case gPRESUMPTIONS => k_is)
    (case lPRESUMPTIONS => k_is)
    (case vPRESUMPTIONS => exact (.cons ⟨_, rfl⟩ (.cons ⟨_, rfl⟩ (.cons ⟨_, rfl⟩ .nil))))
    (case zPRESUMPTIONSS => kernel_rfl!)
    (case gMOST_HOUSES => k_is)
    (case zabs => k_is)
    (case zbool => k_is)
    (case zdict => k_is)
    (case zenumerate => k_is)
    (case zint => k_is)
    (case zisinstance => k_is)
    (case zlen => k_is)
    (case zlist => k_is)
    (case zmin => k_is)
    (case zrange => k_is)
    (case zrepr => k_is)
    (case zsorted => k_is)
    (case zsum => k_is)
    (case zsuper => k_is)
    (case ztuple => k_is)
    (case hn => k_is)
    (case ht => k_is)
    (case hp => k_is)
    (case hs => kernel_rfl!)

