import PyProof.Rows.All
import Wide.All
import OpenK.AllK
import Wide.FinOn
import HandS.ForSpec
import HandS.ForMost
import HandS.ExcInit
import HandS.IsInst
import HandS.Lambda
import HandS.MakeKw
import HandS.Defaults
import HandS.TupAny
import HandS.EndOwn
import HandS.Flow
import HandS.Codes
import HandS.Walk
import HandS.DictComp
import HandS.ExcIs
import HandS.ExcValue
import HandS.ExcField
import PyProof.ReprRoads
import KE.KExcSuper
import KE.KExcIs
import KE.GoesMore
import PySem.Challenge.RW_presumebooks_k50_known_costs
import HandS.Base
import HandS.Call
import HandS.List
import HandS.Comp
import HandS.Dict
import HandS.Words
import HandS.Deep
import HandS.TupMul
import HandS.Star
set_option Elab.async false
set_option linter.all false
set_option maxRecDepth 100000
set_option maxHeartbeats 2000000
set_option Elab.async false
set_option linter.all false
set_option maxRecDepth 100000
set_option maxHeartbeats 2000000
namespace Et
open PySem PySem.Spec PyProof.Rows L2
open AutoSeq1 (wpAny_loadPart')
/-! enumerate over a tuple; over a list or a tuple. -/
theorem meets_new (l : Addr) (items : Array Value) (n : Nat) (dct : Option Addr) (sl : Array (Option Value)) :
    Meets (Builtin.«enumerate.__new__» ⟨[.type "enumerate", .ref l], []⟩) (fun _ R s => s.heap.get? l = some { cls := .type "tuple", dict := dct, data := .seq items n, slots := sl } ∧
      R (.ok (.ret (.ref (s.heap.push { cls := .type "tuple_iterator", data := .fields #[.ref l, .int 0 0] }).objs.size)))
        { s with heap := (s.heap.push { cls := .type "tuple_iterator", data := .fields #[.ref l, .int 0 0] }).push { cls := .type "enumerate", data := .fields #[.none, .bool false, .ref s.heap.objs.size, rawInt 0, .none, .none] } }) :=
  .of_wp fun prog w A R s h => by
    obtain ⟨hp, g, d, tk, os⟩ := s
    obtain ⟨hl, h⟩ := h
    have sub := sub_enumerate
    have tup : Heap.IsTuple (Shared.heap ⟨hp, g, d, tk, os⟩) l items := ⟨_, hl, rfl, n, rfl⟩
    wp_walk using wpAny_loadPart' hl
    refine wpAny_stack_any fun st => wpAny_pure ?_
    split
    · rename_i c _ _ _ _ _
      cases (c == Value.type "enumerate")
      all_goals
        wp_walk using wpAny_loadPart' hl, wpAny_pyIter_tuple tup
        exact ⟨_, rfl, h⟩
    · wp_walk using wpAny_loadPart' hl, wpAny_pyIter_tuple tup
      exact ⟨_, rfl, h⟩
section
variable {prog : Program} {w : World} {A : Around} {E : Value → Shared → Prop} {s : Shared}
theorem call_enum {l : Addr} {items : Array Value} {Q : Value → Shared → Prop} (tup : s.heap.IsTuple l items)
    (h : ∀ h', IsEnum h' (s.heap.objs.size + 1) s.heap.objs.size 0 .none → h'.IsTupleIter s.heap.objs.size l 0 → (∀ b o, s.heap.get? b = some o → h'.get? b = some o) → Q (.ref (s.heap.objs.size + 1)) { s with heap := h' }) :
    wpAny (model prog w) A (call (.type "enumerate") [.ref l]) Q E s := by
  obtain ⟨⟨c, dct, dt, sl⟩, hl, hc, n, hd⟩ := tup
  dsimp only at hc hd
  subst hc hd
  refine callType_new F.called_enumerate (by decide) (F.typeCall_enumerate_1 _) (F.newCall_enumerate_1 _) (fun obj => F.args_object_init_2 obj _) F.entry_enumerate_new (meets_new l items n dct sl) ⟨hl, ?_⟩
  have size : (s.heap.push { cls := .type "tuple_iterator", data := .fields #[.ref l, .int 0 0] }).objs.size = s.heap.objs.size + 1 := Heap.size_push ..
  show _ ∧ _
  rw [size]
  have made : IsEnum ((s.heap.push { cls := .type "tuple_iterator", data := .fields #[.ref l, .int 0 0] }).push { cls := .type "enumerate", data := .fields #[.none, .bool false, .ref s.heap.objs.size, rawInt 0, .none, .none] }) (s.heap.objs.size + 1) s.heap.objs.size 0 .none := by
    have q := Heap.get?_push_size (s.heap.push { cls := .type "tuple_iterator", data := .fields #[.ref l, .int 0 0] }) (o := { cls := .type "enumerate", data := .fields #[.none, .bool false, .ref s.heap.objs.size, rawInt 0, .none, .none] }) rfl
    rw [size] at q
    exact q
  exact ⟨⟨_, made, rfl⟩, h _ made ⟨_, Heap.get?_push_of_some _ (Heap.get?_push_size _ rfl), rfl, rfl⟩ fun b o e => Heap.get?_push_of_some _ (Heap.get?_push_of_some _ e)⟩
end
/-- the tuple at a, each item in a new pair -/
def Iet (K : PySem.W.Frag) (a : Addr) : It where
  go := fun i H => ∃ (xs : List V) (x : V), SqT K H a xs ∧ xs[i]? = some x
  yld := fun i H v H' => ∃ T x, v = .ref T ∧ H T = none ∧ H' = upd H T (.tup [.int (i : Nat), x]) ∧ ∀ xs, SqT K H a xs → xs[i]? = some x
  stop := fun i H => ∃ xs : List V, SqT K H a xs ∧ xs.length = i
theorem turn {P : Program} {w : World} {K : PySem.W.Frag} {elts : List Expr} {kk : Nat} {tpos : Pos} (a e it : Addr) :
    Turn P w K (.Tuple elts kk tpos) (Iet K a) [e, it] e (fun i h => (∃ old, IsEnum h e it ((i : Nat) : Int) old) ∧ h.IsTupleIter it a i ∧ e ≠ it) where
  mem := by simp
  obj := fun i h st b hb => by
    obtain ⟨⟨old, he⟩, ⟨o, ho, hc, hd⟩, _⟩ := st
    rcases (show b = e ∨ b = it by simpa using hb) with rfl | rfl
    · exact ⟨_, he, fun v q => nomatch q⟩
    · exact ⟨o, ho, fun v q => by rw [hd] at q; cases q⟩
  keep := fun i h h' st k => by
    obtain ⟨⟨old, he⟩, hi, ne⟩ := st
    exact ⟨⟨old, k e (by simp) _ he⟩, hi.at fun o q => k it (by simp) o q, ne⟩
  item := by
    intro X hP hw hK hc i pins s σ H E I free st go
    subst hP hw hK
    obtain ⟨⟨old, he⟩, hit, ne⟩ := st
    obtain ⟨xs, x, sq, hx⟩ := go
    obtain ⟨its, rv, tup, _⟩ := I.tuple sq
    obtain ⟨u, hu, ru⟩ := rv.get hx
    have le : e < s.heap.objs.size := Heap.lt_size he
    have li : it < s.heap.objs.size := by
      obtain ⟨_, q, _⟩ := hit
      exact Heap.lt_size q
    have ai : a ≠ it := fun q => by
      obtain ⟨o, ho, c1, _⟩ := tup
      obtain ⟨o', ho', c2, _⟩ := hit
      rw [q, ho'] at ho
      cases ho
      rw [c1] at c2
      simp at c2
    have ae : e ≠ a := fun q => by
      obtain ⟨o, ho, c1, _⟩ := tup
      rw [← q, he] at ho
      cases ho
      simp at c1
    have D := Draws.tuple (prog := X.prog) (w := X.w) (A := X.A.in1) (I.ok.hd hc) it a ai its.toArray
    have iu : i < its.toArray.size := by
      have q := (List.getElem?_eq_some_iff.mp hu).1
      simpa using q
    refine wpAny_pyNext_enum_itemD D he ⟨hit, tup⟩ iu ne (by simp [ne, ae]) fun y h' tk hy out st' hT _ hk => ?_
    have yu : y = u := by
      have q : its.toArray[i]? = some u := by simpa using hu
      exact Option.some.inj (hy.symm.trans q)
    subst yu
    refine ⟨_, rfl, wpAny_letOwnedTupleGo_enum (s := { s with heap := h', toks := tk + 1 }) out fun h'' he' sb => ?_⟩
    have hT2 : h''.get? s.heap.objs.size = some { cls := .type "tuple", data := .seq #[.int i tk, y] } := (sb.2 _ (Nat.ne_of_gt le)).trans hT
    have new : ObjOk X.prog X.w (upd H s.heap.objs.size (.tup [.int (i : Nat), x])) h'' s.heap.objs.size (.tup [.int (i : Nat), x]) :=
      ⟨by show 2 ≤ sizeLine; decide, [.int i tk, y], .cons ⟨_, rfl⟩ (.cons ru .nil), ⟨_, hT2, rfl, _, rfl⟩⟩
    have J : Inv X pins σ (upd H s.heap.objs.size (.tup [.int (i : Nat), x])) { s with heap := h'', toks := tk + 1 } :=
      I.turnedNew (ch := [e, it]) (fun b ob hb q => (sb.2 b (fun z => hb (by simp [z]))).trans (hk b ob (fun z => hb (by simp [z])) (fun z => hb (by simp [z])) q)) free (Nat.le_refl _) new
    refine ⟨.ref s.heap.objs.size, _, J, rfl, ⟨_, x, rfl, I.hok.fresh (Nat.le_refl _), rfl, fun ys hy' => by rw [I.tuple_inj hy' sq]; exact hx⟩, ⟨⟨y, ?_⟩, st'.1.at fun o q => (sb.2 it (Ne.symm ne)).trans q, ne⟩, fun b hb => ?_⟩
    · rw [show ((i + 1 : Nat) : Int) = (i : Int) + 1 by omega]
      exact he'
    · have below : b < s.heap.objs.size := by
        rcases (show b = e ∨ b = it by simpa using hb) with rfl | rfl
        · exact le
        · exact li
      rw [upd_ne (Nat.ne_of_lt below)]
      exact (free b hb).1
  done := by
    intro X hP hw hK hc i pins s σ H E I free st go
    subst hP hw hK
    obtain ⟨⟨old, he⟩, hit, ne⟩ := st
    obtain ⟨xs, sq, hx⟩ := go
    obtain ⟨its, rv, tup, _⟩ := I.tuple sq
    obtain ⟨f0, f1, f2, f3, f4, f5⟩ := free it (by simp)
    have ai : a ≠ it := fun q => by
      obtain ⟨o, ho, c1, _⟩ := tup
      obtain ⟨o', ho', c2, _⟩ := hit
      rw [q, ho'] at ho
      cases ho
      rw [c1] at c2
      simp at c2
    have D := Draws.tuple (prog := X.prog) (w := X.w) (A := X.A.in1) (I.ok.hd hc) it a ai its.toArray
    have size : its.toArray.size = i := by
      rw [List.size_toArray, ← rv.length]
      exact hx
    exact wpAny_pyNext_enum_endD D he (by rw [size]; exact ⟨hit, tup⟩) fun h' eb => ⟨rfl, I.turned (t' := s.toks) (fun b o hb q => eb b o hb q) f0 f1 f3 f4 f5⟩
  self := fun A i s Q E st h => by
    obtain ⟨⟨_, he⟩, _⟩ := st
    exact wpAny_pyIter_enum he h
/-- over what is a list or a tuple -/
def iEnumS (K : PySem.W.Frag) (ta : TA) : TI := fun σ H R => ta σ H fun vs H1 => ∃ a xs, vs = [.ref a] ∧ ((SqL K H1 a xs ∧ R (Ite K a) H1) ∨ (SqT K H1 a xs ∧ R (Iet K a) H1))
theorem pi_enumS {X : Cx} {e : Expr} {ta : TA} {p pos tpos : Pos} {elts : List Expr} {kk : Nat} (hg : Gl X "enumerate") (hm : X.mg "enumerate" = none) (ha : PA X [e] ta) (hs : starEach [e] X.env = [(false, eval e X.env)] := by rfl) :
    PI X (.Tuple elts kk tpos) (.Call (.Name "enumerate" p) [e] [] pos) (iEnumS X.K ta) := by
  constructor
  intro pins s σ H R I h
  refine Call_ (ld_blt I hg hm boot_enumerate (PyProof.Rows.callWith_type1 (thn (ha.run pos pins s σ H _ I h) fun us s1 ⟨vs, H1, I1, r1, q1⟩ => ?_) hs rfl))
  obtain ⟨a, xs, ex, q1⟩ := q1
  subst ex
  cases r1 with
  | cons r rr =>
    cases rr
    cases r
    have fresh : ∀ b ∈ [s1.heap.objs.size + 1, s1.heap.objs.size], FpOk X pins H1 b := fun b hb => by
      have le : s1.heap.objs.size ≤ b := by
        rcases (show b = s1.heap.objs.size + 1 ∨ b = s1.heap.objs.size by simpa using hb) with rfl | rfl <;> omega
      exact I1.fpOk le (I1.hok.fresh le)
    rcases q1 with ⟨sq, q⟩ | ⟨sq, q⟩
    · obtain ⟨its, rv, pl, _⟩ := I1.list sq
      refine call_enumerate_list pl.isList fun h' he hit _ hk => wpAny_pyIter_enum he ?_
      exact ⟨s1.heap.objs.size + 1, [s1.heap.objs.size + 1, s1.heap.objs.size], _, _, H1, rfl, I1.kept (t' := s1.toks) hk, turn_enum a _ _, ⟨⟨.none, he⟩, hit, Nat.succ_ne_self _⟩, fresh, q⟩
    · obtain ⟨its, rv, tup, _⟩ := I1.tuple sq
      refine call_enum tup fun h' he hit hk => wpAny_pyIter_enum he ?_
      exact ⟨s1.heap.objs.size + 1, [s1.heap.objs.size + 1, s1.heap.objs.size], _, _, H1, rfl, I1.kept (t' := s1.toks) hk, turn a _ _, ⟨⟨.none, he⟩, hit, Nat.succ_ne_self _⟩, fresh, q⟩
theorem walk_enumT {K : PySem.W.Frag} {a : Addr} {xs : List V} : Walk (Iet K a) xs.length (fun H => SqT K H a xs) (YPair (fun i => some (.int (i : Nat))) (fun i => xs[i]?)) := by
  refine ⟨fun i _ hi q => ⟨xs, xs[i], q, by simp [hi]⟩, fun _ q => ⟨xs, q, rfl⟩, fun i H v H' _ q y => ?_⟩
  obtain ⟨T, x, h1, h2, h3, h4⟩ := y
  exact ⟨T, .int (i : Nat), x, h1, h2, h3, rfl, h4 xs q⟩
end Et
set_option Elab.async false
set_option linter.all false
set_option maxRecDepth 100000
set_option maxHeartbeats 2000000
namespace DL
open PySem PySem.Spec PyProof.Rows L2

/-! ### what a value means, in a heap -/
/-- a key as a datum -/
def keyD : Key → PyData
  | .inl i => .int i
  | .inr x => .str x
mutual
inductive Rp (K : PySem.W.Frag) (H : Hp) : V → PyData → Prop
  | non : Rp K H .non .none
  | bl (b : Bool) : Rp K H (.bl b) (.bool b)
  | int (i : Int) : Rp K H (.int i) (.int i)
  | str (x : Str) : Rp K H (.str x) (.str x)
  | lst {a : Addr} {xs : List V} {ds : List PyData} : H a = some (.lst xs) → RpAll K H xs ds → Rp K H (.ref a) (.list ds)
  | tup {a : Addr} {xs : List V} {ds : List PyData} : SqT K H a xs → RpAll K H xs ds → Rp K H (.ref a) (.tuple ds)
  | dct {a : Addr} {kvs : List (Key × V)} {ds : List PyData} : H a = some (.dK kvs) → RpAll K H (kvs.map (·.2)) ds → Rp K H (.ref a) (.dict ((kvs.map fun p => keyD p.1).zip ds))
inductive RpAll (K : PySem.W.Frag) (H : Hp) : List V → List PyData → Prop
  | nil : RpAll K H [] []
  | cons {v : V} {vs : List V} {d : PyData} {ds : List PyData} : Rp K H v d → RpAll K H vs ds → RpAll K H (v :: vs) (d :: ds)
end
theorem sameT {K : PySem.W.Frag} {H H' : Hp} {a : Addr} {xs : List V} (e : Same H H') (h : SqT K H a xs) : SqT K H' a xs := by
  rcases h with (h | ⟨o, h⟩) | h
  · exact .inl (.inl (e _ _ h))
  · exact .inl (.inr ⟨o, e _ _ h⟩)
  · exact .inr h
theorem sameRd {H H' : Hp} {a : Addr} {u : HO} (e : Same H H') (h : Rd H a u) : Rd H' a u := by
  rcases h with h | ⟨o, h⟩
  · exact .inl (e _ _ h)
  · exact .inr ⟨o, e _ _ h⟩
mutual
theorem Rp.same {K : PySem.W.Frag} {H H' : Hp} (e : Same H H') : ∀ {v : V} {d : PyData}, Rp K H v d → Rp K H' v d
  | _, _, .non => .non
  | _, _, .bl b => .bl b
  | _, _, .int i => .int i
  | _, _, .str x => .str x
  | _, _, .lst s r => .lst (e _ _ s) (r.same e)
  | _, _, .tup s r => .tup (sameT e s) (r.same e)
  | _, _, .dct s r => .dct (e _ _ s) (r.same e)
theorem RpAll.same {K : PySem.W.Frag} {H H' : Hp} (e : Same H H') : ∀ {vs : List V} {ds : List PyData}, RpAll K H vs ds → RpAll K H' vs ds
  | _, _, .nil => .nil
  | _, _, .cons a b => .cons (a.same e) (b.same e)
end
theorem RpAll.length {K : PySem.W.Frag} {H : Hp} : ∀ {vs : List V} {ds : List PyData}, RpAll K H vs ds → vs.length = ds.length
  | _, _, .nil => rfl
  | _, _, .cons _ b => by rw [List.length_cons, List.length_cons, b.length]
theorem RpAll.append {K : PySem.W.Frag} {H : Hp} : ∀ {vs ws : List V} {ds es : List PyData}, RpAll K H vs ds → RpAll K H ws es → RpAll K H (vs ++ ws) (ds ++ es)
  | _, _, _, _, .nil, q => q
  | _, _, _, _, .cons a b, q => .cons a (b.append q)
theorem RpAll.take {K : PySem.W.Frag} {H : Hp} : ∀ {vs : List V} {ds : List PyData} (n : Nat), RpAll K H vs ds → RpAll K H (vs.take n) (ds.take n)
  | _, _, 0, _ => .nil
  | _, _, _ + 1, .nil => .nil
  | _, _, n + 1, .cons a b => .cons a (b.take n)
theorem RpAll.drop {K : PySem.W.Frag} {H : Hp} : ∀ {vs : List V} {ds : List PyData} (n : Nat), RpAll K H vs ds → RpAll K H (vs.drop n) (ds.drop n)
  | _, _, 0, r => r
  | _, _, _ + 1, .nil => .nil
  | _, _, n + 1, .cons _ b => b.drop n
theorem RpAll.get {K : PySem.W.Frag} {H : Hp} : ∀ {vs : List V} {ds : List PyData} {i : Nat} {v : V}, RpAll K H vs ds → vs[i]? = some v → ∃ d, ds[i]? = some d ∧ Rp K H v d
  | _, _, _, _, .nil, e => by simp at e
  | _, _, 0, _, .cons a _, e => by simp at e; subst e; exact ⟨_, rfl, a⟩
  | _, _, i + 1, v, .cons _ b, e => by
    obtain ⟨d, h1, h2⟩ := b.get (i := i) (v := v) (by simpa using e)
    exact ⟨d, by simpa using h1, h2⟩
theorem RpAll.getD {K : PySem.W.Frag} {H : Hp} : ∀ {vs : List V} {ds : List PyData} {i : Nat} {d : PyData}, RpAll K H vs ds → ds[i]? = some d → ∃ v, vs[i]? = some v ∧ Rp K H v d
  | _, _, _, _, .nil, e => by simp at e
  | _, _, 0, _, .cons a _, e => by simp at e; subst e; exact ⟨_, rfl, a⟩
  | _, _, i + 1, d, .cons _ b, e => by
    obtain ⟨v, h1, h2⟩ := b.getD (i := i) (d := d) (by simpa using e)
    exact ⟨v, by simpa using h1, h2⟩
/-! data that == can be asked of -/
mutual
theorem Rp.dp {K : PySem.W.Frag} {H : Hp} : ∀ {v : V} {d : PyData}, Rp K H v d → d.canLay0 = true → Dp K H v d
  | _, _, .non, _ => .non
  | _, _, .bl b, _ => .bl b
  | _, _, .int i, _ => .int i
  | _, _, .str x, _ => .str x
  | _, _, .lst s r, h => .lst (SqL.of s) (r.dp (by simpa [PyData.canLay0] using h))
  | _, _, .tup s r, h => .tup s (r.dp (by simpa [PyData.canLay0] using h))
  | _, _, .dct s r, h => by simp [PyData.canLay0] at h
theorem RpAll.dp {K : PySem.W.Frag} {H : Hp} : ∀ {vs : List V} {ds : List PyData}, RpAll K H vs ds → PyData.canLayAll0 ds = true → DpAll K H vs ds
  | _, _, .nil, _ => .nil
  | _, _, .cons a b, h => by
    have h' := h
    rw [PyData.canLayAll0, Bool.and_eq_true] at h'
    exact .cons (a.dp h'.1) (b.dp h'.2)
end
theorem Rp.dpS {K : PySem.W.Frag} {H : Hp} {v : V} {d : PyData} (r : Rp K H v d) (h : SeqAt.shaped d = true) : Dp K H v d := r.dp (SeqAt.canLay_of_shaped h)

/-! ### entities: what a name holds -/
inductive Ent where
  /-- a datum that nobody changes here -/
  | im (d : PyData)
  /-- a list of one's own (as a result: a new one) -/
  | ow (ds : List PyData)
  /-- one's own list at a slot, read -/
  | br (i : Nat) (ds : List PyData)
  /-- an object of the kind t -/
  | ob (t : Nat) (d : PyData)
  /-- the draw -/
  | dr
structure S where
  env : List (Option Ent)
  n : Nat
/-- what may be hidden: lists, the draw's dict, a dict in the making -/
def Hk (o : HO) : Prop := (∃ xs, o = .lst xs) ∨ (∃ r kvs, o = .dK ((Sum.inr "wide", r) :: kvs)) ∨ o = .dK []
/-- what stands at a is of this kind -/
def HkAt (H : Hp) (a : Addr) : Prop := ∃ o, H a = some o ∧ Hk o
theorem HkAt.some {H : Hp} {a : Addr} (h : HkAt H a) : (H a).isSome = true := by
  obtain ⟨o, e, _⟩ := h
  rw [e]
  rfl
/-- what the objects are, and the draw -/
structure Lay where
  Ob : PySem.W.Frag → Nat → PyData → V → Hp → Prop
  mono : ∀ {K : PySem.W.Frag} {t : Nat} {d : PyData} {v : V} {H H' : Hp}, Same H H' → Ob K t d v H → Ob K t d v H'
  Stk : Addr × Addr × Addr → Nat → Hp → Prop
  keep : ∀ {z : Addr × Addr × Addr} {n : Nat} {H H' : Hp}, Stk z n H → (∀ b o, (b = z.1 ∨ b = z.2.1 ∨ b = z.2.2) → H b = some o → H' b = some o) → Stk z n H'
  there : ∀ {z : Addr × Addr × Addr} {n : Nat} {H : Hp}, Stk z n H → ∀ b, (b = z.1 ∨ b = z.2.1 ∨ b = z.2.2) → HkAt H b
abbrev Zt := Option (Addr × Addr × Addr)
def zin (Z : Zt) (a : Addr) : Prop := ∃ z, Z = some z ∧ (a = z.1 ∨ a = z.2.1 ∨ a = z.2.2)
/-- the heap without what is hidden -/
def vis (hd : Addr → Bool) (O : List Addr) (H : Hp) : Hp := fun a => if hd a = true ∨ a ∈ O then none else H a
theorem vis_some {hd : Addr → Bool} {O : List Addr} {H : Hp} {a : Addr} {o : HO} : vis hd O H a = some o ↔ hd a = false ∧ a ∉ O ∧ H a = some o := by
  unfold vis
  by_cases h : hd a = true ∨ a ∈ O
  · rw [if_pos h]
    constructor
    · intro e; cases e
    · rintro ⟨h1, h2, _⟩
      rcases h with h | h
      · rw [h1] at h; cases h
      · exact absurd h h2
  · rw [if_neg h]
    constructor
    · intro e
      exact ⟨by cases q : hd a with | true => exact absurd (.inl q) h | false => rfl, fun q => h (.inr q), e⟩
    · exact fun e => e.2.2
theorem vis_le {hd : Addr → Bool} {O : List Addr} {H : Hp} : Same (vis hd O H) H := fun a o e => (vis_some.mp e).2.2
/-- all but the draw stands -/
def Frm (Z : Zt) (H H' : Hp) : Prop := ∀ b o, ¬ zin Z b → H b = some o → H' b = some o
theorem Frm.refl {Z : Zt} (H : Hp) : Frm Z H H := fun _ _ _ e => e
theorem Frm.trans {Z : Zt} {H H1 H2 : Hp} (a : Frm Z H H1) (b : Frm Z H1 H2) : Frm Z H H2 := fun c o n e => b c o n (a c o n e)
theorem Frm.of {Z : Zt} {H H' : Hp} (s : Same H H') : Frm Z H H' := fun b o _ e => s b o e

section
variable (L : Lay) (K : PySem.W.Frag) (hd : Addr → Bool) (Z : Zt)
/-- what a slot holds -/
def Sl (O : List Addr) (H : Hp) (v : V) : Ent → Prop
  | .im d => Rp K (vis hd O H) v d
  | .ow ds => ∃ p vs, v = .ref p ∧ p ∈ O ∧ H p = some (.lst vs) ∧ RpAll K (vis hd O H) vs ds
  | .br _ _ => False
  | .ob t d => L.Ob K t d v (vis hd O H)
  | .dr => ∃ z, Z = some z ∧ v = .ref z.1
/-- the state -/
structure Ok (B : Hp) (O : List Addr) (σ : L2.St) (H : Hp) (s : S) : Prop where
  stood : ∀ b o, B b = some o → H b = some o
  offO : ∀ a ∈ O, B a = none ∧ hd a = false ∧ ∃ xs, H a = some (.lst xs)
  offZ : ∀ a, zin Z a → B a = none ∧ hd a = true
  liveB : ∀ a, hd a = true → HkAt B a ∨ zin Z a
  stk : ∀ z, Z = some z → L.Stk z s.n H
  slot : ∀ (i : Nat) (e : Ent), s.env[i]? = some (some e) → ∃ v : V, σ[i]? = some (some v) ∧ Sl L K hd Z O H v e
  apart : ∀ (i j : Nat) (ds es : List PyData) (p : Addr), s.env[i]? = some (some (.ow ds)) → s.env[j]? = some (some (.ow es)) → σ[i]? = some (some (.ref p)) → σ[j]? = some (some (.ref p)) → i = j
  len : s.env.length = σ.length
/-- what an expression gives, begun at H, ended at H' -/
def Rs (O : List Addr) (σ : L2.St) (H H' : Hp) (v : V) : Ent → Prop
  | .im d => Rp K (vis hd O H') v d
  | .ow ds => ∃ p vs, v = .ref p ∧ H p = none ∧ hd p = false ∧ p ∉ O ∧ H' p = some (.lst vs) ∧ RpAll K (vis hd (p :: O) H') vs ds
  | .br i ds => ∃ p vs, v = .ref p ∧ σ[i]? = some (some (.ref p)) ∧ p ∈ O ∧ H' p = some (.lst vs) ∧ RpAll K (vis hd O H') vs ds
  | .ob t d => L.Ob K t d v (vis hd O H')
  | .dr => ∃ z, Z = some z ∧ v = .ref z.1
end
section
variable {L : Lay} {K : PySem.W.Frag} {hd : Addr → Bool} {Z : Zt} {B : Hp} {O : List Addr} {σ : L2.St} {H H' H'' : Hp} {s : S} {v : V} {r : Ent}
theorem Ok.live (k : Ok L K hd Z B O σ H s) {a : Addr} (h : hd a = true) : HkAt H a := by
  rcases k.liveB a h with q | ⟨z, rfl, q⟩
  · obtain ⟨o, e, r⟩ := q
    exact ⟨o, k.stood a o e, r⟩
  · exact L.there (k.stk z rfl) a q
theorem Ok.fresh (k : Ok L K hd Z B O σ H s) {p : Addr} (h : H p = none) : hd p = false ∧ p ∉ O ∧ ¬ zin Z p := by
  refine ⟨?_, fun q => ?_, fun q => ?_⟩
  · cases e : hd p with
    | false => rfl
    | true => have := (k.live e).some; rw [h] at this; cases this
  · obtain ⟨xs, z⟩ := (k.offO p q).2.2; rw [h] at z; cases z
  · have := (k.live (k.offZ p q).2).some; rw [h] at this; cases this
/-- what is of another kind is seen -/
theorem Ok.seen (k : Ok L K hd Z B O σ H s) {a : Addr} {o : HO} (e : H a = some o) (n : ¬ Hk o) : vis hd O H a = some o := by
  refine vis_some.mpr ⟨?_, fun q => ?_, e⟩
  · cases z : hd a with
    | false => rfl
    | true =>
      obtain ⟨o', e', h'⟩ := k.live z
      rw [e] at e'
      cases e'
      exact absurd h' n
  · obtain ⟨xs, e'⟩ := (k.offO a q).2.2
    rw [e] at e'
    cases e'
    exact absurd (.inl ⟨xs, rfl⟩) n
theorem vis_frm (k : Ok L K hd Z B O σ H s) (f : Frm Z H H') : Same (vis hd O H) (vis hd O H') := fun a o e => by
  obtain ⟨h1, h2, h3⟩ := vis_some.mp e
  refine vis_some.mpr ⟨h1, h2, f a o (fun q => ?_) h3⟩
  rw [(k.offZ a q).2] at h1; cases h1
theorem vis_frmX (k : Ok L K hd Z B O σ H s) {O' : List Addr} (f : Frm Z H' H'') : Same (vis hd O' H') (vis hd O' H'') := fun a o e => by
  obtain ⟨h1, h2, h3⟩ := vis_some.mp e
  refine vis_some.mpr ⟨h1, h2, f a o (fun q => ?_) h3⟩
  rw [(k.offZ a q).2] at h1; cases h1
/-- all but the draw stands, and the draw is a draw again -/
theorem Ok.step (k : Ok L K hd Z B O σ H s) {m : Nat} (f : Frm Z H H') (st : ∀ z, Z = some z → L.Stk z m H') : Ok L K hd Z B O σ H' { s with n := m } := by
  refine ⟨fun b o e => f b o (fun q => ?_) (k.stood b o e), fun a h => ?_, k.offZ, k.liveB, st, fun i e h => ?_, k.apart, k.len⟩
  · rw [(k.offZ b q).1] at e; cases e
  · obtain ⟨h1, h2, h3⟩ := k.offO a h
    obtain ⟨xs, e⟩ := h3
    exact ⟨h1, h2, xs, f a _ (fun q => by rw [(k.offZ a q).2] at h2; cases h2) e⟩
  · obtain ⟨v, h1, h2⟩ := k.slot i e h
    refine ⟨v, h1, ?_⟩
    cases e with
    | im d => exact Rp.same (vis_frm k f) h2
    | ow ds =>
      obtain ⟨p, vs, e1, e2, e3, e4⟩ := h2
      exact ⟨p, vs, e1, e2, f p _ (fun q => by have := (k.offO p e2).2.1; rw [(k.offZ p q).2] at this; cases this) e3, e4.same (vis_frm k f)⟩
    | br _ _ => exact h2
    | ob t d => exact L.mono (vis_frm k f) h2
    | dr => exact h2
theorem Ok.same (k : Ok L K hd Z B O σ H s) (f : Same H H') : Ok L K hd Z B O σ H' s := k.step (m := s.n) (Frm.of f) fun z e => L.keep (k.stk z e) fun b o _ q => f b o q
/-- what was told of a result stays -/
theorem Rs.stepF (k : Ok L K hd Z B O σ H s) {H1 : Hp} (f : Frm Z H' H'') (h : Rs L K hd Z O σ H1 H' v r) : Rs L K hd Z O σ H1 H'' v r := by
  cases r with
  | im d => exact Rp.same (vis_frmX k f) h
  | ow ds =>
    obtain ⟨p, vs, e1, e2, e3, e4, e5, e6⟩ := h
    exact ⟨p, vs, e1, e2, e3, e4, f p _ (fun q => by rw [(k.offZ p q).2] at e3; cases e3) e5, e6.same (vis_frmX k f)⟩
  | br i ds =>
    obtain ⟨p, vs, e1, e2, e3, e4, e5⟩ := h
    refine ⟨p, vs, e1, e2, e3, f p _ (fun q => ?_) e4, e5.same (vis_frmX k f)⟩
    have := (k.offO p e3).2.1
    rw [(k.offZ p q).2] at this; cases this
  | ob t d => exact L.mono (vis_frmX k f) h
  | dr => exact h
/-- .. begun earlier -/
theorem Rs.backF {H1 : Hp} (k : Ok L K hd Z B O σ H1 s) (f : Frm Z H1 H) (h : Rs L K hd Z O σ H H' v r) : Rs L K hd Z O σ H1 H' v r := by
  cases r with
  | ow ds =>
    obtain ⟨p, vs, e1, e2, e3, e4, e5, e6⟩ := h
    refine ⟨p, vs, e1, ?_, e3, e4, e5, e6⟩
    cases q : H1 p with
    | none => rfl
    | some o =>
      rw [f p o (fun z => by rw [(k.offZ p z).2] at e3; cases e3) q] at e2; cases e2
  | im d => exact h
  | br i ds => exact h
  | ob t d => exact h
  | dr => exact h
/-- from a state to a later one within an expression: all but the draw stands, no name is changed -/
structure Mv (Z : Zt) (H H' : Hp) (s s' : S) : Prop where
  fr : Frm Z H H'
  env : s'.env = s.env
theorem Mv.refl {Z : Zt} {H : Hp} {s : S} : Mv Z H H s s := ⟨Frm.refl H, rfl⟩
theorem Mv.trans {Z : Zt} {H H1 H2 : Hp} {s s1 s2 : S} (a : Mv Z H H1 s s1) (b : Mv Z H1 H2 s1 s2) : Mv Z H H2 s s2 := ⟨a.fr.trans b.fr, b.env.trans a.env⟩
theorem Mv.of {Z : Zt} {H H' : Hp} {s : S} (h : Same H H') : Mv Z H H' s s := ⟨Frm.of h, rfl⟩
theorem Rs.step (k : Ok L K hd Z B O σ H s) {H1 : Hp} {s1 s2 : S} (f : Mv Z H' H'' s1 s2) (h : Rs L K hd Z O σ H1 H' v r) : Rs L K hd Z O σ H1 H'' v r := Rs.stepF k f.fr h
theorem Rs.back {H1 : Hp} {s1 s2 : S} (k : Ok L K hd Z B O σ H1 s) (f : Mv Z H1 H s1 s2) (h : Rs L K hd Z O σ H H' v r) : Rs L K hd Z O σ H1 H' v r := Rs.backF k f.fr h
/-- a result as a datum -/
def Ent.dat : Ent → Option PyData
  | .im d => some d
  | .ow ds => some (.list ds)
  | .br _ ds => some (.list ds)
  | _ => none
/-- .. in the whole heap -/
theorem Rs.data {d : PyData} (h : Rs L K hd Z O σ H H' v r) (e : r.dat = some d) : Rp K H' v d := by
  cases r with
  | im d' => cases e; exact Rp.same vis_le h
  | ow ds =>
    cases e
    obtain ⟨p, vs, rfl, _, _, _, e5, e6⟩ := h
    exact .lst e5 (e6.same vis_le)
  | br i ds =>
    cases e
    obtain ⟨p, vs, rfl, _, _, e4, e5⟩ := h
    exact .lst e4 (e5.same vis_le)
  | ob t d => cases e
  | dr => cases e
/-- a datum that is kept: no list of one's own -/
def Ent.kept : Ent → Option PyData
  | .im d => some d
  | .ow ds => some (.list ds)
  | _ => none
theorem vis_more {p : Addr} : Same (vis hd (p :: O) H) (vis hd O H) := fun a o e => by
  obtain ⟨h1, h2, h3⟩ := vis_some.mp e
  exact vis_some.mpr ⟨h1, fun q => h2 (List.mem_cons_of_mem _ q), h3⟩
theorem Rs.keeps {d : PyData} (h : Rs L K hd Z O σ H H' v r) (e : r.kept = some d) : Rp K (vis hd O H') v d := by
  cases r with
  | im d' => cases e; exact h
  | ow ds =>
    cases e
    obtain ⟨p, vs, rfl, _, e3, e4, e5, e6⟩ := h
    exact .lst (vis_some.mpr ⟨e3, e4, e5⟩) (e6.same vis_more)
  | br i ds => cases e
  | ob t d => cases e
  | dr => cases e
end

/-! ### judgements -/
/-- the weakest reading of an expression, of a test, of a statement -/
def tW (X : Cx) (e : Expr) : TE := fun σ H Q => ∀ pins sh, Inv X pins σ H sh → wpAny (model X.prog X.w) X.A (eval e X.env) (EP X pins σ Q) X.xe sh
theorem peW {X : Cx} {e : Expr} : PE X e (tW X e) := ⟨fun pins sh σ H Q I h => h pins sh I⟩
theorem tW_of {X : Cx} {e : Expr} {t : TE} {σ : L2.St} {H : Hp} {Q : VK} (h : PE X e t) (q : t σ H Q) : tW X e σ H Q := fun pins sh I => h.run pins sh σ H Q I q
def ttW (X : Cx) (e : Expr) : TT := fun σ H Q => ∀ pins sh, Inv X pins σ H sh → wpAny (model X.prog X.w) X.A (isTrue e X.env (eval e X.env)) (TP X pins σ Q) X.xe sh
theorem ptW {X : Cx} {e : Expr} : PT X e (ttW X e) := ⟨fun pins sh σ H Q I h => h pins sh I⟩
theorem ttW_of {X : Cx} {e : Expr} {t : TT} {σ : L2.St} {H : Hp} {Q : Bool → Hp → Prop} (h : PT X e t) (q : t σ H Q) : ttW X e σ H Q := fun pins sh I => h.run pins sh σ H Q I q
def tsW (X : Cx) (st : Stmt) : TS := fun D σ H => ∀ pins sh, Inv X pins σ H sh → wpAny (model X.prog X.w) X.A (exec st X.env) (SP X pins D) X.xe sh
theorem psW {X : Cx} {st : Stmt} : PS X st (tsW X st) := ⟨fun pins sh σ H D I h => h pins sh I⟩
theorem tsW_of {X : Cx} {st : Stmt} {t : TS} {σ : L2.St} {H : Hp} {D : Ends} (h : PS X st t) (q : t D σ H) : tsW X st D σ H := fun pins sh I => h.run pins sh σ H D I q
def tssW (X : Cx) (st : List Stmt) : TS := fun D σ H => ∀ pins sh, Inv X pins σ H sh → wpAny (model X.prog X.w) X.A (execs st X.env) (SP X pins D) X.xe sh
theorem pssW {X : Cx} {st : List Stmt} : PSs X st (tssW X st) := ⟨fun pins sh σ H D I h => h pins sh I⟩
theorem tssW_of {X : Cx} {st : List Stmt} {t : TS} {σ : L2.St} {H : Hp} {D : Ends} (h : PSs X st t) (q : t D σ H) : tssW X st D σ H := fun pins sh I => h.run pins sh σ H D I q
theorem tW.mono {X : Cx} {e : Expr} {σ : L2.St} {H : Hp} {Q Q' : VK} (h : tW X e σ H Q) (k : ∀ v H', Q v H' → Q' v H') : tW X e σ H Q' := fun pins sh I =>
  wpAny_mono (h pins sh I) (fun _ _ ⟨v, H', I', r, q⟩ => ⟨v, H', I', r, k v H' q⟩) fun _ _ z => z

abbrev FE := S → (Ent → S → Prop) → Prop
abbrev FT := S → (Bool → S → Prop) → Prop
abbrev FA := S → (List Ent → S → Prop) → Prop
structure EE where
  nx : S → Prop
  rt : Ent → Nat → Prop
  bk : S → Prop := fun _ => False
  ct : S → Prop := fun _ => False
abbrev FS := EE → S → Prop
structure XE (L : Lay) (X : Cx) (e : Expr) (f : FE) : Prop where
  mono : ∀ s Q Q', (∀ r s', Q r s' → Q' r s') → f s Q → f s Q'
  run : ∀ hd Z B O σ H s Q, Ok L X.K hd Z B O σ H s → f s (fun r s' => ∀ v H', Ok L X.K hd Z B O σ H' s' → Mv Z H H' s s' → Rs L X.K hd Z O σ H H' v r → Q v H') → tW X e σ H Q
structure XT (L : Lay) (X : Cx) (e : Expr) (f : FT) : Prop where
  mono : ∀ s Q Q', (∀ r s', Q r s' → Q' r s') → f s Q → f s Q'
  run : ∀ hd Z B O σ H s Q, Ok L X.K hd Z B O σ H s → f s (fun b s' => ∀ H', Ok L X.K hd Z B O σ H' s' → Mv Z H H' s s' → Q b H') → ttW X e σ H Q
/-- the results of an argument list -/
inductive RsAll (L : Lay) (K : PySem.W.Frag) (hd : Addr → Bool) (Z : Zt) (O : List Addr) (σ : L2.St) (H H' : Hp) : List V → List Ent → Prop
  | nil : RsAll L K hd Z O σ H H' [] []
  | cons {v : V} {vs : List V} {r : Ent} {rs : List Ent} : Rs L K hd Z O σ H H' v r → RsAll L K hd Z O σ H H' vs rs → RsAll L K hd Z O σ H H' (v :: vs) (r :: rs)
def taW (X : Cx) (es : List Expr) : TA := fun σ H Q => ∀ pos pins sh, Inv X pins σ H sh → wpAny (model X.prog X.w) X.A (spliced (backTo pos (starEach es X.env))) (AP X pins σ Q) X.xe sh
theorem paW {X : Cx} {es : List Expr} : PA X es (taW X es) := ⟨fun pos pins sh σ H Q I h => h pos pins sh I⟩
theorem taW_of {X : Cx} {es : List Expr} {t : TA} {σ : L2.St} {H : Hp} {Q : List V → Hp → Prop} (h : PA X es t) (q : t σ H Q) : taW X es σ H Q := fun pos pins sh I => h.run pos pins sh σ H Q I q
structure XA (L : Lay) (X : Cx) (es : List Expr) (m : Nat) (f : FA) : Prop where
  bnd : ∀ s Q, f s Q → f s fun rs s' => rs.length ≤ m ∧ Q rs s'
  mono : ∀ s Q Q', (∀ r s', Q r s' → Q' r s') → f s Q → f s Q'
  run : ∀ hd Z B O σ H s Q, Ok L X.K hd Z B O σ H s → f s (fun rs s' => ∀ vs H', Ok L X.K hd Z B O σ H' s' → Mv Z H H' s s' → RsAll L X.K hd Z O σ H H' vs rs → Q vs H') → taW X es σ H Q
/-- what is wanted behind a statement, told by data -/
structure Real (L : Lay) (K : PySem.W.Frag) (hd : Addr → Bool) (Z : Zt) (B : Hp) (E : EE) (D : Ends) : Prop where
  nx : ∀ O σ H s, E.nx s → Ok L K hd Z B O σ H s → D.nx σ H
  rt : ∀ r n v H, E.rt r n → Frm Z B H → (∀ z, Z = some z → L.Stk z n H) → Rs L K hd Z [] [] B H v r → D.rt v H
  bk : ∀ O σ H s, E.bk s → Ok L K hd Z B O σ H s → D.bk σ H
  ct : ∀ O σ H s, E.ct s → Ok L K hd Z B O σ H s → D.ct σ H
def EE.Le (E E' : EE) : Prop := (∀ s, E.nx s → E'.nx s) ∧ (∀ r n, E.rt r n → E'.rt r n) ∧ (∀ s, E.bk s → E'.bk s) ∧ (∀ s, E.ct s → E'.ct s)
structure XS (L : Lay) (X : Cx) (st : Stmt) (f : FS) : Prop where
  mono : ∀ E E' s, E.Le E' → f E s → f E' s
  run : ∀ hd Z B O σ H s E D, Ok L X.K hd Z B O σ H s → Real L X.K hd Z B E D → f E s → tsW X st D σ H
structure XSs (L : Lay) (X : Cx) (st : List Stmt) (f : FS) : Prop where
  mono : ∀ E E' s, E.Le E' → f E s → f E' s
  run : ∀ hd Z B O σ H s E D, Ok L X.K hd Z B O σ H s → Real L X.K hd Z B E D → f E s → tssW X st D σ H
end DL
set_option Elab.async false
set_option linter.all false
set_option maxRecDepth 100000
set_option maxHeartbeats 2000000
namespace DL
open PySem PySem.Spec PyProof.Rows L2

/-! ### slots -/
def gt : List (Option Ent) → Nat → Option Ent
  | [], _ => none
  | e :: _, 0 => e
  | _ :: r, i + 1 => gt r i
def pt : List (Option Ent) → Nat → Option Ent → List (Option Ent)
  | [], _, _ => []
  | _ :: r, 0, x => x :: r
  | e :: r, i + 1, x => e :: pt r i x
theorem gt_some : ∀ {l : List (Option Ent)} {i : Nat} {e : Ent}, gt l i = some e ↔ l[i]? = some (some e)
  | [], i, e => by simp [gt]
  | x :: r, 0, e => by simp [gt]
  | x :: r, i + 1, e => by simpa [gt] using gt_some (l := r) (i := i) (e := e)
theorem pt_set : ∀ (l : List (Option Ent)) (i : Nat) (x : Option Ent), pt l i x = l.set i x
  | [], _, _ => rfl
  | _ :: _, 0, _ => rfl
  | e :: r, i + 1, x => by
    show e :: pt r i x = e :: r.set i x
    rw [pt_set r i x]
/-- a slot's value as a result -/
def asR (i : Nat) : Ent → Ent
  | .ow ds => .br i ds
  | e => e
def fVar (i : Nat) : FE := fun s Q => match gt s.env i with
  | some e => Q (asR i e) s
  | none => False
section
variable {L : Lay} {X : Cx} {pos : Pos}
theorem Ok.read {hd : Addr → Bool} {Z : Zt} {B : Hp} {O : List Addr} {σ : L2.St} {H : Hp} {s : S} (k : Ok L X.K hd Z B O σ H s) {i : Nat} {e : Ent} (h : gt s.env i = some e) : ∃ v : V, σ[i]? = some (some v) ∧ Rs L X.K hd Z O σ H H v (asR i e) := by
  obtain ⟨v, h1, h2⟩ := k.slot i e (gt_some.mp h)
  refine ⟨v, h1, ?_⟩
  cases e with
  | im d => exact h2
  | ow ds =>
    obtain ⟨p, vs, rfl, e2, e3, e4⟩ := h2
    exact ⟨p, vs, rfl, h1, e2, e3, e4⟩
  | br _ _ => exact h2.elim
  | ob t d => exact h2
  | dr => exact h2
theorem xVar (i : Nat) {x : Str} (hN : X.N[i]? = some x := by rfl) (hv : Vis X.env.scope x := by first | exact Or.inl rfl | exact Or.inr (Or.inl rfl) | exact Or.inr (Or.inr rfl)) (hd : (x == ("__debug__" : Str)) = false := by decide)
    (hcd : (x == ("__classdict__" : Str)) = false := by decide) : XE L X (.Name x pos) (fVar i) := by
  refine ⟨fun s Q Q' k h => ?_, fun hd' Z B O σ H s Q ok h => ?_⟩
  · unfold fVar at h ⊢
    cases e : gt s.env i with
    | none => rw [e] at h; exact h
    | some r => rw [e] at h; exact k _ _ h
  · unfold fVar at h
    cases e : gt s.env i with
    | none => rw [e] at h; exact h.elim
    | some r =>
      rw [e] at h
      obtain ⟨v, h1, h2⟩ := ok.read e
      exact tW_of (pe_var hN hv hd hcd) ⟨v, h1, h v H ok Mv.refl h2⟩
def fK (d : PyData) : FE := fun s Q => Q (.im d) s
theorem xConst {e : Expr} {v : V} {d : PyData} (h : PE X e (tC v)) (r : ∀ H, Rp X.K H v d) : XE L X e (fK d) :=
  ⟨fun s Q Q' k h => k _ _ h, fun hd Z B O σ H s Q ok q => tW_of h (q v H ok Mv.refl (r _))⟩
theorem xInt {i j} : XE L X (.Constant (.int i) j pos) (fK (.int i)) := xConst pe_int fun _ => .int i
theorem xBl {b j} : XE L X (.Constant (.bool b) j pos) (fK (.bool b)) := xConst pe_bl fun _ => .bl b
theorem xNon {j} : XE L X (.Constant .none j pos) (fK .none) := xConst pe_non fun _ => .non
theorem xStr {x j} : XE L X (.Constant (.str x) j pos) (fK (.str x)) := xConst pe_str fun _ => .str x
/-- a constant of the module -/
structure GK (X : Cx) (x : Str) (d : PyData) : Prop where
  ex : ∃ v u, X.mg x = some u ∧ RelV v u ∧ ∀ H, Rp X.K H v d
theorem xGlob {x : Str} {d : PyData} (g : GK X x d) (hg : Gl X x := by rfl) (hd : (x == ("__debug__" : Str)) = false := by decide) : XE L X (.Name x pos) (fK d) :=
  let ⟨_, _, hm, r, q⟩ := g.ex
  xConst (pe_glob hg hm r hd) q

/-! ### operators -/
abbrev O2 := Ent → Ent → (Ent → Prop) → Prop
structure OpS (L : Lay) (X : Cx) (f : Value → Value → Sem Value) (o : O2) : Prop where
  mono : ∀ a b Q Q', (∀ r, Q r → Q' r) → o a b Q → o a b Q'
  ex : ∃ r : R2, OpR X f r ∧ ∀ hd Z B O σ Ha Hb H s x y a b Q, Ok L X.K hd Z B O σ H s → Rs L X.K hd Z O σ Ha H x a → Rs L X.K hd Z O σ Hb H y b → o a b Q → ∀ Q' : VK, (∀ v e H', Q e → Same H H' → Rs L X.K hd Z O σ H H' v e → Q' v H') → r x y H Q'
def f2 (o : O2) (fa fb : FE) : FE := fun s Q => fa s fun a s1 => fb s1 fun b s2 => o a b fun r => Q r s2
theorem f2_mono {o : O2} {fa fb : FE} {a b : Expr} (ho : ∀ a b Q Q', (∀ r, Q r → Q' r) → o a b Q → o a b Q') (ha : XE L X a fa) (hb : XE L X b fb) : ∀ s Q Q', (∀ r s', Q r s' → Q' r s') → f2 o fa fb s Q → f2 o fa fb s Q' :=
  fun s Q Q' k h => ha.mono s _ _ (fun r s1 h1 => hb.mono s1 _ _ (fun r2 s2 h2 => ho _ _ _ _ (fun r3 q => k _ _ q) h2) h1) h
variable {a b : Expr} {fa fb : FE}
theorem xBin {op : Operator} {o : O2} (ho : OpS L X (binaryOp op) o) (ha : XE L X a fa) (hb : XE L X b fb) : XE L X (.BinOp a op b pos) (f2 o fa fb) := by
  refine ⟨f2_mono ho.mono ha hb, fun hd Z B O σ H s Q ok h => ?_⟩
  obtain ⟨r, hr, q⟩ := ho.ex
  refine tW_of (pe_op hr peW peW) (ha.run hd Z B O σ H s _ ok (ha.mono _ _ _ (fun e1 s1 h1 x H1 k1 f1 r1 => ?_) h))
  refine hb.run hd Z B O σ H1 s1 _ k1 (hb.mono _ _ _ (fun e2 s2 h2 y H2 k2 f2 r2 => ?_) h1)
  exact q hd Z B O σ H H1 H2 s2 x y e1 e2 _ k2 (Rs.step k1 f2 r1) r2 h2 _ fun v e H' he sm rv => he v H' (k2.same sm) ((f1.trans f2).trans (Mv.of sm)) (Rs.back ok (f1.trans f2) rv)
theorem xCmp {op : CmpOp} {o : O2} (ho : OpS L X (compareOp op) o) (ha : XE L X a fa) (hb : XE L X b fb) (hm : behindInMarks op b = false := by rfl) : XE L X (.Compare a [op] [b] pos) (f2 o fa fb) := by
  refine ⟨f2_mono ho.mono ha hb, fun hd Z B O σ H s Q ok h => ?_⟩
  obtain ⟨r, hr, q⟩ := ho.ex
  refine tW_of (pe_cmpR hr peW peW hm) (ha.run hd Z B O σ H s _ ok (ha.mono _ _ _ (fun e1 s1 h1 x H1 k1 f1 r1 => ?_) h))
  refine hb.run hd Z B O σ H1 s1 _ k1 (hb.mono _ _ _ (fun e2 s2 h2 y H2 k2 f2 r2 => ?_) h1)
  exact q hd Z B O σ H H1 H2 s2 x y e1 e2 _ k2 (Rs.step k1 f2 r1) r2 h2 _ fun v e H' he sm rv => he v H' (k2.same sm) ((f1.trans f2).trans (Mv.of sm)) (Rs.back ok (f1.trans f2) rv)
/-- a result that is a bool, as a test -/
def isB : Ent → (Bool → Prop) → Prop
  | .im (.bool b), Q => Q b
  | _, _ => False
theorem isB_mono {r : Ent} {Q Q' : Bool → Prop} (k : ∀ b, Q b → Q' b) (h : isB r Q) : isB r Q' := by
  unfold isB at h ⊢
  split at h
  · exact k _ h
  · exact h.elim
theorem isB_v {K : PySem.W.Frag} {hd : Addr → Bool} {Z : Zt} {O : List Addr} {σ : L2.St} {H H' : Hp} {v : V} {r : Ent} {Q : Bool → Prop} (h : isB r Q) (q : Rs L K hd Z O σ H H' v r) : ∃ b, v = .bl b ∧ Q b := by
  unfold isB at h
  split at h
  · cases q
    exact ⟨_, rfl, h⟩
  · exact h.elim
def fB (f : FE) : FT := fun s Q => f s fun r s' => isB r fun b => Q b s'
theorem fB_mono {e : Expr} {f : FE} (h : XE L X e f) : ∀ s Q Q', (∀ r s', Q r s' → Q' r s') → fB f s Q → fB f s Q' :=
  fun s Q Q' k q => h.mono s _ _ (fun r s1 h1 => isB_mono (fun b => k b s1) h1) q
/-- an expression whose value is a bool, as a test; he: by intro _; rfl (no comparison, no and, or, not) -/
theorem xtVal {e : Expr} {f : FE} (h : XE L X e f) (he : ∀ whole, isTrue e X.env whole = (do let v ← whole; standAt e.pos; holding [v] (truthy v)) := by intro _; rfl) : XT L X e (fB f) := by
  refine ⟨fB_mono h, fun hd Z B O σ H s Q ok q => ttW_of (pt_val peW he) (h.run hd Z B O σ H s _ ok (h.mono _ _ _ (fun r s1 h1 v H1 k1 f1 r1 => ?_) q))⟩
  obtain ⟨b, rfl, h2⟩ := isB_v h1 r1
  exact ⟨b, rfl, h2 H1 k1 f1⟩
theorem xtCmp {op : CmpOp} {o : O2} (ho : OpS L X (compareOp op) o) (ha : XE L X a fa) (hb : XE L X b fb) (hm : behindInMarks op b = false := by rfl) : XT L X (.Compare a [op] [b] pos) (fB (f2 o fa fb)) := by
  refine ⟨fB_mono (xCmp (pos := pos) ho ha hb hm), fun hd Z B O σ H s Q ok h => ?_⟩
  obtain ⟨r, hr, q⟩ := ho.ex
  refine ttW_of (pt_cmpR hr peW peW hm) (ha.run hd Z B O σ H s _ ok (ha.mono _ _ _ (fun e1 s1 h1 x H1 k1 f1 r1 => ?_) h))
  refine hb.run hd Z B O σ H1 s1 _ k1 (hb.mono _ _ _ (fun e2 s2 h2 y H2 k2 f2 r2 => ?_) h1)
  refine q hd Z B O σ H H1 H2 s2 x y e1 e2 _ k2 (Rs.step k1 f2 r1) r2 h2 _ fun v e H' he sm rv => ?_
  obtain ⟨b, rfl, h3⟩ := isB_v he rv
  exact ⟨b, rfl, h3 H' (k2.same sm) ((f1.trans f2).trans (Mv.of sm))⟩

/-! ### tests -/
/-- a test whatever its whole is -/
def twW (X : Cx) (e : Expr) : TT := fun σ H Q => ∀ (whole : Sem Value) pins sh, Inv X pins σ H sh → wpAny (model X.prog X.w) X.A (isTrue e X.env whole) (TP X pins σ Q) X.xe sh
theorem pwW {X : Cx} {e : Expr} : PW X e (twW X e) := ⟨fun wh pins sh σ H Q I h => h wh pins sh I⟩
theorem twW_of {e : Expr} {t : TT} {σ : L2.St} {H : Hp} {Q : Bool → Hp → Prop} (h : PW X e t) (q : t σ H Q) : twW X e σ H Q := fun wh pins sh I => h.run wh pins sh σ H Q I q
structure XW (L : Lay) (X : Cx) (e : Expr) (f : FT) : Prop where
  mono : ∀ s Q Q', (∀ r s', Q r s' → Q' r s') → f s Q → f s Q'
  run : ∀ hd Z B O σ H s Q, Ok L X.K hd Z B O σ H s → f s (fun b s' => ∀ H', Ok L X.K hd Z B O σ H' s' → Mv Z H H' s s' → Q b H') → twW X e σ H Q
theorem XW.xt {e : Expr} {f : FT} (h : XW L X e f) : XT L X e f := ⟨h.mono, fun hd Z B O σ H s Q ok q => ttW_of pwW.pt (h.run hd Z B O σ H s Q ok q)⟩
variable {ga gb : FT} {rest : List Expr}
theorem xwAnd1 (ha : XT L X a ga) : XW L X (.BoolOp .And [a] pos) ga := ⟨ha.mono, fun hd Z B O σ H s Q ok q => twW_of (pw_and1 ptW) (ha.run hd Z B O σ H s Q ok q)⟩
theorem xwOr1 (ha : XT L X a ga) : XW L X (.BoolOp .Or [a] pos) ga := ⟨ha.mono, fun hd Z B O σ H s Q ok q => twW_of (pw_or1 ptW) (ha.run hd Z B O σ H s Q ok q)⟩
def fAnd (ga gb : FT) : FT := fun s Q => ga s fun b s1 => match b with
  | true => gb s1 Q
  | false => Q false s1
def fOr (ga gb : FT) : FT := fun s Q => ga s fun b s1 => match b with
  | true => Q true s1
  | false => gb s1 Q
def fNot (ga : FT) : FT := fun s Q => ga s fun b s1 => Q (!b) s1
theorem xwAnd (ha : XT L X a ga) (hb : XW L X (.BoolOp .And (b :: rest) pos) gb) : XW L X (.BoolOp .And (a :: b :: rest) pos) (fAnd ga gb) := by
  refine ⟨fun s Q Q' k h => ha.mono s _ _ (fun c s1 h1 => ?_) h, fun hd Z B O σ H s Q ok h => twW_of (pw_and ptW pwW) (ha.run hd Z B O σ H s _ ok (ha.mono _ _ _ (fun c s1 h1 H1 k1 f1 => ?_) h))⟩
  · cases c with
    | true => exact hb.mono _ _ _ k h1
    | false => exact k _ _ h1
  · cases c with
    | true => exact iteT (hb.run hd Z B O σ H1 s1 _ k1 (hb.mono _ _ _ (fun c s2 h2 H2 k2 f2 => h2 H2 k2 (f1.trans f2)) h1))
    | false => exact iteF (h1 H1 k1 f1)
theorem xwOr (ha : XT L X a ga) (hb : XW L X (.BoolOp .Or (b :: rest) pos) gb) : XW L X (.BoolOp .Or (a :: b :: rest) pos) (fOr ga gb) := by
  refine ⟨fun s Q Q' k h => ha.mono s _ _ (fun c s1 h1 => ?_) h, fun hd Z B O σ H s Q ok h => twW_of (pw_or ptW pwW) (ha.run hd Z B O σ H s _ ok (ha.mono _ _ _ (fun c s1 h1 H1 k1 f1 => ?_) h))⟩
  · cases c with
    | true => exact k _ _ h1
    | false => exact hb.mono _ _ _ k h1
  · cases c with
    | true => exact iteT (h1 H1 k1 f1)
    | false => exact iteF (hb.run hd Z B O σ H1 s1 _ k1 (hb.mono _ _ _ (fun c s2 h2 H2 k2 f2 => h2 H2 k2 (f1.trans f2)) h1))
theorem xtNot (ha : XT L X a ga) : XT L X (.UnaryOp .Not a pos) (fNot ga) :=
  ⟨fun s Q Q' k h => ha.mono s _ _ (fun c s1 h1 => k _ _ h1) h, fun hd Z B O σ H s Q ok h => ttW_of (pt_not ptW) (ha.run hd Z B O σ H s _ ok h)⟩
/-- as values -/
def fAndV (fa fb : FE) : FE := fun s Q => fa s fun r s1 => isB r fun c => match c with
  | true => fb s1 Q
  | false => Q (.im (.bool false)) s1
def fOrV (fa fb : FE) : FE := fun s Q => fa s fun r s1 => isB r fun c => match c with
  | true => Q (.im (.bool true)) s1
  | false => fb s1 Q
def fNotV (fa : FE) : FE := fun s Q => fa s fun r s1 => isB r fun c => Q (.im (.bool (!c))) s1
theorem xOne {op} (h : XE L X a fa) : XE L X (.BoolOp op [a] pos) fa := ⟨h.mono, fun hd Z B O σ H s Q ok q => tW_of (pe_one peW) (h.run hd Z B O σ H s Q ok q)⟩
theorem xAnd (ha : XE L X a fa) (hb : XE L X (.BoolOp .And (b :: rest) pos) fb) : XE L X (.BoolOp .And (a :: b :: rest) pos) (fAndV fa fb) := by
  refine ⟨fun s Q Q' k h => ha.mono s _ _ (fun r s1 h1 => isB_mono (fun c hc => ?_) h1) h, fun hd Z B O σ H s Q ok h => tW_of (pe_and peW peW) (ha.run hd Z B O σ H s _ ok (ha.mono _ _ _ (fun r s1 h1 v H1 k1 f1 r1 => ?_) h))⟩
  · cases c with
    | true => exact hb.mono _ _ _ k hc
    | false => exact k _ _ hc
  · obtain ⟨c, rfl, h2⟩ := isB_v h1 r1
    refine ⟨c, rfl, ?_⟩
    cases c with
    | true => exact iteT (hb.run hd Z B O σ H1 s1 _ k1 (hb.mono _ _ _ (fun r s2 h3 v H2 k2 f2 r2 => h3 v H2 k2 (f1.trans f2) (Rs.back ok f1 r2)) h2))
    | false => exact iteF (h2 _ H1 k1 f1 (.bl false))
theorem xOr (ha : XE L X a fa) (hb : XE L X (.BoolOp .Or (b :: rest) pos) fb) : XE L X (.BoolOp .Or (a :: b :: rest) pos) (fOrV fa fb) := by
  refine ⟨fun s Q Q' k h => ha.mono s _ _ (fun r s1 h1 => isB_mono (fun c hc => ?_) h1) h, fun hd Z B O σ H s Q ok h => tW_of (pe_or peW peW) (ha.run hd Z B O σ H s _ ok (ha.mono _ _ _ (fun r s1 h1 v H1 k1 f1 r1 => ?_) h))⟩
  · cases c with
    | true => exact k _ _ hc
    | false => exact hb.mono _ _ _ k hc
  · obtain ⟨c, rfl, h2⟩ := isB_v h1 r1
    refine ⟨c, rfl, ?_⟩
    cases c with
    | true => exact iteT (h2 _ H1 k1 f1 (.bl true))
    | false => exact iteF (hb.run hd Z B O σ H1 s1 _ k1 (hb.mono _ _ _ (fun r s2 h3 v H2 k2 f2 r2 => h3 v H2 k2 (f1.trans f2) (Rs.back ok f1 r2)) h2))
theorem xNot (ha : XE L X a fa) : XE L X (.UnaryOp .Not a pos) (fNotV fa) := by
  refine ⟨fun s Q Q' k h => ha.mono s _ _ (fun r s1 h1 => isB_mono (fun c hc => k _ _ hc) h1) h, fun hd Z B O σ H s Q ok h => tW_of (pe_not peW) (ha.run hd Z B O σ H s _ ok (ha.mono _ _ _ (fun r s1 h1 v H1 k1 f1 r1 => ?_) h))⟩
  obtain ⟨c, rfl, h2⟩ := isB_v h1 r1
  exact ⟨c, rfl, h2 _ H1 k1 f1 (.bl _)⟩
def fIf (g : FT) (fa fb : FE) : FE := fun s Q => g s fun c s1 => match c with
  | true => fa s1 Q
  | false => fb s1 Q
theorem xIf {c : Expr} {g : FT} (hc : XT L X c g) (ha : XE L X a fa) (hb : XE L X b fb) : XE L X (.IfExp c a b pos) (fIf g fa fb) := by
  refine ⟨fun s Q Q' k h => hc.mono s _ _ (fun c s1 h1 => ?_) h, fun hd Z B O σ H s Q ok h => tW_of (pe_ifExp ptW peW peW) (hc.run hd Z B O σ H s _ ok (hc.mono _ _ _ (fun c s1 h1 H1 k1 f1 => ?_) h))⟩
  · cases c with
    | true => exact ha.mono _ _ _ k h1
    | false => exact hb.mono _ _ _ k h1
  · cases c with
    | true => exact iteT (ha.run hd Z B O σ H1 s1 _ k1 (ha.mono _ _ _ (fun r s2 h3 v H2 k2 f2 r2 => h3 v H2 k2 (f1.trans f2) (Rs.back ok f1 r2)) h1))
    | false => exact iteF (hb.run hd Z B O σ H1 s1 _ k1 (hb.mono _ _ _ (fun r s2 h3 v H2 k2 f2 r2 => h3 v H2 k2 (f1.trans f2) (Rs.back ok f1 r2)) h1))

/-! ### argument lists, displays -/
variable {e : Expr} {es : List Expr} {f : FE} {fs : FA}
def fNil : FA := fun s Q => Q [] s
def fCons (f : FE) (fs : FA) : FA := fun s Q => f s fun r s1 => fs s1 fun rs s2 => Q (r :: rs) s2
theorem xaNil : XA L X [] 0 fNil := ⟨fun s Q h => ⟨Nat.le_refl _, h⟩, fun s Q Q' k h => k _ _ h, fun hd Z B O σ H s Q ok h => taW_of pa_nil (h [] H ok Mv.refl .nil)⟩
theorem RsAll.step {K : PySem.W.Frag} {hd : Addr → Bool} {Z : Zt} {B : Hp} {O : List Addr} {σ : L2.St} {H H' H'' H1 : Hp} {s s1 s2 : S} (k : Ok L K hd Z B O σ H s) (f : Mv Z H' H'' s1 s2) : ∀ {vs : List V} {rs : List Ent}, RsAll L K hd Z O σ H1 H' vs rs → RsAll L K hd Z O σ H1 H'' vs rs
  | _, _, .nil => .nil
  | _, _, .cons a b => .cons (Rs.step k f a) (b.step k f)
theorem RsAll.back {K : PySem.W.Frag} {hd : Addr → Bool} {Z : Zt} {B : Hp} {O : List Addr} {σ : L2.St} {H H' H1 : Hp} {s s1 s2 : S} (k : Ok L K hd Z B O σ H1 s) (f : Mv Z H1 H s1 s2) : ∀ {vs : List V} {rs : List Ent}, RsAll L K hd Z O σ H H' vs rs → RsAll L K hd Z O σ H1 H' vs rs
  | _, _, .nil => .nil
  | _, _, .cons a b => .cons (Rs.back k f a) (b.back k f)
theorem xaCons {m : Nat} (he : XE L X e f) (hes : XA L X es m fs) (hs : starEach (e :: es) X.env = (false, eval e X.env) :: starEach es X.env := by rfl) : XA L X (e :: es) (m + 1) (fCons f fs) := by
  refine ⟨fun s Q h => he.mono _ _ _ (fun r s1 h1 => hes.mono _ _ _ (fun rs s2 h2 => ⟨Nat.succ_le_succ h2.1, h2.2⟩) (hes.bnd _ _ h1)) h, fun s Q Q' k h => he.mono s _ _ (fun r s1 h1 => hes.mono _ _ _ (fun rs s2 h2 => k _ _ h2) h1) h, fun hd Z B O σ H s Q ok h => taW_of (pa_cons peW paW hs) (he.run hd Z B O σ H s _ ok (he.mono _ _ _ (fun r s1 h1 v H1 k1 f1 r1 => ?_) h))⟩
  exact hes.run hd Z B O σ H1 s1 _ k1 (hes.mono _ _ _ (fun rs s2 h2 vs H2 k2 f2 r2 => h2 (v :: vs) H2 k2 (f1.trans f2) (.cons (Rs.step k1 f2 r1) (r2.back ok f1))) h1)
/-- results that are kept as data -/
def kepts : List Ent → (List PyData → Prop) → Prop
  | [], Q => Q []
  | .im d :: rs, Q => kepts rs fun ds => Q (d :: ds)
  | .ow es :: rs, Q => kepts rs fun ds => Q (.list es :: ds)
  | _ :: _, _ => False
theorem kepts_mono : ∀ {rs : List Ent} {Q Q' : List PyData → Prop}, (∀ ds, Q ds → Q' ds) → kepts rs Q → kepts rs Q'
  | [], _, _, k, h => k _ h
  | .im d :: rs, _, _, k, h => kepts_mono (rs := rs) (fun ds q => k _ q) h
  | .ow es :: rs, _, _, k, h => kepts_mono (rs := rs) (fun ds q => k _ q) h
  | .br _ _ :: _, _, _, _, h => h.elim
  | .ob _ _ :: _, _, _, _, h => h.elim
  | .dr :: _, _, _, _, h => h.elim
theorem kepts_v {K : PySem.W.Frag} {hd : Addr → Bool} {Z : Zt} {O : List Addr} {σ : L2.St} {H H' : Hp} : ∀ {vs : List V} {rs : List Ent} {Q : List PyData → Prop}, RsAll L K hd Z O σ H H' vs rs → kepts rs Q → ∃ ds, RpAll K (vis hd O H') vs ds ∧ Q ds
  | _, _, _, .nil, h => ⟨[], .nil, h⟩
  | _, .im d :: rs, _, .cons a b, h => by
    obtain ⟨ds, h1, h2⟩ := kepts_v (rs := rs) b h
    exact ⟨_, .cons (Rs.keeps a rfl) h1, h2⟩
  | _, .ow es :: rs, _, .cons a b, h => by
    obtain ⟨ds, h1, h2⟩ := kepts_v (rs := rs) b h
    exact ⟨_, .cons (Rs.keeps a rfl) h1, h2⟩
  | _, .br _ _ :: _, _, .cons _ _, h => h.elim
  | _, .ob _ _ :: _, _, .cons _ _, h => h.elim
  | _, .dr :: _, _, .cons _ _, h => h.elim
theorem sameNew {H : Hp} {p : Addr} {o : HO} (h : H p = none) : Same H (upd H p o) := fun b u e => by
  rw [upd_ne (ne_of_none e h)]
  exact e
/-- a new tuple, a new list -/
theorem Ok.newT {K : PySem.W.Frag} {hd : Addr → Bool} {Z : Zt} {B : Hp} {O : List Addr} {σ : L2.St} {H H0 : Hp} {s : S} (k : Ok L K hd Z B O σ H s) {p : Addr} (h : H p = none) {vs : List V} {ds : List PyData} (r : RpAll K (vis hd O H) vs ds) :
    Rs L K hd Z O σ H0 (upd H p (.tup vs)) (.ref p) (.im (.tuple ds)) := by
  obtain ⟨h1, h2, _⟩ := k.fresh h
  exact .tup (SqT.of (vis_some.mpr ⟨h1, h2, upd_same⟩)) (r.same (vis_frm k (Frm.of (sameNew h))))
theorem Ok.newL {K : PySem.W.Frag} {hd : Addr → Bool} {Z : Zt} {B : Hp} {O : List Addr} {σ : L2.St} {H H0 : Hp} {s : S} (k : Ok L K hd Z B O σ H s) {p : Addr} (h : H p = none) (h0 : H0 p = none) {vs : List V} {ds : List PyData} (r : RpAll K (vis hd O H) vs ds) :
    Rs L K hd Z O σ H0 (upd H p (.lst vs)) (.ref p) (.ow ds) := by
  obtain ⟨h1, h2, _⟩ := k.fresh h
  refine ⟨p, vs, rfl, h0, h1, h2, upd_same, r.same fun a o e => ?_⟩
  obtain ⟨g1, g2, g3⟩ := vis_some.mp e
  have ne : a ≠ p := ne_of_none g3 h
  exact vis_some.mpr ⟨g1, fun q => (List.mem_cons.mp q).elim ne g2, by rw [upd_ne ne]; exact g3⟩
theorem Frm.none {Z : Zt} {H H' : Hp} (f : Frm Z H H') {p : Addr} (n : ¬ zin Z p) (h : H' p = none) : H p = none := by
  cases q : H p with
  | none => rfl
  | some o => rw [f p o n q] at h; cases h
def fTup (fs : FA) : FE := fun s Q => fs s fun rs s1 => kepts rs fun ds => Q (.im (.tuple ds)) s1
def fLst (fs : FA) : FE := fun s Q => fs s fun rs s1 => kepts rs fun ds => Q (.ow ds) s1
theorem RsAll.length {K : PySem.W.Frag} {hd : Addr → Bool} {Z : Zt} {O : List Addr} {σ : L2.St} {H H' : Hp} : ∀ {vs : List V} {rs : List Ent}, RsAll L K hd Z O σ H H' vs rs → vs.length = rs.length
  | _, _, .nil => rfl
  | _, _, .cons _ b => by rw [List.length_cons, List.length_cons, b.length]
theorem xTup {k} {m : Nat} (h : XA L X es m fs) (hn : m ≤ 10000 := by decide) : XE L X (.Tuple es k pos) (fTup fs) := by
  refine ⟨fun s Q Q' k' q => h.mono s _ _ (fun rs s1 h1 => kepts_mono (fun ds q => k' _ _ q) h1) q, fun hd Z B O σ H s Q ok q => tW_of (pe_tup paW) (h.run hd Z B O σ H s _ ok (h.mono _ _ _ (fun rs s1 h1 vs H1 k1 f1 r1 => ?_) (h.bnd s _ q)))⟩
  obtain ⟨hlen, h1⟩ := h1
  obtain ⟨ds, rp, h2⟩ := kepts_v r1 h1
  refine ⟨by rw [r1.length]; exact Nat.le_trans (Nat.le_trans hlen hn) (by decide), fun p hp => ?_⟩
  exact h2 _ _ (k1.same (sameNew hp)) (f1.trans (Mv.of (sameNew hp))) (k1.newT hp rp)
theorem xLst {m : Nat} (h : XA L X es m fs) (hn : m ≤ 10000 := by decide) : XE L X (.List es pos) (fLst fs) := by
  refine ⟨fun s Q Q' k' q => h.mono s _ _ (fun rs s1 h1 => kepts_mono (fun ds q => k' _ _ q) h1) q, fun hd Z B O σ H s Q ok q => tW_of (pe_lst paW) (h.run hd Z B O σ H s _ ok (h.mono _ _ _ (fun rs s1 h1 vs H1 k1 f1 r1 => ?_) (h.bnd s _ q)))⟩
  obtain ⟨hlen, h1⟩ := h1
  obtain ⟨ds, rp, h2⟩ := kepts_v r1 h1
  refine ⟨by rw [r1.length]; exact Nat.le_trans (Nat.le_trans hlen hn) (by decide), fun p hp => ?_⟩
  exact h2 _ _ (k1.same (sameNew hp)) (f1.trans (Mv.of (sameNew hp))) (k1.newL hp (f1.fr.none (k1.fresh hp).2.2 hp) rp)
end
end DL
set_option Elab.async false
set_option linter.all false
set_option maxRecDepth 100000
set_option maxHeartbeats 2000000
namespace DL
open PySem PySem.Spec PyProof.Rows L2
section
variable {L : Lay} {X : Cx} {pos : Pos}
/-! ### numbers -/
def oI (g : Int → Int → PyData) : O2
  | .im (.int i), .im (.int j), Q => Q (.im (g i j))
  | _, _, _ => False
theorem oI_mono {g : Int → Int → PyData} : ∀ a b Q Q', (∀ r, Q r → Q' r) → oI g a b Q → oI g a b Q' := fun a b Q Q' k h => by
  unfold oI at h ⊢
  split at h
  · exact k _ h
  · exact h.elim
theorem ops_I0 {f : Value → Value → Sem Value} {g : Int → Int → Int} (h : OpR X f (rI0 fun i j => .int (g i j))) : OpS L X f (oI fun i j => .int (g i j)) :=
  ⟨oI_mono, _, h, fun hd Z B O σ Ha Hb H s x y a b Q ok ra rb q Q' fin => by
    unfold oI at q
    split at q
    · cases ra
      cases rb
      exact ⟨_, _, rfl, rfl, fin _ _ H q (Same.refl H) (.int _)⟩
    · exact q.elim⟩
theorem ops_B0 {f : Value → Value → Sem Value} {g : Int → Int → Bool} (h : OpR X f (rI0 fun i j => .bl (g i j))) : OpS L X f (oI fun i j => .bool (g i j)) :=
  ⟨oI_mono, _, h, fun hd Z B O σ Ha Hb H s x y a b Q ok ra rb q Q' fin => by
    unfold oI at q
    split at q
    · cases ra
      cases rb
      exact ⟨_, _, rfl, rfl, fin _ _ H q (Same.refl H) (.bl _)⟩
    · exact q.elim⟩
theorem os_lt : OpS L X (compareOp .Lt) (oI fun i j => .bool (decide (i < j))) := ops_B0 op_lt
theorem os_le : OpS L X (compareOp .LtE) (oI fun i j => .bool (decide (i ≤ j))) := ops_B0 op_le
theorem os_gt : OpS L X (compareOp .Gt) (oI fun i j => .bool (decide (j < i))) := ops_B0 op_gt
theorem os_ge : OpS L X (compareOp .GtE) (oI fun i j => .bool (decide (j ≤ i))) := ops_B0 op_ge
theorem os_sub : OpS L X (binaryOp .Sub) (oI fun i j => .int (i - j)) := ops_I0 op_sub
/-- with a condition -/
def oIc (C : Int → Int → Prop) (g : Int → Int → PyData) : O2
  | .im (.int i), .im (.int j), Q => C i j ∧ Q (.im (g i j))
  | _, _, _ => False
theorem oIc_mono {C : Int → Int → Prop} {g : Int → Int → PyData} : ∀ a b Q Q', (∀ r, Q r → Q' r) → oIc C g a b Q → oIc C g a b Q' := fun a b Q Q' k h => by
  unfold oIc at h ⊢
  split at h
  · exact ⟨h.1, k _ h.2⟩
  · exact h.elim
theorem ops_I {f : Value → Value → Sem Value} {C : Int → Int → Prop} {g : Int → Int → Int} (h : OpR X f (rI C fun i j => .int (g i j))) : OpS L X f (oIc C fun i j => .int (g i j)) :=
  ⟨oIc_mono, _, h, fun hd Z B O σ Ha Hb H s x y a b Q ok ra rb q Q' fin => by
    unfold oIc at q
    split at q
    · cases ra
      cases rb
      exact ⟨_, _, rfl, rfl, q.1, fin _ _ H q.2 (Same.refl H) (.int _)⟩
    · exact q.elim⟩
theorem os_mulI : OpS L X (binaryOp .Mult) (oIc CMul fun i j => .int (i * j)) := ops_I op_mul
theorem os_mod : OpS L X (binaryOp .Mod) (oIc (fun _ j => 0 < j) fun i j => .int (i % j)) := ops_I op_mod
theorem os_fdiv : OpS L X (binaryOp .FloorDiv) (oIc CDiv fun i j => .int (i / j)) := ops_I op_fdiv


/-! ### == and in -/
def oEq (neg : Bool) : O2 := fun a b Q => match a.dat, b.dat with
  | some d, some e => SeqAt.shaped d = true ∧ SeqAt.shaped e = true ∧ Q (.im (.bool (neg != PyData.eqv d e)))
  | _, _ => False
theorem oEq_mono {neg : Bool} : ∀ a b Q Q', (∀ r, Q r → Q' r) → oEq neg a b Q → oEq neg a b Q' := fun a b Q Q' k h => by
  unfold oEq at h ⊢
  split at h
  · exact ⟨h.1, h.2.1, k _ h.2.2⟩
  · exact h.elim
theorem os_eq (hu : X.A.units + 64 < cLine) : OpS L X (compareOp .Eq) (oEq false) :=
  ⟨oEq_mono, _, op_eqD hu, fun hd Z B O σ Ha Hb H s x y a b Q ok ra rb q Q' fin => by
    unfold oEq at q
    split at q
    · rename_i d e ea eb
      obtain ⟨q1, q2, q3⟩ := q
      refine ⟨d, e, (Rs.data ra ea).dpS q1, (Rs.data rb eb).dpS q2, q1, q2, fin _ _ H q3 (Same.refl H) ?_⟩
      rw [Bool.false_bne]
      exact .bl _
    · exact q.elim⟩
theorem os_ne (hu : X.A.units + 64 < cLine) : OpS L X (compareOp .NotEq) (oEq true) :=
  ⟨oEq_mono, _, op_neD hu, fun hd Z B O σ Ha Hb H s x y a b Q ok ra rb q Q' fin => by
    unfold oEq at q
    split at q
    · rename_i d e ea eb
      obtain ⟨q1, q2, q3⟩ := q
      refine ⟨d, e, (Rs.data ra ea).dpS q1, (Rs.data rb eb).dpS q2, q1, q2, fin _ _ H q3 (Same.refl H) ?_⟩
      rw [Bool.true_bne]
      exact .bl _
    · exact q.elim⟩
/-- the items of a list or a tuple -/
def items : PyData → Option (List PyData)
  | .list es => some es
  | .tuple es => some es
  | _ => none
def oIn (neg : Bool) : O2 := fun a b Q => match a.dat, b.dat.bind items with
  | some d, some es => SeqAt.shaped d = true ∧ SeqAt.shaped (.list es) = true ∧ Q (.im (.bool (neg != es.any fun z => PyData.eqv z d)))
  | _, _ => False
theorem oIn_mono {neg : Bool} : ∀ a b Q Q', (∀ r, Q r → Q' r) → oIn neg a b Q → oIn neg a b Q' := fun a b Q Q' k h => by
  unfold oIn at h ⊢
  split at h
  · exact ⟨h.1, h.2.1, k _ h.2.2⟩
  · exact h.elim
def rInT (K : PySem.W.Frag) (neg : Bool) : R2 := fun x y H Q => ∃ d e es, Dp K H x d ∧ Dp K H y e ∧ items e = some es ∧ SeqAt.shaped d = true ∧ SeqAt.shaped (.list es) = true ∧ Q (.bl (neg != es.any fun z => PyData.eqv z d)) H
theorem op_inT (hu : X.A.units + 65 < cLine) : OpR X (compareOp .In) (rInT X.K false) := by
  intro pins s σ H x y v u Q I rx ry h
  obtain ⟨d, e, es, hd, he, ee, sd, se, q⟩ := h
  obtain ⟨as, r1⟩ := Dp.reads I d x v hd rx
  obtain ⟨bs, r2⟩ := Dp.reads I e y u he ry
  have cl : PyData.canLayAll0 es = true := by
    have := SeqAt.canLay_of_shaped se
    simpa [PyData.canLay0] using this
  rw [Bool.false_bne] at q
  cases e <;> simp [items] at ee
  · subst ee
    exact SeqAt.in_list_reads r2 r1 cl (SeqAt.canLay_of_shaped sd) (room_in_shaped sd hu) ⟨.bl _, H, I, rfl, q⟩
  · subst ee
    exact SeqAt.in_tuple_reads r2 r1 cl (SeqAt.canLay_of_shaped sd) (room_in_shaped sd hu) ⟨.bl _, H, I, rfl, q⟩
theorem op_notInT (hu : X.A.units + 65 < cLine) : OpR X (compareOp .NotIn) (rInT X.K true) := by
  intro pins s σ H x y v u Q I rx ry h
  obtain ⟨d, e, es, hd, he, ee, sd, se, q⟩ := h
  obtain ⟨as, r1⟩ := Dp.reads I d x v hd rx
  obtain ⟨bs, r2⟩ := Dp.reads I e y u he ry
  have cl : PyData.canLayAll0 es = true := by
    have := SeqAt.canLay_of_shaped se
    simpa [PyData.canLay0] using this
  rw [Bool.true_bne] at q
  cases e <;> simp [items] at ee
  · subst ee
    exact SeqAt.notIn_list_reads r2 r1 cl (SeqAt.canLay_of_shaped sd) (room_in_shaped sd hu) ⟨.bl _, H, I, rfl, q⟩
  · subst ee
    exact SeqAt.notIn_tuple_reads r2 r1 cl (SeqAt.canLay_of_shaped sd) (room_in_shaped sd hu) ⟨.bl _, H, I, rfl, q⟩
theorem dp_items {K : PySem.W.Frag} {H : Hp} {v : V} {e : PyData} {es : List PyData} (r : Rp K H v e) (h : items e = some es) (se : SeqAt.shaped (.list es) = true) : Dp K H v e := by
  have cl : PyData.canLayAll0 es = true := by
    have := SeqAt.canLay_of_shaped se
    simpa [PyData.canLay0] using this
  refine r.dp ?_
  cases e <;> simp [items] at h <;> (subst h; simpa [PyData.canLay0] using cl)
theorem os_in (hu : X.A.units + 65 < cLine) : OpS L X (compareOp .In) (oIn false) :=
  ⟨oIn_mono, _, op_inT hu, fun hd Z B O σ Ha Hb H s x y a b Q ok ra rb q Q' fin => by
    unfold oIn at q
    split at q
    · rename_i d es ea eb
      obtain ⟨q1, q2, q3⟩ := q
      obtain ⟨e, e1, e2⟩ := Option.bind_eq_some_iff.mp eb
      exact ⟨d, e, es, (Rs.data ra ea).dpS q1, dp_items (Rs.data rb e1) e2 q2, e2, q1, q2, fin _ _ H q3 (Same.refl H) (.bl _)⟩
    · exact q.elim⟩
theorem os_notIn (hu : X.A.units + 65 < cLine) : OpS L X (compareOp .NotIn) (oIn true) :=
  ⟨oIn_mono, _, op_notInT hu, fun hd Z B O σ Ha Hb H s x y a b Q ok ra rb q Q' fin => by
    unfold oIn at q
    split at q
    · rename_i d es ea eb
      obtain ⟨q1, q2, q3⟩ := q
      obtain ⟨e, e1, e2⟩ := Option.bind_eq_some_iff.mp eb
      exact ⟨d, e, es, (Rs.data ra ea).dpS q1, dp_items (Rs.data rb e1) e2 q2, e2, q1, q2, fin _ _ H q3 (Same.refl H) (.bl _)⟩
    · exact q.elim⟩
/-- is None -/
def isNonD : PyData → Bool
  | .none => true
  | _ => false
def oIs (neg : Bool) : O2
  | .im d, .im .none, Q => Q (.im (.bool (neg != isNonD d)))
  | .ow _, .im .none, Q => Q (.im (.bool neg))
  | .br _ _, .im .none, Q => Q (.im (.bool neg))
  | _, _, _ => False
theorem oIs_mono {neg : Bool} : ∀ a b Q Q', (∀ r, Q r → Q' r) → oIs neg a b Q → oIs neg a b Q' := fun a b Q Q' k h => by
  unfold oIs at h ⊢
  split at h
  · exact k _ h
  · exact k _ h
  · exact k _ h
  · exact h.elim
theorem rp_non {K : PySem.W.Frag} {H : Hp} {v : V} {d : PyData} (r : Rp K H v d) : decide (v = .non) = isNonD d := by
  cases r <;> rfl
theorem os_is : OpS L X (compareOp .Is) (oIs false) :=
  ⟨oIs_mono, _, op_isN, fun hd Z B O σ Ha Hb H s x y a b Q ok ra rb q Q' fin => by
    unfold oIs at q
    split at q
    · cases rb
      refine ⟨rfl, fin _ _ H q (Same.refl H) ?_⟩
      rw [Bool.false_bne, ← rp_non ra]
      exact .bl _
    · cases rb
      obtain ⟨p, vs, rfl, _⟩ := ra
      exact ⟨rfl, fin _ _ H q (Same.refl H) (.bl _)⟩
    · cases rb
      obtain ⟨p, vs, rfl, _⟩ := ra
      exact ⟨rfl, fin _ _ H q (Same.refl H) (.bl _)⟩
    · exact q.elim⟩
theorem os_isNot : OpS L X (compareOp .IsNot) (oIs true) :=
  ⟨oIs_mono, _, op_notN, fun hd Z B O σ Ha Hb H s x y a b Q ok ra rb q Q' fin => by
    unfold oIs at q
    split at q
    · cases rb
      refine ⟨rfl, fin _ _ H q (Same.refl H) ?_⟩
      rw [Bool.true_bne, ← rp_non ra]
      exact .bl _
    · cases rb
      obtain ⟨p, vs, rfl, _⟩ := ra
      exact ⟨rfl, fin _ _ H q (Same.refl H) (.bl _)⟩
    · cases rb
      obtain ⟨p, vs, rfl, _⟩ := ra
      exact ⟨rfl, fin _ _ H q (Same.refl H) (.bl _)⟩
    · exact q.elim⟩

/-! ### + of numbers, lists, tuples, texts -/
/-- the items of one's own or a read list, standing in the heap -/
theorem rs_list {K : PySem.W.Frag} {hd : Addr → Bool} {Z : Zt} {O : List Addr} {σ : L2.St} {H H' : Hp} {v : V} {r : Ent} {ds : List PyData} (h : Rs L K hd Z O σ H H' v r) (e : r.dat = some (.list ds)) :
    ∃ p vs, v = .ref p ∧ H' p = some (.lst vs) ∧ RpAll K (vis hd O H') vs ds := by
  cases r with
  | im d =>
    cases e
    cases h with
    | lst s r => exact ⟨_, _, rfl, vis_le _ _ s, r⟩
  | ow ds' =>
    cases e
    obtain ⟨p, vs, e1, _, _, _, e5, e6⟩ := h
    exact ⟨p, vs, e1, e5, e6.same vis_more⟩
  | br i ds' =>
    cases e
    obtain ⟨p, vs, e1, _, _, e4, e5⟩ := h
    exact ⟨p, vs, e1, e4, e5⟩
  | ob t d => cases e
  | dr => cases e
theorem rs_tup {K : PySem.W.Frag} {hd : Addr → Bool} {Z : Zt} {O : List Addr} {σ : L2.St} {H H' : Hp} {v : V} {ds : List PyData} (h : Rs L K hd Z O σ H H' v (.im (.tuple ds))) :
    ∃ p vs, v = .ref p ∧ SqT K H' p vs ∧ RpAll K (vis hd O H') vs ds := by
  cases h with
  | tup s r => exact ⟨_, _, rfl, sameT vis_le s, r⟩
def oAdd : O2 := fun a b Q => match a.dat, b.dat with
  | some (.int i), some (.int j) => Q (.im (.int (i + j)))
  | some (.list ds), some (.list es) => ds.length + es.length ≤ sizeLine ∧ Q (.ow (ds ++ es))
  | some (.tuple ds), some (.tuple es) => ds.length + es.length ≤ sizeLine ∧ Q (.im (.tuple (ds ++ es)))
  | some (.str x), some (.str y) => x.length + y.length ≤ sizeLine ∧ Q (.im (.str (x ++ y)))
  | _, _ => False
theorem oAdd_mono : ∀ a b Q Q', (∀ r, Q r → Q' r) → oAdd a b Q → oAdd a b Q' := fun a b Q Q' k h => by
  unfold oAdd at h ⊢
  split at h
  · exact k _ h
  · exact ⟨h.1, k _ h.2⟩
  · exact ⟨h.1, k _ h.2⟩
  · exact ⟨h.1, k _ h.2⟩
  · exact h.elim
theorem dat_im {r : Ent} {d : PyData} (h : r.dat = some d) (hl : ∀ ds, d ≠ .list ds) : r = .im d := by
  cases r with
  | im d' => cases h; rfl
  | ow ds => cases h; exact absurd rfl (hl ds)
  | br i ds => cases h; exact absurd rfl (hl ds)
  | ob t d => cases h
  | dr => cases h
theorem os_add : OpS L X (binaryOp .Add) oAdd :=
  ⟨oAdd_mono, _, (OpR.or op_add (OpR.or op_cat (OpR.or op_catA op_add_str))), fun hd Z B O σ Ha Hb H s x y a b Q ok ra rb q Q' fin => by
    unfold oAdd at q
    split at q
    · rename_i i j ea eb
      cases dat_im ea (fun _ z => by cases z)
      cases dat_im eb (fun _ z => by cases z)
      cases ra
      cases rb
      exact .inl ⟨_, _, rfl, rfl, fin _ _ H q (Same.refl H) (.int _)⟩
    · rename_i ds es ea eb
      obtain ⟨p, vs, rfl, hp, r1⟩ := rs_list ra ea
      obtain ⟨p', ws, rfl, hp', r2⟩ := rs_list rb eb
      refine .inr (.inl ⟨p, p', vs, ws, rfl, rfl, hp, hp', by rw [r1.length, r2.length]; exact q.1, fun l hl => ?_⟩)
      exact fin _ _ _ q.2 (sameNew hl) (ok.newL hl hl (r1.append r2))
    · rename_i ds es ea eb
      cases dat_im ea (fun _ z => by cases z)
      cases dat_im eb (fun _ z => by cases z)
      obtain ⟨p, vs, rfl, hp, r1⟩ := rs_tup ra
      obtain ⟨p', ws, rfl, hp', r2⟩ := rs_tup rb
      refine .inr (.inr (.inl ⟨p, p', vs, ws, rfl, rfl, hp, hp', by rw [r1.length, r2.length]; exact q.1, fun e => ?_, fun e e' => ?_, fun e e' l hl => ?_⟩))
      · subst e
        cases r1
        exact fin _ _ H q.2 (Same.refl H) rb
      · subst e'
        cases r2
        rw [List.append_nil] at q
        exact fin _ _ H q.2 (Same.refl H) ra
      · exact fin _ _ _ q.2 (sameNew hl) (ok.newT hl (r1.append r2))
    · rename_i x' y' ea eb
      cases dat_im ea (fun _ z => by cases z)
      cases dat_im eb (fun _ z => by cases z)
      cases ra
      cases rb
      exact .inr (.inr (.inr ⟨_, _, rfl, rfl, q.1, fin _ _ H q.2 (Same.refl H) (.str _)⟩))
    · exact q.elim⟩
/-! ### * of numbers, of a tuple or a list and a number -/
theorem rp_rep {K : PySem.W.Frag} {H : Hp} {vs : List V} {ds : List PyData} (r : RpAll K H vs ds) : ∀ n : Nat, RpAll K H (List.replicate n vs).flatten (List.replicate n ds).flatten
  | 0 => .nil
  | n + 1 => by
    rw [List.replicate_succ, List.replicate_succ, List.flatten_cons, List.flatten_cons]
    exact r.append (rp_rep r n)
def oMul : O2 := fun a b Q => match a.dat, b.dat with
  | some (.int i), some (.int j) => CMul i j ∧ Q (.im (.int (i * j)))
  | some (.list ds), some (.int k) => (-(2 ^ 63) ≤ k ∧ k < 2 ^ 63 ∧ ds.length * k.toNat ≤ sizeLine) ∧ Q (.ow (List.replicate k.toNat ds).flatten)
  | some (.tuple ds), some (.int k) => (ds ≠ [] ∧ 2 ≤ k ∧ k ≤ 1000 ∧ ds.length ≤ 1000) ∧ Q (.im (.tuple (List.replicate k.toNat ds).flatten))
  | _, _ => False
theorem oMul_mono : ∀ a b Q Q', (∀ r, Q r → Q' r) → oMul a b Q → oMul a b Q' := fun a b Q Q' k h => by
  unfold oMul at h ⊢
  split at h
  · exact ⟨h.1, k _ h.2⟩
  · exact ⟨h.1, k _ h.2⟩
  · exact ⟨h.1, k _ h.2⟩
  · exact h.elim
theorem os_mul : OpS L X (binaryOp .Mult) oMul :=
  ⟨oMul_mono, _, (OpR.or op_mul (OpR.or op_rep op_repT)), fun hd Z B O σ Ha Hb H s x y a b Q ok ra rb q Q' fin => by
    unfold oMul at q
    split at q
    · rename_i i j ea eb
      cases dat_im ea (fun _ z => by cases z)
      cases dat_im eb (fun _ z => by cases z)
      cases ra
      cases rb
      exact .inl ⟨_, _, rfl, rfl, q.1, fin _ _ H q.2 (Same.refl H) (.int _)⟩
    · rename_i ds k ea eb
      cases dat_im eb (fun _ z => by cases z)
      cases rb
      obtain ⟨p, vs, rfl, hp, r1⟩ := rs_list ra ea
      refine .inr (.inl ⟨p, k, vs, rfl, rfl, hp, q.1.1, q.1.2.1, by rw [r1.length]; exact q.1.2.2, fun l hl => ?_⟩)
      exact fin _ _ _ q.2 (sameNew hl) (ok.newL hl hl (rp_rep r1 _))
    · rename_i ds k ea eb
      cases dat_im ea (fun _ z => by cases z)
      cases dat_im eb (fun _ z => by cases z)
      cases rb
      obtain ⟨p, vs, rfl, hp, r1⟩ := rs_tup ra
      refine .inr (.inr ⟨p, k, vs, rfl, rfl, hp, fun e => q.1.1 ?_, q.1.2.1, q.1.2.2.1, by rw [r1.length]; exact q.1.2.2.2, fun l hl => ?_⟩)
      · subst e
        cases r1
        rfl
      · exact fin _ _ _ q.2 (sameNew hl) (ok.newT hl (rp_rep r1 _))
    · exact q.elim⟩
end
end DL
set_option Elab.async false
set_option linter.all false
set_option maxRecDepth 100000
set_option maxHeartbeats 2000000
namespace DL
open PySem PySem.Spec PyProof.Rows L2
section
variable {L : Lay} {X : Cx} {pos : Pos}
/-! ### calls of built-ins -/
abbrev OL := List Ent → (Ent → Prop) → Prop
structure CallS (L : Lay) (X : Cx) (f : Value) (o : OL) : Prop where
  mono : ∀ rs Q Q', (∀ r, Q r → Q' r) → o rs Q → o rs Q'
  ex : ∃ r : List V → Hp → VK → Prop, CallR X f r ∧ ∀ hd Z B O σ H0 H s xs rs Q, Ok L X.K hd Z B O σ H s → RsAll L X.K hd Z O σ H0 H xs rs → o rs Q → ∀ Q' : VK, (∀ v e H', Q e → Same H H' → Rs L X.K hd Z O σ H H' v e → Q' v H') → r xs H Q'
def fCall (o : OL) (fs : FA) : FE := fun s Q => fs s fun rs s1 => o rs fun r => Q r s1
variable {x : Str} {p : Pos} {e : Expr} {es : List Expr} {fs : FA} {o : OL} {bid T : String} {m : Nat}
theorem fCall_mono (hc : ∀ rs Q Q', (∀ r, Q r → Q' r) → o rs Q → o rs Q') (ha : XA L X es m fs) : ∀ s Q Q', (∀ r s', Q r s' → Q' r s') → fCall o fs s Q → fCall o fs s Q' :=
  fun s Q Q' k h => ha.mono _ _ _ (fun rs s1 h1 => hc _ _ _ (fun r q => k _ _ q) h1) h
theorem xCallB (hc : CallS L X (.builtin bid) o) (hm : X.mg x = none) (hv : bootBuiltins x = some (.builtin bid)) (ha : XA L X (e :: es) m fs) (hg : Gl X x := by rfl) (hn : x ≠ "__name__" := by decide) (hdb : (x == ("__debug__" : Str)) = false := by decide)
    (he : starEach (e :: es) X.env = (false, eval e X.env) :: starEach es X.env := by rfl) (hpl : (backTo pos (starEach es X.env)).any (·.1) = false := by rfl) : XE L X (.Call (.Name x p) (e :: es) [] pos) (fCall o fs) := by
  obtain ⟨r, hr, q⟩ := hc.ex
  refine ⟨fCall_mono hc.mono ha, fun hd Z B O σ H s Q ok h => tW_of (pe_callB hr hg hm hv paW hn hdb he hpl) (ha.run hd Z B O σ H s _ ok (ha.mono _ _ _ (fun rs s1 h1 vs H1 k1 f1 r1 => ?_) h))⟩
  exact q hd Z B O σ H H1 s1 vs rs _ k1 r1 h1 _ fun v e' H' he' sm rv => he' v H' (k1.same sm) (f1.trans (Mv.of sm)) (Rs.back ok f1 rv)
theorem xCallTy (hc : CallS L X (.type T) o) (hm : X.mg x = none) (hv : bootBuiltins x = some (.type T)) (ha : XA L X (e :: es) m fs) (hg : Gl X x := by rfl) (hn : x ≠ "__name__" := by decide) (hdb : (x == ("__debug__" : Str)) = false := by decide)
    (he : starEach (e :: es) X.env = (false, eval e X.env) :: starEach es X.env := by rfl) (hpl : (backTo pos (starEach es X.env)).any (·.1) = false := by rfl) : XE L X (.Call (.Name x p) (e :: es) [] pos) (fCall o fs) := by
  obtain ⟨r, hr, q⟩ := hc.ex
  refine ⟨fCall_mono hc.mono ha, fun hd Z B O σ H s Q ok h => tW_of (pe_callTy hr hg hm hv paW hn hdb he hpl) (ha.run hd Z B O σ H s _ ok (ha.mono _ _ _ (fun rs s1 h1 vs H1 k1 f1 r1 => ?_) h))⟩
  exact q hd Z B O σ H H1 s1 vs rs _ k1 r1 h1 _ fun v e' H' he' sm rv => he' v H' (k1.same sm) (f1.trans (Mv.of sm)) (Rs.back ok f1 rv)
/-- one datum in, by a function -/
def o1 (g : PyData → (Ent → Prop) → Prop) : OL
  | [a], Q => match a.dat with
    | some d => g d Q
    | none => False
  | _, _ => False
theorem o1_mono {g : PyData → (Ent → Prop) → Prop} (hg : ∀ d Q Q', (∀ r, Q r → Q' r) → g d Q → g d Q') : ∀ rs Q Q', (∀ r, Q r → Q' r) → o1 g rs Q → o1 g rs Q' := fun rs Q Q' k h => by
  match rs, h with
  | [a], h =>
    show match a.dat with | some d => g d Q' | none => False
    have h' : match a.dat with | some d => g d Q | none => False := h
    cases e : a.dat with
    | none => rw [e] at h'; exact h'
    | some d => rw [e] at h'; exact hg _ _ _ k h'
  | [], h => exact h.elim
  | _ :: _ :: _, h => exact h.elim
/-- a list or a tuple that is read -/
theorem rp_seq {K : PySem.W.Frag} {H : Hp} {v : V} {d : PyData} {ds : List PyData} (r : Rp K H v d) (h : items d = some ds) : ∃ p vs, v = .ref p ∧ (SqL K H p vs ∨ SqT K H p vs) ∧ RpAll K H vs ds := by
  cases r with
  | lst s r => cases h; exact ⟨_, _, rfl, .inl (SqL.of s), r⟩
  | tup s r => cases h; exact ⟨_, _, rfl, .inr s, r⟩
  | non => cases h
  | bl _ => cases h
  | int _ => cases h
  | str _ => cases h
  | dct _ _ => cases h
theorem rs_seq {K : PySem.W.Frag} {hd : Addr → Bool} {Z : Zt} {O : List Addr} {σ : L2.St} {H H' : Hp} {v : V} {r : Ent} {d : PyData} {ds : List PyData} (h : Rs L K hd Z O σ H H' v r) (e : r.dat = some d) (hi : items d = some ds) :
    ∃ p vs, v = .ref p ∧ (SqL K H' p vs ∨ SqT K H' p vs) ∧ RpAll K (vis hd O H') vs ds := by
  cases d with
  | list es =>
    cases hi
    obtain ⟨p, vs, h1, h2, h3⟩ := rs_list h e
    exact ⟨p, vs, h1, .inl (SqL.of h2), h3⟩
  | tuple es =>
    cases hi
    cases dat_im e (fun _ z => by cases z)
    obtain ⟨p, vs, h1, h2, h3⟩ := rs_tup h
    exact ⟨p, vs, h1, .inr h2, h3⟩
  | none => cases hi
  | bool _ => cases hi
  | int _ => cases hi
  | str _ => cases hi
  | dict _ => cases hi
/-- the length -/
def lenD : PyData → Option Nat
  | .list es => some es.length
  | .tuple es => some es.length
  | .str x => some x.length
  | _ => none
def gLen (d : PyData) (Q : Ent → Prop) : Prop := match d with
  | .list es => Q (.im (.int es.length))
  | .tuple es => Q (.im (.int es.length))
  | .str x => x.length ≤ sizeLine ∧ Q (.im (.int x.length))
  | _ => False
theorem rs1 {K : PySem.W.Frag} {hd : Addr → Bool} {Z : Zt} {O : List Addr} {σ : L2.St} {H H' : Hp} {xs : List V} {a : Ent} (h : RsAll L K hd Z O σ H H' xs [a]) : ∃ v, xs = [v] ∧ Rs L K hd Z O σ H H' v a := by
  cases h with
  | cons a b => cases b; exact ⟨_, rfl, a⟩
theorem rs2 {K : PySem.W.Frag} {hd : Addr → Bool} {Z : Zt} {O : List Addr} {σ : L2.St} {H H' : Hp} {xs : List V} {a b : Ent} (h : RsAll L K hd Z O σ H H' xs [a, b]) : ∃ v w, xs = [v, w] ∧ Rs L K hd Z O σ H H' v a ∧ Rs L K hd Z O σ H H' w b := by
  cases h with
  | cons a b =>
    cases b with
    | cons c d => cases d; exact ⟨_, _, rfl, a, c⟩
theorem o1_of {g : PyData → (Ent → Prop) → Prop} {rs : List Ent} {Q : Ent → Prop} (h : o1 g rs Q) : ∃ a d, rs = [a] ∧ a.dat = some d ∧ g d Q := by
  match rs, h with
  | [a], h =>
    have h' : match a.dat with | some d => g d Q | none => False := h
    cases e : a.dat with
    | none => rw [e] at h'; exact h'.elim
    | some d => rw [e] at h'; exact ⟨a, d, rfl, e, h'⟩
  | [], h => exact h.elim
  | _ :: _ :: _, h => exact h.elim
theorem cs_len : CallS L X (.builtin "len") (o1 gLen) :=
  ⟨o1_mono fun d Q Q' k h => by
    unfold gLen at h ⊢
    split at h
    · exact k _ h
    · exact k _ h
    · exact ⟨h.1, k _ h.2⟩
    · exact h.elim,
   _, CallR.or call_len_seq call_len_str, fun hd Z B O σ H0 H s xs rs Q ok ra q Q' fin => by
    obtain ⟨a, d, rfl, ea, g⟩ := o1_of q
    obtain ⟨v, rfl, r⟩ := rs1 ra
    unfold gLen at g
    split at g
    · obtain ⟨p, vs, rfl, hq, rp⟩ := rs_seq r ea rfl
      refine .inl ⟨p, vs, rfl, hq, ?_⟩
      rw [rp.length]
      exact fin _ _ H g (Same.refl H) (.int _)
    · obtain ⟨p, vs, rfl, hq, rp⟩ := rs_seq r ea rfl
      refine .inl ⟨p, vs, rfl, hq, ?_⟩
      rw [rp.length]
      exact fin _ _ H g (Same.refl H) (.int _)
    · cases dat_im ea (fun _ z => by cases z)
      cases r
      exact .inr ⟨_, rfl, g.1, fin _ _ H g.2 (Same.refl H) (.int _)⟩
    · exact g.elim⟩
/-- all of them numbers -/
def intsD : List PyData → Option (List Int)
  | [] => some []
  | .int i :: r => (intsD r).map (i :: ·)
  | _ :: _ => none
theorem rp_ints {K : PySem.W.Frag} {H : Hp} : ∀ {vs : List V} {ds : List PyData} {ns : List Int}, RpAll K H vs ds → intsD ds = some ns → vs = ns.map V.int
  | _, _, _, .nil, e => by cases e; rfl
  | _, .int i :: r, ns, .cons a b, e => by
    cases q : intsD r with
    | none => rw [intsD, q] at e; cases e
    | some ms =>
      rw [intsD, q] at e
      cases e
      cases a
      rw [rp_ints b q]
      rfl
  | _, .none :: _, _, .cons _ _, e => by cases e
  | _, .bool _ :: _, _, .cons _ _, e => by cases e
  | _, .str _ :: _, _, .cons _ _, e => by cases e
  | _, .list _ :: _, _, .cons _ _, e => by cases e
  | _, .tuple _ :: _, _, .cons _ _, e => by cases e
  | _, .dict _ :: _, _, .cons _ _, e => by cases e
def boolsD : List PyData → Option (List Bool)
  | [] => some []
  | .bool i :: r => (boolsD r).map (i :: ·)
  | _ :: _ => none
theorem rp_bools {K : PySem.W.Frag} {H : Hp} : ∀ {vs : List V} {ds : List PyData} {ns : List Bool}, RpAll K H vs ds → boolsD ds = some ns → vs = ns.map V.bl
  | _, _, _, .nil, e => by cases e; rfl
  | _, .bool i :: r, ns, .cons a b, e => by
    cases q : boolsD r with
    | none => rw [boolsD, q] at e; cases e
    | some ms =>
      rw [boolsD, q] at e
      cases e
      cases a
      rw [rp_bools b q]
      rfl
  | _, .none :: _, _, .cons _ _, e => by cases e
  | _, .int _ :: _, _, .cons _ _, e => by cases e
  | _, .str _ :: _, _, .cons _ _, e => by cases e
  | _, .list _ :: _, _, .cons _ _, e => by cases e
  | _, .tuple _ :: _, _, .cons _ _, e => by cases e
  | _, .dict _ :: _, _, .cons _ _, e => by cases e
def gSum (d : PyData) (Q : Ent → Prop) : Prop := match d with
  | .list es => match intsD es with
    | some ns => Q (.im (.int ns.sum))
    | none => False
  | _ => False
theorem cs_sum (hc : X.calm = true := by rfl) : CallS L X (.builtin "sum") (o1 gSum) :=
  ⟨o1_mono fun d Q Q' k h => by
    unfold gSum at h ⊢
    split at h
    · split at h
      · exact k _ h
      · exact h.elim
    · exact h.elim,
   _, cr_sum hc, fun hd Z B O σ H0 H s xs rs Q ok ra q Q' fin => by
    obtain ⟨a, d, rfl, ea, g⟩ := o1_of q
    obtain ⟨v, rfl, r⟩ := rs1 ra
    unfold gSum at g
    split at g
    · split at g
      · rename_i e
        obtain ⟨p, vs, rfl, hq, rp⟩ := rs_list r ea
        have ev := rp_ints rp e
        exact ⟨p, _, rfl, SqL.of (by rw [← ev]; exact hq), fin _ _ H g (Same.refl H) (.int _)⟩
      · exact g.elim
    · exact g.elim⟩
def gAny (d : PyData) (Q : Ent → Prop) : Prop := match d with
  | .list es => match boolsD es with
    | some ns => Q (.im (.bool (ns.any id)))
    | none => False
  | _ => False
def gAll (d : PyData) (Q : Ent → Prop) : Prop := match d with
  | .list es => match boolsD es with
    | some ns => Q (.im (.bool (ns.all id)))
    | none => False
  | _ => False
theorem cs_any (hc : X.calm = true := by rfl) : CallS L X (.builtin "any") (o1 gAny) :=
  ⟨o1_mono fun d Q Q' k h => by
    unfold gAny at h ⊢
    split at h
    · split at h
      · exact k _ h
      · exact h.elim
    · exact h.elim,
   _, cr_any hc, fun hd Z B O σ H0 H s xs rs Q ok ra q Q' fin => by
    obtain ⟨a, d, rfl, ea, g⟩ := o1_of q
    obtain ⟨v, rfl, r⟩ := rs1 ra
    unfold gAny at g
    split at g
    · split at g
      · rename_i e
        obtain ⟨p, vs, rfl, hq, rp⟩ := rs_list r ea
        have ev := rp_bools rp e
        exact ⟨p, _, rfl, SqL.of (by rw [← ev]; exact hq), fin _ _ H g (Same.refl H) (.bl _)⟩
      · exact g.elim
    · exact g.elim⟩
theorem cs_all (hc : X.calm = true := by rfl) : CallS L X (.builtin "all") (o1 gAll) :=
  ⟨o1_mono fun d Q Q' k h => by
    unfold gAll at h ⊢
    split at h
    · split at h
      · exact k _ h
      · exact h.elim
    · exact h.elim,
   _, cr_all hc, fun hd Z B O σ H0 H s xs rs Q ok ra q Q' fin => by
    obtain ⟨a, d, rfl, ea, g⟩ := o1_of q
    obtain ⟨v, rfl, r⟩ := rs1 ra
    unfold gAll at g
    split at g
    · split at g
      · rename_i e
        obtain ⟨p, vs, rfl, hq, rp⟩ := rs_list r ea
        have ev := rp_bools rp e
        exact ⟨p, _, rfl, SqL.of (by rw [← ev]; exact hq), fin _ _ H g (Same.refl H) (.bl _)⟩
      · exact g.elim
    · exact g.elim⟩
def gTuple (d : PyData) (Q : Ent → Prop) : Prop := match d with
  | .list es => Q (.im (.tuple es))
  | .tuple es => Q (.im (.tuple es))
  | _ => False
theorem cs_tuple : CallS L X (.type "tuple") (o1 gTuple) :=
  ⟨o1_mono fun d Q Q' k h => by
    unfold gTuple at h ⊢
    split at h
    · exact k _ h
    · exact k _ h
    · exact h.elim,
   _, call_tuple_of, fun hd Z B O σ H0 H s xs rs Q ok ra q Q' fin => by
    obtain ⟨a, d, rfl, ea, g⟩ := o1_of q
    obtain ⟨v, rfl, r⟩ := rs1 ra
    unfold gTuple at g
    split at g
    · obtain ⟨p, vs, rfl, hq, rp⟩ := rs_list r ea
      exact ⟨p, vs, rfl, .inl ⟨SqL.of hq, fun l hl => fin _ _ _ g (sameNew hl) (ok.newT hl rp)⟩⟩
    · cases dat_im ea (fun _ z => by cases z)
      obtain ⟨p, vs, rfl, hq, rp⟩ := rs_tup r
      exact ⟨p, vs, rfl, .inr ⟨hq, fin _ _ H g (Same.refl H) r⟩⟩
    · exact g.elim⟩
def gList (d : PyData) (Q : Ent → Prop) : Prop := match d with
  | .list es => Q (.ow es)
  | .tuple es => Q (.ow es)
  | _ => False
theorem cs_list : CallS L X (.type "list") (o1 gList) :=
  ⟨o1_mono fun d Q Q' k h => by
    unfold gList at h ⊢
    split at h
    · exact k _ h
    · exact k _ h
    · exact h.elim,
   _, call_list_of, fun hd Z B O σ H0 H s xs rs Q ok ra q Q' fin => by
    obtain ⟨a, d, rfl, ea, g⟩ := o1_of q
    obtain ⟨v, rfl, r⟩ := rs1 ra
    unfold gList at g
    split at g
    · obtain ⟨p, vs, rfl, hq, rp⟩ := rs_seq r ea rfl
      exact ⟨p, vs, rfl, hq, fun l hl => fin _ _ _ g (sameNew hl) (ok.newL hl hl rp)⟩
    · obtain ⟨p, vs, rfl, hq, rp⟩ := rs_seq r ea rfl
      exact ⟨p, vs, rfl, hq, fun l hl => fin _ _ _ g (sameNew hl) (ok.newL hl hl rp)⟩
    · exact g.elim⟩
/-! ### isinstance -/
/-- a datum's class -/
def kty : PyData → String
  | .none => "NoneType"
  | .bool _ => "bool"
  | .int _ => "int"
  | .str _ => "str"
  | .list _ => "list"
  | .tuple _ => "tuple"
  | .dict _ => "dict"
theorem rp_tyX {K : PySem.W.Frag} {H : Hp} {v : V} {d : PyData} (r : Rp K H v d) : TyX K H v (.type (kty d)) := by
  cases r with
  | non => exact .base .non
  | bl b => exact .base (.bl b)
  | int i => exact .base (.int i)
  | str x => exact .base (.str x)
  | lst s r => exact .base (.lst s)
  | tup s r =>
    rcases s with (s | ⟨o, s⟩) | ⟨o, its, n, hk, hc, _⟩
    · exact .base (.tup s)
    · exact .fTuple s
    · exact .kTuple hk hc
  | dct s r => exact .base (.dK s)
/-- isinstance(x, T), T a built-in class: t tells -/
structure IsT (T : String) (t : PyData → Bool) : Prop where
  ok : ∀ d, kitB (kty d) T = some (t d)
def fIs (t : PyData → Bool) (f : FE) : FE := fun s Q => f s fun r s1 => match r.dat with
  | some d => Q (.im (.bool (t d))) s1
  | none => False
theorem bIsi : bootBuiltins "isinstance" = some (.builtin "isinstance") := by decide +kernel
theorem xIs {f : FE} {t : PyData → Bool} {y : Str} {py : Pos} (ht : IsT T t) (ha : XE L X e f) (hm : X.mg "isinstance" = none) (hy : X.mg y = none) (hb : bootBuiltins y = some (.type T)) (hg : Gl X "isinstance" := by rfl) (hgy : Gl X y := by rfl)
    (hyn : y ≠ "__name__" := by decide) (hyd : (y == ("__debug__" : Str)) = false := by decide) (he : starEach [e, .Name y py] X.env = (false, eval e X.env) :: starEach [.Name y py] X.env := by rfl) : XE L X (.Call (.Name "isinstance" p) [e, .Name y py] [] pos) (fIs t f) := by
  refine ⟨fun s Q Q' k h => ha.mono _ _ _ (fun r s1 h1 => ?_) h, fun hd Z B O σ H s Q ok h => ?_⟩
  · cases q : r.dat with
    | none => simp only [q] at h1
    | some d => simp only [q] at h1 ⊢; exact k _ _ h1
  · refine tW_of (pe_callB call_isi hg hm bIsi (pa_cons peW (pa_cons (pe_bltn (v := .ty T) hgy hy hb rfl hyn hyd) pa_nil) he) (he := he)) (ha.run hd Z B O σ H s _ ok (ha.mono _ _ _ (fun r s1 h1 v H1 k1 f1 r1 => ?_) h))
    cases q : r.dat with
    | none => simp only [q] at h1
    | some d =>
      simp only [q] at h1
      exact ⟨v, _, _, _, _, rfl, .ty T, rp_tyX (Rs.data r1 q), kit_ty (ht.ok d), h1 _ H1 k1 f1 (.bl _)⟩
/-- isinstance(x, (T, U)) -/
theorem xIs2 {f : FE} {T' : String} {t t' : PyData → Bool} {y y' : Str} {py py' pt : Pos} {k} (ht : IsT T t) (ht' : IsT T' t') (ha : XE L X e f) (hm : X.mg "isinstance" = none) (hy : X.mg y = none) (hb : bootBuiltins y = some (.type T)) (hy' : X.mg y' = none) (hb' : bootBuiltins y' = some (.type T'))
    (hg : Gl X "isinstance" := by rfl) (hgy : Gl X y := by rfl) (hgy' : Gl X y' := by rfl) (hyn : y ≠ "__name__" := by decide) (hyd : (y == ("__debug__" : Str)) = false := by decide) (hyn' : y' ≠ "__name__" := by decide) (hyd' : (y' == ("__debug__" : Str)) = false := by decide) (he : starEach [e, .Tuple [.Name y py, .Name y' py'] k pt] X.env = (false, eval e X.env) :: starEach [.Tuple [.Name y py, .Name y' py'] k pt] X.env := by rfl) :
    XE L X (.Call (.Name "isinstance" p) [e, .Tuple [.Name y py, .Name y' py'] k pt] [] pos) (fIs (fun d => t d || t' d) f) := by
  refine ⟨fun s Q Q' k h => ha.mono _ _ _ (fun r s1 h1 => ?_) h, fun hd Z B O σ H s Q ok h => ?_⟩
  · cases q : r.dat with
    | none => simp only [q] at h1
    | some d => simp only [q] at h1 ⊢; exact k _ _ h1
  · refine tW_of (pe_callB call_isiT hg hm bIsi (pa_cons peW (pa_cons (pe_tup (pa_cons (pe_bltn (v := .ty T) hgy hy hb rfl hyn hyd) (pa_cons (pe_bltn (v := .ty T') hgy' hy' hb' rfl hyn' hyd') pa_nil))) pa_nil) he) (he := he)) (ha.run hd Z B O σ H s _ ok (ha.mono _ _ _ (fun r s1 h1 v H1 k1 f1 r1 => ?_) h))
    cases q : r.dat with
    | none => simp only [q] at h1
    | some d =>
      simp only [q] at h1
      refine ⟨by show 2 ≤ sizeLine; decide, fun l hl => ?_⟩
      refine ⟨v, l, _, _, [.type T, .type T'], t d || t' d, rfl, upd_same, .cons (.ty T) (.cons (.ty T') .nil), rp_tyX ((Rs.data r1 q).same (sameNew hl)), ?_, h1 _ _ (k1.same (sameNew hl)) (f1.trans (Mv.of (sameNew hl))) (.bl _)⟩
      refine kitAny_cons (kit_ty (ht.ok d)) (fun z => ?_) (fun z => by rw [z]; rfl)
      rw [z, Bool.false_or]
      exact kitAny_cons (kit_ty (ht'.ok d)) (fun z' => by rw [z']; exact kitAny_nil) (fun z' => z')
def isTupleD : PyData → Bool
  | .tuple _ => true
  | _ => false
def isListD : PyData → Bool
  | .list _ => true
  | _ => false
def isIntD : PyData → Bool
  | .int _ => true
  | .bool _ => true
  | _ => false
def isBoolD : PyData → Bool
  | .bool _ => true
  | _ => false
def isStrD : PyData → Bool
  | .str _ => true
  | _ => false
def isDictD : PyData → Bool
  | .dict _ => true
  | _ => false
theorem kty_mem (d : PyData) : kty d ∈ ["NoneType", "bool", "int", "str", "list", "tuple", "dict"] := by cases d <;> simp [kty]
theorem kb_of {T : String} {t : PyData → Bool} (tk : String → Bool) (h : ∀ s ∈ ["NoneType", "bool", "int", "str", "list", "tuple", "dict"], kitB s T = some (tk s)) (e : ∀ d, tk (kty d) = t d) : IsT T t := ⟨fun d => by rw [← e d]; exact h _ (kty_mem d)⟩
theorem kb_tuple : IsT "tuple" isTupleD := kb_of (fun s => s == "tuple") (by decide +kernel) (fun d => by cases d <;> rfl)
theorem kb_list : IsT "list" isListD := kb_of (fun s => s == "list") (by decide +kernel) (fun d => by cases d <;> rfl)
theorem kb_int : IsT "int" isIntD := kb_of (fun s => s == "int" || s == "bool") (by decide +kernel) (fun d => by cases d <;> rfl)
theorem kb_bool : IsT "bool" isBoolD := kb_of (fun s => s == "bool") (by decide +kernel) (fun d => by cases d <;> rfl)
theorem kb_str : IsT "str" isStrD := kb_of (fun s => s == "str") (by decide +kernel) (fun d => by cases d <;> rfl)
theorem kb_dict : IsT "dict" isDictD := kb_of (fun s => s == "dict") (by decide +kernel) (fun d => by cases d <;> rfl)
end
end DL
set_option Elab.async false
set_option linter.all false
set_option maxRecDepth 100000
set_option maxHeartbeats 2000000
namespace DL
open PySem PySem.Spec PyProof.Rows L2
section
variable {L : Lay} {X : Cx} {pos : Pos}
/-! ### indices, slices -/
def gIx (d : PyData) (i : PyData) (Q : Ent → Prop) : Prop := match items d, i with
  | some ds, .int k => match atI ds k with
    | some e => Q (.im e)
    | none => False
  | _, _ => False
def oIx : O2 := fun a b Q => match a.dat, b.dat with
  | some d, some i => gIx d i Q
  | _, _ => False
theorem gIx_mono {d i : PyData} {Q Q' : Ent → Prop} (k : ∀ r, Q r → Q' r) (h : gIx d i Q) : gIx d i Q' := by
  unfold gIx at h ⊢
  split at h
  · split at h
    · exact k _ h
    · exact h.elim
  · exact h.elim
theorem oIx_mono : ∀ a b Q Q', (∀ r, Q r → Q' r) → oIx a b Q → oIx a b Q' := fun a b Q Q' k h => by
  unfold oIx at h ⊢
  split at h
  · exact gIx_mono k h
  · exact h.elim
theorem rp_atI {K : PySem.W.Frag} {H : Hp} {vs : List V} {ds : List PyData} {k : Int} {d : PyData} (r : RpAll K H vs ds) (h : atI ds k = some d) : ∃ v, atI vs k = some v ∧ Rp K H v d := by
  unfold atI at h ⊢
  rw [r.length]
  obtain ⟨j, h1, h2⟩ := Option.bind_eq_some_iff.mp h
  obtain ⟨v, h3, h4⟩ := r.getD h2
  exact ⟨v, by rw [h1]; exact h3, h4⟩
variable {a b : Expr} {fa fb : FE}
theorem xIx (ha : XE L X a fa) (hb : XE L X b fb) (hs : PlainIx b := by exact fun _ _ => rfl) : XE L X (.Subscript a b pos) (f2 oIx fa fb) := by
  refine ⟨f2_mono oIx_mono ha hb, fun hd Z B O σ H s Q ok h => ?_⟩
  refine tW_of (pe_ix (IxR.or ix_list ix_tup) peW peW hs) (ha.run hd Z B O σ H s _ ok (ha.mono _ _ _ (fun e1 s1 h1 x H1 k1 f1 r1 => ?_) h))
  refine hb.run hd Z B O σ H1 s1 _ k1 (hb.mono _ _ _ (fun e2 s2 h2 y H2 k2 f2 r2 => ?_) h1)
  have r1' := Rs.step k1 f2 r1
  unfold oIx at h2
  split at h2
  · rename_i d i ea eb
    unfold gIx at h2
    split at h2
    · rename_i ds k hi
      split at h2
      · rename_i e he
        cases dat_im eb (fun _ z => by cases z)
        cases r2
        obtain ⟨p, vs, rfl, hq, rp⟩ := rs_seq r1' ea hi
        obtain ⟨v, h3, h4⟩ := rp_atI rp he
        rcases hq with hq | hq
        · exact .inl ⟨p, vs, k, v, rfl, rfl, hq, h3, h2 v H2 k2 (f1.trans f2) h4⟩
        · exact .inr ⟨p, vs, k, v, rfl, rfl, hq, h3, h2 v H2 k2 (f1.trans f2) h4⟩
      · exact h2.elim
    · exact h2.elim
  · exact h2.elim
/-- xs[lo:hi] -/
def cutD (ds : List PyData) (lo hi : Option Int) : List PyData := (ds.drop (HT.sIx ds.length 0 lo)).take (HT.sIx ds.length ds.length hi - HT.sIx ds.length 0 lo)
theorem rp_cut {K : PySem.W.Frag} {H : Hp} {vs : List V} {ds : List PyData} (r : RpAll K H vs ds) (lo hi : Option Int) : RpAll K H (cutV vs lo hi) (cutD ds lo hi) := by
  unfold cutV cutD
  rw [r.length]
  exact (r.drop _).take _
def gSl (d : PyData) (lo hi : Option Int) (Q : Ent → Prop) : Prop := match d with
  | .list ds => Q (.ow (cutD ds lo hi))
  | .tuple ds => Q (.im (.tuple (cutD ds lo hi)))
  | _ => False
theorem gSl_mono {d : PyData} {lo hi : Option Int} {Q Q' : Ent → Prop} (k : ∀ r, Q r → Q' r) (h : gSl d lo hi Q) : gSl d lo hi Q' := by
  unfold gSl at h ⊢
  split at h
  · exact k _ h
  · exact k _ h
  · exact h.elim
/-- a part of a slice -/
abbrev FO := S → (Option Int → S → Prop) → Prop
def toW (X : Cx) (o : Option Expr) : TO := fun σ H Q => ∃ t, PO X o t ∧ t σ H Q
structure XO (L : Lay) (X : Cx) (o : Option Expr) (f : FO) : Prop where
  mono : ∀ s Q Q', (∀ r s', Q r s' → Q' r s') → f s Q → f s Q'
  po : ∃ t, PO X o t ∧ ∀ hd Z B O σ H s Q, Ok L X.K hd Z B O σ H s → f s (fun r s' => ∀ H', Ok L X.K hd Z B O σ H' s' → Mv Z H H' s s' → Q r H') → t σ H Q
def fNoPart : FO := fun s Q => Q none s
def isI : Ent → (Int → Prop) → Prop
  | .im (.int i), Q => Q i
  | _, _ => False
theorem isI_mono {r : Ent} {Q Q' : Int → Prop} (k : ∀ b, Q b → Q' b) (h : isI r Q) : isI r Q' := by
  unfold isI at h ⊢
  split at h
  · exact k _ h
  · exact h.elim
def fPart (f : FE) : FO := fun s Q => f s fun r s1 => isI r fun i => Q (some i) s1
theorem xoNone : XO L X none fNoPart := ⟨fun s Q Q' k h => k _ _ h, _, po_none, fun hd Z B O σ H s Q ok h => h H ok Mv.refl⟩
theorem xoSome (ha : XE L X a fa) : XO L X (some a) (fPart fa) := by
  refine ⟨fun s Q Q' k h => ha.mono _ _ _ (fun r s1 h1 => isI_mono (fun i q => k _ _ q) h1) h, _, po_some peW, fun hd Z B O σ H s Q ok h => ha.run hd Z B O σ H s _ ok (ha.mono _ _ _ (fun r s1 h1 v H1 k1 f1 r1 => ?_) h)⟩
  unfold isI at h1
  split at h1
  · cases r1
    exact ⟨_, rfl, h1 H1 k1 f1⟩
  · exact h1.elim
def fSl (f : FE) (fl fh : FO) : FE := fun s Q => f s fun r s1 => fl s1 fun lo s2 => fh s2 fun hi s3 => match r.dat with
  | some d => gSl d lo hi fun e => Q e s3
  | none => False
theorem xSl {lo hi : Option Expr} {fl fh : FO} {p2 : Pos} (ha : XE L X a fa) (hl : XO L X lo fl) (hh : XO L X hi fh) : XE L X (.Subscript a (.Slice lo hi none p2) pos) (fSl fa fl fh) := by
  obtain ⟨tl, pl, ql⟩ := hl.po
  obtain ⟨th, ph, qh⟩ := hh.po
  refine ⟨fun s Q Q' k h => ha.mono _ _ _ (fun r s1 h1 => hl.mono _ _ _ (fun l s2 h2 => hh.mono _ _ _ (fun u s3 h3 => ?_) h2) h1) h, fun hd Z B O σ H s Q ok h => ?_⟩
  · cases e : r.dat with
    | none => simp only [e] at h3
    | some d => simp only [e] at h3 ⊢; exact gSl_mono (fun r q => k _ _ q) h3
  · refine tW_of (pe_slice (SlR.or sl_list sl_tupA) peW pl ph) (ha.run hd Z B O σ H s _ ok (ha.mono _ _ _ (fun r s1 h1 v H1 k1 f1 r1 => ?_) h))
    refine ql hd Z B O σ H1 s1 _ k1 (hl.mono _ _ _ (fun l s2 h2 H2 k2 f2 => ?_) h1)
    refine qh hd Z B O σ H2 s2 _ k2 (hh.mono _ _ _ (fun u s3 h3 H3 k3 f3 => ?_) h2)
    have r3 := Rs.step k1 (f2.trans f3) r1
    have fr := (f1.trans f2).trans f3
    cases e : r.dat with
    | none => simp only [e] at h3
    | some d =>
      simp only [e] at h3
      unfold gSl at h3
      split at h3
      · obtain ⟨p, vs, rfl, hq, rp⟩ := rs_list r3 e
        refine .inl ⟨p, vs, rfl, SqL.of hq, fun q hq' => h3 _ _ (k3.same (sameNew hq')) (fr.trans (Mv.of (sameNew hq'))) (Rs.back ok fr (k3.newL hq' hq' (rp_cut rp l u)))⟩
      · rename_i ds
        cases dat_im e (fun _ z => by cases z)
        obtain ⟨p, vs, rfl, hq, rp⟩ := rs_tup r3
        refine .inr ⟨p, vs, rfl, hq, fun hw => ?_, fun _ q hq' => h3 _ _ (k3.same (sameNew hq')) (fr.trans (Mv.of (sameNew hq'))) (k3.newT hq' (rp_cut rp l u))⟩
        have e' : cutD ds l u = ds := by
          unfold cutD
          rw [← rp.length, hw.1, hw.2]
          simp only [List.drop_zero, Nat.sub_zero]
          rw [rp.length, List.take_length]
        refine h3 _ _ k3 fr ?_
        rw [e']
        exact r3
      · exact h3.elim

/-! ### a def's promise -/
abbrev FF := List Ent → Nat → (Ent → Nat → Prop) → Prop
def spW (L : Lay) (K : PySem.W.Frag) (F : FF) : Sp := fun vs H Q _ => ∃ hd Z es n, (∀ a, hd a = true → HkAt H a) ∧ (∀ a, zin Z a → hd a = true) ∧ (∀ z, Z = some z → L.Stk z n H) ∧ RsAll L K hd Z [] [] H H vs es ∧
  F es n (fun r m => ∀ v H', Frm Z H H' → (∀ z, Z = some z → L.Stk z m H') → Rs L K hd Z [] [] H H' v r → Q v H')
/-- the def x of the module, told by data -/
structure DefOk (L : Lay) (P : Program) (w : World) (K : PySem.W.Frag) (mg : Str → Option Value) (base : Heap) (k : Nat) (x : Str) (F : FF) : Prop where
  mono : ∀ (A : Around) (_ : Shared), Room k A → ∀ es n Q Q', (∀ r m, Q r m → Q' r m) → F es n Q → F es n Q'
  ex : ∃ f fd ps, FnOk P w K mg base CX0 k f fd ps (spW L K F) ∧ mg x = some (.ref f) ∧ PySem.W.keepIn K (.ref f) = true ∧ Binds K fd ps []
/-- results as arguments -/
def argsOf : List Ent → (List Ent → Prop) → Prop
  | [], Q => Q []
  | .im d :: rs, Q => argsOf rs fun es => Q (.im d :: es)
  | .ow ds :: rs, Q => argsOf rs fun es => Q (.im (.list ds) :: es)
  | .ob t d :: rs, Q => argsOf rs fun es => Q (.ob t d :: es)
  | .dr :: rs, Q => argsOf rs fun es => Q (.dr :: es)
  | .br _ _ :: _, _ => False
theorem argsOf_mono : ∀ {rs : List Ent} {Q Q' : List Ent → Prop}, (∀ es, Q es → Q' es) → argsOf rs Q → argsOf rs Q'
  | [], _, _, k, h => k _ h
  | .im _ :: rs, _, _, k, h => argsOf_mono (rs := rs) (fun es q => k _ q) h
  | .ow _ :: rs, _, _, k, h => argsOf_mono (rs := rs) (fun es q => k _ q) h
  | .ob _ _ :: rs, _, _, k, h => argsOf_mono (rs := rs) (fun es q => k _ q) h
  | .dr :: rs, _, _, k, h => argsOf_mono (rs := rs) (fun es q => k _ q) h
  | .br _ _ :: _, _, _, _, h => h.elim
/-- hidden at a call: what is hidden, and one's own -/
def hdo (hd : Addr → Bool) (O : List Addr) : Addr → Bool := fun a => hd a || decide (a ∈ O)
theorem vis_hdo {hd : Addr → Bool} {O : List Addr} {H : Hp} : vis (hdo hd O) [] H = vis hd O H := by
  funext a
  unfold vis hdo
  by_cases h1 : hd a = true <;> by_cases h2 : a ∈ O <;> simp [h1, h2]
theorem vis_hdo1 {hd : Addr → Bool} {O : List Addr} {H : Hp} {p : Addr} : vis (hdo hd O) [p] H = vis hd (p :: O) H := by
  funext a
  unfold vis hdo
  by_cases h1 : hd a = true <;> by_cases h2 : a ∈ O <;> by_cases h3 : a = p <;> simp [h1, h2, h3]
theorem args_v {K : PySem.W.Frag} {hd : Addr → Bool} {Z : Zt} {O : List Addr} {σ : L2.St} {H0 H : Hp} : ∀ {vs : List V} {rs : List Ent} {Q : List Ent → Prop}, RsAll L K hd Z O σ H0 H vs rs → argsOf rs Q → ∃ es, RsAll L K (hdo hd O) Z [] [] H H vs es ∧ Q es
  | _, _, _, .nil, h => ⟨[], .nil, h⟩
  | _, .im d :: rs, _, .cons a b, h => by
    obtain ⟨es, h1, h2⟩ := args_v (rs := rs) b h
    exact ⟨_, .cons (by show Rp K (vis (hdo hd O) [] H) _ d; rw [vis_hdo]; exact a) h1, h2⟩
  | _, .ow ds :: rs, _, .cons a b, h => by
    obtain ⟨es, h1, h2⟩ := args_v (rs := rs) b h
    exact ⟨_, .cons (by show Rp K (vis (hdo hd O) [] H) _ (.list ds); rw [vis_hdo]; exact Rs.keeps a rfl) h1, h2⟩
  | _, .ob t d :: rs, _, .cons a b, h => by
    obtain ⟨es, h1, h2⟩ := args_v (rs := rs) b h
    exact ⟨_, .cons (by show L.Ob K t d _ (vis (hdo hd O) [] H); rw [vis_hdo]; exact a) h1, h2⟩
  | _, .dr :: rs, _, .cons a b, h => by
    obtain ⟨es, h1, h2⟩ := args_v (rs := rs) b h
    exact ⟨.dr :: es, .cons (r := .dr) a h1, h2⟩
  | _, .br _ _ :: _, _, .cons _ _, h => h.elim
theorem Rs.fromCall {K : PySem.W.Frag} {hd : Addr → Bool} {Z : Zt} {O : List Addr} {σ : L2.St} {H H' : Hp} {v : V} {r : Ent} (h : Rs L K (hdo hd O) Z [] [] H H' v r) : Rs L K hd Z O σ H H' v r := by
  cases r with
  | im d =>
    have h' : Rp K (vis (hdo hd O) [] H') v d := h
    rw [vis_hdo] at h'
    exact h'
  | ow ds =>
    obtain ⟨p, vs, e1, e2, e3, _, e5, e6⟩ := h
    unfold hdo at e3
    rw [Bool.or_eq_false_iff, decide_eq_false_iff_not] at e3
    rw [vis_hdo1] at e6
    exact ⟨p, vs, e1, e2, e3.1, e3.2, e5, e6⟩
  | br i ds =>
    obtain ⟨p, vs, _, e2, _⟩ := h
    simp at e2
  | ob t d =>
    have h' : L.Ob K t d v (vis (hdo hd O) [] H') := h
    rw [vis_hdo] at h'
    exact h'
  | dr => exact h
def fFn (F : FF) (fs : FA) : FE := fun s Q => fs s fun rs s1 => argsOf rs fun es => F es s1.n fun r m => Q r { s1 with n := m }
section
variable {x : Str} {p : Pos} {e : Expr} {es : List Expr} {fs : FA} {m k : Nat} {F : FF}
theorem fFn_mono (hF : ∀ es n Q Q', (∀ r m, Q r m → Q' r m) → F es n Q → F es n Q') (ha : XA L X es m fs) : ∀ s Q Q', (∀ r s', Q r s' → Q' r s') → fFn F fs s Q → fFn F fs s Q' :=
  fun s Q Q' k h => ha.mono _ _ _ (fun rs s1 h1 => argsOf_mono (fun es h2 => hF _ _ _ _ (fun r m q => k _ _ q) h2) h1) h
theorem run_F {hd : Addr → Bool} {Z : Zt} {B : Hp} {O : List Addr} {σ : L2.St} {H H1 : Hp} {s s1 : S} {Q : VK} {vs : List V} {rs : List Ent} (ok : Ok L X.K hd Z B O σ H s) (f1 : Mv Z H H1 s s1) (k1 : Ok L X.K hd Z B O σ H1 s1) (r1 : RsAll L X.K hd Z O σ H H1 vs rs)
    (hF : ∀ es n Q Q', (∀ r m, Q r m → Q' r m) → F es n Q → F es n Q')
    (h1 : argsOf rs fun es => F es s1.n fun r m => ∀ v H', Ok L X.K hd Z B O σ H' { s1 with n := m } → Mv Z H H' s { s1 with n := m } → Rs L X.K hd Z O σ H H' v r → Q v H') : spW L X.K F vs H1 Q E0 := by
  obtain ⟨es, h2, h3⟩ := args_v r1 h1
  refine ⟨hdo hd O, Z, es, s1.n, fun a ha => ?_, fun a ha => ?_, k1.stk, h2, hF _ _ _ _ (fun r m q v H' fr st rv => ?_) h3⟩
  · unfold hdo at ha
    rw [Bool.or_eq_true, decide_eq_true_iff] at ha
    rcases ha with ha | ha
    · exact k1.live ha
    · obtain ⟨xs, e⟩ := (k1.offO a ha).2.2
      exact ⟨_, e, .inl ⟨xs, rfl⟩⟩
  · unfold hdo
    rw [(k1.offZ a ha).2, Bool.true_or]
  · exact q v H' (k1.step fr st) (f1.trans ⟨fr, rfl⟩) (Rs.back ok f1 (Rs.fromCall rv))
theorem xCall (D : DefOk L X.prog X.w X.K X.mg X.base k x F) (hr : Room k X.A) (ha : XA L X (e :: es) m fs) (hg : Gl X x := by rfl) (hdb : (x == ("__debug__" : Str)) = false := by decide)
    (he : starEach (e :: es) X.env = (false, eval e X.env) :: starEach es X.env := by rfl) (hpl : (backTo pos (starEach es X.env)).any (·.1) = false := by rfl) : XE L X (.Call (.Name x p) (e :: es) [] pos) (fFn F fs) := by
  obtain ⟨f, fd, ps, G, hm, hk, hb⟩ := D.ex
  refine ⟨fFn_mono (D.mono X.A X.s_0 hr) ha, fun hd Z B O σ H s Q ok h => tW_of (pe_call G hr hg hm hk hb .nil pass0 paW hdb he hpl) (ha.run hd Z B O σ H s _ ok (ha.mono _ _ _ (fun rs s1 h1 vs H1 k1 f1 r1 => ?_) h))⟩
  rw [List.append_nil]
  exact run_F ok f1 k1 r1 (D.mono X.A X.s_0 hr) h1
theorem xCall0 (D : DefOk L X.prog X.w X.K X.mg X.base k x F) (hr : Room k X.A) (hg : Gl X x := by rfl) (hdb : (x == ("__debug__" : Str)) = false := by decide) : XE L X (.Call (.Name x p) [] [] pos) (fFn F fNil) := by
  obtain ⟨f, fd, ps, G, hm, hk, hb⟩ := D.ex
  refine ⟨fFn_mono (L := L) (X := X) (D.mono X.A X.s_0 hr) xaNil, fun hd Z B O σ H s Q ok h => tW_of (pe_call0 G hr hg hm hk hb .nil pass0 hdb) ?_⟩
  exact run_F (vs := []) ok Mv.refl ok .nil (D.mono X.A X.s_0 hr) h
end
end
end DL
set_option Elab.async false
set_option linter.all false
set_option maxRecDepth 100000
set_option maxHeartbeats 2000000
namespace DL
open PySem PySem.Spec PyProof.Rows L2
section
variable {L : Lay} {X : Cx} {pos : Pos}
/-! ### the slots set -/
theorem Ok.set {K : PySem.W.Frag} {hd : Addr → Bool} {Z : Zt} {B : Hp} {O : List Addr} {σ : L2.St} {H : Hp} {s : S} (k : Ok L K hd Z B O σ H s) (i : Nat) {v : V} {e : Option Ent} (he : ∀ x, e = some x → (∀ ds, x ≠ .ow ds) ∧ Sl L K hd Z O H v x) :
    Ok L K hd Z B O (σ.set i (some v)) H { s with env := pt s.env i e } := by
  have ix : ∀ (j : Nat) (x : Ent), (pt s.env i e)[j]? = some (some x) → (j = i ∧ i < s.env.length ∧ e = some x) ∨ (j ≠ i ∧ s.env[j]? = some (some x)) := fun j x h => by
    rw [pt_set] at h
    by_cases hj : j = i
    · subst hj
      by_cases hl : j < s.env.length
      · rw [List.getElem?_set_self hl] at h
        exact .inl ⟨rfl, hl, Option.some.inj h⟩
      · rw [List.getElem?_eq_none (by simpa using hl)] at h
        cases h
    · rw [List.getElem?_set_ne (Ne.symm hj)] at h
      exact .inr ⟨hj, h⟩
  refine ⟨k.stood, k.offO, k.offZ, k.liveB, k.stk, fun j x h => ?_, fun j1 j2 ds es p h1 h2 h3 h4 => ?_, by rw [pt_set, List.length_set, List.length_set]; exact k.len⟩
  · rcases ix j x h with ⟨rfl, hl, rfl⟩ | ⟨hj, h⟩
    · exact ⟨v, List.getElem?_set_self (by rw [← k.len]; exact hl), (he x rfl).2⟩
    · obtain ⟨w, h1, h2⟩ := k.slot j x h
      exact ⟨w, by rw [List.getElem?_set_ne (Ne.symm hj)]; exact h1, h2⟩
  · rcases ix _ _ h1 with ⟨_, _, q⟩ | ⟨n1, g1⟩
    · exact absurd rfl ((he _ q).1 ds)
    · rcases ix _ _ h2 with ⟨_, _, q⟩ | ⟨n2, g2⟩
      · exact absurd rfl ((he _ q).1 es)
      · rw [List.getElem?_set_ne (Ne.symm n1)] at h3
        rw [List.getElem?_set_ne (Ne.symm n2)] at h4
        exact k.apart _ _ _ _ _ g1 g2 h3 h4
/-- a slot that is not known any more -/
theorem Ok.drop {K : PySem.W.Frag} {hd : Addr → Bool} {Z : Zt} {B : Hp} {O : List Addr} {σ : L2.St} {H : Hp} {s : S} (k : Ok L K hd Z B O σ H s) (i : Nat) : Ok L K hd Z B O σ H { s with env := pt s.env i none } := by
  have ix : ∀ (j : Nat) (x : Ent), (pt s.env i none)[j]? = some (some x) → s.env[j]? = some (some x) := fun j x h => by
    rw [pt_set] at h
    by_cases hj : j = i
    · subst hj
      by_cases hl : j < s.env.length
      · rw [List.getElem?_set_self hl] at h
        cases h
      · rw [List.getElem?_eq_none (by simpa using hl)] at h
        cases h
    · rw [List.getElem?_set_ne (Ne.symm hj)] at h
      exact h
  exact ⟨k.stood, k.offO, k.offZ, k.liveB, k.stk, fun j x h => k.slot j x (ix j x h), fun j1 j2 ds es p h1 h2 => k.apart j1 j2 ds es p (ix _ _ h1) (ix _ _ h2), by rw [pt_set, List.length_set]; exact k.len⟩
/-- a new list becomes one's own -/
theorem Ok.own {K : PySem.W.Frag} {hd : Addr → Bool} {Z : Zt} {B : Hp} {O : List Addr} {σ : L2.St} {H H0 : Hp} {s s0 : S} (k : Ok L K hd Z B O σ H s) (k0 : Ok L K hd Z B O σ H0 s0) (i : Nat) {v : V} {ds : List PyData}
    (r : Rs L K hd Z O σ H0 H v (.ow ds)) (mv : Mv Z H0 H s0 s) :
    ∃ p, v = .ref p ∧ Ok L K hd Z B (p :: O) (σ.set i (some v)) H { s with env := pt s.env i (some (.ow ds)) } := by
  have fr := mv.fr
  have new : ∀ (j : Nat) (e : Ent), s.env[j]? = some (some e) → s0.env[j]? = some (some e) := fun j e h => by rw [← mv.env]; exact h
  obtain ⟨p, vs, rfl, e2, e3, e4, e5, e6⟩ := r
  have vs0 : Same (vis hd O H0) (vis hd (p :: O) H) := fun a o e => by
    obtain ⟨g1, g2, g3⟩ := vis_some.mp e
    have ne : a ≠ p := ne_of_none g3 e2
    exact vis_some.mpr ⟨g1, fun q => (List.mem_cons.mp q).elim ne g2, fr a o (fun q => by rw [(k0.offZ a q).2] at g1; cases g1) g3⟩
  have ix : ∀ (j : Nat) (x : Ent), (pt s.env i (some (.ow ds)))[j]? = some (some x) → (j = i ∧ i < s.env.length ∧ x = .ow ds) ∨ (j ≠ i ∧ s.env[j]? = some (some x)) := fun j x h => by
    rw [pt_set] at h
    by_cases hj : j = i
    · subst hj
      by_cases hl : j < s.env.length
      · rw [List.getElem?_set_self hl] at h
        cases h
        exact .inl ⟨rfl, hl, rfl⟩
      · rw [List.getElem?_eq_none (by simpa using hl)] at h
        cases h
    · rw [List.getElem?_set_ne (Ne.symm hj)] at h
      exact .inr ⟨hj, h⟩
  have Bp : B p = none := by
    cases q : B p with
    | none => rfl
    | some o => rw [k0.stood p o q] at e2; cases e2
  refine ⟨p, rfl, k.stood, fun a ha => ?_, k.offZ, k.liveB, k.stk, fun j x h => ?_, fun j1 j2 es fs q h1 h2 h3 h4 => ?_, by rw [pt_set, List.length_set, List.length_set]; exact k.len⟩
  · rcases List.mem_cons.mp ha with rfl | ha
    · exact ⟨Bp, e3, vs, e5⟩
    · exact k.offO a ha
  · rcases ix j x h with ⟨rfl, hl, rfl⟩ | ⟨hj, h⟩
    · exact ⟨.ref p, List.getElem?_set_self (by rw [← k.len]; exact hl), p, vs, rfl, List.mem_cons_self, e5, e6⟩
    · obtain ⟨w, h1, h2⟩ := k0.slot j x (new j x h)
      refine ⟨w, by rw [List.getElem?_set_ne (Ne.symm hj)]; exact h1, ?_⟩
      cases x with
      | im d => exact Rp.same vs0 h2
      | ow es =>
        obtain ⟨q, ws, g1, g2, g3, g4⟩ := h2
        exact ⟨q, ws, g1, List.mem_cons_of_mem _ g2, fr q _ (fun z => by have := (k0.offO q g2).2.1; rw [(k0.offZ q z).2] at this; cases this) g3, g4.same vs0⟩
      | br _ _ => exact h2
      | ob t d => exact L.mono vs0 h2
      | dr => exact h2
  · have old : ∀ (j : Nat) (gs : List PyData), j ≠ i → s.env[j]? = some (some (.ow gs)) → σ[j]? = some (some (.ref p)) → False := fun j gs _ g h => by
      obtain ⟨w, h1, q', ws, g1, g2, _⟩ := k.slot j _ g
      rw [h] at h1
      cases h1
      cases g1
      exact e4 g2
    rcases ix _ _ h1 with ⟨rfl, hl, _⟩ | ⟨n1, g1⟩
    · rcases ix _ _ h2 with ⟨rfl, _, _⟩ | ⟨n2, g2⟩
      · rfl
      · rw [List.getElem?_set_self (by rw [← k.len]; exact hl)] at h3
        cases h3
        rw [List.getElem?_set_ne (Ne.symm n2)] at h4
        exact (old _ _ n2 g2 h4).elim
    · rw [List.getElem?_set_ne (Ne.symm n1)] at h3
      rcases ix _ _ h2 with ⟨rfl, hl, _⟩ | ⟨n2, g2⟩
      · rw [List.getElem?_set_self (by rw [← k.len]; exact hl)] at h4
        cases h4
        exact (old _ _ n1 g1 h3).elim
      · rw [List.getElem?_set_ne (Ne.symm n2)] at h4
        exact k.apart _ _ _ _ _ g1 g2 h3 h4
/-- a new list is held as one's own, no name has it yet -/
theorem Ok.hold {K : PySem.W.Frag} {hd : Addr → Bool} {Z : Zt} {B : Hp} {O : List Addr} {σ : L2.St} {H H0 : Hp} {s s0 : S} (k : Ok L K hd Z B O σ H s) (k0 : Ok L K hd Z B O σ H0 s0) {p : Addr} {ds : List PyData}
    (r : Rs L K hd Z O σ H0 H (.ref p) (.ow ds)) (mv : Mv Z H0 H s0 s) : Ok L K hd Z B (p :: O) σ H s := by
  have fr := mv.fr
  have new : ∀ (j : Nat) (e : Ent), s.env[j]? = some (some e) → s0.env[j]? = some (some e) := fun j e h => by rw [← mv.env]; exact h
  obtain ⟨p', vs, ep, e2, e3, e4, e5, e6⟩ := r
  cases ep
  have vs0 : Same (vis hd O H0) (vis hd (p :: O) H) := fun a o e => by
    obtain ⟨g1, g2, g3⟩ := vis_some.mp e
    have ne : a ≠ p := ne_of_none g3 e2
    exact vis_some.mpr ⟨g1, fun q => (List.mem_cons.mp q).elim ne g2, fr a o (fun q => by rw [(k0.offZ a q).2] at g1; cases g1) g3⟩
  have Bp : B p = none := by
    cases q : B p with
    | none => rfl
    | some o => rw [k0.stood p o q] at e2; cases e2
  refine ⟨k.stood, fun a ha => ?_, k.offZ, k.liveB, k.stk, fun j x h => ?_, k.apart, k.len⟩
  · rcases List.mem_cons.mp ha with rfl | ha
    · exact ⟨Bp, e3, vs, e5⟩
    · exact k.offO a ha
  · obtain ⟨w, h1, h2⟩ := k0.slot j x (new j x h)
    refine ⟨w, h1, ?_⟩
    cases x with
    | im d => exact Rp.same vs0 h2
    | ow es =>
      obtain ⟨q, ws, g1, g2, g3, g4⟩ := h2
      exact ⟨q, ws, g1, List.mem_cons_of_mem _ g2, fr q _ (fun z => by have := (k0.offO q g2).2.1; rw [(k0.offZ q z).2] at this; cases this) g3, g4.same vs0⟩
    | br _ _ => exact h2
    | ob t d => exact L.mono vs0 h2
    | dr => exact h2
/-! ### statements -/
/-- what a name may hold: no list of one's own -/
def plainR : Ent → (Ent → Prop) → Prop
  | .im d, Q => Q (.im d)
  | .ow ds, Q => Q (.im (.list ds))
  | .ob t d, Q => Q (.ob t d)
  | .dr, Q => Q .dr
  | .br _ _, _ => False
theorem plainR_mono {r : Ent} {Q Q' : Ent → Prop} (k : ∀ e, Q e → Q' e) (h : plainR r Q) : plainR r Q' := by
  cases r <;> first | exact k _ h | exact h.elim
theorem plainR_v {K : PySem.W.Frag} {hd : Addr → Bool} {Z : Zt} {O : List Addr} {σ : L2.St} {H H' : Hp} {v : V} {r : Ent} {Q : Ent → Prop} (h : plainR r Q) (q : Rs L K hd Z O σ H H' v r) : ∃ e, Q e ∧ (∀ ds, e ≠ .ow ds) ∧ Sl L K hd Z O H' v e := by
  cases r with
  | im d => exact ⟨_, h, (fun _ z => nomatch z), q⟩
  | ow ds => exact ⟨_, h, (fun _ z => nomatch z), (Rs.keeps q rfl : Rp K (vis hd O H') v (.list ds))⟩
  | br _ _ => exact h.elim
  | ob t d => exact ⟨_, h, (fun _ z => nomatch z), q⟩
  | dr => exact ⟨_, h, (fun _ z => nomatch z), q⟩
def fSet (i : Nat) (f : FE) : FS := fun E s => f s fun r s1 => plainR r fun e => E.nx { s1 with env := pt s1.env i (some e) }
variable {e : Expr} {f : FE} {x : Str} {pos' : Pos}
theorem fSet_mono {i : Nat} (he : XE L X e f) : ∀ E E' s, E.Le E' → fSet i f E s → fSet i f E' s := fun E E' s le h => he.mono _ _ _ (fun r s1 h1 => plainR_mono (fun e q => le.1 _ q) h1) h
theorem xsSet (i : Nat) (he : XE L X e f) (hN : X.N.Nodup) (hi : X.N[i]? = some x := by rfl) (hx : Loc X.env.scope x := by first | exact Or.inl rfl | exact Or.inr rfl) (hs : swapsWith e (some (.Name x pos')) pos.line X.env = pure false := by rfl)
    (hf : X.fn x = true ∨ X.env.scope.names.lookup x = some .local := by first | exact .inl rfl | exact .inr rfl) : XS L X (.Assign [.Name x pos'] e pos) (fSet i f) := by
  refine ⟨fSet_mono he, fun hd Z B O σ H s E D ok re h => tsW_of (ps_set hN hi hx peW hs hf) (he.run hd Z B O σ H s _ ok (he.mono _ _ _ (fun r s1 h1 v H1 k1 f1 r1 => ?_) h))⟩
  obtain ⟨en, q, n, sl⟩ := plainR_v h1 r1
  exact re.nx O _ H1 _ q (k1.set i fun y hy => by cases hy; exact ⟨n, sl⟩)
/-- x = a new list, to be changed here -/
def ownR : Ent → (List PyData → Prop) → Prop
  | .ow ds, Q => Q ds
  | _, _ => False
theorem ownR_mono {r : Ent} {Q Q' : List PyData → Prop} (k : ∀ e, Q e → Q' e) (h : ownR r Q) : ownR r Q' := by
  cases r <;> first | exact k _ h | exact h.elim
def fSetO (i : Nat) (f : FE) : FS := fun E s => f s fun r s1 => ownR r fun ds => E.nx { s1 with env := pt s1.env i (some (.ow ds)) }
theorem xsSetO (i : Nat) (he : XE L X e f) (hN : X.N.Nodup) (hi : X.N[i]? = some x := by rfl) (hx : Loc X.env.scope x := by first | exact Or.inl rfl | exact Or.inr rfl) (hs : swapsWith e (some (.Name x pos')) pos.line X.env = pure false := by rfl)
    (hf : X.fn x = true ∨ X.env.scope.names.lookup x = some .local := by first | exact .inl rfl | exact .inr rfl) : XS L X (.Assign [.Name x pos'] e pos) (fSetO i f) := by
  refine ⟨fun E E' s le h => he.mono _ _ _ (fun r s1 h1 => ownR_mono (fun e q => le.1 _ q) h1) h, fun hd Z B O σ H s E D ok re h => tsW_of (ps_set hN hi hx peW hs hf) (he.run hd Z B O σ H s _ ok (he.mono _ _ _ (fun r s1 h1 v H1 k1 f1 r1 => ?_) h))⟩
  cases r with
  | ow ds =>
    obtain ⟨p, _, k2⟩ := k1.own ok i r1 f1
    exact re.nx _ _ H1 _ h1 k2
  | im d => exact h1.elim
  | br _ _ => exact h1.elim
  | ob t d => exact h1.elim
  | dr => exact h1.elim
def fRet (f : FE) : FS := fun E s => f s fun r s1 => plainR2 r s1 E
where plainR2 (r : Ent) (s1 : S) (E : EE) : Prop := match r with
  | .im d => E.rt (.im d) s1.n
  | .ow ds => E.rt (.ow ds) s1.n
  | .br _ ds => E.rt (.ow ds) s1.n
  | .ob t d => E.rt (.ob t d) s1.n
  | .dr => E.rt .dr s1.n
theorem vis_nil {hd : Addr → Bool} {O : List Addr} {H : Hp} : Same (vis hd O H) (vis hd [] H) := fun a o e => by
  obtain ⟨h1, h2, h3⟩ := vis_some.mp e
  exact vis_some.mpr ⟨h1, by simp, h3⟩
theorem vis_one {hd : Addr → Bool} {O : List Addr} {H : Hp} {p : Addr} (hp : p ∈ O) : Same (vis hd O H) (vis hd [p] H) := fun a o e => by
  obtain ⟨h1, h2, h3⟩ := vis_some.mp e
  exact vis_some.mpr ⟨h1, fun q => h2 (by rw [List.mem_singleton.mp q]; exact hp), h3⟩
theorem vis_cons {hd : Addr → Bool} {O : List Addr} {H : Hp} {p : Addr} : Same (vis hd (p :: O) H) (vis hd [p] H) := vis_one List.mem_cons_self
theorem Ok.noneB {K : PySem.W.Frag} {hd : Addr → Bool} {Z : Zt} {B : Hp} {O : List Addr} {σ : L2.St} {H : Hp} {s : S} (k : Ok L K hd Z B O σ H s) {p : Addr} (h : H p = none) : B p = none := by
  cases q : B p with
  | none => rfl
  | some o => rw [k.stood p o q] at h; cases h
theorem xsRet (he : XE L X e f) : XS L X (.Return (some e) pos) (fRet f) := by
  refine ⟨fun E E' s le h => he.mono _ _ _ (fun r s1 h1 => ?_) h, fun hd Z B O σ H s E D ok re h => tsW_of (ps_ret peW) (he.run hd Z B O σ H s _ ok (he.mono _ _ _ (fun r s1 h1 v H1 k1 f1 r1 => ?_) h))⟩
  · cases r <;> exact le.2.1 _ _ h1
  · have fb : Frm Z B H1 := fun b o _ q => k1.stood b o q
    cases r with
    | im d => exact re.rt _ _ v H1 h1 fb k1.stk (Rp.same vis_nil r1)
    | ow ds =>
      obtain ⟨p, vs, rfl, e2, e3, e4, e5, e6⟩ := r1
      exact re.rt _ _ _ H1 h1 fb k1.stk ⟨p, vs, rfl, ok.noneB e2, e3, by simp, e5, e6.same vis_cons⟩
    | br i ds =>
      obtain ⟨p, vs, rfl, _, e3, e4, e5⟩ := r1
      have q := k1.offO p e3
      exact re.rt _ _ _ H1 h1 fb k1.stk ⟨p, vs, rfl, q.1, q.2.1, by simp, e4, e5.same (vis_one e3)⟩
    | ob t d => exact re.rt _ _ v H1 h1 fb k1.stk (L.mono vis_nil r1)
    | dr => exact re.rt _ _ v H1 h1 fb k1.stk r1
def fRetN : FS := fun E s => E.rt (.im .none) s.n
theorem xsRetN : XS L X (.Return none pos) fRetN :=
  ⟨fun E E' s le h => le.2.1 _ _ h, fun hd Z B O σ H s E D ok re h => tsW_of ps_retN (re.rt _ _ .non H h (fun b o _ q => ok.stood b o q) ok.stk .non)⟩
/-! blocks -/
variable {st : Stmt} {rest : List Stmt} {g : FS} {gs : FS}
def fSkip : FS := fun E s => E.nx s
def fSeq (g gs : FS) : FS := fun E s => g { E with nx := fun s' => gs E s' } s
theorem EE.Le.refl (E : EE) : E.Le E := ⟨fun _ h => h, fun _ _ h => h, fun _ h => h, fun _ h => h⟩
theorem xssNil : XSs L X [] fSkip := ⟨fun E E' s le h => le.1 _ h, fun hd Z B O σ H s E D ok re h => tssW_of pss_nil (re.nx _ _ _ _ h ok)⟩
theorem xssCons (h1 : XS L X st g) (h2 : XSs L X rest gs) : XSs L X (st :: rest) (fSeq g gs) :=
  ⟨fun E E' s le h => h1.mono { E with nx := fun s' => gs E s' } _ _ ⟨fun s' q => h2.mono _ _ _ le q, le.2.1, le.2.2.1, le.2.2.2⟩ h, fun hd Z B O σ H s E D ok re h => tssW_of (pss_cons psW pssW)
    (h1.run hd Z B O σ H s { E with nx := fun s' => gs E s' } _ ok ⟨fun O' σ' H' s' q k => h2.run hd Z B O' σ' H' s' E D k re q, re.rt, re.bk, re.ct⟩ h)⟩
theorem xssOne (h1 : XS L X st g) : XSs L X [st] g :=
  ⟨h1.mono, fun hd Z B O σ H s E D ok re h => tssW_of (pss_one psW) (h1.run hd Z B O σ H s E D ok re h)⟩
theorem xsPass : XS L X (.Pass pos) fSkip := ⟨fun E E' s le h => le.1 _ h, fun hd Z B O σ H s E D ok re h => tsW_of ps_pass (re.nx _ _ _ _ h ok)⟩
theorem xsDoc {x j pos'} : XS L X (.Expr (.Constant (.str x) j pos) pos') fSkip := ⟨fun E E' s le h => le.1 _ h, fun hd Z B O σ H s E D ok re h => tsW_of ps_doc (re.nx _ _ _ _ h ok)⟩
theorem xsBreak : XS L X (.Break pos) (fun E s => E.bk s) := ⟨fun E E' s le h => le.2.2.1 _ h, fun hd Z B O σ H s E D ok re h => tsW_of ps_break (re.bk _ _ _ _ h ok)⟩
theorem xsCont : XS L X (.Continue pos) (fun E s => E.ct s) := ⟨fun E E' s le h => le.2.2.2 _ h, fun hd Z B O σ H s E D ok re h => tsW_of ps_continue (re.ct _ _ _ _ h ok)⟩
/-- never reached -/
theorem xsNever : XS L X st (fun _ _ => False) := ⟨fun _ _ _ _ h => h, fun _ _ _ _ _ _ _ _ _ _ _ h => h.elim⟩
theorem xssNever : XSs L X rest (fun _ _ => False) := ⟨fun _ _ _ _ h => h, fun _ _ _ _ _ _ _ _ _ _ _ h => h.elim⟩
def fIfS (c : FT) (g g' : FS) : FS := fun E s => c s fun b s1 => match b with
  | true => g E s1
  | false => g' E s1
theorem xsIf {c : Expr} {t : FT} {as bs : List Stmt} {g g' : FS} (hc : XT L X c t) (ha : XSs L X as g) (hb : XSs L X bs g') : XS L X (.If c as bs pos) (fIfS t g g') := by
  refine ⟨fun E E' s le h => hc.mono _ _ _ (fun b s1 h1 => ?_) h, fun hd Z B O σ H s E D ok re h => tsW_of (ps_if ptW pssW pssW) (hc.run hd Z B O σ H s _ ok (hc.mono _ _ _ (fun b s1 h1 H1 k1 f1 => ?_) h))⟩
  · cases b with
    | true => exact ha.mono _ _ _ le h1
    | false => exact hb.mono _ _ _ le h1
  · cases b with
    | true => exact iteT (ha.run hd Z B O σ H1 s1 E D k1 re h1)
    | false => exact iteF (hb.run hd Z B O σ H1 s1 E D k1 re h1)
/-- a ghost: one's own list at a slot becomes a datum -/
def fFreeze (i : Nat) (gs : FS) : FS := fun E s => match gt s.env i with
  | some (.ow ds) => gs E { s with env := pt s.env i (some (.im (.list ds))) }
  | some (.im d) => gs E s
  | _ => False
theorem Ok.freeze {K : PySem.W.Frag} {hd : Addr → Bool} {Z : Zt} {B : Hp} {O : List Addr} {σ : L2.St} {H : Hp} {s : S} (k : Ok L K hd Z B O σ H s) {i : Nat} {ds : List PyData} (h : gt s.env i = some (.ow ds)) :
    ∃ O', Ok L K hd Z B O' σ H { s with env := pt s.env i (some (.im (.list ds))) } := by
  have h0 := gt_some.mp h
  obtain ⟨v, hv, p, vs, rfl, hp, e3, e4⟩ := k.slot i _ h0
  have le : ∀ a, a ∈ O.filter (fun a => decide (a ≠ p)) ↔ a ∈ O ∧ a ≠ p := fun a => by rw [List.mem_filter, decide_eq_true_iff]
  have vv : Same (vis hd O H) (vis hd (O.filter fun a => decide (a ≠ p)) H) := fun a o e => by
    obtain ⟨g1, g2, g3⟩ := vis_some.mp e
    exact vis_some.mpr ⟨g1, fun q => g2 ((le a).mp q).1, g3⟩
  have hl : i < s.env.length := (List.getElem?_eq_some_iff.mp h0).1
  have ix : ∀ (j : Nat) (x : Ent), (pt s.env i (some (.im (.list ds))))[j]? = some (some x) → (j = i ∧ x = .im (.list ds)) ∨ (j ≠ i ∧ s.env[j]? = some (some x)) := fun j x h => by
    rw [pt_set] at h
    by_cases hj : j = i
    · subst hj
      rw [List.getElem?_set_self hl] at h
      cases h
      exact .inl ⟨rfl, rfl⟩
    · rw [List.getElem?_set_ne (Ne.symm hj)] at h
      exact .inr ⟨hj, h⟩
  refine ⟨O.filter fun a => decide (a ≠ p), k.stood, fun a ha => k.offO a ((le a).mp ha).1, k.offZ, k.liveB, k.stk, fun j x hj => ?_, fun j1 j2 es fs q h1 h2 h3 h4 => ?_, by rw [pt_set, List.length_set]; exact k.len⟩
  · rcases ix j x hj with ⟨rfl, rfl⟩ | ⟨nj, hj⟩
    · refine ⟨.ref p, hv, ?_⟩
      exact (.lst (vis_some.mpr ⟨(k.offO p hp).2.1, fun q => ((le p).mp q).2 rfl, e3⟩) (e4.same vv) : Rp K _ (.ref p) (.list ds))
    · obtain ⟨w, g1, g2⟩ := k.slot j x hj
      refine ⟨w, g1, ?_⟩
      cases x with
      | im d => exact Rp.same vv g2
      | ow es =>
        obtain ⟨q, ws, rfl, a2, a3, a4⟩ := g2
        refine ⟨q, ws, rfl, (le q).mpr ⟨a2, fun z => ?_⟩, a3, a4.same vv⟩
        subst z
        exact nj (k.apart j i es ds q hj h0 g1 hv)
      | br _ _ => exact g2
      | ob t d => exact L.mono vv g2
      | dr => exact g2
  · rcases ix _ _ h1 with ⟨_, z⟩ | ⟨_, g1⟩
    · cases z
    · rcases ix _ _ h2 with ⟨_, z⟩ | ⟨_, g2⟩
      · cases z
      · exact k.apart _ _ _ _ _ g1 g2 h3 h4
theorem xssFreeze (i : Nat) (h : XSs L X rest gs) : XSs L X rest (fFreeze i gs) := by
  refine ⟨fun E E' s le q => ?_, fun hd Z B O σ H s E D ok re q => ?_⟩
  · unfold fFreeze at q ⊢
    split at q
    · exact h.mono _ _ _ le q
    · exact h.mono _ _ _ le q
    · exact q.elim
  · unfold fFreeze at q
    split at q
    · rename_i ds e
      obtain ⟨O', k⟩ := ok.freeze e
      exact h.run hd Z B O' σ H _ E D k re q
    · exact h.run hd Z B O σ H _ E D ok re q
    · exact q.elim
/-- x.append(e), x one's own list at slot i -/
def fAppend (i : Nat) (f : FE) : FS := fun E s => match gt s.env i with
  | some (.ow ds) => f s fun r s1 => match r.kept with
    | some d => ds.length < sizeLine ∧ E.nx { s1 with env := pt s1.env i (some (.ow (ds ++ [d]))) }
    | none => False
  | _ => False
end
end DL
set_option Elab.async false
set_option linter.all false
set_option maxRecDepth 100000
set_option maxHeartbeats 2000000
namespace DL
open PySem PySem.Spec PyProof.Rows L2
section
variable {L : Lay} {X : Cx} {pos : Pos}
/-! ### append, extend -/
theorem Ok.grow {K : PySem.W.Frag} {hd : Addr → Bool} {Z : Zt} {B : Hp} {O : List Addr} {σ : L2.St} {H : Hp} {s : S} (k : Ok L K hd Z B O σ H s) {i : Nat} {ds : List PyData} (h : gt s.env i = some (.ow ds)) :
    ∃ p vs, σ[i]? = some (some (.ref p)) ∧ H p = some (.lst vs) ∧ vs.length = ds.length ∧ ∀ ws es, RpAll K (vis hd O H) ws es → Ok L K hd Z B O σ (upd H p (.lst (vs ++ ws))) { s with env := pt s.env i (some (.ow (ds ++ es))) } := by
  have h0 := gt_some.mp h
  obtain ⟨v, hv, p, vs, rfl, hp, e3, e4⟩ := k.slot i _ h0
  refine ⟨p, vs, hv, e3, e4.length, fun ws es r => ?_⟩
  have hl : i < s.env.length := (List.getElem?_eq_some_iff.mp h0).1
  have vv : Same (vis hd O H) (vis hd O (upd H p (.lst (vs ++ ws)))) := fun a o e => by
    obtain ⟨g1, g2, g3⟩ := vis_some.mp e
    have ne : a ≠ p := fun z => g2 (by rw [z]; exact hp)
    exact vis_some.mpr ⟨g1, g2, by rw [upd_ne ne]; exact g3⟩
  have ix : ∀ (j : Nat) (x : Ent), (pt s.env i (some (.ow (ds ++ es))))[j]? = some (some x) → (j = i ∧ x = .ow (ds ++ es)) ∨ (j ≠ i ∧ s.env[j]? = some (some x)) := fun j x h => by
    rw [pt_set] at h
    by_cases hj : j = i
    · subst hj
      rw [List.getElem?_set_self hl] at h
      cases h
      exact .inl ⟨rfl, rfl⟩
    · rw [List.getElem?_set_ne (Ne.symm hj)] at h
      exact .inr ⟨hj, h⟩
  have old : ∀ (j : Nat) (es : List PyData), s.env[j]? = some (some (.ow es)) → (pt s.env i (some (.ow (ds ++ es))))[j]? = (pt s.env i (some (.ow (ds ++ es))))[j]? := fun _ _ _ => rfl
  have bp := (k.offO p hp)
  have pz : ¬ zin Z p := fun z => by rw [(k.offZ p z).2] at bp; cases bp.2.1
  refine ⟨fun b o e => ?_, fun a ha => ?_, k.offZ, k.liveB, fun z e => L.keep (k.stk z e) fun b o hb q => ?_, fun j x hj => ?_, fun j1 j2 es1 es2 q h1 h2 h3 h4 => ?_, by rw [pt_set, List.length_set]; exact k.len⟩
  · have ne : b ≠ p := fun z => by rw [z, bp.1] at e; cases e
    rw [upd_ne ne]
    exact k.stood b o e
  · obtain ⟨g1, g2, g3⟩ := k.offO a ha
    refine ⟨g1, g2, ?_⟩
    by_cases z : a = p
    · rw [z]; exact ⟨_, upd_same⟩
    · rw [upd_ne z]; exact g3
  · have ne : b ≠ p := fun z' => pz ⟨z, e, by rw [← z']; exact hb⟩
    rw [upd_ne ne]
    exact q
  · rcases ix j x hj with ⟨rfl, rfl⟩ | ⟨nj, hj⟩
    · exact ⟨.ref p, hv, p, vs ++ ws, rfl, hp, upd_same, (e4.append r).same vv⟩
    · obtain ⟨w, g1, g2⟩ := k.slot j x hj
      refine ⟨w, g1, ?_⟩
      cases x with
      | im d => exact Rp.same vv g2
      | ow es' =>
        obtain ⟨q, ws', rfl, a2, a3, a4⟩ := g2
        have ne : q ≠ p := fun z => by
          subst z
          exact nj (k.apart j i es' ds q hj h0 g1 hv)
        exact ⟨q, ws', rfl, a2, by rw [upd_ne ne]; exact a3, a4.same vv⟩
      | br _ _ => exact g2
      | ob t d => exact L.mono vv g2
      | dr => exact g2
  · rcases ix _ _ h1 with ⟨rfl, z1⟩ | ⟨n1, g1⟩
    · rcases ix _ _ h2 with ⟨rfl, _⟩ | ⟨n2, g2⟩
      · rfl
      · exact k.apart _ _ _ _ _ h0 g2 h3 h4
    · rcases ix _ _ h2 with ⟨rfl, _⟩ | ⟨n2, g2⟩
      · exact k.apart _ _ _ _ _ g1 h0 h3 h4
      · exact k.apart _ _ _ _ _ g1 g2 h3 h4
variable {e : Expr} {f : FE} {x : Str} {p0 apos cpos : Pos}
theorem gt_env {s s' : S} (h : s'.env = s.env) (i : Nat) : gt s'.env i = gt s.env i := by rw [h]
theorem xsAppend (i : Nat) (he : XE L X e f) (hN : X.N[i]? = some x := by rfl) (hv : Vis X.env.scope x := by first | exact Or.inl rfl | exact Or.inr (Or.inl rfl) | exact Or.inr (Or.inr rfl)) (hd : (x == ("__debug__" : Str)) = false := by decide) (hcd : (x == ("__classdict__" : Str)) = false := by decide)
    (hs : starEach [e] X.env = (false, eval e X.env) :: starEach [] X.env := by rfl) (hbase : attributeBase (.Name x p0) "append" X.env (eval (.Name x p0) X.env) = eval (.Name x p0) X.env := by rfl)
    (hfew : ((backTo cpos (starEach [e] X.env)).all (fun x => !x.1) && (backToKw cpos (keywordEach [] X.env)).all (fun x => x.1.isSome)
      && decide ([e].length + ([] : List Keyword).length + (if ([] : List Keyword).isEmpty then 0 else 1) < 30)) = true := by rfl)
    (hline : (apos.endLine == cpos.line) = true := by rfl) (hplain : (backTo cpos (starEach ([] : List Expr) X.env)).any (·.1) = false := by rfl) (hsw : swapsWith (.Call (.Attribute (.Name x p0) "append" apos) [e] [] cpos) none pos.line X.env = pure false := by rfl) :
    XS L X (.Expr (.Call (.Attribute (.Name x p0) "append" apos) [e] [] cpos) pos) (fAppend i f) := by
  refine ⟨fun E E' s le h => ?_, fun hd' Z B O σ H s E D ok re h => tsW_of (ps_expr (pe_bm PySem.F.plainAttrs_list PySem.F.slot_list_append PySem.F.type_list_append mt_append (pe_var hN hv hd hcd) (pa_cons peW pa_nil hs) hbase hfew hline hs hplain) hsw) ?_⟩
  · unfold fAppend at h ⊢
    split at h
    · refine he.mono _ _ _ (fun r s1 h1 => ?_) h
      cases q : r.kept with
      | none => simp only [q] at h1
      | some d => simp only [q] at h1 ⊢; exact ⟨h1.1, le.1 _ h1.2⟩
    · exact h.elim
  · unfold fAppend at h
    split at h
    · rename_i ds e0
      obtain ⟨p, vs, hσ, hp, hlen, _⟩ := ok.grow e0
      refine ⟨_, hσ, .inl ⟨rfl, _, .inl (.inl hp)⟩, he.run hd' Z B O σ H s _ ok (he.mono _ _ _ (fun r s1 h1 v H1 k1 f1 r1 => ?_) h)⟩
      cases q : r.kept with
      | none => simp only [q] at h1
      | some d =>
        simp only [q] at h1
        obtain ⟨p', vs', hσ', hp', hlen', gr⟩ := k1.grow (i := i) (ds := ds) (by rw [gt_env f1.env]; exact e0)
        rw [hσ] at hσ'
        cases hσ'
        exact ⟨p, vs', v, rfl, rfl, hp', by rw [hlen']; exact h1.1, re.nx _ _ _ _ h1.2 (gr [v] [d] (.cons (Rs.keeps r1 q) .nil))⟩
    · exact h.elim
end
end DL
set_option Elab.async false
set_option linter.all false
set_option maxRecDepth 100000
set_option maxHeartbeats 2000000
namespace DL
open PySem PySem.Spec PyProof.Rows L2
section
variable {L : Lay} {X : Cx} {pos : Pos}
/-! ### targets -/
def tgW (X : Cx) (tg : Expr) : TG := fun v σ H Q => ∀ pins sh u, Inv X pins σ H sh → RelV v u → wpAny (model X.prog X.w) X.A (assign tg X.env u) (fun _ s' => ∃ σ' H', Inv X pins σ' H' s' ∧ Q σ' H') X.xe sh
theorem pgW {tg : Expr} : PG X tg (tgW X tg) := ⟨fun pins sh σ H v u Q I r h => h pins sh u I r⟩
theorem tgW_of {tg : Expr} {t : TG} {v : V} {σ : L2.St} {H : Hp} {Q : L2.St → Hp → Prop} (h : PG X tg t) (q : t v σ H Q) : tgW X tg v σ H Q := fun pins sh u I r => h.run pins sh σ H v u Q I r q
def tgsW (X : Cx) (ts : List Expr) : TGs := fun vs σ H Q => ∀ pins sh us, Inv X pins σ H sh → Vals vs us → wpAny (model X.prog X.w) X.A (assignInOrder ((assignEach ts X.env).map (·.2)) us) (fun _ s' => ∃ σ' H', Inv X pins σ' H' s' ∧ Q σ' H') X.xe sh
theorem pgsW {ts : List Expr} : PGs X ts (tgsW X ts) := ⟨fun pins sh σ H vs us Q I r h => h pins sh us I r⟩
theorem tgsW_of {ts : List Expr} {t : TGs} {vs : List V} {σ : L2.St} {H : Hp} {Q : L2.St → Hp → Prop} (h : PGs X ts t) (q : t vs σ H Q) : tgsW X ts vs σ H Q := fun pins sh us I r => h.run pins sh σ H vs us Q I r q
abbrev FG := PyData → S → (S → Prop) → Prop
abbrev FGs := List PyData → S → (S → Prop) → Prop
/-- only the slots ts are changed -/
def OnlyS (ts : List Nat) (σ σ' : L2.St) : Prop := (∀ j : Nat, j ∉ ts → σ'[j]? = σ[j]?) ∧ σ'.length = σ.length
structure XG (L : Lay) (X : Cx) (tg : Expr) (ts : List Nat) (f : FG) : Prop where
  mono : ∀ d s Q Q', (∀ s', Q s' → Q' s') → f d s Q → f d s Q'
  run : ∀ hd Z B O σ H s v d Q, Ok L X.K hd Z B O σ H s → Rp X.K (vis hd O H) v d → f d s (fun s' => ∀ σ', Ok L X.K hd Z B O σ' H s' → OnlyS ts σ σ' → Q σ' H) → tgW X tg v σ H Q
structure XGs (L : Lay) (X : Cx) (tgs : List Expr) (ts : List Nat) (f : FGs) : Prop where
  mono : ∀ d s Q Q', (∀ s', Q s' → Q' s') → f d s Q → f d s Q'
  run : ∀ hd Z B O σ H s vs ds Q, Ok L X.K hd Z B O σ H s → RpAll X.K (vis hd O H) vs ds → f ds s (fun s' => ∀ σ', Ok L X.K hd Z B O σ' H s' → OnlyS ts σ σ' → Q σ' H) → tgsW X tgs vs σ H Q
def gN (i : Nat) : FG := fun d s Q => Q { s with env := pt s.env i (some (.im d)) }
variable {x : Str} {e : Expr} {es : List Expr} {ts us : List Nat} {g : FG} {gs : FGs}
theorem OnlyS.refl (σ : L2.St) : OnlyS ts σ σ := ⟨fun _ _ => rfl, rfl⟩
theorem OnlyS.trans {σ σ1 σ2 : L2.St} (a : OnlyS ts σ σ1) (b : OnlyS us σ1 σ2) : OnlyS (ts ++ us) σ σ2 := ⟨fun j h => (b.1 j fun q => h (List.mem_append_right _ q)).trans (a.1 j fun q => h (List.mem_append_left _ q)), b.2.trans a.2⟩
theorem xgName (i : Nat) (hN : X.N.Nodup) (hi : X.N[i]? = some x := by rfl) (hx : Loc X.env.scope x := by first | exact Or.inl rfl | exact Or.inr rfl) (hf : X.fn x = true ∨ X.env.scope.names.lookup x = some .local := by first | exact .inl rfl | exact .inr rfl) : XG L X (.Name x pos) [i] (gN i) :=
  ⟨fun d s Q Q' k h => k _ h, fun hd Z B O σ H s v d Q ok r h => tgW_of (pg_name hN hi hx hf) (h _ (ok.set i fun y hy => by cases hy; exact ⟨(fun _ z => nomatch z), r⟩) ⟨fun j hj => List.getElem?_set_ne (fun q => hj (by rw [← q]; exact List.mem_singleton.mpr rfl)), by rw [List.length_set]⟩)⟩
def gsNil : FGs := fun ds s Q => match ds with
  | [] => Q s
  | _ => False
def gsCons (g : FG) (gs : FGs) : FGs := fun ds s Q => match ds with
  | d :: r => g d s fun s1 => gs r s1 Q
  | [] => False
theorem xgsNil : XGs L X [] [] gsNil := by
  refine ⟨fun d s Q Q' k h => ?_, fun hd Z B O σ H s vs ds Q ok r h => ?_⟩
  · cases d with
    | nil => exact k _ h
    | cons a b => exact h.elim
  · cases r with
    | nil => exact tgsW_of pgs_nil ⟨rfl, h σ ok (OnlyS.refl σ)⟩
    | cons a b => exact h.elim
theorem xgsCons (h1 : XG L X e ts g) (h2 : XGs L X es us gs) (hs : (assignEach (e :: es) X.env).map (·.2) = assign e X.env :: (assignEach es X.env).map (·.2) := by rfl) : XGs L X (e :: es) (ts ++ us) (gsCons g gs) := by
  refine ⟨fun d s Q Q' k h => ?_, fun hd Z B O σ H s vs ds Q ok r h => ?_⟩
  · cases d with
    | nil => exact h.elim
    | cons a b => exact h1.mono _ _ _ _ (fun s1 q => h2.mono _ _ _ _ k q) h
  · cases r with
    | nil => exact h.elim
    | cons a b =>
      refine tgsW_of (pgs_cons pgW pgsW hs) ⟨_, _, rfl, h1.run hd Z B O σ H s _ _ _ ok a (h1.mono _ _ _ _ (fun s1 q σ1 k1 o1 => ?_) h)⟩
      exact h2.run hd Z B O σ1 H s1 _ _ _ k1 b (h2.mono _ _ _ _ (fun s2 q2 σ2 k2 o2 => q2 σ2 k2 (o1.trans o2)) q)
/-- (a, b, ..) = a tuple of n items -/
def gTup (n : Nat) (gs : FGs) : FG := fun d s Q => match d with
  | .tuple ds => ds.length = n ∧ gs ds s Q
  | _ => False
theorem xgTup {k n : Nat} (hc : X.calm = true) (h : XGs L X es us gs) (hn : (assignEach es X.env).length = n := by rfl) (hst : (assignEach es X.env).findIdx? (·.1) = none := by rfl) : XG L X (.Tuple es k pos) us (gTup n gs) := by
  refine ⟨fun d s Q Q' k h' => ?_, fun hd Z B O σ H s v d Q ok r h' => ?_⟩
  · unfold gTup at h' ⊢
    split at h'
    · exact ⟨h'.1, h.mono _ _ _ _ k h'.2⟩
    · exact h'.elim
  · unfold gTup at h'
    split at h'
    · cases r with
      | tup sq rs =>
        exact tgW_of (pg_tup hc pgsW hn hst) ⟨_, _, rfl, sameT vis_le sq, by rw [rs.length]; exact h'.1, h.run hd Z B O σ H s _ _ _ ok rs h'.2⟩
    · exact h'.elim
/-- target = e -/
def fAsg (g : FG) (f : FE) : FS := fun E s => f s fun r s1 => match r.kept with
  | some d => g d s1 E.nx
  | none => False
theorem xsAsg {tg : Expr} {f : FE} (he : XE L X e f) (hg : XG L X tg ts g) (hs : swapsWithSole [tg] e pos.line X.env = pure false := by rfl) (hw : swappedStores [tg] e X.env = pure none := by rfl)
    (h1 : (assignEach [tg] X.env).map (·.2) = [assign tg X.env] := by rfl) : XS L X (.Assign [tg] e pos) (fAsg g f) := by
  refine ⟨fun E E' s le h => he.mono _ _ _ (fun r s1 h1 => ?_) h, fun hd Z B O σ H s E D ok re h => tsW_of (ps_asg peW pgW hs hw h1) (he.run hd Z B O σ H s _ ok (he.mono _ _ _ (fun r s1 h1 v H1 k1 f1 r1 => ?_) h))⟩
  · cases q : r.kept with
    | none => simp only [q] at h1
    | some d => simp only [q] at h1 ⊢; exact hg.mono _ _ _ _ le.1 h1
  · cases q : r.kept with
    | none => simp only [q] at h1
    | some d =>
      simp only [q] at h1
      exact hg.run hd Z B O σ H1 s1 v d _ k1 (Rs.keeps r1 q) (hg.mono _ _ _ _ (fun s2 h2 σ2 k2 _ => re.nx _ _ _ _ h2 k2) h1)

/-! ### what is walked -/
structure WalkB (L : Lay) (K : PySem.W.Frag) (hd : Addr → Bool) (Z : Zt) (V0 : Hp) (Gp : Hp → Prop) (J : It) (ds : List PyData) : Prop where
  goes : ∀ i H, i < ds.length → Gp H → J.go i H
  stops : ∀ H, Gp H → J.stop ds.length H
  yields : ∀ i H x H' B O σ s, i < ds.length → Gp H → Ok L K hd Z B O σ H s → Same V0 (vis hd O H) → J.yld i H x H' → ∃ d, ds[i]? = some d ∧ Same H H' ∧ Rp K (vis hd O H') x d
def tiW (X : Cx) (tg iter : Expr) : TI := fun σ H R => ∀ pins sh, Inv X pins σ H sh → wpAny (model X.prog X.w) X.A (eval iter X.env) (fun v s1 => wpAny (model X.prog X.w) X.A (pyIter v) (PIE X pins σ tg R) X.xe s1) X.xe sh
theorem piW {tg iter : Expr} : PI X tg iter (tiW X tg iter) := ⟨fun pins sh σ H R I h => h pins sh I⟩
theorem tiW_of {tg iter : Expr} {t : TI} {σ : L2.St} {H : Hp} {R : It → Hp → Prop} (h : PI X tg iter t) (q : t σ H R) : tiW X tg iter σ H R := fun pins sh I => h.run pins sh σ H R I q
abbrev FI := S → (List PyData → S → Prop) → Prop
/-- c: the list may be one's own (a comprehension's: nothing of one's own is changed meanwhile) -/
structure XI (L : Lay) (X : Cx) (c : Bool) (tg iter : Expr) (f : FI) : Prop where
  mono : ∀ s Q Q', (∀ r s', Q r s' → Q' r s') → f s Q → f s Q'
  run : ∀ hd Z B O σ H s R, Ok L X.K hd Z B O σ H s → f s (fun ds s' => ∀ J H' Gp, Ok L X.K hd Z B O σ H' s' → Mv Z H H' s s' → ds.length ≤ sizeLine →
    (∀ H'', Frm Z H' H'' → Gp H'') → (c = false → ∀ O'' H'', Same (vis hd O H') (vis hd O'' H'') → Gp H'') → WalkB L X.K hd Z (vis hd O H') Gp J ds → R J H') → tiW X tg iter σ H R
theorem tW_len {σ : L2.St} {H : Hp} {Q : VK} (h : tW X e σ H fun v H' => (∀ p vs, SqL X.K H' p vs ∨ SqT X.K H' p vs → vs.length ≤ sizeLine) → Q v H') : tW X e σ H Q := fun pins sh I =>
  wpAny_mono (h pins sh I) (fun _ _ ⟨v, H', I', r, q⟩ => ⟨v, H', I', r, q fun p vs e => by
    rcases e with e | e
    · obtain ⟨_, _, _, z⟩ := I'.list e; exact z
    · obtain ⟨_, _, _, z⟩ := I'.tuple e; exact z⟩) fun _ _ z => z
theorem rp_ofSame {K : PySem.W.Frag} {hd : Addr → Bool} {O : List Addr} {H H1 : Hp} {O1 : List Addr} {vs : List V} {ds : List PyData} {i : Nat} {x : V} (r : RpAll K (vis hd O H) vs ds) (sm : Same (vis hd O H) (vis hd O1 H1)) (h : vs[i]? = some x) : ∃ d, ds[i]? = some d ∧ Rp K (vis hd O1 H1) x d := by
  obtain ⟨d, h1, h2⟩ := r.get h
  exact ⟨d, h1, h2.same sm⟩
theorem walkB_list {K : PySem.W.Frag} {hd : Addr → Bool} {Z : Zt} {O : List Addr} {H : Hp} {p : Addr} {vs : List V} {ds : List PyData} {Gp : Hp → Prop} (r : RpAll K (vis hd O H) vs ds) (g : ∀ H', Gp H' → SqL K H' p vs) : WalkB L K hd Z (vis hd O H) Gp (Itl K p) ds :=
  ⟨fun i H' hi q => ⟨vs, vs[i]'(by rw [r.length]; exact hi), g _ q, List.getElem?_eq_getElem _⟩, fun H' q => ⟨vs, g _ q, by rw [r.length]; exact Nat.le_refl _⟩, fun i H' x H2 B O' σ s hi q ok sm y => by
    obtain ⟨rfl, y⟩ := y
    obtain ⟨d, h1, h2⟩ := rp_ofSame r sm (y vs (g _ q))
    exact ⟨d, h1, Same.refl _, h2⟩⟩
theorem walkB_tup {K : PySem.W.Frag} {hd : Addr → Bool} {Z : Zt} {O : List Addr} {H : Hp} {p : Addr} {vs : List V} {ds : List PyData} {Gp : Hp → Prop} (r : RpAll K (vis hd O H) vs ds) (g : ∀ H', Gp H' → SqT K H' p vs) : WalkB L K hd Z (vis hd O H) Gp (Itt K p) ds :=
  ⟨fun i H' hi q => ⟨vs, vs[i]'(by rw [r.length]; exact hi), g _ q, List.getElem?_eq_getElem _⟩, fun H' q => ⟨vs, g _ q, by rw [r.length]; exact Nat.le_refl _⟩, fun i H' x H2 B O' σ s hi q ok sm y => by
    obtain ⟨rfl, y⟩ := y
    obtain ⟨d, h1, h2⟩ := rp_ofSame r sm (y vs (g _ q))
    exact ⟨d, h1, Same.refl _, h2⟩⟩
/-- over a list -/
def fItL (c : Bool) (f : FE) : FI := fun s Q => f s fun r s1 => match r with
  | .im (.list ds) => Q ds s1
  | .ow ds => Q ds s1
  | .br _ ds => c = true ∧ Q ds s1
  | _ => False
variable {tg : Expr} {f : FE}
theorem fItL_mono {c : Bool} (he : XE L X e f) : ∀ s Q Q', (∀ r s', Q r s' → Q' r s') → fItL c f s Q → fItL c f s Q' := fun s Q Q' k h => he.mono _ _ _ (fun r s1 h1 => by
    split at h1
    · exact k _ _ h1
    · exact k _ _ h1
    · exact ⟨h1.1, k _ _ h1.2⟩
    · exact h1.elim) h
theorem xiList (c : Bool) (he : XE L X e f) : XI L X c tg e (fItL c f) := by
  refine ⟨fItL_mono he, fun hd Z B O σ H s R ok h => tiW_of (pi_list peW) (tW_len (he.run hd Z B O σ H s _ ok (he.mono _ _ _ (fun r s1 h1 v H1 k1 f1 r1 ln => ?_) h)))⟩
  split at h1
  · rename_i ds
    cases r1 with
    | lst hs rs =>
      refine ⟨_, rfl, ⟨_, SqL.of (vis_le _ _ hs)⟩, h1 _ H1 (fun H2 => SqL X.K H2 _ _) k1 f1 ?_ ?_ ?_ (walkB_list rs fun _ q => q)⟩
      · rw [← rs.length]; exact ln _ _ (.inl (SqL.of (vis_le _ _ hs)))
      · exact fun H2 fr => SqL.of (vis_le _ _ (vis_frmX (O' := O) k1 fr _ _ hs))
      · exact fun _ O2 H2 sm => SqL.of (vis_le _ _ (sm _ _ hs))
  · rename_i ds
    obtain ⟨p, vs, rfl, e2, e3, e4, e5, e6⟩ := r1
    have hs : vis hd O H1 p = some (.lst vs) := vis_some.mpr ⟨e3, e4, e5⟩
    refine ⟨p, rfl, ⟨_, SqL.of e5⟩, h1 _ H1 (fun H2 => SqL X.K H2 p vs) k1 f1 ?_ ?_ ?_ (walkB_list (e6.same vis_more) fun _ q => q)⟩
    · rw [← e6.length]; exact ln _ _ (.inl (SqL.of e5))
    · exact fun H2 fr => SqL.of (vis_le _ _ (vis_frmX (O' := O) k1 fr _ _ hs))
    · exact fun _ O2 H2 sm => SqL.of (vis_le _ _ (sm _ _ hs))
  · rename_i i ds
    obtain ⟨p, vs, rfl, e2, e3, e4, e5⟩ := r1
    refine ⟨p, rfl, ⟨_, SqL.of e4⟩, h1.2 _ H1 (fun H2 => SqL X.K H2 p vs) k1 f1 ?_ ?_ (fun z => ?_) (walkB_list e5 fun _ q => q)⟩
    · rw [← e5.length]; exact ln _ _ (.inl (SqL.of e4))
    · exact fun H2 fr => SqL.of (fr p _ (fun z => by have := (k1.offO p e3).2.1; rw [(k1.offZ p z).2] at this; cases this) e4)
    · rw [h1.1] at z; cases z
  · exact h1.elim
/-- over a tuple -/
def fItT (f : FE) : FI := fun s Q => f s fun r s1 => match r with
  | .im (.tuple ds) => Q ds s1
  | _ => False
theorem xiTup (c : Bool) (he : XE L X e f) : XI L X c tg e (fItT f) := by
  refine ⟨fun s Q Q' k h => he.mono _ _ _ (fun r s1 h1 => ?_) h, fun hd Z B O σ H s R ok h => tiW_of (pi_tup peW) (tW_len (he.run hd Z B O σ H s _ ok (he.mono _ _ _ (fun r s1 h1 v H1 k1 f1 r1 ln => ?_) h)))⟩
  · split at h1
    · exact k _ _ h1
    · exact h1.elim
  · split at h1
    · cases r1 with
      | tup hs rs =>
        have hs1 := sameT vis_le hs
        refine ⟨_, rfl, ⟨_, hs1⟩, h1 _ H1 (fun H2 => SqT X.K H2 _ _) k1 f1 ?_ ?_ ?_ (walkB_tup rs fun _ q => q)⟩
        · rw [← rs.length]; exact ln _ _ (.inr hs1)
        · exact fun H2 fr => sameT vis_le (sameT (vis_frmX (O' := O) k1 fr) hs)
        · exact fun _ O2 H2 sm => sameT vis_le (sameT sm hs)
    · exact h1.elim
/-- range(n), range(a, b) -/
def rngD (lo : Int) (n : Nat) : List PyData := (List.range n).map fun i : Nat => .int (lo + (i : Nat))
theorem walkB_range {K : PySem.W.Frag} {hd : Addr → Bool} {Z : Zt} {V0 : Hp} {Gp : Hp → Prop} {lo : Int} {n : Nat} : WalkB L K hd Z V0 Gp (Itr lo n) (rngD lo n) := by
  have hl : (rngD lo n).length = n := by unfold rngD; rw [List.length_map, List.length_range]
  refine ⟨fun i H' hi q => by rw [hl] at hi; exact hi, fun H' q => by rw [hl]; exact Nat.le_refl _, fun i H' x H2 B O' σ s hi q ok sm y => ?_⟩
  obtain ⟨rfl, rfl⟩ := y
  rw [hl] at hi
  exact ⟨_, by unfold rngD; rw [List.getElem?_map, List.getElem?_range hi]; rfl, Same.refl _, .int _⟩
def fRng1 (fs : FA) : FI := fun s Q => fs s fun rs s1 => match rs with
  | [r] => isI r fun j => (-(2 ^ 62) ≤ j ∧ j < 2 ^ 62 ∧ j.toNat ≤ sizeLine) ∧ Q (rngD 0 j.toNat) s1
  | _ => False
def fRng2 (fs : FA) : FI := fun s Q => fs s fun rs s1 => match rs with
  | [r, r'] => isI r fun i => isI r' fun j => ((-(2 ^ 62) ≤ i ∧ i < 2 ^ 62 ∧ -(2 ^ 62) ≤ j ∧ j < 2 ^ 62) ∧ (j - i).toNat ≤ sizeLine) ∧ Q (rngD i (j - i).toNat) s1
  | _ => False
theorem isI_v {K : PySem.W.Frag} {hd : Addr → Bool} {Z : Zt} {O : List Addr} {σ : L2.St} {H H' : Hp} {v : V} {r : Ent} {Q : Int → Prop} (h : isI r Q) (q : Rs L K hd Z O σ H H' v r) : ∃ b, v = .int b ∧ Q b := by
  unfold isI at h
  split at h
  · cases q
    exact ⟨_, rfl, h⟩
  · exact h.elim
variable {a b : Expr} {fs : FA} {m : Nat} {p : Pos}
theorem xiRng1 (c : Bool) (ha : XA L X [a] m fs) (hm : X.mg "range" = none) (hg : Gl X "range" := by rfl) (hs : starEach [a] X.env = [(false, eval a X.env)] := by rfl) : XI L X c tg (.Call (.Name "range" p) [a] [] pos) (fRng1 fs) := by
  refine ⟨fun s Q Q' k h => ha.mono _ _ _ (fun r s1 h1 => ?_) h, fun hd Z B O σ H s R ok h => tiW_of (pi_range1 hg hm paW hs) (ha.run hd Z B O σ H s _ ok (ha.mono _ _ _ (fun rs s1 h1 vs H1 k1 f1 r1 => ?_) h))⟩
  · match r, h1 with
    | [r], h1 => exact isI_mono (fun j q => ⟨q.1, k _ _ q.2⟩) h1
    | [], h1 => exact h1.elim
    | _ :: _ :: _, h1 => exact h1.elim
  · match rs, h1, r1 with
    | [r], h1, r1 =>
      obtain ⟨v, rfl, r2⟩ := rs1 r1
      obtain ⟨j, rfl, q, q'⟩ := isI_v h1 r2
      refine ⟨j, rfl, q.1, q.2.1, q' _ H1 (fun _ => True) k1 f1 ?_ (fun _ _ => True.intro) (fun _ _ _ _ => True.intro) walkB_range⟩
      unfold rngD
      rw [List.length_map, List.length_range]
      exact q.2.2
    | [], h1, _ => exact h1.elim
    | _ :: _ :: _, h1, _ => exact h1.elim
theorem xiRng2 (c : Bool) (ha : XA L X [a, b] m fs) (hm : X.mg "range" = none) (hg : Gl X "range" := by rfl) (hs : starEach [a, b] X.env = [(false, eval a X.env), (false, eval b X.env)] := by rfl) (hs2 : starEach [b] X.env = [(false, eval b X.env)] := by rfl) :
    XI L X c tg (.Call (.Name "range" p) [a, b] [] pos) (fRng2 fs) := by
  refine ⟨fun s Q Q' k h => ha.mono _ _ _ (fun r s1 h1 => ?_) h, fun hd Z B O σ H s R ok h => tiW_of (pi_range2 hg hm paW hs hs2) (ha.run hd Z B O σ H s _ ok (ha.mono _ _ _ (fun rs s1 h1 vs H1 k1 f1 r1 => ?_) h))⟩
  · match r, h1 with
    | [r, r'], h1 => exact isI_mono (fun i q => isI_mono (fun j q' => ⟨q'.1, k _ _ q'.2⟩) q) h1
    | [], h1 => exact h1.elim
    | [_], h1 => exact h1.elim
    | _ :: _ :: _ :: _, h1 => exact h1.elim
  · match rs, h1, r1 with
    | [r, r'], h1, r1 =>
      obtain ⟨v, w, rfl, r2, r3⟩ := rs2 r1
      obtain ⟨i, rfl, h2⟩ := isI_v h1 r2
      obtain ⟨j, rfl, q, q'⟩ := isI_v h2 r3
      refine ⟨i, j, rfl, q.1, q' _ H1 (fun _ => True) k1 f1 ?_ (fun _ _ => True.intro) (fun _ _ _ _ => True.intro) walkB_range⟩
      unfold rngD
      rw [List.length_map, List.length_range]
      exact q.2
    | [], h1, _ => exact h1.elim
    | [_], h1, _ => exact h1.elim
    | _ :: _ :: _ :: _, h1, _ => exact h1.elim
end
end DL
set_option Elab.async false
set_option linter.all false
set_option maxRecDepth 100000
set_option maxHeartbeats 2000000
namespace DL
open PySem PySem.Spec PyProof.Rows L2
section
variable {L : Lay} {X : Cx} {pos : Pos}
/-! ### the base of a loop -/
open Classical in
noncomputable def bas (Z : Zt) (O : List Addr) (H : Hp) : Hp := fun a => if a ∈ O ∨ zin Z a then none else H a
theorem bas_some {Z : Zt} {O : List Addr} {H : Hp} {a : Addr} {o : HO} : bas Z O H a = some o ↔ a ∉ O ∧ ¬ zin Z a ∧ H a = some o := by
  unfold bas
  by_cases h : a ∈ O ∨ zin Z a
  · rw [if_pos h]
    constructor
    · intro e; cases e
    · rintro ⟨h1, h2, _⟩
      rcases h with h | h
      · exact absurd h h1
      · exact absurd h h2
  · rw [if_neg h]
    constructor
    · intro e
      exact ⟨fun q => h (.inl q), fun q => h (.inr q), e⟩
    · exact fun e => e.2.2
theorem bas_none {Z : Zt} {O : List Addr} {H : Hp} {a : Addr} (h : a ∈ O ∨ zin Z a) : bas Z O H a = none := by
  unfold bas
  rw [if_pos h]
section
variable {K : PySem.W.Frag} {hd : Addr → Bool} {Z : Zt} {B : Hp} {O : List Addr} {σ : L2.St} {H : Hp} {s : S}
theorem Ok.rebase (k : Ok L K hd Z B O σ H s) : Ok L K hd Z (bas Z O H) O σ H s :=
  ⟨fun b o e => (bas_some.mp e).2.2, fun a h => ⟨bas_none (.inl h), (k.offO a h).2⟩, fun a h => ⟨bas_none (.inr h), (k.offZ a h).2⟩, fun a h => by
    by_cases z : zin Z a
    · exact .inr z
    · rcases k.liveB a h with q | q
      · obtain ⟨o, e, r⟩ := q
        have ao : a ∉ O := fun w => by rw [(k.offO a w).1] at e; cases e
        exact .inl ⟨o, bas_some.mpr ⟨ao, z, k.stood a o e⟩, r⟩
      · exact absurd q z, k.stk, k.slot, k.apart, k.len⟩
/-- the loop's base holds more than the def's -/
theorem Ok.basLe (k : Ok L K hd Z B O σ H s) : ∀ b o, B b = some o → bas Z O H b = some o := fun b o e =>
  bas_some.mpr ⟨(fun w => by rw [(k.offO b w).1] at e; cases e), (fun w => by rw [(k.offZ b w).1] at e; cases e), k.stood b o e⟩
theorem Ok.unbase {O' : List Addr} {σ' : L2.St} {H' : Hp} {s' : S} (k : Ok L K hd Z B O σ H s) (k' : Ok L K hd Z (bas Z O H) O' σ' H' s') : Ok L K hd Z B O' σ' H' s' :=
  ⟨fun b o e => k'.stood b o (k.basLe b o e), fun a h => ⟨(by
    cases q : B a with
    | none => rfl
    | some o => have := (k'.offO a h).1; rw [k.basLe a o q] at this; cases this), (k'.offO a h).2⟩, k.offZ, k.liveB, k'.stk, k'.slot, k'.apart, k'.len⟩
theorem Ok.visBas {O' : List Addr} {σ' : L2.St} {H' : Hp} {s' : S} (k : Ok L K hd Z B O σ H s) (k' : Ok L K hd Z (bas Z O H) O' σ' H' s') : Same (vis hd O H) (vis hd O' H') := fun a o e => by
  obtain ⟨g1, g2, g3⟩ := vis_some.mp e
  have b1 : bas Z O H a = some o := bas_some.mpr ⟨g2, (fun z => by rw [(k.offZ a z).2] at g1; cases g1), g3⟩
  exact vis_some.mpr ⟨g1, (fun w => by rw [(k'.offO a w).1] at b1; cases b1), k'.stood a o b1⟩
end
/-! ### for -/
def forGo (g : FG) (body : FS) : List PyData → EE → S → Prop
  | [], E, s => E.nx s
  | d :: r, E, s => g d s fun s2 => body { E with nx := fun s3 => forGo g body r E s3, ct := fun s3 => forGo g body r E s3, bk := E.nx } s2
def fFor (fi : FI) (g : FG) (body : FS) : FS := fun E s => fi s fun ds s1 => forGo g body ds E s1
variable {tg iter : Expr} {body : List Stmt} {ts : List Nat} {fi : FI} {g : FG} {gb : FS}
theorem forGo_mono (hg : XG L X tg ts g) (hb : XSs L X body gb) : ∀ (ds : List PyData) (E E' : EE) (s : S), E.Le E' → forGo g gb ds E s → forGo g gb ds E' s
  | [], E, E', s, le, h => le.1 _ h
  | d :: r, E, E', s, le, h => hg.mono _ _ _ _ (fun s2 h2 => hb.mono { E with nx := fun s3 => forGo g gb r E s3, ct := fun s3 => forGo g gb r E s3, bk := E.nx } { E' with nx := fun s3 => forGo g gb r E' s3, ct := fun s3 => forGo g gb r E' s3, bk := E'.nx } _ ⟨fun s3 q => forGo_mono hg hb r E E' s3 le q, le.2.1, fun s3 q => le.1 _ q, fun s3 q => forGo_mono hg hb r E E' s3 le q⟩ h2) h
theorem xsFor (hi : XI L X false tg iter fi) (hg : XG L X tg ts g) (hb : XSs L X body gb) (hp : PassesOwn (model X.prog X.w) X.A X.env X.xe) (hc : X.calm = true) (hs : ∀ x, foldedSetIterable iter X.env x = pure x := by intro _; rfl) :
    XS L X (.For tg iter body [] pos) (fFor fi g gb) := by
  refine ⟨fun E E' s le h => hi.mono _ _ _ (fun ds s1 h1 => forGo_mono hg hb ds E E' s1 le h1) h, fun hd Z B O σ H s E D ok re h => tsW_of (ps_for hp hc piW pgW pssW hs) (hi.run hd Z B O σ H s _ ok (hi.mono _ _ _ (fun ds s1 h1 J H1 Gp k1 mv ln gf gv w => ?_) h))⟩
  have gp : ∀ {O' σ' H' s'}, Ok L X.K hd Z (bas Z O H1) O' σ' H' s' → Gp H' := fun k' => gv rfl _ _ (k1.visBas k')
  refine ⟨fun i m σ' H' => m = ds.length - i ∧ i ≤ ds.length ∧ ∃ O' s', Ok L X.K hd Z (bas Z O H1) O' σ' H' s' ∧ forGo g gb (ds.drop i) E s', ⟨_, rfl, Nat.zero_le _, O, s1, k1.rebase, h1⟩, ?_⟩
  rintro i m σ' H' ⟨rfl, hi', O', s', k', q⟩
  by_cases lt : i < ds.length
  · refine .inr ⟨w.goes i H' lt (gp k'), fun σ2 H2 => ∃ O2 s2, Ok L X.K hd Z (bas Z O H1) O2 σ2 H2 s2 ∧ forGo g gb (ds.drop (i + 1)) E s2, fun σ2 H2 ⟨O2, s2, k2, q2⟩ => ⟨_, by omega, rfl, lt, O2, s2, k2, q2⟩, fun x H2 y => ?_⟩
    obtain ⟨d, hd1, sm, rx⟩ := w.yields i H' x H2 _ O' σ' s' lt (gp k') k' (k1.visBas k') y
    have k2 := k'.same sm
    rw [List.drop_eq_getElem_cons lt] at q
    have ed : ds[i] = d := by rw [List.getElem?_eq_getElem lt] at hd1; exact Option.some.inj hd1
    rw [ed] at q
    refine hg.run hd Z _ O' σ' H2 s' x d _ k2 rx (hg.mono _ _ _ _ (fun s3 h3 σ3 k3 _ => ?_) q)
    refine hb.run hd Z _ O' σ3 H2 s3 { E with nx := fun s3 => forGo g gb (ds.drop (i + 1)) E s3, ct := fun s3 => forGo g gb (ds.drop (i + 1)) E s3, bk := E.nx } _ k3 ⟨fun O4 σ4 H4 s4 q4 k4 => ⟨O4, s4, k4, q4⟩, fun r n v H4 q4 fr st rr => ?_, fun O4 σ4 H4 s4 q4 k4 => ?_, fun O4 σ4 H4 s4 q4 k4 => ⟨O4, s4, k4, q4⟩⟩ h3
    · refine re.rt r n v H4 q4 (fun b o nz e => fr b o nz (k1.basLe b o e)) st ?_
      cases r with
      | ow ds' =>
        obtain ⟨p, vs, e1, e2, e3⟩ := rr
        refine ⟨p, vs, e1, ?_, e3⟩
        cases z : B p with
        | none => rfl
        | some o => rw [k1.basLe p o z] at e2; cases e2
      | im d => exact rr
      | br _ _ => exact rr
      | ob t d => exact rr
      | dr => exact rr
    · exact re.nx O4 σ4 H4 s4 q4 (k1.unbase k4)
  · have e : i = ds.length := by omega
    subst e
    rw [List.drop_length] at q
    exact .inl ⟨w.stops H' (gp k'), re.nx O' σ' H' s' q (k1.unbase k')⟩

/-! ### comprehensions -/
/-- the slots of the comprehension's own names -/
def wipeE (l : List (Option Ent)) : List Nat → List (Option Ent)
  | [] => l
  | v :: vs => pt (wipeE l vs) v none
def lcGo (g : FG) (t : FT) (f : FE) : List PyData → List PyData → S → (List PyData → Nat → Prop) → Prop
  | [], acc, s, Q => Q acc s.n
  | d :: ds, acc, s, Q => g d s fun s1 => t s1 fun b s2 => match b with
    | true => f s2 fun r s3 => match r.kept with
      | some e => lcGo g t f ds (acc ++ [e]) { s with n := s3.n } Q
      | none => False
    | false => lcGo g t f ds acc { s with n := s2.n } Q
def fLc (fi : FI) (g : FG) (t : FT) (f : FE) (vs : List Nat) : FE := fun s Q => fi s fun ds s1 => lcGo g t f ds [] { s1 with env := wipeE s1.env vs } fun acc m => Q (.ow acc) { s1 with n := m }
def ptsW (X : Cx) (ifs : List Expr) : TT := fun σ H Q => ∃ t, PTs X ifs t ∧ t σ H Q
structure XTs (L : Lay) (X : Cx) (ifs : List Expr) (f : FT) : Prop where
  mono : ∀ s Q Q', (∀ r s', Q r s' → Q' r s') → f s Q → f s Q'
  po : ∃ t, PTs X ifs t ∧ ∀ hd Z B O σ H s Q, Ok L X.K hd Z B O σ H s → f s (fun b s' => ∀ H', Ok L X.K hd Z B O σ H' s' → Mv Z H H' s s' → Q b H') → t σ H Q
def fYes : FT := fun s Q => Q true s
theorem xtsNil : XTs L X [] fYes := ⟨fun s Q Q' k h => k _ _ h, _, pts_nil, fun hd Z B O σ H s Q ok h => h H ok Mv.refl⟩
theorem xtsOne {c : Expr} {t : FT} (h : XT L X c t) : XTs L X [c] t := ⟨h.mono, _, pts_one ptW, fun hd Z B O σ H s Q ok q => h.run hd Z B O σ H s Q ok q⟩
theorem wipe_only : ∀ {vs : List Nat} {σ σ' : L2.St}, (∀ j : Nat, j ∉ vs → σ'[j]? = σ[j]?) → σ'.length = σ.length → wipe σ' vs = wipe σ vs := by
  have get : ∀ (vs : List Nat) (σ : L2.St) (j : Nat), (wipe σ vs)[j]? = if j ∈ vs ∧ j < σ.length then some none else σ[j]? := by
    intro vs
    induction vs with
    | nil => intro σ j; simp [wipe]
    | cons v vs ih =>
      intro σ j
      show ((wipe σ vs).set v none)[j]? = _
      by_cases e : v = j
      · subst e
        by_cases l : v < σ.length
        · rw [List.getElem?_set_self (by rw [wipe_length]; exact l), if_pos ⟨List.mem_cons_self, l⟩]
        · rw [List.getElem?_eq_none (by rw [List.length_set, wipe_length]; omega), if_neg (fun z => l z.2), List.getElem?_eq_none (by omega)]
      · rw [List.getElem?_set_ne e, ih]
        have : (j ∈ v :: vs) ↔ (j ∈ vs) := by
          rw [List.mem_cons]
          exact ⟨fun z => z.elim (fun q => absurd q.symm e) id, .inr⟩
        simp only [this]
  intro vs σ σ' h1 h2
  apply List.ext_getElem?
  intro j
  rw [get, get, h2]
  by_cases m : j ∈ vs
  · by_cases l : j < σ.length
    · rw [if_pos ⟨m, l⟩, if_pos ⟨m, l⟩]
    · rw [if_neg (fun z => l z.2), if_neg (fun z => l z.2), List.getElem?_eq_none (by omega), List.getElem?_eq_none (by omega)]
  · rw [if_neg (fun z => m z.1), if_neg (fun z => m z.1)]
    exact h1 j m
theorem wipeE_at : ∀ {vs : List Nat} {l : List (Option Ent)} {i : Nat} {e : Ent}, (wipeE l vs)[i]? = some (some e) → l[i]? = some (some e) ∧ i ∉ vs
  | [], _, _, _, h => ⟨h, by simp⟩
  | v :: vs, l, i, e, h => by
    have h' : (pt (wipeE l vs) v none)[i]? = some (some e) := h
    rw [pt_set] at h'
    by_cases hi : v = i
    · subst hi
      by_cases hv : v < (wipeE l vs).length
      · rw [List.getElem?_set_self hv] at h'; cases h'
      · rw [List.getElem?_eq_none (by simpa using hv)] at h'; cases h'
    · rw [List.getElem?_set_ne hi] at h'
      obtain ⟨h1, h2⟩ := wipeE_at h'
      exact ⟨h1, by simp only [List.mem_cons, not_or]; exact ⟨fun e => hi e.symm, h2⟩⟩
theorem wipeE_len : ∀ (vs : List Nat) (l : List (Option Ent)), (wipeE l vs).length = l.length
  | [], _ => rfl
  | v :: vs, l => by
    show (pt (wipeE l vs) v none).length = _
    rw [pt_set, List.length_set, wipeE_len vs l]
theorem wipe_at : ∀ {vs : List Nat} {σ : L2.St} {i : Nat}, i ∉ vs → (wipe σ vs)[i]? = σ[i]?
  | [], _, _, _ => rfl
  | v :: vs, σ, i, h => by
    rw [List.mem_cons, not_or] at h
    show ((wipe σ vs).set v none)[i]? = _
    rw [List.getElem?_set_ne (Ne.symm h.1)]
    exact wipe_at h.2
/-- the state within a comprehension: its new list at D is hidden -/
theorem Ok.inner {K : PySem.W.Frag} {hd : Addr → Bool} {Z : Zt} {B : Hp} {O : List Addr} {σ : L2.St} {H : Hp} {s : S} (k : Ok L K hd Z B O σ H s) {D : Addr} (hD : H D = none) (vs : List Nat) (xs : List V) :
    Ok L K hd Z B (D :: O) (wipe σ vs) (upd H D (.lst xs)) { s with env := wipeE s.env vs } := by
  obtain ⟨d1, d2, d3⟩ := k.fresh hD
  have sm := sameNew (o := .lst xs) hD
  have vv : Same (vis hd O H) (vis hd (D :: O) (upd H D (.lst xs))) := fun a o e => by
    obtain ⟨g1, g2, g3⟩ := vis_some.mp e
    exact vis_some.mpr ⟨g1, fun q => (List.mem_cons.mp q).elim (ne_of_none g3 hD) g2, sm a o g3⟩
  refine ⟨fun b o e => sm b o (k.stood b o e), fun a h => ?_, k.offZ, k.liveB, fun z e => L.keep (k.stk z e) fun b o _ q => sm b o q, fun i e h => ?_, fun i j ds es p h1 h2 h3 h4 => ?_, by rw [wipe_length, wipeE_len]; exact k.len⟩
  · rcases List.mem_cons.mp h with rfl | h
    · exact ⟨k.noneB hD, d1, _, upd_same⟩
    · obtain ⟨g1, g2, g3⟩ := k.offO a h
      obtain ⟨ys, e⟩ := g3
      exact ⟨g1, g2, ys, sm a _ e⟩
  · obtain ⟨h1, h2⟩ := wipeE_at h
    obtain ⟨v, g1, g2⟩ := k.slot i e h1
    refine ⟨v, by rw [wipe_at h2]; exact g1, ?_⟩
    cases e with
    | im d => exact Rp.same vv g2
    | ow ds =>
      obtain ⟨p, ws, a1, a2, a3, a4⟩ := g2
      exact ⟨p, ws, a1, List.mem_cons_of_mem _ a2, sm _ _ a3, a4.same vv⟩
    | br _ _ => exact g2
    | ob t d => exact L.mono vv g2
    | dr => exact g2
  · obtain ⟨g1, g1'⟩ := wipeE_at h1
    obtain ⟨g2, g2'⟩ := wipeE_at h2
    rw [wipe_at g1'] at h3
    rw [wipe_at g2'] at h4
    exact k.apart i j ds es p g1 g2 h3 h4
/-- the list at D grows -/
theorem Ok.put {K : PySem.W.Frag} {hd : Addr → Bool} {Z : Zt} {B : Hp} {O : List Addr} {σ : L2.St} {H : Hp} {s : S} {D : Addr} (k : Ok L K hd Z B (D :: O) σ H s) (nO : ∀ (i : Nat), σ[i]? ≠ some (some (.ref D)) ∨ ∀ ds, s.env[i]? ≠ some (some (.ow ds))) (xs : List V) : Ok L K hd Z B (D :: O) σ (upd H D (.lst xs)) s := by
  have dd := k.offO D List.mem_cons_self
  have dz : ¬ zin Z D := fun z => by rw [(k.offZ D z).2] at dd; cases dd.2.1
  have vv : Same (vis hd (D :: O) H) (vis hd (D :: O) (upd H D (.lst xs))) := fun a o e => by
    obtain ⟨g1, g2, g3⟩ := vis_some.mp e
    have ne : a ≠ D := fun z => g2 (by rw [z]; exact List.mem_cons_self)
    exact vis_some.mpr ⟨g1, g2, by rw [upd_ne ne]; exact g3⟩
  refine ⟨fun b o e => ?_, fun a h => ?_, k.offZ, k.liveB, fun z e => L.keep (k.stk z e) fun b o hb q => ?_, fun i e h => ?_, k.apart, k.len⟩
  · rw [upd_ne (fun z => by rw [z, dd.1] at e; cases e)]
    exact k.stood b o e
  · obtain ⟨g1, g2, g3⟩ := k.offO a h
    refine ⟨g1, g2, ?_⟩
    by_cases z : a = D
    · rw [z]; exact ⟨_, upd_same⟩
    · rw [upd_ne z]; exact g3
  · rw [upd_ne (fun z' => dz ⟨z, e, by rw [← z']; exact hb⟩)]
    exact q
  · obtain ⟨v, g1, g2⟩ := k.slot i e h
    refine ⟨v, g1, ?_⟩
    cases e with
    | im d => exact Rp.same vv g2
    | ow ds =>
      obtain ⟨p, ws, rfl, a2, a3, a4⟩ := g2
      have ne : p ≠ D := fun z => by
        rcases nO i with q | q
        · exact q (by rw [← z]; exact g1)
        · exact q ds h
      exact ⟨p, ws, rfl, a2, by rw [upd_ne ne]; exact a3, a4.same vv⟩
    | br _ _ => exact g2
    | ob t d => exact L.mono vv g2
    | dr => exact g2
end
end DL
set_option Elab.async false
set_option linter.all false
set_option maxRecDepth 100000
set_option maxHeartbeats 2000000
namespace DL
open PySem PySem.Spec PyProof.Rows L2
section
variable {L : Lay} {X : Cx} {pos : Pos}
/-- a comprehension's block -/
abbrev Blk (X : Cx) (scope : Scope) (s : Shared) (H : Hp) (C : Addr) (cl : List (Str × Addr)) (fp : List Addr) : Cx := X.blk s H scope (compEnvC scope cl C X.env) fp
variable {tg iter elt : Expr} {ifs : List Expr} {scope : Scope} {own : List (Str × Nat)} {ts : List Nat} {fi : FI} {g : FG} {t : FT} {f : FE}
theorem lcGo_mono (hg : XG L X tg ts g) (ht : XTs L X ifs t) (he : XE L X elt f) : ∀ (ds acc : List PyData) (s : S) (Q Q' : List PyData → Nat → Prop), (∀ a m, Q a m → Q' a m) → lcGo g t f ds acc s Q → lcGo g t f ds acc s Q'
  | [], acc, s, Q, Q', k, h => k _ _ h
  | d :: ds, acc, s, Q, Q', k, h => hg.mono _ _ _ _ (fun s1 h1 => ht.mono _ _ _ (fun b s2 h2 => by
      cases b with
      | true =>
        refine he.mono _ _ _ (fun r s3 h3 => ?_) h2
        cases q : r.kept with
        | none => simp only [q] at h3
        | some e => simp only [q] at h3 ⊢; exact lcGo_mono hg ht he ds _ _ Q Q' k h3
      | false => exact lcGo_mono hg ht he ds _ _ Q Q' k h2) h1) h
/-- the readings, whatever the block's place -/
def gAll' (X : Cx) (scope : Scope) (tg : Expr) : TG := fun v σ H Q => ∀ (s : Shared) (H0 : Hp) (C : Addr) (cl : List (Str × Addr)) (fp : List Addr), tgW (Blk X scope s H0 C cl fp) tg v σ H Q
def tAll (X : Cx) (scope : Scope) (ifs : List Expr) : TT := fun σ H Q => ∀ (s : Shared) (H0 : Hp) (C : Addr) (cl : List (Str × Addr)) (fp : List Addr), ∃ tt, PTs (Blk X scope s H0 C cl fp) ifs tt ∧ tt σ H Q
def eAll (X : Cx) (scope : Scope) (elt : Expr) : TE := fun σ H Q => ∀ (s : Shared) (H0 : Hp) (C : Addr) (cl : List (Str × Addr)) (fp : List Addr), tW (Blk X scope s H0 C cl fp) elt σ H Q
theorem gAll_ok (s : Shared) (H0 : Hp) (C : Addr) (cl : List (Str × Addr)) (fp : List Addr) : PG (Blk X scope s H0 C cl fp) tg (gAll' X scope tg) := ⟨fun pins sh σ H v u Q I r h => h s H0 C cl fp pins sh u I r⟩
theorem tAll_ok (s : Shared) (H0 : Hp) (C : Addr) (cl : List (Str × Addr)) (fp : List Addr) : PTs (Blk X scope s H0 C cl fp) ifs (tAll X scope ifs) := ⟨fun pins sh σ H Q I h => by
  obtain ⟨tt, p, q⟩ := h s H0 C cl fp
  exact p.run pins sh σ H Q I q⟩
theorem eAll_ok (s : Shared) (H0 : Hp) (C : Addr) (cl : List (Str × Addr)) (fp : List Addr) : PE (Blk X scope s H0 C cl fp) elt (eAll X scope elt) := ⟨fun pins sh σ H Q I h => h s H0 C cl fp pins sh I⟩
/-- an instance of the block, for what does not lean on it -/
abbrev Blk0 (X : Cx) (scope : Scope) : Cx := Blk X scope X.s_0 X.H_0 0 [] []
theorem lc_run (hi : XI L X true tg iter fi) (hg : ∀ s H C cl fp, XG L (Blk X scope s H C cl fp) tg ts g) (ht : ∀ s H C cl fp, XTs L (Blk X scope s H C cl fp) ifs t) (he : ∀ s H C cl fp, XE L (Blk X scope s H C cl fp) elt f)
    (hts : ∀ j ∈ ts, j ∈ own.map (·.2)) {hd : Addr → Bool} {Z : Zt} {B : Hp} {O : List Addr} {σ : L2.St} {H : Hp} {s : S} {Q : VK} (ok : Ok L X.K hd Z B O σ H s)
    (h : fLc fi g t f (own.map (·.2)) s fun r s' => ∀ v H', Ok L X.K hd Z B O σ H' s' → Mv Z H H' s s' → Rs L X.K hd Z O σ H H' v r → Q v H') :
    tLc (tiW X tg iter) (gAll' X scope tg) (tAll X scope ifs) (eAll X scope elt) (own.map (·.2)) σ H Q := by
  have hg0 := hg X.s_0 X.H_0 0 [] []
  have ht0 := ht X.s_0 X.H_0 0 [] []
  have he0 := he X.s_0 X.H_0 0 [] []
  generalize hvs : own.map (·.2) = vs at h hts ⊢
  refine hi.run hd Z B O σ H s _ ok (hi.mono _ _ _ (fun ds s1 h1 J H1 Gp k1 mv ln gf _ w D hD => ?_) h)
  have kin := k1.inner hD vs []
  obtain ⟨d1, d2, d3⟩ := k1.fresh hD
  have sm0 := sameNew (o := .lst []) hD
  have noD : ∀ (i : Nat), (wipe σ vs)[i]? ≠ some (some (.ref D)) ∨ ∀ ds, (wipeE s1.env vs)[i]? ≠ some (some (.ow ds)) := fun i => by
    refine Classical.byContradiction fun nn => ?_
    rw [not_or] at nn
    obtain ⟨n1, n2⟩ := nn
    have n1 := Classical.not_not.mp n1
    refine n2 fun ds q => ?_
    obtain ⟨q1, q2⟩ := wipeE_at q
    obtain ⟨v, a1, p, ws, rfl, a2, _⟩ := k1.slot i _ q1
    rw [wipe_at q2, a1] at n1
    cases n1
    exact d2 a2
  refine ⟨fun i m H' => m = ds.length - i ∧ i ≤ ds.length ∧ ∃ n acc ws, Ok L X.K hd Z B (D :: O) (wipe σ vs) H' ⟨wipeE s1.env vs, n⟩ ∧ H' D = some (.lst ws) ∧ RpAll X.K (vis hd (D :: O) H') ws acc ∧ ws.length ≤ i ∧ Frm Z H1 H' ∧
    lcGo g t f (ds.drop i) acc ⟨wipeE s1.env vs, n⟩ (fun acc m => ∀ v H', Ok L X.K hd Z B O σ H' { s1 with n := m } → Mv Z H H' s { s1 with n := m } → Rs L X.K hd Z O σ H H' v (.ow acc) → Q v H'),
    ⟨_, rfl, Nat.zero_le _, s1.n, [], [], kin, upd_same, .nil, Nat.le_refl _, Frm.of sm0, h1⟩, ?_⟩
  rintro i m H' ⟨rfl, hi', n, acc, ws, k', hDl, rp, wl, fr, q⟩
  by_cases lt : i < ds.length
  · refine .inr ⟨w.goes i H' lt (gf H' fr), fun H2 => ∃ n acc ws, Ok L X.K hd Z B (D :: O) (wipe σ vs) H2 ⟨wipeE s1.env vs, n⟩ ∧ H2 D = some (.lst ws) ∧ RpAll X.K (vis hd (D :: O) H2) ws acc ∧ ws.length ≤ i + 1 ∧ Frm Z H1 H2 ∧
      lcGo g t f (ds.drop (i + 1)) acc ⟨wipeE s1.env vs, n⟩ (fun acc m => ∀ v H', Ok L X.K hd Z B O σ H' { s1 with n := m } → Mv Z H H' s { s1 with n := m } → Rs L X.K hd Z O σ H H' v (.ow acc) → Q v H'),
      fun H2 z => ⟨_, by omega, rfl, lt, z⟩, fun x H2 y => ?_⟩
    have vv : Same (vis hd O H1) (vis hd (D :: O) H') := fun a o e => by
      obtain ⟨g1, g2, g3⟩ := vis_some.mp e
      exact vis_some.mpr ⟨g1, fun z => (List.mem_cons.mp z).elim (ne_of_none g3 hD) g2, fr a o (fun z => by rw [(k1.offZ a z).2] at g1; cases g1) g3⟩
    obtain ⟨d, hd1, sm, rx⟩ := w.yields i H' x H2 _ (D :: O) _ _ lt (gf H' fr) k' vv y
    have k2 := k'.same sm
    rw [List.drop_eq_getElem_cons lt] at q
    have ed : ds[i] = d := by rw [List.getElem?_eq_getElem lt] at hd1; exact Option.some.inj hd1
    rw [ed] at q
    intro sb Hb C cl fp
    refine (hg sb Hb C cl fp).run hd Z B (D :: O) (wipe σ vs) H2 _ x d _ k2 rx (hg0.mono _ _ _ _ (fun s2 h2 σ2 k3 os => ?_) q)
    have ww : wipe σ2 vs = wipe (wipe σ vs) vs := wipe_only (fun j hj => os.1 j fun z => hj (hts j z)) os.2
    have ww2 : wipe (wipe σ vs) vs = wipe σ vs := wipe_only (fun j hj => wipe_at hj) (wipe_length σ vs)
    refine ⟨ww.trans ww2, ?_⟩
    intro sb Hb C cl fp
    obtain ⟨tt, pt0, qt⟩ := (ht sb Hb C cl fp).po
    refine ⟨tt, pt0, qt hd Z B (D :: O) σ2 H2 s2 _ k3 (ht0.mono _ _ _ (fun b s3 h3 H3 k4 m4 => ?_) h2)⟩
    have dz : ¬ zin Z D := d3
    cases b with
    | false =>
      refine iteF ⟨s3.n, acc, ws, k2.step m4.fr k4.stk, m4.fr D _ dz (sm D _ hDl), (rp.same (vis_frm k' (Frm.of sm))).same (vis_frm k2 m4.fr), by omega, (fr.trans (Frm.of sm)).trans m4.fr, h3⟩
    | true =>
      refine iteT ?_
      intro sb Hb C cl fp
      refine (he sb Hb C cl fp).run hd Z B (D :: O) σ2 H3 s3 _ k4 (he0.mono _ _ _ (fun r s5 h5 v H5 k5 m5 r5 => ?_) h3)
      cases z : r.kept with
      | none => simp only [z] at h5
      | some e =>
        simp only [z] at h5
        have fr5 : Frm Z H2 H5 := m4.fr.trans m5.fr
        have hD5 : H5 D = some (.lst ws) := fr5 D _ dz (sm D _ hDl)
        have kk : Ok L X.K hd Z B (D :: O) (wipe σ vs) H5 ⟨wipeE s1.env vs, s5.n⟩ := k2.step fr5 k5.stk
        have frD : Frm Z H1 (upd H5 D (.lst (ws ++ [v]))) := fun b o nz e0 => by
          have ne : b ≠ D := ne_of_none e0 hD
          rw [upd_ne ne]
          exact ((fr.trans (Frm.of sm)).trans fr5) b o nz e0
        have vD : Same (vis hd (D :: O) H5) (vis hd (D :: O) (upd H5 D (.lst (ws ++ [v])))) := fun a o e0 => by
          obtain ⟨g1, g2, g3⟩ := vis_some.mp e0
          exact vis_some.mpr ⟨g1, g2, by rw [upd_ne (fun z => g2 (by rw [z]; exact List.mem_cons_self))]; exact g3⟩
        have rp5 := (rp.same (vis_frm k' (Frm.of sm))).same (vis_frm k2 fr5)
        refine ⟨ws, hD5, Nat.lt_of_le_of_lt wl (Nat.lt_of_lt_of_le lt ln), s5.n, acc ++ [e], ws ++ [v], kk.put noD _, upd_same, (rp5.append (.cons (Rs.keeps r5 z) .nil)).same vD, by rw [List.length_append, List.length_singleton]; omega, frD, h5⟩
  · have e : i = ds.length := by omega
    subst e
    rw [List.drop_length] at q
    refine .inl ⟨w.stops H' (gf H' fr), q _ H' (k1.step fr k'.stk) (mv.trans ⟨fr, rfl⟩) ?_⟩
    exact ⟨D, ws, rfl, mv.fr.none d3 hD, d1, d2, hDl, rp⟩
theorem fLc_mono {vs : List Nat} (hi : XI L X true tg iter fi) (hg : XG L (Blk0 X scope) tg ts g) (ht : XTs L (Blk0 X scope) ifs t) (he : XE L (Blk0 X scope) elt f) : ∀ s Q Q', (∀ r s', Q r s' → Q' r s') → fLc fi g t f vs s Q → fLc fi g t f vs s Q' :=
  fun s Q Q' k h => hi.mono _ _ _ (fun ds s1 h1 => lcGo_mono hg ht he ds [] _ _ _ (fun a m q => k _ _ q) h1) h
theorem xLc (own : List (Str × Nat)) (hc : X.calm = true) (hN : X.N.Nodup) (hi : XI L X true tg iter fi) (ok : blkC X.N X.env.scope scope own = true) (hg : ∀ s H C cl fp, XG L (Blk X scope s H C cl fp) tg ts g) (ht : ∀ s H C cl fp, XTs L (Blk X scope s H C cl fp) ifs t)
    (he : ∀ s H C cl fp, XE L (Blk X scope s H C cl fp) elt f) (hts : ∀ j ∈ ts, j ∈ own.map (·.2) := by decide) (hs : ∀ x, foldedSetIterable iter X.env x = pure x := by intro _; rfl) : XE L X (.ListComp elt [⟨tg, iter, ifs, 0⟩] scope pos) (fLc fi g t f (own.map (·.2))) :=
  ⟨fLc_mono hi (hg _ _ _ _ _) (ht _ _ _ _ _) (he _ _ _ _ _), fun hd Z B O σ H s Q k h => tW_of (pe_lc hc hN piW (blkOk_by ok) gAll_ok tAll_ok eAll_ok hs) (lc_run hi hg ht he hts k h)⟩
variable {y : Str} {py spos : Pos}
/-- y = [..]; kept as a datum -/
theorem xsSetLc (i : Nat) (own : List (Str × Nat)) (hc : X.calm = true) (hN : X.N.Nodup) (hi : XI L X true tg iter fi) (ok : blkC X.N X.env.scope scope own = true) (hg : ∀ s H C cl fp, XG L (Blk X scope s H C cl fp) tg ts g) (ht : ∀ s H C cl fp, XTs L (Blk X scope s H C cl fp) ifs t)
    (he : ∀ s H C cl fp, XE L (Blk X scope s H C cl fp) elt f) (hsw : swapsWith (.ListComp elt [⟨tg, iter, ifs, 0⟩] scope pos) (some (.Name y py)) spos.line X.env = pure true) (hy : X.N[i]? = some y := by rfl) (hyl : X.env.scope.names.lookup y = some .local := by rfl) (hts : ∀ j ∈ ts, j ∈ own.map (·.2) := by decide)
    (hs : ∀ x, foldedSetIterable iter X.env x = pure x := by intro _; rfl) : XS L X (.Assign [.Name y py] (.ListComp elt [⟨tg, iter, ifs, 0⟩] scope pos) spos) (fSet i (fLc fi g t f (own.map (·.2)))) := by
  have m := fLc_mono (vs := own.map (·.2)) hi (hg X.s_0 X.H_0 0 [] []) (ht X.s_0 X.H_0 0 [] []) (he X.s_0 X.H_0 0 [] [])
  refine ⟨fun E E' s le h => m _ _ _ (fun r s1 h1 => plainR_mono (fun e q => le.1 _ q) h1) h, fun hd Z B O σ H s E D k re h => tsW_of (ps_setLc hc hN hy hyl hsw piW (blkOk_by ok) gAll_ok tAll_ok eAll_ok hs) (lc_run hi hg ht he hts k (m _ _ _ (fun r s1 h1 v H1 k1 f1 r1 => ?_) h))⟩
  obtain ⟨en, q, nn, sl⟩ := plainR_v h1 r1
  exact re.nx O _ H1 _ q (k1.set i fun y hy => by cases hy; exact ⟨nn, sl⟩)
/-- y = [..]; one's own -/
theorem xsSetLcO (i : Nat) (own : List (Str × Nat)) (hc : X.calm = true) (hN : X.N.Nodup) (hi : XI L X true tg iter fi) (ok : blkC X.N X.env.scope scope own = true) (hg : ∀ s H C cl fp, XG L (Blk X scope s H C cl fp) tg ts g) (ht : ∀ s H C cl fp, XTs L (Blk X scope s H C cl fp) ifs t)
    (he : ∀ s H C cl fp, XE L (Blk X scope s H C cl fp) elt f) (hsw : swapsWith (.ListComp elt [⟨tg, iter, ifs, 0⟩] scope pos) (some (.Name y py)) spos.line X.env = pure true) (hy : X.N[i]? = some y := by rfl) (hyl : X.env.scope.names.lookup y = some .local := by rfl) (hts : ∀ j ∈ ts, j ∈ own.map (·.2) := by decide)
    (hs : ∀ x, foldedSetIterable iter X.env x = pure x := by intro _; rfl) : XS L X (.Assign [.Name y py] (.ListComp elt [⟨tg, iter, ifs, 0⟩] scope pos) spos) (fSetO i (fLc fi g t f (own.map (·.2)))) := by
  have m := fLc_mono (vs := own.map (·.2)) hi (hg X.s_0 X.H_0 0 [] []) (ht X.s_0 X.H_0 0 [] []) (he X.s_0 X.H_0 0 [] [])
  refine ⟨fun E E' s le h => m _ _ _ (fun r s1 h1 => ownR_mono (fun e q => le.1 _ q) h1) h, fun hd Z B O σ H s E D k re h => tsW_of (ps_setLc hc hN hy hyl hsw piW (blkOk_by ok) gAll_ok tAll_ok eAll_ok hs) (lc_run hi hg ht he hts k (m _ _ _ (fun r s1 h1 v H1 k1 f1 r1 => ?_) h))⟩
  cases r with
  | ow ds =>
    obtain ⟨p, _, k2⟩ := k1.own k i r1 f1
    exact re.nx _ _ H1 _ h1 k2
  | im d => exact h1.elim
  | br _ _ => exact h1.elim
  | ob t d => exact h1.elim
  | dr => exact h1.elim

/-! ### a def -/
/-- what a def's body does with its arguments: nN names, np parameters -/
def runF (nN np : Nat) (g : FS) : FF := fun es n Q => es.length = np ∧ g { nx := fun s => Q (.im .none) s.n, rt := Q } ⟨es.map some ++ List.replicate (nN - np) none, n⟩
theorem rsAll_get {K : PySem.W.Frag} {hd : Addr → Bool} {Z : Zt} {O : List Addr} {σ : L2.St} {H H' : Hp} : ∀ {vs : List V} {es : List Ent} {i : Nat} {e : Ent}, RsAll L K hd Z O σ H H' vs es → es[i]? = some e → ∃ v, vs[i]? = some v ∧ Rs L K hd Z O σ H H' v e
  | _, _, _, _, .nil, h => by simp at h
  | _, _, 0, _, .cons a _, h => by simp at h; subst h; exact ⟨_, rfl, a⟩
  | _, _, i + 1, e, .cons _ b, h => by
    obtain ⟨v, h1, h2⟩ := rsAll_get (i := i) (e := e) b (by simpa using h)
    exact ⟨v, by simpa using h1, h2⟩
theorem Ok.begin {K : PySem.W.Frag} {hd : Addr → Bool} {Z : Zt} {H : Hp} {N : List Str} {vs : List V} {es : List Ent} {n np : Nat} (h1 : ∀ a, hd a = true → HkAt H a) (h2 : ∀ a, zin Z a → hd a = true) (h3 : ∀ z, Z = some z → L.Stk z n H) (r : RsAll L K hd Z [] [] H H vs es)
    (hl : es.length = np) : Ok L K hd Z (bas Z [] H) [] (start N vs) H ⟨es.map some ++ List.replicate (N.length - np) none, n⟩ := by
  have vl := r.length
  have ix : ∀ (i : Nat) (e : Ent), (es.map some ++ List.replicate (N.length - np) none)[i]? = some (some e) → es[i]? = some e := fun i e h => by
    by_cases hi : i < es.length
    · rw [List.getElem?_append_left (by simpa using hi), List.getElem?_map] at h
      cases q : es[i]? with
      | none => rw [q] at h; cases h
      | some x => rw [q] at h; cases h; rfl
    · rw [List.getElem?_append_right (by simpa using hi), List.getElem?_replicate] at h
      split at h <;> cases h
  have nob : ∀ (v : V) (ds : List PyData), ¬ Rs L K hd Z [] [] H H v (.ow ds) := fun v ds ⟨p, vs, _, e2, _, _, e5, _⟩ => by rw [e2] at e5; cases e5
  refine ⟨fun b o e => (bas_some.mp e).2.2, fun a ha => absurd ha (by simp), fun a ha => ⟨bas_none (.inr ha), h2 a ha⟩, fun a ha => ?_, h3, fun i e h => ?_, fun i j ds es' p g1 _ _ _ => ?_, ?_⟩
  · by_cases z : zin Z a
    · exact .inr z
    · obtain ⟨o, e, r⟩ := h1 a ha
      exact .inl ⟨o, bas_some.mpr ⟨by simp, z, e⟩, r⟩
  · obtain ⟨v, g1, g2⟩ := rsAll_get r (ix i e h)
    refine ⟨v, ?_, ?_⟩
    · unfold L2.start
      have hi : i < vs.length := (List.getElem?_eq_some_iff.mp g1).1
      rw [List.getElem?_append_left (by simpa using hi), List.getElem?_map, g1]
      rfl
    · cases e with
      | im d => exact g2
      | ow ds => exact (nob _ _ g2).elim
      | br i ds =>
        obtain ⟨p, ws, _, a2, _⟩ := g2
        simp at a2
      | ob t d => exact g2
      | dr => exact g2
  · obtain ⟨v, _, g3⟩ := rsAll_get r (ix _ _ g1)
    exact (nob _ _ g3).elim
  · unfold L2.start
    rw [List.length_append, List.length_append, List.length_map, List.length_map, List.length_replicate, List.length_replicate, vl, hl]
theorem def_mk {P : Program} {w : World} {K : PySem.W.Frag} {mg : Str → Option Value} {base : Heap} {x qual : Str} {st : Stmt} {f : Addr} {fd : FuncData} {N ps : List Str} {k nN np : Nat} {g : FS} (F : Fun K x qual st f fd) (Sc : FnScope N ps (defScope st)) (hN : N.length = nN := by rfl) (hp : ps.length = np := by rfl)
    (hb : ∀ (cdv : Value) (A : Around) (outer : List Env) (s : Shared) (H : Hp) (E : XK), Room k (A.deeper (envOfC qual (defScope st) s.heap.objs.size f cdv)) → XSs L (cxOf CX0 P w K mg base N qual (defScope st) f cdv A outer s H E).nox (defBody st) g) :
    FnOk P w K mg base CX0 (k + 1) f fd ps (spW L K (runF nN np g)) := by
  subst hN hp
  refine F.ok Sc (fun vs H Q E h => ?_) (fun cdv A outer s H vs Q E hr h => ?_)
  · obtain ⟨hd, Z, es, n, _, _, _, r, hl, _⟩ := h
    rw [r.length]
    exact hl
  · obtain ⟨hd, Z, es, n, h1, h2, h3, r, hl, q⟩ := h
    have kb : Ok L K hd Z (bas Z [] H) [] (start N vs) H ⟨es.map some ++ List.replicate (N.length - ps.length) none, n⟩ := Ok.begin h1 h2 h3 r hl
    refine ⟨_, pssW, (hb cdv A outer s H E hr).run hd Z (bas Z [] H) [] (start N vs) H _ _ _ kb ⟨fun O σ' H' s' q' k' => ?_, fun r' n' v H' q' fr st' rr => ?_, fun _ _ _ _ (z : False) _ => z.elim, fun _ _ _ _ (z : False) _ => z.elim⟩ q⟩
    · exact q' _ H' (fun b o nz e => k'.stood b o (bas_some.mpr ⟨by simp, nz, e⟩)) k'.stk .non
    · refine q' v H' (fun b o nz e => fr b o nz (bas_some.mpr ⟨by simp, nz, e⟩)) st' ?_
      cases r' with
      | ow ds =>
        obtain ⟨p, ws, e1, e2, e3, e4⟩ := rr
        refine ⟨p, ws, e1, ?_, e3, e4⟩
        cases z : H p with
        | none => rfl
        | some o =>
          have nz : ¬ zin Z p := fun w => by rw [h2 p w] at e3; cases e3
          rw [bas_some.mpr ⟨by simp, nz, z⟩] at e2
          cases e2
      | im d => exact rr
      | br i ds =>
        obtain ⟨p, ws, _, a2, _⟩ := rr
        simp at a2
      | ob t d => exact rr
      | dr => exact rr
/-- .. and what it does is told alike, whatever is wanted -/
theorem def_mono {P : Program} {w : World} {K : PySem.W.Frag} {mg : Str → Option Value} {base : Heap} {qual : Str} {st : Stmt} {f : Addr} {N : List Str} {k nN np : Nat} {g : FS}
    (hb : ∀ (cdv : Value) (A : Around) (outer : List Env) (s : Shared) (H : Hp) (E : XK), Room k (A.deeper (envOfC qual (defScope st) s.heap.objs.size f cdv)) → XSs L (cxOf CX0 P w K mg base N qual (defScope st) f cdv A outer s H E).nox (defBody st) g) :
    ∀ (A : Around) (_ : Shared), Room (k + 1) A → ∀ es n Q Q', (∀ r m, Q r m → Q' r m) → runF nN np g es n Q → runF nN np g es n Q' := fun A s hr es n Q Q' k h =>
  ⟨h.1, (hb .none A [] s (fun _ => none) E0 (hr.deeper _)).mono { nx := fun s => Q (.im .none) s.n, rt := Q } { nx := fun s => Q' (.im .none) s.n, rt := Q' } _ ⟨fun s q => k _ _ q, fun r n q => k _ _ q, fun _ z => z, fun _ z => z⟩ h.2⟩
theorem def_ok {P : Program} {w : World} {K : PySem.W.Frag} {mg : Str → Option Value} {base : Heap} {x qual : Str} {st : Stmt} {f : Addr} {fd : FuncData} {N ps : List Str} {k nN np : Nat} {g : FS} (F : Fun K x qual st f fd) (hm : mg x = some (.ref f)) (hb0 : Binds K fd ps []) (Sc : FnScope N ps (defScope st))
    (hb : ∀ (cdv : Value) (A : Around) (outer : List Env) (s : Shared) (H : Hp) (E : XK), Room k (A.deeper (envOfC qual (defScope st) s.heap.objs.size f cdv)) → XSs L (cxOf CX0 P w K mg base N qual (defScope st) f cdv A outer s H E).nox (defBody st) g) (hN : N.length = nN := by rfl) (hp : ps.length = np := by rfl) :
    DefOk L P w K mg base (k + 1) x (runF nN np g) := ⟨def_mono hb, f, fd, ps, def_mk F Sc hN hp hb, hm, F.kp, hb0⟩
end
end DL
set_option Elab.async false
set_option linter.all false
set_option maxRecDepth 100000
set_option maxHeartbeats 2000000
namespace DL
open PySem PySem.Spec PyProof.Rows L2
section
variable {L : Lay} {X : Cx} {pos : Pos}
/-! ### stars -/
theorem rs_ims {K : PySem.W.Frag} {hd : Addr → Bool} {Z : Zt} {O : List Addr} {σ : L2.St} {H H' : Hp} : ∀ {vs : List V} {ds : List PyData}, RpAll K (vis hd O H') vs ds → RsAll L K hd Z O σ H H' vs (ds.map Ent.im)
  | _, _, .nil => .nil
  | _, _, .cons a b => .cons (r := .im _) a (rs_ims b)
theorem RsAll.append {K : PySem.W.Frag} {hd : Addr → Bool} {Z : Zt} {O : List Addr} {σ : L2.St} {H H' : Hp} : ∀ {vs ws : List V} {rs ts : List Ent}, RsAll L K hd Z O σ H H' vs rs → RsAll L K hd Z O σ H H' ws ts → RsAll L K hd Z O σ H H' (vs ++ ws) (rs ++ ts)
  | _, _, _, _, .nil, q => q
  | _, _, _, _, .cons a b, q => .cons a (b.append q)
def fStar (f : FE) (fs : FA) : FA := fun s Q => f s fun r s1 => match r.dat.bind items with
  | some ds => ds.length ≤ 1000 ∧ fs s1 fun rs s2 => Q (ds.map Ent.im ++ rs) s2
  | none => False
variable {e : Expr} {es : List Expr} {f : FE} {fs : FA} {m : Nat} {p : Pos}
theorem xaStar (he : XE L X e f) (hes : XA L X es m fs) (hs : starEach (.Starred e p :: es) X.env = (true, eval e X.env) :: starEach es X.env := by rfl) : XA L X (.Starred e p :: es) (m + 1000) (fStar f fs) := by
  refine ⟨fun s Q h => he.mono _ _ _ (fun r s1 h1 => ?_) h, fun s Q Q' k h => he.mono _ _ _ (fun r s1 h1 => ?_) h, fun hd Z B O σ H s Q ok h => taW_of (StX.pa_star peW paW hs) (he.run hd Z B O σ H s _ ok (he.mono _ _ _ (fun r s1 h1 v H1 k1 f1 r1 => ?_) h))⟩
  · cases q : r.dat.bind items with
    | none => simp only [q] at h1
    | some ds =>
      simp only [q] at h1 ⊢
      exact ⟨h1.1, hes.mono _ _ _ (fun rs s2 h2 => ⟨by rw [List.length_append, List.length_map]; omega, h2.2⟩) (hes.bnd _ _ h1.2)⟩
  · cases q : r.dat.bind items with
    | none => simp only [q] at h1
    | some ds =>
      simp only [q] at h1 ⊢
      exact ⟨h1.1, hes.mono _ _ _ (fun rs s2 h2 => k _ _ h2) h1.2⟩
  · cases q : r.dat.bind items with
    | none => simp only [q] at h1
    | some ds =>
      simp only [q] at h1
      obtain ⟨d, e1, e2⟩ := Option.bind_eq_some_iff.mp q
      obtain ⟨p, vs, rfl, hq, rp⟩ := rs_seq r1 e1 e2
      refine ⟨p, vs, rfl, hq.symm, hes.run hd Z B O σ H1 s1 _ k1 (hes.mono _ _ _ (fun rs s2 h2 ws H2 k2 f2 r2 => ?_) h1.2)⟩
      exact h2 (vs ++ ws) H2 k2 (f1.trans f2) ((rs_ims (rp.same (vis_frmX k1 f2.fr))).append (r2.back ok f1))
/-! ### expressions as statements; op= -/
def fExpr (f : FE) : FS := fun E s => f s fun _ s1 => E.nx s1
theorem xsExpr (he : XE L X e f) (hs : swapsWith e none pos.line X.env = pure false := by rfl) : XS L X (.Expr e pos) (fExpr f) :=
  ⟨fun E E' s le h => he.mono _ _ _ (fun r s1 h1 => le.1 _ h1) h, fun hd Z B O σ H s E D ok re h => tsW_of (ps_expr peW hs) (he.run hd Z B O σ H s _ ok (he.mono _ _ _ (fun r s1 h1 v H1 k1 f1 r1 => re.nx _ _ _ _ h1 k1) h))⟩
def fAug (i : Nat) (g : Int → Int → Int) (f : FE) : FS := fun E s => match gt s.env i with
  | some (.im (.int a)) => f s fun r s1 => isI r fun b => E.nx { s1 with env := pt s1.env i (some (.im (.int (g a b)))) }
  | _ => False
variable {x : Str} {pos' : Pos} {op : Operator} {g : Int → Int → Int}
theorem xsAug (i : Nat) (ho : PIp X op (ipI g)) (he : XE L X e f) (hN : X.N.Nodup) (hi : X.N[i]? = some x := by rfl) (hx : Loc X.env.scope x := by first | exact Or.inl rfl | exact Or.inr rfl) (hf : X.fn x = true ∨ X.env.scope.names.lookup x = some .local := by first | exact .inl rfl | exact .inr rfl) :
    XS L X (.AugAssign (.Name x pos') op e pos) (fAug i g f) := by
  refine ⟨fun E E' s le h => ?_, fun hd Z B O σ H s E D ok re h => tsW_of (ps_aug hN hi hx peW ho hf) ?_⟩
  · unfold fAug at h ⊢
    split at h
    · exact he.mono _ _ _ (fun r s1 h1 => isI_mono (fun b q => le.1 _ q) h1) h
    · exact h.elim
  · unfold fAug at h
    split at h
    · rename_i a ea
      obtain ⟨v, h1, h2⟩ := ok.read ea
      cases h2
      refine ⟨_, h1, he.run hd Z B O σ H s _ ok (he.mono _ _ _ (fun r s1 h1 v H1 k1 f1 r1 => ?_) h)⟩
      obtain ⟨b, rfl, h3⟩ := isI_v h1 r1
      exact ⟨a, b, rfl, rfl, re.nx _ _ _ _ h3 (k1.set i fun y hy => by cases hy; exact ⟨(fun _ z => nomatch z), .int _⟩)⟩
    · exact h.elim
/-! ### dicts that are read -/
def keyOf : PyData → Option Key
  | .int i => some (.inl i)
  | .str x => some (.inr x)
  | _ => none
theorem keyOf_keyD (k : Key) : keyOf (keyD k) = some k := by cases k <;> rfl
def dgetP : List (PyData × PyData) → Key → Option PyData
  | [], _ => none
  | (k', d) :: r, k => if keyOf k' = some k then some d else dgetP r k
def RelP (K : PySem.W.Frag) (H : Hp) : Option V → Option PyData → Prop
  | some v, some d => Rp K H v d
  | none, none => True
  | _, _ => False
theorem dget_rel {K : PySem.W.Frag} {H : Hp} (k : Key) : ∀ {kvs : List (Key × V)} {ds : List PyData}, RpAll K H (kvs.map (·.2)) ds → RelP K H (valV kvs k) (dgetP ((kvs.map fun p => keyD p.1).zip ds) k)
  | [], _, .nil => True.intro
  | p :: r, _, .cons (d := d) (ds := ds) a b => by
    show RelP K H (valV (p :: r) k) (if keyOf (keyD p.1) = some k then some d else dgetP ((r.map fun p => keyD p.1).zip ds) k)
    rw [keyOf_keyD]
    by_cases e : p.1 = k
    · rw [valV_pos e, if_pos (by rw [e])]
      exact a
    · rw [valV_neg e, if_neg (fun z => e (Option.some.inj z))]
      exact dget_rel k b
theorem rs_dict {K : PySem.W.Frag} {hd : Addr → Bool} {Z : Zt} {O : List Addr} {σ : L2.St} {H H' : Hp} {v : V} {ps : List (PyData × PyData)} (h : Rs L K hd Z O σ H H' v (.im (.dict ps))) : ∃ p kvs ds, v = .ref p ∧ vis hd O H' p = some (.dK kvs) ∧ RpAll K (vis hd O H') (kvs.map (·.2)) ds ∧ ps = (kvs.map fun p => keyD p.1).zip ds := by
  cases h with
  | dct s r => exact ⟨_, _, _, rfl, s, r, rfl⟩
theorem rp_key {K : PySem.W.Frag} {H : Hp} {v : V} {d : PyData} {k : Key} (r : Rp K H v d) (h : keyOf d = some k) : v = kV k := by
  cases r <;> cases h <;> rfl
/-- d[k] -/
def oDGet : O2 := fun a b Q => match a, b with
  | .im (.dict ps), .im kd => match keyOf kd with
    | some k => match dgetP ps k with
      | some d => Q (.im d)
      | none => False
    | none => False
  | _, _ => False
theorem oDGet_mono : ∀ a b Q Q', (∀ r, Q r → Q' r) → oDGet a b Q → oDGet a b Q' := fun a b Q Q' k h => by
  unfold oDGet at h ⊢
  split at h
  · split at h
    · split at h
      · exact k _ h
      · exact h.elim
    · exact h.elim
  · exact h.elim
variable {a b c : Expr} {fa fb fc : FE}
theorem xDGet (hu : X.A.units + 1 < cLine) (ha : XE L X a fa) (hb : XE L X b fb) (hs : NoSl b := by exact fun _ _ => rfl) : XE L X (.Subscript a b pos) (f2 oDGet fa fb) := by
  refine ⟨f2_mono oDGet_mono ha hb, fun hd Z B O σ H s Q ok h => tW_of (pe_dget hu peW peW hs) (ha.run hd Z B O σ H s _ ok (ha.mono _ _ _ (fun e1 s1 h1 x H1 k1 f1 r1 => ?_) h))⟩
  refine hb.run hd Z B O σ H1 s1 _ k1 (hb.mono _ _ _ (fun e2 s2 h2 y H2 k2 f2 r2 => ?_) h1)
  have r1' := Rs.step k1 f2 r1
  unfold oDGet at h2
  split at h2
  · rename_i ps kd
    split at h2
    · rename_i k ek
      split at h2
      · rename_i d ed
        obtain ⟨p, kvs, ds, rfl, hp, rp, rfl⟩ := rs_dict r1'
        have yk := rp_key r2 ek
        subst yk
        have rel := dget_rel k rp
        rw [ed] at rel
        cases q : valV kvs k with
        | none => rw [q] at rel; exact rel.elim
        | some v =>
          rw [q] at rel
          exact ⟨p, v, rfl, by rw [← q]; exact DGet.k (vis_le _ _ hp), h2 v H2 k2 (f1.trans f2) rel⟩
      · exact h2.elim
    · exact h2.elim
  · exact h2.elim
/-- d.get(k, e) -/
def fDGet2 (fa fb fc : FE) : FE := fun s Q => fa s fun a s1 => match a with
  | .im (.dict ps) => fb s1 fun b s2 => fc s2 fun c s3 => match b, c with
    | .im kd, .im x => match keyOf kd with
      | some k => Q (.im ((dgetP ps k).getD x)) s3
      | none => False
    | _, _ => False
  | _ => False
variable {apos cpos : Pos}
theorem xDGet2 (hu : X.A.units + 1 < cLine) (ha : XE L X a fa) (hb : XE L X b fb) (hc : XE L X c fc) (m : M2 X a "get" apos b c cpos := by exact ⟨rfl, rfl, rfl, rfl⟩) : XE L X (.Call (.Attribute a "get" apos) [b, c] [] cpos) (fDGet2 fa fb fc) := by
  refine ⟨fun s Q Q' k h => ha.mono _ _ _ (fun e1 s1 h1 => ?_) h, fun hd Z B O σ H s Q ok h => tW_of (pe_dget2 hu peW peW peW m) (ha.run hd Z B O σ H s _ ok (ha.mono _ _ _ (fun e1 s1 h1 x H1 k1 f1 r1 => ?_) h))⟩
  · split at h1
    · refine hb.mono _ _ _ (fun e2 s2 h2 => hc.mono _ _ _ (fun e3 s3 h3 => ?_) h2) h1
      split at h3
      · split at h3
        · exact k _ _ h3
        · exact h3.elim
      · exact h3.elim
    · exact h1.elim
  · split at h1
    · rename_i ps
      obtain ⟨p, kvs, ds, rfl, hp, rp, rfl⟩ := rs_dict r1
      refine ⟨p, rfl, .inl ⟨kvs, .inl (vis_le _ _ hp)⟩, hb.run hd Z B O σ H1 s1 _ k1 (hb.mono _ _ _ (fun e2 s2 h2 y H2 k2 f2 r2 => ?_) h1)⟩
      refine hc.run hd Z B O σ H2 s2 _ k2 (hc.mono _ _ _ (fun e3 s3 h3 z H3 k3 f3 r3 => ?_) h2)
      split at h3
      · rename_i kd x
        split at h3
        · rename_i k ek
          have yk := rp_key r2 ek
          subst yk
          have hpp : H3 p = some (.dK kvs) := vis_le _ _ (vis_frmX (O' := O) k1 (f2.trans f3).fr _ _ hp)
          have rp' := rp.same (vis_frmX (O' := O) k1 (f2.trans f3).fr)
          have rel := dget_rel k rp'
          refine ⟨valV kvs k, DGet.k hpp, ?_⟩
          cases q : valV kvs k with
          | none =>
            rw [q] at rel
            cases q2 : dgetP ((kvs.map fun p => keyD p.1).zip ds) k with
            | none => rw [q2] at h3; exact h3 _ H3 k3 ((f1.trans f2).trans f3) r3
            | some d => rw [q2] at rel; exact rel.elim
          | some v =>
            rw [q] at rel
            cases q2 : dgetP ((kvs.map fun p => keyD p.1).zip ds) k with
            | none => rw [q2] at rel; exact rel.elim
            | some d => rw [q2] at h3 rel; exact h3 v H3 k3 ((f1.trans f2).trans f3) rel
        · exact h3.elim
      · exact h3.elim
    · exact h1.elim
/-! ### a new dict -/
theorem putK_new {k : Key} {v : V} : ∀ {kvs : List (Key × V)}, (∀ p ∈ kvs, p.1 ≠ k) → putK kvs k v = kvs ++ [(k, v)] := fun {kvs} h => by
  unfold putK
  rw [if_neg]
  intro z
  obtain ⟨p, m, e⟩ := List.any_eq_true.mp z
  exact h p m (of_decide_eq_true e)
theorem mergeK_new : ∀ (more kvs : List (Key × V)), (more.map (·.1)).Nodup → (∀ p ∈ more, ∀ q ∈ kvs, q.1 ≠ p.1) → mergeK kvs more = kvs ++ more
  | [], kvs, _, _ => by show kvs = kvs ++ []; rw [List.append_nil]
  | p :: r, kvs, nd, h => by
    show mergeK (putK kvs p.1 p.2) r = kvs ++ p :: r
    rw [putK_new (fun q m => h p List.mem_cons_self q m)]
    rw [List.map_cons, List.nodup_cons] at nd
    rw [mergeK_new r _ nd.2 (fun a ma q mq => ?_), List.append_assoc]
    · rfl
    · rcases List.mem_append.mp mq with z | z
      · exact h a (List.mem_cons_of_mem _ ma) q z
      · rw [List.mem_singleton] at z
        rw [z]
        intro e
        exact nd.1 (by rw [e]; exact List.mem_map_of_mem ma)
def dispGo : List (Str × FE) → S → (List PyData → S → Prop) → Prop
  | [], s, Q => Q [] s
  | (k, f) :: r, s, Q => f s fun e s1 => match e.kept with
    | some d => dispGo r s1 fun ds s2 => Q (d :: ds) s2
    | none => False
def fDisp (l : List (Str × FE)) : FE := fun s Q => dispGo l s fun ds s1 => Q (.im (.dict ((l.map fun p => PyData.str p.1).zip ds))) s1
/-- the pairs' terms -/
inductive XD (L : Lay) (X : Cx) : List (Option Expr) → List Expr → List (Str × FE) → Prop
  | nil : XD L X [] [] []
  | cons {k : Str} {j : Nat} {pk : Pos} {v : Expr} {f : FE} {ks : List (Option Expr)} {vs : List Expr} {l : List (Str × FE)} : XE L X v f → XD L X ks vs l → XD L X (some (.Constant (.str k) j pk) :: ks) (v :: vs) ((k, f) :: l)
theorem dispGo_mono : ∀ {ks : List (Option Expr)} {vs : List Expr} {l : List (Str × FE)}, XD L X ks vs l → ∀ s Q Q', (∀ ds s', Q ds s' → Q' ds s') → dispGo l s Q → dispGo l s Q'
  | _, _, _, .nil, s, Q, Q', k, h => k _ _ h
  | _, _, _, .cons a b, s, Q, Q', k, h => a.mono _ _ _ (fun e s1 h1 => by
      cases q : e.kept with
      | none => simp only [q] at h1
      | some d => simp only [q] at h1 ⊢; exact dispGo_mono b _ _ _ (fun ds s2 h2 => k _ _ h2) h1) h
/-- hidden too: the dict in the making -/
def hdp (hd : Addr → Bool) (p : Addr) : Addr → Bool := fun a => hd a || decide (a = p)
theorem hdp_false {hd : Addr → Bool} {p a : Addr} (h : hdp hd p a = false) : hd a = false ∧ a ≠ p := by
  unfold hdp at h
  rw [Bool.or_eq_false_iff, decide_eq_false_iff_not] at h
  exact h
theorem vis_hdp {hd : Addr → Bool} {p : Addr} {O : List Addr} {H : Hp} {u : HO} : Same (vis (hdp hd p) O H) (vis hd O (upd H p u)) := fun a o e => by
  obtain ⟨h1, h2, h3⟩ := vis_some.mp e
  obtain ⟨g1, g2⟩ := hdp_false h1
  exact vis_some.mpr ⟨g1, h2, by rw [upd_ne g2]; exact h3⟩
theorem Ok.hide {K : PySem.W.Frag} {hd : Addr → Bool} {Z : Zt} {B : Hp} {O : List Addr} {σ : L2.St} {H : Hp} {s : S} (k : Ok L K hd Z B O σ H s) {p : Addr} (hp : H p = none) : Ok L K (hdp hd p) Z (bas Z O (upd H p (.dK []))) O σ (upd H p (.dK [])) s := by
  obtain ⟨d1, d2, d3⟩ := k.fresh hp
  have sm := sameNew (o := .dK []) hp
  have vv : Same (vis hd O H) (vis (hdp hd p) O (upd H p (.dK []))) := fun a o e => by
    obtain ⟨g1, g2, g3⟩ := vis_some.mp e
    have ne : a ≠ p := ne_of_none g3 hp
    refine vis_some.mpr ⟨?_, g2, sm a o g3⟩
    unfold hdp
    rw [g1, Bool.false_or]
    exact decide_eq_false ne
  refine ⟨fun b o e => (bas_some.mp e).2.2, fun a h => ⟨bas_none (.inl h), ?_⟩, fun a h => ⟨bas_none (.inr h), ?_⟩, fun a h => ?_, fun z e => L.keep (k.stk z e) fun b o _ q => sm b o q, fun i e h => ?_, k.apart, k.len⟩
  · obtain ⟨g1, g2, xs, g3⟩ := k.offO a h
    refine ⟨?_, xs, sm a _ g3⟩
    unfold hdp
    rw [g2, Bool.false_or]
    exact decide_eq_false (ne_of_none g3 hp)
  · unfold hdp
    rw [(k.offZ a h).2, Bool.true_or]
  · by_cases z : zin Z a
    · exact .inr z
    · unfold hdp at h
      rw [Bool.or_eq_true, decide_eq_true_iff] at h
      rcases h with h | rfl
      · obtain ⟨o, e, r⟩ := k.live h
        have ao : a ∉ O := fun w => by rw [(k.offO a w).2.1] at h; cases h
        exact .inl ⟨o, bas_some.mpr ⟨ao, z, sm a o e⟩, r⟩
      · exact .inl ⟨_, bas_some.mpr ⟨d2, z, upd_same⟩, .inr (.inr rfl)⟩
  · obtain ⟨v, g1, g2⟩ := k.slot i e h
    refine ⟨v, g1, ?_⟩
    cases e with
    | im d => exact Rp.same vv g2
    | ow ds =>
      obtain ⟨q, ws, a1, a2, a3, a4⟩ := g2
      exact ⟨q, ws, a1, a2, sm _ _ a3, a4.same vv⟩
    | br _ _ => exact g2
    | ob t d => exact L.mono vv g2
    | dr => exact g2
def pairsV (l : List (Str × FE)) (ws : List V) : List (V × V) := (l.map fun p => V.str p.1).zip ws
theorem xd_run : ∀ {ks : List (Option Expr)} {vs : List Expr} {l : List (Str × FE)}, XD L X ks vs l → ∃ trs, PPs X pos ks vs trs ∧ ∀ hd Z B O σ H s (R : List (V × V) → Hp → Prop), Ok L X.K hd Z B O σ H s →
    dispGo l s (fun ds s' => ∀ ws H', Ok L X.K hd Z B O σ H' s' → Mv Z H H' s s' → RpAll X.K (vis hd O H') ws ds → ds.length = l.length → R (pairsV l ws) H') → tPairs trs σ H R
  | _, _, _, .nil => ⟨[], pps_nil, fun hd Z B O σ H s R ok h => h [] H ok Mv.refl .nil rfl⟩
  | _, _, _, .cons (f := f) (l := l) a b => by
    obtain ⟨trs, p1, q1⟩ := xd_run b
    refine ⟨_, pps_cons pe_str peW p1, fun hd Z B O σ H s R ok h => ?_⟩
    show tW X _ σ H _
    refine a.run hd Z B O σ H s _ ok (a.mono _ _ _ (fun r s1 h1 v H1 k1 f1 r1 => ?_) h)
    cases q : r.kept with
    | none => simp only [q] at h1
    | some d =>
      simp only [q] at h1
      refine q1 hd Z B O σ H1 s1 _ k1 (dispGo_mono b _ _ _ (fun ds s2 h2 ws H2 k2 f2 r2 ln => ?_) h1)
      exact h2 (v :: ws) H2 k2 (f1.trans f2) (.cons ((Rs.keeps r1 q).same (vis_frmX k1 f2.fr)) r2) (by rw [List.length_cons, List.length_cons, ln])
theorem pairsV_map {l : List (Str × FE)} : ∀ {ws : List V}, pairsV l ws = (((l.map fun p => (Sum.inr p.1 : Key)).zip ws).map fun kv => (kV kv.1, kv.2)) := by
  induction l with
  | nil => intro ws; rfl
  | cons a l ih =>
    intro ws
    cases ws with
    | nil => rfl
    | cons w ws =>
      show (V.str a.1, w) :: pairsV l ws = (kV (Sum.inr a.1), w) :: _
      rw [ih]
      rfl
theorem xDisp {ks : List (Option Expr)} {vs : List Expr} {l : List (Str × FE)} (d : XD L X ks vs l) (hall : ks.all (·.isSome) = true := by rfl) (hl : ks.length = vs.length := by rfl) (h0 : ks ≠ [] := by exact fun z => by cases z) (h15 : ks.length ≤ 15 := by decide)
    (nd : (l.map fun p => p.1).Nodup := by decide +kernel) (hlen : l.length ≤ 15 := by decide) : XE L X (.Dict ks vs pos) (fDisp l) := by
  refine ⟨fun s Q Q' k h => dispGo_mono d _ _ _ (fun ds s' q => k _ _ q) h, fun hd Z B O σ H s Q ok h => ?_⟩
  obtain ⟨trs, pp, run⟩ := xd_run (pos := pos) d
  refine tW_of (pe_disp pp hall hl h0 h15) fun p hp => ?_
  obtain ⟨d1, d2, d3⟩ := ok.fresh hp
  refine run (hdp hd p) Z _ O σ _ s _ (ok.hide hp) (dispGo_mono d _ _ _ (fun ds s2 h2 ws H2 k2 m2 rp ln => ?_) h)
  have e2 : H2 p = some (.dK []) := m2.fr p _ d3 upd_same
  have len := rp.length
  refine ⟨e2, _, pairsV_map, ?_, ?_⟩
  · rw [List.length_zip, List.length_map]
    exact Nat.le_trans (Nat.min_le_left _ _) hlen
  · have lw : ws.length = l.length := len.trans ln
    have e1 : ((l.map fun p => (Sum.inr p.1 : Key)).zip ws).map (·.1) = l.map fun p => (Sum.inr p.1 : Key) := List.map_fst_zip (by rw [List.length_map, lw] <;> exact Nat.le_refl _)
    have e3 : ((l.map fun p => (Sum.inr p.1 : Key)).zip ws).map (·.2) = ws := List.map_snd_zip (by rw [List.length_map, lw] <;> exact Nat.le_refl _)
    generalize hK : (l.map fun p => (Sum.inr p.1 : Key)).zip ws = kvs at e1 e3 ⊢
    have em : mergeK [] kvs = kvs := by
      rw [mergeK_new kvs [] ?_ (fun _ _ q mq => by cases mq)]
      · rfl
      · have e : (l.map fun p => (Sum.inr p.1 : Key)) = (l.map fun p => p.1).map Sum.inr := by rw [List.map_map] <;> rfl
        rw [e1, e]
        exact List.Pairwise.map _ (fun a b ne z => ne (Sum.inr.inj z)) nd
    rw [em]
    have fr : Frm Z H (upd H2 p (.dK kvs)) := fun b o nz e => by
      have ne : b ≠ p := ne_of_none e hp
      rw [upd_ne ne]
      exact m2.fr b o nz (by rw [upd_ne ne]; exact e)
    have st : ∀ z, Z = some z → L.Stk z s2.n (upd H2 p (.dK kvs)) := fun z ez => L.keep (k2.stk z ez) fun b o hb q => by
      rw [upd_ne (fun w => d3 ⟨z, ez, by rw [← w]; exact hb⟩)]
      exact q
    have es : ({ s with n := s2.n } : S) = s2 := by
      obtain ⟨en, nn⟩ := s2
      have : en = s.env := m2.env
      subst this
      rfl
    have k3 := ok.step fr st
    rw [es] at k3
    refine h2 (.ref p) _ k3 ⟨fr, m2.env⟩ ?_
    have rp2 : RpAll X.K (vis hd O (upd H2 p (.dK kvs))) (kvs.map (·.2)) ds := by rw [e3]; exact rp.same vis_hdp
    have z : Rp X.K (vis hd O (upd H2 p (.dK kvs))) (.ref p) (.dict ((kvs.map fun q => keyD q.1).zip ds)) := .dct (vis_some.mpr ⟨d1, d2, upd_same⟩) rp2
    have ek : (kvs.map fun q => keyD q.1) = l.map fun q => PyData.str q.1 := by
      have : (kvs.map fun q => keyD q.1) = (kvs.map (·.1)).map keyD := by rw [List.map_map] <;> rfl
      rw [this, e1, List.map_map]
      rfl
    rw [ek] at z
    exact z
end
end DL
set_option Elab.async false
set_option linter.all false
set_option maxRecDepth 100000
set_option maxHeartbeats 2000000
namespace DL
open PySem PySem.Spec PyProof.Rows L2
abbrev oLt : O2 := oI fun i j => .bool (decide (i < j))
abbrev oLe : O2 := oI fun i j => .bool (decide (i ≤ j))
abbrev oGt : O2 := oI fun i j => .bool (decide (j < i))
abbrev oGe : O2 := oI fun i j => .bool (decide (j ≤ i))
abbrev oSub : O2 := oI fun i j => .int (i - j)
abbrev oMod : O2 := oIc (fun _ j => 0 < j) fun i j => .int (i % j)
abbrev oFDiv : O2 := oIc CDiv fun i j => .int (i / j)
theorem room65 {k : Nat} {A : Around} (r : Room k A) : A.units + 65 < cLine := by have := r.un; omega
section
variable {L : Lay} {X : Cx} {pos : Pos}
/-! ### a op b op' c -/
def fChain (o o' : O2) (fa fb fc : FE) : FE := fun s Q => fa s fun a s1 => fb s1 fun b s2 => o a b fun z => isB z fun k => match k with
  | true => fc s2 fun c s3 => o' b c fun r => Q r s3
  | false => Q (.im (.bool false)) s2
variable {a b c : Expr} {fa fb fc : FE} {op op' : CmpOp} {o o' : O2}
theorem fChain_mono (ho : OpS L X (compareOp op) o) (ho' : OpS L X (compareOp op') o') (ha : XE L X a fa) (hb : XE L X b fb) (hc : XE L X c fc) : ∀ s Q Q', (∀ r s', Q r s' → Q' r s') → fChain o o' fa fb fc s Q → fChain o o' fa fb fc s Q' :=
  fun s Q Q' k h => ha.mono _ _ _ (fun r s1 h1 => hb.mono _ _ _ (fun r2 s2 h2 => ho.mono _ _ _ _ (fun z hz => isB_mono (fun t q => by
    cases t with
    | true => exact hc.mono _ _ _ (fun r3 s3 h3 => ho'.mono _ _ _ _ (fun r4 q4 => k _ _ q4) h3) q
    | false => exact k _ _ q) hz) h2) h1) h
theorem xChain (ho : OpS L X (compareOp op) o) (ho' : OpS L X (compareOp op') o') (ha : XE L X a fa) (hb : XE L X b fb) (hc : XE L X c fc) (hm : lastMarks [op, op'] [b, c] = false := by with_unfolding_all rfl) : XE L X (.Compare a [op, op'] [b, c] pos) (fChain o o' fa fb fc) := by
  obtain ⟨r, hr, q⟩ := ho.ex
  obtain ⟨r', hr', q'⟩ := ho'.ex
  refine ⟨fChain_mono ho ho' ha hb hc, fun hd Z B O σ H s Q ok h => tW_of (pe_chain hr hr' peW peW peW hm) (ha.run hd Z B O σ H s _ ok (ha.mono _ _ _ (fun e1 s1 h1 x H1 k1 f1 r1 => ?_) h))⟩
  refine hb.run hd Z B O σ H1 s1 _ k1 (hb.mono _ _ _ (fun e2 s2 h2 y H2 k2 f2 r2 => ?_) h1)
  refine q hd Z B O σ H H1 H2 s2 x y e1 e2 _ k2 (Rs.step k1 f2 r1) r2 h2 _ fun v e H3 he sm rv => ?_
  obtain ⟨t, rfl, h3⟩ := isB_v he rv
  refine ⟨t, rfl, ?_⟩
  have k3 := k2.same sm
  have f3 : Mv Z H2 H3 s2 s2 := Mv.of sm
  cases t with
  | true =>
    refine iteT (hc.run hd Z B O σ H3 s2 _ k3 (hc.mono _ _ _ (fun e3 s4 h4 w H4 k4 f4 r4 => ?_) h3))
    exact q' hd Z B O σ H1 H3 H4 s4 y w e2 e3 _ k4 (Rs.step k2 (f3.trans f4) r2) r4 h4 _ fun v e H' he sm rv => he v H' (k4.same sm) ((((f1.trans f2).trans f3).trans f4).trans (Mv.of sm)) (Rs.back ok (((f1.trans f2).trans f3).trans f4) rv)
  | false => exact iteF (h3 _ H3 k3 ((f1.trans f2).trans f3) (.bl false))
theorem xtChain (ho : OpS L X (compareOp op) o) (ho' : OpS L X (compareOp op') o') (ha : XE L X a fa) (hb : XE L X b fb) (hc : XE L X c fc) (hm : lastMarks [op, op'] [b, c] = false := by with_unfolding_all rfl) : XT L X (.Compare a [op, op'] [b, c] pos) (fB (fChain o o' fa fb fc)) := by
  obtain ⟨r, hr, q⟩ := ho.ex
  obtain ⟨r', hr', q'⟩ := ho'.ex
  refine ⟨fB_mono (xChain (pos := pos) ho ho' ha hb hc hm), fun hd Z B O σ H s Q ok h => ttW_of (pt_chain hr hr' peW peW peW hm) (ha.run hd Z B O σ H s _ ok (ha.mono _ _ _ (fun e1 s1 h1 x H1 k1 f1 r1 => ?_) h))⟩
  refine hb.run hd Z B O σ H1 s1 _ k1 (hb.mono _ _ _ (fun e2 s2 h2 y H2 k2 f2 r2 => ?_) h1)
  refine q hd Z B O σ H H1 H2 s2 x y e1 e2 _ k2 (Rs.step k1 f2 r1) r2 h2 _ fun v e H3 he sm rv => ?_
  obtain ⟨t, rfl, h3⟩ := isB_v he rv
  refine ⟨t, rfl, ?_⟩
  have k3 := k2.same sm
  have f3 : Mv Z H2 H3 s2 s2 := Mv.of sm
  cases t with
  | true =>
    refine iteT (hc.run hd Z B O σ H3 s2 _ k3 (hc.mono _ _ _ (fun e3 s4 h4 w H4 k4 f4 r4 => ?_) h3))
    refine q' hd Z B O σ H1 H3 H4 s4 y w e2 e3 _ k4 (Rs.step k2 (f3.trans f4) r2) r4 h4 _ fun v e H' he sm rv => ?_
    obtain ⟨t', rfl, h5⟩ := isB_v he rv
    exact ⟨t', rfl, h5 H' (k4.same sm) ((((f1.trans f2).trans f3).trans f4).trans (Mv.of sm))⟩
  | false => exact iteF ⟨false, rfl, h3 H3 k3 ((f1.trans f2).trans f3)⟩
/-! ### enumerate -/
def enumD : Nat → List PyData → List PyData
  | _, [] => []
  | k, d :: r => .tuple [.int (k : Nat), d] :: enumD (k + 1) r
theorem enumD_len : ∀ (k : Nat) (ds : List PyData), (enumD k ds).length = ds.length
  | _, [] => rfl
  | k, d :: r => by rw [enumD, List.length_cons, List.length_cons, enumD_len]
theorem enumD_get : ∀ {ds : List PyData} {k i : Nat} {d : PyData}, ds[i]? = some d → (enumD k ds)[i]? = some (.tuple [.int ((k + i : Nat) : Int), d])
  | [], _, _, _, h => by simp at h
  | x :: r, k, 0, d, h => by simp at h; subst h; rfl
  | x :: r, k, i + 1, d, h => by
    have h' : r[i]? = some d := by simpa using h
    show (enumD (k + 1) r)[i]? = _
    rw [enumD_get (k := k + 1) h', show k + 1 + i = k + (i + 1) by omega]
theorem walkB_enum {K : PySem.W.Frag} {hd : Addr → Bool} {Z : Zt} {O : List Addr} {H : Hp} {J : It} {vs : List V} {ds : List PyData} {Gp : Hp → Prop} {G0 : Hp → Prop} (r : RpAll K (vis hd O H) vs ds) (g : ∀ H', Gp H' → G0 H') (w : Walk J vs.length G0 (YPair (fun i => some (.int (i : Nat))) (fun i => vs[i]?))) :
    WalkB L K hd Z (vis hd O H) Gp J (enumD 0 ds) := by
  have hl : (enumD 0 ds).length = vs.length := by rw [enumD_len, r.length]
  refine ⟨fun i H' hi q => w.goes i H' (by rw [← hl]; exact hi) (g _ q), fun H' q => by rw [hl]; exact w.stops H' (g _ q), fun i H' x H2 B O' σ s hi q ok sm y => ?_⟩
  obtain ⟨T, x1, x2, rfl, fT, rfl, e1, e2⟩ := w.yields i H' x H2 (by rw [← hl]; exact hi) (g _ q) y
  cases e1
  obtain ⟨d, h1, h2⟩ := rp_ofSame r sm e2
  obtain ⟨t1, t2, _⟩ := ok.fresh fT
  have s2 := sameNew (o := .tup [.int (i : Nat), x2]) fT
  refine ⟨_, enumD_get (k := 0) h1, s2, ?_⟩
  rw [show ((0 + i : Nat) : Int) = ((i : Nat) : Int) by rw [Nat.zero_add]]
  exact .tup (SqT.of (vis_some.mpr ⟨t1, t2, upd_same⟩)) (.cons (.int _) (.cons (h2.same (vis_frm ok (Frm.of s2))) .nil))
def fEnum (c : Bool) (f : FE) : FI := fun s Q => f s fun r s1 => match r with
  | .im (.list ds) => Q (enumD 0 ds) s1
  | .im (.tuple ds) => Q (enumD 0 ds) s1
  | .ow ds => Q (enumD 0 ds) s1
  | .br _ ds => c = true ∧ Q (enumD 0 ds) s1
  | _ => False
variable {e : Expr} {f : FE} {elts : List Expr} {kk : Nat} {tpos p : Pos}
theorem xiEnum (c : Bool) (he : XE L X e f) (hm : X.mg "enumerate" = none) (hg : Gl X "enumerate" := by rfl) (hs : starEach [e] X.env = [(false, eval e X.env)] := by rfl) : XI L X c (.Tuple elts kk tpos) (.Call (.Name "enumerate" p) [e] [] pos) (fEnum c f) := by
  refine ⟨fun s Q Q' k h => he.mono _ _ _ (fun r s1 h1 => ?_) h, fun hd Z B O σ H s R ok h => tiW_of (Et.pi_enumS hg hm (pa_cons peW pa_nil (by rw [hs] <;> rfl)) hs) (tW_len (he.run hd Z B O σ H s _ ok (he.mono _ _ _ (fun r s1 h1 v H1 k1 f1 r1 ln => ?_) h)))⟩
  · split at h1
    · exact k _ _ h1
    · exact k _ _ h1
    · exact k _ _ h1
    · exact ⟨h1.1, k _ _ h1.2⟩
    · exact h1.elim
  · split at h1
    · rename_i ds
      cases r1 with
      | lst hs rs =>
        refine ⟨_, _, rfl, .inl ⟨SqL.of (vis_le _ _ hs), h1 _ H1 (fun H2 => SqL X.K H2 _ _) k1 f1 ?_ ?_ ?_ (walkB_enum rs (fun _ q => q) walk_enum)⟩⟩
        · rw [enumD_len, ← rs.length]; exact ln _ _ (.inl (SqL.of (vis_le _ _ hs)))
        · exact fun H2 fr => SqL.of (vis_le _ _ (vis_frmX (O' := O) k1 fr _ _ hs))
        · exact fun _ O2 H2 sm => SqL.of (vis_le _ _ (sm _ _ hs))
    · rename_i ds
      cases r1 with
      | tup hs rs =>
        have hs1 := sameT vis_le hs
        refine ⟨_, _, rfl, .inr ⟨hs1, h1 _ H1 (fun H2 => SqT X.K H2 _ _) k1 f1 ?_ ?_ ?_ (walkB_enum rs (fun _ q => q) Et.walk_enumT)⟩⟩
        · rw [enumD_len, ← rs.length]; exact ln _ _ (.inr hs1)
        · exact fun H2 fr => sameT vis_le (sameT (vis_frmX (O' := O) k1 fr) hs)
        · exact fun _ O2 H2 sm => sameT vis_le (sameT sm hs)
    · rename_i ds
      obtain ⟨p, vs, rfl, e2, e3, e4, e5, e6⟩ := r1
      have hs : vis hd O H1 p = some (.lst vs) := vis_some.mpr ⟨e3, e4, e5⟩
      refine ⟨p, vs, rfl, .inl ⟨SqL.of e5, h1 _ H1 (fun H2 => SqL X.K H2 p vs) k1 f1 ?_ ?_ ?_ (walkB_enum (e6.same vis_more) (fun _ q => q) walk_enum)⟩⟩
      · rw [enumD_len, ← e6.length]; exact ln _ _ (.inl (SqL.of e5))
      · exact fun H2 fr => SqL.of (vis_le _ _ (vis_frmX (O' := O) k1 fr _ _ hs))
      · exact fun _ O2 H2 sm => SqL.of (vis_le _ _ (sm _ _ hs))
    · rename_i i ds
      obtain ⟨p, vs, rfl, e2, e3, e4, e5⟩ := r1
      refine ⟨p, vs, rfl, .inl ⟨SqL.of e4, h1.2 _ H1 (fun H2 => SqL X.K H2 p vs) k1 f1 ?_ ?_ (fun z => ?_) (walkB_enum e5 (fun _ q => q) walk_enum)⟩⟩
      · rw [enumD_len, ← e5.length]; exact ln _ _ (.inl (SqL.of e4))
      · exact fun H2 fr => SqL.of (fr p _ (fun z => by have := (k1.offO p e3).2.1; rw [(k1.offZ p z).2] at this; cases this) e4)
      · rw [h1.1] at z; cases z
    · exact h1.elim
/-! ### min, abs, a minus sign -/
def oMin : OL
  | [.im (.int i), .im (.int j)], Q => Q (.im (.int (if j < i then j else i)))
  | _, _ => False
theorem cs_min (hc : X.calm = true := by rfl) : CallS L X (.builtin "min") oMin :=
  ⟨fun rs Q Q' k h => by
    unfold oMin at h ⊢
    split at h
    · exact k _ h
    · exact h.elim, _, call_min2 hc, fun hd Z B O σ H0 H s xs rs Q ok ra q Q' fin => by
    unfold oMin at q
    split at q
    · obtain ⟨v, w, rfl, r1, r2⟩ := rs2 ra
      cases r1
      cases r2
      exact ⟨_, _, rfl, fin _ _ H q (Same.refl H) (.int _)⟩
    · exact q.elim⟩
def oAbs : OL
  | [.im (.int i)], Q => Q (.im (.int (if i < 0 then -i else i)))
  | _, _ => False
theorem cs_abs : CallS L X (.builtin "abs") oAbs :=
  ⟨fun rs Q Q' k h => by
    unfold oAbs at h ⊢
    split at h
    · exact k _ h
    · exact h.elim, _, call_abs, fun hd Z B O σ H0 H s xs rs Q ok ra q Q' fin => by
    unfold oAbs at q
    split at q
    · obtain ⟨v, rfl, r1⟩ := rs1 ra
      cases r1
      exact ⟨_, rfl, fin _ _ H q (Same.refl H) (.int _)⟩
    · exact q.elim⟩
def fNeg (f : FE) : FE := fun s Q => f s fun r s1 => isI r fun i => Q (.im (.int (-i))) s1
theorem xNeg (he : XE L X e f) : XE L X (.UnaryOp .USub e pos) (fNeg f) := by
  refine ⟨fun s Q Q' k h => he.mono _ _ _ (fun r s1 h1 => isI_mono (fun i q => k _ _ q) h1) h, fun hd Z B O σ H s Q ok h => tW_of (pe_un un_neg peW) (he.run hd Z B O σ H s _ ok (he.mono _ _ _ (fun r s1 h1 v H1 k1 f1 r1 => ?_) h))⟩
  obtain ⟨i, rfl, h2⟩ := isI_v h1 r1
  exact ⟨i, rfl, h2 _ H1 k1 f1 (.int _)⟩
/-! ### a, b = x, y -/
/-- what a name takes: own: one's own list -/
def takeR (own : Bool) (r : Ent) (Q : Ent → Prop) : Prop := match own with
  | false => plainR r Q
  | true => ownR r fun ds => Q (.ow ds)
theorem takeR_mono {own : Bool} {r : Ent} {Q Q' : Ent → Prop} (k : ∀ e, Q e → Q' e) (h : takeR own r Q) : takeR own r Q' := by
  cases own with
  | false => exact plainR_mono k h
  | true => exact ownR_mono (fun ds q => k _ q) h
theorem Ok.take {K : PySem.W.Frag} {hd : Addr → Bool} {Z : Zt} {B : Hp} {O : List Addr} {σ : L2.St} {H H0 : Hp} {s s0 : S} {own : Bool} {r : Ent} {v : V} {Q : Ent → Prop} (k : Ok L K hd Z B O σ H s) (k0 : Ok L K hd Z B O σ H0 s0) (mv : Mv Z H0 H s0 s) (i : Nat) (rs : Rs L K hd Z O σ H0 H v r) (h : takeR own r Q) :
    ∃ O' e, Q e ∧ Ok L K hd Z B O' (σ.set i (some v)) H { s with env := pt s.env i (some e) } := by
  cases own with
  | false =>
    obtain ⟨en, q, n, sl⟩ := plainR_v h rs
    exact ⟨O, en, q, k.set i fun y hy => by cases hy; exact ⟨n, sl⟩⟩
  | true =>
    cases r with
    | ow ds =>
      obtain ⟨p, _, k2⟩ := k.own k0 i rs mv
      exact ⟨_, _, h, k2⟩
    | im d => exact h.elim
    | br _ _ => exact h.elim
    | ob t d => exact h.elim
    | dr => exact h.elim
def fPar (i j : Nat) (oi oj : Bool) (fa fb : FE) : FS := fun E s => fa s fun r s1 => takeR oi r fun e => fb s1 fun r2 s2 => takeR oj r2 fun e2 => E.nx { s2 with env := pt (pt s2.env i (some e)) j (some e2) }
theorem Rs.slots {K : PySem.W.Frag} {hd : Addr → Bool} {Z : Zt} {O : List Addr} {σ σ' : L2.St} {H H' : Hp} {v : V} {own : Bool} {r : Ent} {Q : Ent → Prop} (t : takeR own r Q) (h : Rs L K hd Z O σ H H' v r) : Rs L K hd Z O σ' H H' v r := by
  cases r with
  | br _ _ => cases own <;> exact t.elim
  | im d => exact h
  | ow ds => exact h
  | ob t d => exact h
  | dr => exact h
theorem xsPar (i j : Nat) (oi oj : Bool) {x y : Str} {px py pt' : Pos} {kt k2 pt2} (ha : XE L X a fa) (hb : XE L X b fb) (hN : X.N.Nodup) (hi : X.N[i]? = some x := by rfl) (hj : X.N[j]? = some y := by rfl) (hij : i ≠ j := by decide) (hx : X.env.scope.names.lookup x = some .local := by rfl) (hy : X.env.scope.names.lookup y = some .local := by rfl)
    (hc : X.calm = true := by rfl) (hs1 : starEach [a, b] X.env = (false, eval a X.env) :: starEach [b] X.env := by rfl) (hs2 : starEach [b] X.env = (false, eval b X.env) :: starEach [] X.env := by rfl)
    (hw : swappedStores [.Tuple [.Name x px, .Name y py] kt pt'] (.Tuple [a, b] k2 pt2) X.env = pure (some [x, y]) := by rfl) (hs : swapsWithSole [.Tuple [.Name x px, .Name y py] kt pt'] (.Tuple [a, b] k2 pt2) pos.line X.env = pure false := by rfl) :
    XS L X (.Assign [.Tuple [.Name x px, .Name y py] kt pt'] (.Tuple [a, b] k2 pt2) pos) (fPar i j oi oj fa fb) := by
  refine ⟨fun E E' s le h => ha.mono _ _ _ (fun r s1 h1 => takeR_mono (fun e q => hb.mono _ _ _ (fun r2 s2 h2 => takeR_mono (fun e2 q2 => le.1 _ q2) h2) q) h1) h, fun hd Z B O σ H s E D ok re h => tsW_of (ps_par hc hN hi hj hij hx hy (pa_cons peW (pa_cons peW pa_nil hs2) hs1) hw hs) ?_⟩
  show tW X a σ H _
  refine ha.run hd Z B O σ H s _ ok (ha.mono _ _ _ (fun r s1 h1 v H1 k1 f1 r1 => ?_) h)
  show tW X b σ H1 _
  -- the first is taken: at once, and held
  have first : ∃ O1 e, (fb s1 fun r2 s2 => takeR oj r2 fun e2 => E.nx { s2 with env := pt (pt s2.env i (some e)) j (some e2) }) ∧ Ok L X.K hd Z B O1 σ H1 s1 ∧ Ok L X.K hd Z B O1 (σ.set i (some v)) H1 { s1 with env := pt s1.env i (some e) } := by
    cases oi with
    | false =>
      obtain ⟨en, q, n, sl⟩ := plainR_v h1 r1
      exact ⟨O, en, q, k1, k1.set i fun y hy => by cases hy; exact ⟨n, sl⟩⟩
    | true =>
      cases r with
      | ow ds =>
        obtain ⟨p, rfl, k2⟩ := k1.own ok i r1 f1
        exact ⟨_, _, h1, k1.hold ok r1 f1, k2⟩
      | im d => exact h1.elim
      | br _ _ => exact h1.elim
      | ob t d => exact h1.elim
      | dr => exact h1.elim
  obtain ⟨O1, e, h2, kh, ks⟩ := first
  refine hb.run hd Z B O1 σ H1 s1 _ kh (hb.mono _ _ _ (fun r2 s2 h3 w H2 k2 f2 r2' => ?_) h2)
  have ks2 := ks.step f2.fr k2.stk
  obtain ⟨O2, e2, q, k3⟩ := ks2.take ks ⟨f2.fr, rfl⟩ j (Rs.slots h3 r2') h3
  refine ⟨v, w, rfl, re.nx O2 _ H2 _ q ?_⟩
  have ee : ({ s2 with env := pt (pt s2.env i (some e)) j (some e2) } : S) = { { { s1 with env := pt s1.env i (some e) } with n := s2.n } with env := pt (pt s1.env i (some e)) j (some e2) } := by rw [f2.env]
  rw [ee]
  exact k3
end
end DL
namespace Draw
open PySem PySem.Spec PyProof.Rows L2
def top (i : Nat) : Stmt := PySem.Challenge.pw_presumebooks_k50_known_costs.main.body.getD i (.Pass ⟨0, 0, 0, 0⟩)
abbrev sBegun : Stmt := top 26
abbrev sMixed : Stmt := top 27
abbrev sTake : Stmt := top 28
abbrev sPick : Stmt := top 29
theorem scBegun : FnScope ["script", "wide", "grain"] ["script"] (defScope sBegun) := ⟨rfl, rfl, rfl, by decide +kernel, rfl, by decide +kernel, by decide +kernel⟩
theorem scMixed : FnScope ["draw", "turn", "found", "prime", "blend", "grain"] ["draw"] (defScope sMixed) := ⟨rfl, rfl, rfl, by decide +kernel, rfl, by decide +kernel, by decide +kernel⟩
theorem scTake : FnScope ["draw", "size", "found"] ["draw", "size"] (defScope sTake) := ⟨rfl, rfl, rfl, by decide +kernel, rfl, by decide +kernel, by decide +kernel⟩
theorem scPick : FnScope ["draw", "some"] ["draw", "some"] (defScope sPick) := ⟨rfl, rfl, rfl, by decide +kernel, rfl, by decide +kernel, by decide +kernel⟩
/-- the names of the module that the drawing reads: built-ins that nothing covers -/
structure Bare (mg : Str → Option Value) : Prop where
  abs : mg "abs" = none
  int : mg "int" = none
  len : mg "len" = none
  range : mg "range" = none
  min : mg "min" = none
/-- a stock of draws: the dict at d, its lists at w and c; n is the most turns so far -/
structure Stock (H : Hp) (d w c : Addr) (n : Nat) : Prop where
  own : ∃ (rest turn : Int), 0 ≤ rest ∧ 0 ≤ turn ∧ turn ≤ n ∧ H d = some (.dK [(Sum.inr "wide", .ref w), (Sum.inr "cells", .ref c), (Sum.inr "rest", .int rest), (Sum.inr "turn", .int turn)])
  wide : ∃ ws : List Int, ws.length ≤ 63 ∧ (∀ x ∈ ws, 0 ≤ x) ∧ H w = some (.lst (ws.map V.int))
  cells : ∃ cs : List Int, cs.length ≤ 63 ∧ (∀ x ∈ cs, 0 ≤ x ∧ x < 2147483629) ∧ H c = some (.lst (cs.map V.int))
  apart : c ≠ w
/-- what stood stands, but for two -/
def But (d w : Addr) (H H' : Hp) : Prop := ∀ b o, b ≠ d → b ≠ w → H b = some o → H' b = some o
theorem sameNew {H : Hp} {p : Addr} {o : HO} (h : H p = none) : Same H (upd H p o) := fun b u e => by
  rw [upd_ne (ne_of_none e h)]
  exact e
theorem samePut {H H' : Hp} {p : Addr} {o : HO} (s : Same H H') (h : H p = none) : Same H (upd H' p o) := fun b u e => by
  rw [upd_ne (ne_of_none e h)]
  exact s b u e
theorem intAt {ns : List Int} {i : Nat} {x : V} (h : (ns.map V.int)[i]? = some x) : ∃ z, ns[i]? = some z ∧ x = .int z := by
  rw [List.getElem?_map] at h
  cases e : ns[i]? with
  | none => rw [e] at h; cases h
  | some z => rw [e] at h; exact ⟨z, rfl, (Option.some.inj h).symm⟩
theorem powTen : CPow 10 18 := ⟨by decide, by decide, by decide⟩
theorem lt_line {n : Nat} (h : n < 1000) : n < sizeLine := Nat.lt_trans h (by decide)
def spBegun (K : PySem.W.Frag) : Sp := fun vs H Q _ => ∃ (a : Addr) (ns : List Int), vs = [.ref a] ∧ SqL K H a (ns.map V.int) ∧ ns.length ≤ 63 ∧
  ∀ (H' : Hp) (d w c : Addr), Same H H' → H d = none → H w = none → H c = none → Stock H' d w c 0 → Q (.ref d) H'
section
variable {P : Program} {w : World} {K : PySem.W.Frag} {mg : Str → Option Value} {base : Heap}
theorem ok_begun {f : Addr} {fd : FuncData} (F : Fun K "_law_begun" "_law_begun" sBegun f fd) (B : Bare mg) : FnOk P w K mg base CX0 1 f fd ["script"] (spBegun K) := by
  refine F.ok scBegun (fun vs H Q E h => ?_) (fun cdv A outer s H vs Q E hr h => ?_)
  · obtain ⟨a, ns, rfl, _⟩ := h
    rfl
  · obtain ⟨a, ns, rfl, hS, hn, k⟩ := h
    refine ⟨_, pss_cons (ps_setLc (i := 1) (own := [("grain", 2)]) (g := gName 2) rfl scBegun.nd rfl rfl (sw_true rfl rfl rfl (by decide +kernel)) (pi_list (pv 0))
        (blkOk_by (N := ["script", "wide", "grain"]) (sc := defScope sBegun) (by decide +kernel)) (fun _ _ _ _ _ => pg_name (i := 2) scBegun.nd rfl (Or.inl rfl))
        (fun _ _ _ _ _ => pts_one (pt_cmpR op_ge (pe_callB call_abs (by rfl) B.abs (by decide +kernel) (pa_cons (pv 2) pa_nil)) (pe_op op_pow pe_int pe_int) (nomark _)))
        (fun _ _ _ _ _ => pe_op op_sub (pe_callB call_abs (by rfl) B.abs (by decide +kernel) (pa_cons (pv 2) pa_nil)) (pe_op op_pow pe_int pe_int)))
      (pss_one (ps_ret (pe_disp (pps_cons pe_str (pv 1) (pps_cons pe_str
        (pe_lc (own := [("grain", 2)]) (g := gName 2) rfl scBegun.nd (pi_list (pv 0)) (blkOk_by (N := ["script", "wide", "grain"]) (sc := defScope sBegun) (by decide +kernel))
          (fun _ _ _ _ _ => pg_name (i := 2) scBegun.nd rfl (Or.inl rfl)) (fun _ _ _ _ _ => pts_nil)
          (fun _ _ _ _ _ => pe_op op_mod (pe_callTy call_int1 (by rfl) B.int (by decide +kernel) (pa_cons (pe_callB call_abs (by rfl) B.abs (by decide +kernel) (pa_cons (pv 2) pa_nil)) pa_nil)) pe_int))
        (pps_cons pe_str pe_int (pps_cons pe_str pe_int pps_nil)))) (by rfl) (by rfl) (fun z => by cases z) (by decide)))), ?_⟩
    refine ⟨_, rfl, a, rfl, ⟨_, hS⟩, fun D hD => lc_list (K := K) (a := a) (xs := ns.map V.int)
      (fun i H' => ∃ ws : List Int, ws.length ≤ i ∧ (∀ x ∈ ws, 0 ≤ x) ∧ H' D = some (.lst (ws.map V.int)) ∧ Same H H') ⟨[], Nat.le_refl _, by simp, upd_same, sameNew hD⟩ (fun i H' _ ⟨_, _, _, _, sm⟩ => sm.seq hS) (fun i x H' hi ⟨ws, l1, l2, l3, sm⟩ => ?_) (fun H' ⟨ws, l1, l2, l3, sm⟩ => ?_)⟩
    · obtain ⟨z, hz, rfl⟩ := intAt hi
      refine ⟨rfl, _, rfl, _, rfl, _, _, rfl, rfl, powTen, _, _, rfl, rfl, _, rfl, ?_⟩
      refine ite2 (fun e => ?_) (fun _ => ⟨ws, Nat.le_succ_of_le l1, l2, l3, sm⟩)
      refine ⟨_, rfl, _, rfl, _, _, rfl, rfl, powTen, _, _, rfl, rfl, _, l3, ?_, ws ++ [(if z < 0 then -z else z) - 10 ^ Int.toNat 18], ?_, ?_, ?_, samePut sm hD⟩
      · rw [List.length_map]
        have hi' := (List.getElem?_eq_some_iff.mp hi).1
        rw [List.length_map] at hi'
        exact lt_line (by omega)
      · rw [List.length_append]
        show ws.length + 1 ≤ i + 1
        omega
      · intro y hy
        rcases List.mem_append.mp hy with q | q
        · exact l2 y q
        · have e' := of_decide_eq_true e
          rw [List.mem_singleton] at q
          rw [q]
          exact Int.sub_nonneg.mpr e'
      · rw [upd_same, List.map_append]
        rfl
    · rw [List.length_map] at l1
      intro p hp
      have pD : D ≠ p := fun q => by rw [← q, l3] at hp; cases hp
      refine ⟨_, rfl, _, rfl, a, rfl, ⟨_, (sm.trans (sameNew hp)).seq hS⟩, fun C hC => lc_list (K := K) (a := a) (xs := ns.map V.int)
        (fun i H'' => ∃ cs : List Int, cs.length ≤ i ∧ (∀ x ∈ cs, 0 ≤ x ∧ x < 2147483629) ∧ H'' C = some (.lst (cs.map V.int)) ∧ Same (upd H' p (.dK [])) H'') ⟨[], Nat.le_refl _, by simp, upd_same, sameNew hC⟩
          (fun i H'' _ ⟨_, _, _, _, sm'⟩ => (sm.trans ((sameNew hp).trans sm')).seq hS) (fun i x H'' hi ⟨cs, m1, m2, m3, sm'⟩ => ?_) (fun H'' ⟨cs, m1, m2, m3, sm'⟩ => ?_)⟩
      · obtain ⟨z, hz, rfl⟩ := intAt hi
        refine ⟨rfl, _, rfl, _, rfl, Or.inl ⟨_, rfl, _, _, rfl, rfl, (by show (0 : Int) < 2147483629; decide), _, m3, ?_, cs ++ [(if z < 0 then -z else z) % 2147483629], ?_, ?_, ?_, samePut sm' hC⟩⟩
        · rw [List.length_map]
          have hi' := (List.getElem?_eq_some_iff.mp hi).1
          rw [List.length_map] at hi'
          exact lt_line (by omega)
        · rw [List.length_append]
          show cs.length + 1 ≤ i + 1
          omega
        · intro y hy
          rcases List.mem_append.mp hy with q | q
          · exact m2 y q
          · rw [List.mem_singleton] at q
            rw [q]
            exact ⟨Int.emod_nonneg _ (by decide), Int.emod_lt_of_pos _ (by decide)⟩
        · rw [upd_same, List.map_append]
          rfl
      · rw [List.length_map] at m1
        have hp' : H'' p = some (.dK []) := sm' p _ upd_same
        have hD' : H'' D = some (.lst (ws.map V.int)) := sm' D _ (by rw [upd_ne pD]; exact l3)
        have pC : C ≠ p := fun q => by rw [q, upd_same] at hC; cases hC
        refine ⟨hp', [(Sum.inr "wide", .ref D), (Sum.inr "cells", .ref C), (Sum.inr "rest", .int 0), (Sum.inr "turn", .int 0)], rfl, (by show 4 ≤ 15; decide), ?_⟩
        refine k _ p D C (fun b o e => ?_) ?_ hD ?_ ⟨⟨0, 0, Int.le_refl _, Int.le_refl _, Int.le_refl _, ?_⟩, ⟨ws, by omega, l2, ?_⟩, ⟨cs, by omega, m2, ?_⟩, ?_⟩
        · have bp : b ≠ p := fun q => by rw [q] at e; rw [sm p o e] at hp; cases hp
          rw [upd_ne bp]
          exact sm' b o (by rw [upd_ne bp]; exact sm b o e)
        · exact sm.free hp
        · exact sm.free ((sameNew hp).free hC)
        · rw [upd_same]
          rfl
        · rw [upd_ne pD]
          exact hD'
        · rw [upd_ne pC]
          exact m3
        · intro q
          rw [q, upd_ne pD, l3] at hC
          cases hC
theorem stockMono {H : Hp} {d w c : Addr} {n m : Nat} (S : Stock H d w c n) (h : n ≤ m) : Stock H d w c m :=
  let ⟨r, t, a, b, e, z⟩ := S.own
  ⟨⟨r, t, a, b, by omega, z⟩, S.wide, S.cells, S.apart⟩
theorem stockNe {H : Hp} {d w c : Addr} {n : Nat} (S : Stock H d w c n) : d ≠ w ∧ d ≠ c := by
  obtain ⟨r, t, _, _, _, z⟩ := S.own
  obtain ⟨ws, _, _, zw⟩ := S.wide
  obtain ⟨cs, _, _, zc⟩ := S.cells
  exact ⟨ne_of z zw (by intro q; cases q), ne_of z zc (by intro q; cases q)⟩
def But1 (d : Addr) (H H' : Hp) : Prop := ∀ b o, b ≠ d → H b = some o → H' b = some o
def spMixed : Sp := fun vs H Q _ => ∃ (d w c : Addr) (n : Nat), vs = [.ref d] ∧ Stock H d w c n ∧ n < 1000000 ∧
  ∀ (H' : Hp) (x : Int), But1 d H H' → Stock H' d w c (n + 1) → 0 ≤ x → Q (.int x) H'
abbrev drw (w c : Addr) (r t : Int) : List (Key × V) := [(Sum.inr "wide", .ref w), (Sum.inr "cells", .ref c), (Sum.inr "rest", .int r), (Sum.inr "turn", .int t)]
theorem drw_wide (w c : Addr) (r t : Int) : valV (drw w c r t) (Sum.inr "wide") = some (.ref w) := rfl
theorem drw_cells (w c : Addr) (r t : Int) : valV (drw w c r t) (Sum.inr "cells") = some (.ref c) := rfl
theorem drw_rest (w c : Addr) (r t : Int) : valV (drw w c r t) (Sum.inr "rest") = some (.int r) := rfl
theorem drw_turn (w c : Addr) (r t : Int) : valV (drw w c r t) (Sum.inr "turn") = some (.int t) := rfl
theorem drw_pt (w c : Addr) (r t u : Int) : putK (drw w c r t) (Sum.inr "turn") (.int u) = drw w c r u := rfl
theorem drw_pr (w c : Addr) (r t u : Int) : putK (drw w c r t) (Sum.inr "rest") (.int u) = drw w c u t := rfl
theorem gTurn {H : Hp} {d w c : Addr} {r t : Int} (h : H d = some (.dK (drw w c r t))) : DGet H d (.str "turn") (some (.int t)) := DGet.k (k := Sum.inr "turn") h
theorem gCells {H : Hp} {d w c : Addr} {r t : Int} (h : H d = some (.dK (drw w c r t))) : DGet H d (.str "cells") (some (.ref c)) := DGet.k (k := Sum.inr "cells") h
theorem gWide {H : Hp} {d w c : Addr} {r t : Int} (h : H d = some (.dK (drw w c r t))) : DGet H d (.str "wide") (some (.ref w)) := DGet.k (k := Sum.inr "wide") h
theorem gRest {H : Hp} {d w c : Addr} {r t : Int} (h : H d = some (.dK (drw w c r t))) : DGet H d (.str "rest") (some (.int r)) := DGet.k (k := Sum.inr "rest") h
theorem pTurn {H : Hp} {d w c : Addr} {r t u : Int} (h : H d = some (.dK (drw w c r t))) : DPut H d (.str "turn") (.int u) (upd H d (.dK (drw w c r u))) := DPut.k (k := Sum.inr "turn") h (by show 4 < sizeLine; decide)
theorem pRest {H : Hp} {d w c : Addr} {r t u : Int} (h : H d = some (.dK (drw w c r t))) : DPut H d (.str "rest") (.int u) (upd H d (.dK (drw w c u t))) := DPut.k (k := Sum.inr "rest") h (by show 4 < sizeLine; decide)
theorem ok_mixed {f : Addr} {fd : FuncData} (F : Fun K "_law_mixed" "_law_mixed" sMixed f fd) (B : Bare mg) : FnOk P w K mg base CX0 1 f fd ["draw"] spMixed := by
  refine F.ok scMixed (fun vs H Q E h => ?_) (fun cdv A outer s H vs Q E hr h => ?_)
  · obtain ⟨d, w, c, n, rfl, _⟩ := h
    rfl
  · obtain ⟨d, w, c, n, rfl, S, hn, k⟩ := h
    refine ⟨_, pss_cons (ps_par (i := 1) (j := 2) (by rfl) scMixed.nd rfl rfl (by decide) rfl rfl (pa_cons (pe_op op_add (pe_dget (hu_of hr) (pv 0) pe_str (fun _ _ => rfl)) pe_int) (pa_cons pe_int pa_nil)) (by rfl))
      (pss_cons (ps_dput (hu_of hr) (pv 0) pe_str (pv 1) rfl)
      (pss_cons (ps_for PassesOwn.never rfl (pi_list (pe_lst (pa_cons pe_int (pa_cons pe_int (pa_cons pe_int (pa_cons pe_int pa_nil)))))) (pg_name (i := 3) scMixed.nd rfl (Or.inl rfl))
        (pss_cons (ps_set (i := 4) scMixed.nd rfl (Or.inl rfl) (pe_op op_add (pe_op op_mul pe_int (pv 1)) (pe_op op_fdiv (pv 3) pe_int)))
        (pss_cons (ps_for PassesOwn.never rfl (pi_list (pe_dget (hu_of hr) (pv 0) pe_str (fun _ _ => rfl))) (pg_name (i := 5) scMixed.nd rfl (Or.inl rfl))
          (pss_one (ps_set (i := 4) scMixed.nd rfl (Or.inl rfl) (pe_op op_mod (pe_callTy call_int1 (by rfl) B.int (by decide +kernel) (pa_cons (pe_op op_add (pe_op op_add (pe_op op_mul (pv 4) pe_int) (pv 5)) (pv 1)) pa_nil)) (pv 3)))))
        (pss_one (ps_set (i := 2) scMixed.nd rfl (Or.inl rfl) (pe_op op_add (pe_op op_mul (pv 2) pe_int) (pe_op op_mod (pe_callTy call_int1 (by rfl) B.int (by decide +kernel) (pa_cons (pe_op op_pow (pv 4) pe_int) pa_nil)) (pv 3))))))))
      (pss_one (ps_ret (pv 2))))), ?_⟩
    obtain ⟨r, t, r0, t0, tn, hd⟩ := S.own
    obtain ⟨ws, lw, pw, hw⟩ := S.wide
    obtain ⟨cs, lc, pc, hc⟩ := S.cells
    have hne := stockNe S
    refine ⟨_, rfl, d, _, rfl, gTurn hd, _, _, rfl, rfl, _, _, rfl, _, rfl, _, rfl, d, _, rfl, pTurn hd, (by show 4 ≤ sizeLine; decide), fun l hl => ?_⟩
    have ld : l ≠ d := fun q => by rw [q, upd_same] at hl; cases hl
    have hl0 : H l = none := by rw [upd_ne ld] at hl; exact hl
    have cl : c ≠ l := fun q => by rw [← q, hc] at hl0; cases hl0
    have wl : w ≠ l := fun q => by rw [← q, hw] at hl0; cases hl0
    generalize hZ : upd (upd H d (.dK (drw w c r (t + 1)))) l (.lst ([2147483647, 2147483629, 2147483587, 2147483579].map V.int)) = Z
    have Zl : Z l = some (.lst ([2147483647, 2147483629, 2147483587, 2147483579].map V.int)) := by rw [← hZ, upd_same]
    have Zd : Z d = some (.dK (drw w c r (t + 1))) := by rw [← hZ, upd_ne (Ne.symm ld), upd_same]
    have Zc : Z c = some (.lst (cs.map V.int)) := by rw [← hZ, upd_ne cl, upd_ne (Ne.symm hne.2)]; exact hc
    have Zw : Z w = some (.lst (ws.map V.int)) := by rw [← hZ, upd_ne wl, upd_ne (Ne.symm hne.1)]; exact hw
    have Zk : But1 d H Z := fun b o bd e => by
      rw [← hZ, upd_ne (ne_of_none e hl0), upd_ne bd]
      exact e
    refine ⟨l, rfl, ⟨_, .inl (.inl (by rw [← hZ] at Zl; exact Zl))⟩, for_list (K := K) (a := l) (xs := [2147483647, 2147483629, 2147483587, 2147483579].map V.int)
      (fun i σ H' => ∃ (x : Int) (v1 v2 v3 : Option V), σ = [some (.ref d), some (.int (t + 1)), some (.int x), v1, v2, v3] ∧ 0 ≤ x ∧ Z = H') ⟨0, none, none, none, rfl, Int.le_refl _, hZ.symm⟩ (fun i σ H' _ ⟨_, _, _, _, _, _, e⟩ => .inl (.inl (by rw [← e]; exact Zl))) ?_ ?_⟩
    · rintro i y σ H' hi ⟨x, v1, v2, v3, rfl, hx, rfl⟩
      obtain ⟨p, hp, rfl⟩ := intAt hi
      have pp : 0 < p ∧ p ≤ 2147483647 := by
        have q := List.mem_of_getElem? hp
        simp only [List.mem_cons, List.not_mem_nil, or_false] at q
        omega
      have p1 := pp.1
      have p2 := pp.2
      refine ⟨_, rfl, _, _, rfl, rfl, .inl ⟨by decide, by decide⟩, _, rfl, _, _, rfl, rfl, ⟨by decide, by decide⟩, _, _, rfl, rfl, _, rfl, d, _, rfl, gCells Zd, c, rfl, ⟨_, .inl (.inl Zc)⟩,
        for_list (K := K) (a := c) (xs := cs.map V.int) (fun i σ H' => ∃ (b : Int) (v3 : Option V), σ = [some (.ref d), some (.int (t + 1)), some (.int x), some (.int p), some (.int b), v3] ∧ 0 ≤ b ∧ b < 2 ^ 60 ∧ Z = H')
          ⟨_, v3, rfl, ?_, ?_, rfl⟩ (fun i σ H' _ ⟨_, _, _, _, _, e⟩ => .inl (.inl (by rw [← e]; exact Zc))) ?_ ?_⟩
      · have q := Int.ediv_nonneg (a := p) (b := 23) (by omega) (by decide)
        show (0 : Int) ≤ 69621 * (t + 1) + p / 23
        omega
      · have q := Int.ediv_le_self 23 (a := p) (by omega)
        show 69621 * (t + 1) + p / 23 < 2 ^ 60
        omega
      · rintro j y σ H' hj ⟨b, v3, rfl, b0, b1, rfl⟩
        obtain ⟨z, hz, rfl⟩ := intAt hj
        refine ⟨_, rfl, _, _, rfl, rfl, .inl ⟨by omega, by omega⟩, _, rfl, _, _, rfl, rfl, _, rfl, _, _, rfl, rfl, Or.inl ⟨_, rfl, _, rfl, _, _, rfl, rfl, p1, _, _, rfl, ?_, ?_, rfl⟩⟩
        · exact Int.emod_nonneg _ (by omega)
        · have q := Int.emod_lt_of_pos (b * 48271 + z + (t + 1)) p1
          show (b * 48271 + z + (t + 1)) % p < 2 ^ 60
          omega
      · rintro σ H' ⟨b, v3, rfl, b0, b1, rfl⟩
        refine ⟨_, rfl, _, _, rfl, rfl, .inr ⟨by decide, by decide⟩, _, rfl, _, _, rfl, rfl, ⟨by decide, by decide, by omega⟩, Or.inl ⟨_, rfl, _, rfl, _, _, rfl, rfl, p1, _, _, rfl, rfl, _, _, _, _, rfl, ?_, rfl⟩⟩
        have q := Int.emod_nonneg (b ^ Int.toNat 5) (show p ≠ 0 by omega)
        show (0 : Int) ≤ x * 2147483647 + b ^ Int.toNat 5 % p
        omega
    · rintro σ H' ⟨x, v1, v2, v3, rfl, hx, rfl⟩
      exact ⟨_, rfl, k _ _ Zk ⟨⟨r, t + 1, r0, by omega, by omega, Zd⟩, ⟨ws, lw, pw, Zw⟩, ⟨cs, lc, pc, Zc⟩, S.apart⟩ hx⟩
def spTake : Sp := fun vs H Q _ => ∃ (d w c : Addr) (n : Nat) (z : Int), vs = [.ref d, .int z] ∧ Stock H d w c n ∧ n < 1000000 ∧ 0 < z ∧ z < 1000000 ∧
  ∀ (H' : Hp) (x : Int), But d w H H' → Stock H' d w c (n + 1) → 0 ≤ x → x < z → Q (.int x) H'
theorem dpInts {K : PySem.W.Frag} {H : Hp} : ∀ ws : List Int, DpAll K H (ws.map V.int) (ws.map PyData.int)
  | [] => .nil
  | x :: r => .cons (.int x) (dpInts r)
theorem layInts : ∀ ws : List Int, PyData.canLayAll0 (ws.map PyData.int) = true
  | [] => by simp only [List.map_nil, PyData.canLayAll0]
  | x :: r => by simp only [List.map_cons, PyData.canLayAll0, PyData.canLay0, layInts r, Bool.and_self]
theorem deepInts : ∀ ws : List Int, PyData.depthAll (ws.map PyData.int) = 0
  | [] => by simp only [List.map_nil, PyData.depthAll]
  | x :: r => by simp only [List.map_cons, PyData.depthAll, PyData.depth, deepInts r, Nat.max_self]
theorem shapedInts (ws : List Int) : SeqAt.shaped (.list (ws.map PyData.int)) = true := by
  unfold SeqAt.shaped
  simp only [PyData.canLay0, PyData.depth, layInts, deepInts]
  decide
theorem idx0 {n : Nat} (h : 0 < n) : seqIndex? 0 n = some 0 := by
  unfold seqIndex?
  have e : n ≠ 0 := by omega
  simp [e]
theorem eqNil (ws : List Int) : PyData.eqv (.list (ws.map PyData.int)) (.list []) = ws.isEmpty := by
  cases ws with
  | nil => rfl
  | cons x r => rfl
theorem ok_take {f fM : Addr} {fd fdM : FuncData} (F : Fun K "_law_take" "_law_take" sTake f fd) (B : Bare mg) (FM : Fun K "_law_mixed" "_law_mixed" sMixed fM fdM) (gM : mg "_law_mixed" = some (.ref fM)) (bM : Binds K fdM ["draw"] []) :
    FnOk P w K mg base CX0 2 f fd ["draw", "size"] spTake := by
  have GM : FnOk P w K mg base CX0 1 fM fdM ["draw"] spMixed := ok_mixed FM B
  refine F.ok scTake (fun vs H Q E h => ?_) (fun cdv A outer s H vs Q E hr h => ?_)
  · obtain ⟨d, w, c, n, z, rfl, _⟩ := h
    rfl
  · obtain ⟨d, w, c, n, z, rfl, S, hn, z0, z1, k⟩ := h
    refine ⟨_, C8.pss_cut (ps_if (pt_cmpR op_eq (pe_dget (hu_of hr) (pv 0) pe_str (fun _ _ => rfl)) pe_int (nomark _))
        (pss_one (ps_dput (hu_of hr) (pv 0) pe_str (pe_ifExp (pt_cmpR (op_neD hr.units) (pe_dget (hu_of hr) (pv 0) pe_str (fun _ _ => rfl)) (pe_lst pa_nil) (nomark _))
          (pe_bm PySem.F.plainAttrs_list PySem.F.slot_list_pop PySem.F.type_list_pop mt_popAt (pe_dget (hu_of hr) (pv 0) pe_str (fun _ _ => rfl)) (pa_cons pe_int pa_nil))
          (pe_call GM hr rfl gM FM.kp bM .nil pass0 (pa_cons (pv 0) pa_nil))) rfl)) pss_nil)
      (pss_cons (ps_set (i := 2) scTake.nd rfl (Or.inl rfl) (pe_op op_mod (pe_callTy call_int1 (by rfl) B.int (by decide +kernel) (pa_cons (pe_dget (hu_of hr) (pv 0) pe_str (fun _ _ => rfl)) pa_nil)) (pv 1)))
      (pss_cons (ps_dput (hu_of hr) (pv 0) pe_str (pe_op op_fdiv (pe_dget (hu_of hr) (pv 0) pe_str (fun _ _ => rfl)) (pv 1)) rfl)
      (pss_one (ps_ret (pv 2))))), ?_⟩
    have hne := stockNe S
    obtain ⟨r, t, r0, t0, tn, hd⟩ := S.own
    obtain ⟨ws, lw, pw, hw⟩ := S.wide
    obtain ⟨cs, lc, pc, hc⟩ := S.cells
    refine ⟨fun σ' H' => But d w H H' ∧ Stock H' d w c (n + 1) ∧ σ' = [some (.ref d), some (.int z), none], ?_, ?_⟩
    · refine ⟨_, rfl, d, _, rfl, gRest hd, rfl, _, rfl, ?_⟩
      refine ite2 (fun _ => ?_) (fun _ => ⟨fun b o _ _ e => e, stockMono S (Nat.le_succ n), rfl⟩)
      refine ⟨_, rfl, d, _, rfl, gWide hd, Nat.zero_le _, fun l hl => ?_⟩
      have ld : l ≠ d := fun q => by rw [q, hd] at hl; cases hl
      have lw' : l ≠ w := fun q => by rw [q, hw] at hl; cases hl
      have lc' : l ≠ c := fun q => by rw [q, hc] at hl; cases hl
      generalize hZ : upd H l (.lst []) = Z
      have Zl : Z l = some (.lst []) := by rw [← hZ, upd_same]
      have Zd : Z d = some (.dK (drw w c r t)) := by rw [← hZ, upd_ne (Ne.symm ld)]; exact hd
      have Zc : Z c = some (.lst (cs.map V.int)) := by rw [← hZ, upd_ne (Ne.symm lc')]; exact hc
      have Zw : Z w = some (.lst (ws.map V.int)) := by rw [← hZ, upd_ne (Ne.symm lw')]; exact hw
      have Zs : Same H Z := by rw [← hZ]; exact sameNew hl
      refine ⟨.list (ws.map PyData.int), .list [], ?_, ?_, ?_, rfl, _, rfl, ?_⟩
      · exact Dp.lst (.inl (.inl Zw)) (dpInts ws)
      · exact Dp.lst (.inl (.inl Zl)) .nil
      · exact shapedInts ws
      · cases ws with
        | nil =>
          refine ⟨_, rfl, d, w, c, n, rfl, ⟨⟨r, t, r0, t0, tn, Zd⟩, ⟨[], lw, pw, Zw⟩, ⟨cs, lc, pc, Zc⟩, S.apart⟩, hn, fun H' x b1 S' x0 => ?_⟩
          obtain ⟨r', t', r0', t0', tn', hd'⟩ := S'.own
          refine ⟨_, rfl, d, _, rfl, pRest hd', fun b o bd bw e => ?_, ⟨⟨x, t', x0, t0', tn', upd_same⟩, ?_, ?_, S.apart⟩, rfl⟩
          · rw [upd_ne bd]
            exact b1 b o bd (Zs b o e)
          · obtain ⟨ws, lw, pw, hw⟩ := S'.wide
            exact ⟨ws, lw, pw, by rw [upd_ne (Ne.symm hne.1)]; exact hw⟩
          · obtain ⟨cs, lc, pc, hc⟩ := S'.cells
            exact ⟨cs, lc, pc, by rw [upd_ne (Ne.symm hne.2)]; exact hc⟩
        | cons y rest =>
          refine ⟨_, rfl, d, _, rfl, gWide Zd, .inl ⟨rfl, _, .inl (.inl Zw)⟩, w, _, 0, 0, _, rfl, rfl, Zw, by decide, by decide, idx0 (by rw [List.length_map]; exact Nat.succ_pos _), rfl, ?_⟩
          have hdw : upd Z w (.lst (List.eraseIdx (List.map V.int (y :: rest)) 0)) d = some (.dK (drw w c r t)) := by rw [upd_ne hne.1]; exact Zd
          have cw : c ≠ w := S.apart
          refine ⟨_, rfl, d, _, rfl, pRest hdw, fun b o bd bw e => ?_, ⟨⟨y, t, pw y List.mem_cons_self, t0, by omega, upd_same⟩, ⟨rest, ?_, fun x hx => pw x (List.mem_cons_of_mem _ hx), ?_⟩, ⟨cs, lc, pc, ?_⟩, S.apart⟩, rfl⟩
          · rw [upd_ne bd, upd_ne bw]
            exact Zs b o e
          · have q : rest.length + 1 ≤ 63 := lw
            omega
          · rw [upd_ne (Ne.symm hne.1), upd_same]
            rfl
          · rw [upd_ne (Ne.symm hne.2), upd_ne cw]
            exact Zc
    · rintro σ' H' ⟨bt, S', rfl⟩
      obtain ⟨r, t, r0, t0, tn, hd⟩ := S'.own
      refine ⟨_, rfl, d, _, rfl, gRest hd, Or.inl ⟨_, rfl, _, rfl, _, _, rfl, rfl, z0, _, rfl, d, _, rfl, gRest hd, _, rfl, _, _, rfl, rfl, ⟨z0, by omega⟩, _, rfl, d, _, rfl, pRest hd, _, rfl, ?_⟩⟩
      have hne := stockNe S'
      refine k _ _ (fun b o bd bw e => ?_) ⟨⟨_, t, ?_, t0, tn, upd_same⟩, ?_, ?_, S'.apart⟩ (Int.emod_nonneg _ (by omega)) (Int.emod_lt_of_pos _ z0)
      · rw [upd_ne bd]
        exact bt b o bd bw e
      · exact Int.ediv_nonneg r0 (by omega)
      · obtain ⟨ws, lw, pw, hw⟩ := S'.wide
        exact ⟨ws, lw, pw, by rw [upd_ne (Ne.symm hne.1)]; exact hw⟩
      · obtain ⟨cs, lc, pc, hc⟩ := S'.cells
        exact ⟨cs, lc, pc, by rw [upd_ne (Ne.symm hne.2)]; exact hc⟩
/-- xs stands at l, as a list or as a tuple -/
def Seq (K : PySem.W.Frag) (H : Hp) (l : Addr) (xs : List V) : Prop := SqL K H l xs ∨ SqT K H l xs
theorem But.lst {d w l : Addr} {H H' : Hp} {xs : List V} {kvs : List (Key × V)} (b : But d w H H') (hd : H d = some (.dK kvs)) (nw : l ≠ w) (h : SqL K H l xs) : SqL K H' l xs := by
  rcases h with (h | ⟨o, h⟩) | h
  · exact .inl (.inl (b _ _ (ne_of h hd (by intro q; cases q)) nw h))
  · exact .inl (.inr ⟨o, b _ _ (ne_of h hd (by intro q; cases q)) nw h⟩)
  · exact .inr h
theorem But.tup {d w l : Addr} {H H' : Hp} {xs : List V} {kvs : List (Key × V)} {ys : List V} (b : But d w H H') (hd : H d = some (.dK kvs)) (hw : H w = some (.lst ys)) (h : SqT K H l xs) : SqT K H' l xs := by
  rcases h with (h | ⟨o, h⟩) | h
  · exact .inl (.inl (b _ _ (ne_of h hd (by intro q; cases q)) (ne_of h hw (by intro q; cases q)) h))
  · exact .inl (.inr ⟨o, b _ _ (ne_of h hd (by intro q; cases q)) (ne_of h hw (by intro q; cases q)) h⟩)
  · exact .inr h
/-- one of the items -/
def spPick (K : PySem.W.Frag) : Sp := fun vs H Q _ => ∃ (d w c l : Addr) (n : Nat) (xs : List V), vs = [.ref d, .ref l] ∧ Stock H d w c n ∧ n < 1000000 ∧ Seq K H l xs ∧ l ≠ w ∧ 0 < xs.length ∧ xs.length < 1000 ∧
  ∀ (H' : Hp) (i : Nat) (x : V), xs[i]? = some x → But d w H H' → Stock H' d w c (n + 1) → Q x H'
theorem ok_pick {f fT : Addr} {fd fdT : FuncData} (F : Fun K "_law_pick" "_law_pick" sPick f fd) (B : Bare mg) (GT : FnOk P w K mg base CX0 2 fT fdT ["draw", "size"] spTake) (gT : mg "_law_take" = some (.ref fT)) (kT : PySem.W.keepIn K (.ref fT) = true) (bT : Binds K fdT ["draw", "size"] []) :
    FnOk P w K mg base CX0 3 f fd ["draw", "some"] (spPick K) := by
  refine F.ok scPick (fun vs H Q E h => ?_) (fun cdv A outer s H vs Q E hr h => ?_)
  · obtain ⟨d, w, c, l, n, xs, rfl, _⟩ := h
    rfl
  · obtain ⟨d, w, c, l, n, xs, rfl, S, hn, hl, nw, l0, l1, k⟩ := h
    refine ⟨_, pss_one (ps_ret (pe_ix ix_seq (pv 1) (pe_call GT hr rfl gT kT bT .nil pass0 (pa_cons (pv 0) (pa_cons (pe_callB call_len_seq (by rfl) B.len PySem.boot_len (pa_cons (pv 1) pa_nil)) pa_nil))) (fun _ _ => rfl))), ?_⟩
    obtain ⟨r, t, r0, t0, tn, hd⟩ := S.own
    obtain ⟨ws, lw, pw, hw⟩ := S.wide
    refine ⟨_, rfl, _, rfl, _, rfl, l, xs, rfl, hl, d, w, c, n, _, rfl, S, hn, by omega, by omega, fun H' x bt S' x0 x1 => ?_⟩
    have hx : x.toNat < xs.length := by omega
    have e : xs[x.toNat]? = some xs[x.toNat] := List.getElem?_eq_getElem hx
    have ex : ((x.toNat : Nat) : Int) = x := Int.toNat_of_nonneg x0
    have ea : atI xs x = some xs[x.toNat] := by
      have q := atI_nat e
      rw [ex] at q
      exact q
    rcases hl with hl | hl
    · exact .inl ⟨l, xs, x, _, rfl, rfl, bt.lst hd nw hl, ea, k _ _ _ e bt S'⟩
    · exact .inr (.inl ⟨l, xs, x, _, rfl, rfl, bt.tup hd hw hl, ea, k _ _ _ e bt S'⟩)
end
end Draw
namespace Gd
open PySem PySem.Spec PyProof.Rows L2
/-! A def's promise where no repr is under way: what FnOk says, and besides that the stack of displays is known to be empty. -/
structure FnG (P : Program) (w : World) (K : PySem.W.Frag) (mg : Str → Option Value) (base : Heap) (CX : CXT) (k : Nat) (f : Addr) (fd : FuncData) (ps : List Str) (sp : Sp) : Prop where
  arity : ∀ vs H Q E, sp vs H Q E → vs.length = ps.length
  goes : ∀ (A : Around) (outer : List Env) (s : Shared) (H : Hp) (args : Args) (us : List Value) (vs : List V) (Q : VK) (E : XK), Room k A → A.guards = some [] →
    Env0 P w K mg base A outer s H → BindsTo s fd args (ps.zip us) → Vals vs us → sp vs H Q E → codeAny (model P w) A (.call (.ref f) args) (CR CX outer P w H s Q E) s
section
variable {P : Program} {w : World} {K : PySem.W.Frag} {mg : Str → Option Value} {base : Heap} {CX : CXT} {k : Nat} {f : Addr} {fd : FuncData} {ps : List Str} {sp : Sp}
theorem ofOk (F : FnOk P w K mg base CX k f fd ps sp) : FnG P w K mg base CX k f fd ps sp :=
  ⟨F.len, fun A outer s H args us vs Q E r _ e b v h => F.run A outer s H args us vs Q E r e b v h⟩
theorem bodyG {x qual : Str} {st : Stmt} {N : List Str} (F : Fun K x qual st f fd) (S : FnScope N ps (defScope st)) (ar : ∀ vs H Q E, sp vs H Q E → vs.length = ps.length)
    (hb : ∀ (cdv : Value) (A : Around) (outer : List Env) (s : Shared) (H : Hp) (vs : List V) (Q : VK) (E : XK), Room k (A.deeper (envOfC qual (defScope st) s.heap.objs.size f cdv)) →
      (cxOf CX P w K mg base N qual (defScope st) f cdv A outer s H E).A.guards = some [] → sp vs H Q E →
      ∃ t, PSs (cxOf CX P w K mg base N qual (defScope st) f cdv A outer s H E) (defBody st) t ∧ t { nx := fun _ H' => Q .non H', rt := Q } (start N vs) H) :
    FnG P w K mg base CX (k + 1) f fd ps sp := by
  obtain ⟨oc, od, kV, doc, pm, an, cdv, ct, osl, rfl, look, code⟩ := F.ex
  constructor
  · exact ar
  intro A outer s H args us vs Q E room gd env binds vals want
  have inK : K.In s.heap := env.mod.kin.keeps fun b o z => (env.bs b o z).1
  have noLim : s.heap.NoLimit := env.mod.nolimit.keeps fun b o z => (env.bs b o z).1
  have kinds : ∀ y ∈ ps.zip us, (defScope st).names.lookup y.1 = some .local ∨ ((defScope st).names.lookup y.1 = some .cell ∧ ((cellsFrom (s.heap.objs.size + 1) (defScope st).names []).lookup y.1).isSome = true) := by
    rintro ⟨n, v⟩ hy
    have z := S.par n (List.of_mem_zip hy).1
    exact z.imp (fun q => q) fun q => ⟨q, PySem.W.cellsFrom_some _ _ _ (.inl q)⟩
  apply codeAny_call_function room.depth (inK _ _ look) rfl S.co S.gen rfl (PySem.W.codeRec_of inK code)
  apply binds
  refine wpAny_newFunctionEnv_cells S.kind kinds fun ev hev s1 laid => ?_
  subst hev
  refine And.intro (noLim.keeps laid.toInCall.keep) (codeAny_func ?_)
  obtain ⟨t, ht, hq⟩ := hb cdv A outer s H vs Q E (room.deeper _) gd want
  have I := inv_start (CX := CX) (P := P) (w := w) (N := N) (E := E) S room.hd env (ar _ _ _ _ want) vals laid
  refine wpAny_mono (ht.run [] s1 (start N vs) H _ I hq) (fun fl s' out => ?_) fun e s' out => out
  match fl, out with
  | .ret u, ⟨v, σ', H', J, rv, q⟩ => exact ⟨v, H', J.os, J.bare, J.base, J.hok, rv, q⟩
  | .next, ⟨σ', H', J, q⟩ => exact ⟨V.non, H', J.os, J.bare, J.base, J.hok, rfl, q⟩
  | .brk, ⟨_, _, _, q⟩ => exact q.elim
  | .cont, ⟨_, _, _, q⟩ => exact q.elim
/-- the same for a def that no exception leaves -/
theorem bodyG0 {x qual : Str} {st : Stmt} {N : List Str} (F : Fun K x qual st f fd) (S : FnScope N ps (defScope st)) (ar : ∀ vs H Q E, sp vs H Q E → vs.length = ps.length)
    (hb : ∀ (cdv : Value) (A : Around) (outer : List Env) (s : Shared) (H : Hp) (vs : List V) (Q : VK) (E : XK), Room k (A.deeper (envOfC qual (defScope st) s.heap.objs.size f cdv)) →
      (cxOf CX0 P w K mg base N qual (defScope st) f cdv A outer s H E).nox.A.guards = some [] → sp vs H Q E →
      ∃ t, PSs (cxOf CX0 P w K mg base N qual (defScope st) f cdv A outer s H E).nox (defBody st) t ∧ t { nx := fun _ H' => Q .non H', rt := Q } (start N vs) H) :
    FnG P w K mg base CX0 (k + 1) f fd ps sp := by
  refine bodyG F S ar fun cdv A outer s H vs Q E room gd want => ?_
  obtain ⟨t, ht, hq⟩ := hb cdv A outer s H vs Q E room gd want
  exact ⟨t, ht.nox, hq⟩
end
section
variable {X : Cx} {CX : CXT} {k : Nat} {f : Addr} {fd : FuncData} {ps : List Str} {sp : Sp} {dvs : List V} {ds : List Value} {E : XK} {x : Str} {p pos : Pos} {e : Expr} {es : List Expr} {t : TA}
theorem runG {pins : List (Addr × Obj)} {σ : L2.St} {H : Hp} {s : Shared} {Q : VK} {us : List Value} {vs : List V} (F : FnG X.prog X.w X.K X.mg X.base CX k f fd ps sp) (room : Room k X.A) (gd : X.A.guards = some []) (bi : Binds X.K fd ps ds) (dv : Vals dvs ds)
    (px : Passes CX X E) (I : Inv X pins σ H s) (r : Vals vs us) (want : sp (vs ++ dvs) H Q E) : wpAny (model X.prog X.w) X.A (call (.ref f) us) (EP X pins σ Q) X.xe s := by
  have both := r.append dv
  have ll : (us ++ ds).length = ps.length := both.length.symm.trans (F.arity _ _ _ _ want)
  have run := F.goes X.A X.stack s H ⟨us, []⟩ _ _ Q E room gd I.env0 (bi s us I.kIn ll) both want
  refine wpAny_call (codeAny_mono run fun res s' out => ?_)
  match res, out with
  | .error er, out => exact px pins σ H s er s' I out
  | .ok (.ret u), out => exact I.after out
  | .ok .next, out => exact (show False from out).elim
  | .ok .brk, out => exact (show False from out).elim
  | .ok .cont, out => exact (show False from out).elim
/-- f(e, ..) -/
theorem pe_callG (F : FnG X.prog X.w X.K X.mg X.base CX k f fd ps sp) (room : Room k X.A) (gd : X.A.guards = some []) (hg : Gl X x) (hm : X.mg x = some (.ref f)) (kp : PySem.W.keepIn X.K (.ref f) = true) (bi : Binds X.K fd ps ds) (dv : Vals dvs ds)
    (px : Passes CX X E) (ha : PA X (e :: es) t) (n1 : (x == ("__debug__" : Str)) = false := by decide) (n2 : starEach (e :: es) X.env = (false, eval e X.env) :: starEach es X.env := by rfl)
    (n3 : (backTo pos (starEach es X.env)).any (·.1) = false := by rfl) : PE X (.Call (.Name x p) (e :: es) [] pos) (tCall sp dvs E t) := by
  constructor
  intro pins s σ H Q I want
  apply wpAny_Call_Name_kw
  apply ld_glob I hg hm _ n1
  apply PySem.W.callWith_K (h₀ := X.base) I.ok.mod.kin kp _ n2 n3
  exact thn (ha.run pos pins s σ H _ I want) fun us s1 ⟨vs, H1, I1, r, q⟩ => ⟨I1.kIn, runG F room gd bi dv px I1 r q⟩
/-- what stands in H under x, whatever the run, is the datum d -/
def Shown (P : Program) (w : World) (K : PySem.W.Frag) (H : Hp) (x : V) (d : PyData) : Prop := ∀ (X : Cx), X.prog = P → X.w = w → X.K = K → ∀ (pins : List (Addr × Obj)) (σ : L2.St) (s : Shared) (u : Value), Inv X pins σ H s → RelV x u → ∃ as, Reads s.heap u d as ∧ (d.hasDict = true → sysModules ∉ as)
theorem shown_dp {P : Program} {w : World} {K : PySem.W.Frag} {H : Hp} {x : V} {d : PyData} (h : Dp K H x d) (nd : d.hasDict = false) : Shown P w K H x d := fun X _ _ eK pins σ s u I r => by
  subst eK
  obtain ⟨as, q⟩ := Dp.reads I d x u h r
  exact ⟨as, q, fun z => by rw [nd] at z; cases z⟩
/-- repr(x) -/
def rShow (P : Program) (w : World) (K : PySem.W.Frag) : List V → Hp → VK → Prop := fun xs H Q => ∃ (x : V) (d : PyData), xs = [x] ∧ Shown P w K H x d ∧ d.showable = true ∧ d.depth ≤ 40 ∧ d.shown.length ≤ sizeLine ∧ Q (.str d.shown) H
theorem call_show (gd : X.A.guards = some []) (hu : X.A.units + 64 < cLine) : CallR X (.builtin "repr") (rShow X.prog X.w X.K) := by
  intro pins s σ H xs us Q I r h
  obtain ⟨x, d, rfl, hd, h1, h3, h4, q⟩ := h
  obtain ⟨u, rfl, rx⟩ := vals1 r
  obtain ⟨as, rd, hm⟩ := hd X rfl rfl rfl pins σ s u I rx
  have out : ∀ (h' : Heap) (u' : Tok) (tk : Nat), (∀ b o, s.heap.get? b = some o → h'.get? b = some o) → EP X pins σ Q (.str d.shown u') { s with heap := h', toks := tk } := fun h' u' tk kp =>
    ⟨.str d.shown, H, I.kept kp, ⟨u', rfl⟩, q⟩
  cases u with
  | ref a => exact repr_of_reads' rd h1 hm gd (by omega) (fun b o e => e) out h4
  | none => cases rd; exact PySem.P.repr_of_none (out s.heap _ _ fun _ _ e => e)
  | bool b => cases rd; exact PySem.P.repr_of_bool (out s.heap _ _ fun _ _ e => e)
  | int i t => cases rd; exact PySem.P.repr_of_int (of_decide_eq_true h1) (out s.heap _ _ fun _ _ e => e)
  | str z t => cases rd; exact PySem.P.repr_of_str (out s.heap _ _ fun _ _ e => e) h4
  | _ => cases rd
/-- the same within a comprehension -/
theorem call_showB {Y : Cx} {A0 : Around} {P : Program} {w : World} {K : PySem.W.Frag} (gd : A0.guards = some []) (hu : A0.units + 64 < cLine) (e1 : Y.A = A0) (e2 : Y.prog = P) (e3 : Y.w = w) (e4 : Y.K = K) : CallR Y (.builtin "repr") (rShow P w K) := by
  subst e1 e2 e3 e4
  exact call_show gd hu
/-- a dict of one text key and an int -/
theorem shown_dict1 {P : Program} {w : World} {K : PySem.W.Frag} {H : Hp} {a : Addr} {k : Str} {i : Int} (h : H a = some (.dK [(Sum.inr k, .int i)])) : Shown P w K H (.ref a) (.dict [(.str k, .int i)]) := fun X _ _ _ pins σ s u I r => by
  obtain rfl : u = Value.ref a := r
  obtain ⟨hz, hsys, vs, kv, o, es, ep, h1, h2, h3, h4, h5, h6⟩ := I.hok a _ h
  cases kv with
  | cons q r2 =>
    cases r2
    rename_i pr
    obtain ⟨pk, pv⟩ := pr
    obtain ⟨e1, t, e2⟩ := q
    dsimp only at e1 e2
    subst e1 e2
    have hes : ∃ e, es.toList = [e] ∧ keyIs (Sum.inr k) e.key = true ∧ e.val = .int i t := by
      cases hE : es.toList with
      | nil => rw [hE] at h5; cases h5
      | cons e rest =>
        rw [hE] at h5
        cases h5 with
        | cons p1 p2 p3 =>
          cases p3
          exact ⟨e, rfl, p1, p2⟩
    obtain ⟨e, hE, hk, hv⟩ := hes
    obtain ⟨tk, ek⟩ := Value.isStrOf_shape (x := k) (v := e.key) hk
    refine ⟨_, Reads.dict h1 h2.1 h3 (as := []) (bs := []) ?_ ?_, fun _ m => ?_⟩
    · rw [hE]
      show ReadsAll _ [e.key] _ _
      rw [ek]
      exact ReadsAll.cons (as := []) (bs := []) (Reads.str _ _) .nil
    · rw [hE]
      show ReadsAll _ [e.val] _ _
      rw [hv]
      exact ReadsAll.cons (as := []) (bs := []) (Reads.int _ _) .nil
    · have q : sysModules = a := by simpa using m
      rw [q] at hsys
      simp at hsys
end
/-! ### the law's own call: no display is under way there -/
section
variable {P : Program} {w : World} {K : PySem.W.Frag} {mg mb : Str → Option Value} {k : Nat} {fa a : Addr} {fd : FuncData} {x : Str} {sp : Sp} {s : Shared} {vs : List Value} {ns : List Int}
theorem lawG (inK : K.In s.heap) (gl : s.heap.Ns mainGlobals mg) (bl : s.heap.Ns builtinsNs mb) (blt : ∀ y : Str, y ≠ "__name__" → mb y = bootBuiltins y) (noLim : s.heap.NoLimit) (gens : s.gens = #[])
    (obj : s.heap.get? a = some { cls := .type "list", data := .seq vs.toArray }) (nums : IntsAre vs ns) (len : ns.length ≤ sizeLine) (room : Room k callerA)
    (F : ∀ base : Heap, K.In base → base.Ns mainGlobals mg → FnG P w K mg base CX0 k fa fd [x] sp) (bind : ∀ (s : Shared) (u : Value), BindsTo s fd ⟨[u], []⟩ [(x, u)])
    (want : ∀ H : Hp, SqL K H a (ns.map V.int) → sp [.ref a] H (fun v _ => v = .bl true) fun _ _ _ => False) :
    codeAny (model P w) callerA (.call (.ref fa) ⟨[.ref a], []⟩) (fun r s' => r = .ok (.ret (.bool true)) ∧ OldK s.heap s'.heap ∧ s'.os = s.os ∧ AllBare s'.gens) s := by
  have rel := vals_ints nums
  have main : ∀ H : Hp, SqL K H a (ns.map V.int) → HOk P w H s.heap → (∀ b u, H b = some u → b = a ∧ K.lookup a = none ∧ ∃ o xs, u = .frz o (.lst xs)) →
      codeAny (model P w) callerA (.call (.ref fa) ⟨[.ref a], []⟩) (fun r s' => r = .ok (.ret (.bool true)) ∧ OldK s.heap s'.heap ∧ s'.os = s.os ∧ AllBare s'.gens) s := by
    intro H sq ok only
    have isDict : ∀ {b : Addr} {o : Obj} {es : Array DictEntry} {n : Nat}, s.heap.get? b = some o → o.data = .dict es n → H b = none := by
      intro b o es n g d
      cases hb : H b with
      | none => rfl
      | some u =>
        obtain ⟨rfl, _, _⟩ := only b u hb
        rw [obj] at g
        cases g
        cases (show Data.seq vs.toArray _ = Data.dict es n from d)
    have ns' : ∀ {b : Addr} {m : Str → Option Value}, s.heap.Ns b m → (hidT s.heap H).Ns b m := fun ⟨o, es, n, g, d, r⟩ => ⟨o, es, n, hidT_get g (isDict g d), d, r⟩
    have inK' : K.In (hidT s.heap H) := fun b o g => hidT_get (inK b o g) (by
      cases hb : H b with
      | none => rfl
      | some u =>
        obtain ⟨rfl, q, _⟩ := only b u hb
        rw [q] at g
        cases g)
    obtain ⟨mc, c1, c2⟩ := noLim
    have env : Env0 P w K mg (hidT s.heap H) callerA [] s H := by
      constructor
      · rfl
      · exact ⟨inK', ns' gl, ⟨mb, ns' bl, blt⟩, ⟨mc, ns' c1, c2⟩⟩
      · exact fun b o g => of_hidT g
      · exact Nat.le_of_eq (hidT_size _ _)
      · trivial
      · intro b hb
        exact nomatch hb
      · exact ok
      · exact .of_eq gens
    have run := (F _ inK' (ns' gl)).goes callerA [] s H ⟨[.ref a], []⟩ [.ref a] [.ref a] _ _ room rfl env (bind s (.ref a)) (.cons rfl .nil) (want H sq)
    refine codeAny_mono run fun r s' out => ?_
    match r, out with
    | .error e, out => exact (show False from out).elim
    | .ok .next, out => exact (show False from out).elim
    | .ok .brk, out => exact (show False from out).elim
    | .ok .cont, out => exact (show False from out).elim
    | .ok (.ret u), ⟨v, H', os, bare, un, ok', rv, q⟩ =>
      subst q
      obtain rfl : u = Value.bool true := rv
      refine ⟨rfl, OldK.of_keep fun b o g => ?_, os, bare⟩
      cases hb : H b with
      | none => exact un.keep b o g hb (fun z => nomatch z) (fun z => nomatch z)
      | some u =>
        obtain ⟨_, _, ob, xs, rfl⟩ := only b u hb
        have g1 := (show s.heap.get? b = some ob from (ok b _ hb).1)
        have g2 := (show s'.heap.get? b = some ob from (ok' b _ (un.frzs b ob _ hb)).1)
        rw [g1] at g
        cases g
        exact g2
  cases hk : K.lookup a with
  | some o =>
    have g := inK a o hk
    rw [obj] at g
    cases g
    exact main (fun _ => none) (.inr ⟨_, vs.toArray, _, hk, rfl, rfl, rfl, by rw [List.size_toArray, nums.length]; exact len, by simpa using rel⟩) (fun b u z => nomatch z) fun b u z => nomatch z
  | none =>
    have at_a : ∀ {b : Addr} {u : HO}, (fun b => if b = a then some (HO.frz { cls := .type "list", data := .seq vs.toArray } (.lst (ns.map V.int))) else none) b = some u → b = a ∧ u = .frz { cls := .type "list", data := .seq vs.toArray } (.lst (ns.map V.int)) := by
      intro b u z
      dsimp only at z
      split at z
      · cases z
        exact ⟨by assumption, rfl⟩
      · cases z
    refine main (fun b => if b = a then some (.frz { cls := .type "list", data := .seq vs.toArray } (.lst (ns.map V.int))) else none) (.inl (.inr ⟨_, if_pos rfl⟩)) (fun b u z => ?_) fun b u z => ?_
    · obtain ⟨rfl, rfl⟩ := at_a z
      exact ⟨obj, by rw [List.length_map]; exact len, vs, _, rel, obj⟩
    · obtain ⟨rfl, rfl⟩ := at_a z
      exact ⟨rfl, hk, _, _, rfl⟩
/-- the end of a law's row -/
theorem walkG {l : PySem.W.OpenLaw} {n k : Nat} {q : Program} {loose : List Str} {XP : (Str → Option Value) → Heap → Prop} {YP : World → Heap → Prop} {d : DefRec} {K : Params → PySem.W.Frag} {sp : PySem.W.Frag → Sp} {x : Str}
    (most : l.most = some n) (small : n ≤ sizeLine) (noD : d.params.defaults = []) (room : Room k callerA) (inK : ∀ (w : World) (h : Heap), YP w h → (K w.params).In h)
    (F : ∀ (w : World) (mg : Str → Option Value) (fa : Addr) (h : Heap), (K w.params).In h → h.Ns mainGlobals mg → mg d.name = some (.ref fa) →
      ∃ fd : FuncData, (∀ (s : Shared) (u : Value), BindsTo s fd ⟨[u], []⟩ [(x, u)]) ∧ ∀ base : Heap, (K w.params).In base → base.Ns mainGlobals mg → FnG l.prog w (K w.params) mg base CX0 k fa fd [x] (sp (K w.params)))
    (want : ∀ (K : PySem.W.Frag) (H : Hp) (a : Addr) (ns : List Int), ns.length ≤ n → SqL K H a (ns.map V.int) → sp K [.ref a] H (fun v _ => v = .bl true) fun _ _ _ => False) :
    PySem.W.WalkO q loose XP YP l.row.toRowW d [] (fun f vs => PySem.call f vs) := by
  refine Att.attach_call most noD fun w s₀ s mg mb fa o pm cd doc a vs ns G Y _ _ _ named obj nums len gens => ?_
  have X := inK w _ Y
  obtain ⟨fd, bind, prom⟩ := F w mg fa _ X G.T.g named
  exact lawG X G.T.g G.T.b G.T.builtins G.T.nolimit gens obj nums (Nat.le_trans len small) room prom bind fun H sq => want _ H a ns len sq
end
end Gd
namespace Kx
open PySem
/-! An own error made by a call with keywords. -/
section
variable {M : Model} {A : Around} {E : Value → Shared → Prop} {h : Heap} {g : Array GenState} {d : Drawn} {t : Nat} {os : OsState}
variable {nm q : Str} {C N : Addr} {bs bm bmB : List Value} {hdct : Bool} {sn : List Str} {sub : List Value} {ab : Bool} {col : Option Bool} {dd : Option Addr} {k0 k1 k2 k3 k5 : Option Value} {B newId initId : String}
theorem newAsk (F : ExcBaseFacts B newId initId bmB) (has : ∀ X : String, bm.contains (.type X) = bmB.contains (.type X)) {pos : List Value} {kw : List (Str × Value)} {Q : Unit → Shared → Prop}
    (hC : h.get? C = some (excClassObj nm q C N bs bm hdct sn sub ab col dd k0 k1 k2 k3 k5 newId)) (want : Q () ⟨h, g, d, t, os⟩) : wpAny M A (checkBuiltinCall newId ⟨.ref C :: pos, kw⟩) Q E ⟨h, g, d, t, os⟩ := by
  have isB : (Value.ref C :: bm).contains (.type B) = true := by rw [List.contains_cons, has, F.hasB, Bool.or_true]
  have st := F.noStar
  simp only [checkBuiltinCall, F.newKind, F.newSplit, F.newRow]
  repeat (first
    | refine wpAny_loadPart_at hC ?_
    | (refine wpAny_isSubtype_exc hC ?_; rw [isB])
    | refine wpAny_staticBase_exc hC ?_
    | refine wpAny_madeBy_exc hC ?_
    | simp only [bne_self_eq_false, Bool.false_eq_true, if_false]
    | wp_step)
  exact want
theorem callAsk {pos : List Value} {kw : List (Str × Value)} {Q : Unit → Shared → Prop} (hC : h.get? C = some (excClassObj nm q C N bs bm hdct sn sub ab col dd k0 k1 k2 k3 k5 newId)) (want : Q () ⟨h, g, d, t, os⟩) :
    wpAny M A (checkBuiltinCall "type.__call__" ⟨.ref C :: pos, kw⟩) Q E ⟨h, g, d, t, os⟩ := by
  have f3 := tc_sub
  have isT : (⟨h, g, d, t, os⟩ : Shared).TypeIs (.ref C) "type" := ⟨_, hC, rfl⟩
  simp only [checkBuiltinCall, tc_kind, tc_split]
  repeat any_goals (first
    | assumption
    | with_reducible refine wpAny_loadPart_at hC ?_
    | wp_step)
end
section
variable {prog : Program} {w : World} {A : Around} {E : Value → Shared → Prop} {R : Result → Shared → Prop} {h : Heap} {g : Array GenState} {d : Drawn} {t : Nat} {os : OsState}
variable {nm q : Str} {C N : Addr} {bs bm bmB : List Value} {hdct : Bool} {sn : List Str} {sub : List Value} {ab : Bool} {col : Option Bool} {dd : Option Addr} {k0 k1 k2 k3 k5 : Option Value} {B newId initId : String}
theorem newMake (F : ExcBaseFacts B newId initId bmB) (has : ∀ X : String, bm.contains (.type X) = bmB.contains (.type X)) {pos : List Value} {kw : List (Str × Value)}
    (hC : h.get? C = some (excClassObj nm q C N bs bm hdct sn sub ab col dd k0 k1 k2 k3 k5 newId))
    (want : R (.ok (.ret (.ref (h.objs.size + 1)))) ⟨(h.push { cls := .type "tuple", data := .seq pos.toArray }).push { cls := .ref C, data := .fields #[.ref h.objs.size, .none, .none, .none, .bool false, .none] }, g, d, t, os⟩) (few : pos.length ≤ sizeLine) :
    codeAny (model prog w) A (.builtin newId ⟨.ref C :: pos, kw⟩) R ⟨h, g, d, t, os⟩ := by
  have en := F.ends
  have isB : (Value.ref C :: bm).contains (.type B) = true := by rw [List.contains_cons, has, F.hasB, Bool.or_true]
  have noA : (Value.ref C :: bm).contains (.type "AttributeError") = false := by rw [List.contains_cons, has, F.noAttr] <;> rfl
  have noN : (Value.ref C :: bm).contains (.type "NameError") = false := by rw [List.contains_cons, has, F.noName] <;> rfl
  apply codeAny_builtinAt F.entry
  unfold Builtin.«BaseException.__new__»
  apply wpAt_bind
  show wpAt _ _ _ (stack >>= _) _ _ _
  refine wpAt_bind (wpAt_stack fun p below => wpAt_of_wpAny ?_)
  wp_walk
  apply wpAt_of_wpAny
  rw [F.owner]
  repeat (first
    | with_reducible refine wpAny_madeHere_exc F.canon hC ?_
    | with_reducible refine wpAny_loadPart_at hC ?_
    | (with_reducible refine wpAny_isSubtype_exc hC ?_; first | rw [isB] | rw [noA] | rw [noN])
    | wp_step)
  show R _ _
  rw [Heap.size_push]
  exact want
theorem typeCall (F : ExcBaseFacts B newId initId bmB) (has : ∀ X : String, bm.contains (.type X) = bmB.contains (.type X)) {pos : List Value} {kw : List (Str × Value)} {fI : Addr} {Q : Fin → Shared → Prop}
    (hC : h.get? C = some (excClassObj nm q C N bs bm hdct sn sub ab col dd k0 k1 k2 k3 k5 newId)) (ini : W.Looks (model prog w) h (typeLookup (.ref C) "__init__") (some (.ref fI)))
    (bnd : ∀ self, W.Looks (model prog w) h (bindSpecial (.ref fI) self) (.ref fI, [self])) (few : pos.length ≤ sizeLine)
    (want : codeAny (model prog w) A (.call (.ref fI) ⟨.ref (h.objs.size + 1) :: pos, kw⟩) (fun r s' => match r with | .ok (.ret v) => v = .none ∧ Q (.done (.ret (.ref (h.objs.size + 1)))) s' | .ok _ => False | .error e => E e s')
      ⟨(h.push (W.kdv_tup pos)).push (HandSPX.excO C h.objs.size), g, d, t, os⟩) : wpAny (model prog w) A (Builtin.«type.__call__» ⟨.ref C :: pos, kw⟩) Q E ⟨h, g, d, t, os⟩ := by
  repeat (first | with_reducible refine wpAny_loadPart_at hC ?_ | with_reducible refine wpAny_madeBy_exc hC ?_ | wp_step)
  refine codeAny_call_builtin_code (Code.quiet_builtin _ F.quiet) (newAsk F has hC ?_)
  refine newMake F has hC ?_ few
  show wpAny _ _ _ _ _ _
  have keep : ∀ b o, h.get? b = some o → ((h.push (W.kdv_tup pos)).push (HandSPX.excO C h.objs.size)).get? b = some o := fun b o z => Heap.get?_push_of_some _ (Heap.get?_push_of_some _ z)
  have hC1 := keep _ _ hC
  have made : ((h.push (W.kdv_tup pos)).push (HandSPX.excO C h.objs.size)).get? (h.objs.size + 1) = some (HandSPX.excO C h.objs.size) := by heap_get
  have isC : (Value.ref C :: bm).contains (.ref C) = true := by simp
  have ini1 := ini.keeps keep
  have bnd1 := (bnd (.ref (h.objs.size + 1))).keeps keep
  unfold isInstance
  repeat (first | with_reducible refine wpAny_loadPart_at made ?_ | (with_reducible refine wpAny_isSubtype_exc hC1 ?_; rw [isC]) | wp_step)
  show wpAny _ _ (typeLookup (.ref C) _) _ _ _
  apply ini1.at
  refine wpAny_holding (wpAny_bind (bnd1.at ?_))
  refine wpAny_bind (wpAny_call (codeAny_mono want fun r s' z => ?_))
  rcases r with e | (v | _ | _ | _) <;> first | exact z | exact z.elim | skip
  obtain ⟨rfl, z⟩ := z
  first
    | exact wpAny_pure (wpAny_pure z)
    | (wp_walk; exact z)
theorem made (F : ExcBaseFacts B newId initId bmB) (has : ∀ X : String, bm.contains (.type X) = bmB.contains (.type X)) {pos : List Value} {kw : List (Str × Value)} {fI : Addr}
    (hC : h.get? C = some (excClassObj nm q C N bs bm hdct sn sub ab col dd k0 k1 k2 k3 k5 newId)) (ini : W.Looks (model prog w) h (typeLookup (.ref C) "__init__") (some (.ref fI)))
    (bnd : ∀ self, W.Looks (model prog w) h (bindSpecial (.ref fI) self) (.ref fI, [self])) (few : pos.length ≤ sizeLine)
    (want : codeAny (model prog w) (A.under (.builtin "type.__call__" ⟨.ref C :: pos, kw⟩)) (.call (.ref fI) ⟨.ref (h.objs.size + 1) :: pos, kw⟩) (W.InitBack (h.objs.size + 1) R) ⟨(h.push (W.kdv_tup pos)).push (HandSPX.excO C h.objs.size), g, d, t, os⟩) :
    codeAny (model prog w) A (.call (.ref C) ⟨pos, kw⟩) R ⟨h, g, d, t, os⟩ := by
  have f1 := tc_lookup
  have f2 := tc_bind (.ref C)
  have isT : (⟨h, g, d, t, os⟩ : Shared).TypeIs (.ref C) "type" := ⟨_, hC, rfl⟩
  apply codeAny_of_tree
  show wpAny _ _ (callAny (.ref C) _) _ _ _
  repeat any_goals (first
    | assumption
    | with_reducible refine wpAny_loadPart_at hC ?_
    | wp_step)
  refine ⟨rfl, ?_⟩
  refine codeAny_call_builtin_at (Code.quiet_builtin _ (by decide +kernel)) entry_typeCall (callAsk hC (typeCall F has hC ini bnd few ?_))
  refine codeAny_mono want fun r s' z => ?_
  rcases r with e | (v | _ | _ | _) <;> exact z
end
end Kx
namespace Er
open PySem PySem.Spec PyProof.Rows L2
open PySem.W (fnX envX)
/-! The errors of the package: each __init__ says super().__init__('..'), then keeps a copy of what it was given. -/
/-- the form of such an __init__ -/
structure Form (st : Stmt) (par field : Str) : Prop where
  kind : (defScope st).kind = .function
  co : (defScope st).isCoroutine = false
  gen : (defScope st).isGenerator = false
  nocell : ∀ y ∈ (defScope st).names, y.2 ≠ .cell
  free : ∀ y ∈ (defScope st).names, y.2 = .free → y.1 = "__class__"
  lself : (defScope st).names.lookup ("self" : Str) = some .local
  lpar : (defScope st).names.lookup par = some .local
  lsuper : (defScope st).names.lookup ("super" : Str) = some .globalImplicit
  lcopied : (defScope st).names.lookup ("copied" : Str) = some .globalImplicit
  lclass : (defScope st).names.lookup ("__class__" : Str) = some .free
  first : ∃ pos, ((defArgs st).posonlyargs ++ (defArgs st).args).head? = some { arg := "self", annotation := none, pos := pos }
  ne : ("self" : Str) ≠ par
  nod : (par == ("__debug__" : Str)) = false
  noc : (par == ("__classdict__" : Str)) = false
  bnd : ∀ (qual : Str) (cl : List (Str × Addr)) (kV doc pm : Value) (an : Option Addr) (cdv ct u1 u2 : Value), bindArgs (fnX "__init__" qual (defArgs st) (defBody st) (defScope st) cl .none kV doc pm an cdv ct) ⟨[u1, u2], []⟩ = pure [(("self" : Str), u1), (par, u2)]
  bndK : ∀ (qual : Str) (cl : List (Str × Addr)) (kV doc pm : Value) (an : Option Addr) (cdv ct u1 u2 : Value), bindArgs (fnX "__init__" qual (defArgs st) (defBody st) (defScope st) cl .none kV doc pm an cdv ct) ⟨[u1], [(par, u2)]⟩ = pure [(("self" : Str), u1), (par, u2)]
  body : ∃ (msg : Str) (j : Nat) (p0 p1 p2 p3 p4 p5 q1 q2 q3 q4 q5 q6 : Pos), (p2.endLine == p4.line) = true ∧ msg.length ≤ sizeLine ∧ defBody st =
    [.Expr (.Call (.Attribute (.Call (.Name "super" p0) [] [] p1) "__init__" p2) [.Constant (.str msg) j p3] [] p4) p5,
     .Assign [.Attribute (.Name "self" q1) field q2] (.Call (.Name "copied" q3) [.Name par q4] [] q5) q6]
/-- what the written part holds of the class at C: its __init__ at fI, the cell with the class at cc -/
structure Txt (P : Program) (K : PySem.W.Frag) (st : Stmt) (qual field : Str) (C fI cc : Addr) : Prop where
  oex : OexC K C
  init : ∃ (oc : Value) (od : Option Addr) (osl : Array (Option Value)) (kV doc pm : Value) (an : Option Addr) (cda : Addr) (ct : Value),
    K.lookup fI = some ⟨oc, od, .func (fnX "__init__" qual (defArgs st) (defBody st) (defScope st) [("__class__", cc)] .none kV doc pm an (.ref cda) ct), osl⟩ ∧ PySem.W.codeIn K (.ref cda) qual = true ∧
    ∃ (ccl : Value) (cdd : Option Addr) (vs : Array Value) (ccs : Array (Option Value)) (file : Str) (tf : Tok), K.lookup cda = some ⟨ccl, cdd, .fields vs, ccs⟩ ∧ vs[2]? = some (.str file tf) ∧ ((P.main.file : Str) == file) = true
  cell : ∃ (cl : Value) (cld : Option Addr) (csl : Array (Option Value)), K.lookup cc = some ⟨cl, cld, .cell (some (.ref C)), csl⟩
  sup : PySem.W.ks_superIn K C C "__init__" = some (some (.builtin "ValueError.__init__"))
  self : PySem.W.mroIn K C (.ref C) = some true
  plain : PySem.W.nsIn K PySem.cStatics "thirdparty.any" = some none
  isVE : PySem.W.subIn K (.ref C) (.type "ValueError") = some true
  noF : PySem.W.findIn K (.ref C) field = some none
  top : (P.main.scope.names.lookup ("super" : Str)).isSome = false
section
variable {P : Program} {w : World} {K : PySem.W.Frag} {mg : Str → Option Value} {base : Heap}
/-- the frame of the __init__ -/
def cxI (P : Program) (w : World) (K : PySem.W.Frag) (mg : Str → Option Value) (base : Heap) (par qual : Str) (scope : Scope) (f cc cda : Addr) (A : Around) (outer : List Env) (s : Shared) (H : Hp) (xe : Value → Shared → Prop) : Cx where
  prog := P
  w := w
  K := K
  mg := mg
  base := base
  A := A.deeper (envX qual scope s.heap.objs.size f (.ref cda) [("__class__", cc)])
  N := ["self", par]
  s_0 := s
  H_0 := H
  env := envX qual scope s.heap.objs.size f (.ref cda) [("__class__", cc)]
  outer := outer
  stack := envX qual scope s.heap.objs.size f (.ref cda) [("__class__", cc)] :: outer
  ex := []
  fn := fun _ => false
  calm := true
  pn := []
  xe := xe
theorem lookup1 {cc : Addr} {y : Str} {c : Addr} (h : List.lookup y [(("__class__" : Str), cc)] = some c) : y = "__class__" ∧ c = cc := by
  simp only [List.lookup] at h
  split at h
  · rename_i e
    cases h
    exact ⟨by simpa using e, rfl⟩
  · cases h
theorem inv_init {st : Stmt} {par field qual : Str} {C f cc cda : Addr} {A : Around} {outer : List Env} {s : Shared} {H : Hp} {xe : Value → Shared → Prop} {u1 u2 : Value} {v1 v2 : V} {h1 : Heap} {tk : Nat} (S : Form st par field) (T : Txt P K st qual field C f cc) (hd : A.handled = none)
    (e0 : Env0 P w K mg base A outer s H) (r1 : RelV v1 u1) (r2 : RelV v2 u2) (ns : h1.Ns s.heap.objs.size (fun x => [(("self" : Str), u1), (par, u2)].reverse.lookup x)) (keep : ∀ b o, s.heap.get? b = some o → h1.get? b = some o) :
    Inv (cxI P w K mg base par qual (defScope st) f cc cda A outer s H xe) [] [some v1, some v2] H { s with heap := h1, toks := tk } := by
  obtain ⟨cl, cld, csl, hcell⟩ := T.cell
  have hc : s.heap.get? cc = some ⟨cl, cld, .cell (some (.ref C)), csl⟩ := (e0.bs _ _ (e0.mod.kin _ _ hcell)).1
  have hcn : H cc = none := (e0.bs _ _ (e0.mod.kin _ _ hcell)).2
  have nomem : ∀ b : Addr, b ∉ (cxI P w K mg base par qual (defScope st) f cc cda A outer s H xe).ex := fun b z => nomatch z
  constructor
  · constructor
    · exact e0.mod
    · exact S.kind
    · rfl
    · rfl
    · exact Nat.le_refl _
    · intro x y c h1 h2
      rw [(lookup1 h1).1, (lookup1 h2).1]
    · intro x hx
      rcases hx with hx | hx
      · exact absurd rfl (S.nocell _ (PySem.mem_of_lookup hx))
      · have q := S.free _ (PySem.mem_of_lookup hx) rfl
        dsimp only at q
        subst q
        exact ⟨cc, rfl⟩
    · intro x c h
      cases h
    · intro _
      exact hd
    · exact Around.frames_deeper e0.frames
    · exact .inr ⟨rfl, rfl⟩
    · intro b z
      exact absurd z (nomem b)
    · exact e0.bs
    · exact e0.bsz
    · intro b o _
      exact nomem b
    · intro b z
      exact absurd z (nomem b)
    · exact e0.funs
    · exact e0.frf
  · rfl
  · exact e0.bare
  · exact Un.kept keep
  · refine ⟨_, ns, fun i x v e1 e2 e3 => ?_⟩
    match i, e1, e2 with
    | 0, e1, e2 =>
      cases e1
      cases e2
      refine ⟨u1, r1, .inl ⟨S.lself, ?_⟩⟩
      have q : (("self" : Str) == par) = false := by simpa using S.ne
      simp [List.lookup, q]
    | 1, e1, e2 =>
      cases e1
      cases e2
      exact ⟨u2, r2, .inl ⟨S.lpar, by simp [List.lookup]⟩⟩
    | i + 2, e1, e2 => cases e2
  · intro x c h
    obtain ⟨_, rfl⟩ := lookup1 (show List.lookup x [(("__class__" : Str), cc)] = some c from h)
    exact ⟨_, _, keep _ _ hc, rfl⟩
  · exact e0.hok.fresh (Nat.le_refl _)
  · intro x c h
    obtain ⟨_, rfl⟩ := lookup1 (show List.lookup x [(("__class__" : Str), cc)] = some c from h)
    exact hcn
  · intro p hp
    exact nomatch hp
  · exact e0.hok.kept keep
  · rfl
theorem mc_eq (env : Env) (msg : Str) (j : Nat) (p0 p1 p2 p3 p4 : Pos) (h : (p2.endLine == p4.line) = true) : eval (.Call (.Attribute (.Call (.Name "super" p0) [] [] p1) "__init__" p2) [.Constant (.str msg) j p3] [] p4) env = (do
      let ov ← attributeBase (.Call (.Name "super" p0) [] [] p1) "__init__" env (eval (.Call (.Name "super" p0) [] [] p1) env)
      standAt p2.atName
      let (f, first) ← holding [ov] (getMethod ov "__init__" (do return (← importBound (.Call (.Name "super" p0) [] [] p1) env).getD true))
      callWith p4 f first (backTo p4 (starEach [.Constant (.str msg) j p3] env)) []) := by
  have e : methodCallPos true (.Call (.Name "super" p0) [] [] p1) env p2 p4 = pure p4 := by
    unfold methodCallPos
    rw [h]
    rfl
  show (do
      let ov ← attributeBase (.Call (.Name "super" p0) [] [] p1) "__init__" env (eval (.Call (.Name "super" p0) [] [] p1) env)
      standAt p2.atName
      let (f, first) ← holding [ov] (calleeOf true (.Call (.Name "super" p0) [] [] p1) env ov "__init__")
      let callPos ← methodCallPos true (.Call (.Name "super" p0) [] [] p1) env p2 p4
      callWith callPos f first (backTo p4 (starEach [.Constant (.str msg) j p3] env)) []) = _
  simp only [e, pure_bind]
  rfl
/-- ValueError.__init__ of the object at e, bound: called with a text -/
theorem call_bound {X : Cx} {pins : List (Addr × Obj)} {σ : L2.St} {H : Hp} {s : Shared} {C e u : Addr} {us : List Value} {Q : Value → Shared → Prop} (T : OexC X.K C) (I : Inv X pins σ H s) (he : H e = some (exo e C none))
    (hu : s.heap.get? u = some (PySem.W.kxs_mw "ValueError.__init__" e)) (few : us.length ≤ sizeLine) (hq : ∀ s', Inv X pins σ H s' → Q .none s') : wpAny (model X.prog X.w) X.A (call (.ref u) us) Q X.xe s := by
  obtain ⟨nm, q, N, bs, bm, sn, sub, ab, col, dd, k0, k1, k2, k3, k5, hC, hbm⟩ := T.cls
  obtain ⟨t1, ho⟩ := exo_at I.hok he
  have inC := I.kIn _ _ hC
  obtain ⟨hp, g, dr, tk, os⟩ := s
  apply wpAny_call
  apply codeAny_of_tree
  show wpAny _ X.A.in1 (callAny (.ref u) ⟨us, []⟩) _ _ _
  simp only [callAny]
  refine wpAny_bind (wpAny_load hu ?_)
  have y1 : (Value.type "method-wrapper" == Value.type "method" || Value.type "method-wrapper" == Value.type "builtin_function_or_method" || Value.type "method-wrapper" == Value.type "method-wrapper") = true := by decide
  simp only [PySem.W.kxs_mw, y1, if_true]
  refine PySem.W.KFB.if_so (by decide) ?_
  refine wpAny_bind (PySem.W.check_bound_init F.excBase_ValueError.toExcCallFacts inC ho rfl ?_)
  refine wpAny_bind (wpAny_pure (wpAny_pure ?_))
  refine ⟨plainId_quiet F.excBase_ValueError.init.plain _, codeAny_builtin F.excBase_ValueError.initEntry ?_⟩
  refine PySem.W.exc_init_tree (cls := .ref C) (t0 := t1) (dv := none) (c2 := .none) (c3 := .none) (b4 := .bool false) ho few fun h' keep hx ht => ?_
  have J := I.write (t' := tk) (x := e) (e := e) (o := exo e C none) (by rw [he]; exact True.intro) (.inl rfl) keep ⟨_, hx⟩ (exo_ok hx)
  have same : upd H e (exo e C none) = H := by
    funext b
    by_cases hb : b = e
    · rw [hb, upd_same, he]
    · rw [upd_ne hb]
  rw [same] at J
  exact hq _ J
theorem super_stmt {st : Stmt} {par field qual : Str} {C f cc cda e : Addr} {A : Around} {outer : List Env} {s0 s : Shared} {H0 H : Hp} {xe : Value → Shared → Prop} {v2 : V} {body : List Stmt} {msg : Str} {j : Nat} {p0 p1 p2 p3 p4 p5 : Pos} {Q : Flow → Shared → Prop}
    (S : Form st par field) (T : Txt P K st qual field C f cc) (gS : mg "super" = none) (look : ∃ (oc : Value) (od : Option Addr) (osl : Array (Option Value)) (kV doc pm : Value) (an : Option Addr) (ct : Value),
      K.lookup f = some ⟨oc, od, .func (fnX "__init__" qual (defArgs st) (defBody st) (defScope st) [("__class__", cc)] .none kV doc pm an (.ref cda) ct), osl⟩)
    (lookc : ∃ (ccl : Value) (cdd : Option Addr) (vs : Array Value) (ccs : Array (Option Value)) (file : Str) (tf : Tok), K.lookup cda = some ⟨ccl, cdd, .fields vs, ccs⟩ ∧ vs[2]? = some (.str file tf) ∧ ((P.main.file : Str) == file) = true)
    (I : Inv (cxI P w K mg base par qual (defScope st) f cc cda A outer s0 H0 xe) [] [some (.ref e), some v2] H s) (he : H e = some (exo e C none)) (hline : (p2.endLine == p4.line) = true)
    (hq : ∀ s', Inv (cxI P w K mg base par qual (defScope st) f cc cda A outer s0 H0 xe) [] [some (.ref e), some v2] H s' → Q .next s') :
    PySem.wpAt (model P w) (A.deeper (envX qual (defScope st) s0.heap.objs.size f (.ref cda) [("__class__", cc)])) (.func body (envX qual (defScope st) s0.heap.objs.size f (.ref cda) [("__class__", cc)]))
      (exec (.Expr (.Call (.Attribute (.Call (.Name "super" p0) [] [] p1) "__init__" p2) [.Constant (.str msg) j p3] [] p4) p5) (envX qual (defScope st) s0.heap.objs.size f (.ref cda) [("__class__", cc)])) Q xe s := by
  obtain ⟨oc, od, osl, kV, doc, pm, an, ct, look⟩ := look
  obtain ⟨ccl, cdd, cvs, ccs, file, tf, lookc, hfile, hmain⟩ := lookc
  obtain ⟨cl, cld, csl, hcell⟩ := T.cell
  obtain ⟨fpos, hfirst⟩ := S.first
  obtain ⟨nm, q, N, bs, bm, sn, sub, ab, col, dd, k0, k1, k2, k3, k5, hC, hbm⟩ := T.oex.cls
  obtain ⟨t1, ho⟩ := exo_at I.hok he
  have inK : K.In s.heap := I.kIn
  obtain ⟨m, hns, hl⟩ := I.loc
  obtain ⟨u0, ru0, lk0⟩ := hl 0 "self" (.ref e) rfl rfl (.inl S.lself)
  obtain rfl : u0 = Value.ref e := ru0
  have hself : m "self" = some (.ref e) := by
    rcases lk0 with ⟨_, z⟩ | ⟨z, _⟩
    · exact z
    · rcases z with z | z
      · have z' : (defScope st).names.lookup ("self" : Str) = some .cell := z
        rw [S.lself] at z'
        cases z'
      · have z' : (defScope st).names.lookup ("self" : Str) = some .free := z
        rw [S.lself] at z'
        cases z'
  obtain ⟨mb, hb1, hb2⟩ := I.mod.blt
  have hD1 := inK _ _ hC
  refine ks_wpAt_Expr_any (ks_wpAt_MethodCall ?_ (mc_eq _ msg j p0 p1 p2 p3 p4 hline)) (by simp [interactive, S.kind])
  refine ks_wpAt_super_base (env := envX qual (defScope st) s0.heap.objs.size f (.ref cda) [("__class__", cc)]) S.lsuper S.lclass (by decide) rfl (inK _ _ look) rfl hfirst rfl (inK _ _ lookc) rfl hfile hmain T.top ?_
  refine PySem.W.ks_loadName_global S.kind S.lsuper (Calls.loadGlobal_builtin (env := envX qual (defScope st) s0.heap.objs.size f (.ref cda) [("__class__", cc)]) (I.mod.glob.keeps I.bk) gS (hb1.keeps I.bk) ((hb2 _ (by decide)).trans (show bootBuiltins ("super" : Str) = some (.type "super") by decide +kernel)) ⟨rfl, ?_⟩)
  refine wpAny_loadName_free S.kind S.lclass rfl ⟨_, inK _ _ hcell, rfl⟩ ?_
  refine wpAny_loadName_local S.kind S.lself hns hself ?_
  obtain ⟨hp, g, dr, tk, os⟩ := s
  refine ks_wpAny_isType_cls hD1 rfl ⟨rfl, ?_⟩
  refine ks_wpAny_call_super hD1 rfl ho rfl (fun c z => nomatch z) (PySem.W.looks_mroIn inK T.self) (fun h1 hso keep1 => ?_)
  have I1 : Inv (cxI P w K mg base par qual (defScope st) f cc cda A outer s0 H0 xe) [] [some (.ref e), some v2] H ⟨h1, g, dr, tk, os⟩ := I.kept (t' := tk) keep1
  have inK1 : K.In h1 := I1.kIn
  have hx1 := keep1 _ _ ho
  have hcl : PySem.W.clsIn K C = some { name := nm, bases := bs, mro := .ref C :: bm, ns := N, qualname := q, hasDict := true, slotNames := sn, subclasses := sub, abstract := ab, collection := col, hasDel := false } := by
    unfold PySem.W.clsIn
    rw [hC] <;> rfl
  have inst : PySem.W.InstAt h1 e { cls := .ref C, dict := none, data := .fields #[.ref t1, .none, .none, .none, .bool false, .none] } C none := ⟨hx1, rfl, rfl, True.intro⟩
  have along := T.sup
  unfold PySem.W.ks_superIn at along
  rw [hcl] at along
  refine PySem.W.kxs_getMethod PySem.W.kxs_ValueError hso (PySem.W.looks_opaque inK1 T.plain) (l₀ := .ref C :: bm) ((PySem.W.looks_clsIn inK1 hcl).andThen .now) rfl inK1 along (inst.type.andThen (PySem.W.looks_subIn inK1 T.isVE)) (PySem.W.ks_ne inK1 inst hcl) (by decide) ?_
  have keep2 : ∀ b o, h1.get? b = some o → (h1.push (PySem.W.kxs_mw "ValueError.__init__" e)).get? b = some o := fun b o z => Heap.get?_push_of_some _ z
  have I2 : Inv (cxI P w K mg base par qual (defScope st) f cc cda A outer s0 H0 xe) [] [some (.ref e), some v2] H ⟨h1.push (PySem.W.kxs_mw "ValueError.__init__" e), g, dr, tk + 1, os⟩ := I1.kept (t' := tk + 1) keep2
  have pinned : ∀ p ∈ (cxI P w K mg base par qual (defScope st) f cc cda A outer s0 H0 xe).pn ++ [(h1.objs.size, PySem.W.kxs_mw "ValueError.__init__" e)], (h1.push (PySem.W.kxs_mw "ValueError.__init__" e)).get? p.1 = some p.2 ∧ H p.1 = none ∧
      p.1 ≠ (cxI P w K mg base par qual (defScope st) f cc cda A outer s0 H0 xe).env.locals ∧ p.1 ∉ (cxI P w K mg base par qual (defScope st) f cc cda A outer s0 H0 xe).fs ∧ ∀ v, p.2.data ≠ .cell v := by
    intro p hp
    have hp' : p = (h1.objs.size, PySem.W.kxs_mw "ValueError.__init__" e) := by simpa [cxI] using hp
    subst hp'
    exact ⟨Heap.get?_push_size h1 rfl, I1.hok.fresh (Nat.le_refl _), Ne.symm (Nat.ne_of_lt I1.lt), I1.nofs (Nat.le_refl _), fun v z => nomatch z⟩
  have I3 : Inv (cxI P w K mg base par qual (defScope st) f cc cda A outer s0 H0 xe) [(h1.objs.size, PySem.W.kxs_mw "ValueError.__init__" e)] [some (.ref e), some v2] H ⟨h1.push (PySem.W.kxs_mw "ValueError.__init__" e), g, dr, tk + 1, os⟩ := { I2 with pin := pinned }
  refine PySem.W.kxs_callWith (i := "ValueError.__init__") (x := e) rfl ?_
  apply Calls.evalArgs_plain
  refine thn ((pa_cons pe_str pa_nil : PA (cxI P w K mg base par qual (defScope st) f cc cda A outer s0 H0 xe) [.Constant (.str msg) j p3] _).run p4 _ _ _ H (fun vs H' => H' = H ∧ vs = [.str msg]) I3 ⟨rfl, rfl⟩) fun us s3 out => ?_
  obtain ⟨vs, H3, I4, r3, rfl, rfl⟩ := out
  have hu := (I4.pin (h1.objs.size, PySem.W.kxs_mw "ValueError.__init__" e) (by simp)).1
  refine ⟨hu, ?_⟩
  have len : us.length = 1 := (Paired.length r3).symm
  exact call_bound T.oex I4 he hu (by rw [List.nil_append, len, sizeLine_eq]; decide) fun s' J => hq s' { J with pin := fun p hp => J.pin p (by simp [cxI] at hp) }
/-- what the __init__ leaves: spc is the copying's promise -/
def spInit (C : Addr) (field : Str) (spc : Sp) : Sp := fun vs H Q _ => ∃ (e : Addr) (v : V), vs = [.ref e, v] ∧ H e = some (exo e C none) ∧
  spc [v] H (fun v' H' => H' e = some (exo e C none) ∧ ∀ dx, H' dx = none → dx ≠ e → Q .non (upd (upd H' dx (exd dx [(field, v')])) e (exo e C (some dx)))) E0
theorem ok_init {st : Stmt} {par field qual : Str} {C fI cc fC : Addr} {fdC : FuncData} {kc : Nat} {spc : Sp} (S : Form st par field) (T : Txt P K st qual field C fI cc) (FC : FnOk P w K mg base CX0 kc fC fdC ["value"] spc) (gC : mg "copied" = some (.ref fC))
    (kC : PySem.W.keepIn K (.ref fC) = true) (bC : Binds K fdC ["value"] []) (gS : mg "super" = none)
    (mono : ∀ (vs : List V) (H : Hp) (Q Q' : VK) (E : XK), (∀ v H', Q v H' → Q' v H') → spc vs H Q E → spc vs H Q' E) : ∃ fd : FuncData, FnOk P w K mg base CX0 (kc + 2) fI fd ["self", par] (spInit C field spc) ∧
      (∀ (s : Shared) (u1 u2 : Value), BindsTo s fd ⟨[u1, u2], []⟩ [(("self" : Str), u1), (par, u2)]) ∧ ∀ (s : Shared) (u1 u2 : Value), BindsTo s fd ⟨[u1], [(par, u2)]⟩ [(("self" : Str), u1), (par, u2)] := by
  obtain ⟨oc, od, osl, kV, doc, pm, an, cda, ct, look, code, ccl, cdd, cvs, ccs, file, tf, lookc, hfile, hmain⟩ := T.init
  obtain ⟨cl, cld, csl, hcell⟩ := T.cell
  obtain ⟨fpos, hfirst⟩ := S.first
  obtain ⟨msg, j, p0, p1, p2, p3, p4, p5, q1, q2, q3, q4, q5, q6, hline, few, hbody⟩ := S.body
  obtain ⟨nm, q, N, bs, bm, sn, sub, ab, col, dd, k0, k1, k2, k3, k5, hC, hbm⟩ := T.oex.cls
  refine ⟨fnX "__init__" qual (defArgs st) (defBody st) (defScope st) [("__class__", cc)] .none kV doc pm an (.ref cda) ct, ⟨fun vs H Q E ⟨e, v, h, _⟩ => by rw [h] <;> rfl, fun A outer s H args us vs Q E room e0 bnd rel want => ?_⟩, fun s u1 u2 => .of_eq (S.bnd qual _ kV doc pm an _ ct u1 u2), fun s u1 u2 => .of_eq (S.bndK qual _ kV doc pm an _ ct u1 u2)⟩
  obtain ⟨e, v, rfl, he, hwant⟩ := want
  cases rel with
  | cons r1 rest =>
    cases rest with
    | cons r2 nil_ =>
      cases nil_
      rename_i u1 u2
      obtain rfl : u1 = Value.ref e := r1
      have inK : K.In s.heap := e0.mod.kin.keeps fun b o z => (e0.bs b o z).1
      have noLim : s.heap.NoLimit := e0.mod.nolimit.keeps fun b o z => (e0.bs b o z).1
      refine ks_codeAny_call_defAt (body := defBody st) (binds := [(("self" : Str), Value.ref e), (par, u2)]) room.depth (inK _ _ look) rfl noLim (PySem.W.codeRec_of inK code) rfl bnd S.nocell ?_ (fun h1 ns keep => ?_) S.co S.gen S.kind
      · intro y hy
        rcases List.mem_cons.mp hy with rfl | hy
        · exact S.lself
        · rw [List.mem_singleton] at hy
          rw [hy]
          exact S.lpar
      · show PySem.wpAt (model P w) (A.deeper (envX qual (defScope st) s.heap.objs.size fI (.ref cda) [("__class__", cc)])) (.func (defBody st) (envX qual (defScope st) s.heap.objs.size fI (.ref cda) [("__class__", cc)])) (execs (defBody st) (envX qual (defScope st) s.heap.objs.size fI (.ref cda) [("__class__", cc)])) _ _ _
        have I := fun xe => inv_init (mg := mg) (base := base) (C := C) (cda := cda) (tk := s.toks + [(("self" : Str), Value.ref e), (par, u2)].length) (xe := xe) S T room.hd e0 (v1 := .ref e) (v2 := v) rfl r2 ns keep
        rw [hbody]
        refine ks_wpAt_execs_cons (super_stmt S T gS ⟨oc, od, osl, kV, doc, pm, an, ct, look⟩ ⟨ccl, cdd, cvs, ccs, file, tf, lookc, hfile, hmain⟩ (I _) he hline fun s' J => ?_)
        refine wpAt_of_wpAny ?_
        have deep := room.deeper (envX qual (defScope st) s.heap.objs.size fI (.ref cda) [("__class__", cc)])
        refine wpAny_mono ((pss_one (ps_ost (pe_var (i := 0) rfl (.inl S.lself)) (pe_call FC (deep.mono (Nat.le_succ _)) (by exact S.lcopied) gC kC bC .nil pass0 (pa_cons (pe_var (i := 1) rfl (.inl S.lpar) S.nod S.noc) pa_nil)))).run [] s' _ H { nx := fun _ H' => Q .non H', rt := Q } J ?_) (fun fl s2 out => ?_) fun e s2 out => out
        · refine ⟨_, rfl, mono [v] H _ _ _ (fun v' H' ⟨g1, g2⟩ => ?_) hwant⟩
          exact ⟨_, rfl, e, C, rfl, T.oex, T.noF, .inl ⟨g1, g2⟩⟩
        · match fl, out with
          | .ret u, ⟨v, σ', H', J, rv, q⟩ => exact ⟨v, H', J.os, J.bare, J.base, J.hok, rv, q⟩
          | .next, ⟨σ', H', J, q⟩ => exact ⟨V.non, H', J.os, J.bare, J.base, J.hok, rfl, q⟩
          | .brk, ⟨_, _, _, q⟩ => exact q.elim
          | .cont, ⟨_, _, _, q⟩ => exact q.elim
end
end Er
namespace Ca
open PySem PySem.Spec PyProof.Rows L2
/-! An error that is caught and kept as a value. -/
/-- such an error at a: its class, its dict -/
def CaO (cls : Value) (d : Option Addr) (a : Addr) : HO := .ext fun h => ∃ (o : Obj) (fs : Array Value), h.get? a = some o ∧ Zc cls d o ∧ o.data = .fields fs
section
variable {X : Cx} {pins : List (Addr × Obj)} {σ : L2.St} {H : Hp} {s : Shared} {a : Addr} {cls : Value} {d : Option Addr} {o : Obj} {fs : Array Value}
theorem caO_ok {P : Program} {w : World} {h : Heap} (at_ : h.get? a = some o) (z : Zc cls d o) (f : o.data = .fields fs) : ObjOk P w H h a (CaO cls d a) :=
  ⟨⟨o, fs, at_, z, f⟩, ⟨o, at_⟩, fun _ _ ⟨o', fs', e, q⟩ st => ⟨o', fs', st _ e, q⟩⟩
/-- from now on it is looked after -/
theorem tracked (I : Inv X pins σ H s) (at_ : s.heap.get? a = some o) (z : Zc cls d o) (f : o.data = .fields fs) (un : H a = none) (nl : a ≠ X.env.locals) (new : X.s_0.heap.get? a = none) (apart : ∀ p ∈ X.pn ++ pins, p.1 ≠ a) :
    Inv X pins σ (upd H a (CaO cls d a)) s := by
  have other : ∀ {b : Addr} {u : HO}, H b = some u → upd H a (CaO cls d a) b = some u := fun {b u} e => by
    rw [upd_ne (ne_of_none e un)]
    exact e
  refine ⟨I.ok, I.os, I.bare, ⟨I.base.keep, I.base.slot, fun b u e n nx => ?_, I.base.there, fun b xs e => other (I.base.tups b xs e), fun b u v e => other (I.base.frzs b u v e), fun b ps e => ?_⟩, I.loc, I.cell, ?_, fun y c e => ?_, fun p hp => ?_, fun b u e => ?_, I.len⟩
  · have ba : b ≠ a := fun q => by rw [q, new] at e; cases e
    rw [upd_ne ba]
    exact I.base.free b u e n nx
  · obtain ⟨m, q⟩ := I.base.tbls b ps e
    exact ⟨m, other q⟩
  · rw [upd_ne (Ne.symm nl)]
    exact I.free
  · have ca : c ≠ a := fun q => by
      obtain ⟨v, oc, e1, e2⟩ := I.cell y c e
      rw [q, at_] at e1
      cases e1
      rw [f] at e2
      cases e2
    rw [upd_ne ca]
    exact I.freeC y c e
  · obtain ⟨e1, e2, e3⟩ := I.pin p hp
    exact ⟨e1, by rw [upd_ne (apart p hp)]; exact e2, e3⟩
  · by_cases ba : b = a
    · subst ba
      rw [upd_same] at e
      cases e
      exact caO_ok at_ z f
    · rw [upd_ne ba] at e
      exact (I.hok b u e).stay (fun _ _ _ q => q) (fun c q => other q) fun c xs q => other q
end
/-- what such a clause wishes: as wAs, and the error stays known behind it -/
def wKeep (K : PySem.W.Frag) (c : Value) (i len : Nat) (ts : Addr → Value → Option Addr → TS) (out : WX) (D : Ends) : WX := fun cls d σ H =>
  ∃ hit, PySem.W.exmOne K cls c = some hit ∧ (hit = false → out cls d σ H) ∧
    (hit = true → σ.length = len → ∀ a, H a = none → ts a cls d ⟨fun σ' H' => H' a = none → D.nx (σ'.set i none) (upd H' a (CaO cls d a)), fun v H' => H' a = none → D.rt v (upd H' a (CaO cls d a)),
      fun σ' H' => H' a = none → D.bk (σ'.set i none) (upd H' a (CaO cls d a)), fun σ' H' => H' a = none → D.ct (σ'.set i none) (upd H' a (CaO cls d a))⟩ (σ.set i (some (.ref a))) H)
section
variable {X : Cx} {cn n : Str} {c : Value} {i : Nat} {body rest : List Stmt} {st₀ : Stmt} {pc ph pt : Pos} {tb : WX → TS} {ts : Addr → Value → Option Addr → TS} {out : WX}
theorem ps_try_keep (stk : X.stack = X.env :: X.outer) (fr : X.env.frame = some X.env.locals) (nd : X.N.Nodup) (slot : X.N[i]? = some n) (loc : X.env.kindOf n = some .local) (names : Names X cn c) (noex : X.ex = []) (leave : Takes X out)
    (hbody : ∀ (W : WX) (pn : List (Addr × Obj)) (xe : Value → Shared → Prop), Takes (X.tr pn xe) W → PassesOwn (model X.prog X.w) X.A X.env xe → PSs (X.tr pn xe) body (tb W))
    (hsuite : ∀ (a : Addr) (o : Obj) (cls : Value) (d : Option Addr) (pn : List (Addr × Obj)), Zc cls d o → (∃ fs, o.data = .fields fs) → PSs (X.suite a ((a, o) :: pn)) (st₀ :: rest) (ts a cls d)) :
    PS X (.Try body [.ExceptHandler (some (.Name cn pc)) (some n) (st₀ :: rest) ph] [] [] pt) (fun D σ H => tb (wKeep X.K c i X.N.length ts out D) D σ H) := by
  constructor
  intro pins s σ H D I h
  have ok := I.ok
  have frames : X.A.frames = some (X.env :: X.outer) := by rw [ok.frames, stk]
  apply wpAny_Try_except
  apply wpAny_mono ((hbody (wKeep X.K c i X.N.length ts out D) (X.pn ++ pins)
    (fun err t₁ => wpAny (model X.prog X.w) X.A (noteFrame err X.env) (fun _ t₂ => wpAny (model X.prog X.w) X.A (setFlight err none) (fun _ t₃ => wpAny (model X.prog X.w) X.A
      (handleBy err X.env [.ExceptHandler (some (.Name cn pc)) (some n) (st₀ :: rest) ph]) (SP X pins D) X.xe t₃) X.xe t₂) X.xe t₁)
    (fun u t air => ?caught) PassesOwn.looking).run [] s σ H D (I.toTry _) h)
  case caught =>
    obtain ⟨a, B, sI, qs, σ₁, H₁, cls, d, rfl, J₀, ground, up, sky, un, os, bare, hit, isHit, no, yes⟩ := air
    have J : Inv X pins σ₁ H₁ sI := J₀.ofTry ok
    have sky₁ : Sky B (X.env :: X.outer) a (Zc cls d) X.env.locals t.heap := by
      rw [← stk]
      exact sky
    show wpAny (model X.prog X.w) X.A (noteFrame (.ref a) X.env) _ _ _
    refine Sky.land Zc.steady frames fr sky₁ fun g₁ fly₁ upg₁ => ?_
    have J₁ : Inv X pins σ₁ H₁ { t with heap := g₁ } := J.landed ground fly₁.1 (up.trans upg₁) os bare
    obtain ⟨o₁, fs₁, at₁, z₁, f₁⟩ := fly₁.there
    have offFrames : a ∉ frs (X.env :: X.outer) := fun m => by
      obtain ⟨_, o', e', nof⟩ := fly₁.2.2.1.mem m
      rw [at₁] at e'
      cases e'
      exact nof _ f₁
    have nl : a ≠ X.env.locals := fun q => offFrames (List.mem_filterMap.mpr ⟨X.env, List.mem_cons_self, by rw [fr, q]⟩)
    have nfs : a ∉ X.fs := fun m => by
      obtain ⟨en, he, q⟩ := List.mem_filterMap.mp m
      exact offFrames (List.mem_filterMap.mpr ⟨en, List.mem_cons_of_mem _ he, q⟩)
    have notYet : ∀ o, sI.heap.get? a = some o → False := fun o e => by
      have q := ground a o e (by rw [stk]; exact offFrames)
      rw [fly₁.2.1] at q
      cases q
    have new : X.s_0.heap.get? a = none := by
      cases e : X.s_0.heap.get? a with
      | none => rfl
      | some o =>
        obtain ⟨o', q⟩ := J.base.there a o e (by rw [noex]; exact fun z => nomatch z)
        exact (notYet o' q).elim
    have apart : ∀ p ∈ X.pn ++ pins, p.1 ≠ a := fun p hp q => notYet p.2 (by rw [← q]; exact (J.pin p hp).1)
    have S₁ := J₁.suite at₁ f₁ un nl nfs
    refine wpAny_handleBy_cons (codeAny_handlers_test ?_) (by intro q; cases q)
    have type : PySem.W.Looks (model X.prog X.w) g₁ (typeOf (.ref a)) cls := fun A' Q' E' t' k q => wpAny_typeOf_ref (k _ _ at₁) (by rw [z₁.1]; exact q)
    have looks := PySem.W.exm_one (M := model X.prog X.w) J₁.kIn type isHit
    have named : ∀ {Q : Value → Shared → Prop} {E : Value → Shared → Prop}, Q c { t with heap := g₁ } → wpAny (model X.prog X.w) (X.A.mark (some (.ref a))) (eval (.Name cn pc) X.env) Q E { t with heap := g₁ } := by
      intro Q E q
      obtain ⟨gl, nodebug, m | ⟨m, bv, nn⟩⟩ := names
      · exact ld_glob (X := X.suite a ((a, o₁) :: (X.pn ++ pins))) S₁ gl m q nodebug
      · exact ld_blt (X := X.suite a ((a, o₁) :: (X.pn ++ pins))) S₁ gl m bv q nn nodebug
    refine named (looks.here ?_)
    cases hit with
    | true =>
      apply codeAny_handlers_suite_as
      refine HandSPX.lands_againZ fly₁ fun g₂ fly₂ upg₂ => ?_
      have J₂ : Inv X pins σ₁ H₁ { t with heap := g₂ } := J.landed ground fly₂.1 ((up.trans upg₁).trans upg₂) os bare
      obtain ⟨o₂, fs₂, at₂, z₂, f₂⟩ := fly₂.there
      have S₂ := J₂.suite at₂ f₂ un nl nfs
      refine store_ok (X := X.suite a ((a, o₂) :: (X.pn ++ pins))) (v := .ref a) S₂ nd slot (.inl loc) rfl (fun t₅ S₅ => ?_) (.inr loc)
      refine wpAny_mono ((hsuite a o₂ cls d (X.pn ++ pins) z₂ ⟨_, f₂⟩).run [] t₅ _ H₁ _ S₅ (yes rfl J.len a un)) (fun fl t₆ sp => ?_) fun _ _ q => q.elim
      have leaves : ∀ {σ₆ : L2.St} {H₆ : Hp} {R : Shared → Prop}, Inv (X.suite a ((a, o₂) :: (X.pn ++ pins))) [] σ₆ H₆ t₆ → (H₆ a = none → ∀ t₇, Inv X pins (σ₆.set i none) (upd H₆ a (CaO cls d a)) t₇ → R t₇) →
          wpAny (model X.prog X.w) X.A (do bindName X.env n .none; unbindBehindTheSuite X.env n ph) (fun _ t₇ => R t₇) X.xe t₆ := by
        intro σ₆ H₆ R S₆ q
        obtain ⟨at₆, un₆, _⟩ := S₆.pin (a, o₂) (List.mem_append_left _ List.mem_cons_self)
        exact gone_ok (tracked (S₆.unsuite ok) at₆ z₂ f₂ un₆ nl new apart) nd slot loc (q un₆)
      cases fl with
      | next =>
        obtain ⟨σ₆, H₆, S₆, q⟩ := sp
        exact leaves S₆ fun u₆ t₇ J₇ => ⟨_, _, J₇, q u₆⟩
      | ret v =>
        obtain ⟨x, σ₆, H₆, S₆, r, q⟩ := sp
        exact leaves S₆ fun u₆ t₇ J₇ => ⟨_, _, _, J₇, r, q u₆⟩
      | brk =>
        obtain ⟨σ₆, H₆, S₆, q⟩ := sp
        exact leaves S₆ fun u₆ t₇ J₇ => ⟨_, _, J₇, q u₆⟩
      | cont =>
        obtain ⟨σ₆, H₆, S₆, q⟩ := sp
        exact leaves S₆ fun u₆ t₇ J₇ => ⟨_, _, J₇, q u₆⟩
    | false =>
      show wpAny _ X.A (handleBy (.ref a) X.env []) _ _ _
      apply wpAny_handleBy_nil
      obtain ⟨_, _, _, o₃, fs₃, T, oT, tb₃, at₃, _, f₃, n₃, _⟩ := id fly₁
      unfold PySem.passOn
      refine wpAny_bind (wpAny_field at₃ f₃ n₃ ?_)
      rw [if_neg (show ¬ ((Value.ref T == Value.none) = true) from by simp)]
      have onward : wpAny (model X.prog X.w) X.A (setFlight (.ref a) X.env.frame) (fun _ t₄ => wpAny (model X.prog X.w) X.A (throw (.ref a) : Sem Flow) (SP X pins D) X.xe t₄) X.xe { t with heap := g₁ } := by
        rw [fr]
        exact HandSPX.setFlight_upZ fly₁ fun g₄ held up₄ => wpAny_throw (leave _ _
          ⟨a, B, sI, pins, σ₁, H₁, cls, d, rfl, J, ground, (up.trans upg₁).trans up₄, .inr (.inr (by rw [stk]; exact held)), un, os, bare, no rfl⟩)
      first
        | exact wpAny_bind (wpAny_pure (wpAny_bind onward))
        | exact wpAny_bind onward
  · intro fl t sp
    cases fl with
    | next =>
      obtain ⟨σ₁, H₁, J, q⟩ := sp
      exact wpAny_execs_nil ⟨σ₁, H₁, J.ofTry ok, q⟩
    | ret v =>
      obtain ⟨x, σ₁, H₁, J, r, q⟩ := sp
      exact ⟨x, σ₁, H₁, J.ofTry ok, r, q⟩
    | brk =>
      obtain ⟨σ₁, H₁, J, q⟩ := sp
      exact ⟨σ₁, H₁, J.ofTry ok, q⟩
    | cont =>
      obtain ⟨σ₁, H₁, J, q⟩ := sp
      exact ⟨σ₁, H₁, J.ofTry ok, q⟩
  · exact fun _ _ q => q
end
end Ca
namespace Ev
open PySem PySem.Spec PyProof.Rows L2
/-! An error as a value: made, asked for its class, read. -/
/-- what the written part says of an error's class, so that its objects may be asked -/
structure ECls (K : PySem.W.Frag) (C : Addr) : Prop where
  exc : L2.ExcC K C
  gc : PySem.W.isClsIn K C = true
/-- an error of the class at C stands at a; fs are its attributes (none as yet: its dict is not there) -/
def ErrAt (H : Hp) (a C : Addr) (fs : Option (List (Str × V))) : Prop := (fs = none ∧ H a = some (exo a C none)) ∨ (fs = none ∧ H a = some (ExO (.ref C) a)) ∨ (∃ (dx : Addr) (l : List (Str × V)), fs = some l ∧ H a = some (exo a C (some dx)) ∧ H dx = some (exd dx l)) ∨
  (fs = none ∧ H a = some (Ca.CaO (.ref C) none a)) ∨ ∃ (dx : Addr) (l : List (Str × V)), fs = some l ∧ H a = some (Ca.CaO (.ref C) (some dx) a) ∧ H dx = some (.xd l)
theorem ErrAt.same {H H' : Hp} {a C : Addr} {fs : Option (List (Str × V))} (h : ErrAt H a C fs) (s : Same H H') : ErrAt H' a C fs := by
  rcases h with ⟨r, h⟩ | ⟨r, h⟩ | ⟨dx, l, r, h1, h2⟩ | ⟨r, h⟩ | ⟨dx, l, r, h1, h2⟩
  · exact .inl ⟨r, s _ _ h⟩
  · exact .inr (.inl ⟨r, s _ _ h⟩)
  · exact .inr (.inr (.inl ⟨dx, l, r, s _ _ h1, s _ _ h2⟩))
  · exact .inr (.inr (.inr (.inl ⟨r, s _ _ h⟩)))
  · exact .inr (.inr (.inr (.inr ⟨dx, l, r, s _ _ h1, s _ _ h2⟩)))
section
variable {X : Cx} {pins : List (Addr × Obj)} {σ : L2.St} {H : Hp} {s : Shared} {a C : Addr}
/-- the object of an error -/
theorem ErrAt.inst {fs : Option (List (Str × V))} (h : ErrAt H a C fs) (I : Inv X pins σ H s) : ∃ ox od, PySem.W.InstAt s.heap a ox C od ∧ ∀ l, fs = some l → ∃ (o : Obj) (mA : Str → Option Value), od = some o ∧ (∀ f, PySem.W.lookIn f o = some (mA f)) ∧ ∀ f, RelO (l.lookup f) (mA f) := by
  rcases h with ⟨r, h⟩ | ⟨r, h⟩ | ⟨dx, l, r, h1, h2⟩ | ⟨r, h⟩ | ⟨dx, l, r, h1, h2⟩
  · obtain ⟨t1, ho⟩ := exo_at I.hok h
    exact ⟨_, none, ⟨ho, rfl, rfl, True.intro⟩, fun l q => by rw [r] at q; cases q⟩
  · obtain ⟨⟨oe, vs, ho, hz, hd, _⟩, _, _⟩ := I.hok a _ h
    obtain ⟨oc, od, oda, osl⟩ := oe
    obtain ⟨z1, z2⟩ := hz
    dsimp only at z1 z2 hd
    subst z1 z2 hd
    exact ⟨_, none, ⟨ho, rfl, rfl, True.intro⟩, fun l q => by rw [r] at q; cases q⟩
  · obtain ⟨t1, ho⟩ := exo_at I.hok h1
    obtain ⟨mA, hns, rel⟩ := exd_at I.hok h2
    obtain ⟨od, hd, hl⟩ := lookIn_ns hns
    refine ⟨_, some od, ⟨ho, rfl, rfl, hd⟩, fun l' q => ?_⟩
    rw [r] at q
    cases q
    exact ⟨od, mA, rfl, hl, rel⟩
  · obtain ⟨⟨o, vs, ho, ⟨z1, z2⟩, hd⟩, _, _⟩ := I.hok a _ h
    obtain ⟨oc, od, oda, osl⟩ := o
    dsimp only at z1 z2 hd
    subst z1 z2 hd
    exact ⟨_, none, ⟨ho, rfl, rfl, True.intro⟩, fun l q => by rw [r] at q; cases q⟩
  · obtain ⟨⟨o, vs, ho, ⟨z1, z2⟩, hd⟩, _, _⟩ := I.hok a _ h1
    obtain ⟨oc, od, oda, osl⟩ := o
    dsimp only at z1 z2 hd
    subst z1 z2 hd
    obtain ⟨mA, hns, rel⟩ := I.hok dx _ h2
    obtain ⟨od, he, hl⟩ := lookIn_ns hns
    refine ⟨_, some od, ⟨ho, rfl, rfl, he⟩, fun l' q => ?_⟩
    rw [r] at q
    cases q
    exact ⟨od, mA, rfl, hl, rel⟩
/-- isinstance(e, c) -/
def rIsErr (K : PySem.W.Frag) : List V → Hp → VK → Prop := fun xs H Q => ∃ (a C : Addr) (fs : Option (List (Str × V))) (c : V) (u : Value) (b : Bool), xs = [.ref a, c] ∧ ErrAt H a C fs ∧ ECls K C ∧ ClsV c u ∧ PySem.W.kitOne K (.ref C) u = some b ∧ Q (.bl b) H
theorem call_isErr : CallR X (.builtin "isinstance") (rIsErr X.K) := by
  intro pins s σ H xs us Q I r h
  obtain ⟨a, C, fs, c, u, b, rfl, he, T, hc, e, q⟩ := h
  obtain ⟨u1, u2, rfl, r1, r2⟩ := vals2 r
  obtain rfl : u1 = Value.ref a := r1
  have e2 := hc.eq r2
  subst e2
  obtain ⟨ox, od, J, _⟩ := he.inst I
  have out : ∀ tk : Nat, EP X pins σ Q (.bool b) { s with toks := tk } := fun tk => ⟨.bl b, H, I.tok tk, rfl, q⟩
  have D := T.exc
  exact PySem.W.kia_one (PySem.W.kitx_exc T.gc D.hg D.hk D.hs D.ha D.hn D.ht D.hm) I.kIn J e (fun z => nomatch z) fun tk => out tk
/-- e.f -/
def tErrF (K : PySem.W.Frag) (f : Str) (te : TE) : TE := fun σ H Q => te σ H fun x H1 => ∃ (a C : Addr) (l : List (Str × V)) (v : V), x = .ref a ∧ ErrAt H1 a C (some l) ∧ XfC K C ∧ PySem.W.findIn K (.ref C) f = some none ∧ l.lookup f = some v ∧ Q v H1
theorem pe_errF {e : Expr} {te : TE} {pos : Pos} {f : Str} (he : PE X e te) (hb : attributeBase e f X.env (eval e X.env) = eval e X.env := by rfl) : PE X (.Attribute e f pos) (tErrF X.K f te) := by
  constructor
  intro pins s σ H Q I h
  refine attr_of hb (thn (he.run pins s σ H _ I h) fun u s1 hh => ?_)
  obtain ⟨x, H1, I1, rx, a, C, l, v, ex, ea, T, no, lk, q⟩ := hh
  subst ex
  obtain rfl : u = Value.ref a := rx
  obtain ⟨ox, od, J, hl⟩ := ea.inst I1
  obtain ⟨o, mA, rfl, look, rel⟩ := hl l rfl
  obtain ⟨u, hu, ru⟩ := RelO.some_of (v := v) (o := mA f) (by rw [← lk]; exact rel f)
  exact HandSPX.exc_get I1.kIn J T.ga T.gg T.exC (PySem.W.findObj_own T.hdC no rfl (by rw [look, hu])) (handed_of ru) ⟨v, H1, I1.tok _, ru, q⟩
/-- C(e) as a value: the new error at a, then its __init__ -/
def tMkE (C : Addr) (sp : Sp) (ta : TA) : TE := fun σ H Q => ta σ H fun vs H1 => ∃ v, vs = [v] ∧ ∀ a, H1 a = none → sp [.ref a, v] (upd H1 a (exo a C none)) (fun z H2 => z = .non ∧ Q (.ref a) H2) E0
variable {k : Nat} {fI : Addr} {fd : FuncData} {sp : Sp} {x par : Str} {p pos : Pos} {e : Expr} {ta : TA}
/-- the call behind the arguments; kw tells whether the one argument came by its name -/
theorem makeErr {Q : VK} {u : Value} {v : V} {us : List Value} {kw : List (Str × Value)} (T : OexC X.K C) (iC : PySem.W.findIn X.K (.ref C) "__init__" = some (some (.ref fI))) (tI : PySem.W.typeIn X.K (.ref fI) = some (.type "function"))
    (F : FnOk X.prog X.w X.K X.mg X.base CX0 k fI fd ["self", par] sp) (room : Room (k + 1) X.A) (few : us.length ≤ 1) (bind : ∀ (s : Shared) (u1 : Value), BindsTo s fd ⟨u1 :: us, kw⟩ [(("self" : Str), u1), (par, u)]) (I : Inv X pins σ H s) (ru : RelV v u)
    (want : ∀ a, H a = none → sp [.ref a, v] (upd H a (exo a C none)) (fun z H2 => z = .non ∧ Q (.ref a) H2) E0) : wpAny (model X.prog X.w) X.A (call (.ref C) us kw) (EP X pins σ Q) X.xe s := by
  obtain ⟨nm, q, N, bs, bm, sn, sub, ab, col, dd, k0, k1, k2, k3, k5, hC, hbm⟩ := T.cls
  obtain ⟨hp, g, dr, tk, os⟩ := s
  have up : hp.objs.size ≤ hp.objs.size + 1 := Nat.le_succ _
  have free : H (hp.objs.size + 1) = none := I.hok.fresh up
  have keep : ∀ b o, hp.get? b = some o → ((hp.push (PySem.W.kdv_tup us)).push (PySem.HandSPX.excO C hp.objs.size)).get? b = some o := fun b o z => Heap.get?_push_of_some _ (Heap.get?_push_of_some _ z)
  have made : ((hp.push (PySem.W.kdv_tup us)).push (PySem.HandSPX.excO C hp.objs.size)).get? (hp.objs.size + 1) = some (PySem.HandSPX.excO C hp.objs.size) := by heap_get
  have I2 : Inv X pins σ (upd H (hp.objs.size + 1) (exo (hp.objs.size + 1) C none)) ⟨(hp.push (PySem.W.kdv_tup us)).push (PySem.HandSPX.excO C hp.objs.size), g, dr, tk, os⟩ :=
    I.laid (t' := tk) (a := hp.objs.size + 1) (o := exo (hp.objs.size + 1) C none) (h' := (hp.push (PySem.W.kdv_tup us)).push (PySem.HandSPX.excO C hp.objs.size)) keep up (exo_ok made)
  have env : Env0 X.prog X.w X.K X.mg X.base (X.A.under (.builtin "type.__call__" ⟨.ref C :: us, kw⟩)) X.stack _ _ := I2.env0.make C us kw
  have run := F.run _ X.stack _ _ ⟨Value.ref (hp.objs.size + 1) :: us, kw⟩ [Value.ref (hp.objs.size + 1), u] [V.ref (hp.objs.size + 1), v] _ E0 (room.make C us kw) env (bind _ _) (.cons rfl (.cons ru .nil)) (want _ free)
  refine wpAny_call (Kx.made PySem.F.excBase_ValueError (fun Y => PySem.HandSPX.refsVE_contains Y bm hbm) (I.kIn _ _ hC) (PySem.W.looks_findIn I.kIn iC) (fun self => PySem.W.bind_fn I.kIn self tI) (Nat.le_trans few (by decide)) (codeAny_mono run fun r s' out => ?_))
  match r, out with
  | .error er, out => exact (show False from out).elim
  | .ok .next, out => exact (show False from out).elim
  | .ok .brk, out => exact (show False from out).elim
  | .ok .cont, out => exact (show False from out).elim
  | .ok (.ret z), out =>
    obtain ⟨v', H', J, rz, ez, q2⟩ := I2.after out
    subst ez
    exact ⟨rz, ⟨V.ref (hp.objs.size + 1), H', J, rfl, q2⟩⟩
theorem pe_mkE (T : OexC X.K C) (iC : PySem.W.findIn X.K (.ref C) "__init__" = some (some (.ref fI))) (tI : PySem.W.typeIn X.K (.ref fI) = some (.type "function")) (F : FnOk X.prog X.w X.K X.mg X.base CX0 k fI fd ["self", par] sp) (room : Room (k + 1) X.A)
    (bind : ∀ (s : Shared) (u1 u2 : Value), BindsTo s fd ⟨[u1, u2], []⟩ [(("self" : Str), u1), (par, u2)]) (hg : Gl X x) (hm : X.mg x = some (.ref C)) (ha : PA X [e] ta)
    (n1 : (x == ("__debug__" : Str)) = false := by decide) (n2 : starEach [e] X.env = (false, eval e X.env) :: starEach [] X.env := by rfl) (n3 : (backTo pos (starEach [] X.env)).any (·.1) = false := by rfl) : PE X (.Call (.Name x p) [e] [] pos) (tMkE C sp ta) := by
  constructor
  intro pins s σ H Q I h
  apply wpAny_Call_Name_kw
  apply ld_glob I hg hm _ n1
  apply PySem.W.callWith_K (h₀ := X.base) I.ok.mod.kin T.kC _ n2 n3
  refine thn (ha.run pos pins s σ H _ I h) fun us s1 ⟨vs, H1, I1, r1, v, ev, q1⟩ => ⟨I1.kIn, ?_⟩
  subst ev
  cases r1 with
  | cons rv rn =>
    cases rn
    exact makeErr T iC tI F room (Nat.le_refl 1) (fun s u1 => bind s u1 _) I1 rv q1
theorem pe_mkEk {kws : List Keyword} (T : OexC X.K C) (iC : PySem.W.findIn X.K (.ref C) "__init__" = some (some (.ref fI))) (tI : PySem.W.typeIn X.K (.ref fI) = some (.type "function")) (F : FnOk X.prog X.w X.K X.mg X.base CX0 k fI fd ["self", par] sp) (room : Room (k + 1) X.A)
    (bind : ∀ (s : Shared) (u1 u2 : Value), BindsTo s fd ⟨[u1], [(par, u2)]⟩ [(("self" : Str), u1), (par, u2)]) (hg : Gl X x) (hm : X.mg x = some (.ref C)) (hk : PK X kws ta) (all : (backToKw pos (keywordEach kws X.env)).all (·.1.isSome) = true := by rfl)
    (names : (backToKw pos (keywordEach kws X.env)).filterMap (·.1) = [par] := by rfl) (n1 : (x == ("__debug__" : Str)) = false := by decide)
    (n3 : ((backTo pos (starEach [] X.env)).any (·.1) || (backToKw pos (keywordEach kws X.env)).any (·.1.isNone)) = false := by rfl) : PE X (.Call (.Name x p) [] kws pos) (tMkE C sp ta) := by
  constructor
  intro pins s σ H Q I h
  apply wpAny_Call_Name_kw
  apply ld_glob I hg hm _ n1
  apply PySem.W.callWith_KW0 (h₀ := X.base) I.ok.mod.kin T.kC all _ n3
  refine thn (hk.run pos pins s σ H _ I h) fun us s1 ⟨vs, H1, I1, r1, v, ev, q1⟩ => ⟨I1.kIn, ?_⟩
  subst ev
  cases r1 with
  | cons rv rn =>
    cases rn
    rw [names]
    exact makeErr T iC tI F room (Nat.zero_le 1) (fun s u1 => bind s u1 _) I1 rv q1
end
end Ev
namespace Co
open PySem PySem.Spec PyProof.Rows L2
/-! copied(value): as data the same, lists and dicts and tuples made anew. -/
def Fl : V → PyData → Prop
  | .non, .none => True
  | .bl b, .bool c => b = c
  | .int i, .int j => i = j
  | .str x, .str y => x = y
  | _, _ => False
def one : Option (Str × Int) → List (Key × V)
  | none => []
  | some p => [(Sum.inr p.1, .int p.2)]
def oneD : Option (Str × Int) → List (PyData × PyData)
  | none => []
  | some p => [(.str p.1, .int p.2)]
/-- at v stands the datum d, fewer than n deep; a dict has one entry at most, a text and an int -/
def Cp (K : PySem.W.Frag) (H : Hp) : Nat → V → PyData → Prop
  | 0, _, _ => False
  | n + 1, v, d => Fl v d ∨ (∃ (a : Addr) (xs : List V) (ds : List PyData), v = .ref a ∧ d = .list ds ∧ SqL K H a xs ∧ xs.length ≤ 100 ∧ Paired (Cp K H n) xs ds) ∨
      (∃ (a : Addr) (xs : List V) (ds : List PyData), v = .ref a ∧ d = .tuple ds ∧ SqT K H a xs ∧ xs.length ≤ 100 ∧ Paired (Cp K H n) xs ds) ∨
      ∃ (a : Addr) (o : Option (Str × Int)), v = .ref a ∧ d = .dict (oneD o) ∧ H a = some (.dK (one o)) ∧ (o = none ∨ 0 < n)
theorem sameT {K : PySem.W.Frag} {H H' : Hp} {a : Addr} {xs : List V} (s : Same H H') (h : SqT K H a xs) : SqT K H' a xs := by
  rcases h with (h | ⟨o, h⟩) | h
  · exact .inl (.inl (s _ _ h))
  · exact .inl (.inr ⟨o, s _ _ h⟩)
  · exact .inr h
theorem Cp.same {K : PySem.W.Frag} {H H' : Hp} (s : Same H H') : ∀ {n : Nat} {v : V} {d : PyData}, Cp K H n v d → Cp K H' n v d
  | 0, _, _, h => h
  | n + 1, v, d, h => by
    rcases h with h | ⟨a, xs, ds, e1, e2, h, l, r⟩ | ⟨a, xs, ds, e1, e2, h, l, r⟩ | ⟨a, o, e1, e2, h, z⟩
    · exact .inl h
    · exact .inr (.inl ⟨a, xs, ds, e1, e2, s.seq h, l, L2.Paired.mapP r fun _ _ q => Cp.same s q⟩)
    · exact .inr (.inr (.inl ⟨a, xs, ds, e1, e2, sameT s h, l, L2.Paired.mapP r fun _ _ q => Cp.same s q⟩))
    · exact .inr (.inr (.inr ⟨a, o, e1, e2, s _ _ h, z⟩))
theorem Cp.flat {K : PySem.W.Frag} {H : Hp} {n : Nat} {v : V} {d : PyData} (h : Fl v d) : Cp K H (n + 1) v d := .inl h
/-- v is made of what is new in H' beside H -/
def CpN (K : PySem.W.Frag) (H H' : Hp) (n : Nat) (v : V) (d : PyData) : Prop := ∀ T : Hp, (∀ b o, H b = none → H' b = some o → T b = some o) → Cp K T n v d
theorem CpN.here {K : PySem.W.Frag} {H H' : Hp} {n : Nat} {v : V} {d : PyData} (h : CpN K H H' n v d) : Cp K H' n v d := h H' fun _ _ _ q => q
def spCopy (K : PySem.W.Frag) (n : Nat) : Sp := fun vs H Q _ => ∃ (v : V) (d : PyData), vs = [v] ∧ Cp K H n v d ∧ ∀ (H' : Hp) (v' : V), Same H H' → CpN K H H' n v' d → Q v' H'
theorem spCopy_mono {K : PySem.W.Frag} {n : Nat} (vs : List V) (H : Hp) (Q Q' : VK) (E : XK) (h : ∀ v H', Q v H' → Q' v H') : spCopy K n vs H Q E → spCopy K n vs H Q' E := fun ⟨v, d, e, c, k⟩ => ⟨v, d, e, c, fun H' v' s r => h _ _ (k H' v' s r)⟩
theorem cpInt {K : PySem.W.Frag} {H : Hp} {i : Int} : ∀ {n : Nat} {v : V}, Cp K H n v (.int i) → v = .int i
  | 0, _, h => h.elim
  | n + 1, v, h => by
    rcases h with h | ⟨_, _, _, _, e, _⟩ | ⟨_, _, _, _, e, _⟩ | ⟨_, _, _, e, _⟩
    · cases v <;> first | exact h.elim | skip
      rw [show _ = i from h]
    · cases e
    · cases e
    · cases e
theorem cpStr {K : PySem.W.Frag} {H : Hp} {i : Str} : ∀ {n : Nat} {v : V}, Cp K H n v (.str i) → v = .str i
  | 0, _, h => h.elim
  | n + 1, v, h => by
    rcases h with h | ⟨_, _, _, _, e, _⟩ | ⟨_, _, _, _, e, _⟩ | ⟨_, _, _, e, _⟩
    · cases v <;> first | exact h.elim | skip
      rw [show _ = i from h]
    · cases e
    · cases e
    · cases e
theorem flatTy {K : PySem.W.Frag} {H : Hp} : ∀ {v : V} {d : PyData}, Fl v d → ∃ t : String, TyX K H v (.type t) ∧ kitB t "list" = some false ∧ kitB t "tuple" = some false ∧ kitB t "dict" = some false
  | .non, .none, _ => ⟨"NoneType", .base .non, by decide +kernel, by decide +kernel, by decide +kernel⟩
  | .bl b, .bool _, _ => ⟨"bool", .base (.bl b), by decide +kernel, by decide +kernel, by decide +kernel⟩
  | .int i, .int _, _ => ⟨"int", .base (.int i), by decide +kernel, by decide +kernel, by decide +kernel⟩
  | .str x, .str _, _ => ⟨"str", .base (.str x), by decide +kernel, by decide +kernel, by decide +kernel⟩
theorem listTy {K : PySem.W.Frag} {H : Hp} {a : Addr} {xs : List V} (h : SqL K H a xs) : TyX K H (.ref a) (.type "list") := by
  rcases h with (h | ⟨o, h⟩) | ⟨o, vs, n, h, hc, _⟩
  · exact .base (.lst h)
  · exact .base (.frz h)
  · exact .kList h hc
theorem tupTy {K : PySem.W.Frag} {H : Hp} {a : Addr} {xs : List V} (h : SqT K H a xs) : TyX K H (.ref a) (.type "tuple") := by
  rcases h with (h | ⟨o, h⟩) | ⟨o, vs, n, h, hc, _⟩
  · exact .base (.tup h)
  · exact .fTuple h
  · exact .kTuple h hc
theorem ifT {A B : Prop} {c : Bool} (e : c = true) (h : A) : if c = true then A else B := by
  rw [if_pos e]
  exact h
theorem ifF {A B : Prop} {c : Bool} (e : c = false) (h : B) : if c = true then A else B := by
  rw [e, if_neg Bool.false_ne_true]
  exact h
theorem pairAt {F : V → PyData → Prop} {xs : List V} {ds : List PyData} (r : Paired F xs ds) : ∀ {i : Nat} {x : V}, xs[i]? = some x → ∃ d, ds[i]? = some d ∧ F x d := by
  induction r with
  | nil => intro i x h; cases h
  | cons h t ih =>
    intro i x e
    cases i with
    | zero => cases e; exact ⟨_, rfl, h⟩
    | succ i => exact ih e
theorem pairSnoc {F : V → PyData → Prop} {xs : List V} {ds : List PyData} {x : V} {d : PyData} (r : Paired F xs ds) (h : F x d) : Paired F (xs ++ [x]) (ds ++ [d]) := by
  induction r with
  | nil => exact .cons h .nil
  | cons q t ih => exact .cons q ih
theorem takeMore {l : List PyData} {i : Nat} {x : PyData} (h : l[i]? = some x) : l.take (i + 1) = l.take i ++ [x] := by
  rw [List.take_add_one, h] <;> rfl
def top (i : Nat) : Stmt := PySem.Challenge.pw_presumebooks_k50_known_costs.main.body.getD i (.Pass ⟨0, 0, 0, 0⟩)
abbrev sCopied : Stmt := top 2
theorem scCopied : FnScope ["value", "item", "key"] ["value"] (defScope sCopied) := ⟨rfl, rfl, rfl, by decide +kernel, rfl, by decide +kernel, by decide +kernel⟩
structure Bare (mg : Str → Option Value) : Prop where
  isi : mg "isinstance" = none
  list : mg "list" = none
  tuple : mg "tuple" = none
  dict : mg "dict" = none
section
variable {P : Program} {w : World} {K : PySem.W.Frag} {mg : Str → Option Value} {base : Heap}
theorem bList : bootBuiltins "list" = some (.type "list") := by decide +kernel
theorem bTuple : bootBuiltins "tuple" = some (.type "tuple") := by decide +kernel
theorem bDict : bootBuiltins "dict" = some (.type "dict") := by decide +kernel
theorem bIsi : bootBuiltins "isinstance" = some (.builtin "isinstance") := by decide +kernel
theorem ok_copied {f : Addr} {fd : FuncData} (F : Fun K "copied" "copied" sCopied f fd) (B : Bare mg) (gC : mg "copied" = some (.ref f)) (bC : Binds K fd ["value"] []) : ∀ n : Nat, FnOk P w K mg base CX0 n f fd ["value"] (spCopy K n)
  | 0 => ⟨fun _ _ _ _ ⟨_, _, _, h, _⟩ => h.elim, fun _ _ _ _ _ _ _ _ _ _ _ _ _ ⟨_, _, _, h, _⟩ => h.elim⟩
  | n + 1 => by
    have G := ok_copied F B gC bC n
    refine F.ok scCopied (fun vs H Q E h => ?_) (fun cdv A outer s H vs Q E hr h => ?_)
    · obtain ⟨v, d, rfl, _⟩ := h
      rfl
    · obtain ⟨v, d, rfl, c, k⟩ := h
      refine ⟨_, pss_cons (ps_if (pt_val (pe_callB call_isi (by rfl) B.isi bIsi (pa_cons (pv 0) (pa_cons (pe_bltn (v := .ty "list") (by rfl) B.list bList rfl) pa_nil))))
          (pss_one (ps_ret (pe_lc (own := [("item", 1)]) (g := gName 1) rfl scCopied.nd (pi_list (pv 0)) (blkOk_by (N := ["value", "item", "key"]) (sc := defScope sCopied) (by decide +kernel))
            (fun _ _ _ _ _ => pg_name (i := 1) scCopied.nd rfl (Or.inl rfl)) (fun _ _ _ _ _ => pts_nil) (fun _ _ _ _ _ => pe_call G hr (by rfl) gC F.kp bC .nil pass0 (pa_cons (pv 1) pa_nil))))) pss_nil)
        (pss_cons (ps_if (pt_val (pe_callB call_isi (by rfl) B.isi bIsi (pa_cons (pv 0) (pa_cons (pe_bltn (v := .ty "tuple") (by rfl) B.tuple bTuple rfl) pa_nil))))
          (pss_one (ps_ret (pe_callTy call_tuple_of (by rfl) B.tuple bTuple (pa_cons (pe_lc (own := [("item", 1)]) (g := gName 1) rfl scCopied.nd (pi_tup (pv 0)) (blkOk_by (N := ["value", "item", "key"]) (sc := defScope sCopied) (by decide +kernel))
            (fun _ _ _ _ _ => pg_name (i := 1) scCopied.nd rfl (Or.inl rfl)) (fun _ _ _ _ _ => pts_nil) (fun _ _ _ _ _ => pe_call G hr (by rfl) gC F.kp bC .nil pass0 (pa_cons (pv 1) pa_nil))) pa_nil)))) pss_nil)
        (pss_cons (ps_if (pt_val (pe_callB call_isi (by rfl) B.isi bIsi (pa_cons (pv 0) (pa_cons (pe_bltn (v := .ty "dict") (by rfl) B.dict bDict rfl) pa_nil))))
          (pss_one (ps_ret (pe_lock (pe_dc (own := [("key", 2)]) (g := gName 2) rfl scCopied.nd (pi_keys (pv 0)) (blkOk_by (N := ["value", "item", "key"]) (sc := defScope sCopied) (by decide +kernel))
            (fun _ _ _ _ _ => pg_name (i := 2) scCopied.nd rfl (Or.inl rfl)) (fun _ _ _ _ _ => pts_nil) (fun _ _ _ _ _ => pv 2)
            (fun _ _ _ _ _ => pe_call G hr (by rfl) gC F.kp bC .nil pass0 (pa_cons (pe_dget (hu_of hr) (pv 0) (pv 2) (fun _ _ => rfl)) pa_nil)))))) pss_nil)
        (pss_one (ps_ret (pv 0))))), ?_⟩
      -- a list's or a tuple's items, one behind the other
      have turn : ∀ (a D : Addr) (xs : List V) (ds : List PyData), xs.length ≤ 100 → H D = none → Paired (Cp K H n) xs ds → ∀ (i : Nat) (x : V) (H' : Hp), xs[i]? = some x →
          (∃ ys, ys.length = i ∧ H' D = some (.lst ys) ∧ Same H H' ∧ Paired (fun y d => ∀ T : Hp, (∀ b o, b ≠ D → H b = none → H' b = some o → T b = some o) → Cp K T n y d) ys (ds.take i)) →
          spCopy K n [x] H' (fun y H4 => ∃ acc, H4 D = some (.lst acc) ∧ acc.length < sizeLine ∧ ∃ ys, ys.length = i + 1 ∧ upd H4 D (.lst (acc ++ [y])) D = some (.lst ys) ∧ Same H (upd H4 D (.lst (acc ++ [y]))) ∧
            Paired (fun y' d => ∀ T : Hp, (∀ b o, b ≠ D → H b = none → upd H4 D (.lst (acc ++ [y])) b = some o → T b = some o) → Cp K T n y' d) ys (ds.take (i + 1))) E0 := by
        intro a D xs ds small hD pr i x H' hx ⟨ys, l1, l2, l3, l4⟩
        obtain ⟨dx, hdx, cx⟩ := pairAt pr hx
        have hi := (List.getElem?_eq_some_iff.mp hx).1
        refine ⟨x, dx, rfl, cx.same l3, fun H4 y s4 c4 => ⟨ys, s4 _ _ l2, ?_, ys ++ [y], ?_, upd_same, ?_, ?_⟩⟩
        · exact Nat.lt_of_le_of_lt (show ys.length ≤ 100 by omega) (by decide)
        · rw [List.length_append, l1]
          rfl
        · intro b o e
          rw [upd_ne (ne_of_none e hD)]
          exact s4 _ _ (l3 _ _ e)
        · rw [takeMore hdx]
          refine pairSnoc (L2.Paired.mapP l4 fun y' d' q T hT => q T fun b o nb h0 h1 => hT b o nb h0 ?_) (fun T hT => c4 T fun b o h0 h1 => ?_)
          · rw [upd_ne nb]
            exact s4 _ _ h1
          · have nb : b ≠ D := fun z => by rw [z, l2] at h0; cases h0
            exact hT b o nb (l3.free h0) (by rw [upd_ne nb]; exact h1)
      rcases c with c | ⟨a, xs, ds, rfl, rfl, sq, small, pr⟩ | ⟨a, xs, ds, rfl, rfl, sq, small, pr⟩ | ⟨a, o, rfl, rfl, hd, deep⟩
      · obtain ⟨t, ty, t1, t2, t3⟩ := flatTy (K := K) (H := H) c
        refine ⟨_, rfl, _, _, _, _, _, rfl, .ty "list", ty, kit_ty t1, _, rfl, ifF rfl ?_⟩
        refine ⟨_, rfl, _, _, _, _, _, rfl, .ty "tuple", ty, kit_ty t2, _, rfl, ifF rfl ?_⟩
        refine ⟨_, rfl, _, _, _, _, _, rfl, .ty "dict", ty, kit_ty t3, _, rfl, ifF rfl ?_⟩
        exact ⟨_, rfl, k _ _ (Same.refl H) fun T _ => .inl c⟩
      · refine ⟨_, rfl, _, _, _, _, _, rfl, .ty "list", listTy sq, kit_ty (r := true) (by decide +kernel), _, rfl, ifT rfl ?_⟩
        refine ⟨_, rfl, a, rfl, ⟨_, sq⟩, fun D hD => lc_list (K := K) (a := a) (xs := xs)
          (fun i H' => ∃ ys, ys.length = i ∧ H' D = some (.lst ys) ∧ Same H H' ∧ Paired (fun y d => ∀ T : Hp, (∀ b o, b ≠ D → H b = none → H' b = some o → T b = some o) → Cp K T n y d) ys (ds.take i))
          ⟨[], rfl, upd_same, fun b o e => by rw [upd_ne (ne_of_none e hD)]; exact e, .nil⟩ (fun i H' _ ⟨_, _, _, s, _⟩ => s.seq sq) (fun i x H' hx inv => ⟨rfl, ?_⟩) (fun H' ⟨ys, l1, l2, l3, l4⟩ => ?_)⟩
        · exact ⟨_, rfl, turn a D xs ds small hD pr i x H' hx inv⟩
        · have full : ds.take xs.length = ds := by rw [pr.length, List.take_length]
          rw [full] at l4
          exact k _ _ l3 fun T hT => .inr (.inl ⟨D, ys, ds, rfl, rfl, .inl (.inl (hT _ _ hD l2)), by omega, L2.Paired.mapP l4 fun y d q => q T fun b o _ h0 h1 => hT b o h0 h1⟩)
      · refine ⟨_, rfl, _, _, _, _, _, rfl, .ty "list", tupTy sq, kit_ty (r := false) (by decide +kernel), _, rfl, ifF rfl ?_⟩
        refine ⟨_, rfl, _, _, _, _, _, rfl, .ty "tuple", tupTy sq, kit_ty (r := true) (by decide +kernel), _, rfl, ifT rfl ?_⟩
        refine ⟨_, rfl, a, rfl, ⟨_, sq⟩, fun D hD => lc_tup (K := K) (a := a) (xs := xs)
          (fun i H' => ∃ ys, ys.length = i ∧ H' D = some (.lst ys) ∧ Same H H' ∧ Paired (fun y d => ∀ T : Hp, (∀ b o, b ≠ D → H b = none → H' b = some o → T b = some o) → Cp K T n y d) ys (ds.take i))
          ⟨[], rfl, upd_same, fun b o e => by rw [upd_ne (ne_of_none e hD)]; exact e, .nil⟩ (fun i H' _ ⟨_, _, _, s, _⟩ => sameT s sq) (fun i x H' hx inv => ⟨rfl, ?_⟩) (fun H' ⟨ys, l1, l2, l3, l4⟩ => ?_)⟩
        · exact ⟨_, rfl, turn a D xs ds small hD pr i x H' hx inv⟩
        · have full : ds.take xs.length = ds := by rw [pr.length, List.take_length]
          rw [full] at l4
          refine ⟨D, ys, rfl, .inl ⟨.inl (.inl l2), fun l hl => k _ _ (fun b o e => ?_) fun T hT => .inr (.inr (.inl ⟨l, ys, ds, rfl, rfl, .inl (.inl (hT _ _ (l3.free hl) upd_same)), by omega, L2.Paired.mapP l4 fun y d q => q T fun b o _ h0 h1 => hT b o h0 ?_⟩))⟩⟩
          · have z := l3 _ _ e
            rw [upd_ne (ne_of_none z hl)]
            exact z
          · rw [upd_ne (ne_of_none h1 hl)]
            exact h1
      · refine ⟨_, rfl, _, _, _, _, _, rfl, .ty "list", .base (.dK hd), kit_ty (r := false) (by decide +kernel), _, rfl, ifF rfl ?_⟩
        refine ⟨_, rfl, _, _, _, _, _, rfl, .ty "tuple", .base (.dK hd), kit_ty (r := false) (by decide +kernel), _, rfl, ifF rfl ?_⟩
        refine ⟨_, rfl, _, _, _, _, _, rfl, .ty "dict", .base (.dK hd), kit_ty (r := true) (by decide +kernel), _, rfl, ifT rfl ?_⟩
        refine ⟨a, _, hd, True.intro, fun od => ⟨_, rfl, a, od, rfl, .inl ⟨_, upd_same, fun D hD => ?_⟩⟩⟩
        have hDa : D ≠ a := fun z => by rw [z, upd_same] at hD; cases hD
        have hD0 : H D = none := by rw [upd_ne hDa] at hD; exact hD
        -- what stands behind the display, the lock let go
        have fin : ∀ H' : Hp, Same (upd H a (.frz od (.dK (one o)))) H' → H' D = some (.dK (one o)) → H' a = some (.frz od (.dK (one o))) ∧ Q (.ref D) (upd H' a (.dK (one o))) := by
          intro H' s hD'
          refine ⟨s _ _ upd_same, k _ _ (fun b u e => ?_) fun T hT => .inr (.inr (.inr ⟨D, o, rfl, rfl, hT _ _ hD0 (by rw [upd_ne hDa]; exact hD'), deep⟩))⟩
          by_cases hb : b = a
          · rw [hb, upd_same, ← hd, ← hb]
            exact e
          · rw [upd_ne hb]
            exact s _ _ (by rw [upd_ne hb]; exact e)
        cases o with
        | none =>
          refine ⟨fun i m H' => i = 0 ∧ Same (upd H a (.frz od (.dK (one none)))) H' ∧ H' D = some (.dK []), ⟨0, rfl, fun b u e => ?_, upd_same⟩, fun i m H' ⟨e0, s, hD'⟩ => .inl ⟨⟨s _ _ upd_same, Nat.zero_le _⟩, fin H' s hD'⟩⟩
          rw [upd_ne (ne_of_none e hD)]
          exact e
        | some p =>
          refine ⟨fun i m H' => m = 1 - i ∧ i ≤ 1 ∧ Same (upd H a (.frz od (.dK (one (some p))))) H' ∧ H' D = some (.dK ((one (some p)).take i)), ⟨1, rfl, Nat.zero_le _, fun b u e => ?_, upd_same⟩, fun i m H' ⟨em, i1, s, hD'⟩ => ?_⟩
          · rw [upd_ne (ne_of_none e hD)]
            exact e
          · match i, i1, em, hD' with
            | 1, _, _, hD' => exact .inl ⟨⟨s _ _ upd_same, Nat.le_refl _⟩, fin H' s hD'⟩
            | 0, _, em, hD' =>
              refine .inr ⟨⟨s _ _ upd_same, Nat.zero_lt_one⟩, fun H2 => Same (upd H a (.frz od (.dK (one (some p))))) H2 ∧ H2 D = some (.dK (one (some p))), fun H2 ⟨s2, q2⟩ => ⟨0, by omega, rfl, Nat.le_refl _, s2, q2⟩, fun x H2 y => ?_⟩
              obtain ⟨rfl, ky, vy, e1, rfl⟩ := y
              cases e1
              have n0 : 0 < n := by
                rcases deep with z | z
                · cases z
                · exact z
              have val : valV (one (some p)) (Sum.inr p.1) = some (.int p.2) := by simp [one, valV]
              obtain ⟨n', rfl⟩ : ∃ n', n = n' + 1 := ⟨n - 1, by omega⟩
              refine ⟨rfl, _, rfl, _, rfl, _, rfl, a, .int p.2, rfl, .inl ⟨_, Sum.inr p.1, .inr ⟨od, s _ _ upd_same⟩, rfl, val.symm⟩, .int p.2, .int p.2, rfl, .inl rfl, fun H5 v' s5 c5 => ?_⟩
              obtain rfl := cpInt c5.here
              refine ⟨[], Sum.inr p.1, rfl, s5 _ _ hD', Nat.lt_of_le_of_lt (Nat.zero_le 1) (by decide), fun b u e => ?_, ?_⟩
              · rw [upd_ne (ne_of_none e hD)]
                exact s5 _ _ (s _ _ e)
              · rw [upd_same]
                simp [one, putK]
end
end Co
namespace Ow
open PySem PySem.Spec PyProof.Rows L2 Ev Er Co
/-! The errors that keep a value, and those that keep none, as the callers see them. -/
theorem weaken {X : Cx} {e : Expr} {t t' : TE} (h : PE X e t) (i : ∀ σ H Q, t' σ H Q → t σ H Q) : PE X e t' := ⟨fun pins s σ H Q I z => h.run pins s σ H Q I (i σ H Q z)⟩
structure OwnE (P : Program) (w : World) (K : PySem.W.Frag) (mg : Str → Option Value) (base : Heap) (n k : Nat) (name par field : Str) (C : Addr) : Prop where
  ex : ∃ (fI : Addr) (fd : FuncData), FnOk P w K mg base CX0 k fI fd ["self", par] (spInit C field (spCopy K n)) ∧ PySem.W.findIn K (.ref C) "__init__" = some (some (.ref fI)) ∧ PySem.W.typeIn K (.ref fI) = some (.type "function") ∧
    (∀ (s : Shared) (u1 u2 : Value), BindsTo s fd ⟨[u1, u2], []⟩ [(("self" : Str), u1), (par, u2)]) ∧ ∀ (s : Shared) (u1 u2 : Value), BindsTo s fd ⟨[u1], [(par, u2)]⟩ [(("self" : Str), u1), (par, u2)]
  oex : OexC K C
  xf : XfC K C
  no : PySem.W.findIn K (.ref C) field = some none
  g : mg name = some (.ref C)
/-- the new error, as told to the caller -/
def tNewErr (K : PySem.W.Frag) (n : Nat) (C : Addr) (field : Str) (ta : TA) : TE := fun σ H Q => ta σ H fun vs H1 => ∃ (v : V) (d : PyData), vs = [v] ∧ Cp K H1 n v d ∧
  ∀ (H' : Hp) (a : Addr) (v' : V), Same H1 H' → H1 a = none → ErrAt H' a C (some [(field, v')]) → Cp K H' n v' d → Q (.ref a) H'
def tFieldOf (K : PySem.W.Frag) (n : Nat) (ta : TA) : TE := fun σ H Q => ta σ H fun vs H1 => ∃ (v : V) (d : PyData), vs = [v] ∧ Cp K H1 n v d ∧ ∀ (H' : Hp) (v' : V), Same H1 H' → Cp K H' n v' d → Q v' H'
theorem initRd {K : PySem.W.Frag} {n : Nat} {C : Addr} {field : Str} {H : Hp} {v : V} {d : PyData} {Q : VK} (c : Cp K H n v d) (q : ∀ (H' : Hp) (a : Addr) (v' : V), Same H H' → H a = none → ErrAt H' a C (some [(field, v')]) → Cp K H' n v' d → Q (.ref a) H') :
    ∀ a, H a = none → spInit C field (spCopy K n) [.ref a, v] (upd H a (exo a C none)) (fun z H2 => z = .non ∧ Q (.ref a) H2) E0 := by
  intro a ha
  have s0 : Same H (upd H a (exo a C none)) := fun b o e => by
    rw [upd_ne (ne_of_none e ha)]
    exact e
  refine ⟨a, v, rfl, upd_same, v, d, rfl, c.same s0, fun H' v' s cn => ⟨s _ _ upd_same, fun dx hdx ne => ⟨rfl, q _ a v' (fun b o e => ?_) ha (.inr (.inr (.inl ⟨dx, _, rfl, upd_same, ?_⟩))) (cn _ fun b o h0 h1 => ?_)⟩⟩⟩
  · have h1 := s _ _ (s0 _ _ e)
    rw [upd_ne (ne_of_none e ha), upd_ne (ne_of_none h1 hdx)]
    exact h1
  · rw [upd_ne ne, upd_same]
  · have na : b ≠ a := fun z => by rw [z, upd_same] at h0; cases h0
    rw [upd_ne na, upd_ne (ne_of_none h1 hdx)]
    exact h1
section
variable {X : Cx} {n k : Nat} {name par field : Str} {C : Addr} {e : Expr} {ta : TA} {p pos pos2 : Pos}
/-- arguments whose reading may be widened -/
def taW (ta : TA) : TA := fun σ H Q => ∃ R : List V → Hp → Prop, ta σ H R ∧ ∀ vs H', R vs H' → Q vs H'
theorem pa_wide {es : List Expr} (ha : PA X es ta) : PA X es (taW ta) := ⟨fun pos pins s σ H Q I ⟨R, h, i⟩ => wpAny_mono (ha.run pos pins s σ H R I h) (fun us s' ⟨vs, H', I', r, q⟩ => ⟨vs, H', I', r, i _ _ q⟩) fun _ _ z => z⟩
theorem pk_wide {kws : List Keyword} (ha : PK X kws ta) : PK X kws (taW ta) := ⟨fun pos pins s σ H Q I ⟨R, h, i⟩ => wpAny_mono (ha.run pos pins s σ H R I h) (fun us s' ⟨vs, H', I', r, q⟩ => ⟨vs, H', I', r, i _ _ q⟩) fun _ _ z => z⟩
theorem pe_newErr (O : OwnE X.prog X.w X.K X.mg X.base n k name par field C) (room : Room (k + 1) X.A) (hg : Gl X name) (ha : PA X [e] ta) (n1 : (name == ("__debug__" : Str)) = false := by decide)
    (n2 : starEach [e] X.env = (false, eval e X.env) :: starEach [] X.env := by rfl) (n3 : (backTo pos (starEach [] X.env)).any (·.1) = false := by rfl) : PE X (.Call (.Name name p) [e] [] pos) (tNewErr X.K n C field ta) := by
  obtain ⟨fI, fd, F, iC, tI, bp, bk⟩ := O.ex
  exact weaken (pe_mkE (p := p) (pos := pos) O.oex iC tI F room bp hg O.g (pa_wide ha) n1 n2 n3) fun σ H Q h => ⟨_, h, fun vs H' ⟨v, d, e, c, q⟩ => ⟨v, e, initRd c q⟩⟩
theorem pe_newErrK {kws : List Keyword} (O : OwnE X.prog X.w X.K X.mg X.base n k name par field C) (room : Room (k + 1) X.A) (hg : Gl X name) (hk : PK X kws ta) (all : (backToKw pos (keywordEach kws X.env)).all (·.1.isSome) = true := by rfl)
    (names : (backToKw pos (keywordEach kws X.env)).filterMap (·.1) = [par] := by rfl) (n1 : (name == ("__debug__" : Str)) = false := by decide)
    (n3 : ((backTo pos (starEach [] X.env)).any (·.1) || (backToKw pos (keywordEach kws X.env)).any (·.1.isNone)) = false := by rfl) : PE X (.Call (.Name name p) [] kws pos) (tNewErr X.K n C field ta) := by
  obtain ⟨fI, fd, F, iC, tI, bp, bk⟩ := O.ex
  exact weaken (pe_mkEk (p := p) (pos := pos) O.oex iC tI F room bk hg O.g (pk_wide hk) all names n1 n3) fun σ H Q h => ⟨_, h, fun vs H' ⟨v, d, e, c, q⟩ => ⟨v, e, initRd c q⟩⟩
/-- the value that the new error keeps -/
theorem pe_keeps {q : Pos} {ex : Expr} (O : OwnE X.prog X.w X.K X.mg X.base n k name par field C) (h : PE X ex (tNewErr X.K n C field (taW ta))) (hb : attributeBase ex field X.env (eval ex X.env) = eval ex X.env := by rfl) : PE X (.Attribute ex field q) (tFieldOf X.K n ta) :=
  weaken (pe_errF h hb) fun σ H Q z => ⟨_, z, fun vs H' ⟨v, d, e, c, k⟩ => ⟨v, d, e, c, fun H2 a v' s ha ea c' => ⟨a, C, _, v', rfl, ea, O.xf, O.no, by simp [List.lookup], k H2 v' s c'⟩⟩⟩
theorem pe_kept {p pos pos2 : Pos} (O : OwnE X.prog X.w X.K X.mg X.base n k name par field C) (room : Room (k + 1) X.A) (hg : Gl X name) (ha : PA X [e] ta) (hb : attributeBase (.Call (.Name name p) [e] [] pos) field X.env (eval (.Call (.Name name p) [e] [] pos) X.env) = eval (.Call (.Name name p) [e] [] pos) X.env := by rfl)
    (n1 : (name == ("__debug__" : Str)) = false := by decide) (n2 : starEach [e] X.env = (false, eval e X.env) :: starEach [] X.env := by rfl) (n3 : (backTo pos (starEach [] X.env)).any (·.1) = false := by rfl) :
    PE X (.Attribute (.Call (.Name name p) [e] [] pos) field pos2) (tFieldOf X.K n ta) := pe_keeps O (pe_newErr O room hg (pa_wide ha) n1 n2 n3) hb
theorem pe_keptK {kws : List Keyword} {p pos pos2 : Pos} (O : OwnE X.prog X.w X.K X.mg X.base n k name par field C) (room : Room (k + 1) X.A) (hg : Gl X name) (hk : PK X kws ta) (hb : attributeBase (.Call (.Name name p) [] kws pos) field X.env (eval (.Call (.Name name p) [] kws pos) X.env) = eval (.Call (.Name name p) [] kws pos) X.env := by rfl)
    (all : (backToKw pos (keywordEach kws X.env)).all (·.1.isSome) = true := by rfl) (names : (backToKw pos (keywordEach kws X.env)).filterMap (·.1) = [par] := by rfl) (n1 : (name == ("__debug__" : Str)) = false := by decide)
    (n3 : ((backTo pos (starEach [] X.env)).any (·.1) || (backToKw pos (keywordEach kws X.env)).any (·.1.isNone)) = false := by rfl) :
    PE X (.Attribute (.Call (.Name name p) [] kws pos) field pos2) (tFieldOf X.K n ta) := pe_keeps O (pe_newErrK O room hg (pk_wide hk) all names n1 n3) hb
/-- an error that keeps no value: made with a text -/
structure BareE (K : PySem.W.Frag) (mg : Str → Option Value) (name : Str) (C : Addr) : Prop where
  exc : PySem.W.excIn K C PySem.HandSPX.veTail "ValueError.__new__" = true
  g : mg name = some (.ref C)
  k : PySem.W.keepIn K (.ref C) = true
def tBareErr (C : Addr) (te : TE) : TE := fun σ H Q => te σ H fun _ H1 => ∀ (H' : Hp) (a : Addr), Same H1 H' → H1 a = none → ErrAt H' a C none → Q (.ref a) H'
theorem pe_bareErr {te : TE} (O : BareE X.K X.mg name C) (hg : Gl X name) (he : PE X e te) (n2 : starEach [e] X.env = (false, eval e X.env) :: starEach [] X.env := by rfl) (n1 : (name == ("__debug__" : Str)) = false := by decide) :
    PE X (.Call (.Name name p) [e] [] pos) (tBareErr C te) := by
  have wide : PE X e (fun σ H Q => ∃ R : VK, te σ H R ∧ ∀ v H', R v H' → Q v H') := ⟨fun pins s σ H Q I ⟨R, h, i⟩ => wpAny_mono (he.run pins s σ H R I h) (fun u s' ⟨v, H', I', r, q⟩ => ⟨v, H', I', r, i _ _ q⟩) fun _ _ z => z⟩
  refine weaken (pe_exc1 (p := p) (pos := pos) PySem.F.excBase_ValueError O.exc O.g O.k hg wide n2 n1) fun σ H Q h => ⟨_, h, fun v H1 k a ha => k _ a (fun b o e => ?_) ha (.inr (.inl ⟨rfl, upd_same⟩))⟩
  rw [upd_ne (ne_of_none e ha)]
  exact e
end
end Ow
namespace Sh
open PySem PySem.Spec PyProof.Rows L2 Co Gd
/-! What is copied can be shown. -/
theorem dpFl {K : PySem.W.Frag} {H : Hp} : ∀ {v : V} {d : PyData}, Fl v d → Dp K H v d
  | .non, .none, _ => .non
  | .bl b, .bool _, h => by cases (show b = _ from h); exact .bl b
  | .int i, .int _, h => by cases (show i = _ from h); exact .int i
  | .str x, .str _, h => by cases (show x = _ from h); exact .str x
theorem dpPair {K : PySem.W.Frag} {H : Hp} {xs : List V} {ds : List PyData} (r : Paired (fun v d => d.hasDict = false → Dp K H v d) xs ds) : PyData.hasDictAll ds = false → DpAll K H xs ds := by
  induction r with
  | nil => intro _; exact .nil
  | cons h t ih =>
    intro z
    simp only [PyData.hasDictAll, Bool.or_eq_false_iff] at z
    exact .cons (h z.1) (ih z.2)
theorem cpDp {K : PySem.W.Frag} {H : Hp} : ∀ {n : Nat} {v : V} {d : PyData}, Cp K H n v d → d.hasDict = false → Dp K H v d
  | 0, _, _, h, _ => h.elim
  | n + 1, v, d, h, z => by
    rcases h with h | ⟨a, xs, ds, rfl, rfl, sq, l, r⟩ | ⟨a, xs, ds, rfl, rfl, sq, l, r⟩ | ⟨a, o, rfl, rfl, hd, _⟩
    · exact dpFl h
    · simp only [PyData.hasDict] at z
      exact .lst sq (dpPair (L2.Paired.mapP r fun _ _ q => cpDp q) z)
    · simp only [PyData.hasDict] at z
      exact .tup sq (dpPair (L2.Paired.mapP r fun _ _ q => cpDp q) z)
    · simp only [PyData.hasDict] at z
      cases z
/-- what the laws show: no dict within it, or one of one entry -/
def Plain (d : PyData) : Prop := d.hasDict = false ∨ ∃ o, d = .dict (oneD o)
section
variable {P : Program} {w : World} {K : PySem.W.Frag} {H : Hp} {n : Nat} {v : V} {d : PyData}
theorem shown_dict0 {a : Addr} (h : H a = some (.dK [])) : Shown P w K H (.ref a) (.dict []) := fun X _ _ _ pins σ s u I r => by
  obtain rfl : u = Value.ref a := r
  obtain ⟨hz, hsys, vs, kv, o, es, ep, h1, h2, h3, h4, h5, h6⟩ := I.hok a _ h
  cases kv
  have hE : es.toList = [] := by
    cases q : es.toList with
    | nil => rfl
    | cons e rest => rw [q] at h5; cases h5
  refine ⟨_, Reads.dict h1 h2.1 h3 (as := []) (bs := []) ?_ ?_, fun _ m => ?_⟩
  · rw [hE]
    exact .nil
  · rw [hE]
    exact .nil
  · have q : sysModules = a := by simpa using m
    rw [q] at hsys
    simp at hsys
theorem cpShown (c : Cp K H n v d) (p : Plain d) : Shown P w K H v d := by
  rcases p with p | ⟨o, rfl⟩
  · exact shown_dp (cpDp c p) p
  · cases n with
    | zero => exact c.elim
    | succ n =>
      rcases c with c | ⟨_, _, _, _, e, _⟩ | ⟨_, _, _, _, e, _⟩ | ⟨a, o', rfl, e, hd, _⟩
      · cases v <;> exact c.elim
      · cases e
      · cases e
      · have eo : o = o' := by
          cases o with
          | none => cases o' with
            | none => rfl
            | some p' => cases e
          | some p => cases o' with
            | none => cases e
            | some p' =>
              obtain ⟨x, i⟩ := p
              obtain ⟨x', i'⟩ := p'
              simp only [oneD, PyData.dict.injEq, List.cons.injEq, Prod.mk.injEq, PyData.str.injEq, PyData.int.injEq, and_true] at e
              rw [e.1, e.2]
        subst eo
        cases o with
        | none => exact shown_dict0 hd
        | some p => exact shown_dict1 hd
/-- repr(x) of it -/
theorem showRd {Q : VK} (c : Cp K H n v d) (p : Plain d) (h1 : d.showable = true) (h2 : d.depth ≤ 40) (h3 : d.shown.length ≤ sizeLine) (q : Q (.str d.shown) H) : rShow P w K [v] H Q := ⟨v, d, rfl, cpShown c p, h1, h2, h3, q⟩
end
end Sh
namespace Wi
open PySem PySem.Spec PySem.Calls PyProof.Rows PySem.SeqAt PySem.MeetsSeq
open AutoSeq1 (wpAny_loadPart')
/-! A text beside a dict: never equal. Any datum sought among texts. -/
theorem sub_str_dict : isSubtype (.type "str") (.type "dict") = pure false := by
  rw [isSubtype_type]
  kernel_rfl
theorem dict_declines (l : Addr) (b : Str) (u : Tok) : Meets (Builtin.«dict.__eq__» ⟨[.ref l, .str b u], []⟩) (fun _ R s => R (.ok (.ret .notImplemented)) s) :=
  .of_wp fun prog w A R s h => by
    obtain ⟨hp, g, d, tk, os⟩ := s
    have f1 := sub_str_dict
    wp_walk
    exact ⟨_, rfl, h⟩
theorem str_declines (b : Str) (u : Tok) (l : Addr) (dd : Option Addr) (es : Array DictEntry) (n : Nat) (sl : Array (Option Value)) :
    Meets (Builtin.«str.__eq__» ⟨[.str b u, .ref l], []⟩) (fun _ R s => s.heap.get? l = some { cls := .type "dict", dict := dd, data := .dict es n, slots := sl } ∧ R (.ok (.ret .notImplemented)) s) :=
  .of_wp fun prog w A R s h => by
    obtain ⟨hp, g, d, tk, os⟩ := s
    obtain ⟨hl, h⟩ := h
    wp_walk using wpAny_loadPart' hl, wpAny_load hl
    exact ⟨_, rfl, h⟩
section
variable {A : Around} {s : Shared}
theorem str_dict {l : Addr} {dd : Option Addr} {es : Array DictEntry} {n : Nat} {sl : Array (Option Value)} (b : Str) (u : Tok) (at_ : s.heap.get? l = some { cls := .type "dict", dict := dd, data := .dict es n, slots := sl }) (room : A.units < cLine) :
    EqAt A s (.str b u) (.ref l) false := by
  intro prog w E Q h
  unfold eqBool
  refine wpAny_holding (wpAny_ite_split (fun same => absurd (eq_of_beq same) nofun) fun _ => wpAny_bind ?_)
  exact rc_eq_decline_or (k := false) (typeIs_str s b u) ⟨_, at_, rfl⟩ (by decide) F.sub_dict_str F.slot_str_eq F.slot_dict_eq_refl
    (fun _ q => call_meets F.slot_str_eq (typeIs_str s b u) F.entry_str_eq (F.args_str_eq_2 _ _) (str_declines b u l dd es n sl) ⟨at_, q⟩)
    (fun _ q => call_meets F.slot_dict_eq_refl ⟨_, at_, rfl⟩ F.entry_dict_eq (F.args_dict_eq_2 _ _) (dict_declines l b u) q)
    (fun _ q => wpAny_of_eq (rfl : isSame (.str b u) (.ref l) = pure false) q) (.inr room) (wpAny_truthy_bool h)
end
open L2 Co
/-- is the datum one of the texts? -/
def isW (d : PyData) (ws : List Str) : Bool := match d with
  | .str x => ws.contains x
  | _ => false
def oneOf (d : PyData) (y : Value) : Bool := match y, d with
  | .str a _, .str x => a == x
  | _, _ => false
theorem any_words {d : PyData} : ∀ {ws : List Str} {its : List Value}, Vals (ws.map V.str) its → its.any (oneOf d) = isW d ws
  | [], _, .nil => by cases d <;> rfl
  | x :: ws, _, .cons r rs => by
    obtain ⟨t, rfl⟩ := r
    rw [List.any_cons, any_words rs]
    cases d <;> first | rfl | skip
    rename_i y
    show (x == y || ws.contains y) = (x :: ws).contains y
    rw [List.contains_cons, Bool.beq_comm]
theorem texts {ws : List Str} : ∀ {its : List Value}, Vals (ws.map V.str) its → ∀ y ∈ its, ∃ (a : Str) (t : Tok), y = .str a t := by
  induction ws with
  | nil =>
    intro its r y m
    cases r
    cases m
  | cons x ws ih =>
    intro its r y m
    cases r with
    | cons h t =>
      rcases List.mem_cons.mp m with q | q
      · obtain ⟨u, e⟩ := h
        exact ⟨x, u, q.trans e⟩
      · exact ih t y q
section
variable {X : Cx}
/-- x in (.., texts, ..), any datum x -/
def rWord (K : PySem.W.Frag) (no : Bool) : R2 := fun x y H Q => ∃ (n : Nat) (d : PyData) (t : Addr) (ws : List Str), Cp K H n x d ∧ y = .ref t ∧ SqT K H t (ws.map V.str) ∧ Q (.bl (no ^^ isW d ws)) H
theorem word_at {pins : List (Addr × Obj)} {σ : L2.St} {H : Hp} {s : Shared} {n : Nat} {x : V} {d : PyData} {v : Value} {ws : List Str} {its : List Value} (room : X.A.units + 64 < cLine) (I : Inv X pins σ H s) (c : Cp X.K H n x d) (rx : L2.RelV x v) (r : Vals (ws.map V.str) its) :
    ∀ y ∈ its, EqAt X.A.in1 s y v (oneOf d y) := by
  intro y my
  obtain ⟨a, t, rfl⟩ := texts r y my
  have in1 : X.A.in1.units < cLine := by
    show X.A.units + 1 < cLine
    omega
  match n, c with
  | n + 1, .inl fl =>
    match x, d, fl with
    | .non, .none, _ =>
      cases rx
      exact EqAt.str_none a t
    | .bl k, .bool _, _ =>
      cases rx
      exact EqAt.str_bool a t k
    | .int i, .int _, _ =>
      obtain ⟨u, rfl⟩ := rx
      exact EqAt.str_int a t i u
    | .str z, .str _, e =>
      obtain ⟨u, rfl⟩ := rx
      cases (show z = _ from e)
      exact EqAt.str_str a t z u
  | n + 1, .inr (.inl ⟨p, xs, ds, e1, e2, sq, _⟩) =>
    subst e1 e2
    cases rx
    obtain ⟨_, _, pl, _⟩ := I.list sq
    exact EqAt.str_list a t pl.isList in1
  | n + 1, .inr (.inr (.inl ⟨p, xs, ds, e1, e2, sq, _⟩)) =>
    subst e1 e2
    cases rx
    obtain ⟨_, _, pl, _⟩ := I.tuple sq
    exact EqAt.str_tuple a t pl in1
  | n + 1, .inr (.inr (.inr ⟨p, o, e1, e2, hp, _⟩)) =>
    subst e1 e2
    cases rx
    obtain ⟨_, _, vs, _, ⟨cls, dd, data, sl⟩, es, k, g, ⟨hc, _⟩, hd, _⟩ := I.hok p _ hp
    dsimp only at hc hd
    subst hc hd
    exact str_dict a t g in1
theorem op_word (room : X.A.units + 64 < cLine) : OpR X (compareOp .In) (rWord X.K false) := by
  intro pins s σ H x y v u Q I rx ry h
  obtain ⟨n, d, t, ws, c, rfl, sq, q⟩ := h
  cases ry
  obtain ⟨its, r, pl, _⟩ := I.tuple sq
  refine in_tupleAt (oneOf d) pl (fun y my => word_at room I c rx r y (by simpa using my)) ⟨.bl _, H, I, rfl, ?_⟩
  rw [show its.toArray.any (oneOf d) = its.any (oneOf d) by simp, any_words r]
  simpa using q
theorem op_noWord (room : X.A.units + 64 < cLine) : OpR X (compareOp .NotIn) (rWord X.K true) := by
  intro pins s σ H x y v u Q I rx ry h
  obtain ⟨n, d, t, ws, c, rfl, sq, q⟩ := h
  cases ry
  obtain ⟨its, r, pl, _⟩ := I.tuple sq
  refine notIn_tupleAt (oneOf d) pl (fun y my => word_at room I c rx r y (by simpa using my)) ⟨.bl _, H, I, rfl, ?_⟩
  rw [show its.toArray.any (oneOf d) = its.any (oneOf d) by simp, any_words r]
  simpa using q
end
end Wi
namespace Ki
open PySem PySem.Spec PyProof.Rows L2 Co Wi
/-! is_list, first_unfit. -/
def top (i : Nat) : Stmt := PySem.Challenge.pw_presumebooks_k50_known_costs.main.body.getD i (.Pass ⟨0, 0, 0, 0⟩)
abbrev sIsList : Stmt := top 10
abbrev sUnfit : Stmt := top 11
theorem scIsList : FnScope ["thing"] ["thing"] (defScope sIsList) := ⟨rfl, rfl, rfl, by decide +kernel, rfl, by decide +kernel, by decide +kernel⟩
theorem scUnfit : FnScope ["items", "choices", "at", "item"] ["items", "choices"] (defScope sUnfit) := ⟨rfl, rfl, rfl, by decide +kernel, rfl, by decide +kernel, by decide +kernel⟩
def isSeq : PyData → Bool
  | .list _ => true
  | .tuple _ => true
  | _ => false
theorem kits {K : PySem.W.Frag} {H : Hp} : ∀ {n : Nat} {x : V} {d : PyData}, Cp K H n x d → ∃ t : Value, TyX K H x t ∧ PySem.W.kitAny K t [.type "list", .type "tuple"] = some (isSeq d)
  | 0, _, _, h => h.elim
  | n + 1, x, d, h => by
    have any : ∀ {t : String} {b c : Bool}, kitB t "list" = some b → kitB t "tuple" = some c → PySem.W.kitAny K (.type t) [.type "list", .type "tuple"] = some (b || c) := by
      intro t b c h1 h2
      have e1 := kit_ty (K := K) h1
      have e2 := kit_ty (K := K) h2
      unfold PySem.W.kitAny
      rw [e1]
      cases b
      · dsimp only
        unfold PySem.W.kitAny
        rw [e2]
        cases c <;> rfl
      · rfl
    rcases h with h | ⟨a, xs, ds, rfl, rfl, sq, _⟩ | ⟨a, xs, ds, rfl, rfl, sq, _⟩ | ⟨a, o, rfl, rfl, hd, _⟩
    · obtain ⟨t, ty, t1, t2, _⟩ := flatTy (K := K) (H := H) h
      refine ⟨_, ty, ?_⟩
      rw [any t1 t2]
      cases x <;> cases d <;> first | rfl | exact h.elim
    · exact ⟨_, listTy sq, any (t := "list") (b := true) (c := false) (by decide +kernel) (by decide +kernel)⟩
    · exact ⟨_, tupTy sq, any (t := "tuple") (b := false) (c := true) (by decide +kernel) (by decide +kernel)⟩
    · exact ⟨_, .base (.dK hd), any (t := "dict") (b := false) (c := false) (by decide +kernel) (by decide +kernel)⟩
structure Bare (mg : Str → Option Value) : Prop where
  isi : mg "isinstance" = none
  list : mg "list" = none
  tuple : mg "tuple" = none
  enumerate : mg "enumerate" = none
section
variable {P : Program} {w : World} {K : PySem.W.Frag} {mg : Str → Option Value} {base : Heap}
theorem sameUp {H H' : Hp} {l : Addr} {o : HO} (s : Same H H') (h : H' l = none) : Same H (upd H' l o) := fun b u e => by
  rw [upd_ne (ne_of_none (s _ _ e) h)]
  exact s _ _ e
def spIsList (K : PySem.W.Frag) : Sp := fun vs H Q _ => ∃ (n : Nat) (x : V) (d : PyData), vs = [x] ∧ Cp K H n x d ∧ ∀ H', Same H H' → Q (.bl (isSeq d)) H'
theorem ok_isList {f : Addr} {fd : FuncData} (F : Fun K "is_list" "is_list" sIsList f fd) (B : Bare mg) : FnOk P w K mg base CX0 1 f fd ["thing"] (spIsList K) := by
  refine F.ok scIsList (fun vs H Q E h => ?_) (fun cdv A outer s H vs Q E hr h => ?_)
  · obtain ⟨n, x, d, rfl, _⟩ := h
    rfl
  · obtain ⟨n, x, d, rfl, c, k⟩ := h
    refine ⟨_, pss_one (ps_ret (pe_callB call_isiT (by rfl) B.isi bIsi (pa_cons (pv 0) (pa_cons (pe_tup (pa_cons (pe_bltn (v := .ty "list") (by rfl) B.list bList rfl) (pa_cons (pe_bltn (v := .ty "tuple") (by rfl) B.tuple bTuple rfl) pa_nil))) pa_nil)))), ?_⟩
    refine ⟨_, rfl, (by show 2 ≤ sizeLine; decide), fun p hp => ?_⟩
    have s1 : Same H (upd H p (.tup [.ty "list", .ty "tuple"])) := sameUp (Same.refl H) hp
    obtain ⟨t, ty, kit⟩ := kits (c.same s1)
    exact ⟨x, p, _, t, _, isSeq d, rfl, upd_same, .cons (.ty "list") (.cons (.ty "tuple") .nil), ty, kit, k _ s1⟩
/-- the place of the first item that is no text of ws, or there already; seen stands before -/
def unfit (ws : List Str) : List Str → List PyData → Nat → Option Nat
  | _, [], _ => none
  | seen, d :: ds, i => match d with
    | .str x => if ws.contains x = true ∧ seen.contains x = false then unfit ws (seen ++ [x]) ds (i + 1) else some i
    | _ => some i
theorem dropAt {α : Type} {l : List α} {i : Nat} {x : α} (h : l[i]? = some x) : l.drop i = x :: l.drop (i + 1) := by
  obtain ⟨hi, rfl⟩ := List.getElem?_eq_some_iff.mp h
  exact List.drop_eq_getElem_cons hi
theorem pairTake {F : V → PyData → Prop} {xs : List V} {ds : List PyData} (r : Paired F xs ds) : ∀ i : Nat, Paired F (xs.take i) (ds.take i) := by
  induction r with
  | nil => intro i; simp; exact .nil
  | cons h t ih =>
    intro i
    cases i with
    | zero => exact .nil
    | succ i => exact .cons h (ih i)
theorem textsOf {K : PySem.W.Frag} {H : Hp} {n : Nat} : ∀ {xs : List V} {ss : List Str}, Paired (Cp K H n) xs (ss.map PyData.str) → xs = ss.map V.str
  | [], [], _ => rfl
  | x :: xs, s :: ss, .cons h t => by rw [cpStr h, textsOf t] <;> rfl
theorem cutTake {xs : List V} {i : Nat} (h : i ≤ xs.length) : cutV xs none (some (i : Int)) = xs.take i := by
  unfold cutV
  rw [HT.sIx_none, HT.sIx_nat, Nat.min_eq_left h]
  rfl
def spUnfit (K : PySem.W.Frag) : Sp := fun vs H Q _ => ∃ (n : Nat) (a t : Addr) (xs : List V) (ds : List PyData) (ws : List Str), vs = [.ref a, .ref t] ∧ (SqL K H a xs ∨ SqT K H a xs) ∧ xs.length ≤ 100 ∧ Paired (Cp K H n) xs ds ∧ SqT K H t (ws.map V.str) ∧
  ∀ H', Same H H' → Q (match unfit ws [] ds 0 with | none => .non | some i => .int (i : Nat)) H'
theorem ok_unfit {f : Addr} {fd : FuncData} (F : Fun K "first_unfit" "first_unfit" sUnfit f fd) (B : Bare mg) : FnOk P w K mg base CX0 1 f fd ["items", "choices"] (spUnfit K) := by
  refine F.ok scUnfit (fun vs H Q E h => ?_) (fun cdv A outer s H vs Q E hr h => ?_)
  · obtain ⟨n, a, t, xs, ds, ws, rfl, _⟩ := h
    rfl
  · obtain ⟨n, a, t, xs, ds, ws, rfl, sq, few, pr, tw, k⟩ := h
    refine ⟨_, pss_cons (ps_for PassesOwn.never rfl (Et.pi_enumS (by rfl) B.enumerate (pa_cons (pv 0) pa_nil)) (pg_tup (by rfl) (pgs_cons (pg_name (i := 2) scUnfit.nd rfl (Or.inl rfl)) (pgs_cons (pg_name (i := 3) scUnfit.nd rfl (Or.inl rfl)) pgs_nil)))
        (pss_one (ps_if (PW.pt (pw_or (pt_cmpR (op_noWord hr.units) (pv 3) (pv 1) (by rfl)) (pw_or1 (pt_cmpR op_in_seq (pv 3) (pe_slice (SlR.or sl_list sl_tupA) (pv 0) po_none (po_some (pv 2))) (by rfl))))) (pss_one (ps_ret (pv 2))) pss_nil)))
      (pss_one (ps_ret pe_non)), ?_⟩
    -- one turn, over either
    have turn : ∀ (slice : ∀ (i : Nat) (H1 : Hp) (R : VK), i < xs.length → Same H H1 → (∀ p H2, Same H1 H2 → (SqL K H2 p (xs.take i) ∨ SqT K H2 p (xs.take i)) → R (.ref p) H2) → rSlL K (.ref a) none (some (i : Int)) H1 R ∨ rSlA K (.ref a) none (some (i : Int)) H1 R)
        (i : Nat) (y : V) (σ : L2.St) (H1 H2 : Hp), i < xs.length → (∃ v2 v3 : Option V, σ = [some (.ref a), some (.ref t), v2, v3] ∧ Same H H1 ∧ ∃ seen : List Str, ds.take i = seen.map PyData.str ∧ unfit ws seen (ds.drop i) i = unfit ws [] ds 0) →
        YPair (fun i => some (.int (i : Nat))) (fun i => xs[i]?) i H1 y H2 →
        gTup K 2 (gCons (gName 2) (gCons (gName 3) gNil)) y σ H2 fun σ2 H3 =>
          tIfS (tOr (tTest (tOp (rWord K true) (tVar 3) (tVar 1))) (tTest (tOp (rIn K false) (tVar 3) (tSl (fun x lo hi H Q => rSlL K x lo hi H Q ∨ rSlA K x lo hi H Q) (tVar 0) tNoPart (tPart (tVar 2)))))) (tRet (tVar 2)) tNext
            { nx := fun σ H1 => ∃ v2 v3 : Option V, σ = [some (.ref a), some (.ref t), v2, v3] ∧ Same H H1 ∧ ∃ seen : List Str, ds.take (i + 1) = seen.map PyData.str ∧ unfit ws seen (ds.drop (i + 1)) (i + 1) = unfit ws [] ds 0, rt := Q } σ2 H3 := by
      rintro slice i y σ H1 H2 hi ⟨v2, v3, rfl, s1, seen, took, same⟩ ⟨T, x1, x, rfl, fT, rfl, e1, hx⟩
      cases e1
      obtain ⟨d, hd, cx⟩ := pairAt pr hx
      have s2 : Same H (upd H1 T (.tup [.int (i : Nat), x])) := sameUp s1 fT
      refine ⟨T, _, rfl, .inl (.inl upd_same), rfl, _, _, rfl, _, _, rfl, rfl, ?_⟩
      generalize upd H1 T (.tup [.int (i : Nat), x]) = H3 at s2 ⊢
      have next := dropAt hd
      rw [next] at same
      refine ⟨_, rfl, _, rfl, n, d, t, ws, cx.same s2, rfl, sameT s2 tw, _, rfl, ?_⟩
      cases hw : isW d ws with
      | false =>
        rw [show (true ^^ false) = true from rfl, if_pos rfl]
        refine ⟨_, rfl, ?_⟩
        have stop : unfit ws seen (d :: ds.drop (i + 1)) i = some i := by
          cases d <;> first | rfl | skip
          rename_i z
          show (if ws.contains z = true ∧ seen.contains z = false then _ else some i) = some i
          rw [if_neg (fun q => by rw [show ws.contains z = false from hw] at q; cases q.1)]
        have q := k H3 s2
        rw [← same, stop] at q
        exact q
      | true =>
        rw [show (true ^^ true) = false from rfl, if_neg Bool.false_ne_true]
        obtain ⟨z, rfl⟩ : ∃ z, d = .str z := by
          cases d <;> first | exact ⟨_, rfl⟩ | cases hw
        have ex := cpStr cx
        subst ex
        have taken : xs.take i = seen.map V.str := by
          refine textsOf (n := n) (K := K) (H := H) ?_
          rw [← took]
          exact pairTake pr i
        refine ⟨_, rfl, _, rfl, _, rfl, _, rfl, slice i H3 _ hi s2 fun p H4 s4 hp => ?_⟩
        rw [taken] at hp
        refine ⟨p, _, rfl, hp, rfl, by simp [flatV], _, rfl, ?_⟩
        have inE : inV (.str z) (seen.map V.str) = seen.contains z := by
          unfold inV
          rw [List.any_map, List.contains_eq_any_beq]
          congr 1
          funext u
          show (u == z) = (z == u)
          exact Bool.beq_comm
        show (if inV (.str z) (seen.map V.str) = true then _ else _)
        rw [inE]
        cases hs : seen.contains z with
        | true =>
          rw [if_pos rfl]
          refine ⟨_, rfl, ?_⟩
          have stop : unfit ws seen (.str z :: ds.drop (i + 1)) i = some i := by
            show (if ws.contains z = true ∧ seen.contains z = false then _ else some i) = some i
            rw [if_neg (fun q => by rw [hs] at q; cases q.2)]
          have q := k H4 (s2.trans s4)
          rw [← same, stop] at q
          exact q
        | false =>
          rw [if_neg Bool.false_ne_true]
          refine ⟨_, _, rfl, s2.trans s4, seen ++ [z], ?_, ?_⟩
          · rw [takeMore hd, took, List.map_append] <;> rfl
          · rw [← same]
            show _ = (if ws.contains z = true ∧ seen.contains z = false then _ else some i)
            rw [if_pos ⟨hw, hs⟩]
    refine ⟨_, rfl, a, xs, rfl, ?_⟩
    have last : ∀ σ H1, (∃ v2 v3 : Option V, σ = [some (.ref a), some (.ref t), v2, v3] ∧ Same H H1 ∧ ∃ seen : List Str, ds.take xs.length = seen.map PyData.str ∧ unfit ws seen (ds.drop xs.length) xs.length = unfit ws [] ds 0) → Q .non H1 := by
      rintro σ H1 ⟨v2, v3, _, s1, seen, _, same⟩
      have q := k H1 s1
      rw [← same, pr.length, List.drop_length] at q
      exact q
    rcases sq with sq | sq
    · refine .inl ⟨sq, for_it (walk_enum (K := K) (a := a) (xs := xs)) (fun i σ H1 => ∃ v2 v3 : Option V, σ = [some (.ref a), some (.ref t), v2, v3] ∧ Same H H1 ∧ ∃ seen : List Str, ds.take i = seen.map PyData.str ∧ unfit ws seen (ds.drop i) i = unfit ws [] ds 0)
        ⟨_, _, rfl, Same.refl H, [], by simp, by simp⟩ (fun i σ H1 _ ⟨_, _, _, s1, _⟩ => s1.seq sq) (fun i y σ H1 H2 hi inv yl => ?_) last⟩
      exact turn (fun i H1 R hi s1 q => .inl ⟨a, xs, rfl, s1.seq sq, fun p hp => by
        rw [cutTake (Nat.le_of_lt hi)]
        exact q p _ (sameUp (Same.refl H1) hp) (.inl (.inl (.inl upd_same)))⟩) i y σ H1 H2 hi inv yl
    · refine .inr ⟨sq, for_it (Et.walk_enumT (K := K) (a := a) (xs := xs)) (fun i σ H1 => ∃ v2 v3 : Option V, σ = [some (.ref a), some (.ref t), v2, v3] ∧ Same H H1 ∧ ∃ seen : List Str, ds.take i = seen.map PyData.str ∧ unfit ws seen (ds.drop i) i = unfit ws [] ds 0)
        ⟨_, _, rfl, Same.refl H, [], by simp, by simp⟩ (fun i σ H1 _ ⟨_, _, _, s1, _⟩ => sameT s1 sq) (fun i y σ H1 H2 hi inv yl => ?_) last⟩
      exact turn (fun i H1 R hi s1 q => .inr ⟨a, xs, rfl, sameT s1 sq, fun z => by
          have z2 := z.2
          rw [HT.sIx_nat] at z2
          omega, fun _ p hp => by
        rw [cutTake (Nat.le_of_lt hi)]
        exact q p _ (sameUp (Same.refl H1) hp) (.inr (.inl (.inl upd_same)))⟩) i y σ H1 H2 hi inv yl
end
end Ki
namespace Bk
open PySem PySem.Spec PyProof.Rows L2 Co Wi Ki
/-! Books: wrong_part. -/
def recs : List Str := ["begin", "yes", "no", "ready", "agreed", "refused"]
def wordsL : List Str := ["none", "lazy", "forced"]
def outs : List Str := ["no", "yes"]
def pres : List Str := ["no", "wait", "yes"]
abbrev sWrong : Stmt := Ki.top 17
theorem scWrong : FnScope ["words", "answers", "presume", "record"] ["words", "answers", "presume"] (defScope sWrong) := ⟨rfl, rfl, rfl, by decide +kernel, rfl, by decide +kernel, by decide +kernel⟩
/-- the tuples of the module -/
structure Tups (K : PySem.W.Frag) (mg : Str → Option Value) (tR tW tO tP : Addr) : Prop where
  gR : mg "RECORDS" = some (.ref tR)
  gW : mg "WORDS" = some (.ref tW)
  gO : mg "OUTCOMES" = some (.ref tO)
  gP : mg "PRESUMPTIONS" = some (.ref tP)
  sR : ∀ H : Hp, SqT K H tR (recs.map V.str)
  sW : ∀ H : Hp, SqT K H tW (wordsL.map V.str)
  sO : ∀ H : Hp, SqT K H tO (outs.map V.str)
  sP : ∀ H : Hp, SqT K H tP (pres.map V.str)
def wrongW : List Str → List PyData → Option Str
  | r :: rs, d :: ds => if isW d wordsL = true then wrongW rs ds else some r
  | _, _ => none
def items : PyData → List PyData
  | .list ds => ds
  | .tuple ds => ds
  | _ => []
/-- the first part that is wrong -/
def wrong (ds : List PyData) (da dp : PyData) : Option Str := match wrongW recs ds with
  | some r => some r
  | none => if isSeq da = true ∧ unfit outs [] (items da) 0 = none then (if isW dp pres = true then none else some "presume") else some "answers"
def dictW (ws : List V) : List (Key × V) := (recs.map Sum.inr).zip ws
def said : Option Str → V
  | none => .non
  | some x => .str x
def spWrong (K : PySem.W.Frag) : Sp := fun vs H Q _ => ∃ (n : Nat) (dW : Addr) (a p : V) (ws : List V) (ds : List PyData) (da dp : PyData), vs = [.ref dW, a, p] ∧ H dW = some (.dK (dictW ws)) ∧ ws.length = 6 ∧
  Paired (Cp K H (n + 1)) ws ds ∧ Cp K H (n + 1) a da ∧ Cp K H (n + 1) p dp ∧ ∀ H', Same H H' → Q (said (wrong ds da dp)) H'
/-- an answer's items -/
theorem seqItems {K : PySem.W.Frag} {H : Hp} {n : Nat} {a : V} {da : PyData} (c : Cp K H (n + 1) a da) (h : isSeq da = true) : ∃ (p : Addr) (xs : List V), a = .ref p ∧ (SqL K H p xs ∨ SqT K H p xs) ∧ xs.length ≤ 100 ∧ Paired (Cp K H n) xs (items da) := by
  rcases c with c | ⟨p, xs, ds, rfl, rfl, sq, few, pr⟩ | ⟨p, xs, ds, rfl, rfl, sq, few, pr⟩ | ⟨p, o, rfl, rfl, _⟩
  · cases a <;> cases da <;> first | exact c.elim | cases h
  · exact ⟨p, xs, rfl, .inl sq, few, pr⟩
  · exact ⟨p, xs, rfl, .inr sq, few, pr⟩
  · cases h
theorem getW {ws : List V} (six : ws.length = 6) {i : Nat} {r : Str} {x : V} (hr : recs[i]? = some r) (hx : ws[i]? = some x) : valV (dictW ws) (Sum.inr r : Key) = some x := by
  match ws, six with
  | [a, b, c, d, e, f], _ =>
    match i, hr, hx with
    | 0, hr, hx => cases hr; cases hx; rfl
    | 1, hr, hx => cases hr; cases hx; rfl
    | 2, hr, hx => cases hr; cases hx; rfl
    | 3, hr, hx => cases hr; cases hx; rfl
    | 4, hr, hx => cases hr; cases hx; rfl
    | 5, hr, hx => cases hr; cases hx; rfl
    | i + 6, hr, hx => cases hr
section
variable {P : Program} {w : World} {K : PySem.W.Frag} {mg : Str → Option Value} {base : Heap} {tR tW tO tP : Addr}
theorem ok_wrong {f fL fU : Addr} {fd fdL fdU : FuncData} (F : Fun K "wrong_part" "wrong_part" sWrong f fd) (N : Tups K mg tR tW tO tP)
    (GL : FnOk P w K mg base CX0 1 fL fdL ["thing"] (spIsList K)) (gL : mg "is_list" = some (.ref fL)) (kL : PySem.W.keepIn K (.ref fL) = true) (bL : Binds K fdL ["thing"] [])
    (GU : FnOk P w K mg base CX0 1 fU fdU ["items", "choices"] (spUnfit K)) (gU : mg "first_unfit" = some (.ref fU)) (kU : PySem.W.keepIn K (.ref fU) = true) (bU : Binds K fdU ["items", "choices"] []) :
    FnOk P w K mg base CX0 2 f fd ["words", "answers", "presume"] (spWrong K) := by
  refine F.ok scWrong (fun vs H Q E h => ?_) (fun cdv A outer s H vs Q E hr h => ?_)
  · obtain ⟨n, dW, a, p, ws, ds, da, dp, rfl, _⟩ := h
    rfl
  · obtain ⟨n, dW, a, p, ws, ds, da, dp, rfl, hd, six, pr, ca, cp, k⟩ := h
    have hr1 : Room 1 _ := hr.mono (by decide)
    refine ⟨_, pss_cons (ps_for PassesOwn.never rfl (pi_tup (pe_glob (v := .ref tR) (by rfl) N.gR rfl)) (pg_name (i := 3) scWrong.nd rfl (Or.inl rfl))
        (pss_one (ps_if (pt_cmpR (op_noWord hr.units) (pe_dget (hu_of hr) (pv 0) (pv 3) (fun _ _ => rfl)) (pe_glob (v := .ref tW) (by rfl) N.gW rfl) (by rfl)) (pss_one (ps_ret (pv 3))) pss_nil)))
      (pss_cons (ps_if (PW.pt (pw_or (pt_not (pt_val (pe_call GL hr1 rfl gL kL bL .nil pass0 (pa_cons (pv 1) pa_nil))))
          (pw_or1 (pt_cmpR op_notN (pe_call GU hr1 rfl gU kU bU .nil pass0 (pa_cons (pv 1) (pa_cons (pe_glob (v := .ref tO) (by rfl) N.gO rfl) pa_nil))) pe_non (by rfl))))) (pss_one (ps_ret pe_str)) pss_nil)
      (pss_cons (ps_if (pt_cmpR (op_noWord hr.units) (pv 2) (pe_glob (v := .ref tP) (by rfl) N.gP rfl) (by rfl)) (pss_one (ps_ret pe_str)) pss_nil)
      (pss_one (ps_ret pe_non)))), ?_⟩
    refine ⟨tR, rfl, ⟨_, N.sR H⟩, for_it (walk_tup (K := K) (a := tR) (xs := recs.map V.str)) (fun i σ H1 => ∃ v3 : Option V, σ = [some (.ref dW), some a, some p, v3] ∧ Same H H1 ∧ wrongW (recs.drop i) (ds.drop i) = wrongW recs ds)
      ⟨_, rfl, Same.refl H, rfl⟩ (fun i σ H1 _ _ => N.sR H1) ?_ ?_⟩
    · rintro i y σ H1 H2 hi ⟨v3, rfl, s1, same⟩ ⟨rfl, hy⟩
      have i6 : i < 6 := by
        have q : i < (recs.map V.str).length := hi
        exact q
      obtain ⟨r, hr', ey⟩ : ∃ r, recs[i]? = some r ∧ y = .str r := by
        have q : (recs.map V.str)[i]? = some y := hy
        rw [List.getElem?_map] at q
        obtain ⟨r, h1, h2⟩ := Option.map_eq_some_iff.mp q
        exact ⟨r, h1, h2.symm⟩
      subst ey
      obtain ⟨x, hx⟩ : ∃ x, ws[i]? = some x := ⟨ws[i]'(by omega), by simp [six, i6]⟩
      obtain ⟨d, hdd, cx⟩ := pairAt pr hx
      rw [dropAt hr', dropAt hdd] at same
      refine ⟨_, rfl, _, rfl, dW, x, rfl, ?_, n + 1, d, tW, wordsL, cx.same s1, rfl, N.sW _, _, rfl, ?_⟩
      · rw [← getW six hr' hx]
        exact DGet.k (k := Sum.inr r) (s1 _ _ hd)
      · cases hw : isW d wordsL with
        | false =>
          rw [show (true ^^ false) = true from rfl, if_pos rfl]
          refine ⟨_, rfl, ?_⟩
          have stop : wrong ds da dp = some r := by
            unfold wrong
            rw [← same]
            show (match (if isW d wordsL = true then _ else some r) with | some r => some r | none => _) = some r
            rw [hw, if_neg Bool.false_ne_true]
          have q := k _ s1
          rw [stop] at q
          exact q
        | true =>
          rw [show (true ^^ true) = false from rfl, if_neg Bool.false_ne_true]
          refine ⟨_, rfl, s1, ?_⟩
          rw [← same]
          show _ = (if isW d wordsL = true then _ else some r)
          rw [hw, if_pos rfl]
    · rintro σ H1 ⟨v3, rfl, s1, same⟩
      have none : wrongW recs ds = none := by
        rw [← same]
        rfl
      have ans : ∀ b : Option Str, (if isSeq da = true ∧ unfit outs [] (items da) 0 = Option.none then (if isW dp pres = true then Option.none else some ("presume" : Str)) else some ("answers" : Str)) = b → wrong ds da dp = b := fun b e => by
        unfold wrong
        rw [none]
        exact e
      refine ⟨_, rfl, n + 1, a, da, rfl, ca.same s1, fun H2 s2 => ⟨_, rfl, ?_⟩⟩
      have s12 := s1.trans s2
      cases hs : isSeq da with
      | false =>
        refine ifT rfl (ifT rfl ?_)
        have q := k _ s12
        rw [ans _ (if_neg fun z => by rw [hs] at z; cases z.1)] at q
        exact q
      | true =>
        refine ifF rfl ?_
        obtain ⟨ap, xs, rfl, sq, few, pa⟩ := seqItems ca hs
        refine ⟨_, rfl, n, ap, tO, xs, items da, outs, rfl, sq.imp (fun z => s12.seq z) (fun z => sameT s12 z), few, L2.Paired.mapP pa fun _ _ z => z.same s12, N.sO _, fun H3 s3 => ⟨rfl, _, rfl, ?_⟩⟩
        have s13 := s12.trans s3
        cases hu : unfit outs [] (items da) 0 with
        | some i =>
          refine ifT (by simp) ?_
          have q := k _ s13
          rw [ans _ (if_neg fun z => by rw [hu] at z; cases z.2)] at q
          exact q
        | none =>
          refine ifF (by simp) ?_
          refine ⟨_, rfl, n + 1, dp, tP, pres, cp.same s13, rfl, N.sP _, _, rfl, ?_⟩
          cases hw : isW dp pres with
          | false =>
            refine ifT rfl ?_
            have q := k _ s13
            rw [ans _ (if_pos ⟨hs, hu⟩), hw, if_neg Bool.false_ne_true] at q
            exact q
          | true =>
            refine ifF rfl ?_
            have q := k _ s13
            rw [ans _ (if_pos ⟨hs, hu⟩), hw, if_pos rfl] at q
            exact q
end
end Bk
namespace Ra
open PySem PySem.Spec PyProof.Rows L2 Ev Er Co Ow
/-! raise BadX(value), BadX one of the package's errors that keep a value. -/
/-- the error as the def's caller sees it in the air: its dict at dx holds a copy -/
def tRaised (K : PySem.W.Frag) (n : Nat) (C : Addr) (field : Str) (ta : TA) : L2.St → Hp → XK → Prop := fun σ H Q => ta σ H fun vs H1 => ∃ (v : V) (d : PyData), vs = [v] ∧ Cp K H1 n v d ∧
  ∀ (H' : Hp) (dx : Addr) (v' : V), Same H1 H' → H1 dx = none → H' dx = some (.xd [(field, v')]) → Cp K H' n v' d → Q (.ref C) (some dx) H'
section
variable {X : Cx} {n k : Nat} {name par field : Str} {C : Addr} {e : Expr} {ta : TA} {p pos : Pos}
theorem pmk_bad (O : OwnE X.prog X.w X.K X.mg X.base n k name par field C) (room : Room (k + 1) X.A) (hg : Gl X name) (ha : PA X [e] ta) (nodebug : (name == ("__debug__" : Str)) = false := by decide)
    (he : starEach [e] X.env = (false, eval e X.env) :: starEach [] X.env := by rfl) (hpl : (backTo pos (starEach [] X.env)).any (·.1) = false := by rfl) : PMk X (.Call (.Name name p) [e] [] pos) (tRaised X.K n C field ta) := by
  obtain ⟨fI, fd, F, iC, tI, b1, b2⟩ := O.ex
  have bind : Binds X.K fd ["self", par] [] := by
    intro s us _ len
    rw [List.append_nil] at len ⊢
    match us, len with
    | [u1, u2], _ => exact b1 s u1 u2
  have core := pmk_oex (p := p) (pos := pos) (e := e) (es := []) (ta := taW ta) O.oex iC tI F room bind .nil pass0 hg O.g (pa_wide ha) nodebug he hpl
  intro pins s σ H Q I h
  refine core pins s σ H Q I ⟨_, h, fun vs H1 ⟨v, d, ev, c, q⟩ => ⟨by rw [ev]; show 1 ≤ 1000; decide, fun a fa => ?_⟩⟩
  subst ev
  have s0 : Same H1 (upd H1 a (exo a C none)) := fun b o z => by
    rw [upd_ne (ne_of_none z fa)]
    exact z
  refine ⟨a, v, rfl, upd_same, v, d, rfl, c.same s0, fun H' v' s' cn => ⟨s' _ _ upd_same, fun dx fdx ne => ⟨rfl, dx, _, upd_same, by rw [upd_ne ne, upd_same], ?_, ?_⟩⟩⟩
  · exact (Same.trans s0 s').free fdx
  · refine q _ dx v' (fun b o z => ?_) ((Same.trans s0 s').free fdx) upd_same (cn _ fun b o h0 h1 => ?_)
    · have z1 := s' _ _ (s0 _ _ z)
      rw [upd_ne (ne_of_none z1 fdx), del_ne (ne_of_none z fa), upd_ne (ne_of_none z fa), upd_ne (ne_of_none z1 fdx)]
      exact z1
    · have na : b ≠ a := fun z => by rw [z, upd_same] at h0; cases h0
      rw [upd_ne (ne_of_none h1 fdx), del_ne na, upd_ne na, upd_ne (ne_of_none h1 fdx)]
      exact h1
end
end Ra
namespace Bi
open PySem PySem.Spec PyProof.Rows L2 Co Wi Ki Bk Ow Ra
open L2 (FunD)
/-! Book.__init__. -/
abbrev sInit : Stmt := inClass (Ki.top 18) 0
abbrev nInit : List Str := ["self", "begin", "yes", "no", "ready", "agreed", "refused", "answers", "presume", "words", "part", "outcome", "record"]
abbrev pInit : List Str := ["self", "begin", "yes", "no", "ready", "agreed", "refused", "answers", "presume"]
theorem scInit : FnScope nInit pInit (defScope sInit) := ⟨rfl, rfl, rfl, by decide +kernel, rfl, by decide +kernel, by decide +kernel⟩
/-- a book's attributes -/
def fields (ws : List V) (tA : Addr) (p : V) (tF dW : Addr) : List (Str × V) := recs.zip ws ++ ([("answers", .ref tA), ("presume", p), ("forced", .ref tF), ("_words", .ref dW)] : List (Str × V))
def eight (ws : List V) (tA : Addr) (p : V) : List (Str × V) := recs.zip ws ++ ([("answers", .ref tA), ("presume", p)] : List (Str × V))
/-- the records whose word is forced, in the records' order -/
def hard' (rs ss : List Str) : List Str := ((rs.zip ss).filter fun p => p.2 == ("forced" : Str)).map (·.1)
def hard (ss : List Str) : List Str := hard' recs ss
/-- the book with these words, answers (ascending), presumption stands at o -/
def BookAt (C : Addr) (H : Hp) (o : Addr) (ss as : List Str) (p : Str) : Prop := ∃ (dx tA tF dW : Addr) (ys : List Str), ss.length = 6 ∧ (∀ x ∈ as, outs.contains x = true) ∧ H o = some (.ins C dx (fields (ss.map V.str) tA (.str p) tF dW)) ∧ H tA = some (.tup (as.map V.str)) ∧
  ys.Perm (hard ss) ∧ sortedS ys = true ∧ H tF = some (.tup (ys.map V.str)) ∧ H dW = some (.dK (dictW (ss.map V.str)))
/-- what stood stands, but for o -/
def Off (o : Addr) (H H' : Hp) : Prop := ∀ b u, b ≠ o → H b = some u → H' b = some u
def spBook (K : PySem.W.Frag) (C CB : Addr) : Sp := fun vs H Q E => ∃ (n : Nat) (o dx : Addr) (a p : V) (ws : List V) (ds : List PyData) (da dp : PyData), vs = .ref o :: (ws ++ [a, p]) ∧ ws.length = 6 ∧ H o = some (.ins C dx []) ∧ Paired (Cp K H (n + 1)) ws ds ∧ Cp K H (n + 1) a da ∧ Cp K H (n + 1) p dp ∧
  (∀ x, wrong ds da dp = some x → ∀ (H' : Hp) (dd : Addr), Same H H' → H dd = none → H' dd = some (.xd [("part", .str x)]) → E (.ref CB) (some dd) H') ∧
  ∀ (ss as : List Str) (pre : Str), ds = ss.map PyData.str → items da = as.map PyData.str → dp = .str pre → wrong ds da dp = none → ∀ H', Off o H H' → BookAt C H' o ss (outs.filter as.contains) pre → Q .non H'
structure Cl (K : PySem.W.Frag) (C : Addr) : Prop where
  cl : Cls K C
  no : ∀ f ∈ recs ++ (["answers", "presume", "forced", "_words"] : List Str), NoAttr K C f
structure Bare (mg : Str → Option Value) : Prop where
  tuple : mg "tuple" = none
  sorted : mg "sorted" = none
theorem wordsOf : ∀ (rs : List Str) (ds : List PyData), rs.length = ds.length → wrongW rs ds = none → ∃ ss : List Str, ds = ss.map PyData.str ∧ ∀ s ∈ ss, wordsL.contains s = true
  | [], [], _, _ => ⟨[], rfl, fun s m => by cases m⟩
  | r :: rs, d :: ds, l, h => by
    have h' : (if isW d wordsL = true then wrongW rs ds else some r) = none := h
    by_cases hw : isW d wordsL = true
    · rw [if_pos hw] at h'
      obtain ⟨ss, e, q⟩ := wordsOf rs ds (by simpa using l) h'
      cases d <;> first | cases hw | skip
      rename_i s
      refine ⟨s :: ss, by rw [e] <;> rfl, fun t m => ?_⟩
      rcases List.mem_cons.mp m with z | z
      · rw [z]
        exact hw
      · exact q t z
    · rw [if_neg hw] at h'
      cases h'
theorem fitOf {ws : List Str} : ∀ (ds : List PyData) (seen : List Str) (i : Nat), unfit ws seen ds i = none → ∃ ss : List Str, ds = ss.map PyData.str ∧ ∀ s ∈ ss, ws.contains s = true ∧ seen.contains s = false
  | [], _, _, _ => ⟨[], rfl, fun s m => by cases m⟩
  | d :: ds, seen, i, h => by
    cases d <;> first | cases h | skip
    rename_i x
    have h' : (if ws.contains x = true ∧ seen.contains x = false then unfit ws (seen ++ [x]) ds (i + 1) else some i) = none := h
    by_cases hc : ws.contains x = true ∧ seen.contains x = false
    · rw [if_pos hc] at h'
      obtain ⟨ss, e, q⟩ := fitOf ds _ _ h'
      refine ⟨x :: ss, by rw [e] <;> rfl, fun t m => ?_⟩
      rcases List.mem_cons.mp m with z | z
      · rw [z]
        exact hc
      · refine ⟨(q t z).1, ?_⟩
        have z2 := (q t z).2
        rw [List.contains_eq_any_beq, List.any_append, Bool.or_eq_false_iff] at z2
        rw [List.contains_eq_any_beq]
        exact z2.1
    · rw [if_neg hc] at h'
      cases h'
/-- nothing is wrong: what is known then -/
theorem allRight {ds : List PyData} {da dp : PyData} (six : ds.length = 6) (h : wrong ds da dp = none) :
    (∃ ss : List Str, ds = ss.map PyData.str ∧ ∀ s ∈ ss, wordsL.contains s = true) ∧ isSeq da = true ∧ (∃ as : List Str, items da = as.map PyData.str ∧ ∀ s ∈ as, outs.contains s = true) ∧ ∃ pre : Str, dp = .str pre ∧ pres.contains pre = true := by
  unfold wrong at h
  cases hw : wrongW recs ds with
  | some r => rw [hw] at h; cases h
  | none =>
    rw [hw] at h
    dsimp only at h
    by_cases h1 : isSeq da = true ∧ unfit outs [] (items da) 0 = none
    · rw [if_pos h1] at h
      by_cases h2 : isW dp pres = true
      · refine ⟨wordsOf recs ds (by rw [six] <;> rfl) hw, h1.1, ?_, ?_⟩
        · obtain ⟨as, e, q⟩ := fitOf _ _ _ h1.2
          exact ⟨as, e, fun s m => (q s m).1⟩
        · cases dp <;> first | cases h2 | exact ⟨_, rfl, h2⟩
      · rw [if_neg h2] at h
        cases h
    · rw [if_neg h1] at h
      cases h
theorem six6 {ws : List V} (h : ws.length = 6) : ∃ a b c d e f, ws = [a, b, c, d, e, f] := match ws, h with
  | [a, b, c, d, e, f], _ => ⟨a, b, c, d, e, f, rfl⟩
theorem Off.self {o : Addr} {H H' : Hp} {u : HO} (h : Off o H H') : Off o H (upd H' o u) := fun b v nb e => by
  rw [upd_ne nb]
  exact h b v nb e
theorem Off.same {o : Addr} {H H' H2 : Hp} (h : Off o H H') (s : Same H' H2) : Off o H H2 := fun b v nb e => s _ _ (h b v nb e)
theorem Off.seq {K : PySem.W.Frag} {o C dx : Addr} {fs : List (Str × V)} {H H' : Hp} {a : Addr} {xs : List V} (h : Off o H H') (ho : H o = some (.ins C dx fs)) (q : SqL K H a xs ∨ SqT K H a xs) : SqL K H' a xs ∨ SqT K H' a xs := by
  have ne : ∀ {u : HO}, H a = some u → (∀ fs, u ≠ .ins C dx fs) → H' a = some u := fun {u} e n => h a u (fun z => by
    rw [z, ho] at e
    cases e
    exact n _ rfl) e
  rcases q with q | q
  · rcases q with (q | ⟨f, q⟩) | q
    · exact .inl (.inl (.inl (ne q fun fs z => by cases z)))
    · exact .inl (.inl (.inr ⟨f, ne q fun fs z => by cases z⟩))
    · exact .inl (.inr q)
  · rcases q with (q | ⟨f, q⟩) | q
    · exact .inr (.inl (.inl (ne q fun fs z => by cases z)))
    · exact .inr (.inl (.inr ⟨f, ne q fun fs z => by cases z⟩))
    · exact .inr (.inr q)
theorem ne_of_none' {H : Hp} {a b : Addr} {u : HO} (h : H a = some u) (f : H b = none) : b ≠ a := fun z => by
  rw [z, h] at f
  cases f
theorem takeOne {α : Type} {l : List α} {i : Nat} {x : α} (h : l[i]? = some x) : l.take (i + 1) = l.take i ++ [x] := by
  rw [List.take_add_one, h] <;> rfl
theorem hardMore {rs ss : List Str} {i : Nat} {r t : Str} (h1 : rs[i]? = some r) (h2 : ss[i]? = some t) : hard' (rs.take (i + 1)) (ss.take (i + 1)) = hard' (rs.take i) (ss.take i) ++ if (t == ("forced" : Str)) = true then [r] else [] := by
  have l1 := (List.getElem?_eq_some_iff.mp h1).1
  have l2 := (List.getElem?_eq_some_iff.mp h2).1
  unfold hard'
  rw [takeOne h1, takeOne h2, List.zip_append (by rw [List.length_take, List.length_take]; omega), List.filter_append, List.map_append]
  congr 1
  show List.map _ (List.filter _ [(r, t)]) = _
  cases hc : (t == ("forced" : Str)) with
  | true => rw [List.filter_cons_of_pos (by exact hc)] <;> rfl
  | false => rw [List.filter_cons_of_neg (by show ¬ (t == ("forced" : Str)) = true; rw [hc]; exact Bool.false_ne_true)] <;> rfl
theorem hardFew (rs ss : List Str) : (hard' rs ss).length ≤ rs.length := by
  unfold hard'
  rw [List.length_map]
  refine Nat.le_trans (List.length_filter_le _ _) ?_
  rw [List.length_zip]
  exact Nat.min_le_left _ _
theorem inV_texts {z : Str} {ss : List Str} : inV (.str z) (ss.map V.str) = ss.contains z := by
  unfold inV
  rw [List.any_map, List.contains_eq_any_beq]
  congr 1
  funext u
  show (u == z) = (z == u)
  exact Bool.beq_comm
section
variable {P : Program} {w : World} {K : PySem.W.Frag} {mg : Str → Option Value} {base : Heap} {tR tW tO tP C CB : Addr} {dvs : List V}
theorem ok_book {f fP : Addr} {fd fdP : FuncData} (F : FunD K "__init__" "Book.__init__" (defArgs sInit) (defBody sInit) (defScope sInit) dvs [] f fd) (N : Tups K mg tR tW tO tP) (L : Cl K C) (B : Bare mg)
    (GP : FnOk P w K mg base CX0 2 fP fdP ["words", "answers", "presume"] (spWrong K)) (gP : mg "wrong_part" = some (.ref fP)) (kP : PySem.W.keepIn K (.ref fP) = true) (bP : Binds K fdP ["words", "answers", "presume"] [])
    (EB : OwnE P w K mg base 3 5 "BadBook" "part" "part" CB) : FnOk P w K mg base (L2.CX P w) 7 f fd pInit (spBook K C CB) := by
  refine F.ok scInit (fun vs H Q E h => ?_) (fun cdv A outer s H vs Q E hr h => ?_)
  · obtain ⟨n, o, dx, a, p, ws, ds, da, dp, rfl, six, _⟩ := h
    simp [six]
  · obtain ⟨n, o, dx, a, p, ws, ds, da, dp, rfl, six, ho, pr, ca, cp, kx, kq⟩ := h
    have hr2 : Room 2 _ := hr.mono (by decide)
    refine ⟨_, pss_cons (ps_set (i := 9) scInit.nd rfl (Or.inr rfl) (pe_disp (pps_cons pe_str (pv 1) (pps_cons pe_str (pv 2) (pps_cons pe_str (pv 3) (pps_cons pe_str (pv 4) (pps_cons pe_str (pv 5) (pps_cons pe_str (pv 6) pps_nil)))))) (by rfl) (by rfl) (fun z => by cases z) (by decide)))
      (pss_cons (ps_set (i := 10) scInit.nd rfl (Or.inl rfl) (pe_call GP hr2 rfl gP kP bP .nil pass0 (pa_cons (pv 9) (pa_cons (pv 7) (pa_cons (pv 8) pa_nil)))))
      (pss_cons (ps_if (pt_cmpR op_notN (pv 10) pe_non (by rfl)) (pss_one (ps_raise rfl (takes_of rfl rfl rfl rfl) (pmk_bad EB hr (by rfl) (pa_cons (pv 10) pa_nil)))) pss_nil)
      (pss_cons (ps_fld (pv 0) (pv 1) rfl) (pss_cons (ps_fld (pv 0) (pv 2) rfl) (pss_cons (ps_fld (pv 0) (pv 3) rfl) (pss_cons (ps_fld (pv 0) (pv 4) rfl) (pss_cons (ps_fld (pv 0) (pv 5) rfl) (pss_cons (ps_fld (pv 0) (pv 6) rfl)
      (pss_cons (ps_fld (pv 0) (pe_callTy call_tuple_of (by rfl) B.tuple bTuple (pa_cons (pe_lc (own := [("outcome", 11)]) (g := gName 11) rfl scInit.nd (pi_tup (pe_glob (v := .ref tO) (by rfl) N.gO rfl)) (blkOk_by (N := nInit) (sc := defScope sInit) (by decide +kernel))
          (fun _ _ _ _ _ => pg_name (i := 11) scInit.nd rfl (Or.inl rfl)) (fun _ _ _ _ _ => pts_one (pt_cmpR (show OpR _ (compareOp .In) (rIn K false) from op_in_seq) (pv 11) (pv 7) (by rfl))) (fun _ _ _ _ _ => pv 11)) pa_nil)) rfl)
      (pss_cons (ps_fld (pv 0) (pv 8) rfl)
      (pss_cons (ps_fld (pv 0) (pe_callTy call_tuple_of (by rfl) B.tuple bTuple (pa_cons (pe_callB cr_sortedS (by rfl) B.sorted (by decide +kernel) (pa_cons (pe_lc (own := [("record", 12)]) (g := gName 12) rfl scInit.nd (pi_tup (pe_glob (v := .ref tR) (by rfl) N.gR rfl)) (blkOk_by (N := nInit) (sc := defScope sInit) (by decide +kernel))
          (fun _ _ _ _ _ => pg_name (i := 12) scInit.nd rfl (Or.inl rfl)) (fun _ _ _ _ _ => pts_one (pt_cmpR op_eq (pe_dget (hu_of hr) (pv 9) (pv 12) (fun _ _ => rfl)) pe_str (nomark _))) (fun _ _ _ _ _ => pv 12)) pa_nil)) pa_nil)) rfl)
      (pss_one (ps_fld (pv 0) (pv 9) rfl)))))))))))))
      , ?_⟩
    obtain ⟨w1, w2, w3, w4, w5, w6, rfl⟩ := six6 six
    refine fun dW fW => ⟨w1, rfl, w2, rfl, w3, rfl, w4, rfl, w5, rfl, w6, rfl, upd_same, dictW [w1, w2, w3, w4, w5, w6], rfl, (by show 6 ≤ 15; decide), ?_⟩
    have hW : upd (upd H dW (.dK [])) dW (.dK (mergeK [] (dictW [w1, w2, w3, w4, w5, w6]))) dW = some (.dK (dictW [w1, w2, w3, w4, w5, w6])) := upd_same
    have s1 : Same H (upd (upd H dW (.dK [])) dW (.dK (mergeK [] (dictW [w1, w2, w3, w4, w5, w6])))) := by
      rw [upd_upd]
      exact sameUp (Same.refl H) fW
    generalize upd (upd H dW (.dK [])) dW (.dK (mergeK [] (dictW [w1, w2, w3, w4, w5, w6]))) = H1 at hW s1 ⊢
    refine ⟨_, rfl, a, rfl, p, rfl, n, dW, a, p, [w1, w2, w3, w4, w5, w6], ds, da, dp, rfl, hW, rfl, L2.Paired.mapP pr fun _ _ z => z.same s1, ca.same s1, cp.same s1, fun H2 s2 => ?_⟩
    have s12 := s1.trans s2
    cases hw : wrong ds da dp with
    | some x =>
      refine ⟨_, rfl, rfl, _, rfl, ifT rfl ?_⟩
      refine ⟨_, rfl, .str x, .str x, rfl, .inl rfl, fun H' dd v' s3 fd hd cv => ?_⟩
      rw [cpStr cv] at hd
      exact kx x hw H' dd (s12.trans s3) (s12.free fd) hd
    | none =>
      refine ⟨_, rfl, rfl, _, rfl, ifF rfl ?_⟩
      have six' : ds.length = 6 := by
        rw [← pr.length]
        rfl
      obtain ⟨⟨ss, eds, okS⟩, isq, ⟨as, eas, okA⟩, pre, edp, okP⟩ := allRight six' hw
      have sixS : ss.length = 6 := by
        rw [eds, List.length_map] at six'
        exact six'
      have ews : [w1, w2, w3, w4, w5, w6] = ss.map V.str := textsOf (n := n + 1) (K := K) (H := H) (by rw [← eds]; exact pr)
      subst edp
      have ep := cpStr cp
      subst ep
      obtain ⟨ap, xa, rfl, sqa, fewA, prA⟩ := seqItems ca isq
      rw [eas] at prA
      have exa := textsOf prA
      subst exa
      have ho2 : H2 o = some (.ins C dx []) := s12 _ _ ho
      have off2 : Off o H H2 := fun b u _ e => s12 _ _ e
      have hW2 : H2 dW = some (.dK (dictW (ss.map V.str))) := by
        rw [← ews]
        exact s2 _ _ hW
      have oW : dW ≠ o := fun z => by
        rw [z] at hW2
        rw [hW2] at ho2
        cases ho2
      refine ⟨w1, rfl, _, rfl, o, C, dx, _, rfl, ho2, L.cl, L.no _ (by decide), (by decide), ?_⟩
      refine ⟨w2, rfl, _, rfl, o, C, dx, _, rfl, upd_same, L.cl, L.no _ (by decide), (by show 1 < 1000; decide), ?_⟩
      refine ⟨w3, rfl, _, rfl, o, C, dx, _, rfl, upd_same, L.cl, L.no _ (by decide), (by show 2 < 1000; decide), ?_⟩
      refine ⟨w4, rfl, _, rfl, o, C, dx, _, rfl, upd_same, L.cl, L.no _ (by decide), (by show 3 < 1000; decide), ?_⟩
      refine ⟨w5, rfl, _, rfl, o, C, dx, _, rfl, upd_same, L.cl, L.no _ (by decide), (by show 4 < 1000; decide), ?_⟩
      refine ⟨w6, rfl, _, rfl, o, C, dx, _, rfl, upd_same, L.cl, L.no _ (by decide), (by show 5 < 1000; decide), ?_⟩
      rw [upd_upd, upd_upd, upd_upd, upd_upd, upd_upd, show putF ("refused" : Str) w6 (putF ("agreed" : Str) w5 (putF ("ready" : Str) w4 (putF ("no" : Str) w3 (putF ("yes" : Str) w2 (putF ("begin" : Str) w1 []))))) = recs.zip [w1, w2, w3, w4, w5, w6] from rfl]
      have ho3 : upd H2 o (.ins C dx (recs.zip [w1, w2, w3, w4, w5, w6])) o = some (.ins C dx (recs.zip [w1, w2, w3, w4, w5, w6])) := upd_same
      have off3 : Off o H (upd H2 o (.ins C dx (recs.zip [w1, w2, w3, w4, w5, w6]))) := off2.self
      have hW3 : upd H2 o (.ins C dx (recs.zip [w1, w2, w3, w4, w5, w6])) dW = some (.dK (dictW (ss.map V.str))) := by
        rw [upd_ne oW]
        exact hW2
      have sq3 : SqL K (upd H2 o (.ins C dx (recs.zip [w1, w2, w3, w4, w5, w6]))) ap (as.map V.str) ∨ SqT K (upd H2 o (.ins C dx (recs.zip [w1, w2, w3, w4, w5, w6]))) ap (as.map V.str) := off3.seq ho sqa
      generalize upd H2 o (.ins C dx (recs.zip [w1, w2, w3, w4, w5, w6])) = H3 at ho3 off3 hW3 sq3 ⊢
      -- the answers
      refine ⟨tO, rfl, ⟨_, N.sO _⟩, fun D fD => lc_tup (K := K) (a := tO) (xs := outs.map V.str) (fun i H' => H' D = some (.lst (((outs.take i).filter as.contains).map V.str)) ∧ Same H3 H') ⟨upd_same, sameUp (Same.refl H3) fD⟩ (fun i H' _ _ => N.sO H')
        (fun i x H' hx ⟨hD, s4⟩ => ?_) (fun H4 ⟨hD, s4⟩ => ?_)⟩
      · obtain ⟨r, hr', rfl⟩ : ∃ r, outs[i]? = some r ∧ x = .str r := by
          rw [List.getElem?_map] at hx
          obtain ⟨r, h1, h2⟩ := Option.map_eq_some_iff.mp hx
          exact ⟨r, h1, h2.symm⟩
        refine ⟨rfl, ⟨_, rfl, .ref ap, rfl, ap, as.map V.str, rfl, sq3.imp (fun z => s4.seq z) (fun z => sameT s4 z), rfl, by simp [flatV], _, rfl, ?_⟩⟩
        have more := takeOne hr'
        show (if inV (.str r) (as.map V.str) = true then _ else _)
        rw [inV_texts]
        cases hc : as.contains r with
        | true =>
          rw [if_pos rfl]
          refine ⟨.str r, rfl, _, hD, (by rw [List.length_map]; exact Nat.lt_of_le_of_lt (Nat.le_trans (List.length_filter_le _ _) (List.length_take_le' _ _)) (by decide : outs.length < sizeLine)), ?_, fun b u e => by rw [upd_ne (ne_of_none e fD)]; exact s4 b u e⟩
          rw [upd_same, more, List.filter_append, List.filter_cons_of_pos hc, List.map_append] <;> rfl
        | false =>
          rw [if_neg Bool.false_ne_true]
          refine ⟨?_, s4⟩
          rw [hD, more, List.filter_append, List.filter_cons_of_neg (by rw [hc]; exact Bool.false_ne_true), List.filter_nil, List.append_nil]
      · have hD' : H4 D = some (.lst ((outs.filter as.contains).map V.str)) := hD
        refine ⟨D, _, rfl, .inl ⟨.inl (.inl hD'), fun tA fA => ?_⟩⟩
        have off4 : Off o H H4 := off3.same s4
        have ho4 : upd H4 tA (.tup ((outs.filter as.contains).map V.str)) o = some (.ins C dx (recs.zip [w1, w2, w3, w4, w5, w6])) := by
          rw [upd_ne (ne_of_none (s4 _ _ ho3) fA)]
          exact s4 _ _ ho3
        refine ⟨_, rfl, o, C, dx, _, rfl, ho4, L.cl, L.no _ (by decide), (by show 6 < 1000; decide), ?_⟩
        refine ⟨_, rfl, _, rfl, o, C, dx, _, rfl, upd_same, L.cl, L.no _ (by decide), (by show 7 < 1000; decide), ?_⟩
        rw [upd_upd, show putF ("presume" : Str) (.str pre) (putF ("answers" : Str) (.ref tA) (recs.zip [w1, w2, w3, w4, w5, w6])) = eight [w1, w2, w3, w4, w5, w6] tA (.str pre) from rfl]
        have ho5 : upd (upd H4 tA (.tup ((outs.filter as.contains).map V.str))) o (.ins C dx (eight [w1, w2, w3, w4, w5, w6] tA (.str pre))) o = some (.ins C dx (eight [w1, w2, w3, w4, w5, w6] tA (.str pre))) := upd_same
        have oA : tA ≠ o := ne_of_none' (s4 _ _ ho3) fA
        have hA5 : upd (upd H4 tA (.tup ((outs.filter as.contains).map V.str))) o (.ins C dx (eight [w1, w2, w3, w4, w5, w6] tA (.str pre))) tA = some (.tup ((outs.filter as.contains).map V.str)) := by
          rw [upd_ne oA, upd_same]
        have hW5 : upd (upd H4 tA (.tup ((outs.filter as.contains).map V.str))) o (.ins C dx (eight [w1, w2, w3, w4, w5, w6] tA (.str pre))) dW = some (.dK (dictW (ss.map V.str))) := by
          rw [upd_ne oW, upd_ne (ne_of_none (s4 _ _ hW3) fA)]
          exact s4 _ _ hW3
        have off5 : Off o H (upd (upd H4 tA (.tup ((outs.filter as.contains).map V.str))) o (.ins C dx (eight [w1, w2, w3, w4, w5, w6] tA (.str pre)))) := (off4.same (sameUp (Same.refl H4) fA)).self
        generalize upd (upd H4 tA (.tup ((outs.filter as.contains).map V.str))) o (.ins C dx (eight [w1, w2, w3, w4, w5, w6] tA (.str pre))) = H5 at ho5 hA5 hW5 off5 ⊢
        -- the forced ones
        refine ⟨tR, rfl, ⟨_, N.sR _⟩, fun D fD => lc_tup (K := K) (a := tR) (xs := recs.map V.str) (fun i H' => H' D = some (.lst ((hard' (recs.take i) (ss.take i)).map V.str)) ∧ Same H5 H') ⟨upd_same, sameUp (Same.refl H5) fD⟩ (fun i H' _ _ => N.sR H')
          (fun i x H' hx ⟨hD, s6⟩ => ?_) (fun H6 ⟨hD, s6⟩ => ?_)⟩
        · obtain ⟨r, hr', rfl⟩ : ∃ r, recs[i]? = some r ∧ x = .str r := by
            rw [List.getElem?_map] at hx
            obtain ⟨r, h1, h2⟩ := Option.map_eq_some_iff.mp hx
            exact ⟨r, h1, h2.symm⟩
          have i6 : i < 6 := (List.getElem?_eq_some_iff.mp hr').1
          obtain ⟨t, ht⟩ : ∃ t, ss[i]? = some t := ⟨ss[i]'(by omega), by simp [sixS, i6]⟩
          refine ⟨rfl, ⟨_, rfl, _, rfl, dW, .str t, rfl, ?_, rfl, _, rfl, ?_⟩⟩
          · rw [← getW (ws := ss.map V.str) (by rw [List.length_map]; exact sixS) hr' (by rw [List.getElem?_map, ht] <;> rfl)]
            exact DGet.k (k := Sum.inr r) (s6 _ _ hW5)
          · have more := hardMore hr' ht
            cases hc : (t == ("forced" : Str)) with
            | true =>
              refine ifT (by simpa using hc) ⟨.str r, rfl, _, hD, (by rw [List.length_map]; exact Nat.lt_of_le_of_lt (hardFew _ _) (Nat.lt_of_le_of_lt (List.length_take_le' _ _) (by decide : recs.length < sizeLine))), ?_, fun b u e => by rw [upd_ne (ne_of_none e fD)]; exact s6 b u e⟩
              rw [upd_same, more, hc, if_pos rfl, List.map_append] <;> rfl
            | false =>
              refine ifF (by simpa using hc) ⟨?_, s6⟩
              rw [hD, more, hc, if_neg Bool.false_ne_true, List.append_nil]
        · have hD' : H6 D = some (.lst ((hard ss).map V.str)) := by
            have z : ss.take (recs.map V.str).length = ss := by
              rw [show (recs.map V.str).length = ss.length from sixS.symm, List.take_length]
            rw [z] at hD
            exact hD
          refine ⟨D, hard ss, rfl, .inl (.inl hD'), Nat.lt_of_le_of_lt (hardFew _ _) (by decide : recs.length < 64), fun ys l perm sorted fl => ?_⟩
          have s7 : Same H5 (upd H6 l (.lst (ys.map V.str))) := sameUp s6 fl
          refine ⟨l, _, rfl, .inl ⟨.inl (.inl upd_same), fun tF fF => ?_⟩⟩
          generalize upd H6 l (.lst (ys.map V.str)) = H7 at s7 fF ⊢
          have ho7 : upd H7 tF (.tup (ys.map V.str)) o = some (.ins C dx (eight [w1, w2, w3, w4, w5, w6] tA (.str pre))) := by
            rw [upd_ne (ne_of_none (s7 _ _ ho5) fF)]
            exact s7 _ _ ho5
          refine ⟨_, rfl, o, C, dx, _, rfl, ho7, L.cl, L.no _ (by decide), (by show 8 < 1000; decide), ?_⟩
          refine ⟨_, rfl, _, rfl, o, C, dx, _, rfl, upd_same, L.cl, L.no _ (by decide), (by show 9 < 1000; decide), ?_⟩
          rw [upd_upd, show putF ("_words" : Str) (.ref dW) (putF ("forced" : Str) (.ref tF) (eight [w1, w2, w3, w4, w5, w6] tA (.str pre))) = fields [w1, w2, w3, w4, w5, w6] tA (.str pre) tF dW from rfl]
          refine kq ss as pre eds eas rfl hw _ ((off5.same s7).same (sameUp (Same.refl H7) fF)).self ⟨dx, tA, tF, dW, ys, sixS, fun x m => List.contains_iff_mem.mpr (List.mem_filter.mp m).1, ?_, ?_, perm, sorted, ?_, ?_⟩
          · rw [upd_same, ews]
          · rw [upd_ne oA, upd_ne (ne_of_none (s7 _ _ hA5) fF)]
            exact s7 _ _ hA5
          · rw [upd_ne (ne_of_none' (s7 _ _ ho5) fF), upd_same]
          · rw [upd_ne oW, upd_ne (ne_of_none (s7 _ _ hW5) fF)]
            exact s7 _ _ hW5
end
end Bi
namespace Bm
open PySem PySem.Spec PyProof.Rows L2 Co Wi Ki Bk Bi Ow
/-! Book(..), as the callers see it. -/
/-- a book is made, or BadBook names the first wrong part -/
def spMade (K : PySem.W.Frag) (C CB : Addr) : Sp := fun vs H Q E => ∃ (n : Nat) (a p : V) (ws : List V) (ds : List PyData) (da dp : PyData), vs = ws ++ [a, p] ∧ ws.length = 6 ∧ Paired (Cp K H (n + 1)) ws ds ∧ Cp K H (n + 1) a da ∧ Cp K H (n + 1) p dp ∧
  (∀ x, wrong ds da dp = some x → ∀ (H' : Hp) (dd : Addr), Same H H' → H dd = none → H' dd = some (.xd [("part", .str x)]) → E (.ref CB) (some dd) H') ∧
  ∀ (ss as : List Str) (pre : Str), ds = ss.map PyData.str → items da = as.map PyData.str → dp = .str pre → wrong ds da dp = none → ∀ (H' : Hp) (o : Addr), Same H H' → H o = none → BookAt C H' o ss (outs.filter as.contains) pre → Q (.ref o) H'
theorem madeRd {K : PySem.W.Frag} {C CB : Addr} {vs : List V} {H : Hp} {Q : VK} {E : XK} (h : spMade K C CB vs H Q E) : ∀ x dx, H x = none → H dx = none → dx ≠ x → spBook K C CB (.ref x :: vs) (upd (upd H dx (.own x)) x (.ins C dx [])) (fun v H2 => v = .non ∧ Q (.ref x) H2) E := by
  intro x dx hx hdx ne
  obtain ⟨n, a, p, ws, ds, da, dp, rfl, six, pr, ca, cp, bad, good⟩ := h
  have s0 : Same H (upd (upd H dx (.own x)) x (.ins C dx [])) := fun b o e => by
    rw [upd_ne (ne_of_none e hx), upd_ne (ne_of_none e hdx)]
    exact e
  refine ⟨n, x, dx, a, p, ws, ds, da, dp, rfl, six, upd_same, L2.Paired.mapP pr fun _ _ z => z.same s0, ca.same s0, cp.same s0, fun y hw H' dd s1 fd hd => bad y hw H' dd (s0.trans s1) (s0.free fd) hd, fun ss as pre e1 e2 e3 hw H' off bk => ⟨rfl, good ss as pre e1 e2 e3 hw H' x (fun b o e => ?_) hx bk⟩⟩
  exact off b o (ne_of_none e hx) (s0 _ _ e)
def tBook (K : PySem.W.Frag) (C CB : Addr) (dvs : List V) (E : XK) (ta : TA) : TE := fun σ H Q => ta σ H fun vs H1 => spMade K C CB (vs ++ dvs) H1 Q E
section
variable {X : Cx} {C CB f : Addr} {fd : FuncData} {ds : List Value} {dvs : List V} {E : XK} {e : Expr} {es : List Expr} {ta : TA} {p pos : Pos}
theorem pe_book (M : Mk X.K C f) (F : FnOk X.prog X.w X.K X.mg X.base (L2.CX X.prog X.w) 7 f fd pInit (spBook X.K C CB)) (room : Room 8 X.A) (hg : Gl X "Book") (hm : X.mg "Book" = some (.ref C)) (hb : Binds X.K fd pInit ds) (hd : Vals dvs ds) (hx : Passes (L2.CX X.prog X.w) X E)
    (ha : PA X (e :: es) ta) (n2 : starEach (e :: es) X.env = (false, eval e X.env) :: starEach es X.env := by rfl) (n3 : (backTo pos (starEach es X.env)).any (·.1) = false := by rfl) : PE X (.Call (.Name "Book" p) (e :: es) [] pos) (tBook X.K C CB dvs E ta) := by
  refine weaken (pe_make (p := p) (pos := pos) M F room hg hm hb hd hx (pa_wide ha) (by decide) n2 n3) fun σ H Q h => ⟨_, h, fun vs H1 z => ?_⟩
  exact madeRd z
/-- by name alone: g puts self and the keywords' values in the parameters' order -/
def tBookK (K : PySem.W.Frag) (C CB : Addr) (m : Nat) (gV : List V → List V → List V) (E : XK) (tk : TA) : TE := fun σ H Q => tk σ H fun zs H1 => zs.length = m ∧ ∃ vs : List V, (∀ x, gV [x] zs = x :: vs) ∧ spMade K C CB vs H1 Q E
theorem pe_bookK {ks : List Str} {g : List Value → List Value → List Value} {gV : List V → List V → List V} {kws : List Keyword} {tk : TA} (M : Mk X.K C f) (F : FnOk X.prog X.w X.K X.mg X.base (L2.CX X.prog X.w) 7 f fd pInit (spBook X.K C CB)) (room : Room 8 X.A)
    (hg : Gl X "Book") (hm : X.mg "Book" = some (.ref C)) (hb : KBn X.K fd pInit 1 ks g gV) (hx : Passes (L2.CX X.prog X.w) X E) (hk : PK X kws tk) (all : (backToKw pos (keywordEach kws X.env)).all (·.1.isSome) = true := by rfl)
    (names : (backToKw pos (keywordEach kws X.env)).filterMap (·.1) = ks := by rfl) (n3 : ((backTo pos (starEach [] X.env)).any (·.1) || (backToKw pos (keywordEach kws X.env)).any (·.1.isNone)) = false := by rfl) :
    PE X (.Call (.Name "Book" p) [] kws pos) (tBookK X.K C CB ks.length gV E tk) := by
  constructor
  intro pins s σ H Q I h
  apply wpAny_Call_Name_kw
  apply ld_glob I hg hm _ (by decide)
  apply PySem.W.callWith_KW0 (h₀ := X.base) I.ok.mod.kin M.kp all _ n3
  refine thn (hk.run pos pins s σ H _ I h) fun us s1 ⟨zs, H1, I1, r1, len, vs, eg, z⟩ => ⟨I1.kIn, ?_⟩
  rw [names]
  refine run_makeN (n := 0) M F room hb hx I1 .nil r1 rfl len fun x dx hx hdx ne => ?_
  rw [eg]
  exact madeRd z x dx hx hdx ne
end
/-- binding by name where defaults stand -/
theorem kbinds {K : PySem.W.Frag} {x qual : Str} {params : Arguments} {body : List Stmt} {scope : Scope} {dvs : List V} {f : Addr} {fd : FuncData} {ps : List Str} (F : FunD K x qual params body scope dvs [] f fd) (n : Nat) (ks : List Str) (g : {α : Type} → List α → List α → List α → List α) (some_ : dvs ≠ [])
    (rel : ∀ {vs ds zs : List V} {us its ws : List Value}, Vals vs us → Vals ds its → Vals zs ws → Vals (g vs ds zs) (g us its ws))
    (h : ∀ (T : Addr) (kV doc pm : Value) (an : Option Addr) (cdv ct : Value) (us its ws : List Value), us.length = n → its.length = dvs.length → ws.length = ks.length →
      ∃ k, bindArgs (PySem.W.fnOf x qual params body scope (.ref T) kV doc pm an cdv ct) ⟨us, ks.zip ws⟩ = seqItems? (.ref T) >>= k ∧ k (some its.toArray) = pure (ps.zip (g us its ws))) :
    ∃ its : List Value, KBn K fd ps n ks (fun us ws => g us its ws) (fun vs zs => g vs dvs zs) := by
  obtain ⟨oc, od, dV, kV, doc, pm, an, cdv, ct, osl, rfl, lk, hcd, hD, _⟩ := F.ex
  rcases hD with ⟨e, _⟩ | ⟨_, T, o, its, m, rfl, lT, oT, rT⟩
  · exact absurd e some_
  · refine ⟨its, ⟨fun s us ws X l1 l2 => ?_, fun r1 r2 => rel r1 rT r2⟩⟩
    obtain ⟨k, e1, e2⟩ := h T kV doc pm an cdv ct us its ws l1 rT.length.symm l2
    refine BindsTo.of_looks fun M => ?_
    rw [e1]
    exact looks_items X lT oT (.of_pure e2)
end Bm
namespace Be
open PySem PySem.Spec PyProof.Rows L2 Co Wi Ki Bk Ow Ra Bi
/-! Book.__eq__. -/
abbrev sEq : Stmt := inClass (Ki.top 18) 1
theorem scEq : FnScope ["self", "other"] ["self", "other"] (defScope sEq) := ⟨rfl, rfl, rfl, by decide +kernel, rfl, by decide +kernel, by decide +kernel⟩
/-- what isinstance asks of the class -/
structure Isa (K : PySem.W.Frag) (C : Addr) : Prop where
  ha : PySem.W.findIn K (.ref C) "__class__" = some (some (.builtin "object.__class__"))
  hn : PySem.W.specialIn K (.builtin "object.__class__") "__get__" = some (some (.builtin "getset_descriptor.__get__"))
  ht : PySem.W.takesIn K (.builtin "object.__class__") = some true
  hm : PySem.W.mroIn K C (.type "object") = some true
/-- a value that is no book: its type is built in -/
def Alien (K : PySem.W.Frag) (C : Addr) (H : Hp) (y : V) : Prop := ∃ t : String, TyX K H y (.type t) ∧ PySem.W.kitOne K (.type t) (.ref C) = some false
def spEqB (K : PySem.W.Frag) (C : Addr) : Sp := fun vs H Q _ => ∃ (o : Addr) (y : V) (ss as : List Str) (p : Str), vs = [.ref o, y] ∧ BookAt C H o ss as p ∧
  ((∃ (o2 : Addr) (ss2 as2 : List Str) (p2 : Str), y = .ref o2 ∧ BookAt C H o2 ss2 as2 p2 ∧ Q (.bl (decide (ss = ss2 ∧ as = as2 ∧ p = p2))) H) ∨ (Alien K C H y ∧ Q (.bl false) H))
theorem split {A B : Prop} {c : Bool} (h1 : c = true → A) (h2 : c = false → B) : if c = true then A else B := by
  cases c with
  | true => exact ifT rfl (h1 rfl)
  | false => exact ifF rfl (h2 rfl)
theorem eqvTexts : ∀ xs ys : List Str, PyData.eqvAll (xs.map PyData.str) (ys.map PyData.str) = decide (xs = ys)
  | [], [] => rfl
  | [], _ :: _ => rfl
  | _ :: _, [] => rfl
  | x :: xs, y :: ys => by
    show PyData.eqvAll (PyData.str x :: xs.map PyData.str) (PyData.str y :: ys.map PyData.str) = _
    rw [PyData.eqvAll, eqvTexts xs ys]
    show ((x == y) && decide (xs = ys)) = _
    rw [Bool.eq_iff_iff]
    simp
theorem dpTexts {K : PySem.W.Frag} {H : Hp} : ∀ xs : List Str, DpAll K H (xs.map V.str) (xs.map PyData.str)
  | [] => .nil
  | x :: xs => .cons (.str x) (dpTexts xs)
theorem shapedTexts (xs : List Str) (ok : ∀ x ∈ xs, outs.contains x = true) : SeqAt.shaped (.tuple (xs.map PyData.str)) = true := by
  have good : ∀ x, outs.contains x = true → PyData.strOk x = true := fun x h => by
    have m : x ∈ outs := List.contains_iff_mem.mp h
    have all : ∀ x ∈ outs, PyData.strOk x = true := by decide +kernel
    exact all x m
  have lay : ∀ l : List Str, (∀ x ∈ l, outs.contains x = true) → PyData.canLayAll0 (l.map PyData.str) = true := fun l => by
    induction l with
    | nil => exact fun _ => rfl
    | cons x l ih =>
      intro ok
      show PyData.canLayAll0 (PyData.str x :: l.map PyData.str) = true
      rw [PyData.canLayAll0, ih fun y m => ok y (List.mem_cons_of_mem _ m), PyData.canLay0, good x (ok x List.mem_cons_self)]
      rfl
  have deep : ∀ l : List Str, PyData.depthAll (l.map PyData.str) ≤ 1 := fun l => by
    induction l with
    | nil => decide
    | cons x l ih =>
      show PyData.depthAll (PyData.str x :: l.map PyData.str) ≤ 1
      rw [PyData.depthAll]
      exact Nat.max_le.mpr ⟨by rw [PyData.depth]; decide, ih⟩
  refine Bool.and_eq_true_iff.mpr ⟨?_, decide_eq_true ?_⟩
  · rw [PyData.canLay0]
    exact lay xs ok
  · rw [PyData.depth]
    have := deep xs
    omega
theorem strs6 {ss : List Str} (h : ss.length = 6) : ∃ a b c d e f, ss = [a, b, c, d, e, f] := match ss, h with
  | [a, b, c, d, e, f], _ => ⟨a, b, c, d, e, f, rfl⟩
section
variable {P : Program} {w : World} {K : PySem.W.Frag} {mg : Str → Option Value} {base : Heap} {C : Addr}
theorem ok_eq {f : Addr} {fd : FuncData} (F : Fun K "__eq__" "Book.__eq__" sEq f fd) (L : Cl K C) (J : Isa K C) (iI : mg "isinstance" = none) (gC : mg "Book" = some (.ref C)) : FnOk P w K mg base CX0 1 f fd ["self", "other"] (spEqB K C) := by
  refine F.ok scEq (fun vs H Q E h => ?_) (fun cdv A outer s H vs Q E hr h => ?_)
  · obtain ⟨o, y, ss, as, p, rfl, _⟩ := h
    rfl
  · obtain ⟨o, y, ss, as, p, rfl, bk, h⟩ := h
    refine ⟨_, pss_one (ps_ret (pe_and (pe_callB call_isi (by rfl) iI bIsi (pa_cons (pv 1) (pa_cons (pe_glob (v := .ref C) (by rfl) gC rfl) pa_nil)))
      (pe_and (pe_cmpR op_eq (pe_fld (pv 0) rfl) (pe_fld (pv 1) rfl) (nomark _)) (pe_and (pe_cmpR op_eq (pe_fld (pv 0) rfl) (pe_fld (pv 1) rfl) (nomark _)) (pe_and (pe_cmpR op_eq (pe_fld (pv 0) rfl) (pe_fld (pv 1) rfl) (nomark _))
      (pe_and (pe_cmpR op_eq (pe_fld (pv 0) rfl) (pe_fld (pv 1) rfl) (nomark _)) (pe_and (pe_cmpR op_eq (pe_fld (pv 0) rfl) (pe_fld (pv 1) rfl) (nomark _)) (pe_and (pe_cmpR op_eq (pe_fld (pv 0) rfl) (pe_fld (pv 1) rfl) (nomark _))
      (pe_and (pe_cmpR (op_eqD hr.units) (pe_fld (pv 0) rfl) (pe_fld (pv 1) rfl) (nomark _)) (pe_one (pe_cmpR op_eq (pe_fld (pv 0) rfl) (pe_fld (pv 1) rfl) (nomark _)))))))))))), ?_⟩
    rcases h with ⟨o2, ss2, as2, p2, rfl, bk2, q⟩ | ⟨⟨t, ty, kit⟩, q⟩
    · obtain ⟨dx, tA, tF, dW, ys, six, okA, ho, hA, _, _, _, _⟩ := bk
      obtain ⟨dx2, tA2, tF2, dW2, ys2, six2, okA2, ho2, hA2, _, _, _, _⟩ := bk2
      obtain ⟨a1, a2, a3, a4, a5, a6, rfl⟩ := strs6 six
      obtain ⟨b1, b2, b3, b4, b5, b6, rfl⟩ := strs6 six2
      have out : ∀ b : Bool, decide ([a1, a2, a3, a4, a5, a6] = [b1, b2, b3, b4, b5, b6] ∧ as = as2 ∧ p = p2) = b → Q (.bl b) H := fun b e => by
        rw [← e]
        exact q
      refine ⟨_, rfl, _, _, .ref C, .ref C, true, rfl, .own C, .base (.ins ho2 L.cl J.ha J.hn J.ht J.hm), by unfold PySem.W.kitOne; rw [if_pos (by simp)], _, rfl, ifT rfl ?_⟩
      refine ⟨_, rfl, o, C, dx, _, _, rfl, ho, L.cl, L.no _ (by decide), rfl, _, rfl, o2, C, dx2, _, _, rfl, ho2, L.cl, L.no _ (by decide), rfl, rfl, _, rfl, split (fun e1 => ?_) fun e1 => out _ (decide_eq_false fun z => by simp at e1 z; exact e1 z.1.1)⟩
      refine ⟨_, rfl, o, C, dx, _, _, rfl, ho, L.cl, L.no _ (by decide), rfl, _, rfl, o2, C, dx2, _, _, rfl, ho2, L.cl, L.no _ (by decide), rfl, rfl, _, rfl, split (fun e2 => ?_) fun e2 => out _ (decide_eq_false fun z => by simp at e2 z; exact e2 z.1.2.1)⟩
      refine ⟨_, rfl, o, C, dx, _, _, rfl, ho, L.cl, L.no _ (by decide), rfl, _, rfl, o2, C, dx2, _, _, rfl, ho2, L.cl, L.no _ (by decide), rfl, rfl, _, rfl, split (fun e3 => ?_) fun e3 => out _ (decide_eq_false fun z => by simp at e3 z; exact e3 z.1.2.2.1)⟩
      refine ⟨_, rfl, o, C, dx, _, _, rfl, ho, L.cl, L.no _ (by decide), rfl, _, rfl, o2, C, dx2, _, _, rfl, ho2, L.cl, L.no _ (by decide), rfl, rfl, _, rfl, split (fun e4 => ?_) fun e4 => out _ (decide_eq_false fun z => by simp at e4 z; exact e4 z.1.2.2.2.1)⟩
      refine ⟨_, rfl, o, C, dx, _, _, rfl, ho, L.cl, L.no _ (by decide), rfl, _, rfl, o2, C, dx2, _, _, rfl, ho2, L.cl, L.no _ (by decide), rfl, rfl, _, rfl, split (fun e5 => ?_) fun e5 => out _ (decide_eq_false fun z => by simp at e5 z; exact e5 z.1.2.2.2.2.1)⟩
      refine ⟨_, rfl, o, C, dx, _, _, rfl, ho, L.cl, L.no _ (by decide), rfl, _, rfl, o2, C, dx2, _, _, rfl, ho2, L.cl, L.no _ (by decide), rfl, rfl, _, rfl, split (fun e6 => ?_) fun e6 => out _ (decide_eq_false fun z => by simp at e6 z; exact e6 z.1.2.2.2.2.2)⟩
      refine ⟨_, rfl, o, C, dx, _, _, rfl, ho, L.cl, L.no _ (by decide), rfl, _, rfl, o2, C, dx2, _, _, rfl, ho2, L.cl, L.no _ (by decide), rfl, .tuple (as.map PyData.str), .tuple (as2.map PyData.str), .tup (.inl (.inl hA)) (dpTexts as), .tup (.inl (.inl hA2)) (dpTexts as2), shapedTexts as okA, shapedTexts as2 okA2, _, rfl, ?_⟩
      rw [show PyData.eqv (.tuple (as.map PyData.str)) (.tuple (as2.map PyData.str)) = decide (as = as2) by rw [PyData.eqv]; exact eqvTexts as as2]
      refine split (fun e7 => ?_) fun e7 => out _ (decide_eq_false fun z => by simp at e7 z; exact e7 z.2.1)
      refine ⟨_, rfl, o, C, dx, _, _, rfl, ho, L.cl, L.no _ (by decide), rfl, _, rfl, o2, C, dx2, _, _, rfl, ho2, L.cl, L.no _ (by decide), rfl, rfl, ?_⟩
      refine out _ ?_
      simp at e1 e2 e3 e4 e5 e6 e7
      subst e1 e2 e3 e4 e5 e6 e7
      simp
    · exact ⟨_, rfl, _, _, _, _, false, rfl, .own C, ty, kit, _, rfl, ifF rfl q⟩
end
end Be
namespace So
open PySem PySem.Spec PyProof.Rows L2
/-! Two sorted lists of the same texts are the same. -/
theorem ltAnti : ∀ a b : List Nat, ltCps a b = false → ltCps b a = false → a = b
  | [], [], _, _ => rfl
  | [], _ :: _, h, _ => by cases h
  | _ :: _, [], _, h => by cases h
  | a :: r, b :: t, h1, h2 => by
    have h1' : (a < b || (a == b && ltCps r t)) = false := h1
    have h2' : (b < a || (b == a && ltCps t r)) = false := h2
    simp at h1' h2'
    have e : a = b := Nat.le_antisymm h2'.1 h1'.1
    subst e
    rw [ltAnti r t (h1'.2 rfl) (h2'.2 rfl)]
theorem ltTrans : ∀ a b c : List Nat, ltCps b a = false → ltCps c b = false → ltCps c a = false
  | [], b, [], h1, h2 => rfl
  | [], b, _ :: _, h1, h2 => by rfl
  | a :: r, [], c, h1, h2 => by cases h1
  | a :: r, b :: t, [], h1, h2 => by cases h2
  | a :: r, b :: t, c :: u, h1, h2 => by
    have h1' : (b < a || (b == a && ltCps t r)) = false := h1
    have h2' : (c < b || (c == b && ltCps u t)) = false := h2
    show (c < a || (c == a && ltCps u r)) = false
    simp at h1' h2' ⊢
    refine ⟨by omega, fun e => ?_⟩
    subst e
    have e : b = c := by omega
    subst e
    exact ltTrans r t u (h1'.2 rfl) (h2'.2 rfl)
theorem pairwise_of : ∀ (p : Str) (l : List Str), risingS p l = true → (p :: l).Pairwise (fun a b => ltCps b.cps.toList a.cps.toList = false)
  | p, [], _ => by simp
  | p, x :: r, h => by
    have h' : (!ltCps x.cps.toList p.cps.toList && risingS x r) = true := h
    rw [Bool.and_eq_true, Bool.not_eq_true'] at h'
    have ih := pairwise_of x r h'.2
    refine List.pairwise_cons.mpr ⟨fun y m => ?_, ih⟩
    rcases List.mem_cons.mp m with z | z
    · rw [z]
      exact h'.1
    · exact ltTrans _ _ _ h'.1 ((List.pairwise_cons.mp ih).1 y z)
theorem strEq {a b : Str} (h : a.cps.toList = b.cps.toList) : a = b := by
  cases a with
  | mk x =>
    cases b with
    | mk y => rw [show x = y from Array.toList_inj.mp h]
theorem sortUniq {ys zs : List Str} (perm : ys.Perm zs) (h1 : sortedS ys = true) (h2 : sortedS zs = true) : ys = zs := by
  have pw : ∀ l : List Str, sortedS l = true → l.Pairwise (fun a b => ltCps b.cps.toList a.cps.toList = false) := fun l h => by
    cases l with
    | nil => exact .nil
    | cons x r => exact pairwise_of x r h
  exact perm.eq_of_pairwise (fun a b _ _ e1 e2 => strEq (ltAnti _ _ e2 e1)) (pw ys h1) (pw zs h2)
end So
namespace Db
open PySem PySem.Spec PyProof.Rows L2 Co Wi Ki Bk Bi Ow Bm
open L2 (FunD)
open DL (Ent S Lay FE FA FS FT FF XE XT XA XS XSs Rp RpAll Rs RsAll Ok Mv Frm Zt vis Hk HkAt)
/-! Books among data: Book(..), its parts, isinstance. -/
/-- a book as a datum: the words, the answers (ascending), the presumption -/
def bookD (ss as : List Str) (pre : Str) : PyData := .tuple [.tuple (ss.map PyData.str), .tuple (as.map PyData.str), .str pre]
/-- all of them texts -/
def strsD : List PyData → Option (List Str)
  | [] => some []
  | .str x :: r => (strsD r).map (x :: ·)
  | _ :: _ => none
theorem strsD_map : ∀ ss : List Str, strsD (ss.map PyData.str) = some ss
  | [] => rfl
  | x :: r => by rw [List.map_cons, strsD, strsD_map r] <;> rfl
theorem strsD_eq : ∀ {ds : List PyData} {ss : List Str}, strsD ds = some ss → ds = ss.map PyData.str
  | [], _, e => by cases e; rfl
  | .str x :: r, ss, e => by
    cases q : strsD r with
    | none => rw [strsD, q] at e; cases e
    | some t =>
      rw [strsD, q] at e
      cases e
      rw [strsD_eq q] <;> rfl
  | .none :: _, _, e => by cases e
  | .bool _ :: _, _, e => by cases e
  | .int _ :: _, _, e => by cases e
  | .list _ :: _, _, e => by cases e
  | .tuple _ :: _, _, e => by cases e
  | .dict _ :: _, _, e => by cases e
def ObB (C : Addr) (K : PySem.W.Frag) (t : Nat) (d : PyData) (v : V) (H : Hp) : Prop := match t with
  | 0 => ∃ (o : Addr) (ss as : List Str) (pre : Str), v = .ref o ∧ d = bookD ss as pre ∧ BookAt C H o ss as pre
  | 1 => ∃ (a : Addr) (ns : List Int), v = .ref a ∧ d = .list (ns.map PyData.int) ∧ SqL K H a (ns.map V.int)
  | _ => False
theorem bookAt_same {C : Addr} {H H' : Hp} {o : Addr} {ss as : List Str} {p : Str} (s : Same H H') (h : BookAt C H o ss as p) : BookAt C H' o ss as p := by
  obtain ⟨dx, tA, tF, dW, ys, h1, h2, h3, h4, h5, h6, h7, h8⟩ := h
  exact ⟨dx, tA, tF, dW, ys, h1, h2, s _ _ h3, s _ _ h4, h5, h6, s _ _ h7, s _ _ h8⟩
def StkD (z : Addr × Addr × Addr) (n : Nat) (H : Hp) : Prop := Draw.Stock H z.1 z.2.1 z.2.2 n
def lay (C : Addr) : Lay where
  Ob := fun K t d v H => ObB C K t d v H
  mono := fun {K t d v H H'} s h => match t, h with
    | 0, ⟨o, ss, as, pre, h1, h2, h3⟩ => ⟨o, ss, as, pre, h1, h2, bookAt_same s h3⟩
    | 1, ⟨a, ns, h1, h2, h3⟩ => ⟨a, ns, h1, h2, s.seq h3⟩
  Stk := StkD
  keep := fun {z n H H'} h k => by
    obtain ⟨⟨r, t, a, b, c, hd⟩, ⟨ws, w1, w2, hw⟩, ⟨cs, c1, c2, hc⟩, ne⟩ := h
    exact ⟨⟨r, t, a, b, c, k _ _ (.inl rfl) hd⟩, ⟨ws, w1, w2, k _ _ (.inr (.inl rfl)) hw⟩, ⟨cs, c1, c2, k _ _ (.inr (.inr rfl)) hc⟩, ne⟩
  there := fun {z n H} h b hb => by
    obtain ⟨⟨r, t, a, b', c, hd⟩, ⟨ws, w1, w2, hw⟩, ⟨cs, c1, c2, hc⟩, ne⟩ := h
    rcases hb with rfl | rfl | rfl
    · exact ⟨_, hd, .inr (.inl ⟨_, _, rfl⟩)⟩
    · exact ⟨_, hw, .inl ⟨_, rfl⟩⟩
    · exact ⟨_, hc, .inl ⟨_, rfl⟩⟩
/-- a book that stands in the whole heap is seen -/
theorem bookSeen {C : Addr} {L : Lay} {K : PySem.W.Frag} {hd : Addr → Bool} {Z : Zt} {B : Hp} {O : List Addr} {σ : L2.St} {H : Hp} {s : S} (k : Ok L K hd Z B O σ H s) {o : Addr} {ss as : List Str} {p : Str} (h : BookAt C H o ss as p) : BookAt C (vis hd O H) o ss as p := by
  obtain ⟨dx, tA, tF, dW, ys, h1, h2, h3, h4, h5, h6, h7, h8⟩ := h
  refine ⟨dx, tA, tF, dW, ys, h1, h2, k.seen h3 ?_, k.seen h4 ?_, h5, h6, k.seen h7 ?_, k.seen h8 ?_⟩
  · rintro (⟨_, z⟩ | ⟨_, _, z⟩ | z) <;> cases z
  · rintro (⟨_, z⟩ | ⟨_, _, z⟩ | z) <;> cases z
  · rintro (⟨_, z⟩ | ⟨_, _, z⟩ | z) <;> cases z
  · obtain ⟨a, b, c, d, e, f, rfl⟩ := Be.strs6 h1
    rintro (⟨_, z⟩ | ⟨_, _, z⟩ | z)
    · cases z
    · have z'' : (Sum.inr ("begin" : Str) : Key) = Sum.inr ("wide" : Str) := congrArg Prod.fst (List.cons.inj (HO.dK.inj z)).1
      exact absurd z'' (by decide)
    · cases z
/-- what a book's class must have -/
structure BookX (P : Program) (w : World) (K : PySem.W.Frag) (mg : Str → Option Value) (base : Heap) (C : Addr) : Prop where
  g : mg "Book" = some (.ref C)
  cl : Cl K C
  isa : Be.Isa K C
  no : ∀ t ∈ (["NoneType", "bool", "int", "str", "list", "tuple", "dict"] : List String), PySem.W.kitOne K (.type t) (.ref C) = some false
  yes : PySem.W.kitOne K (.ref C) (.ref C) = some true
  ex : ∃ (CB fI : Addr) (fd : FuncData), FnOk P w K mg base (L2.CX P w) 7 fI fd pInit (spBook K C CB) ∧ Mk K C fI ∧ Binds K fd pInit []
section
variable {C : Addr} {X : Cx} {pos : Pos}
/-! ### the parts -/
/-- the records whose word is forced, ascending -/
def asc : List Str := ["agreed", "begin", "no", "ready", "refused", "yes"]
def wordOf : List Str → List Str → Str → Option Str
  | r :: rs, s :: ss, x => if r = x then some s else wordOf rs ss x
  | _, _, _ => none
def forcedOf (ss : List Str) : List Str := asc.filter fun r => decide (wordOf recs ss r = some "forced")
theorem forced_eq {ss ys : List Str} (six : ss.length = 6) (p : ys.Perm (hard ss)) (so : sortedS ys = true) : ys = forcedOf ss := by
  obtain ⟨a, b, c, d, e, f, rfl⟩ := Be.strs6 six
  have key : ∀ (x1 x2 x3 x4 x5 x6 : Bool), ∃ l : List Str, ((((recs.zip [x1, x2, x3, x4, x5, x6]).filter fun p => p.2).map (·.1)).Perm l) ∧ sortedS l = true ∧ l = asc.filter fun r => (((recs.zip [x1, x2, x3, x4, x5, x6]).lookup r).getD false) := by
    intro x1 x2 x3 x4 x5 x6
    refine ⟨_, ?_, ?_, rfl⟩
    · cases x1 <;> cases x2 <;> cases x3 <;> cases x4 <;> cases x5 <;> cases x6 <;> decide +kernel
    · cases x1 <;> cases x2 <;> cases x3 <;> cases x4 <;> cases x5 <;> cases x6 <;> decide +kernel
  obtain ⟨l, h1, h2, h3⟩ := key (a == ("forced" : Str)) (b == ("forced" : Str)) (c == ("forced" : Str)) (d == ("forced" : Str)) (e == ("forced" : Str)) (f == ("forced" : Str))
  have e1 : hard [a, b, c, d, e, f] = (((recs.zip [(a == ("forced" : Str)), (b == ("forced" : Str)), (c == ("forced" : Str)), (d == ("forced" : Str)), (e == ("forced" : Str)), (f == ("forced" : Str))]).filter fun p => p.2).map (·.1)) := by
    show (((recs.zip [a, b, c, d, e, f]).filter fun p => p.2 == ("forced" : Str)).map (·.1)) = _
    simp only [recs, List.zip_cons_cons, List.zip_nil_right, List.filter_cons]
    cases a == ("forced" : Str) <;> cases b == ("forced" : Str) <;> cases c == ("forced" : Str) <;> cases d == ("forced" : Str) <;> cases e == ("forced" : Str) <;> cases f == ("forced" : Str) <;> rfl
  have e2 : forcedOf [a, b, c, d, e, f] = l := by
    rw [h3]
    unfold forcedOf
    have w : ∀ r ∈ asc, decide (wordOf recs [a, b, c, d, e, f] r = some "forced") = (((recs.zip [(a == ("forced" : Str)), (b == ("forced" : Str)), (c == ("forced" : Str)), (d == ("forced" : Str)), (e == ("forced" : Str)), (f == ("forced" : Str))]).lookup r).getD false) := by
      have sm : ∀ x : Str, decide (some x = some ("forced" : Str)) = (x == ("forced" : Str)) := fun x => by
        rw [Bool.eq_iff_iff]
        simp
      intro r hr
      simp only [asc, List.mem_cons, List.not_mem_nil, or_false] at hr
      rcases hr with rfl | rfl | rfl | rfl | rfl | rfl <;> exact sm _
    exact List.filter_congr w
  rw [e2]
  rw [e1] at p
  exact So.sortUniq (p.trans h1) so h2
/-- a part of a book -/
def partOf (f : Str) : PyData → Option PyData
  | .tuple [.tuple ws, .tuple as, pre] => match strsD ws with
    | some ss => if f = "answers" then some (.tuple as) else if f = "presume" then some pre else if f = "forced" then some (.tuple ((forcedOf ss).map PyData.str)) else (wordOf recs ss f).map PyData.str
    | none => none
  | _ => none
def fPart (f : Str) (g : FE) : FE := fun s Q => g s fun r s1 => match r with
  | .ob 0 d => match partOf f d with
    | some e => Q (.im e) s1
    | none => False
  | _ => False
theorem rpStrs {K : PySem.W.Frag} {H : Hp} : ∀ ss : List Str, RpAll K H (ss.map V.str) (ss.map PyData.str)
  | [] => .nil
  | x :: r => .cons (.str x) (rpStrs r)
def partNames : List Str := recs ++ (["answers", "presume", "forced"] : List Str)
variable {e : Expr} {g : FE} {f : Str}
theorem xPart {P : Program} {w : World} {mg : Str → Option Value} {base : Heap} (BX : BookX P w X.K mg base C) (he : XE (lay C) X e g) (hf : f ∈ partNames) (hb : attributeBase e f X.env (eval e X.env) = eval e X.env := by rfl) : XE (lay C) X (.Attribute e f pos) (fPart f g) := by
  refine ⟨fun s Q Q' k h => he.mono _ _ _ (fun r s1 h1 => ?_) h, fun hd Z B O σ H s Q ok h => DL.tW_of (pe_fld DL.peW hb) (he.run hd Z B O σ H s _ ok (he.mono _ _ _ (fun r s1 h1 v H1 k1 f1 r1 => ?_) h))⟩
  · split at h1
    · split at h1
      · exact k _ _ h1
      · exact h1.elim
    · exact h1.elim
  · split at h1
    · rename_i d
      split at h1
      · rename_i x ex
        obtain ⟨o, ss, as, pre, rfl, rfl, dx, tA, tF, dW, ys, six, oka, h3, h4, h5, h6, h7, h8⟩ := r1
        have yf := forced_eq six h5 h6
        subst yf
        have ex' : (if f = "answers" then some (PyData.tuple (as.map PyData.str)) else if f = "presume" then some (PyData.str pre) else if f = "forced" then some (PyData.tuple ((forcedOf ss).map PyData.str)) else (wordOf recs ss f).map PyData.str) = some x := by
          have q : partOf f (bookD ss as pre) = some x := ex
          have q' : (match strsD (ss.map PyData.str) with | some ss => (if f = "answers" then some (PyData.tuple (as.map PyData.str)) else if f = "presume" then some (PyData.str pre) else if f = "forced" then some (PyData.tuple ((forcedOf ss).map PyData.str)) else (wordOf recs ss f).map PyData.str) | none => none) = some x := q
          rw [strsD_map] at q'
          exact q'
        have seen : ∀ {a : Addr} {u : HO}, vis hd O H1 a = some u → H1 a = some u := fun z => DL.vis_le _ _ z
        have hno : NoAttr X.K C f := BX.cl.no f (by
          rcases List.mem_append.mp hf with z | z
          · exact List.mem_append_left _ z
          · refine List.mem_append_right _ ?_
            simp only [List.mem_cons, List.not_mem_nil, or_false] at z ⊢
            rcases z with rfl | rfl | rfl
            · exact .inl rfl
            · exact .inr (.inl rfl)
            · exact .inr (.inr (.inl rfl)))
        obtain ⟨a, b, c, d, e', f', rfl⟩ := Be.strs6 six
        refine ⟨o, C, dx, fields ([a, b, c, d, e', f'].map V.str) tA (.str pre) tF dW, ?_⟩
        have goal : ∀ (v : V), (fields ([a, b, c, d, e', f'].map V.str) tA (.str pre) tF dW).lookup f = some v → Rp X.K (vis hd O H1) v x → ∃ v, V.ref o = .ref o ∧ H1 o = some (.ins C dx (fields ([a, b, c, d, e', f'].map V.str) tA (.str pre) tF dW)) ∧ Cls X.K C ∧ NoAttr X.K C f ∧ (fields ([a, b, c, d, e', f'].map V.str) tA (.str pre) tF dW).lookup f = some v ∧ Q v H1 := fun v l r =>
          ⟨v, rfl, seen h3, BX.cl.cl, hno, l, h1 v H1 k1 f1 r⟩
        have hf' := hf
        simp only [partNames, recs, List.cons_append, List.nil_append, List.mem_cons, List.not_mem_nil, or_false] at hf'
        rcases hf' with rfl | rfl | rfl | rfl | rfl | rfl | rfl | rfl | rfl
        · cases ex'; exact goal (.str a) rfl (.str _)
        · cases ex'; exact goal (.str b) rfl (.str _)
        · cases ex'; exact goal (.str c) rfl (.str _)
        · cases ex'; exact goal (.str d) rfl (.str _)
        · cases ex'; exact goal (.str e') rfl (.str _)
        · cases ex'; exact goal (.str f') rfl (.str _)
        · cases ex'; exact goal (.ref tA) rfl (.tup (SqT.of h4) (rpStrs _))
        · cases ex'; exact goal (.str pre) rfl (.str _)
        · cases ex'; exact goal (.ref tF) rfl (.tup (SqT.of h7) (rpStrs _))
      · exact h1.elim
    · exact h1.elim
/-! ### isinstance(x, Book) -/
def fIsBook (g : FE) : FE := fun s Q => g s fun r s1 => match r with
  | .ob 0 _ => Q (.im (.bool true)) s1
  | .ob _ _ => False
  | .dr => False
  | _ => Q (.im (.bool false)) s1
variable {p py : Pos}
theorem xIsBook {P : Program} {w : World} {base : Heap} (BX : BookX P w X.K X.mg base C) (he : XE (lay C) X e g) (hm : X.mg "isinstance" = none) (hg : Gl X "isinstance" := by rfl) (hgB : Gl X "Book" := by rfl)
    (hs : starEach [e, .Name "Book" py] X.env = (false, eval e X.env) :: starEach [.Name "Book" py] X.env := by rfl) : XE (lay C) X (.Call (.Name "isinstance" p) [e, .Name "Book" py] [] pos) (fIsBook g) := by
  refine ⟨fun s Q Q' k h => he.mono _ _ _ (fun r s1 h1 => ?_) h, fun hd Z B O σ H s Q ok h => DL.tW_of (pe_callB call_isi hg hm DL.bIsi (pa_cons DL.peW (pa_cons (pe_glob (v := .ref C) hgB BX.g rfl) pa_nil) hs) (he := hs)) (he.run hd Z B O σ H s _ ok (he.mono _ _ _ (fun r s1 h1 v H1 k1 f1 r1 => ?_) h))⟩
  · cases r with
    | ob t d => cases t with
      | zero => exact k _ _ h1
      | succ _ => exact h1.elim
    | dr => exact h1.elim
    | im d => exact k _ _ h1
    | ow d => exact k _ _ h1
    | br _ d => exact k _ _ h1
  · have data : ∀ d, r.dat = some d → (∀ v H', Ok (lay C) X.K hd Z B O σ H' s1 → Mv Z H H' s s1 → Rs (lay C) X.K hd Z O σ H H' v (.im (.bool false)) → Q v H') → ∃ (x c : V) (t u : Value) (b : Bool), [v, V.ref C] = [x, c] ∧ ClsV c u ∧ TyX X.K H1 x t ∧ PySem.W.kitOne X.K t u = some b ∧ Q (.bl b) H1 := fun d ed q =>
      ⟨v, .ref C, _, .ref C, false, rfl, .own C, DL.rp_tyX (Rs.data r1 ed), BX.no _ (DL.kty_mem d), q _ H1 k1 f1 (.bl _)⟩
    cases r with
    | ob t d => cases t with
      | zero =>
        obtain ⟨o, ss, as, pre, rfl, rfl, dx, tA, tF, dW, ys, six, oka, h3, _⟩ := r1
        exact ⟨.ref o, .ref C, .ref C, .ref C, true, rfl, .own C, .base (.ins (DL.vis_le _ _ h3) BX.cl.cl BX.isa.ha BX.isa.hn BX.isa.ht BX.isa.hm), BX.yes, h1 _ H1 k1 f1 (.bl _)⟩
      | succ _ => exact h1.elim
    | dr => exact h1.elim
    | im d => exact data d rfl h1
    | ow d => exact data (.list d) rfl h1
    | br i d => exact data (.list d) rfl h1
/-! ### Book(..) -/
/-- the book of eight parts, if nothing is wrong -/
def mk8 : List PyData → Option PyData
  | [.str a, .str b, .str c, .str d, .str e, .str f, da, .str p] => match strsD (items da) with
    | some as => if wrong [.str a, .str b, .str c, .str d, .str e, .str f] da (.str p) = none then some (bookD [a, b, c, d, e, f] (outs.filter as.contains) p) else none
    | none => none
  | _ => none
def fBook (fs : FA) : FE := fun s Q => fs s fun rs s1 => DL.kepts rs fun ds => match mk8 ds with
  | some b => Q (.ob 0 b) s1
  | none => False
theorem fBook_mono {es : List Expr} {m : Nat} {fs : FA} (ha : XA (lay C) X es m fs) : ∀ s Q Q', (∀ r s', Q r s' → Q' r s') → fBook fs s Q → fBook fs s Q' := fun s Q Q' k h => ha.mono _ _ _ (fun rs s1 h1 => DL.kepts_mono (fun ds h2 => by
    split at h2
    · exact k _ _ h2
    · exact h2.elim) h1) h
/-- what is copied of data that Book takes -/
theorem cpSeq {K : PySem.W.Frag} {H : Hp} {v : V} {d : PyData} {as : List Str} (r : Rp K H v d) (hi : isSeq d = true) (h : items d = as.map PyData.str) (few : as.length ≤ 100) : Cp K H 2 v d := by
  have cps : ∀ {vs : List V} {ds : List PyData} {as : List Str}, RpAll K H vs ds → ds = as.map PyData.str → Paired (Cp K H 1) vs ds := fun {vs ds} => by
    induction ds generalizing vs with
    | nil => intro as r _; cases r; exact .nil
    | cons d ds ih =>
      intro as r e
      cases r with
      | cons a b =>
        cases as with
        | nil => cases e
        | cons x as =>
          obtain ⟨e1, e2⟩ := List.cons.inj e
          subst e1
          cases a
          exact .cons (.inl rfl) (ih b e2)
  cases r with
  | @lst _ _ es s q =>
    have hh : es = as.map PyData.str := h
    exact .inr (.inl ⟨_, _, _, rfl, rfl, SqL.of s, by rw [q.length, hh, List.length_map]; exact few, cps q hh⟩)
  | @tup _ _ es s q =>
    have hh : es = as.map PyData.str := h
    exact .inr (.inr (.inl ⟨_, _, _, rfl, rfl, s, by rw [q.length, hh, List.length_map]; exact few, cps q hh⟩))
  | non => cases hi
  | bl _ => cases hi
  | int _ => cases hi
  | str _ => cases hi
  | dct _ _ => cases hi
theorem few_of {da dp : PyData} {ds : List PyData} {as : List Str} (six : ds.length = 6) (h : wrong ds da dp = none) (e : items da = as.map PyData.str) : isSeq da = true ∧ as.length ≤ 100 := by
  have q := h
  unfold wrong at q
  cases hw : wrongW recs ds with
  | some r => rw [hw] at q; cases q
  | none =>
    rw [hw] at q
    dsimp only at q
    by_cases h1 : isSeq da = true ∧ unfit outs [] (items da) 0 = none
    · refine ⟨h1.1, ?_⟩
      have u := h1.2
      rw [e] at u
      match as, u with
      | [], _ => exact Nat.zero_le _
      | [_], _ => exact (by decide : 1 ≤ 100)
      | [_, _], _ => exact (by decide : 2 ≤ 100)
      | a :: b :: c :: r, u =>
        exfalso
        have two : ∀ x : Str, outs.contains x = true → x = "no" ∨ x = "yes" := fun x hx => by
          have := List.contains_iff_mem.mp hx
          simpa [outs] using this
        obtain ⟨ss, es, fit⟩ := fitOf _ _ _ u
        have u1 : (if outs.contains a = true ∧ ([] : List Str).contains a = false then unfit outs ([] ++ [a]) ((b :: c :: r).map PyData.str) 1 else some 0) = none := u
        by_cases ca : outs.contains a = true ∧ ([] : List Str).contains a = false
        · rw [if_pos ca] at u1
          have u2 : (if outs.contains b = true ∧ ([a] : List Str).contains b = false then unfit outs ([a] ++ [b]) ((c :: r).map PyData.str) 2 else some 1) = none := u1
          by_cases cb : outs.contains b = true ∧ ([a] : List Str).contains b = false
          · rw [if_pos cb] at u2
            have u3 : (if outs.contains c = true ∧ ([a, b] : List Str).contains c = false then unfit outs ([a, b] ++ [c]) (r.map PyData.str) 3 else some 2) = none := u2
            by_cases cc : outs.contains c = true ∧ ([a, b] : List Str).contains c = false
            · have n1 : b ≠ a := by simpa using cb.2
              have n2 : c ≠ a ∧ c ≠ b := by simpa using cc.2
              rcases two a ca.1 with rfl | rfl <;> rcases two b cb.1 with rfl | rfl <;> rcases two c cc.1 with rfl | rfl <;> simp_all
            · rw [if_neg cc] at u3; cases u3
          · rw [if_neg cb] at u2; cases u2
        · rw [if_neg ca] at u1; cases u1
    · rw [if_neg h1] at q; cases q
theorem cx0 {X : Cx} : Passes (L2.CX X.prog X.w) X E0 := fun _ _ _ _ _ _ _ h => by
  obtain ⟨_, _, _, _, _, _, _, _, _, _, _, _, z⟩ := h
  exact z.elim
theorem book_run {K : PySem.W.Frag} {CB : Addr} {hd : Addr → Bool} {Z : Zt} {B : Hp} {O : List Addr} {σ : L2.St} {H H1 : Hp} {s s1 : S} {Q : VK} {vs : List V} {ds : List PyData} {b : PyData} (ok : Ok (lay C) K hd Z B O σ H s) (f1 : Mv Z H H1 s s1) (k1 : Ok (lay C) K hd Z B O σ H1 s1) (rp : RpAll K (vis hd O H1) vs ds) (hb : mk8 ds = some b)
    (h : ∀ v H', Ok (lay C) K hd Z B O σ H' s1 → Mv Z H H' s s1 → Rs (lay C) K hd Z O σ H H' v (.ob 0 b) → Q v H') : spMade K C CB vs H1 Q E0 := by
  unfold mk8 at hb
  split at hb
  · rename_i a b' c d e f da p
    split at hb
    · rename_i as has
      by_cases hw : wrong [.str a, .str b', .str c, .str d, .str e, .str f] da (.str p) = none
      · rw [if_pos hw] at hb
        cases hb
        have rp' := rp.same DL.vis_le
        cases rp' with
        | cons r1 q => cases q with
          | cons r2 q => cases q with
            | cons r3 q => cases q with
              | cons r4 q => cases q with
                | cons r5 q => cases q with
                  | cons r6 q => cases q with
                    | cons r7 q => cases q with
                      | cons r8 q =>
                        cases q
                        cases r1; cases r2; cases r3; cases r4; cases r5; cases r6; cases r8
                        have ei := strsD_eq has
                        obtain ⟨sq, few⟩ := few_of rfl hw ei
                        refine ⟨1, _, .str p, [.str a, .str b', .str c, .str d, .str e, .str f], [.str a, .str b', .str c, .str d, .str e, .str f], da, .str p, rfl, rfl, .cons (.inl rfl) (.cons (.inl rfl) (.cons (.inl rfl) (.cons (.inl rfl) (.cons (.inl rfl) (.cons (.inl rfl) .nil))))), cpSeq r7 sq ei few, .inl rfl, fun x hx => ?_, fun ss as' pre e1 e2 e3 _ H' o sm fo bk => ?_⟩
                        · rw [hw] at hx; cases hx
                        · have es : ss = [a, b', c, d, e, f] := by
                            have := e1.symm
                            exact Option.some.inj (by rw [← strsD_map ss, this]; rfl)
                          have ea : as' = as := Option.some.inj (by rw [← strsD_map as', ← strsD_map as, ← e2, ← ei])
                          cases e3
                          subst es ea
                          have k2 := k1.same sm
                          exact h _ H' k2 (f1.trans (Mv.of sm)) ⟨o, _, _, _, rfl, rfl, bookSeen k2 bk⟩
      · rw [if_neg hw] at hb; cases hb
    · cases hb
  · cases hb
variable {es : List Expr} {fs : FA} {m : Nat}
theorem xBook (BX : BookX X.prog X.w X.K X.mg X.base C) (hr : Room 8 X.A) (ha : XA (lay C) X (e :: es) m fs) (hg : Gl X "Book" := by rfl) (n2 : starEach (e :: es) X.env = (false, eval e X.env) :: starEach es X.env := by rfl) (n3 : (backTo pos (starEach es X.env)).any (·.1) = false := by rfl) :
    XE (lay C) X (.Call (.Name "Book" p) (e :: es) [] pos) (fBook fs) := by
  obtain ⟨CB, fI, fd, G, M, hb⟩ := BX.ex
  refine ⟨fBook_mono ha, fun hd Z B O σ H s Q ok h => DL.tW_of (pe_book M G hr hg BX.g hb .nil cx0 DL.paW n2 n3) (ha.run hd Z B O σ H s _ ok (ha.mono _ _ _ (fun rs s1 h1 vs H1 k1 f1 r1 => ?_) h))⟩
  obtain ⟨ds, rp, h2⟩ := DL.kepts_v r1 h1
  split at h2
  · rename_i b hb'
    rw [List.append_nil]
    exact book_run ok f1 k1 rp hb' h2
  · exact h2.elim
end
end Db
namespace Draw
open PySem PySem.Spec PyProof.Rows L2
section
variable {P : Program} {w : World} {K : PySem.W.Frag} {mg : Str → Option Value} {base : Heap}
/-- one of the items -/
def spPickW (K : PySem.W.Frag) : Sp := fun vs H Q _ => ∃ (d w c l : Addr) (n : Nat) (xs : List V), vs = [.ref d, .ref l] ∧ Stock H d w c n ∧ n < 1000000 ∧ ((SqL K H l xs ∧ l ≠ w) ∨ SqT K H l xs) ∧ 0 < xs.length ∧ xs.length < 1000 ∧
  ∀ (H' : Hp) (i : Nat) (x : V), xs[i]? = some x → But d w H H' → Stock H' d w c (n + 1) → Q x H'
theorem ok_pickW {f fT : Addr} {fd fdT : FuncData} (F : Fun K "_law_pick" "_law_pick" sPick f fd) (B : Bare mg) (GT : FnOk P w K mg base CX0 2 fT fdT ["draw", "size"] Draw.spTake) (gT : mg "_law_take" = some (.ref fT)) (kT : PySem.W.keepIn K (.ref fT) = true) (bT : Binds K fdT ["draw", "size"] []) :
    FnOk P w K mg base CX0 3 f fd ["draw", "some"] (spPickW K) := by
  refine F.ok scPick (fun vs H Q E h => ?_) (fun cdv A outer s H vs Q E hr h => ?_)
  · obtain ⟨d, w, c, l, n, xs, rfl, _⟩ := h
    rfl
  · obtain ⟨d, w, c, l, n, xs, rfl, S, hn, hl', l0, l1, k⟩ := h
    have hl : Seq K H l xs := hl'.imp And.left id
    refine ⟨_, pss_one (ps_ret (pe_ix ix_seq (pv 1) (pe_call GT hr rfl gT kT bT .nil pass0 (pa_cons (pv 0) (pa_cons (pe_callB call_len_seq (by rfl) B.len PySem.boot_len (pa_cons (pv 1) pa_nil)) pa_nil))) (fun _ _ => rfl))), ?_⟩
    obtain ⟨r, t, r0, t0, tn, hd⟩ := S.own
    obtain ⟨ws, lw, pw, hw⟩ := S.wide
    refine ⟨_, rfl, _, rfl, _, rfl, l, xs, rfl, hl, d, w, c, n, _, rfl, S, hn, by omega, by omega, fun H' x bt S' x0 x1 => ?_⟩
    have hx : x.toNat < xs.length := by omega
    have e : xs[x.toNat]? = some xs[x.toNat] := List.getElem?_eq_getElem hx
    have ex : ((x.toNat : Nat) : Int) = x := Int.toNat_of_nonneg x0
    have ea : atI xs x = some xs[x.toNat] := by
      have q := atI_nat e
      rw [ex] at q
      exact q
    rcases hl' with ⟨hl, nw⟩ | hl
    · exact .inl ⟨l, xs, x, _, rfl, rfl, bt.lst hd nw hl, ea, k _ _ _ e bt S'⟩
    · exact .inr (.inl ⟨l, xs, x, _, rfl, rfl, bt.tup hd hw hl, ea, k _ _ _ e bt S'⟩)
end
end Draw
namespace Db
open PySem PySem.Spec PyProof.Rows L2 Co Wi Ki Bk Bi Ow Bm
open L2 (FunD)
open DL (Ent S Lay FE FA FS FT FF XE XT XA XS XSs Rp RpAll Rs RsAll Ok Mv Frm Zt vis zin Hk HkAt DefOk spW argsOf taW)
/-! A class call with a leading star; methods of books; the draws; the script; the law. -/
theorem evalArgs_star2 {M : Model} {A : Around} {E : Value → Shared → Prop} {s : Shared} {f : Value} {x y : Sem Value} {b : Bool} {rest : List (Bool × Sem Value)} {Q : Args → Shared → Prop}
    (h : wpAny M A (spliced ((true, x) :: (b, y) :: rest)) (fun vs s' => Q ⟨vs, []⟩ s') E s) : wpAny M A (evalArgs f true ((true, x) :: (b, y) :: rest) []) Q E s := by
  unfold evalArgs
  show wpAny M A (spliced ((true, x) :: (b, y) :: rest) >>= _) Q E s
  refine wpAny_bind (wpAny_mono h (fun vs s' h' => ?_) fun _ _ x => x)
  refine wpAny_holding ?_
  exact wpAny_bind (wpAny_pure (wpAny_bind (wpAny_pure (wpAny_pure h'))))
theorem callWith_SP {M : Model} {A : Around} {E : Value → Shared → Prop} {s : Shared} {K : PySem.W.Frag} {env : Env} {pos sp_ : Pos} {f : Value} {first : List Value} {Q : Value → Shared → Prop} {h₀ : Heap} {e e2 : Expr} {rest : List Expr} (_X : K.In h₀) (hk : PySem.W.keepIn K f = true)
    (h : wpAny M A (spliced (backTo pos (starEach (.Starred e sp_ :: e2 :: rest) env))) (fun vs s₁ => K.In s₁.heap ∧ wpAny M A (call f (first ++ vs)) Q E s₁) E s)
    (he : starEach (.Starred e sp_ :: e2 :: rest) env = (true, eval e env) :: starEach (e2 :: rest) env) (he2 : starEach (e2 :: rest) env = (false, eval e2 env) :: starEach rest env) :
    wpAny M A (callWith pos f first (backTo pos (starEach (.Starred e sp_ :: e2 :: rest) env)) []) Q E s := by
  rw [he, he2] at h ⊢
  exact PySem.W.ks_call rfl (PySem.W.keeps_K hk) (evalArgs_star2 h)
section
variable {X : Cx} {C CB f : Addr} {fd : FuncData} {ds : List Value} {dvs : List V} {E : XK} {e e2 : Expr} {es : List Expr} {ta : TA} {p pos sp_ : Pos}
theorem pe_bookS (M : Mk X.K C f) (F : FnOk X.prog X.w X.K X.mg X.base (L2.CX X.prog X.w) 7 f fd pInit (spBook X.K C CB)) (room : Room 8 X.A) (hg : Gl X "Book") (hm : X.mg "Book" = some (.ref C)) (hb : Binds X.K fd pInit ds) (hd : Vals dvs ds) (hx : Passes (L2.CX X.prog X.w) X E)
    (ha : PA X (.Starred e sp_ :: e2 :: es) ta) (he : starEach (.Starred e sp_ :: e2 :: es) X.env = (true, eval e X.env) :: starEach (e2 :: es) X.env) (he2 : starEach (e2 :: es) X.env = (false, eval e2 X.env) :: starEach es X.env) : PE X (.Call (.Name "Book" p) (.Starred e sp_ :: e2 :: es) [] pos) (tBook X.K C CB dvs E ta) := by
  refine ⟨fun pins s σ H Q I h => ?_⟩
  refine wpAny_Call_Name_kw (ld_glob I hg hm ?_ (by decide))
  refine callWith_SP (h₀ := X.base) I.ok.mod.kin M.kp (thn (ha.run pos pins s σ H _ I h) fun us s1 ⟨vs, H1, I1, r, q⟩ => ⟨I1.kIn, ?_⟩) he he2
  exact run_make M F room hb hd hx I1 r fun x dx hx hdx ne => madeRd q x dx hx hdx ne
end
section
variable {C : Addr} {X : Cx} {pos p sp_ apos : Pos} {e e2 : Expr} {es : List Expr} {fs : FA} {g : FE} {m : Nat}
theorem xBookStar (BX : BookX X.prog X.w X.K X.mg X.base C) (hr : Room 8 X.A) (ha : XA (lay C) X (.Starred e sp_ :: e2 :: es) m fs) (hg : Gl X "Book" := by rfl) (he : starEach (.Starred e sp_ :: e2 :: es) X.env = (true, eval e X.env) :: starEach (e2 :: es) X.env := by rfl) (he2 : starEach (e2 :: es) X.env = (false, eval e2 X.env) :: starEach es X.env := by rfl) :
    XE (lay C) X (.Call (.Name "Book" p) (.Starred e sp_ :: e2 :: es) [] pos) (fBook fs) := by
  obtain ⟨CB, fI, fd, G, M, hb⟩ := BX.ex
  refine ⟨fBook_mono ha, fun hd Z B O σ H s Q ok h => DL.tW_of (pe_bookS M G hr hg BX.g hb .nil cx0 DL.paW he he2) (ha.run hd Z B O σ H s _ ok (ha.mono _ _ _ (fun rs s1 h1 vs H1 k1 f1 r1 => ?_) h))⟩
  obtain ⟨ds, rp, h2⟩ := DL.kepts_v r1 h1
  split at h2
  · rename_i b hb'
    rw [List.append_nil]
    exact book_run ok f1 k1 rp hb' h2
  · exact h2.elim
/-! ### methods of books -/
structure MethOk (C : Addr) (P : Program) (w : World) (K : PySem.W.Frag) (mg : Str → Option Value) (base : Heap) (k : Nat) (m : Str) (F : FF) : Prop where
  mono : ∀ (A : Around) (_ : Shared), Room k A → ∀ es n Q Q', (∀ r m, Q r m → Q' r m) → F es n Q → F es n Q'
  ex : ∃ f fd ps, FnOk P w K mg base CX0 k f fd ps (spW (lay C) K F) ∧ Meth K C m f ∧ Binds K fd ps []
  no : ∀ (a b c d e f : V) (tA : Addr) (pre : V) (tF dW : Addr), (fields [a, b, c, d, e, f] tA pre tF dW).lookup m = none
def fMeth (F : FF) (fo : FE) (fs : FA) : FE := fun s Q => fo s fun r s1 => match r with
  | .ob 0 d => fs s1 fun rs s2 => argsOf rs fun es => F (.ob 0 d :: es) s2.n fun r m => Q r { s2 with n := m }
  | _ => False
theorem xMeth {o : Expr} {fo : FE} {k : Nat} {mn : Str} {F : FF} {pl : Sem Bool} (BX : BookX X.prog X.w X.K X.mg X.base C) (D : MethOk C X.prog X.w X.K X.mg X.base k mn F) (hr : Room k X.A) (ho : XE (lay C) X o fo) (ha : XA (lay C) X (e :: es) m fs)
    (hst : starEach (e :: es) X.env = (false, eval e X.env) :: starEach es X.env := by rfl) (hpl : (backTo pos (starEach es X.env)).any (·.1) = false := by rfl)
    (ht : eval (.Call (.Attribute o mn apos) (e :: es) [] pos) X.env = (do
      let ov ← eval o X.env
      standAt apos.atName
      let (f, first) ← holding [ov] (getMethod ov mn pl)
      callWith pos f first (backTo pos (starEach (e :: es) X.env)) (backToKw pos (keywordEach [] X.env))) := by rfl) : XE (lay C) X (.Call (.Attribute o mn apos) (e :: es) [] pos) (fMeth F fo fs) := by
  obtain ⟨f, fd, ps, G, M, hb⟩ := D.ex
  have mono := D.mono X.A X.s_0 hr
  refine ⟨fun s Q Q' k h => ho.mono _ _ _ (fun r s1 h1 => ?_) h, fun hd Z B O σ H s Q ok h => DL.tW_of (pe_meth DL.peW BX.cl.cl M G hr hb .nil pass0 DL.paW hst hpl ht) (ho.run hd Z B O σ H s _ ok (ho.mono _ _ _ (fun r s1 h1 v H1 k1 f1 r1 => ?_) h))⟩
  · split at h1
    · exact ha.mono _ _ _ (fun rs s2 h2 => DL.argsOf_mono (fun es h3 => mono _ _ _ _ (fun r m q => k _ _ q) h3) h2) h1
    · exact h1.elim
  · split at h1
    · rename_i d
      obtain ⟨o', ss, as, pre, rfl, rfl, bk⟩ := r1
      have bk1 := bookAt_same DL.vis_le bk
      obtain ⟨dx, tA, tF, dW, ys, six, oka, h3, h4, h5, h6, h7, h8⟩ := bk1
      obtain ⟨a, b, c, d, e', f', rfl⟩ := Be.strs6 six
      refine ⟨o', dx, _, rfl, h3, D.no _ _ _ _ _ _ _ _ _ _, ha.run hd Z B O σ H1 s1 _ k1 (ha.mono _ _ _ (fun rs s2 h2 vs H2 k2 f2 r2 => ?_) h1)⟩
      rw [List.append_nil]
      have r1' : Rs (lay C) X.K hd Z O σ H H2 (.ref o') (.ob 0 (bookD [a, b, c, d, e', f'] as pre)) := Rs.step k1 f2 (s1 := s1) (s2 := s2) ⟨o', _, as, pre, rfl, rfl, bk⟩
      exact DL.run_F ok (f1.trans f2) k2 (.cons r1' (r2.back ok f1)) mono h2
    · exact h1.elim
/-! ### the draws -/
def F_take : FF := fun es n Q => match es with
  | [.dr, .im (.int z)] => (n < 1000000 ∧ 0 < z ∧ z < 1000000) ∧ ∀ x : Int, 0 ≤ x → x < z → Q (.im (.int x)) (n + 1)
  | _ => False
def F_pick : FF := fun es n Q => match es with
  | [.dr, .im d] => match DL.items d with
    | some ds => (n < 1000000 ∧ 0 < ds.length ∧ ds.length < 1000) ∧ ∀ x ∈ ds, Q (.im x) (n + 1)
    | none => False
  | _ => False
theorem F_take_mono : ∀ es n Q Q', (∀ r m, Q r m → Q' r m) → F_take es n Q → F_take es n Q' := fun es n Q Q' k h => by
  unfold F_take at h ⊢
  split at h
  · exact ⟨h.1, fun x a b => k _ _ (h.2 x a b)⟩
  · exact h.elim
theorem F_pick_mono : ∀ es n Q Q', (∀ r m, Q r m → Q' r m) → F_pick es n Q → F_pick es n Q' := fun es n Q Q' k h => by
  unfold F_pick at h ⊢
  split at h
  · split at h
    · exact ⟨h.1, fun x a => k _ _ (h.2 x a)⟩
    · exact h.elim
  · exact h.elim
theorem frm_but {z : Addr × Addr × Addr} {H H' : Hp} (b : Draw.But z.1 z.2.1 H H') : Frm (some z) H H' := fun a o nz e => b a o (fun q => nz ⟨z, rfl, .inl q⟩) (fun q => nz ⟨z, rfl, .inr (.inl q)⟩) e
theorem vis_but {hd : Addr → Bool} {z : Addr × Addr × Addr} {H H' : Hp} (hz : ∀ a, zin (some z) a → hd a = true) (b : Draw.But z.1 z.2.1 H H') : Same (vis hd [] H) (vis hd [] H') := fun a o e => by
  obtain ⟨h1, h2, h3⟩ := DL.vis_some.mp e
  exact DL.vis_some.mpr ⟨h1, h2, frm_but b a o (fun q => by rw [hz a q] at h1; cases h1) h3⟩
variable {P : Program} {w : World} {K : PySem.W.Frag} {mg : Str → Option Value} {base : Heap} {f : Addr} {fd : FuncData} {ps : List Str}
theorem ok_take (G : FnOk P w K mg base CX0 2 f fd ["draw", "size"] Draw.spTake) (hm : mg "_law_take" = some (.ref f)) (kp : PySem.W.keepIn K (.ref f) = true) (hb : Binds K fd ["draw", "size"] []) : DefOk (lay C) P w K mg base 2 "_law_take" F_take := by
  refine ⟨fun _ _ _ => F_take_mono, f, fd, _, G.imp fun vs H Q E h => ?_, hm, kp, hb⟩
  obtain ⟨hd, Z, es, n, h1, h2, h3, r, q⟩ := h
  unfold F_take at q
  split at q
  · rename_i z
    cases r with
    | cons a r => cases r with
      | cons b r =>
        cases r
        obtain ⟨zz, rfl, rfl⟩ := a
        cases b
        exact ⟨_, zz.2.1, zz.2.2, n, z, rfl, h3 zz rfl, q.1.1, q.1.2.1, q.1.2.2, fun H' x bt st x0 x1 => q.2 x x0 x1 _ H' (frm_but bt) (fun z' e => by cases e; exact st) (.int x)⟩
  · exact q.elim
theorem ok_pick (G : FnOk P w K mg base CX0 3 f fd ["draw", "some"] (Draw.spPickW K)) (hm : mg "_law_pick" = some (.ref f)) (kp : PySem.W.keepIn K (.ref f) = true) (hb : Binds K fd ["draw", "some"] []) : DefOk (lay C) P w K mg base 3 "_law_pick" F_pick := by
  refine ⟨fun _ _ _ => F_pick_mono, f, fd, _, G.imp fun vs H Q E h => ?_, hm, kp, hb⟩
  obtain ⟨hd, Z, es, n, h1, h2, h3, r, q⟩ := h
  unfold F_pick at q
  split at q
  · rename_i d
    split at q
    · rename_i ds hi
      cases r with
      | cons a r => cases r with
        | cons b r =>
          cases r
          obtain ⟨zz, rfl, rfl⟩ := a
          have b' : Rp K (vis hd [] H) _ d := b
          have fin : ∀ (l : Addr) (xs : List V), ((SqL K H l xs ∧ l ≠ zz.2.1) ∨ SqT K H l xs) → RpAll K (vis hd [] H) xs ds → Draw.spPickW K [.ref zz.1, .ref l] H Q E := fun l xs sq ra =>
            ⟨_, zz.2.1, zz.2.2, l, n, xs, rfl, h3 zz rfl, q.1.1, sq, by rw [ra.length]; exact q.1.2.1, by rw [ra.length]; exact q.1.2.2, fun H' i x hx bt st => by
              obtain ⟨d', g1, g2⟩ := ra.get hx
              exact q.2 d' (List.mem_of_getElem? g1) _ H' (frm_but bt) (fun z' e => by cases e; exact st) (g2.same (vis_but h2 bt))⟩
          have nw : ∀ (l : Addr) (o : HO), vis hd [] H l = some o → l ≠ zz.2.1 := fun l o e z => by
            have h1 := (DL.vis_some.mp e).1
            rw [z, h2 _ ⟨zz, rfl, .inr (.inl rfl)⟩] at h1
            cases h1
          cases b' with
          | @lst l xs es hl ra =>
            cases hi
            exact fin l xs (.inl ⟨.inl (.inl (DL.vis_le _ _ hl)), nw l _ hl⟩) ra
          | @tup l xs es hl ra =>
            cases hi
            exact fin l xs (.inr (DL.sameT DL.vis_le hl)) ra
          | non => cases hi
          | bl _ => cases hi
          | int _ => cases hi
          | str _ => cases hi
          | dct _ _ => cases hi
    · exact q.elim
  · exact q.elim
end
end Db
namespace Db
open PySem PySem.Spec PyProof.Rows L2 Co Wi Ki Bk Bi Ow Bm
open L2 (FunD)
open DL (Ent S EE Lay FE FA FS FT FF XE XT XA XS XSs Rp RpAll Rs RsAll Ok Mv Frm Zt vis zin Hk HkAt DefOk spW argsOf taW Real runF CallS)
/-! ### len of the script -/
def oLenS (rs : List Ent) (Q : Ent → Prop) : Prop := match rs with
  | [.ob 1 (.list ds)] => Q (.im (.int ds.length))
  | _ => False
theorem cs_lenS {C : Addr} {X : Cx} : CallS (lay C) X (.builtin "len") oLenS := by
  refine ⟨fun rs Q Q' k h => ?_, _, call_len_seq, fun hd Z B O σ H0 H s xs rs Q ok r h Q' k => ?_⟩
  · unfold oLenS at h ⊢
    split at h
    · exact k _ h
    · exact h.elim
  · unfold oLenS at h
    split at h
    · cases r with
      | cons a r =>
        cases r
        obtain ⟨a, ns, rfl, e, sq⟩ := a
        cases e
        refine ⟨a, _, rfl, .inl (DL.vis_le.seq sq), ?_⟩
        have := k (.int ((ns.map V.int).length : Nat)) _ H h (Same.refl H) (by rw [List.length_map, ← List.length_map (f := PyData.int)]; exact .int _)
        exact this
    · exact h.elim
/-! ### methods, the law -/
section
variable {C : Addr} {P : Program} {w : World} {K : PySem.W.Frag} {mg : Str → Option Value} {base : Heap} {x qual : Str} {st s1 : Stmt} {rest : List Stmt} {f : Addr} {fd : FuncData} {N ps : List Str} {k nN np : Nat} {g : FS}
theorem meth_ok (F : Fun K x qual st f fd) (M : Meth K C x f) (hb0 : Binds K fd ps []) (Sc : FnScope N ps (defScope st)) (no : ∀ (a b c d e f : V) (tA : Addr) (pre : V) (tF dW : Addr), (fields [a, b, c, d, e, f] tA pre tF dW).lookup x = none)
    (hb : ∀ (cdv : Value) (A : Around) (outer : List Env) (s : Shared) (H : Hp) (E : XK), Room k (A.deeper (envOfC qual (defScope st) s.heap.objs.size f cdv)) → XSs (lay C) (cxOf CX0 P w K mg base N qual (defScope st) f cdv A outer s H E).nox (defBody st) g) (hN : N.length = nN := by rfl) (hp : ps.length = np := by rfl) :
    MethOk C P w K mg base (k + 1) x (runF nN np g) := ⟨DL.def_mono hb, ⟨f, fd, ps, DL.def_mk F Sc hN hp hb, M, hb0⟩, no⟩
def spLaw (K : PySem.W.Frag) : Sp := fun vs H Q _ => ∃ (a : Addr) (ns : List Int), vs = [.ref a] ∧ SqL K H a (ns.map V.int) ∧ ns.length ≤ 63 ∧ ∀ H', Q (.bl true) H'
def hdZ (z : Addr × Addr × Addr) : Addr → Bool := fun b => decide (b = z.1 ∨ b = z.2.1 ∨ b = z.2.2)
def lawE : EE := { nx := fun _ => False, rt := fun r _ => r = .im (.bool true) }
theorem law_mk (F : Fun K x qual st f fd) (Sc : FnScope N ["script"] (defScope st)) (hbody : defBody st = s1 :: rest)
    (hs1 : ∀ (cdv : Value) (A : Around) (outer : List Env) (s : Shared) (H : Hp) (E : XK), Room k (A.deeper (envOfC qual (defScope st) s.heap.objs.size f cdv)) → ∃ t, PS (cxOf CX0 P w K mg base N qual (defScope st) f cdv A outer s H E).nox s1 t ∧
      ∀ (D : Ends) (σ : L2.St) (H : Hp) (a : Addr), σ[0]? = some (some (.ref a)) → Draw.spBegun K [.ref a] H (fun v H' => D.nx (σ.set 1 (some v)) H') E0 → t D σ H)
    (hb : ∀ (cdv : Value) (A : Around) (outer : List Env) (s : Shared) (H : Hp) (E : XK), Room k (A.deeper (envOfC qual (defScope st) s.heap.objs.size f cdv)) → XSs (lay C) (cxOf CX0 P w K mg base N qual (defScope st) f cdv A outer s H E).nox rest g)
    (hg : ∀ ns : List Int, ns.length ≤ 63 → g lawE ⟨some (.ob 1 (.list (ns.map PyData.int))) :: some .dr :: List.replicate nN none, 0⟩) (hN : N.length = nN + 2 := by rfl) :
    FnOk P w K mg base CX0 (k + 1) f fd ["script"] (spLaw K) := by
  refine F.ok Sc (fun vs H Q E h => ?_) (fun cdv A outer s H vs Q E hr h => ?_)
  · obtain ⟨a, ns, rfl, _⟩ := h
    rfl
  · obtain ⟨a, ns, rfl, sq, few, kq⟩ := h
    obtain ⟨t, p1, q1⟩ := hs1 cdv A outer s H E hr
    rw [hbody]
    refine ⟨_, pss_cons p1 DL.pssW, q1 _ _ H a (by show (start N [V.ref a])[0]? = _; rfl) ⟨a, ns, rfl, sq, few, fun H' d wd c sm fd0 fw fc stk => ?_⟩⟩
    have hk : ∀ b, hdZ (d, wd, c) b = true → zin (some (d, wd, c)) b := fun b e => ⟨_, rfl, of_decide_eq_true e⟩
    have sq' : SqL K (vis (hdZ (d, wd, c)) [] H') a (ns.map V.int) := by
      have see : ∀ o, H a = some o → vis (hdZ (d, wd, c)) [] H' a = some o := fun o e => by
        refine DL.vis_some.mpr ⟨?_, by simp, sm _ _ e⟩
        refine decide_eq_false ?_
        rintro (rfl | rfl | rfl)
        · rw [fd0] at e; cases e
        · rw [fw] at e; cases e
        · rw [fc] at e; cases e
      rcases sq with (sq | ⟨o, sq⟩) | sq
      · exact .inl (.inl (see _ sq))
      · exact .inl (.inr ⟨o, see _ sq⟩)
      · exact .inr sq
    have kb := DL.Ok.begin (L := lay C) (K := K) (hd := hdZ (d, wd, c)) (Z := some (d, wd, c)) (H := H') (N := N) (vs := [.ref a]) (es := [.ob 1 (.list (ns.map PyData.int))]) (n := 0) (np := 1)
      (fun b hb => (lay C).there (n := 0) (z := (d, wd, c)) stk b (of_decide_eq_true hb)) (fun b ⟨z, e, q⟩ => by cases e; exact decide_eq_true q) (fun z e => by cases e; exact stk) (.cons (r := .ob 1 _) ⟨a, ns, rfl, rfl, sq'⟩ .nil) rfl
    have kc := kb.set 1 (v := .ref d) (e := some .dr) fun x e => by
      cases e
      exact ⟨fun ds z => Ent.noConfusion z, ⟨_, rfl, rfl⟩⟩
    refine (hb cdv A outer s H E hr).run _ _ _ _ _ H' _ lawE _ kc ⟨fun _ _ _ _ (z : False) _ => z.elim, fun r n v H2 e fr st' rr => ?_, fun _ _ _ _ (z : False) _ => z.elim, fun _ _ _ _ (z : False) _ => z.elim⟩ ?_
    · have e' : r = .im (.bool true) := e
      subst e'
      cases rr
      exact kq H2
    · have := hg ns few
      rw [show N.length - 1 = nN + 1 by omega]
      exact this
end
end Db
namespace En
open PySem PySem.Spec PyProof.Rows L2 Ev Er Co Ow Gd
/-! What the top has left, in words that the kernel reckons out at once. -/
variable {P : Program} {w : World} {K : PySem.W.Frag} {mg : Str → Option Value} {base : Heap} {C : Addr}
/-- an error's class, as isinstance and attributes want it -/
def ecB (K : PySem.W.Frag) (C : Addr) : Bool := (PySem.W.findIn K (.ref C) "__getattribute__" == some (some (.builtin "BaseException.__getattribute__"))) && ((PySem.W.findIn K (.ref C) "__getattr__" == some none) &&
  ((PySem.W.subIn K (.ref C) (.type "BaseException") == some true) && (PySem.W.hasDictIn K C && ((PySem.W.findIn K (.ref C) "__class__" == some (some (.builtin "object.__class__"))) && ((PySem.W.mroIn K C (.type "object") == some true) && PySem.W.isClsIn K C)))))
theorem and2 {a b : Bool} (h : (a && b) = true) : a = true ∧ b = true := Bool.and_eq_true_iff.mp h
theorem ec_all (h : ecB K C = true) : PySem.W.findIn K (.ref C) "__getattribute__" = some (some (.builtin "BaseException.__getattribute__")) ∧ PySem.W.findIn K (.ref C) "__getattr__" = some none ∧ PySem.W.subIn K (.ref C) (.type "BaseException") = some true ∧
    PySem.W.hasDictIn K C = true ∧ PySem.W.findIn K (.ref C) "__class__" = some (some (.builtin "object.__class__")) ∧ PySem.W.mroIn K C (.type "object") = some true ∧ PySem.W.isClsIn K C = true := by
  obtain ⟨h1, h⟩ := and2 h
  obtain ⟨h2, h⟩ := and2 h
  obtain ⟨h3, h⟩ := and2 h
  obtain ⟨h4, h⟩ := and2 h
  obtain ⟨h5, h⟩ := and2 h
  obtain ⟨h6, h7⟩ := and2 h
  exact ⟨beq_iff_eq.mp h1, beq_iff_eq.mp h2, beq_iff_eq.mp h3, h4, beq_iff_eq.mp h5, beq_iff_eq.mp h6, h7⟩
/-- what builtins the class questions reach -/
structure Root (P : Program) (K : PySem.W.Frag) : Prop where
  hn : PySem.W.specialIn K (.builtin "object.__class__") "__get__" = some (some (.builtin "getset_descriptor.__get__"))
  ht : PySem.W.takesIn K (.builtin "object.__class__") = some true
  plain : PySem.W.nsIn K PySem.cStatics "thirdparty.any" = some none
  top : (P.main.scope.names.lookup ("super" : Str)).isSome = false
theorem ecls (R : Root P K) (h : ecB K C = true) : ECls K C := by
  obtain ⟨h1, h2, h3, h4, h5, h6, h7⟩ := ec_all h
  exact ⟨⟨h1, h2, h3, h4, h5, R.hn, R.ht, h6⟩, h7⟩
theorem xf (h : ecB K C = true) : XfC K C := by
  obtain ⟨h1, h2, h3, h4, h5, h6, h7⟩ := ec_all h
  exact ⟨h1, h2, h3, h4⟩
/-- beyond that, of a class with its own __init__ at fI -/
def owB (K : PySem.W.Frag) (C fI : Addr) (field : Str) : Bool := (PySem.W.findIn K (.ref C) "__setattr__" == some (some (.builtin "object.__setattr__"))) && ((PySem.W.typeIn K (.ref C) == some (.type "type")) && (PySem.W.keepIn K (.ref C) &&
  ((PySem.W.findIn K (.ref C) field == some none) && ((PySem.W.typeIn K (.ref fI) == some (.type "function")) && ((PySem.W.ks_superIn K C C "__init__" == some (some (.builtin "ValueError.__init__"))) && ((PySem.W.mroIn K C (.ref C) == some true) && (PySem.W.subIn K (.ref C) (.type "ValueError") == some true)))))))
theorem own {name par field qual : Str} {st : Stmt} {fI cc cda fC : Addr} {fdC : FuncData} {nm q : Str} {N : Addr} {bs bm : List Value} {sn : List Str} {sub : List Value} {ab : Bool} {col : Option Bool} {dd : Option Addr} {k0 k1 k2 k3 k5 : Option Value}
    {oc : Value} {od : Option Addr} {osl : Array (Option Value)} {kV doc pm : Value} {an : Option Addr} {ct ccl : Value} {cdd : Option Addr} {vs : Array Value} {ccs : Array (Option Value)} {file : Str} {tf : Tok} {cl : Value} {cld : Option Addr} {csl : Array (Option Value)}
    (R : Root P K) (S : Form st par field) (hC : ecB K C = true) (hO : owB K C fI field = true) (lC : K.lookup C = some (excClassObj nm q C N bs bm true sn sub ab col dd k0 k1 k2 k3 k5 "ValueError.__new__")) (rC : PySem.HandSPX.refsVE bm = true)
    (iC : PySem.W.findIn K (.ref C) "__init__" = some (some (.ref fI))) (lI : K.lookup fI = some ⟨oc, od, .func (PySem.W.fnX "__init__" qual (defArgs st) (defBody st) (defScope st) [("__class__", cc)] .none kV doc pm an (.ref cda) ct), osl⟩)
    (cI : PySem.W.codeIn K (.ref cda) qual = true) (lc : K.lookup cda = some ⟨ccl, cdd, .fields vs, ccs⟩) (hv : vs[2]? = some (.str file tf)) (hm : ((P.main.file : Str) == file) = true) (ce : K.lookup cc = some ⟨cl, cld, .cell (some (.ref C)), csl⟩)
    (g : mg name = some (.ref C)) (gS : mg "super" = none) (FC : FnOk P w K mg base CX0 3 fC fdC ["value"] (spCopy K 3)) (gC : mg "copied" = some (.ref fC)) (kC : PySem.W.keepIn K (.ref fC) = true) (bC : Binds K fdC ["value"] []) : OwnE P w K mg base 3 5 name par field C := by
  obtain ⟨h1, h2, h3, h4, h5, h6, h7⟩ := ec_all hC
  obtain ⟨o1, h⟩ := and2 hO
  obtain ⟨o2, h⟩ := and2 h
  obtain ⟨o3, h⟩ := and2 h
  obtain ⟨o4, h⟩ := and2 h
  obtain ⟨o5, h⟩ := and2 h
  obtain ⟨o6, h⟩ := and2 h
  obtain ⟨o7, o8⟩ := and2 h
  have X : OexC K C := ⟨⟨nm, q, N, bs, bm, sn, sub, ab, col, dd, k0, k1, k2, k3, k5, lC, rC⟩, beq_iff_eq.mp o1, h3, beq_iff_eq.mp o2, o3⟩
  have T : Txt P K st qual field C fI cc := ⟨X, ⟨oc, od, osl, kV, doc, pm, an, cda, ct, lI, cI, ccl, cdd, vs, ccs, file, tf, lc, hv, hm⟩, ⟨cl, cld, csl, ce⟩, beq_iff_eq.mp o6, beq_iff_eq.mp o7, R.plain, beq_iff_eq.mp o8, beq_iff_eq.mp o4, R.top⟩
  obtain ⟨fd, F, b1, b2⟩ := ok_init (kc := 3) (spc := spCopy K 3) S T FC gC kC bC gS spCopy_mono
  exact ⟨⟨fI, fd, F, iC, beq_iff_eq.mp o5, b1, b2⟩, X, xf hC, beq_iff_eq.mp o4, g⟩
theorem paired_of {f : Addr → Option Bool} : ∀ {Ds : List Addr} {bs : List Bool}, Ds.map f = bs.map some → Paired (fun D b => f D = some b) Ds bs
  | [], [], _ => .nil
  | D :: Ds, b :: bs, h => by
    obtain ⟨h1, h2⟩ := List.cons_eq_cons.mp h
    exact .cons h1 (paired_of h2)
  | [], _ :: _, h => by cases h
  | _ :: _, [], h => by cases h
end En
namespace K50
open PySem PySem.Spec PyProof.Rows L2 DL
open Draw (top)
def recsD : PyData := .tuple [.str "begin", .str "yes", .str "no", .str "ready", .str "agreed", .str "refused"]
def outsD : PyData := .tuple [.str "no", .str "yes"]
def mostD : PyData := .int 100
def Here (K : PySem.W.Frag) (mg : Str → Option Value) (x : Str) (st : Stmt) (ps : List Str) : Prop := ∃ f fd, Fun K x x st f fd ∧ mg x = some (.ref f) ∧ Binds K fd ps []
def GKm (K : PySem.W.Frag) (mg : Str → Option Value) (x : Str) (d : PyData) : Prop := ∃ v u, mg x = some u ∧ RelV v u ∧ ∀ H, Rp K H v d
structure Consts (K : PySem.W.Frag) (mg : Str → Option Value) : Prop where
  RECORDS : GKm K mg "RECORDS" recsD
  OUTCOMES : GKm K mg "OUTCOMES" outsD
  MOST_HOUSES : GKm K mg "MOST_HOUSES" mostD
def bltNames : List Str := ["len", "range", "min", "isinstance", "list", "tuple", "int", "bool", "enumerate", "sum"]
section
variable {P : Program} {w : World} {K : PySem.W.Frag} {mg : Str → Option Value} {base : Heap} {CB : Addr}

abbrev s_is_number : Stmt := top 9
abbrev n_is_number : List Str := ["thing", "low", "high"]
abbrev p_is_number : List Str := ["thing", "low", "high"]
theorem sc_is_number : FnScope n_is_number p_is_number (defScope s_is_number) := ⟨rfl, rfl, rfl, by decide +kernel, rfl, by decide +kernel, by decide +kernel⟩
def g_is_number : FS := (fRet (fAndV (fIs isIntD (fVar 0)) (fAndV (fNotV (fIs isBoolD (fVar 0))) (fChain oLe oLe (fVar 1) (fVar 0) (fVar 2)))))
def F_is_number : FF := runF 3 3 g_is_number
theorem ok_is_number (h0 : Here K mg "is_number" s_is_number p_is_number) (B0 : ∀ x ∈ bltNames, mg x = none) (C0 : Consts K mg) : DefOk (Db.lay CB) P w K mg base 1 "is_number" F_is_number := by
  obtain ⟨f, fd, F, hm, hb⟩ := h0
  refine def_ok F hm hb sc_is_number fun cdv A outer s H E hr => ?_
  have nd := sc_is_number.nd
  have C0g := C0
  exact (xssOne (xsRet (xAnd (xIs kb_int (xVar 0) (B0 "isinstance" (by decide)) (B0 "int" (by decide)) (by decide +kernel)) (xAnd (xNot (xIs kb_bool (xVar 0) (B0 "isinstance" (by decide)) (B0 "bool" (by decide)) (by decide +kernel))) (xOne (xChain os_le os_le (xVar 1) (xVar 0) (xVar 2)))))))

abbrev s_is_list : Stmt := top 10
abbrev n_is_list : List Str := ["thing"]
abbrev p_is_list : List Str := ["thing"]
theorem sc_is_list : FnScope n_is_list p_is_list (defScope s_is_list) := ⟨rfl, rfl, rfl, by decide +kernel, rfl, by decide +kernel, by decide +kernel⟩
def g_is_list : FS := (fRet (fIs (fun d => isListD d || isTupleD d) (fVar 0)))
def F_is_list : FF := runF 1 1 g_is_list
theorem ok_is_list (h0 : Here K mg "is_list" s_is_list p_is_list) (B0 : ∀ x ∈ bltNames, mg x = none) (C0 : Consts K mg) : DefOk (Db.lay CB) P w K mg base 1 "is_list" F_is_list := by
  obtain ⟨f, fd, F, hm, hb⟩ := h0
  refine def_ok F hm hb sc_is_list fun cdv A outer s H E hr => ?_
  have nd := sc_is_list.nd
  have C0g := C0
  exact (xssOne (xsRet (xIs2 kb_list kb_tuple (xVar 0) (B0 "isinstance" (by decide)) (B0 "list" (by decide)) (by decide +kernel) (B0 "tuple" (by decide)) (by decide +kernel))))

abbrev s_first_unfit : Stmt := top 11
abbrev n_first_unfit : List Str := ["items", "choices", "at", "item"]
abbrev p_first_unfit : List Str := ["items", "choices"]
theorem sc_first_unfit : FnScope n_first_unfit p_first_unfit (defScope s_first_unfit) := ⟨rfl, rfl, rfl, by decide +kernel, rfl, by decide +kernel, by decide +kernel⟩
def g_first_unfit : FS := (fSeq (fFor (fEnum false (fVar 0)) (gTup 2 (gsCons (gN 2) (gsCons (gN 3) gsNil))) (fIfS (fOr (fB (f2 (oIn true) (fVar 3) (fVar 1))) (fB (f2 (oIn false) (fVar 3) (fSl (fVar 0) fNoPart (fPart (fVar 2)))))) (fRet (fVar 2)) fSkip)) (fRet (fK .none)))
def F_first_unfit : FF := runF 4 2 g_first_unfit
theorem ok_first_unfit (h0 : Here K mg "first_unfit" s_first_unfit p_first_unfit) (B0 : ∀ x ∈ bltNames, mg x = none) (C0 : Consts K mg) : DefOk (Db.lay CB) P w K mg base 1 "first_unfit" F_first_unfit := by
  obtain ⟨f, fd, F, hm, hb⟩ := h0
  refine def_ok F hm hb sc_first_unfit fun cdv A outer s H E hr => ?_
  have nd := sc_first_unfit.nd
  have C0g := C0
  exact (xssCons (xsFor (xiEnum false (xVar 0) (B0 "enumerate" (by decide))) (xgTup rfl (xgsCons (xgName 2 nd) (xgsCons (xgName 3 nd) xgsNil))) (xssOne (xsIf (XW.xt (xwOr (xtCmp (os_notIn (room65 hr)) (xVar 3) (xVar 1)) (xwOr1 (xtCmp (os_in (room65 hr)) (xVar 3) (xSl (xVar 0) xoNone (xoSome (xVar 2))))))) (xssOne (xsRet (xVar 2))) xssNil)) PassesOwn.never rfl) (xssOne (xsRet xNon)))

abbrev s_check_course : Stmt := top 21
abbrev n_check_course : List Str := ["outcome", "houses"]
abbrev p_check_course : List Str := ["outcome", "houses"]
theorem sc_check_course : FnScope n_check_course p_check_course (defScope s_check_course) := ⟨rfl, rfl, rfl, by decide +kernel, rfl, by decide +kernel, by decide +kernel⟩
def g_check_course : FS := (fSeq (fIfS (fB (f2 (oIn true) (fVar 0) (fK outsD))) (fun _ _ => False) fSkip) (fIfS (fNot (fB (fFn F_is_number (fCons (fVar 1) (fCons (fK (.int 1)) (fCons (fK mostD) fNil)))))) (fun _ _ => False) fSkip))
def F_check_course : FF := runF 2 2 g_check_course
theorem ok_check_course (h0 : Here K mg "check_course" s_check_course p_check_course) (B0 : ∀ x ∈ bltNames, mg x = none) (C0 : Consts K mg) (D_is_number : DefOk (Db.lay CB) P w K mg base 1 "is_number" F_is_number) : DefOk (Db.lay CB) P w K mg base 2 "check_course" F_check_course := by
  obtain ⟨f, fd, F, hm, hb⟩ := h0
  refine def_ok F hm hb sc_check_course fun cdv A outer s H E hr => ?_
  have nd := sc_check_course.nd
  have C0g := C0
  exact (xssCons (xsIf (xtCmp (os_notIn (room65 hr)) (xVar 0) (xGlob ⟨C0g.OUTCOMES⟩)) xssNever xssNil) (xssOne (xsIf (xtNot (xtVal (xCall D_is_number (hr.mono (by decide)) (xaCons (xVar 1) (xaCons xInt (xaCons (xGlob ⟨C0g.MOST_HOUSES⟩) xaNil)))))) xssNever xssNil)))

abbrev s_times_written : Stmt := top 22
abbrev n_times_written : List Str := ["outcome", "houses"]
abbrev p_times_written : List Str := ["outcome", "houses"]
theorem sc_times_written : FnScope n_times_written p_times_written (defScope s_times_written) := ⟨rfl, rfl, rfl, by decide +kernel, rfl, by decide +kernel, by decide +kernel⟩
def g_times_written : FS := (fSeq (fIfS (fB (f2 (oEq false) (fVar 0) (fK (.str "yes")))) (fRet (fDisp [("begin", (fK (.int 1))), ("ready", (fVar 1)), ("yes", (fK (.int 1))), ("agreed", (fVar 1))])) fSkip) (fRet (fDisp [("begin", (fK (.int 1))), ("ready", (f2 oSub (fVar 1) (fK (.int 1)))), ("no", (fK (.int 1))), ("refused", (fVar 1))])))
def F_times_written : FF := runF 2 2 g_times_written
theorem ok_times_written (h0 : Here K mg "times_written" s_times_written p_times_written) (B0 : ∀ x ∈ bltNames, mg x = none) (C0 : Consts K mg) : DefOk (Db.lay CB) P w K mg base 1 "times_written" F_times_written := by
  obtain ⟨f, fd, F, hm, hb⟩ := h0
  refine def_ok F hm hb sc_times_written fun cdv A outer s H E hr => ?_
  have nd := sc_times_written.nd
  have C0g := C0
  exact (xssCons (xsIf (xtCmp (os_eq hr.units) (xVar 0) xStr) (xssOne (xsRet (xDisp (.cons xInt (.cons (xVar 1) (.cons xInt (.cons (xVar 1) .nil))))))) xssNil) (xssOne (xsRet (xDisp (.cons xInt (.cons (xBin os_sub (xVar 1) xInt) (.cons xInt (.cons (xVar 1) .nil))))))))

abbrev s_forced_writings : Stmt := top 23
abbrev n_forced_writings : List Str := ["lot", "outcome", "houses", "times", "record"]
abbrev p_forced_writings : List Str := ["lot", "outcome", "houses"]
theorem sc_forced_writings : FnScope n_forced_writings p_forced_writings (defScope s_forced_writings) := ⟨rfl, rfl, rfl, by decide +kernel, rfl, by decide +kernel, by decide +kernel⟩
def g_forced_writings : FS := (fSeq (fSet 3 (fFn F_times_written (fCons (fVar 1) (fCons (fVar 2) fNil)))) (fRet (fCall (o1 gSum) (fCons (fLc (fItT (fVar 0)) (gN 4) fYes (fDGet2 (fVar 3) (fVar 4) (fK (.int 0))) [4]) fNil))))
def F_forced_writings : FF := runF 5 3 g_forced_writings
theorem ok_forced_writings (h0 : Here K mg "forced_writings" s_forced_writings p_forced_writings) (B0 : ∀ x ∈ bltNames, mg x = none) (C0 : Consts K mg) (D_times_written : DefOk (Db.lay CB) P w K mg base 1 "times_written" F_times_written) : DefOk (Db.lay CB) P w K mg base 2 "forced_writings" F_forced_writings := by
  obtain ⟨f, fd, F, hm, hb⟩ := h0
  refine def_ok F hm hb sc_forced_writings fun cdv A outer s H E hr => ?_
  have nd := sc_forced_writings.nd
  have C0g := C0
  exact (xssCons (xsSet 3 (xCall D_times_written (hr.mono (by decide)) (xaCons (xVar 1) (xaCons (xVar 2) xaNil))) nd) (xssOne (xsRet (xCallB cs_sum (B0 "sum" (by decide)) (by decide +kernel) (xaCons (xLc [("record", 4)] rfl nd (xiTup true (xVar 0)) (by change blkC n_forced_writings (defScope s_forced_writings) _ _ = true; decide +kernel) (fun _ _ _ _ _ => (xgName 4 nd)) (fun _ _ _ _ _ => xtsNil) (fun _ _ _ _ _ => (xDGet2 (hu_of hr) (xVar 3) (xVar 4) xInt))) xaNil)))))

abbrev s_costs : Stmt := top 24
abbrev n_costs : List Str := ["book", "outcome", "houses", "letters"]
abbrev p_costs : List Str := ["book", "outcome", "houses"]
theorem sc_costs : FnScope n_costs p_costs (defScope s_costs) := ⟨rfl, rfl, rfl, by decide +kernel, rfl, by decide +kernel, by decide +kernel⟩
def g_costs : FS := (fSeq (fIfS (fNot (fB (Db.fIsBook (fVar 0)))) (fun _ _ => False) fSkip) (fSeq (fExpr (fFn F_check_course (fCons (fVar 1) (fCons (fVar 2) fNil)))) (fSeq (fSet 3 (f2 oMul (fK (.int 3)) (fVar 2))) (fSeq (fIfS (fB (f2 (oIn false) (fVar 1) (Db.fPart "answers" (fVar 0)))) (fAug 3 (fun i j => i + j) (fVar 2)) fSkip) (fRet (fTup (fCons (fFn F_forced_writings (fCons (Db.fPart "forced" (fVar 0)) (fCons (fVar 1) (fCons (fVar 2) fNil)))) (fCons (fVar 3) fNil))))))))
def F_costs : FF := runF 4 3 g_costs
theorem ok_costs (h0 : Here K mg "costs" s_costs p_costs) (B0 : ∀ x ∈ bltNames, mg x = none) (C0 : Consts K mg) (BX : Db.BookX P w K mg base CB) (D_check_course : DefOk (Db.lay CB) P w K mg base 2 "check_course" F_check_course) (D_forced_writings : DefOk (Db.lay CB) P w K mg base 2 "forced_writings" F_forced_writings) : DefOk (Db.lay CB) P w K mg base 3 "costs" F_costs := by
  obtain ⟨f, fd, F, hm, hb⟩ := h0
  refine def_ok F hm hb sc_costs fun cdv A outer s H E hr => ?_
  have nd := sc_costs.nd
  have C0g := C0
  exact (xssCons (xsIf (xtNot (xtVal (Db.xIsBook BX (xVar 0) (B0 "isinstance" (by decide))))) xssNever xssNil) (xssCons (xsExpr (xCall D_check_course (hr.mono (by decide)) (xaCons (xVar 1) (xaCons (xVar 2) xaNil)))) (xssCons (xsSet 3 (xBin os_mul xInt (xVar 2)) nd) (xssCons (xsIf (xtCmp (os_in (room65 hr)) (xVar 1) (Db.xPart BX (xVar 0) (by decide))) (xssOne (xsAug 3 ip_add (xVar 2) nd)) xssNil) (xssOne (xsRet (xTup (xaCons (xCall D_forced_writings (hr.mono (by decide)) (xaCons (Db.xPart BX (xVar 0) (by decide)) (xaCons (xVar 1) (xaCons (xVar 2) xaNil)))) (xaCons (xVar 3) xaNil)))))))))

abbrev s_with_forced : Stmt := inClass (top 18) 4
abbrev n_with_forced : List Str := ["self", "lot", "rest", "at", "words", "one"]
abbrev p_with_forced : List Str := ["self", "lot", "rest"]
theorem sc_with_forced : FnScope n_with_forced p_with_forced (defScope s_with_forced) := ⟨rfl, rfl, rfl, by decide +kernel, rfl, by decide +kernel, by decide +kernel⟩
def g_with_forced : FS := (fSeq (fIfS (fNot (fB (fFn F_is_list (fCons (fVar 1) fNil)))) (fun _ _ => False) fSkip) (fSeq (fSet 3 (fFn F_first_unfit (fCons (fVar 1) (fCons (fK recsD) fNil)))) (fSeq (fIfS (fB (f2 (oIs true) (fVar 3) (fK .none))) (fun _ _ => False) fSkip) (fSeq (fIfS (fB (f2 (oIn true) (fVar 2) (fTup (fCons (fK (.str "none")) (fCons (fK (.str "lazy")) fNil))))) (fun _ _ => False) fSkip) (fSeq (fSet 4 (fLc (fItT (fK recsD)) (gN 5) fYes (fIf (fB (f2 (oIn false) (fVar 5) (fVar 1))) (fK (.str "forced")) (fVar 2)) [5])) (fRet (Db.fBook (fStar (fVar 4) (fCons (Db.fPart "answers" (fVar 0)) (fCons (Db.fPart "presume" (fVar 0)) fNil))))))))))
def F_with_forced : FF := runF 6 3 g_with_forced
theorem ok_with_forced {f : Addr} {fd : FuncData} (F : Fun K "with_forced" "Book.with_forced" s_with_forced f fd) (M : Meth K CB "with_forced" f) (hb : Binds K fd p_with_forced []) (B0 : ∀ x ∈ bltNames, mg x = none) (C0 : Consts K mg) (BX : Db.BookX P w K mg base CB) (D_is_list : DefOk (Db.lay CB) P w K mg base 1 "is_list" F_is_list) (D_first_unfit : DefOk (Db.lay CB) P w K mg base 1 "first_unfit" F_first_unfit) : Db.MethOk CB P w K mg base 9 "with_forced" F_with_forced := by
  refine Db.meth_ok F M hb sc_with_forced (fun _ _ _ _ _ _ _ _ _ _ => rfl) fun cdv A outer s H E hr => ?_
  have nd := sc_with_forced.nd
  have C0g := C0
  exact (xssCons (xsIf (xtNot (xtVal (xCall D_is_list (hr.mono (by decide)) (xaCons (xVar 1) xaNil)))) xssNever xssNil) (xssCons (xsSet 3 (xCall D_first_unfit (hr.mono (by decide)) (xaCons (xVar 1) (xaCons (xGlob ⟨C0g.RECORDS⟩) xaNil))) nd) (xssCons (xsIf (xtCmp os_isNot (xVar 3) xNon) xssNever xssNil) (xssCons (xsIf (xtCmp (os_notIn (room65 hr)) (xVar 2) (xTup (xaCons xStr (xaCons xStr xaNil)))) xssNever xssNil) (xssCons (xsSetLc 4 [("one", 5)] rfl nd (xiTup true (xGlob ⟨C0g.RECORDS⟩)) (by change blkC n_with_forced (defScope s_with_forced) _ _ = true; decide +kernel) (fun _ _ _ _ _ => (xgName 5 nd)) (fun _ _ _ _ _ => xtsNil) (fun _ _ _ _ _ => (xIf (xtCmp (os_in (room65 hr)) (xVar 5) (xVar 1)) xStr (xVar 2))) (sw_true rfl rfl rfl (by decide +kernel))) (xssOne (xsRet (Db.xBookStar BX (hr.mono (by decide)) (xaStar (xVar 4) (xaCons (Db.xPart BX (xVar 0) (by decide)) (xaCons (Db.xPart BX (xVar 0) (by decide)) xaNil)))))))))))

def g_lap_9 : FS := (fIfS (fB (f2 (oEq true) (fLc (fItL true (fLst (fCons (fK (.str "yes")) (fCons (fK (.str "no")) fNil)))) (gN 10) fYes (fFn F_costs (fCons (fVar 9) (fCons (fVar 10) (fCons (fVar 3) fNil)))) [10]) (fLst (fCons (fTup (fCons (fK (.int 0)) (fCons (f2 oMul (fK (.int 3)) (fVar 3)) fNil))) (fCons (fTup (fCons (fK (.int 0)) (fCons (f2 oMul (fK (.int 3)) (fVar 3)) fNil))) fNil))))) (fRet (fK (.bool false))) fSkip)
def g_lap_8 : FS := fSeq (fSet 9 (Db.fBook (fCons (fVar 4) (fCons (fVar 4) (fCons (fVar 4) (fCons (fVar 4) (fCons (fVar 4) (fCons (fVar 4) (fCons (fTup fNil) (fCons (fFn Db.F_pick (fCons (fVar 1) (fCons (fLst (fCons (fK (.str "no")) (fCons (fK (.str "wait")) (fCons (fK (.str "yes")) fNil)))) fNil))) fNil)))))))))) g_lap_9
def g_lap_7 : FS := fSeq (fIfS (fB (f2 (oEq true) (fLst (fCons (fFn F_costs (fCons (fVar 8) (fCons (fK (.str "yes")) (fCons (fVar 3) fNil)))) (fCons (fFn F_costs (fCons (fVar 8) (fCons (fK (.str "no")) (fCons (fVar 3) fNil)))) fNil))) (fLst (fCons (fTup (fCons (f2 oAdd (f2 oMul (fK (.int 2)) (fVar 3)) (fK (.int 2))) (fCons (f2 oMul (fK (.int 4)) (fVar 3)) fNil))) (fCons (fTup (fCons (f2 oAdd (f2 oMul (fK (.int 2)) (fVar 3)) (fK (.int 1))) (fCons (f2 oMul (fK (.int 4)) (fVar 3)) fNil))) fNil))))) (fRet (fK (.bool false))) fSkip) g_lap_8
def g_lap_6 : FS := fSeq (fSet 8 (Db.fBook (fCons (fK (.str "forced")) (fCons (fK (.str "forced")) (fCons (fK (.str "forced")) (fCons (fK (.str "forced")) (fCons (fK (.str "forced")) (fCons (fK (.str "forced")) (fCons (fLst (fCons (fK (.str "no")) (fCons (fK (.str "yes")) fNil))) (fCons (fK (.str "wait")) fNil)))))))))) g_lap_7
def g_lap_5 : FS := fSeq (fIfS (fB (f2 (oEq true) (fLst (fCons (fFn F_costs (fCons (fVar 7) (fCons (fK (.str "yes")) (fCons (fVar 3) fNil)))) (fCons (fFn F_costs (fCons (fVar 7) (fCons (fK (.str "no")) (fCons (fVar 3) fNil)))) fNil))) (fLst (fCons (fTup (fCons (f2 oAdd (fVar 3) (fK (.int 2))) (fCons (f2 oMul (fK (.int 3)) (fVar 3)) fNil))) (fCons (fTup (fCons (f2 oMul (fK (.int 2)) (fVar 3)) (fCons (f2 oMul (fK (.int 4)) (fVar 3)) fNil))) fNil))))) (fRet (fK (.bool false))) fSkip) g_lap_6
def g_lap_4 : FS := fSeq (fSet 7 (Db.fBook (fCons (fK (.str "forced")) (fCons (fK (.str "forced")) (fCons (fVar 4) (fCons (fK (.str "forced")) (fCons (fVar 4) (fCons (fK (.str "forced")) (fCons (fTup (fCons (fK (.str "no")) fNil)) (fCons (fK (.str "yes")) fNil)))))))))) g_lap_5
def g_lap_3 : FS := fSeq (fIfS (fB (f2 (oEq true) (fLst (fCons (fFn F_costs (fCons (fVar 6) (fCons (fK (.str "yes")) (fCons (fVar 3) fNil)))) (fCons (fFn F_costs (fCons (fVar 6) (fCons (fK (.str "no")) (fCons (fVar 3) fNil)))) fNil))) (fLst (fCons (fTup (fCons (f2 oAdd (f2 oMul (fK (.int 2)) (fVar 3)) (fK (.int 1))) (fCons (f2 oMul (fK (.int 4)) (fVar 3)) fNil))) (fCons (fTup (fCons (f2 oSub (fVar 3) (fK (.int 1))) (fCons (f2 oMul (fK (.int 3)) (fVar 3)) fNil))) fNil))))) (fRet (fK (.bool false))) fSkip) g_lap_4
def g_lap_2 : FS := fSeq (fSet 6 (Db.fMeth F_with_forced (fVar 5) (fCons (fLst (fCons (fK (.str "yes")) (fCons (fK (.str "ready")) (fCons (fK (.str "agreed")) fNil)))) (fCons (fVar 4) fNil)))) g_lap_3
def g_lap_1 : FS := fSeq (fSet 5 (Db.fBook (fCons (fVar 4) (fCons (fVar 4) (fCons (fVar 4) (fCons (fVar 4) (fCons (fVar 4) (fCons (fVar 4) (fCons (fLst (fCons (fK (.str "yes")) fNil)) (fCons (fK (.str "no")) fNil)))))))))) g_lap_2
def g_lap_0 : FS := fSeq (fAsg (gTup 2 (gsCons (gN 3) (gsCons (gN 4) gsNil))) (fTup (fCons (f2 oAdd (fK (.int 1)) (fFn Db.F_take (fCons (fVar 1) (fCons (fK (.int 100)) fNil)))) (fCons (fFn Db.F_pick (fCons (fVar 1) (fCons (fLst (fCons (fK (.str "none")) (fCons (fK (.str "lazy")) fNil))) fNil))) fNil)))) g_lap_1
abbrev g_lap : FS := g_lap_0
abbrev s_law : Stmt := top 30
abbrev n_law : List Str := ["script", "draw", "lap", "many", "rest", "base", "lean", "glad", "full", "bare", "said"]
theorem sc_law : FnScope n_law ["script"] (defScope s_law) := ⟨rfl, rfl, rfl, by decide +kernel, rfl, by decide +kernel, by decide +kernel⟩
def g_law : FS := (fSeq (fFor (fRng1 (fCons (f2 oAdd (fK (.int 2)) (fCall oMin (fCons (fCall Db.oLenS (fCons (fVar 0) fNil)) (fCons (fK (.int 8)) fNil)))) fNil)) (gN 2) g_lap) (fRet (fK (.bool true))))
theorem ok_law {f fB : Addr} {fd fdB : FuncData} (F : Fun K "law" "law" s_law f fd) (GB : FnOk P w K mg base CX0 1 fB fdB ["script"] (Draw.spBegun K)) (gB : mg "_law_begun" = some (.ref fB)) (kB : PySem.W.keepIn K (.ref fB) = true) (bB : Binds K fdB ["script"] [])
    (B0 : ∀ x ∈ bltNames, mg x = none) (BX : Db.BookX P w K mg base CB) (D_with_forced : Db.MethOk CB P w K mg base 9 "with_forced" F_with_forced) (D_costs : DefOk (Db.lay CB) P w K mg base 3 "costs" F_costs)
    (D__law_take : DefOk (Db.lay CB) P w K mg base 2 "_law_take" Db.F_take) (D__law_pick : DefOk (Db.lay CB) P w K mg base 3 "_law_pick" Db.F_pick)
    (hg : ∀ ns : List Int, ns.length ≤ 63 → g_law Db.lawE ⟨some (.ob 1 (.list (ns.map PyData.int))) :: some .dr :: List.replicate 9 none, 0⟩) : FnOk P w K mg base CX0 11 f fd ["script"] (Db.spLaw K) := by
  have nd := sc_law.nd
  refine Db.law_mk (C := CB) (k := 10) (nN := 9) (g := g_law) F sc_law (by rfl) (fun cdv A outer s H E hr => ?_) (fun cdv A outer s H E hr => ?_) hg
  · refine ⟨_, ps_set (i := 1) nd rfl (Or.inl rfl) (pe_call GB (hr.mono (by decide)) rfl gB kB bB .nil pass0 (pa_cons (pv 0) pa_nil)), fun D σ H a e q => ?_⟩
    exact ⟨_, e, q⟩
  · exact (xssCons (xsFor (xiRng1 false (xaCons (xBin os_add xInt (xCallB cs_min (B0 "min" (by decide)) (by decide +kernel) (xaCons (xCallB Db.cs_lenS (B0 "len" (by decide)) (by decide +kernel) (xaCons (xVar 0) xaNil)) (xaCons xInt xaNil)))) xaNil) (B0 "range" (by decide))) (xgName 2 nd) (xssCons (xsAsg (xTup (xaCons (xBin os_add xInt (xCall D__law_take (hr.mono (by decide)) (xaCons (xVar 1) (xaCons xInt xaNil)))) (xaCons (xCall D__law_pick (hr.mono (by decide)) (xaCons (xVar 1) (xaCons (xLst (xaCons xStr (xaCons xStr xaNil))) xaNil))) xaNil))) (xgTup rfl (xgsCons (xgName 3 nd) (xgsCons (xgName 4 nd) xgsNil)))) (xssCons (xsSet 5 (Db.xBook BX (hr.mono (by decide)) (xaCons (xVar 4) (xaCons (xVar 4) (xaCons (xVar 4) (xaCons (xVar 4) (xaCons (xVar 4) (xaCons (xVar 4) (xaCons (xLst (xaCons xStr xaNil)) (xaCons xStr xaNil))))))))) nd) (xssCons (xsSet 6 (Db.xMeth BX D_with_forced (hr.mono (by decide)) (xVar 5) (xaCons (xLst (xaCons xStr (xaCons xStr (xaCons xStr xaNil)))) (xaCons (xVar 4) xaNil))) nd) (xssCons (xsIf (xtCmp (os_ne hr.units) (xLst (xaCons (xCall D_costs (hr.mono (by decide)) (xaCons (xVar 6) (xaCons xStr (xaCons (xVar 3) xaNil)))) (xaCons (xCall D_costs (hr.mono (by decide)) (xaCons (xVar 6) (xaCons xStr (xaCons (xVar 3) xaNil)))) xaNil))) (xLst (xaCons (xTup (xaCons (xBin os_add (xBin os_mul xInt (xVar 3)) xInt) (xaCons (xBin os_mul xInt (xVar 3)) xaNil))) (xaCons (xTup (xaCons (xBin os_sub (xVar 3) xInt) (xaCons (xBin os_mul xInt (xVar 3)) xaNil))) xaNil)))) (xssOne (xsRet xBl)) xssNil) (xssCons (xsSet 7 (Db.xBook BX (hr.mono (by decide)) (xaCons xStr (xaCons xStr (xaCons (xVar 4) (xaCons xStr (xaCons (xVar 4) (xaCons xStr (xaCons (xTup (xaCons xStr xaNil)) (xaCons xStr xaNil))))))))) nd) (xssCons (xsIf (xtCmp (os_ne hr.units) (xLst (xaCons (xCall D_costs (hr.mono (by decide)) (xaCons (xVar 7) (xaCons xStr (xaCons (xVar 3) xaNil)))) (xaCons (xCall D_costs (hr.mono (by decide)) (xaCons (xVar 7) (xaCons xStr (xaCons (xVar 3) xaNil)))) xaNil))) (xLst (xaCons (xTup (xaCons (xBin os_add (xVar 3) xInt) (xaCons (xBin os_mul xInt (xVar 3)) xaNil))) (xaCons (xTup (xaCons (xBin os_mul xInt (xVar 3)) (xaCons (xBin os_mul xInt (xVar 3)) xaNil))) xaNil)))) (xssOne (xsRet xBl)) xssNil) (xssCons (xsSet 8 (Db.xBook BX (hr.mono (by decide)) (xaCons xStr (xaCons xStr (xaCons xStr (xaCons xStr (xaCons xStr (xaCons xStr (xaCons (xLst (xaCons xStr (xaCons xStr xaNil))) (xaCons xStr xaNil))))))))) nd) (xssCons (xsIf (xtCmp (os_ne hr.units) (xLst (xaCons (xCall D_costs (hr.mono (by decide)) (xaCons (xVar 8) (xaCons xStr (xaCons (xVar 3) xaNil)))) (xaCons (xCall D_costs (hr.mono (by decide)) (xaCons (xVar 8) (xaCons xStr (xaCons (xVar 3) xaNil)))) xaNil))) (xLst (xaCons (xTup (xaCons (xBin os_add (xBin os_mul xInt (xVar 3)) xInt) (xaCons (xBin os_mul xInt (xVar 3)) xaNil))) (xaCons (xTup (xaCons (xBin os_add (xBin os_mul xInt (xVar 3)) xInt) (xaCons (xBin os_mul xInt (xVar 3)) xaNil))) xaNil)))) (xssOne (xsRet xBl)) xssNil) (xssCons (xsSet 9 (Db.xBook BX (hr.mono (by decide)) (xaCons (xVar 4) (xaCons (xVar 4) (xaCons (xVar 4) (xaCons (xVar 4) (xaCons (xVar 4) (xaCons (xVar 4) (xaCons (xTup xaNil) (xaCons (xCall D__law_pick (hr.mono (by decide)) (xaCons (xVar 1) (xaCons (xLst (xaCons xStr (xaCons xStr (xaCons xStr xaNil)))) xaNil))) xaNil))))))))) nd) (xssOne (xsIf (xtCmp (os_ne hr.units) (xLc [("said", 10)] rfl nd (xiList true (xLst (xaCons xStr (xaCons xStr xaNil)))) (by change blkC n_law (defScope s_law) _ _ = true; decide +kernel) (fun _ _ _ _ _ => (xgName 10 nd)) (fun _ _ _ _ _ => xtsNil) (fun _ _ _ _ _ => (xCall D_costs (hr.mono (by decide)) (xaCons (xVar 9) (xaCons (xVar 10) (xaCons (xVar 3) xaNil)))))) (xLst (xaCons (xTup (xaCons xInt (xaCons (xBin os_mul xInt (xVar 3)) xaNil))) (xaCons (xTup (xaCons xInt (xaCons (xBin os_mul xInt (xVar 3)) xaNil))) xaNil)))) (xssOne (xsRet xBl)) xssNil))))))))))) PassesOwn.never rfl) (xssOne (xsRet xBl)))
end
end K50
namespace K50
open PySem PySem.Spec PyProof.Rows L2 DL
theorem oAdd_int {i j : Int} {Q : Ent → Prop} : oAdd (.im (.int i)) (.im (.int j)) Q = Q (.im (.int (i + j))) := rfl
theorem take_ok {z : Int} {n : Nat} {Q : Ent → Nat → Prop} (hn : n < 1000000) (h0 : 0 < z) (h1 : z < 1000000) (q : ∀ x : Int, 0 ≤ x → x < z → Q (.im (.int x)) (n + 1)) : Db.F_take [.dr, .im (.int z)] n Q := ⟨⟨hn, h0, h1⟩, q⟩
theorem pick_ok {ds : List PyData} {n : Nat} {Q : Ent → Nat → Prop} (hn : n < 1000000) (h0 : 0 < ds.length) (h1 : ds.length < 1000) (q : ∀ x ∈ ds, Q (.im x) (n + 1)) : Db.F_pick [.dr, .im (.list ds)] n Q := ⟨⟨hn, h0, h1⟩, q⟩
theorem oIn_ok {neg b : Bool} {r r' : Ent} {d : PyData} {es : List PyData} {Q : Ent → Prop} (hr : r.dat = some d) (hi : r'.dat.bind items = some es) (h1 : SeqAt.shaped d = true) (h2 : SeqAt.shaped (.list es) = true) (h3 : (es.any fun z => PyData.eqv z d) = b) (q : Q (.im (.bool (neg != b)))) : oIn neg r r' Q := by
  unfold oIn
  simp only [hr, hi]
  exact ⟨h1, h2, by rw [h3]; exact q⟩
theorem oEq_ok {neg b : Bool} {r r' : Ent} {d e : PyData} {Q : Ent → Prop} (hr : r.dat = some d) (hr' : r'.dat = some e) (h1 : SeqAt.shaped d = true) (h2 : SeqAt.shaped e = true) (h3 : PyData.eqv d e = b) (q : Q (.im (.bool (neg != b)))) : oEq neg r r' Q := by
  unfold oEq
  simp only [hr, hr']
  exact ⟨h1, h2, by rw [h3]; exact q⟩
theorem num_ok {m : Int} {n : Nat} {Q : Ent → Nat → Prop} (h1 : 1 ≤ m) (h2 : m ≤ 100) (q : Q (.im (.bool true)) n) : F_is_number [.im (.int m), .im (.int 1), .im mostD] n Q := by
  have e1 : decide ((1 : Int) ≤ m) = true := decide_eq_true h1
  have e2 : decide (m ≤ (100 : Int)) = true := decide_eq_true h2
  refine ⟨rfl, ?_⟩
  unfold g_is_number mostD
  simp (config := { failIfUnchanged := false }) only [runF, List.map_cons, List.map_nil, List.cons_append, List.nil_append, List.reduceReplicate, Nat.reduceSub, List.length_cons, List.length_nil, fSeq, fIfS, fB, fOr, fAnd, fNot, f2, fVar, DL.gt, DL.pt, asR, fK, fCons, fNil, fFn, argsOf, fRet, fRet.plainR2, plainR, fSet, fExpr, isB, isI, Ent.dat, Ent.kept, kepts, fTup, fLst, fIs, fAndV, fOrV, fNotV, fIf, fSkip, fChain, oI, oIs, isNonD, oAdd_int, isTupleD, isListD, isIntD, isBoolD, isStrD, fCall, o1, gSum, gLen, fAsg, DL.gTup, gsCons, gsNil, gN, fLc, fYes, fItL, fItT, items, Option.bind_some, Db.fIsBook, fAug, dispGo, fDisp, fDGet2, List.zip_cons_cons, List.zip_nil_right, Bool.not_true, Bool.not_false, bne_self_eq_false, Bool.bne_false, Bool.bne_true, Nat.reduceAdd, true_and, wipeE, fFor, fRng1, fEnum, fStar, fNoPart, fPart, fSl, gSl, Db.fMeth, Db.fBook, Nat.reduceLeDiff]
  simp only [e1, e2]
  exact q
theorem course_ok {m : Int} {n : Nat} {Q : Ent → Nat → Prop} {said : Str} (hs : said = "yes" ∨ said = "no") (h1 : 1 ≤ m) (h2 : m ≤ 100) (q : Q (.im .none) n) : F_check_course [.im (.str said), .im (.int m)] n Q := by
  refine ⟨rfl, ?_⟩
  unfold g_check_course
  simp (config := { failIfUnchanged := false }) only [runF, List.map_cons, List.map_nil, List.cons_append, List.nil_append, List.reduceReplicate, Nat.reduceSub, List.length_cons, List.length_nil, fSeq, fIfS, fB, fOr, fAnd, fNot, f2, fVar, DL.gt, DL.pt, asR, fK, fCons, fNil, fFn, argsOf, fRet, fRet.plainR2, plainR, fSet, fExpr, isB, isI, Ent.dat, Ent.kept, kepts, fTup, fLst, fIs, fAndV, fOrV, fNotV, fIf, fSkip, fChain, oI, oIs, isNonD, oAdd_int, isTupleD, isListD, isIntD, isBoolD, isStrD, fCall, o1, gSum, gLen, fAsg, DL.gTup, gsCons, gsNil, gN, fLc, fYes, fItL, fItT, items, Option.bind_some, Db.fIsBook, fAug, dispGo, fDisp, fDGet2, List.zip_cons_cons, List.zip_nil_right, Bool.not_true, Bool.not_false, bne_self_eq_false, Bool.bne_false, Bool.bne_true, Nat.reduceAdd, true_and, wipeE, fFor, fRng1, fEnum, fStar, fNoPart, fPart, fSl, gSl, Db.fMeth, Db.fBook, Nat.reduceLeDiff]
  rcases hs with rfl | rfl
  · refine oIn_ok (b := true) rfl rfl (by first | rfl | decide +kernel) (by first | rfl | decide +kernel) (by rfl) ?_
    simp (config := { failIfUnchanged := false }) only [runF, List.map_cons, List.map_nil, List.cons_append, List.nil_append, List.reduceReplicate, Nat.reduceSub, List.length_cons, List.length_nil, fSeq, fIfS, fB, fOr, fAnd, fNot, f2, fVar, DL.gt, DL.pt, asR, fK, fCons, fNil, fFn, argsOf, fRet, fRet.plainR2, plainR, fSet, fExpr, isB, isI, Ent.dat, Ent.kept, kepts, fTup, fLst, fIs, fAndV, fOrV, fNotV, fIf, fSkip, fChain, oI, oIs, isNonD, oAdd_int, isTupleD, isListD, isIntD, isBoolD, isStrD, fCall, o1, gSum, gLen, fAsg, DL.gTup, gsCons, gsNil, gN, fLc, fYes, fItL, fItT, items, Option.bind_some, Db.fIsBook, fAug, dispGo, fDisp, fDGet2, List.zip_cons_cons, List.zip_nil_right, Bool.not_true, Bool.not_false, bne_self_eq_false, Bool.bne_false, Bool.bne_true, Nat.reduceAdd, true_and, wipeE, fFor, fRng1, fEnum, fStar, fNoPart, fPart, fSl, gSl, Db.fMeth, Db.fBook, Nat.reduceLeDiff]
    refine num_ok h1 h2 ?_
    simp (config := { failIfUnchanged := false }) only [runF, List.map_cons, List.map_nil, List.cons_append, List.nil_append, List.reduceReplicate, Nat.reduceSub, List.length_cons, List.length_nil, fSeq, fIfS, fB, fOr, fAnd, fNot, f2, fVar, DL.gt, DL.pt, asR, fK, fCons, fNil, fFn, argsOf, fRet, fRet.plainR2, plainR, fSet, fExpr, isB, isI, Ent.dat, Ent.kept, kepts, fTup, fLst, fIs, fAndV, fOrV, fNotV, fIf, fSkip, fChain, oI, oIs, isNonD, oAdd_int, isTupleD, isListD, isIntD, isBoolD, isStrD, fCall, o1, gSum, gLen, fAsg, DL.gTup, gsCons, gsNil, gN, fLc, fYes, fItL, fItT, items, Option.bind_some, Db.fIsBook, fAug, dispGo, fDisp, fDGet2, List.zip_cons_cons, List.zip_nil_right, Bool.not_true, Bool.not_false, bne_self_eq_false, Bool.bne_false, Bool.bne_true, Nat.reduceAdd, true_and, wipeE, fFor, fRng1, fEnum, fStar, fNoPart, fPart, fSl, gSl, Db.fMeth, Db.fBook, Nat.reduceLeDiff]
    exact q
  · refine oIn_ok (b := true) rfl rfl (by first | rfl | decide +kernel) (by first | rfl | decide +kernel) (by rfl) ?_
    simp (config := { failIfUnchanged := false }) only [runF, List.map_cons, List.map_nil, List.cons_append, List.nil_append, List.reduceReplicate, Nat.reduceSub, List.length_cons, List.length_nil, fSeq, fIfS, fB, fOr, fAnd, fNot, f2, fVar, DL.gt, DL.pt, asR, fK, fCons, fNil, fFn, argsOf, fRet, fRet.plainR2, plainR, fSet, fExpr, isB, isI, Ent.dat, Ent.kept, kepts, fTup, fLst, fIs, fAndV, fOrV, fNotV, fIf, fSkip, fChain, oI, oIs, isNonD, oAdd_int, isTupleD, isListD, isIntD, isBoolD, isStrD, fCall, o1, gSum, gLen, fAsg, DL.gTup, gsCons, gsNil, gN, fLc, fYes, fItL, fItT, items, Option.bind_some, Db.fIsBook, fAug, dispGo, fDisp, fDGet2, List.zip_cons_cons, List.zip_nil_right, Bool.not_true, Bool.not_false, bne_self_eq_false, Bool.bne_false, Bool.bne_true, Nat.reduceAdd, true_and, wipeE, fFor, fRng1, fEnum, fStar, fNoPart, fPart, fSl, gSl, Db.fMeth, Db.fBook, Nat.reduceLeDiff]
    refine num_ok h1 h2 ?_
    simp (config := { failIfUnchanged := false }) only [runF, List.map_cons, List.map_nil, List.cons_append, List.nil_append, List.reduceReplicate, Nat.reduceSub, List.length_cons, List.length_nil, fSeq, fIfS, fB, fOr, fAnd, fNot, f2, fVar, DL.gt, DL.pt, asR, fK, fCons, fNil, fFn, argsOf, fRet, fRet.plainR2, plainR, fSet, fExpr, isB, isI, Ent.dat, Ent.kept, kepts, fTup, fLst, fIs, fAndV, fOrV, fNotV, fIf, fSkip, fChain, oI, oIs, isNonD, oAdd_int, isTupleD, isListD, isIntD, isBoolD, isStrD, fCall, o1, gSum, gLen, fAsg, DL.gTup, gsCons, gsNil, gN, fLc, fYes, fItL, fItT, items, Option.bind_some, Db.fIsBook, fAug, dispGo, fDisp, fDGet2, List.zip_cons_cons, List.zip_nil_right, Bool.not_true, Bool.not_false, bne_self_eq_false, Bool.bne_false, Bool.bne_true, Nat.reduceAdd, true_and, wipeE, fFor, fRng1, fEnum, fStar, fNoPart, fPart, fSl, gSl, Db.fMeth, Db.fBook, Nat.reduceLeDiff]
    exact q
def times (said : Str) (m : Int) : PyData := if said = "yes" then .dict [(.str "begin", .int 1), (.str "ready", .int m), (.str "yes", .int 1), (.str "agreed", .int m)] else .dict [(.str "begin", .int 1), (.str "ready", .int (m - 1)), (.str "no", .int 1), (.str "refused", .int m)]
theorem times_ok {m : Int} {n : Nat} {Q : Ent → Nat → Prop} {said : Str} (hs : said = "yes" ∨ said = "no") (q : Q (.im (times said m)) n) : F_times_written [.im (.str said), .im (.int m)] n Q := by
  refine ⟨rfl, ?_⟩
  unfold g_times_written
  simp (config := { failIfUnchanged := false }) only [runF, List.map_cons, List.map_nil, List.cons_append, List.nil_append, List.reduceReplicate, Nat.reduceSub, List.length_cons, List.length_nil, fSeq, fIfS, fB, fOr, fAnd, fNot, f2, fVar, DL.gt, DL.pt, asR, fK, fCons, fNil, fFn, argsOf, fRet, fRet.plainR2, plainR, fSet, fExpr, isB, isI, Ent.dat, Ent.kept, kepts, fTup, fLst, fIs, fAndV, fOrV, fNotV, fIf, fSkip, fChain, oI, oIs, isNonD, oAdd_int, isTupleD, isListD, isIntD, isBoolD, isStrD, fCall, o1, gSum, gLen, fAsg, DL.gTup, gsCons, gsNil, gN, fLc, fYes, fItL, fItT, items, Option.bind_some, Db.fIsBook, fAug, dispGo, fDisp, fDGet2, List.zip_cons_cons, List.zip_nil_right, Bool.not_true, Bool.not_false, bne_self_eq_false, Bool.bne_false, Bool.bne_true, Nat.reduceAdd, true_and, wipeE, fFor, fRng1, fEnum, fStar, fNoPart, fPart, fSl, gSl, Db.fMeth, Db.fBook, Nat.reduceLeDiff]
  rcases hs with rfl | rfl
  · refine oEq_ok (b := true) rfl rfl (by first | rfl | decide +kernel) (by first | rfl | decide +kernel) (by rfl) ?_
    simp (config := { failIfUnchanged := false }) only [runF, List.map_cons, List.map_nil, List.cons_append, List.nil_append, List.reduceReplicate, Nat.reduceSub, List.length_cons, List.length_nil, fSeq, fIfS, fB, fOr, fAnd, fNot, f2, fVar, DL.gt, DL.pt, asR, fK, fCons, fNil, fFn, argsOf, fRet, fRet.plainR2, plainR, fSet, fExpr, isB, isI, Ent.dat, Ent.kept, kepts, fTup, fLst, fIs, fAndV, fOrV, fNotV, fIf, fSkip, fChain, oI, oIs, isNonD, oAdd_int, isTupleD, isListD, isIntD, isBoolD, isStrD, fCall, o1, gSum, gLen, fAsg, DL.gTup, gsCons, gsNil, gN, fLc, fYes, fItL, fItT, items, Option.bind_some, Db.fIsBook, fAug, dispGo, fDisp, fDGet2, List.zip_cons_cons, List.zip_nil_right, Bool.not_true, Bool.not_false, bne_self_eq_false, Bool.bne_false, Bool.bne_true, Nat.reduceAdd, true_and, wipeE, fFor, fRng1, fEnum, fStar, fNoPart, fPart, fSl, gSl, Db.fMeth, Db.fBook, Nat.reduceLeDiff]
    exact q
  · refine oEq_ok (b := false) rfl rfl (by first | rfl | decide +kernel) (by first | rfl | decide +kernel) (by rfl) ?_
    simp (config := { failIfUnchanged := false }) only [runF, List.map_cons, List.map_nil, List.cons_append, List.nil_append, List.reduceReplicate, Nat.reduceSub, List.length_cons, List.length_nil, fSeq, fIfS, fB, fOr, fAnd, fNot, f2, fVar, DL.gt, DL.pt, asR, fK, fCons, fNil, fFn, argsOf, fRet, fRet.plainR2, plainR, fSet, fExpr, isB, isI, Ent.dat, Ent.kept, kepts, fTup, fLst, fIs, fAndV, fOrV, fNotV, fIf, fSkip, fChain, oI, oIs, isNonD, oAdd_int, isTupleD, isListD, isIntD, isBoolD, isStrD, fCall, o1, gSum, gLen, fAsg, DL.gTup, gsCons, gsNil, gN, fLc, fYes, fItL, fItT, items, Option.bind_some, Db.fIsBook, fAug, dispGo, fDisp, fDGet2, List.zip_cons_cons, List.zip_nil_right, Bool.not_true, Bool.not_false, bne_self_eq_false, Bool.bne_false, Bool.bne_true, Nat.reduceAdd, true_and, wipeE, fFor, fRng1, fEnum, fStar, fNoPart, fPart, fSl, gSl, Db.fMeth, Db.fBook, Nat.reduceLeDiff]
    exact q

theorem lc_map {i : Nat} {f : FE} {val : PyData → PyData} {env : List (Option Ent)} {n : Nat} {Q : List PyData → Nat → Prop} : ∀ {ds acc : List PyData}, (∀ d ∈ ds, ∀ Q' : Ent → S → Prop, Q' (.im (val d)) ⟨pt env i (some (.im d)), n⟩ → f ⟨pt env i (some (.im d)), n⟩ Q') → Q (acc ++ ds.map val) n → lcGo (gN i) fYes f ds acc ⟨env, n⟩ Q
  | [], acc, _, q => by simpa [lcGo] using q
  | d :: ds, acc, h, q => by
    show f ⟨pt env i (some (.im d)), n⟩ _
    refine h d List.mem_cons_self _ ?_
    exact lc_map (ds := ds) (acc := acc ++ [val d]) (fun d' m => h d' (List.mem_cons_of_mem _ m)) (by simpa using q)
theorem lc_mapE {i : Nat} {f : FE} {val : PyData → PyData} {env : List (Option Ent)} {n : Nat} {Q : List PyData → Nat → Prop} {ds : List PyData} (out : List PyData) (ho : ds.map val = out) (hf : ∀ d ∈ ds, ∀ Q' : Ent → S → Prop, Q' (.im (val d)) ⟨pt env i (some (.im d)), n⟩ → f ⟨pt env i (some (.im d)), n⟩ Q') (q : Q out n) : lcGo (gN i) fYes f ds [] ⟨env, n⟩ Q :=
  lc_map hf (by rw [ho]; exact q)
def timesL (said : Str) (m : Int) : List (PyData × PyData) := if said = "yes" then [(.str "begin", .int 1), (.str "ready", .int m), (.str "yes", .int 1), (.str "agreed", .int m)] else [(.str "begin", .int 1), (.str "ready", .int (m - 1)), (.str "no", .int 1), (.str "refused", .int m)]
theorem times_eq {said : Str} {m : Int} : times said m = .dict (timesL said m) := by
  unfold times timesL
  split <;> rfl
def worth (said : Str) (m : Int) (x : PyData) : PyData := match keyOf x with
  | some k => (dgetP (timesL said m) k).getD (.int 0)
  | none => .int 0
theorem writings_ok {m : Int} {n : Nat} {Q : Ent → Nat → Prop} {said : Str} {lot : List PyData} {ns : List Int} (hs : said = "yes" ∨ said = "no") (hk : ∀ d ∈ lot, (keyOf d).isSome = true) (hi : intsD (lot.map (worth said m)) = some ns) (q : Q (.im (.int ns.sum)) n) : F_forced_writings [.im (.tuple lot), .im (.str said), .im (.int m)] n Q := by
  refine ⟨rfl, ?_⟩
  unfold g_forced_writings
  simp (config := { failIfUnchanged := false }) only [runF, List.map_cons, List.map_nil, List.cons_append, List.nil_append, List.reduceReplicate, Nat.reduceSub, List.length_cons, List.length_nil, fSeq, fIfS, fB, fOr, fAnd, fNot, f2, fVar, DL.gt, DL.pt, asR, fK, fCons, fNil, fFn, argsOf, fRet, fRet.plainR2, plainR, fSet, fExpr, isB, isI, Ent.dat, Ent.kept, kepts, fTup, fLst, fIs, fAndV, fOrV, fNotV, fIf, fSkip, fChain, oI, oIs, isNonD, oAdd_int, isTupleD, isListD, isIntD, isBoolD, isStrD, fCall, o1, gSum, gLen, fAsg, DL.gTup, gsCons, gsNil, gN, fLc, fYes, fItL, fItT, items, Option.bind_some, Db.fIsBook, fAug, dispGo, fDisp, fDGet2, List.zip_cons_cons, List.zip_nil_right, Bool.not_true, Bool.not_false, bne_self_eq_false, Bool.bne_false, Bool.bne_true, Nat.reduceAdd, true_and, wipeE, fFor, fRng1, fEnum, fStar, fNoPart, fPart, fSl, gSl, Db.fMeth, Db.fBook, Nat.reduceLeDiff]
  refine times_ok hs ?_
  rw [times_eq]
  simp (config := { failIfUnchanged := false }) only [runF, List.map_cons, List.map_nil, List.cons_append, List.nil_append, List.reduceReplicate, Nat.reduceSub, List.length_cons, List.length_nil, fSeq, fIfS, fB, fOr, fAnd, fNot, f2, fVar, DL.gt, DL.pt, asR, fK, fCons, fNil, fFn, argsOf, fRet, fRet.plainR2, plainR, fSet, fExpr, isB, isI, Ent.dat, Ent.kept, kepts, fTup, fLst, fIs, fAndV, fOrV, fNotV, fIf, fSkip, fChain, oI, oIs, isNonD, oAdd_int, isTupleD, isListD, isIntD, isBoolD, isStrD, fCall, o1, gSum, gLen, fAsg, DL.gTup, gsCons, gsNil, gN, fLc, fYes, fItL, fItT, items, Option.bind_some, Db.fIsBook, fAug, dispGo, fDisp, fDGet2, List.zip_cons_cons, List.zip_nil_right, Bool.not_true, Bool.not_false, bne_self_eq_false, Bool.bne_false, Bool.bne_true, Nat.reduceAdd, true_and, wipeE, fFor, fRng1, fEnum, fStar, fNoPart, fPart, fSl, gSl, Db.fMeth, Db.fBook, Nat.reduceLeDiff]
  refine lc_map (val := worth said m) (fun d hd Q' q' => ?_) ?_
  · obtain ⟨k, hk'⟩ := Option.isSome_iff_exists.mp (hk d hd)
    simp (config := { failIfUnchanged := false }) only [runF, List.map_cons, List.map_nil, List.cons_append, List.nil_append, List.reduceReplicate, Nat.reduceSub, List.length_cons, List.length_nil, fSeq, fIfS, fB, fOr, fAnd, fNot, f2, fVar, DL.gt, DL.pt, asR, fK, fCons, fNil, fFn, argsOf, fRet, fRet.plainR2, plainR, fSet, fExpr, isB, isI, Ent.dat, Ent.kept, kepts, fTup, fLst, fIs, fAndV, fOrV, fNotV, fIf, fSkip, fChain, oI, oIs, isNonD, oAdd_int, isTupleD, isListD, isIntD, isBoolD, isStrD, fCall, o1, gSum, gLen, fAsg, DL.gTup, gsCons, gsNil, gN, fLc, fYes, fItL, fItT, items, Option.bind_some, Db.fIsBook, fAug, dispGo, fDisp, fDGet2, List.zip_cons_cons, List.zip_nil_right, Bool.not_true, Bool.not_false, bne_self_eq_false, Bool.bne_false, Bool.bne_true, Nat.reduceAdd, true_and, wipeE, fFor, fRng1, fEnum, fStar, fNoPart, fPart, fSl, gSl, Db.fMeth, Db.fBook, Nat.reduceLeDiff]
    rw [hk']
    have : worth said m d = (dgetP (timesL said m) k).getD (.int 0) := by unfold worth; rw [hk']
    rw [this] at q'
    exact q'
  · simp (config := { failIfUnchanged := false }) only [runF, List.map_cons, List.map_nil, List.cons_append, List.nil_append, List.reduceReplicate, Nat.reduceSub, List.length_cons, List.length_nil, fSeq, fIfS, fB, fOr, fAnd, fNot, f2, fVar, DL.gt, DL.pt, asR, fK, fCons, fNil, fFn, argsOf, fRet, fRet.plainR2, plainR, fSet, fExpr, isB, isI, Ent.dat, Ent.kept, kepts, fTup, fLst, fIs, fAndV, fOrV, fNotV, fIf, fSkip, fChain, oI, oIs, isNonD, oAdd_int, isTupleD, isListD, isIntD, isBoolD, isStrD, fCall, o1, gSum, gLen, fAsg, DL.gTup, gsCons, gsNil, gN, fLc, fYes, fItL, fItT, items, Option.bind_some, Db.fIsBook, fAug, dispGo, fDisp, fDGet2, List.zip_cons_cons, List.zip_nil_right, Bool.not_true, Bool.not_false, bne_self_eq_false, Bool.bne_false, Bool.bne_true, Nat.reduceAdd, true_and, wipeE, fFor, fRng1, fEnum, fStar, fNoPart, fPart, fSl, gSl, Db.fMeth, Db.fBook, Nat.reduceLeDiff]
    rw [hi]
    exact q
theorem oMul_ok {i j : Int} {Q : Ent → Prop} (h1 : 0 ≤ i) (h2 : i ≤ 1000) (q : Q (.im (.int (i * j)))) : oMul (.im (.int i)) (.im (.int j)) Q := ⟨.inl (by omega), q⟩
theorem part_ok {f : Str} {env : List (Option Ent)} {n i : Nat} {b e : PyData} {Q : Ent → S → Prop} (h0 : DL.gt env i = some (.ob 0 b)) (hp : Db.partOf f b = some e) (q : Q (.im e) ⟨env, n⟩) : Db.fPart f (fVar i) ⟨env, n⟩ Q := by
  unfold Db.fPart fVar
  simp only [h0, asR, hp]
  exact q
theorem costs_ok {b : PyData} {fs as : List PyData} {ns : List Int} {said : Str} {m : Int} {n : Nat} {ya : Bool} {Q : Ent → Nat → Prop} (hs : said = "yes" ∨ said = "no") (h1 : 1 ≤ m) (h2 : m ≤ 100) (hf : Db.partOf "forced" b = some (.tuple fs)) (ha : Db.partOf "answers" b = some (.tuple as)) (hA : SeqAt.shaped (.list as) = true) (hin : (as.any fun z => PyData.eqv z (.str said)) = ya)
    (hk : ∀ d ∈ fs, (keyOf d).isSome = true) (hi : intsD (fs.map (worth said m)) = some ns) (q : Q (.im (.tuple [.int ns.sum, .int (if ya then 3 * m + m else 3 * m)])) n) : F_costs [.ob 0 b, .im (.str said), .im (.int m)] n Q := by
  refine ⟨rfl, ?_⟩
  unfold g_costs
  simp (config := { failIfUnchanged := false }) only [runF, List.map_cons, List.map_nil, List.cons_append, List.nil_append, List.reduceReplicate, Nat.reduceSub, List.length_cons, List.length_nil, fSeq, fIfS, fB, fOr, fAnd, fNot, f2, fVar, DL.gt, DL.pt, asR, fK, fCons, fNil, fFn, argsOf, fRet, fRet.plainR2, plainR, fSet, fExpr, isB, isI, Ent.dat, Ent.kept, kepts, fTup, fLst, fIs, fAndV, fOrV, fNotV, fIf, fSkip, fChain, oI, oIs, isNonD, oAdd_int, isTupleD, isListD, isIntD, isBoolD, isStrD, fCall, o1, gSum, gLen, fAsg, DL.gTup, gsCons, gsNil, gN, fLc, fYes, fItL, fItT, items, Option.bind_some, Db.fIsBook, fAug, dispGo, fDisp, fDGet2, List.zip_cons_cons, List.zip_nil_right, Bool.not_true, Bool.not_false, bne_self_eq_false, Bool.bne_false, Bool.bne_true, Nat.reduceAdd, true_and, wipeE, fFor, fRng1, fEnum, fStar, fNoPart, fPart, fSl, gSl, Db.fMeth, Db.fBook, Nat.reduceLeDiff]
  refine course_ok hs h1 h2 ?_
  simp (config := { failIfUnchanged := false }) only [runF, List.map_cons, List.map_nil, List.cons_append, List.nil_append, List.reduceReplicate, Nat.reduceSub, List.length_cons, List.length_nil, fSeq, fIfS, fB, fOr, fAnd, fNot, f2, fVar, DL.gt, DL.pt, asR, fK, fCons, fNil, fFn, argsOf, fRet, fRet.plainR2, plainR, fSet, fExpr, isB, isI, Ent.dat, Ent.kept, kepts, fTup, fLst, fIs, fAndV, fOrV, fNotV, fIf, fSkip, fChain, oI, oIs, isNonD, oAdd_int, isTupleD, isListD, isIntD, isBoolD, isStrD, fCall, o1, gSum, gLen, fAsg, DL.gTup, gsCons, gsNil, gN, fLc, fYes, fItL, fItT, items, Option.bind_some, Db.fIsBook, fAug, dispGo, fDisp, fDGet2, List.zip_cons_cons, List.zip_nil_right, Bool.not_true, Bool.not_false, bne_self_eq_false, Bool.bne_false, Bool.bne_true, Nat.reduceAdd, true_and, wipeE, fFor, fRng1, fEnum, fStar, fNoPart, fPart, fSl, gSl, Db.fMeth, Db.fBook, Nat.reduceLeDiff]
  refine oMul_ok (by decide) (by decide) ?_
  simp (config := { failIfUnchanged := false }) only [runF, List.map_cons, List.map_nil, List.cons_append, List.nil_append, List.reduceReplicate, Nat.reduceSub, List.length_cons, List.length_nil, fSeq, fIfS, fB, fOr, fAnd, fNot, f2, fVar, DL.gt, DL.pt, asR, fK, fCons, fNil, fFn, argsOf, fRet, fRet.plainR2, plainR, fSet, fExpr, isB, isI, Ent.dat, Ent.kept, kepts, fTup, fLst, fIs, fAndV, fOrV, fNotV, fIf, fSkip, fChain, oI, oIs, isNonD, oAdd_int, isTupleD, isListD, isIntD, isBoolD, isStrD, fCall, o1, gSum, gLen, fAsg, DL.gTup, gsCons, gsNil, gN, fLc, fYes, fItL, fItT, items, Option.bind_some, Db.fIsBook, fAug, dispGo, fDisp, fDGet2, List.zip_cons_cons, List.zip_nil_right, Bool.not_true, Bool.not_false, bne_self_eq_false, Bool.bne_false, Bool.bne_true, Nat.reduceAdd, true_and, wipeE, fFor, fRng1, fEnum, fStar, fNoPart, fPart, fSl, gSl, Db.fMeth, Db.fBook, Nat.reduceLeDiff]
  refine part_ok rfl ha ?_
  refine oIn_ok (b := ya) rfl rfl (by rcases hs with rfl | rfl <;> (first | rfl | decide +kernel)) hA hin ?_
  cases ya with
  | true =>
    simp (config := { failIfUnchanged := false }) only [runF, List.map_cons, List.map_nil, List.cons_append, List.nil_append, List.reduceReplicate, Nat.reduceSub, List.length_cons, List.length_nil, fSeq, fIfS, fB, fOr, fAnd, fNot, f2, fVar, DL.gt, DL.pt, asR, fK, fCons, fNil, fFn, argsOf, fRet, fRet.plainR2, plainR, fSet, fExpr, isB, isI, Ent.dat, Ent.kept, kepts, fTup, fLst, fIs, fAndV, fOrV, fNotV, fIf, fSkip, fChain, oI, oIs, isNonD, oAdd_int, isTupleD, isListD, isIntD, isBoolD, isStrD, fCall, o1, gSum, gLen, fAsg, DL.gTup, gsCons, gsNil, gN, fLc, fYes, fItL, fItT, items, Option.bind_some, Db.fIsBook, fAug, dispGo, fDisp, fDGet2, List.zip_cons_cons, List.zip_nil_right, Bool.not_true, Bool.not_false, bne_self_eq_false, Bool.bne_false, Bool.bne_true, Nat.reduceAdd, true_and, wipeE, fFor, fRng1, fEnum, fStar, fNoPart, fPart, fSl, gSl, Db.fMeth, Db.fBook, Nat.reduceLeDiff]
    refine part_ok rfl hf ?_
    simp (config := { failIfUnchanged := false }) only [runF, List.map_cons, List.map_nil, List.cons_append, List.nil_append, List.reduceReplicate, Nat.reduceSub, List.length_cons, List.length_nil, fSeq, fIfS, fB, fOr, fAnd, fNot, f2, fVar, DL.gt, DL.pt, asR, fK, fCons, fNil, fFn, argsOf, fRet, fRet.plainR2, plainR, fSet, fExpr, isB, isI, Ent.dat, Ent.kept, kepts, fTup, fLst, fIs, fAndV, fOrV, fNotV, fIf, fSkip, fChain, oI, oIs, isNonD, oAdd_int, isTupleD, isListD, isIntD, isBoolD, isStrD, fCall, o1, gSum, gLen, fAsg, DL.gTup, gsCons, gsNil, gN, fLc, fYes, fItL, fItT, items, Option.bind_some, Db.fIsBook, fAug, dispGo, fDisp, fDGet2, List.zip_cons_cons, List.zip_nil_right, Bool.not_true, Bool.not_false, bne_self_eq_false, Bool.bne_false, Bool.bne_true, Nat.reduceAdd, true_and, wipeE, fFor, fRng1, fEnum, fStar, fNoPart, fPart, fSl, gSl, Db.fMeth, Db.fBook, Nat.reduceLeDiff]
    refine writings_ok hs hk hi ?_
    simp (config := { failIfUnchanged := false }) only [runF, List.map_cons, List.map_nil, List.cons_append, List.nil_append, List.reduceReplicate, Nat.reduceSub, List.length_cons, List.length_nil, fSeq, fIfS, fB, fOr, fAnd, fNot, f2, fVar, DL.gt, DL.pt, asR, fK, fCons, fNil, fFn, argsOf, fRet, fRet.plainR2, plainR, fSet, fExpr, isB, isI, Ent.dat, Ent.kept, kepts, fTup, fLst, fIs, fAndV, fOrV, fNotV, fIf, fSkip, fChain, oI, oIs, isNonD, oAdd_int, isTupleD, isListD, isIntD, isBoolD, isStrD, fCall, o1, gSum, gLen, fAsg, DL.gTup, gsCons, gsNil, gN, fLc, fYes, fItL, fItT, items, Option.bind_some, Db.fIsBook, fAug, dispGo, fDisp, fDGet2, List.zip_cons_cons, List.zip_nil_right, Bool.not_true, Bool.not_false, bne_self_eq_false, Bool.bne_false, Bool.bne_true, Nat.reduceAdd, true_and, wipeE, fFor, fRng1, fEnum, fStar, fNoPart, fPart, fSl, gSl, Db.fMeth, Db.fBook, Nat.reduceLeDiff]
    exact q
  | false =>
    simp (config := { failIfUnchanged := false }) only [runF, List.map_cons, List.map_nil, List.cons_append, List.nil_append, List.reduceReplicate, Nat.reduceSub, List.length_cons, List.length_nil, fSeq, fIfS, fB, fOr, fAnd, fNot, f2, fVar, DL.gt, DL.pt, asR, fK, fCons, fNil, fFn, argsOf, fRet, fRet.plainR2, plainR, fSet, fExpr, isB, isI, Ent.dat, Ent.kept, kepts, fTup, fLst, fIs, fAndV, fOrV, fNotV, fIf, fSkip, fChain, oI, oIs, isNonD, oAdd_int, isTupleD, isListD, isIntD, isBoolD, isStrD, fCall, o1, gSum, gLen, fAsg, DL.gTup, gsCons, gsNil, gN, fLc, fYes, fItL, fItT, items, Option.bind_some, Db.fIsBook, fAug, dispGo, fDisp, fDGet2, List.zip_cons_cons, List.zip_nil_right, Bool.not_true, Bool.not_false, bne_self_eq_false, Bool.bne_false, Bool.bne_true, Nat.reduceAdd, true_and, wipeE, fFor, fRng1, fEnum, fStar, fNoPart, fPart, fSl, gSl, Db.fMeth, Db.fBook, Nat.reduceLeDiff]
    refine part_ok rfl hf ?_
    simp (config := { failIfUnchanged := false }) only [runF, List.map_cons, List.map_nil, List.cons_append, List.nil_append, List.reduceReplicate, Nat.reduceSub, List.length_cons, List.length_nil, fSeq, fIfS, fB, fOr, fAnd, fNot, f2, fVar, DL.gt, DL.pt, asR, fK, fCons, fNil, fFn, argsOf, fRet, fRet.plainR2, plainR, fSet, fExpr, isB, isI, Ent.dat, Ent.kept, kepts, fTup, fLst, fIs, fAndV, fOrV, fNotV, fIf, fSkip, fChain, oI, oIs, isNonD, oAdd_int, isTupleD, isListD, isIntD, isBoolD, isStrD, fCall, o1, gSum, gLen, fAsg, DL.gTup, gsCons, gsNil, gN, fLc, fYes, fItL, fItT, items, Option.bind_some, Db.fIsBook, fAug, dispGo, fDisp, fDGet2, List.zip_cons_cons, List.zip_nil_right, Bool.not_true, Bool.not_false, bne_self_eq_false, Bool.bne_false, Bool.bne_true, Nat.reduceAdd, true_and, wipeE, fFor, fRng1, fEnum, fStar, fNoPart, fPart, fSl, gSl, Db.fMeth, Db.fBook, Nat.reduceLeDiff]
    refine writings_ok hs hk hi ?_
    simp (config := { failIfUnchanged := false }) only [runF, List.map_cons, List.map_nil, List.cons_append, List.nil_append, List.reduceReplicate, Nat.reduceSub, List.length_cons, List.length_nil, fSeq, fIfS, fB, fOr, fAnd, fNot, f2, fVar, DL.gt, DL.pt, asR, fK, fCons, fNil, fFn, argsOf, fRet, fRet.plainR2, plainR, fSet, fExpr, isB, isI, Ent.dat, Ent.kept, kepts, fTup, fLst, fIs, fAndV, fOrV, fNotV, fIf, fSkip, fChain, oI, oIs, isNonD, oAdd_int, isTupleD, isListD, isIntD, isBoolD, isStrD, fCall, o1, gSum, gLen, fAsg, DL.gTup, gsCons, gsNil, gN, fLc, fYes, fItL, fItT, items, Option.bind_some, Db.fIsBook, fAug, dispGo, fDisp, fDGet2, List.zip_cons_cons, List.zip_nil_right, Bool.not_true, Bool.not_false, bne_self_eq_false, Bool.bne_false, Bool.bne_true, Nat.reduceAdd, true_and, wipeE, fFor, fRng1, fEnum, fStar, fNoPart, fPart, fSl, gSl, Db.fMeth, Db.fBook, Nat.reduceLeDiff]
    exact q
end K50
namespace K50
open PySem PySem.Spec PyProof.Rows L2 DL
theorem isList_ok {ds : List PyData} {n : Nat} {Q : Ent → Nat → Prop} (q : Q (.im (.bool true)) n) : F_is_list [.im (.list ds)] n Q := by
  refine ⟨rfl, ?_⟩
  unfold g_is_list
  simp (config := { failIfUnchanged := false }) only [runF, List.map_cons, List.map_nil, List.cons_append, List.nil_append, List.reduceReplicate, Nat.reduceSub, List.length_cons, List.length_nil, fSeq, fIfS, fB, fOr, fAnd, fNot, f2, fVar, DL.gt, DL.pt, asR, fK, fCons, fNil, fFn, argsOf, fRet, fRet.plainR2, plainR, fSet, fExpr, isB, isI, Ent.dat, Ent.kept, kepts, fTup, fLst, fIs, fAndV, fOrV, fNotV, fIf, fSkip, fChain, oI, oIs, isNonD, oAdd_int, isTupleD, isListD, isIntD, isBoolD, isStrD, fCall, o1, gSum, gLen, fAsg, DL.gTup, gsCons, gsNil, gN, fLc, fYes, fItL, fItT, items, Option.bind_some, Db.fIsBook, fAug, dispGo, fDisp, fDGet2, List.zip_cons_cons, List.zip_nil_right, Bool.not_true, Bool.not_false, bne_self_eq_false, Bool.bne_false, Bool.bne_true, Nat.reduceAdd, true_and, wipeE, fFor, fRng1, fEnum, fStar, fNoPart, fPart, fSl, gSl, Db.fMeth, Db.fBook, Nat.reduceLeDiff]
  exact q
theorem unfit_ok {n : Nat} {Q : Ent → Nat → Prop} (q : Q (.im .none) n) : F_first_unfit [.im (.list [.str "yes", .str "ready", .str "agreed"]), .im recsD] n Q := by
  refine ⟨rfl, ?_⟩
  unfold g_first_unfit
  simp (config := { failIfUnchanged := false }) only [runF, List.map_cons, List.map_nil, List.cons_append, List.nil_append, List.reduceReplicate, Nat.reduceSub, List.length_cons, List.length_nil, fSeq, fIfS, fB, fOr, fAnd, fNot, f2, fVar, DL.gt, DL.pt, asR, fK, fCons, fNil, fFn, argsOf, fRet, fRet.plainR2, plainR, fSet, fExpr, isB, isI, Ent.dat, Ent.kept, kepts, fTup, fLst, fIs, fAndV, fOrV, fNotV, fIf, fSkip, fChain, oI, oIs, isNonD, oAdd_int, isTupleD, isListD, isIntD, isBoolD, isStrD, fCall, o1, gSum, gLen, fAsg, DL.gTup, gsCons, gsNil, gN, fLc, fYes, fItL, fItT, items, Option.bind_some, Db.fIsBook, fAug, dispGo, fDisp, fDGet2, List.zip_cons_cons, List.zip_nil_right, Bool.not_true, Bool.not_false, bne_self_eq_false, Bool.bne_false, Bool.bne_true, Nat.reduceAdd, true_and, wipeE, fFor, fRng1, fEnum, fStar, fNoPart, fPart, fSl, gSl, Db.fMeth, Db.fBook, Nat.reduceLeDiff]
  show forGo _ _ [.tuple [.int (0 : Nat), .str "yes"], .tuple [.int (1 : Nat), .str "ready"], .tuple [.int (2 : Nat), .str "agreed"]] _ _
  rw [forGo]
  simp (config := { failIfUnchanged := false }) only [runF, List.map_cons, List.map_nil, List.cons_append, List.nil_append, List.reduceReplicate, Nat.reduceSub, List.length_cons, List.length_nil, fSeq, fIfS, fB, fOr, fAnd, fNot, f2, fVar, DL.gt, DL.pt, asR, fK, fCons, fNil, fFn, argsOf, fRet, fRet.plainR2, plainR, fSet, fExpr, isB, isI, Ent.dat, Ent.kept, kepts, fTup, fLst, fIs, fAndV, fOrV, fNotV, fIf, fSkip, fChain, oI, oIs, isNonD, oAdd_int, isTupleD, isListD, isIntD, isBoolD, isStrD, fCall, o1, gSum, gLen, fAsg, DL.gTup, gsCons, gsNil, gN, fLc, fYes, fItL, fItT, items, Option.bind_some, Db.fIsBook, fAug, dispGo, fDisp, fDGet2, List.zip_cons_cons, List.zip_nil_right, Bool.not_true, Bool.not_false, bne_self_eq_false, Bool.bne_false, Bool.bne_true, Nat.reduceAdd, true_and, wipeE, fFor, fRng1, fEnum, fStar, fNoPart, fPart, fSl, gSl, Db.fMeth, Db.fBook, Nat.reduceLeDiff]
  refine oIn_ok (b := true) rfl rfl (by first | rfl | decide +kernel) (by first | rfl | decide +kernel) (by rfl) ?_
  simp (config := { failIfUnchanged := false }) only [runF, List.map_cons, List.map_nil, List.cons_append, List.nil_append, List.reduceReplicate, Nat.reduceSub, List.length_cons, List.length_nil, fSeq, fIfS, fB, fOr, fAnd, fNot, f2, fVar, DL.gt, DL.pt, asR, fK, fCons, fNil, fFn, argsOf, fRet, fRet.plainR2, plainR, fSet, fExpr, isB, isI, Ent.dat, Ent.kept, kepts, fTup, fLst, fIs, fAndV, fOrV, fNotV, fIf, fSkip, fChain, oI, oIs, isNonD, oAdd_int, isTupleD, isListD, isIntD, isBoolD, isStrD, fCall, o1, gSum, gLen, fAsg, DL.gTup, gsCons, gsNil, gN, fLc, fYes, fItL, fItT, items, Option.bind_some, Db.fIsBook, fAug, dispGo, fDisp, fDGet2, List.zip_cons_cons, List.zip_nil_right, Bool.not_true, Bool.not_false, bne_self_eq_false, Bool.bne_false, Bool.bne_true, Nat.reduceAdd, true_and, wipeE, fFor, fRng1, fEnum, fStar, fNoPart, fPart, fSl, gSl, Db.fMeth, Db.fBook, Nat.reduceLeDiff]
  refine oIn_ok (b := false) rfl rfl (by first | rfl | decide +kernel) (by first | rfl | decide +kernel) (by rfl) ?_
  simp (config := { failIfUnchanged := false }) only [runF, List.map_cons, List.map_nil, List.cons_append, List.nil_append, List.reduceReplicate, Nat.reduceSub, List.length_cons, List.length_nil, fSeq, fIfS, fB, fOr, fAnd, fNot, f2, fVar, DL.gt, DL.pt, asR, fK, fCons, fNil, fFn, argsOf, fRet, fRet.plainR2, plainR, fSet, fExpr, isB, isI, Ent.dat, Ent.kept, kepts, fTup, fLst, fIs, fAndV, fOrV, fNotV, fIf, fSkip, fChain, oI, oIs, isNonD, oAdd_int, isTupleD, isListD, isIntD, isBoolD, isStrD, fCall, o1, gSum, gLen, fAsg, DL.gTup, gsCons, gsNil, gN, fLc, fYes, fItL, fItT, items, Option.bind_some, Db.fIsBook, fAug, dispGo, fDisp, fDGet2, List.zip_cons_cons, List.zip_nil_right, Bool.not_true, Bool.not_false, bne_self_eq_false, Bool.bne_false, Bool.bne_true, Nat.reduceAdd, true_and, wipeE, fFor, fRng1, fEnum, fStar, fNoPart, fPart, fSl, gSl, Db.fMeth, Db.fBook, Nat.reduceLeDiff]
  rw [forGo]
  simp (config := { failIfUnchanged := false }) only [runF, List.map_cons, List.map_nil, List.cons_append, List.nil_append, List.reduceReplicate, Nat.reduceSub, List.length_cons, List.length_nil, fSeq, fIfS, fB, fOr, fAnd, fNot, f2, fVar, DL.gt, DL.pt, asR, fK, fCons, fNil, fFn, argsOf, fRet, fRet.plainR2, plainR, fSet, fExpr, isB, isI, Ent.dat, Ent.kept, kepts, fTup, fLst, fIs, fAndV, fOrV, fNotV, fIf, fSkip, fChain, oI, oIs, isNonD, oAdd_int, isTupleD, isListD, isIntD, isBoolD, isStrD, fCall, o1, gSum, gLen, fAsg, DL.gTup, gsCons, gsNil, gN, fLc, fYes, fItL, fItT, items, Option.bind_some, Db.fIsBook, fAug, dispGo, fDisp, fDGet2, List.zip_cons_cons, List.zip_nil_right, Bool.not_true, Bool.not_false, bne_self_eq_false, Bool.bne_false, Bool.bne_true, Nat.reduceAdd, true_and, wipeE, fFor, fRng1, fEnum, fStar, fNoPart, fPart, fSl, gSl, Db.fMeth, Db.fBook, Nat.reduceLeDiff]
  refine oIn_ok (b := true) rfl rfl (by first | rfl | decide +kernel) (by first | rfl | decide +kernel) (by rfl) ?_
  simp (config := { failIfUnchanged := false }) only [runF, List.map_cons, List.map_nil, List.cons_append, List.nil_append, List.reduceReplicate, Nat.reduceSub, List.length_cons, List.length_nil, fSeq, fIfS, fB, fOr, fAnd, fNot, f2, fVar, DL.gt, DL.pt, asR, fK, fCons, fNil, fFn, argsOf, fRet, fRet.plainR2, plainR, fSet, fExpr, isB, isI, Ent.dat, Ent.kept, kepts, fTup, fLst, fIs, fAndV, fOrV, fNotV, fIf, fSkip, fChain, oI, oIs, isNonD, oAdd_int, isTupleD, isListD, isIntD, isBoolD, isStrD, fCall, o1, gSum, gLen, fAsg, DL.gTup, gsCons, gsNil, gN, fLc, fYes, fItL, fItT, items, Option.bind_some, Db.fIsBook, fAug, dispGo, fDisp, fDGet2, List.zip_cons_cons, List.zip_nil_right, Bool.not_true, Bool.not_false, bne_self_eq_false, Bool.bne_false, Bool.bne_true, Nat.reduceAdd, true_and, wipeE, fFor, fRng1, fEnum, fStar, fNoPart, fPart, fSl, gSl, Db.fMeth, Db.fBook, Nat.reduceLeDiff]
  refine oIn_ok (b := false) rfl rfl (by first | rfl | decide +kernel) (by first | rfl | decide +kernel) (by rfl) ?_
  simp (config := { failIfUnchanged := false }) only [runF, List.map_cons, List.map_nil, List.cons_append, List.nil_append, List.reduceReplicate, Nat.reduceSub, List.length_cons, List.length_nil, fSeq, fIfS, fB, fOr, fAnd, fNot, f2, fVar, DL.gt, DL.pt, asR, fK, fCons, fNil, fFn, argsOf, fRet, fRet.plainR2, plainR, fSet, fExpr, isB, isI, Ent.dat, Ent.kept, kepts, fTup, fLst, fIs, fAndV, fOrV, fNotV, fIf, fSkip, fChain, oI, oIs, isNonD, oAdd_int, isTupleD, isListD, isIntD, isBoolD, isStrD, fCall, o1, gSum, gLen, fAsg, DL.gTup, gsCons, gsNil, gN, fLc, fYes, fItL, fItT, items, Option.bind_some, Db.fIsBook, fAug, dispGo, fDisp, fDGet2, List.zip_cons_cons, List.zip_nil_right, Bool.not_true, Bool.not_false, bne_self_eq_false, Bool.bne_false, Bool.bne_true, Nat.reduceAdd, true_and, wipeE, fFor, fRng1, fEnum, fStar, fNoPart, fPart, fSl, gSl, Db.fMeth, Db.fBook, Nat.reduceLeDiff]
  rw [forGo]
  simp (config := { failIfUnchanged := false }) only [runF, List.map_cons, List.map_nil, List.cons_append, List.nil_append, List.reduceReplicate, Nat.reduceSub, List.length_cons, List.length_nil, fSeq, fIfS, fB, fOr, fAnd, fNot, f2, fVar, DL.gt, DL.pt, asR, fK, fCons, fNil, fFn, argsOf, fRet, fRet.plainR2, plainR, fSet, fExpr, isB, isI, Ent.dat, Ent.kept, kepts, fTup, fLst, fIs, fAndV, fOrV, fNotV, fIf, fSkip, fChain, oI, oIs, isNonD, oAdd_int, isTupleD, isListD, isIntD, isBoolD, isStrD, fCall, o1, gSum, gLen, fAsg, DL.gTup, gsCons, gsNil, gN, fLc, fYes, fItL, fItT, items, Option.bind_some, Db.fIsBook, fAug, dispGo, fDisp, fDGet2, List.zip_cons_cons, List.zip_nil_right, Bool.not_true, Bool.not_false, bne_self_eq_false, Bool.bne_false, Bool.bne_true, Nat.reduceAdd, true_and, wipeE, fFor, fRng1, fEnum, fStar, fNoPart, fPart, fSl, gSl, Db.fMeth, Db.fBook, Nat.reduceLeDiff]
  refine oIn_ok (b := true) rfl rfl (by first | rfl | decide +kernel) (by first | rfl | decide +kernel) (by rfl) ?_
  simp (config := { failIfUnchanged := false }) only [runF, List.map_cons, List.map_nil, List.cons_append, List.nil_append, List.reduceReplicate, Nat.reduceSub, List.length_cons, List.length_nil, fSeq, fIfS, fB, fOr, fAnd, fNot, f2, fVar, DL.gt, DL.pt, asR, fK, fCons, fNil, fFn, argsOf, fRet, fRet.plainR2, plainR, fSet, fExpr, isB, isI, Ent.dat, Ent.kept, kepts, fTup, fLst, fIs, fAndV, fOrV, fNotV, fIf, fSkip, fChain, oI, oIs, isNonD, oAdd_int, isTupleD, isListD, isIntD, isBoolD, isStrD, fCall, o1, gSum, gLen, fAsg, DL.gTup, gsCons, gsNil, gN, fLc, fYes, fItL, fItT, items, Option.bind_some, Db.fIsBook, fAug, dispGo, fDisp, fDGet2, List.zip_cons_cons, List.zip_nil_right, Bool.not_true, Bool.not_false, bne_self_eq_false, Bool.bne_false, Bool.bne_true, Nat.reduceAdd, true_and, wipeE, fFor, fRng1, fEnum, fStar, fNoPart, fPart, fSl, gSl, Db.fMeth, Db.fBook, Nat.reduceLeDiff]
  refine oIn_ok (b := false) rfl rfl (by first | rfl | decide +kernel) (by first | rfl | decide +kernel) (by rfl) ?_
  simp (config := { failIfUnchanged := false }) only [runF, List.map_cons, List.map_nil, List.cons_append, List.nil_append, List.reduceReplicate, Nat.reduceSub, List.length_cons, List.length_nil, fSeq, fIfS, fB, fOr, fAnd, fNot, f2, fVar, DL.gt, DL.pt, asR, fK, fCons, fNil, fFn, argsOf, fRet, fRet.plainR2, plainR, fSet, fExpr, isB, isI, Ent.dat, Ent.kept, kepts, fTup, fLst, fIs, fAndV, fOrV, fNotV, fIf, fSkip, fChain, oI, oIs, isNonD, oAdd_int, isTupleD, isListD, isIntD, isBoolD, isStrD, fCall, o1, gSum, gLen, fAsg, DL.gTup, gsCons, gsNil, gN, fLc, fYes, fItL, fItT, items, Option.bind_some, Db.fIsBook, fAug, dispGo, fDisp, fDGet2, List.zip_cons_cons, List.zip_nil_right, Bool.not_true, Bool.not_false, bne_self_eq_false, Bool.bne_false, Bool.bne_true, Nat.reduceAdd, true_and, wipeE, fFor, fRng1, fEnum, fStar, fNoPart, fPart, fSl, gSl, Db.fMeth, Db.fBook, Nat.reduceLeDiff]
  rw [forGo]
  exact q
theorem wf_ok {r : Str} {n : Nat} {Q : Ent → Nat → Prop} (hr : r = "none" ∨ r = "lazy") (q : Q (.ob 0 (Db.bookD [r, "forced", r, "forced", "forced", r] ["yes"] "no")) n) : F_with_forced [.ob 0 (Db.bookD [r, r, r, r, r, r] ["yes"] "no"), .im (.list [.str "yes", .str "ready", .str "agreed"]), .im (.str r)] n Q := by
  refine ⟨rfl, ?_⟩
  unfold g_with_forced
  simp (config := { failIfUnchanged := false }) only [runF, List.map_cons, List.map_nil, List.cons_append, List.nil_append, List.reduceReplicate, Nat.reduceSub, List.length_cons, List.length_nil, fSeq, fIfS, fB, fOr, fAnd, fNot, f2, fVar, DL.gt, DL.pt, asR, fK, fCons, fNil, fFn, argsOf, fRet, fRet.plainR2, plainR, fSet, fExpr, isB, isI, Ent.dat, Ent.kept, kepts, fTup, fLst, fIs, fAndV, fOrV, fNotV, fIf, fSkip, fChain, oI, oIs, isNonD, oAdd_int, isTupleD, isListD, isIntD, isBoolD, isStrD, fCall, o1, gSum, gLen, fAsg, DL.gTup, gsCons, gsNil, gN, fLc, fYes, fItL, fItT, items, Option.bind_some, Db.fIsBook, fAug, dispGo, fDisp, fDGet2, List.zip_cons_cons, List.zip_nil_right, Bool.not_true, Bool.not_false, bne_self_eq_false, Bool.bne_false, Bool.bne_true, Nat.reduceAdd, true_and, wipeE, fFor, fRng1, fEnum, fStar, fNoPart, fPart, fSl, gSl, Db.fMeth, Db.fBook, Nat.reduceLeDiff]
  refine isList_ok ?_
  simp (config := { failIfUnchanged := false }) only [runF, List.map_cons, List.map_nil, List.cons_append, List.nil_append, List.reduceReplicate, Nat.reduceSub, List.length_cons, List.length_nil, fSeq, fIfS, fB, fOr, fAnd, fNot, f2, fVar, DL.gt, DL.pt, asR, fK, fCons, fNil, fFn, argsOf, fRet, fRet.plainR2, plainR, fSet, fExpr, isB, isI, Ent.dat, Ent.kept, kepts, fTup, fLst, fIs, fAndV, fOrV, fNotV, fIf, fSkip, fChain, oI, oIs, isNonD, oAdd_int, isTupleD, isListD, isIntD, isBoolD, isStrD, fCall, o1, gSum, gLen, fAsg, DL.gTup, gsCons, gsNil, gN, fLc, fYes, fItL, fItT, items, Option.bind_some, Db.fIsBook, fAug, dispGo, fDisp, fDGet2, List.zip_cons_cons, List.zip_nil_right, Bool.not_true, Bool.not_false, bne_self_eq_false, Bool.bne_false, Bool.bne_true, Nat.reduceAdd, true_and, wipeE, fFor, fRng1, fEnum, fStar, fNoPart, fPart, fSl, gSl, Db.fMeth, Db.fBook, Nat.reduceLeDiff]
  refine unfit_ok ?_
  simp (config := { failIfUnchanged := false }) only [runF, List.map_cons, List.map_nil, List.cons_append, List.nil_append, List.reduceReplicate, Nat.reduceSub, List.length_cons, List.length_nil, fSeq, fIfS, fB, fOr, fAnd, fNot, f2, fVar, DL.gt, DL.pt, asR, fK, fCons, fNil, fFn, argsOf, fRet, fRet.plainR2, plainR, fSet, fExpr, isB, isI, Ent.dat, Ent.kept, kepts, fTup, fLst, fIs, fAndV, fOrV, fNotV, fIf, fSkip, fChain, oI, oIs, isNonD, oAdd_int, isTupleD, isListD, isIntD, isBoolD, isStrD, fCall, o1, gSum, gLen, fAsg, DL.gTup, gsCons, gsNil, gN, fLc, fYes, fItL, fItT, items, Option.bind_some, Db.fIsBook, fAug, dispGo, fDisp, fDGet2, List.zip_cons_cons, List.zip_nil_right, Bool.not_true, Bool.not_false, bne_self_eq_false, Bool.bne_false, Bool.bne_true, Nat.reduceAdd, true_and, wipeE, fFor, fRng1, fEnum, fStar, fNoPart, fPart, fSl, gSl, Db.fMeth, Db.fBook, Nat.reduceLeDiff]
  rcases hr with rfl | rfl
  · refine oIn_ok (b := true) rfl rfl (by first | rfl | decide +kernel) (by first | rfl | decide +kernel) (by rfl) ?_
    simp (config := { failIfUnchanged := false }) only [runF, List.map_cons, List.map_nil, List.cons_append, List.nil_append, List.reduceReplicate, Nat.reduceSub, List.length_cons, List.length_nil, fSeq, fIfS, fB, fOr, fAnd, fNot, f2, fVar, DL.gt, DL.pt, asR, fK, fCons, fNil, fFn, argsOf, fRet, fRet.plainR2, plainR, fSet, fExpr, isB, isI, Ent.dat, Ent.kept, kepts, fTup, fLst, fIs, fAndV, fOrV, fNotV, fIf, fSkip, fChain, oI, oIs, isNonD, oAdd_int, isTupleD, isListD, isIntD, isBoolD, isStrD, fCall, o1, gSum, gLen, fAsg, DL.gTup, gsCons, gsNil, gN, fLc, fYes, fItL, fItT, items, Option.bind_some, Db.fIsBook, fAug, dispGo, fDisp, fDGet2, List.zip_cons_cons, List.zip_nil_right, Bool.not_true, Bool.not_false, bne_self_eq_false, Bool.bne_false, Bool.bne_true, Nat.reduceAdd, true_and, wipeE, fFor, fRng1, fEnum, fStar, fNoPart, fPart, fSl, gSl, Db.fMeth, Db.fBook, Nat.reduceLeDiff]
    unfold recsD
    simp (config := { failIfUnchanged := false }) only [runF, List.map_cons, List.map_nil, List.cons_append, List.nil_append, List.reduceReplicate, Nat.reduceSub, List.length_cons, List.length_nil, fSeq, fIfS, fB, fOr, fAnd, fNot, f2, fVar, DL.gt, DL.pt, asR, fK, fCons, fNil, fFn, argsOf, fRet, fRet.plainR2, plainR, fSet, fExpr, isB, isI, Ent.dat, Ent.kept, kepts, fTup, fLst, fIs, fAndV, fOrV, fNotV, fIf, fSkip, fChain, oI, oIs, isNonD, oAdd_int, isTupleD, isListD, isIntD, isBoolD, isStrD, fCall, o1, gSum, gLen, fAsg, DL.gTup, gsCons, gsNil, gN, fLc, fYes, fItL, fItT, items, Option.bind_some, Db.fIsBook, fAug, dispGo, fDisp, fDGet2, List.zip_cons_cons, List.zip_nil_right, Bool.not_true, Bool.not_false, bne_self_eq_false, Bool.bne_false, Bool.bne_true, Nat.reduceAdd, true_and, wipeE, fFor, fRng1, fEnum, fStar, fNoPart, fPart, fSl, gSl, Db.fMeth, Db.fBook, Nat.reduceLeDiff]
    refine lc_mapE (val := fun d => if (([.str "yes", .str "ready", .str "agreed"] : List PyData).any fun z => PyData.eqv z d) = true then .str "forced" else .str "none") [.str "none", .str "forced", .str "none", .str "forced", .str "forced", .str "none"] (by rfl) (fun d hd Q' q' => ?_) ?_
    · simp (config := { failIfUnchanged := false }) only [runF, List.map_cons, List.map_nil, List.cons_append, List.nil_append, List.reduceReplicate, Nat.reduceSub, List.length_cons, List.length_nil, fSeq, fIfS, fB, fOr, fAnd, fNot, f2, fVar, DL.gt, DL.pt, asR, fK, fCons, fNil, fFn, argsOf, fRet, fRet.plainR2, plainR, fSet, fExpr, isB, isI, Ent.dat, Ent.kept, kepts, fTup, fLst, fIs, fAndV, fOrV, fNotV, fIf, fSkip, fChain, oI, oIs, isNonD, oAdd_int, isTupleD, isListD, isIntD, isBoolD, isStrD, fCall, o1, gSum, gLen, fAsg, DL.gTup, gsCons, gsNil, gN, fLc, fYes, fItL, fItT, items, Option.bind_some, Db.fIsBook, fAug, dispGo, fDisp, fDGet2, List.zip_cons_cons, List.zip_nil_right, Bool.not_true, Bool.not_false, bne_self_eq_false, Bool.bne_false, Bool.bne_true, Nat.reduceAdd, true_and, wipeE, fFor, fRng1, fEnum, fStar, fNoPart, fPart, fSl, gSl, Db.fMeth, Db.fBook, Nat.reduceLeDiff]
      simp only [List.mem_cons, List.not_mem_nil, or_false] at hd
      rcases hd with rfl | rfl | rfl | rfl | rfl | rfl
      · refine oIn_ok (b := false) rfl rfl (by first | rfl | decide +kernel) (by first | rfl | decide +kernel) (by rfl) ?_
        exact q'
      · refine oIn_ok (b := true) rfl rfl (by first | rfl | decide +kernel) (by first | rfl | decide +kernel) (by rfl) ?_
        exact q'
      · refine oIn_ok (b := false) rfl rfl (by first | rfl | decide +kernel) (by first | rfl | decide +kernel) (by rfl) ?_
        exact q'
      · refine oIn_ok (b := true) rfl rfl (by first | rfl | decide +kernel) (by first | rfl | decide +kernel) (by rfl) ?_
        exact q'
      · refine oIn_ok (b := true) rfl rfl (by first | rfl | decide +kernel) (by first | rfl | decide +kernel) (by rfl) ?_
        exact q'
      · refine oIn_ok (b := false) rfl rfl (by first | rfl | decide +kernel) (by first | rfl | decide +kernel) (by rfl) ?_
        exact q'
    · simp (config := { failIfUnchanged := false }) only [runF, List.map_cons, List.map_nil, List.cons_append, List.nil_append, List.reduceReplicate, Nat.reduceSub, List.length_cons, List.length_nil, fSeq, fIfS, fB, fOr, fAnd, fNot, f2, fVar, DL.gt, DL.pt, asR, fK, fCons, fNil, fFn, argsOf, fRet, fRet.plainR2, plainR, fSet, fExpr, isB, isI, Ent.dat, Ent.kept, kepts, fTup, fLst, fIs, fAndV, fOrV, fNotV, fIf, fSkip, fChain, oI, oIs, isNonD, oAdd_int, isTupleD, isListD, isIntD, isBoolD, isStrD, fCall, o1, gSum, gLen, fAsg, DL.gTup, gsCons, gsNil, gN, fLc, fYes, fItL, fItT, items, Option.bind_some, Db.fIsBook, fAug, dispGo, fDisp, fDGet2, List.zip_cons_cons, List.zip_nil_right, Bool.not_true, Bool.not_false, bne_self_eq_false, Bool.bne_false, Bool.bne_true, Nat.reduceAdd, true_and, wipeE, fFor, fRng1, fEnum, fStar, fNoPart, fPart, fSl, gSl, Db.fMeth, Db.fBook, Nat.reduceLeDiff]
      refine part_ok (e := .tuple [.str "yes"]) rfl (by rfl) ?_
      refine part_ok (e := .str "no") rfl (by rfl) ?_
      simp (config := { failIfUnchanged := false }) only [runF, List.map_cons, List.map_nil, List.cons_append, List.nil_append, List.reduceReplicate, Nat.reduceSub, List.length_cons, List.length_nil, fSeq, fIfS, fB, fOr, fAnd, fNot, f2, fVar, DL.gt, DL.pt, asR, fK, fCons, fNil, fFn, argsOf, fRet, fRet.plainR2, plainR, fSet, fExpr, isB, isI, Ent.dat, Ent.kept, kepts, fTup, fLst, fIs, fAndV, fOrV, fNotV, fIf, fSkip, fChain, oI, oIs, isNonD, oAdd_int, isTupleD, isListD, isIntD, isBoolD, isStrD, fCall, o1, gSum, gLen, fAsg, DL.gTup, gsCons, gsNil, gN, fLc, fYes, fItL, fItT, items, Option.bind_some, Db.fIsBook, fAug, dispGo, fDisp, fDGet2, List.zip_cons_cons, List.zip_nil_right, Bool.not_true, Bool.not_false, bne_self_eq_false, Bool.bne_false, Bool.bne_true, Nat.reduceAdd, true_and, wipeE, fFor, fRng1, fEnum, fStar, fNoPart, fPart, fSl, gSl, Db.fMeth, Db.fBook, Nat.reduceLeDiff]
      have e : Db.mk8 [.str "none", .str "forced", .str "none", .str "forced", .str "forced", .str "none", .tuple [.str "yes"], .str "no"] = some (Db.bookD ["none", "forced", "none", "forced", "forced", "none"] ["yes"] "no") := by rfl
      rw [e]
      exact q
  · refine oIn_ok (b := true) rfl rfl (by first | rfl | decide +kernel) (by first | rfl | decide +kernel) (by rfl) ?_
    simp (config := { failIfUnchanged := false }) only [runF, List.map_cons, List.map_nil, List.cons_append, List.nil_append, List.reduceReplicate, Nat.reduceSub, List.length_cons, List.length_nil, fSeq, fIfS, fB, fOr, fAnd, fNot, f2, fVar, DL.gt, DL.pt, asR, fK, fCons, fNil, fFn, argsOf, fRet, fRet.plainR2, plainR, fSet, fExpr, isB, isI, Ent.dat, Ent.kept, kepts, fTup, fLst, fIs, fAndV, fOrV, fNotV, fIf, fSkip, fChain, oI, oIs, isNonD, oAdd_int, isTupleD, isListD, isIntD, isBoolD, isStrD, fCall, o1, gSum, gLen, fAsg, DL.gTup, gsCons, gsNil, gN, fLc, fYes, fItL, fItT, items, Option.bind_some, Db.fIsBook, fAug, dispGo, fDisp, fDGet2, List.zip_cons_cons, List.zip_nil_right, Bool.not_true, Bool.not_false, bne_self_eq_false, Bool.bne_false, Bool.bne_true, Nat.reduceAdd, true_and, wipeE, fFor, fRng1, fEnum, fStar, fNoPart, fPart, fSl, gSl, Db.fMeth, Db.fBook, Nat.reduceLeDiff]
    unfold recsD
    simp (config := { failIfUnchanged := false }) only [runF, List.map_cons, List.map_nil, List.cons_append, List.nil_append, List.reduceReplicate, Nat.reduceSub, List.length_cons, List.length_nil, fSeq, fIfS, fB, fOr, fAnd, fNot, f2, fVar, DL.gt, DL.pt, asR, fK, fCons, fNil, fFn, argsOf, fRet, fRet.plainR2, plainR, fSet, fExpr, isB, isI, Ent.dat, Ent.kept, kepts, fTup, fLst, fIs, fAndV, fOrV, fNotV, fIf, fSkip, fChain, oI, oIs, isNonD, oAdd_int, isTupleD, isListD, isIntD, isBoolD, isStrD, fCall, o1, gSum, gLen, fAsg, DL.gTup, gsCons, gsNil, gN, fLc, fYes, fItL, fItT, items, Option.bind_some, Db.fIsBook, fAug, dispGo, fDisp, fDGet2, List.zip_cons_cons, List.zip_nil_right, Bool.not_true, Bool.not_false, bne_self_eq_false, Bool.bne_false, Bool.bne_true, Nat.reduceAdd, true_and, wipeE, fFor, fRng1, fEnum, fStar, fNoPart, fPart, fSl, gSl, Db.fMeth, Db.fBook, Nat.reduceLeDiff]
    refine lc_mapE (val := fun d => if (([.str "yes", .str "ready", .str "agreed"] : List PyData).any fun z => PyData.eqv z d) = true then .str "forced" else .str "lazy") [.str "lazy", .str "forced", .str "lazy", .str "forced", .str "forced", .str "lazy"] (by rfl) (fun d hd Q' q' => ?_) ?_
    · simp (config := { failIfUnchanged := false }) only [runF, List.map_cons, List.map_nil, List.cons_append, List.nil_append, List.reduceReplicate, Nat.reduceSub, List.length_cons, List.length_nil, fSeq, fIfS, fB, fOr, fAnd, fNot, f2, fVar, DL.gt, DL.pt, asR, fK, fCons, fNil, fFn, argsOf, fRet, fRet.plainR2, plainR, fSet, fExpr, isB, isI, Ent.dat, Ent.kept, kepts, fTup, fLst, fIs, fAndV, fOrV, fNotV, fIf, fSkip, fChain, oI, oIs, isNonD, oAdd_int, isTupleD, isListD, isIntD, isBoolD, isStrD, fCall, o1, gSum, gLen, fAsg, DL.gTup, gsCons, gsNil, gN, fLc, fYes, fItL, fItT, items, Option.bind_some, Db.fIsBook, fAug, dispGo, fDisp, fDGet2, List.zip_cons_cons, List.zip_nil_right, Bool.not_true, Bool.not_false, bne_self_eq_false, Bool.bne_false, Bool.bne_true, Nat.reduceAdd, true_and, wipeE, fFor, fRng1, fEnum, fStar, fNoPart, fPart, fSl, gSl, Db.fMeth, Db.fBook, Nat.reduceLeDiff]
      simp only [List.mem_cons, List.not_mem_nil, or_false] at hd
      rcases hd with rfl | rfl | rfl | rfl | rfl | rfl
      · refine oIn_ok (b := false) rfl rfl (by first | rfl | decide +kernel) (by first | rfl | decide +kernel) (by rfl) ?_
        exact q'
      · refine oIn_ok (b := true) rfl rfl (by first | rfl | decide +kernel) (by first | rfl | decide +kernel) (by rfl) ?_
        exact q'
      · refine oIn_ok (b := false) rfl rfl (by first | rfl | decide +kernel) (by first | rfl | decide +kernel) (by rfl) ?_
        exact q'
      · refine oIn_ok (b := true) rfl rfl (by first | rfl | decide +kernel) (by first | rfl | decide +kernel) (by rfl) ?_
        exact q'
      · refine oIn_ok (b := true) rfl rfl (by first | rfl | decide +kernel) (by first | rfl | decide +kernel) (by rfl) ?_
        exact q'
      · refine oIn_ok (b := false) rfl rfl (by first | rfl | decide +kernel) (by first | rfl | decide +kernel) (by rfl) ?_
        exact q'
    · simp (config := { failIfUnchanged := false }) only [runF, List.map_cons, List.map_nil, List.cons_append, List.nil_append, List.reduceReplicate, Nat.reduceSub, List.length_cons, List.length_nil, fSeq, fIfS, fB, fOr, fAnd, fNot, f2, fVar, DL.gt, DL.pt, asR, fK, fCons, fNil, fFn, argsOf, fRet, fRet.plainR2, plainR, fSet, fExpr, isB, isI, Ent.dat, Ent.kept, kepts, fTup, fLst, fIs, fAndV, fOrV, fNotV, fIf, fSkip, fChain, oI, oIs, isNonD, oAdd_int, isTupleD, isListD, isIntD, isBoolD, isStrD, fCall, o1, gSum, gLen, fAsg, DL.gTup, gsCons, gsNil, gN, fLc, fYes, fItL, fItT, items, Option.bind_some, Db.fIsBook, fAug, dispGo, fDisp, fDGet2, List.zip_cons_cons, List.zip_nil_right, Bool.not_true, Bool.not_false, bne_self_eq_false, Bool.bne_false, Bool.bne_true, Nat.reduceAdd, true_and, wipeE, fFor, fRng1, fEnum, fStar, fNoPart, fPart, fSl, gSl, Db.fMeth, Db.fBook, Nat.reduceLeDiff]
      refine part_ok (e := .tuple [.str "yes"]) rfl (by rfl) ?_
      refine part_ok (e := .str "no") rfl (by rfl) ?_
      simp (config := { failIfUnchanged := false }) only [runF, List.map_cons, List.map_nil, List.cons_append, List.nil_append, List.reduceReplicate, Nat.reduceSub, List.length_cons, List.length_nil, fSeq, fIfS, fB, fOr, fAnd, fNot, f2, fVar, DL.gt, DL.pt, asR, fK, fCons, fNil, fFn, argsOf, fRet, fRet.plainR2, plainR, fSet, fExpr, isB, isI, Ent.dat, Ent.kept, kepts, fTup, fLst, fIs, fAndV, fOrV, fNotV, fIf, fSkip, fChain, oI, oIs, isNonD, oAdd_int, isTupleD, isListD, isIntD, isBoolD, isStrD, fCall, o1, gSum, gLen, fAsg, DL.gTup, gsCons, gsNil, gN, fLc, fYes, fItL, fItT, items, Option.bind_some, Db.fIsBook, fAug, dispGo, fDisp, fDGet2, List.zip_cons_cons, List.zip_nil_right, Bool.not_true, Bool.not_false, bne_self_eq_false, Bool.bne_false, Bool.bne_true, Nat.reduceAdd, true_and, wipeE, fFor, fRng1, fEnum, fStar, fNoPart, fPart, fSl, gSl, Db.fMeth, Db.fBook, Nat.reduceLeDiff]
      have e : Db.mk8 [.str "lazy", .str "forced", .str "lazy", .str "forced", .str "forced", .str "lazy", .tuple [.str "yes"], .str "no"] = some (Db.bookD ["lazy", "forced", "lazy", "forced", "forced", "lazy"] ["yes"] "no") := by rfl
      rw [e]
      exact q
end K50
namespace K50
open PySem PySem.Spec PyProof.Rows L2 DL
theorem pairs_eq {a b c d a' b' c' d' : Int} (h1 : a = a') (h2 : b = b') (h3 : c = c') (h4 : d = d') : PyData.eqv (.list [.tuple [.int a, .int b], .tuple [.int c, .int d]]) (.list [.tuple [.int a', .int b'], .tuple [.int c', .int d']]) = true := by
  subst h1 h2 h3 h4
  show (((decide (a = a) && (decide (b = b) && true))) && ((decide (c = c) && (decide (d = d) && true)) && true)) = true
  simp
theorem pairs_sh {a b c d : Int} : SeqAt.shaped (.list [.tuple [.int a, .int b], .tuple [.int c, .int d]]) = true := by rfl
theorem leanF {q : Str} (hq : q = "none" ∨ q = "lazy") : Db.partOf "forced" (Db.bookD [q, "forced", q, "forced", "forced", q] ["yes"] "no") = some (.tuple [.str "agreed", .str "ready", .str "yes"]) := by rcases hq with rfl | rfl <;> rfl
theorem gladF {q : Str} (hq : q = "none" ∨ q = "lazy") : Db.partOf "forced" (Db.bookD ["forced", "forced", q, "forced", q, "forced"] ["no"] "yes") = some (.tuple [.str "begin", .str "ready", .str "refused", .str "yes"]) := by rcases hq with rfl | rfl <;> rfl
theorem bareF {q p : Str} (hq : q = "none" ∨ q = "lazy") : Db.partOf "forced" (Db.bookD [q, q, q, q, q, q] [] p) = some (.tuple []) := by rcases hq with rfl | rfl <;> rfl
theorem lap_ok {E : EE} {s0 : PyData} {e2 e3 e4 e5 e6 e7 e8 e9 e10 : Option Ent} {n : Nat} (hn : n < 999990)
    (k : ∀ f3 f4 f5 f6 f7 f8 f9 : Option Ent, E.nx ⟨[some (.ob 1 s0), some .dr, e2, f3, f4, f5, f6, f7, f8, f9, e10], n + 3⟩) : g_lap E ⟨[some (.ob 1 s0), some .dr, e2, e3, e4, e5, e6, e7, e8, e9, e10], n⟩ := by
  have hy : ("yes" : Str) = "yes" ∨ ("yes" : Str) = "no" := .inl rfl
  have hno : ("no" : Str) = "yes" ∨ ("no" : Str) = "no" := .inr rfl
  show g_lap_0 E _
  unfold g_lap_0
  simp (config := { failIfUnchanged := false }) only [runF, List.map_cons, List.map_nil, List.cons_append, List.nil_append, List.reduceReplicate, Nat.reduceSub, List.length_cons, List.length_nil, fSeq, fIfS, fB, fOr, fAnd, fNot, f2, fVar, DL.gt, DL.pt, asR, fK, fCons, fNil, fFn, argsOf, fRet, fRet.plainR2, plainR, fSet, fExpr, isB, isI, Ent.dat, Ent.kept, kepts, fTup, fLst, fIs, fAndV, fOrV, fNotV, fIf, fSkip, fChain, oI, oIs, isNonD, oAdd_int, isTupleD, isListD, isIntD, isBoolD, isStrD, fCall, o1, gSum, gLen, fAsg, DL.gTup, gsCons, gsNil, gN, fLc, fYes, fItL, fItT, items, Option.bind_some, Db.fIsBook, fAug, dispGo, fDisp, fDGet2, List.zip_cons_cons, List.zip_nil_right, Bool.not_true, Bool.not_false, bne_self_eq_false, Bool.bne_false, Bool.bne_true, Nat.reduceAdd, true_and, wipeE, fFor, fRng1, fEnum, fStar, fNoPart, fPart, fSl, gSl, Db.fMeth, Db.fBook, Nat.reduceLeDiff]
  refine take_ok (by omega) (by decide) (by decide) fun x x0 x1 => ?_
  simp (config := { failIfUnchanged := false }) only [runF, List.map_cons, List.map_nil, List.cons_append, List.nil_append, List.reduceReplicate, Nat.reduceSub, List.length_cons, List.length_nil, fSeq, fIfS, fB, fOr, fAnd, fNot, f2, fVar, DL.gt, DL.pt, asR, fK, fCons, fNil, fFn, argsOf, fRet, fRet.plainR2, plainR, fSet, fExpr, isB, isI, Ent.dat, Ent.kept, kepts, fTup, fLst, fIs, fAndV, fOrV, fNotV, fIf, fSkip, fChain, oI, oIs, isNonD, oAdd_int, isTupleD, isListD, isIntD, isBoolD, isStrD, fCall, o1, gSum, gLen, fAsg, DL.gTup, gsCons, gsNil, gN, fLc, fYes, fItL, fItT, items, Option.bind_some, Db.fIsBook, fAug, dispGo, fDisp, fDGet2, List.zip_cons_cons, List.zip_nil_right, Bool.not_true, Bool.not_false, bne_self_eq_false, Bool.bne_false, Bool.bne_true, Nat.reduceAdd, true_and, wipeE, fFor, fRng1, fEnum, fStar, fNoPart, fPart, fSl, gSl, Db.fMeth, Db.fBook, Nat.reduceLeDiff]
  refine pick_ok (by omega) (by decide) (by decide) fun r hr => ?_
  have h1 : 1 ≤ 1 + x := by omega
  have h2 : 1 + x ≤ 100 := by omega
  generalize 1 + x = m at h1 h2 ⊢
  simp only [List.mem_cons, List.not_mem_nil, or_false] at hr
  obtain ⟨q, rfl, hq⟩ : ∃ q : Str, r = .str q ∧ (q = "none" ∨ q = "lazy") := by
    rcases hr with rfl | rfl
    · exact ⟨_, rfl, .inl rfl⟩
    · exact ⟨_, rfl, .inr rfl⟩
  simp (config := { failIfUnchanged := false }) only [runF, List.map_cons, List.map_nil, List.cons_append, List.nil_append, List.reduceReplicate, Nat.reduceSub, List.length_cons, List.length_nil, fSeq, fIfS, fB, fOr, fAnd, fNot, f2, fVar, DL.gt, DL.pt, asR, fK, fCons, fNil, fFn, argsOf, fRet, fRet.plainR2, plainR, fSet, fExpr, isB, isI, Ent.dat, Ent.kept, kepts, fTup, fLst, fIs, fAndV, fOrV, fNotV, fIf, fSkip, fChain, oI, oIs, isNonD, oAdd_int, isTupleD, isListD, isIntD, isBoolD, isStrD, fCall, o1, gSum, gLen, fAsg, DL.gTup, gsCons, gsNil, gN, fLc, fYes, fItL, fItT, items, Option.bind_some, Db.fIsBook, fAug, dispGo, fDisp, fDGet2, List.zip_cons_cons, List.zip_nil_right, Bool.not_true, Bool.not_false, bne_self_eq_false, Bool.bne_false, Bool.bne_true, Nat.reduceAdd, true_and, wipeE, fFor, fRng1, fEnum, fStar, fNoPart, fPart, fSl, gSl, Db.fMeth, Db.fBook, Nat.reduceLeDiff]
  unfold g_lap_1
  simp (config := { failIfUnchanged := false }) only [runF, List.map_cons, List.map_nil, List.cons_append, List.nil_append, List.reduceReplicate, Nat.reduceSub, List.length_cons, List.length_nil, fSeq, fIfS, fB, fOr, fAnd, fNot, f2, fVar, DL.gt, DL.pt, asR, fK, fCons, fNil, fFn, argsOf, fRet, fRet.plainR2, plainR, fSet, fExpr, isB, isI, Ent.dat, Ent.kept, kepts, fTup, fLst, fIs, fAndV, fOrV, fNotV, fIf, fSkip, fChain, oI, oIs, isNonD, oAdd_int, isTupleD, isListD, isIntD, isBoolD, isStrD, fCall, o1, gSum, gLen, fAsg, DL.gTup, gsCons, gsNil, gN, fLc, fYes, fItL, fItT, items, Option.bind_some, Db.fIsBook, fAug, dispGo, fDisp, fDGet2, List.zip_cons_cons, List.zip_nil_right, Bool.not_true, Bool.not_false, bne_self_eq_false, Bool.bne_false, Bool.bne_true, Nat.reduceAdd, true_and, wipeE, fFor, fRng1, fEnum, fStar, fNoPart, fPart, fSl, gSl, Db.fMeth, Db.fBook, Nat.reduceLeDiff]
  rw [show Db.mk8 [.str q, .str q, .str q, .str q, .str q, .str q, .list [.str "yes"], .str "no"] = some (Db.bookD [q, q, q, q, q, q] ["yes"] "no") by rcases hq with rfl | rfl <;> rfl]
  simp (config := { failIfUnchanged := false }) only [runF, List.map_cons, List.map_nil, List.cons_append, List.nil_append, List.reduceReplicate, Nat.reduceSub, List.length_cons, List.length_nil, fSeq, fIfS, fB, fOr, fAnd, fNot, f2, fVar, DL.gt, DL.pt, asR, fK, fCons, fNil, fFn, argsOf, fRet, fRet.plainR2, plainR, fSet, fExpr, isB, isI, Ent.dat, Ent.kept, kepts, fTup, fLst, fIs, fAndV, fOrV, fNotV, fIf, fSkip, fChain, oI, oIs, isNonD, oAdd_int, isTupleD, isListD, isIntD, isBoolD, isStrD, fCall, o1, gSum, gLen, fAsg, DL.gTup, gsCons, gsNil, gN, fLc, fYes, fItL, fItT, items, Option.bind_some, Db.fIsBook, fAug, dispGo, fDisp, fDGet2, List.zip_cons_cons, List.zip_nil_right, Bool.not_true, Bool.not_false, bne_self_eq_false, Bool.bne_false, Bool.bne_true, Nat.reduceAdd, true_and, wipeE, fFor, fRng1, fEnum, fStar, fNoPart, fPart, fSl, gSl, Db.fMeth, Db.fBook, Nat.reduceLeDiff]
  unfold g_lap_2
  simp (config := { failIfUnchanged := false }) only [runF, List.map_cons, List.map_nil, List.cons_append, List.nil_append, List.reduceReplicate, Nat.reduceSub, List.length_cons, List.length_nil, fSeq, fIfS, fB, fOr, fAnd, fNot, f2, fVar, DL.gt, DL.pt, asR, fK, fCons, fNil, fFn, argsOf, fRet, fRet.plainR2, plainR, fSet, fExpr, isB, isI, Ent.dat, Ent.kept, kepts, fTup, fLst, fIs, fAndV, fOrV, fNotV, fIf, fSkip, fChain, oI, oIs, isNonD, oAdd_int, isTupleD, isListD, isIntD, isBoolD, isStrD, fCall, o1, gSum, gLen, fAsg, DL.gTup, gsCons, gsNil, gN, fLc, fYes, fItL, fItT, items, Option.bind_some, Db.fIsBook, fAug, dispGo, fDisp, fDGet2, List.zip_cons_cons, List.zip_nil_right, Bool.not_true, Bool.not_false, bne_self_eq_false, Bool.bne_false, Bool.bne_true, Nat.reduceAdd, true_and, wipeE, fFor, fRng1, fEnum, fStar, fNoPart, fPart, fSl, gSl, Db.fMeth, Db.fBook, Nat.reduceLeDiff]
  refine wf_ok hq ?_
  simp (config := { failIfUnchanged := false }) only [runF, List.map_cons, List.map_nil, List.cons_append, List.nil_append, List.reduceReplicate, Nat.reduceSub, List.length_cons, List.length_nil, fSeq, fIfS, fB, fOr, fAnd, fNot, f2, fVar, DL.gt, DL.pt, asR, fK, fCons, fNil, fFn, argsOf, fRet, fRet.plainR2, plainR, fSet, fExpr, isB, isI, Ent.dat, Ent.kept, kepts, fTup, fLst, fIs, fAndV, fOrV, fNotV, fIf, fSkip, fChain, oI, oIs, isNonD, oAdd_int, isTupleD, isListD, isIntD, isBoolD, isStrD, fCall, o1, gSum, gLen, fAsg, DL.gTup, gsCons, gsNil, gN, fLc, fYes, fItL, fItT, items, Option.bind_some, Db.fIsBook, fAug, dispGo, fDisp, fDGet2, List.zip_cons_cons, List.zip_nil_right, Bool.not_true, Bool.not_false, bne_self_eq_false, Bool.bne_false, Bool.bne_true, Nat.reduceAdd, true_and, wipeE, fFor, fRng1, fEnum, fStar, fNoPart, fPart, fSl, gSl, Db.fMeth, Db.fBook, Nat.reduceLeDiff]
  unfold g_lap_3
  simp (config := { failIfUnchanged := false }) only [runF, List.map_cons, List.map_nil, List.cons_append, List.nil_append, List.reduceReplicate, Nat.reduceSub, List.length_cons, List.length_nil, fSeq, fIfS, fB, fOr, fAnd, fNot, f2, fVar, DL.gt, DL.pt, asR, fK, fCons, fNil, fFn, argsOf, fRet, fRet.plainR2, plainR, fSet, fExpr, isB, isI, Ent.dat, Ent.kept, kepts, fTup, fLst, fIs, fAndV, fOrV, fNotV, fIf, fSkip, fChain, oI, oIs, isNonD, oAdd_int, isTupleD, isListD, isIntD, isBoolD, isStrD, fCall, o1, gSum, gLen, fAsg, DL.gTup, gsCons, gsNil, gN, fLc, fYes, fItL, fItT, items, Option.bind_some, Db.fIsBook, fAug, dispGo, fDisp, fDGet2, List.zip_cons_cons, List.zip_nil_right, Bool.not_true, Bool.not_false, bne_self_eq_false, Bool.bne_false, Bool.bne_true, Nat.reduceAdd, true_and, wipeE, fFor, fRng1, fEnum, fStar, fNoPart, fPart, fSl, gSl, Db.fMeth, Db.fBook, Nat.reduceLeDiff]
  refine costs_ok (fs := [.str "agreed", .str "ready", .str "yes"]) (as := [.str "yes"]) (ya := true) (ns := [m, m, 1]) hy h1 h2 (leanF hq) (by rfl) (by first | rfl | decide +kernel) (by rfl) (by decide) (by rfl) ?_
  simp (config := { failIfUnchanged := false }) only [runF, List.map_cons, List.map_nil, List.cons_append, List.nil_append, List.reduceReplicate, Nat.reduceSub, List.length_cons, List.length_nil, fSeq, fIfS, fB, fOr, fAnd, fNot, f2, fVar, DL.gt, DL.pt, asR, fK, fCons, fNil, fFn, argsOf, fRet, fRet.plainR2, plainR, fSet, fExpr, isB, isI, Ent.dat, Ent.kept, kepts, fTup, fLst, fIs, fAndV, fOrV, fNotV, fIf, fSkip, fChain, oI, oIs, isNonD, oAdd_int, isTupleD, isListD, isIntD, isBoolD, isStrD, fCall, o1, gSum, gLen, fAsg, DL.gTup, gsCons, gsNil, gN, fLc, fYes, fItL, fItT, items, Option.bind_some, Db.fIsBook, fAug, dispGo, fDisp, fDGet2, List.zip_cons_cons, List.zip_nil_right, Bool.not_true, Bool.not_false, bne_self_eq_false, Bool.bne_false, Bool.bne_true, Nat.reduceAdd, true_and, wipeE, fFor, fRng1, fEnum, fStar, fNoPart, fPart, fSl, gSl, Db.fMeth, Db.fBook, Nat.reduceLeDiff]
  refine costs_ok (fs := [.str "agreed", .str "ready", .str "yes"]) (as := [.str "yes"]) (ya := false) (ns := [0, m - 1, 0]) hno h1 h2 (leanF hq) (by rfl) (by first | rfl | decide +kernel) (by rfl) (by decide) (by rfl) ?_
  simp (config := { failIfUnchanged := false }) only [runF, List.map_cons, List.map_nil, List.cons_append, List.nil_append, List.reduceReplicate, Nat.reduceSub, List.length_cons, List.length_nil, fSeq, fIfS, fB, fOr, fAnd, fNot, f2, fVar, DL.gt, DL.pt, asR, fK, fCons, fNil, fFn, argsOf, fRet, fRet.plainR2, plainR, fSet, fExpr, isB, isI, Ent.dat, Ent.kept, kepts, fTup, fLst, fIs, fAndV, fOrV, fNotV, fIf, fSkip, fChain, oI, oIs, isNonD, oAdd_int, isTupleD, isListD, isIntD, isBoolD, isStrD, fCall, o1, gSum, gLen, fAsg, DL.gTup, gsCons, gsNil, gN, fLc, fYes, fItL, fItT, items, Option.bind_some, Db.fIsBook, fAug, dispGo, fDisp, fDGet2, List.zip_cons_cons, List.zip_nil_right, Bool.not_true, Bool.not_false, bne_self_eq_false, Bool.bne_false, Bool.bne_true, Nat.reduceAdd, true_and, wipeE, fFor, fRng1, fEnum, fStar, fNoPart, fPart, fSl, gSl, Db.fMeth, Db.fBook, Nat.reduceLeDiff]
  repeat (refine oMul_ok (by decide) (by decide) ?_; simp (config := { failIfUnchanged := false }) only [runF, List.map_cons, List.map_nil, List.cons_append, List.nil_append, List.reduceReplicate, Nat.reduceSub, List.length_cons, List.length_nil, fSeq, fIfS, fB, fOr, fAnd, fNot, f2, fVar, DL.gt, DL.pt, asR, fK, fCons, fNil, fFn, argsOf, fRet, fRet.plainR2, plainR, fSet, fExpr, isB, isI, Ent.dat, Ent.kept, kepts, fTup, fLst, fIs, fAndV, fOrV, fNotV, fIf, fSkip, fChain, oI, oIs, isNonD, oAdd_int, isTupleD, isListD, isIntD, isBoolD, isStrD, fCall, o1, gSum, gLen, fAsg, DL.gTup, gsCons, gsNil, gN, fLc, fYes, fItL, fItT, items, Option.bind_some, Db.fIsBook, fAug, dispGo, fDisp, fDGet2, List.zip_cons_cons, List.zip_nil_right, Bool.not_true, Bool.not_false, bne_self_eq_false, Bool.bne_false, Bool.bne_true, Nat.reduceAdd, true_and, wipeE, fFor, fRng1, fEnum, fStar, fNoPart, fPart, fSl, gSl, Db.fMeth, Db.fBook, Nat.reduceLeDiff])
  refine oEq_ok (b := true) rfl rfl pairs_sh pairs_sh (pairs_eq (by simp <;> omega) (by simp <;> omega) (by simp <;> omega) (by simp <;> omega)) ?_
  simp (config := { failIfUnchanged := false }) only [runF, List.map_cons, List.map_nil, List.cons_append, List.nil_append, List.reduceReplicate, Nat.reduceSub, List.length_cons, List.length_nil, fSeq, fIfS, fB, fOr, fAnd, fNot, f2, fVar, DL.gt, DL.pt, asR, fK, fCons, fNil, fFn, argsOf, fRet, fRet.plainR2, plainR, fSet, fExpr, isB, isI, Ent.dat, Ent.kept, kepts, fTup, fLst, fIs, fAndV, fOrV, fNotV, fIf, fSkip, fChain, oI, oIs, isNonD, oAdd_int, isTupleD, isListD, isIntD, isBoolD, isStrD, fCall, o1, gSum, gLen, fAsg, DL.gTup, gsCons, gsNil, gN, fLc, fYes, fItL, fItT, items, Option.bind_some, Db.fIsBook, fAug, dispGo, fDisp, fDGet2, List.zip_cons_cons, List.zip_nil_right, Bool.not_true, Bool.not_false, bne_self_eq_false, Bool.bne_false, Bool.bne_true, Nat.reduceAdd, true_and, wipeE, fFor, fRng1, fEnum, fStar, fNoPart, fPart, fSl, gSl, Db.fMeth, Db.fBook, Nat.reduceLeDiff]
  unfold g_lap_4
  simp (config := { failIfUnchanged := false }) only [runF, List.map_cons, List.map_nil, List.cons_append, List.nil_append, List.reduceReplicate, Nat.reduceSub, List.length_cons, List.length_nil, fSeq, fIfS, fB, fOr, fAnd, fNot, f2, fVar, DL.gt, DL.pt, asR, fK, fCons, fNil, fFn, argsOf, fRet, fRet.plainR2, plainR, fSet, fExpr, isB, isI, Ent.dat, Ent.kept, kepts, fTup, fLst, fIs, fAndV, fOrV, fNotV, fIf, fSkip, fChain, oI, oIs, isNonD, oAdd_int, isTupleD, isListD, isIntD, isBoolD, isStrD, fCall, o1, gSum, gLen, fAsg, DL.gTup, gsCons, gsNil, gN, fLc, fYes, fItL, fItT, items, Option.bind_some, Db.fIsBook, fAug, dispGo, fDisp, fDGet2, List.zip_cons_cons, List.zip_nil_right, Bool.not_true, Bool.not_false, bne_self_eq_false, Bool.bne_false, Bool.bne_true, Nat.reduceAdd, true_and, wipeE, fFor, fRng1, fEnum, fStar, fNoPart, fPart, fSl, gSl, Db.fMeth, Db.fBook, Nat.reduceLeDiff]
  rw [show Db.mk8 [.str "forced", .str "forced", .str q, .str "forced", .str q, .str "forced", .tuple [.str "no"], .str "yes"] = some (Db.bookD ["forced", "forced", q, "forced", q, "forced"] ["no"] "yes") by rcases hq with rfl | rfl <;> rfl]
  simp (config := { failIfUnchanged := false }) only [runF, List.map_cons, List.map_nil, List.cons_append, List.nil_append, List.reduceReplicate, Nat.reduceSub, List.length_cons, List.length_nil, fSeq, fIfS, fB, fOr, fAnd, fNot, f2, fVar, DL.gt, DL.pt, asR, fK, fCons, fNil, fFn, argsOf, fRet, fRet.plainR2, plainR, fSet, fExpr, isB, isI, Ent.dat, Ent.kept, kepts, fTup, fLst, fIs, fAndV, fOrV, fNotV, fIf, fSkip, fChain, oI, oIs, isNonD, oAdd_int, isTupleD, isListD, isIntD, isBoolD, isStrD, fCall, o1, gSum, gLen, fAsg, DL.gTup, gsCons, gsNil, gN, fLc, fYes, fItL, fItT, items, Option.bind_some, Db.fIsBook, fAug, dispGo, fDisp, fDGet2, List.zip_cons_cons, List.zip_nil_right, Bool.not_true, Bool.not_false, bne_self_eq_false, Bool.bne_false, Bool.bne_true, Nat.reduceAdd, true_and, wipeE, fFor, fRng1, fEnum, fStar, fNoPart, fPart, fSl, gSl, Db.fMeth, Db.fBook, Nat.reduceLeDiff]
  unfold g_lap_5
  simp (config := { failIfUnchanged := false }) only [runF, List.map_cons, List.map_nil, List.cons_append, List.nil_append, List.reduceReplicate, Nat.reduceSub, List.length_cons, List.length_nil, fSeq, fIfS, fB, fOr, fAnd, fNot, f2, fVar, DL.gt, DL.pt, asR, fK, fCons, fNil, fFn, argsOf, fRet, fRet.plainR2, plainR, fSet, fExpr, isB, isI, Ent.dat, Ent.kept, kepts, fTup, fLst, fIs, fAndV, fOrV, fNotV, fIf, fSkip, fChain, oI, oIs, isNonD, oAdd_int, isTupleD, isListD, isIntD, isBoolD, isStrD, fCall, o1, gSum, gLen, fAsg, DL.gTup, gsCons, gsNil, gN, fLc, fYes, fItL, fItT, items, Option.bind_some, Db.fIsBook, fAug, dispGo, fDisp, fDGet2, List.zip_cons_cons, List.zip_nil_right, Bool.not_true, Bool.not_false, bne_self_eq_false, Bool.bne_false, Bool.bne_true, Nat.reduceAdd, true_and, wipeE, fFor, fRng1, fEnum, fStar, fNoPart, fPart, fSl, gSl, Db.fMeth, Db.fBook, Nat.reduceLeDiff]
  refine costs_ok (fs := [.str "begin", .str "ready", .str "refused", .str "yes"]) (as := [.str "no"]) (ya := false) (ns := [1, m, 0, 1]) hy h1 h2 (gladF hq) (by rfl) (by first | rfl | decide +kernel) (by rfl) (by decide) (by rfl) ?_
  simp (config := { failIfUnchanged := false }) only [runF, List.map_cons, List.map_nil, List.cons_append, List.nil_append, List.reduceReplicate, Nat.reduceSub, List.length_cons, List.length_nil, fSeq, fIfS, fB, fOr, fAnd, fNot, f2, fVar, DL.gt, DL.pt, asR, fK, fCons, fNil, fFn, argsOf, fRet, fRet.plainR2, plainR, fSet, fExpr, isB, isI, Ent.dat, Ent.kept, kepts, fTup, fLst, fIs, fAndV, fOrV, fNotV, fIf, fSkip, fChain, oI, oIs, isNonD, oAdd_int, isTupleD, isListD, isIntD, isBoolD, isStrD, fCall, o1, gSum, gLen, fAsg, DL.gTup, gsCons, gsNil, gN, fLc, fYes, fItL, fItT, items, Option.bind_some, Db.fIsBook, fAug, dispGo, fDisp, fDGet2, List.zip_cons_cons, List.zip_nil_right, Bool.not_true, Bool.not_false, bne_self_eq_false, Bool.bne_false, Bool.bne_true, Nat.reduceAdd, true_and, wipeE, fFor, fRng1, fEnum, fStar, fNoPart, fPart, fSl, gSl, Db.fMeth, Db.fBook, Nat.reduceLeDiff]
  refine costs_ok (fs := [.str "begin", .str "ready", .str "refused", .str "yes"]) (as := [.str "no"]) (ya := true) (ns := [1, m - 1, m, 0]) hno h1 h2 (gladF hq) (by rfl) (by first | rfl | decide +kernel) (by rfl) (by decide) (by rfl) ?_
  simp (config := { failIfUnchanged := false }) only [runF, List.map_cons, List.map_nil, List.cons_append, List.nil_append, List.reduceReplicate, Nat.reduceSub, List.length_cons, List.length_nil, fSeq, fIfS, fB, fOr, fAnd, fNot, f2, fVar, DL.gt, DL.pt, asR, fK, fCons, fNil, fFn, argsOf, fRet, fRet.plainR2, plainR, fSet, fExpr, isB, isI, Ent.dat, Ent.kept, kepts, fTup, fLst, fIs, fAndV, fOrV, fNotV, fIf, fSkip, fChain, oI, oIs, isNonD, oAdd_int, isTupleD, isListD, isIntD, isBoolD, isStrD, fCall, o1, gSum, gLen, fAsg, DL.gTup, gsCons, gsNil, gN, fLc, fYes, fItL, fItT, items, Option.bind_some, Db.fIsBook, fAug, dispGo, fDisp, fDGet2, List.zip_cons_cons, List.zip_nil_right, Bool.not_true, Bool.not_false, bne_self_eq_false, Bool.bne_false, Bool.bne_true, Nat.reduceAdd, true_and, wipeE, fFor, fRng1, fEnum, fStar, fNoPart, fPart, fSl, gSl, Db.fMeth, Db.fBook, Nat.reduceLeDiff]
  repeat (refine oMul_ok (by decide) (by decide) ?_; simp (config := { failIfUnchanged := false }) only [runF, List.map_cons, List.map_nil, List.cons_append, List.nil_append, List.reduceReplicate, Nat.reduceSub, List.length_cons, List.length_nil, fSeq, fIfS, fB, fOr, fAnd, fNot, f2, fVar, DL.gt, DL.pt, asR, fK, fCons, fNil, fFn, argsOf, fRet, fRet.plainR2, plainR, fSet, fExpr, isB, isI, Ent.dat, Ent.kept, kepts, fTup, fLst, fIs, fAndV, fOrV, fNotV, fIf, fSkip, fChain, oI, oIs, isNonD, oAdd_int, isTupleD, isListD, isIntD, isBoolD, isStrD, fCall, o1, gSum, gLen, fAsg, DL.gTup, gsCons, gsNil, gN, fLc, fYes, fItL, fItT, items, Option.bind_some, Db.fIsBook, fAug, dispGo, fDisp, fDGet2, List.zip_cons_cons, List.zip_nil_right, Bool.not_true, Bool.not_false, bne_self_eq_false, Bool.bne_false, Bool.bne_true, Nat.reduceAdd, true_and, wipeE, fFor, fRng1, fEnum, fStar, fNoPart, fPart, fSl, gSl, Db.fMeth, Db.fBook, Nat.reduceLeDiff])
  refine oEq_ok (b := true) rfl rfl pairs_sh pairs_sh (pairs_eq (by simp <;> omega) (by simp <;> omega) (by simp <;> omega) (by simp <;> omega)) ?_
  simp (config := { failIfUnchanged := false }) only [runF, List.map_cons, List.map_nil, List.cons_append, List.nil_append, List.reduceReplicate, Nat.reduceSub, List.length_cons, List.length_nil, fSeq, fIfS, fB, fOr, fAnd, fNot, f2, fVar, DL.gt, DL.pt, asR, fK, fCons, fNil, fFn, argsOf, fRet, fRet.plainR2, plainR, fSet, fExpr, isB, isI, Ent.dat, Ent.kept, kepts, fTup, fLst, fIs, fAndV, fOrV, fNotV, fIf, fSkip, fChain, oI, oIs, isNonD, oAdd_int, isTupleD, isListD, isIntD, isBoolD, isStrD, fCall, o1, gSum, gLen, fAsg, DL.gTup, gsCons, gsNil, gN, fLc, fYes, fItL, fItT, items, Option.bind_some, Db.fIsBook, fAug, dispGo, fDisp, fDGet2, List.zip_cons_cons, List.zip_nil_right, Bool.not_true, Bool.not_false, bne_self_eq_false, Bool.bne_false, Bool.bne_true, Nat.reduceAdd, true_and, wipeE, fFor, fRng1, fEnum, fStar, fNoPart, fPart, fSl, gSl, Db.fMeth, Db.fBook, Nat.reduceLeDiff]
  unfold g_lap_6
  simp (config := { failIfUnchanged := false }) only [runF, List.map_cons, List.map_nil, List.cons_append, List.nil_append, List.reduceReplicate, Nat.reduceSub, List.length_cons, List.length_nil, fSeq, fIfS, fB, fOr, fAnd, fNot, f2, fVar, DL.gt, DL.pt, asR, fK, fCons, fNil, fFn, argsOf, fRet, fRet.plainR2, plainR, fSet, fExpr, isB, isI, Ent.dat, Ent.kept, kepts, fTup, fLst, fIs, fAndV, fOrV, fNotV, fIf, fSkip, fChain, oI, oIs, isNonD, oAdd_int, isTupleD, isListD, isIntD, isBoolD, isStrD, fCall, o1, gSum, gLen, fAsg, DL.gTup, gsCons, gsNil, gN, fLc, fYes, fItL, fItT, items, Option.bind_some, Db.fIsBook, fAug, dispGo, fDisp, fDGet2, List.zip_cons_cons, List.zip_nil_right, Bool.not_true, Bool.not_false, bne_self_eq_false, Bool.bne_false, Bool.bne_true, Nat.reduceAdd, true_and, wipeE, fFor, fRng1, fEnum, fStar, fNoPart, fPart, fSl, gSl, Db.fMeth, Db.fBook, Nat.reduceLeDiff]
  rw [show Db.mk8 [.str "forced", .str "forced", .str "forced", .str "forced", .str "forced", .str "forced", .list [.str "no", .str "yes"], .str "wait"] = some (Db.bookD ["forced", "forced", "forced", "forced", "forced", "forced"] ["no", "yes"] "wait") by rfl]
  simp (config := { failIfUnchanged := false }) only [runF, List.map_cons, List.map_nil, List.cons_append, List.nil_append, List.reduceReplicate, Nat.reduceSub, List.length_cons, List.length_nil, fSeq, fIfS, fB, fOr, fAnd, fNot, f2, fVar, DL.gt, DL.pt, asR, fK, fCons, fNil, fFn, argsOf, fRet, fRet.plainR2, plainR, fSet, fExpr, isB, isI, Ent.dat, Ent.kept, kepts, fTup, fLst, fIs, fAndV, fOrV, fNotV, fIf, fSkip, fChain, oI, oIs, isNonD, oAdd_int, isTupleD, isListD, isIntD, isBoolD, isStrD, fCall, o1, gSum, gLen, fAsg, DL.gTup, gsCons, gsNil, gN, fLc, fYes, fItL, fItT, items, Option.bind_some, Db.fIsBook, fAug, dispGo, fDisp, fDGet2, List.zip_cons_cons, List.zip_nil_right, Bool.not_true, Bool.not_false, bne_self_eq_false, Bool.bne_false, Bool.bne_true, Nat.reduceAdd, true_and, wipeE, fFor, fRng1, fEnum, fStar, fNoPart, fPart, fSl, gSl, Db.fMeth, Db.fBook, Nat.reduceLeDiff]
  unfold g_lap_7
  simp (config := { failIfUnchanged := false }) only [runF, List.map_cons, List.map_nil, List.cons_append, List.nil_append, List.reduceReplicate, Nat.reduceSub, List.length_cons, List.length_nil, fSeq, fIfS, fB, fOr, fAnd, fNot, f2, fVar, DL.gt, DL.pt, asR, fK, fCons, fNil, fFn, argsOf, fRet, fRet.plainR2, plainR, fSet, fExpr, isB, isI, Ent.dat, Ent.kept, kepts, fTup, fLst, fIs, fAndV, fOrV, fNotV, fIf, fSkip, fChain, oI, oIs, isNonD, oAdd_int, isTupleD, isListD, isIntD, isBoolD, isStrD, fCall, o1, gSum, gLen, fAsg, DL.gTup, gsCons, gsNil, gN, fLc, fYes, fItL, fItT, items, Option.bind_some, Db.fIsBook, fAug, dispGo, fDisp, fDGet2, List.zip_cons_cons, List.zip_nil_right, Bool.not_true, Bool.not_false, bne_self_eq_false, Bool.bne_false, Bool.bne_true, Nat.reduceAdd, true_and, wipeE, fFor, fRng1, fEnum, fStar, fNoPart, fPart, fSl, gSl, Db.fMeth, Db.fBook, Nat.reduceLeDiff]
  refine costs_ok (fs := [.str "agreed", .str "begin", .str "no", .str "ready", .str "refused", .str "yes"]) (as := [.str "no", .str "yes"]) (ya := true) (ns := [m, 1, 0, m, 0, 1]) hy h1 h2 (by rfl) (by rfl) (by first | rfl | decide +kernel) (by rfl) (by decide) (by rfl) ?_
  simp (config := { failIfUnchanged := false }) only [runF, List.map_cons, List.map_nil, List.cons_append, List.nil_append, List.reduceReplicate, Nat.reduceSub, List.length_cons, List.length_nil, fSeq, fIfS, fB, fOr, fAnd, fNot, f2, fVar, DL.gt, DL.pt, asR, fK, fCons, fNil, fFn, argsOf, fRet, fRet.plainR2, plainR, fSet, fExpr, isB, isI, Ent.dat, Ent.kept, kepts, fTup, fLst, fIs, fAndV, fOrV, fNotV, fIf, fSkip, fChain, oI, oIs, isNonD, oAdd_int, isTupleD, isListD, isIntD, isBoolD, isStrD, fCall, o1, gSum, gLen, fAsg, DL.gTup, gsCons, gsNil, gN, fLc, fYes, fItL, fItT, items, Option.bind_some, Db.fIsBook, fAug, dispGo, fDisp, fDGet2, List.zip_cons_cons, List.zip_nil_right, Bool.not_true, Bool.not_false, bne_self_eq_false, Bool.bne_false, Bool.bne_true, Nat.reduceAdd, true_and, wipeE, fFor, fRng1, fEnum, fStar, fNoPart, fPart, fSl, gSl, Db.fMeth, Db.fBook, Nat.reduceLeDiff]
  refine costs_ok (fs := [.str "agreed", .str "begin", .str "no", .str "ready", .str "refused", .str "yes"]) (as := [.str "no", .str "yes"]) (ya := true) (ns := [0, 1, 1, m - 1, m, 0]) hno h1 h2 (by rfl) (by rfl) (by first | rfl | decide +kernel) (by rfl) (by decide) (by rfl) ?_
  simp (config := { failIfUnchanged := false }) only [runF, List.map_cons, List.map_nil, List.cons_append, List.nil_append, List.reduceReplicate, Nat.reduceSub, List.length_cons, List.length_nil, fSeq, fIfS, fB, fOr, fAnd, fNot, f2, fVar, DL.gt, DL.pt, asR, fK, fCons, fNil, fFn, argsOf, fRet, fRet.plainR2, plainR, fSet, fExpr, isB, isI, Ent.dat, Ent.kept, kepts, fTup, fLst, fIs, fAndV, fOrV, fNotV, fIf, fSkip, fChain, oI, oIs, isNonD, oAdd_int, isTupleD, isListD, isIntD, isBoolD, isStrD, fCall, o1, gSum, gLen, fAsg, DL.gTup, gsCons, gsNil, gN, fLc, fYes, fItL, fItT, items, Option.bind_some, Db.fIsBook, fAug, dispGo, fDisp, fDGet2, List.zip_cons_cons, List.zip_nil_right, Bool.not_true, Bool.not_false, bne_self_eq_false, Bool.bne_false, Bool.bne_true, Nat.reduceAdd, true_and, wipeE, fFor, fRng1, fEnum, fStar, fNoPart, fPart, fSl, gSl, Db.fMeth, Db.fBook, Nat.reduceLeDiff]
  repeat (refine oMul_ok (by decide) (by decide) ?_; simp (config := { failIfUnchanged := false }) only [runF, List.map_cons, List.map_nil, List.cons_append, List.nil_append, List.reduceReplicate, Nat.reduceSub, List.length_cons, List.length_nil, fSeq, fIfS, fB, fOr, fAnd, fNot, f2, fVar, DL.gt, DL.pt, asR, fK, fCons, fNil, fFn, argsOf, fRet, fRet.plainR2, plainR, fSet, fExpr, isB, isI, Ent.dat, Ent.kept, kepts, fTup, fLst, fIs, fAndV, fOrV, fNotV, fIf, fSkip, fChain, oI, oIs, isNonD, oAdd_int, isTupleD, isListD, isIntD, isBoolD, isStrD, fCall, o1, gSum, gLen, fAsg, DL.gTup, gsCons, gsNil, gN, fLc, fYes, fItL, fItT, items, Option.bind_some, Db.fIsBook, fAug, dispGo, fDisp, fDGet2, List.zip_cons_cons, List.zip_nil_right, Bool.not_true, Bool.not_false, bne_self_eq_false, Bool.bne_false, Bool.bne_true, Nat.reduceAdd, true_and, wipeE, fFor, fRng1, fEnum, fStar, fNoPart, fPart, fSl, gSl, Db.fMeth, Db.fBook, Nat.reduceLeDiff])
  refine oEq_ok (b := true) rfl rfl pairs_sh pairs_sh (pairs_eq (by simp <;> omega) (by simp <;> omega) (by simp <;> omega) (by simp <;> omega)) ?_
  simp (config := { failIfUnchanged := false }) only [runF, List.map_cons, List.map_nil, List.cons_append, List.nil_append, List.reduceReplicate, Nat.reduceSub, List.length_cons, List.length_nil, fSeq, fIfS, fB, fOr, fAnd, fNot, f2, fVar, DL.gt, DL.pt, asR, fK, fCons, fNil, fFn, argsOf, fRet, fRet.plainR2, plainR, fSet, fExpr, isB, isI, Ent.dat, Ent.kept, kepts, fTup, fLst, fIs, fAndV, fOrV, fNotV, fIf, fSkip, fChain, oI, oIs, isNonD, oAdd_int, isTupleD, isListD, isIntD, isBoolD, isStrD, fCall, o1, gSum, gLen, fAsg, DL.gTup, gsCons, gsNil, gN, fLc, fYes, fItL, fItT, items, Option.bind_some, Db.fIsBook, fAug, dispGo, fDisp, fDGet2, List.zip_cons_cons, List.zip_nil_right, Bool.not_true, Bool.not_false, bne_self_eq_false, Bool.bne_false, Bool.bne_true, Nat.reduceAdd, true_and, wipeE, fFor, fRng1, fEnum, fStar, fNoPart, fPart, fSl, gSl, Db.fMeth, Db.fBook, Nat.reduceLeDiff]
  unfold g_lap_8
  simp (config := { failIfUnchanged := false }) only [runF, List.map_cons, List.map_nil, List.cons_append, List.nil_append, List.reduceReplicate, Nat.reduceSub, List.length_cons, List.length_nil, fSeq, fIfS, fB, fOr, fAnd, fNot, f2, fVar, DL.gt, DL.pt, asR, fK, fCons, fNil, fFn, argsOf, fRet, fRet.plainR2, plainR, fSet, fExpr, isB, isI, Ent.dat, Ent.kept, kepts, fTup, fLst, fIs, fAndV, fOrV, fNotV, fIf, fSkip, fChain, oI, oIs, isNonD, oAdd_int, isTupleD, isListD, isIntD, isBoolD, isStrD, fCall, o1, gSum, gLen, fAsg, DL.gTup, gsCons, gsNil, gN, fLc, fYes, fItL, fItT, items, Option.bind_some, Db.fIsBook, fAug, dispGo, fDisp, fDGet2, List.zip_cons_cons, List.zip_nil_right, Bool.not_true, Bool.not_false, bne_self_eq_false, Bool.bne_false, Bool.bne_true, Nat.reduceAdd, true_and, wipeE, fFor, fRng1, fEnum, fStar, fNoPart, fPart, fSl, gSl, Db.fMeth, Db.fBook, Nat.reduceLeDiff]
  refine pick_ok (by omega) (by decide) (by decide) fun p hp => ?_
  obtain ⟨p', rfl, hb⟩ : ∃ p' : Str, p = .str p' ∧ Db.mk8 [.str q, .str q, .str q, .str q, .str q, .str q, .tuple [], .str p'] = some (Db.bookD [q, q, q, q, q, q] [] p') := by
    simp only [List.mem_cons, List.not_mem_nil, or_false] at hp
    rcases hp with rfl | rfl | rfl <;> rcases hq with rfl | rfl <;> exact ⟨_, rfl, rfl⟩
  simp (config := { failIfUnchanged := false }) only [runF, List.map_cons, List.map_nil, List.cons_append, List.nil_append, List.reduceReplicate, Nat.reduceSub, List.length_cons, List.length_nil, fSeq, fIfS, fB, fOr, fAnd, fNot, f2, fVar, DL.gt, DL.pt, asR, fK, fCons, fNil, fFn, argsOf, fRet, fRet.plainR2, plainR, fSet, fExpr, isB, isI, Ent.dat, Ent.kept, kepts, fTup, fLst, fIs, fAndV, fOrV, fNotV, fIf, fSkip, fChain, oI, oIs, isNonD, oAdd_int, isTupleD, isListD, isIntD, isBoolD, isStrD, fCall, o1, gSum, gLen, fAsg, DL.gTup, gsCons, gsNil, gN, fLc, fYes, fItL, fItT, items, Option.bind_some, Db.fIsBook, fAug, dispGo, fDisp, fDGet2, List.zip_cons_cons, List.zip_nil_right, Bool.not_true, Bool.not_false, bne_self_eq_false, Bool.bne_false, Bool.bne_true, Nat.reduceAdd, true_and, wipeE, fFor, fRng1, fEnum, fStar, fNoPart, fPart, fSl, gSl, Db.fMeth, Db.fBook, Nat.reduceLeDiff]
  rw [hb]
  simp (config := { failIfUnchanged := false }) only [runF, List.map_cons, List.map_nil, List.cons_append, List.nil_append, List.reduceReplicate, Nat.reduceSub, List.length_cons, List.length_nil, fSeq, fIfS, fB, fOr, fAnd, fNot, f2, fVar, DL.gt, DL.pt, asR, fK, fCons, fNil, fFn, argsOf, fRet, fRet.plainR2, plainR, fSet, fExpr, isB, isI, Ent.dat, Ent.kept, kepts, fTup, fLst, fIs, fAndV, fOrV, fNotV, fIf, fSkip, fChain, oI, oIs, isNonD, oAdd_int, isTupleD, isListD, isIntD, isBoolD, isStrD, fCall, o1, gSum, gLen, fAsg, DL.gTup, gsCons, gsNil, gN, fLc, fYes, fItL, fItT, items, Option.bind_some, Db.fIsBook, fAug, dispGo, fDisp, fDGet2, List.zip_cons_cons, List.zip_nil_right, Bool.not_true, Bool.not_false, bne_self_eq_false, Bool.bne_false, Bool.bne_true, Nat.reduceAdd, true_and, wipeE, fFor, fRng1, fEnum, fStar, fNoPart, fPart, fSl, gSl, Db.fMeth, Db.fBook, Nat.reduceLeDiff]
  unfold g_lap_9
  simp (config := { failIfUnchanged := false }) only [runF, List.map_cons, List.map_nil, List.cons_append, List.nil_append, List.reduceReplicate, Nat.reduceSub, List.length_cons, List.length_nil, fSeq, fIfS, fB, fOr, fAnd, fNot, f2, fVar, DL.gt, DL.pt, asR, fK, fCons, fNil, fFn, argsOf, fRet, fRet.plainR2, plainR, fSet, fExpr, isB, isI, Ent.dat, Ent.kept, kepts, fTup, fLst, fIs, fAndV, fOrV, fNotV, fIf, fSkip, fChain, oI, oIs, isNonD, oAdd_int, isTupleD, isListD, isIntD, isBoolD, isStrD, fCall, o1, gSum, gLen, fAsg, DL.gTup, gsCons, gsNil, gN, fLc, fYes, fItL, fItT, items, Option.bind_some, Db.fIsBook, fAug, dispGo, fDisp, fDGet2, List.zip_cons_cons, List.zip_nil_right, Bool.not_true, Bool.not_false, bne_self_eq_false, Bool.bne_false, Bool.bne_true, Nat.reduceAdd, true_and, wipeE, fFor, fRng1, fEnum, fStar, fNoPart, fPart, fSl, gSl, Db.fMeth, Db.fBook, Nat.reduceLeDiff]
  refine lc_mapE (val := fun _ => .tuple [.int 0, .int (3 * m)]) [.tuple [.int 0, .int (3 * m)], .tuple [.int 0, .int (3 * m)]] rfl (fun d hd Q' q' => ?_) ?_
  · simp only [List.mem_cons, List.not_mem_nil, or_false] at hd
    rcases hd with rfl | rfl
    · simp (config := { failIfUnchanged := false }) only [runF, List.map_cons, List.map_nil, List.cons_append, List.nil_append, List.reduceReplicate, Nat.reduceSub, List.length_cons, List.length_nil, fSeq, fIfS, fB, fOr, fAnd, fNot, f2, fVar, DL.gt, DL.pt, asR, fK, fCons, fNil, fFn, argsOf, fRet, fRet.plainR2, plainR, fSet, fExpr, isB, isI, Ent.dat, Ent.kept, kepts, fTup, fLst, fIs, fAndV, fOrV, fNotV, fIf, fSkip, fChain, oI, oIs, isNonD, oAdd_int, isTupleD, isListD, isIntD, isBoolD, isStrD, fCall, o1, gSum, gLen, fAsg, DL.gTup, gsCons, gsNil, gN, fLc, fYes, fItL, fItT, items, Option.bind_some, Db.fIsBook, fAug, dispGo, fDisp, fDGet2, List.zip_cons_cons, List.zip_nil_right, Bool.not_true, Bool.not_false, bne_self_eq_false, Bool.bne_false, Bool.bne_true, Nat.reduceAdd, true_and, wipeE, fFor, fRng1, fEnum, fStar, fNoPart, fPart, fSl, gSl, Db.fMeth, Db.fBook, Nat.reduceLeDiff]
      refine costs_ok (fs := []) (as := []) (ya := false) (ns := []) hy h1 h2 (bareF hq) (by rfl) (by first | rfl | decide +kernel) (by rfl) (by decide) (by rfl) ?_
      exact q'
    · simp (config := { failIfUnchanged := false }) only [runF, List.map_cons, List.map_nil, List.cons_append, List.nil_append, List.reduceReplicate, Nat.reduceSub, List.length_cons, List.length_nil, fSeq, fIfS, fB, fOr, fAnd, fNot, f2, fVar, DL.gt, DL.pt, asR, fK, fCons, fNil, fFn, argsOf, fRet, fRet.plainR2, plainR, fSet, fExpr, isB, isI, Ent.dat, Ent.kept, kepts, fTup, fLst, fIs, fAndV, fOrV, fNotV, fIf, fSkip, fChain, oI, oIs, isNonD, oAdd_int, isTupleD, isListD, isIntD, isBoolD, isStrD, fCall, o1, gSum, gLen, fAsg, DL.gTup, gsCons, gsNil, gN, fLc, fYes, fItL, fItT, items, Option.bind_some, Db.fIsBook, fAug, dispGo, fDisp, fDGet2, List.zip_cons_cons, List.zip_nil_right, Bool.not_true, Bool.not_false, bne_self_eq_false, Bool.bne_false, Bool.bne_true, Nat.reduceAdd, true_and, wipeE, fFor, fRng1, fEnum, fStar, fNoPart, fPart, fSl, gSl, Db.fMeth, Db.fBook, Nat.reduceLeDiff]
      refine costs_ok (fs := []) (as := []) (ya := false) (ns := []) hno h1 h2 (bareF hq) (by rfl) (by first | rfl | decide +kernel) (by rfl) (by decide) (by rfl) ?_
      exact q'
  · simp (config := { failIfUnchanged := false }) only [runF, List.map_cons, List.map_nil, List.cons_append, List.nil_append, List.reduceReplicate, Nat.reduceSub, List.length_cons, List.length_nil, fSeq, fIfS, fB, fOr, fAnd, fNot, f2, fVar, DL.gt, DL.pt, asR, fK, fCons, fNil, fFn, argsOf, fRet, fRet.plainR2, plainR, fSet, fExpr, isB, isI, Ent.dat, Ent.kept, kepts, fTup, fLst, fIs, fAndV, fOrV, fNotV, fIf, fSkip, fChain, oI, oIs, isNonD, oAdd_int, isTupleD, isListD, isIntD, isBoolD, isStrD, fCall, o1, gSum, gLen, fAsg, DL.gTup, gsCons, gsNil, gN, fLc, fYes, fItL, fItT, items, Option.bind_some, Db.fIsBook, fAug, dispGo, fDisp, fDGet2, List.zip_cons_cons, List.zip_nil_right, Bool.not_true, Bool.not_false, bne_self_eq_false, Bool.bne_false, Bool.bne_true, Nat.reduceAdd, true_and, wipeE, fFor, fRng1, fEnum, fStar, fNoPart, fPart, fSl, gSl, Db.fMeth, Db.fBook, Nat.reduceLeDiff]
    repeat (refine oMul_ok (by decide) (by decide) ?_; simp (config := { failIfUnchanged := false }) only [runF, List.map_cons, List.map_nil, List.cons_append, List.nil_append, List.reduceReplicate, Nat.reduceSub, List.length_cons, List.length_nil, fSeq, fIfS, fB, fOr, fAnd, fNot, f2, fVar, DL.gt, DL.pt, asR, fK, fCons, fNil, fFn, argsOf, fRet, fRet.plainR2, plainR, fSet, fExpr, isB, isI, Ent.dat, Ent.kept, kepts, fTup, fLst, fIs, fAndV, fOrV, fNotV, fIf, fSkip, fChain, oI, oIs, isNonD, oAdd_int, isTupleD, isListD, isIntD, isBoolD, isStrD, fCall, o1, gSum, gLen, fAsg, DL.gTup, gsCons, gsNil, gN, fLc, fYes, fItL, fItT, items, Option.bind_some, Db.fIsBook, fAug, dispGo, fDisp, fDGet2, List.zip_cons_cons, List.zip_nil_right, Bool.not_true, Bool.not_false, bne_self_eq_false, Bool.bne_false, Bool.bne_true, Nat.reduceAdd, true_and, wipeE, fFor, fRng1, fEnum, fStar, fNoPart, fPart, fSl, gSl, Db.fMeth, Db.fBook, Nat.reduceLeDiff])
    refine oEq_ok (b := true) rfl rfl pairs_sh pairs_sh (pairs_eq (by simp <;> omega) (by simp <;> omega) (by simp <;> omega) (by simp <;> omega)) ?_
    simp (config := { failIfUnchanged := false }) only [runF, List.map_cons, List.map_nil, List.cons_append, List.nil_append, List.reduceReplicate, Nat.reduceSub, List.length_cons, List.length_nil, fSeq, fIfS, fB, fOr, fAnd, fNot, f2, fVar, DL.gt, DL.pt, asR, fK, fCons, fNil, fFn, argsOf, fRet, fRet.plainR2, plainR, fSet, fExpr, isB, isI, Ent.dat, Ent.kept, kepts, fTup, fLst, fIs, fAndV, fOrV, fNotV, fIf, fSkip, fChain, oI, oIs, isNonD, oAdd_int, isTupleD, isListD, isIntD, isBoolD, isStrD, fCall, o1, gSum, gLen, fAsg, DL.gTup, gsCons, gsNil, gN, fLc, fYes, fItL, fItT, items, Option.bind_some, Db.fIsBook, fAug, dispGo, fDisp, fDGet2, List.zip_cons_cons, List.zip_nil_right, Bool.not_true, Bool.not_false, bne_self_eq_false, Bool.bne_false, Bool.bne_true, Nat.reduceAdd, true_and, wipeE, fFor, fRng1, fEnum, fStar, fNoPart, fPart, fSl, gSl, Db.fMeth, Db.fBook, Nat.reduceLeDiff]
    exact k _ _ _ _ _ _ _
theorem loop_ok {E : EE} {s0 : PyData} (q : ∀ s, E.nx s) : ∀ (ds : List PyData) (e2 e3 e4 e5 e6 e7 e8 e9 e10 : Option Ent) (n : Nat), n + 3 * ds.length < 999990 → forGo (gN 2) g_lap ds E ⟨[some (.ob 1 s0), some .dr, e2, e3, e4, e5, e6, e7, e8, e9, e10], n⟩
  | [], _, _, _, _, _, _, _, _, _, _, _ => q _
  | d :: ds, e2, e3, e4, e5, e6, e7, e8, e9, e10, n, hn => by
    rw [forGo]
    rw [List.length_cons] at hn
    show g_lap _ ⟨[some (.ob 1 s0), some .dr, some (.im d), e3, e4, e5, e6, e7, e8, e9, e10], n⟩
    exact lap_ok (by omega) fun f3 f4 f5 f6 f7 f8 f9 => loop_ok q ds _ _ _ _ _ _ _ _ _ _ (by omega)
theorem law_math (ns : List Int) (few : ns.length ≤ 63) : g_law Db.lawE ⟨some (.ob 1 (.list (ns.map PyData.int))) :: some .dr :: List.replicate 9 none, 0⟩ := by
  show fSeq _ _ _ ⟨[some (.ob 1 (.list (ns.map PyData.int))), some .dr, none, none, none, none, none, none, none, none, none], 0⟩
  have mn : ∀ k : Int, 0 ≤ k → k ≤ 63 → 0 ≤ (if (8 : Int) < k then (8 : Int) else k) ∧ (if (8 : Int) < k then (8 : Int) else k) ≤ 8 := fun k h1 h2 => by split <;> omega
  have e := mn (((ns.map PyData.int).length : Nat) : Int) (by omega) (by rw [List.length_map]; omega)
  show (-(2 ^ 62) ≤ (2 : Int) + (if (8 : Int) < (((ns.map PyData.int).length : Nat) : Int) then (8 : Int) else (((ns.map PyData.int).length : Nat) : Int)) ∧ _ ∧ _) ∧ _
  generalize (if (8 : Int) < (((ns.map PyData.int).length : Nat) : Int) then (8 : Int) else (((ns.map PyData.int).length : Nat) : Int)) = z at e ⊢
  refine ⟨⟨by omega, by omega, Nat.le_trans (m := 10) (by omega) (by decide)⟩, ?_⟩
  refine loop_ok (fun s => ?_) _ _ _ _ _ _ _ _ _ _ _ ?_
  · show (Ent.im (PyData.bool true)) = _
    rfl
  · unfold rngD
    rw [List.length_map, List.length_range]
    omega
end K50
namespace K50
open PySem PySem.Spec PyProof.Rows L2 Ev Er Co Ow En
abbrev iBadBook : Stmt := inClass (Draw.top 4) 0
theorem formBadBook : Form iBadBook "part" "part" := ⟨rfl, rfl, rfl, by decide +kernel, by decide +kernel, rfl, rfl, rfl, rfl, rfl, ⟨_, rfl⟩, by decide, by decide, by decide, fun _ _ _ _ _ _ _ _ _ _ => rfl, fun _ _ _ _ _ _ _ _ _ _ => rfl, ⟨_, _, _, _, _, _, _, _, _, _, _, _, _, _, rfl, by decide +kernel, rfl⟩⟩
def bookB (K : PySem.W.Frag) (C fI fW : Addr) : Bool := PySem.W.makesIn K C && (PySem.W.isFn K (.ref fI) && (PySem.W.keepIn K (.ref C) && (PySem.W.plainGet K C Str.empty && (PySem.W.hasDictIn K C && (PySem.W.plainOver K C && ((PySem.W.findIn K (.ref C) "__setattr__" == some (some (.builtin "object.__setattr__"))) &&
  (((Bk.recs ++ (["answers", "presume", "forced", "_words"] : List Str)).all fun f => PySem.W.findIn K (.ref C) f == some none) && ((PySem.W.findIn K (.ref C) "__class__" == some (some (.builtin "object.__class__"))) && ((PySem.W.mroIn K C (.type "object") == some true) &&
  (((["NoneType", "bool", "int", "str", "list", "tuple", "dict"] : List String).all fun t => PySem.W.kitOne K (.type t) (.ref C) == some false) && ((PySem.W.kitOne K (.ref C) (.ref C) == some true) && PySem.W.isFn K (.ref fW))))))))))))
theorem rpStrs {K : PySem.W.Frag} {H : Hp} (t : Addr) (ss : List Str) (s : SqT K H t (ss.map V.str)) : DL.Rp K H (.ref t) (.tuple (ss.map PyData.str)) := .tup s (Db.rpStrs ss)
theorem all_mk {P : Program} {w : World} {K : PySem.W.Frag} {h : Heap} {mg : Str → Option Value} {fa : Addr} {fCopied : Addr} {odCopied anCopied : Option Addr} {slCopied : Array (Option Value)} {ocCopied kVCopied dcCopied pmCopied cdCopied ctCopied : Value} {fBegun : Addr} {odBegun anBegun : Option Addr} {slBegun : Array (Option Value)} {ocBegun kVBegun dcBegun pmBegun cdBegun ctBegun : Value} {fMixed : Addr} {odMixed anMixed : Option Addr} {slMixed : Array (Option Value)} {ocMixed kVMixed dcMixed pmMixed cdMixed ctMixed : Value} {fTake : Addr} {odTake anTake : Option Addr} {slTake : Array (Option Value)} {ocTake kVTake dcTake pmTake cdTake ctTake : Value} {fPick : Addr} {odPick anPick : Option Addr} {slPick : Array (Option Value)} {ocPick kVPick dcPick pmPick cdPick ctPick : Value} {fIsList : Addr} {odIsList anIsList : Option Addr} {slIsList : Array (Option Value)} {ocIsList kVIsList dcIsList pmIsList cdIsList ctIsList : Value} {fUnfit : Addr} {odUnfit anUnfit : Option Addr} {slUnfit : Array (Option Value)} {ocUnfit kVUnfit dcUnfit pmUnfit cdUnfit ctUnfit : Value} {fWrong : Addr} {odWrong anWrong : Option Addr} {slWrong : Array (Option Value)} {ocWrong kVWrong dcWrong pmWrong cdWrong ctWrong : Value} {fIsNumber : Addr} {odIsNumber anIsNumber : Option Addr} {slIsNumber : Array (Option Value)} {ocIsNumber kVIsNumber dcIsNumber pmIsNumber cdIsNumber ctIsNumber : Value} {fCourse : Addr} {odCourse anCourse : Option Addr} {slCourse : Array (Option Value)} {ocCourse kVCourse dcCourse pmCourse cdCourse ctCourse : Value} {fTimes : Addr} {odTimes anTimes : Option Addr} {slTimes : Array (Option Value)} {ocTimes kVTimes dcTimes pmTimes cdTimes ctTimes : Value} {fWritings : Addr} {odWritings anWritings : Option Addr} {slWritings : Array (Option Value)} {ocWritings kVWritings dcWritings pmWritings cdWritings ctWritings : Value} {fCosts : Addr} {odCosts anCosts : Option Addr} {slCosts : Array (Option Value)} {ocCosts kVCosts dcCosts pmCosts cdCosts ctCosts : Value} {fLaw : Addr} {odLaw anLaw : Option Addr} {slLaw : Array (Option Value)} {ocLaw kVLaw dcLaw pmLaw cdLaw ctLaw : Value} {fWithForced : Addr} {odWithForced anWithForced : Option Addr} {slWithForced : Array (Option Value)} {ocWithForced kVWithForced dcWithForced pmWithForced cdWithForced ctWithForced : Value} {CBadBook : Addr} {nmBadBook qBadBook fileBadBook : Str} {NBadBook fBadBook cdBadBook ccBadBook : Addr} {bsBadBook bmBadBook subBadBook : List Value} {snBadBook : List Str} {abBadBook : Bool} {colBadBook : Option Bool} {ddBadBook odBadBook anBadBook cddBadBook cldBadBook : Option Addr} {k0BadBook k1BadBook k2BadBook k3BadBook k5BadBook : Option Value} {ocBadBook kVBadBook dcBadBook pmBadBook ctBadBook cclBadBook clBadBook : Value} {slBadBook ccsBadBook cslBadBook : Array (Option Value)} {vsBadBook : Array Value} {tfBadBook : Tok} {CBk fInit tdInit tEmpty : Addr} {odInit anInit dDef : Option Addr} {ocInit kVInit dcInit pmInit cdInit ctInit cDef : Value} {slInit slDef : Array (Option Value)} {itDef : Array Value} {mDef : Nat} {tkDef tkMost : Tok} {tRECORDS : Addr} {dRECORDS : Option Addr} {itRECORDS : Array Value} {mRECORDS : Nat} {slRECORDS : Array (Option Value)} {tWORDS : Addr} {dWORDS : Option Addr} {itWORDS : Array Value} {mWORDS : Nat} {slWORDS : Array (Option Value)} {tOUTCOMES : Addr} {dOUTCOMES : Option Addr} {itOUTCOMES : Array Value} {mOUTCOMES : Nat} {slOUTCOMES : Array (Option Value)} {tPRESUMPTIONS : Addr} {dPRESUMPTIONS : Option Addr} {itPRESUMPTIONS : Array Value} {mPRESUMPTIONS : Nat} {slPRESUMPTIONS : Array (Option Value)}
    (X : K.In h) (G : h.Ns mainGlobals mg) (hfa : mg "law" = some (.ref fa))
    (aCopied : PySem.W.nsIn K mainGlobals "copied" = some (some (.ref fCopied)))
    (lCopied : K.lookup fCopied = some ⟨ocCopied, odCopied, .func (PySem.W.fnOf "copied" "copied" (defArgs Co.sCopied) (defBody Co.sCopied) (defScope Co.sCopied) .none kVCopied dcCopied pmCopied anCopied cdCopied ctCopied), slCopied⟩)
    (cCopied : PySem.W.codeIn K cdCopied "copied" = true)
    (kCopied : PySem.W.keepIn K (.ref fCopied) = true)
    (aBegun : PySem.W.nsIn K mainGlobals "_law_begun" = some (some (.ref fBegun)))
    (lBegun : K.lookup fBegun = some ⟨ocBegun, odBegun, .func (PySem.W.fnOf "_law_begun" "_law_begun" (defArgs Draw.sBegun) (defBody Draw.sBegun) (defScope Draw.sBegun) .none kVBegun dcBegun pmBegun anBegun cdBegun ctBegun), slBegun⟩)
    (cBegun : PySem.W.codeIn K cdBegun "_law_begun" = true)
    (kBegun : PySem.W.keepIn K (.ref fBegun) = true)
    (aMixed : PySem.W.nsIn K mainGlobals "_law_mixed" = some (some (.ref fMixed)))
    (lMixed : K.lookup fMixed = some ⟨ocMixed, odMixed, .func (PySem.W.fnOf "_law_mixed" "_law_mixed" (defArgs Draw.sMixed) (defBody Draw.sMixed) (defScope Draw.sMixed) .none kVMixed dcMixed pmMixed anMixed cdMixed ctMixed), slMixed⟩)
    (cMixed : PySem.W.codeIn K cdMixed "_law_mixed" = true)
    (kMixed : PySem.W.keepIn K (.ref fMixed) = true)
    (aTake : PySem.W.nsIn K mainGlobals "_law_take" = some (some (.ref fTake)))
    (lTake : K.lookup fTake = some ⟨ocTake, odTake, .func (PySem.W.fnOf "_law_take" "_law_take" (defArgs Draw.sTake) (defBody Draw.sTake) (defScope Draw.sTake) .none kVTake dcTake pmTake anTake cdTake ctTake), slTake⟩)
    (cTake : PySem.W.codeIn K cdTake "_law_take" = true)
    (kTake : PySem.W.keepIn K (.ref fTake) = true)
    (aPick : PySem.W.nsIn K mainGlobals "_law_pick" = some (some (.ref fPick)))
    (lPick : K.lookup fPick = some ⟨ocPick, odPick, .func (PySem.W.fnOf "_law_pick" "_law_pick" (defArgs Draw.sPick) (defBody Draw.sPick) (defScope Draw.sPick) .none kVPick dcPick pmPick anPick cdPick ctPick), slPick⟩)
    (cPick : PySem.W.codeIn K cdPick "_law_pick" = true)
    (kPick : PySem.W.keepIn K (.ref fPick) = true)
    (aIsList : PySem.W.nsIn K mainGlobals "is_list" = some (some (.ref fIsList)))
    (lIsList : K.lookup fIsList = some ⟨ocIsList, odIsList, .func (PySem.W.fnOf "is_list" "is_list" (defArgs Ki.sIsList) (defBody Ki.sIsList) (defScope Ki.sIsList) .none kVIsList dcIsList pmIsList anIsList cdIsList ctIsList), slIsList⟩)
    (cIsList : PySem.W.codeIn K cdIsList "is_list" = true)
    (kIsList : PySem.W.keepIn K (.ref fIsList) = true)
    (aUnfit : PySem.W.nsIn K mainGlobals "first_unfit" = some (some (.ref fUnfit)))
    (lUnfit : K.lookup fUnfit = some ⟨ocUnfit, odUnfit, .func (PySem.W.fnOf "first_unfit" "first_unfit" (defArgs Ki.sUnfit) (defBody Ki.sUnfit) (defScope Ki.sUnfit) .none kVUnfit dcUnfit pmUnfit anUnfit cdUnfit ctUnfit), slUnfit⟩)
    (cUnfit : PySem.W.codeIn K cdUnfit "first_unfit" = true)
    (kUnfit : PySem.W.keepIn K (.ref fUnfit) = true)
    (aWrong : PySem.W.nsIn K mainGlobals "wrong_part" = some (some (.ref fWrong)))
    (lWrong : K.lookup fWrong = some ⟨ocWrong, odWrong, .func (PySem.W.fnOf "wrong_part" "wrong_part" (defArgs Bk.sWrong) (defBody Bk.sWrong) (defScope Bk.sWrong) .none kVWrong dcWrong pmWrong anWrong cdWrong ctWrong), slWrong⟩)
    (cWrong : PySem.W.codeIn K cdWrong "wrong_part" = true)
    (kWrong : PySem.W.keepIn K (.ref fWrong) = true)
    (aIsNumber : PySem.W.nsIn K mainGlobals "is_number" = some (some (.ref fIsNumber)))
    (lIsNumber : K.lookup fIsNumber = some ⟨ocIsNumber, odIsNumber, .func (PySem.W.fnOf "is_number" "is_number" (defArgs s_is_number) (defBody s_is_number) (defScope s_is_number) .none kVIsNumber dcIsNumber pmIsNumber anIsNumber cdIsNumber ctIsNumber), slIsNumber⟩)
    (cIsNumber : PySem.W.codeIn K cdIsNumber "is_number" = true)
    (kIsNumber : PySem.W.keepIn K (.ref fIsNumber) = true)
    (aCourse : PySem.W.nsIn K mainGlobals "check_course" = some (some (.ref fCourse)))
    (lCourse : K.lookup fCourse = some ⟨ocCourse, odCourse, .func (PySem.W.fnOf "check_course" "check_course" (defArgs s_check_course) (defBody s_check_course) (defScope s_check_course) .none kVCourse dcCourse pmCourse anCourse cdCourse ctCourse), slCourse⟩)
    (cCourse : PySem.W.codeIn K cdCourse "check_course" = true)
    (kCourse : PySem.W.keepIn K (.ref fCourse) = true)
    (aTimes : PySem.W.nsIn K mainGlobals "times_written" = some (some (.ref fTimes)))
    (lTimes : K.lookup fTimes = some ⟨ocTimes, odTimes, .func (PySem.W.fnOf "times_written" "times_written" (defArgs s_times_written) (defBody s_times_written) (defScope s_times_written) .none kVTimes dcTimes pmTimes anTimes cdTimes ctTimes), slTimes⟩)
    (cTimes : PySem.W.codeIn K cdTimes "times_written" = true)
    (kTimes : PySem.W.keepIn K (.ref fTimes) = true)
    (aWritings : PySem.W.nsIn K mainGlobals "forced_writings" = some (some (.ref fWritings)))
    (lWritings : K.lookup fWritings = some ⟨ocWritings, odWritings, .func (PySem.W.fnOf "forced_writings" "forced_writings" (defArgs s_forced_writings) (defBody s_forced_writings) (defScope s_forced_writings) .none kVWritings dcWritings pmWritings anWritings cdWritings ctWritings), slWritings⟩)
    (cWritings : PySem.W.codeIn K cdWritings "forced_writings" = true)
    (kWritings : PySem.W.keepIn K (.ref fWritings) = true)
    (aCosts : PySem.W.nsIn K mainGlobals "costs" = some (some (.ref fCosts)))
    (lCosts : K.lookup fCosts = some ⟨ocCosts, odCosts, .func (PySem.W.fnOf "costs" "costs" (defArgs s_costs) (defBody s_costs) (defScope s_costs) .none kVCosts dcCosts pmCosts anCosts cdCosts ctCosts), slCosts⟩)
    (cCosts : PySem.W.codeIn K cdCosts "costs" = true)
    (kCosts : PySem.W.keepIn K (.ref fCosts) = true)
    (aLaw : PySem.W.nsIn K mainGlobals "law" = some (some (.ref fLaw)))
    (lLaw : K.lookup fLaw = some ⟨ocLaw, odLaw, .func (PySem.W.fnOf "law" "law" (defArgs s_law) (defBody s_law) (defScope s_law) .none kVLaw dcLaw pmLaw anLaw cdLaw ctLaw), slLaw⟩)
    (cLaw : PySem.W.codeIn K cdLaw "law" = true)
    (kLaw : PySem.W.keepIn K (.ref fLaw) = true)
    (aBadBook : PySem.W.nsIn K mainGlobals "BadBook" = some (some (.ref CBadBook)))
    (xBadBook : K.lookup CBadBook = some (excClassObj nmBadBook qBadBook CBadBook NBadBook bsBadBook bmBadBook true snBadBook subBadBook abBadBook colBadBook ddBadBook k0BadBook k1BadBook k2BadBook k3BadBook k5BadBook "ValueError.__new__"))
    (rBadBook : PySem.HandSPX.refsVE bmBadBook = true)
    (iBadBookI : PySem.W.findIn K (.ref CBadBook) "__init__" = some (some (.ref fBadBook)))
    (lBadBook : K.lookup fBadBook = some ⟨ocBadBook, odBadBook, .func (PySem.W.fnX "__init__" "BadBook.__init__" (defArgs iBadBook) (defBody iBadBook) (defScope iBadBook) [("__class__", ccBadBook)] .none kVBadBook dcBadBook pmBadBook anBadBook (.ref cdBadBook) ctBadBook), slBadBook⟩)
    (cBadBook : PySem.W.codeIn K (.ref cdBadBook) "BadBook.__init__" = true)
    (hBadBook : K.lookup cdBadBook = some ⟨cclBadBook, cddBadBook, .fields vsBadBook, ccsBadBook⟩)
    (vBadBook : vsBadBook[2]? = some (.str fileBadBook tfBadBook))
    (mBadBook : ((P.main.file : Str) == fileBadBook) = true)
    (eBadBook : K.lookup ccBadBook = some ⟨clBadBook, cldBadBook, .cell (some (.ref CBadBook)), cslBadBook⟩)
    (oBadBook : owB K CBadBook fBadBook "part" = true)
    (ecbBadBook : ecB K CBadBook = true)
    (aBook : PySem.W.nsIn K mainGlobals "Book" = some (some (.ref CBk)))
    (iBook : PySem.W.findIn K (.ref CBk) "__init__" = some (some (.ref fInit)))
    (lInit : K.lookup fInit = some ⟨ocInit, odInit, .func (PySem.W.fnOf "__init__" "Book.__init__" (defArgs Bi.sInit) (defBody Bi.sInit) (defScope Bi.sInit) (.ref tdInit) kVInit dcInit pmInit anInit cdInit ctInit), slInit⟩)
    (cInit : PySem.W.codeIn K cdInit "Book.__init__" = true)
    (kInit : PySem.W.keepIn K (.ref fInit) = true)
    (lDef : K.lookup tdInit = some ⟨cDef, dDef, .seq itDef mDef, slDef⟩)
    (vDef : itDef.toList = [.ref tEmpty, .str "no" tkDef])
    (fWithForcedI : PySem.W.findIn K (.ref CBk) "with_forced" = some (some (.ref fWithForced)))
    (lWithForced : K.lookup fWithForced = some ⟨ocWithForced, odWithForced, .func (PySem.W.fnOf "with_forced" "Book.with_forced" (defArgs s_with_forced) (defBody s_with_forced) (defScope s_with_forced) .none kVWithForced dcWithForced pmWithForced anWithForced cdWithForced ctWithForced), slWithForced⟩)
    (cWithForced : PySem.W.codeIn K cdWithForced "Book.with_forced" = true)
    (kWithForced : PySem.W.keepIn K (.ref fWithForced) = true)
    (bBook : bookB K CBk fInit fWithForced = true)
    (gRECORDS : PySem.W.nsIn K mainGlobals "RECORDS" = some (some (.ref tRECORDS)))
    (lRECORDS : K.lookup tRECORDS = some ⟨.type "tuple", dRECORDS, .seq itRECORDS mRECORDS, slRECORDS⟩)
    (vRECORDS : Vals (Bk.recs.map V.str) itRECORDS.toList)
    (zRECORDSS : decide (itRECORDS.size ≤ sizeLine) = true)
    (gWORDS : PySem.W.nsIn K mainGlobals "WORDS" = some (some (.ref tWORDS)))
    (lWORDS : K.lookup tWORDS = some ⟨.type "tuple", dWORDS, .seq itWORDS mWORDS, slWORDS⟩)
    (vWORDS : Vals (Bk.wordsL.map V.str) itWORDS.toList)
    (zWORDSS : decide (itWORDS.size ≤ sizeLine) = true)
    (gOUTCOMES : PySem.W.nsIn K mainGlobals "OUTCOMES" = some (some (.ref tOUTCOMES)))
    (lOUTCOMES : K.lookup tOUTCOMES = some ⟨.type "tuple", dOUTCOMES, .seq itOUTCOMES mOUTCOMES, slOUTCOMES⟩)
    (vOUTCOMES : Vals (Bk.outs.map V.str) itOUTCOMES.toList)
    (zOUTCOMESS : decide (itOUTCOMES.size ≤ sizeLine) = true)
    (gPRESUMPTIONS : PySem.W.nsIn K mainGlobals "PRESUMPTIONS" = some (some (.ref tPRESUMPTIONS)))
    (lPRESUMPTIONS : K.lookup tPRESUMPTIONS = some ⟨.type "tuple", dPRESUMPTIONS, .seq itPRESUMPTIONS mPRESUMPTIONS, slPRESUMPTIONS⟩)
    (vPRESUMPTIONS : Vals (Bk.pres.map V.str) itPRESUMPTIONS.toList)
    (zPRESUMPTIONSS : decide (itPRESUMPTIONS.size ≤ sizeLine) = true)
    (gMOST : PySem.W.nsIn K mainGlobals "MOST_HOUSES" = some (some (.int 100 tkMost)))
    (zabs : PySem.W.nsIn K mainGlobals "abs" = some none)
    (zint : PySem.W.nsIn K mainGlobals "int" = some none)
    (zlen : PySem.W.nsIn K mainGlobals "len" = some none)
    (zrange : PySem.W.nsIn K mainGlobals "range" = some none)
    (zmin : PySem.W.nsIn K mainGlobals "min" = some none)
    (zisinstance : PySem.W.nsIn K mainGlobals "isinstance" = some none)
    (zlist : PySem.W.nsIn K mainGlobals "list" = some none)
    (ztuple : PySem.W.nsIn K mainGlobals "tuple" = some none)
    (zdict : PySem.W.nsIn K mainGlobals "dict" = some none)
    (zenumerate : PySem.W.nsIn K mainGlobals "enumerate" = some none)
    (zsorted : PySem.W.nsIn K mainGlobals "sorted" = some none)
    (zsum : PySem.W.nsIn K mainGlobals "sum" = some none)
    (zbool : PySem.W.nsIn K mainGlobals "bool" = some none)
    (zsuper : PySem.W.nsIn K mainGlobals "super" = some none)
    (hn : PySem.W.specialIn K (.builtin "object.__class__") "__get__" = some (some (.builtin "getset_descriptor.__get__")))
    (ht : PySem.W.takesIn K (.builtin "object.__class__") = some true)
    (hp : PySem.W.nsIn K PySem.cStatics "thirdparty.any" = some none)
    (hs : (P.main.scope.names.lookup ("super" : Str)).isSome = false)
    : ∃ fd : FuncData, (∀ (s : Shared) (u : Value), BindsTo s fd ⟨[u], []⟩ [("script", u)]) ∧ ∀ base : Heap, K.In base → base.Ns mainGlobals mg → Gd.FnG P w K mg base CX0 11 fa fd ["script"] (Db.spLaw K) := by
  have e := hfa.symm.trans (PySem.W.mg_of X G aLaw)
  cases e
  have R : Root P K := ⟨hn, ht, hp, hs⟩
  have nabs := PySem.W.mg_none_of X G zabs
  have nint := PySem.W.mg_none_of X G zint
  have nlen := PySem.W.mg_none_of X G zlen
  have nrange := PySem.W.mg_none_of X G zrange
  have nmin := PySem.W.mg_none_of X G zmin
  have nisinstance := PySem.W.mg_none_of X G zisinstance
  have nlist := PySem.W.mg_none_of X G zlist
  have ntuple := PySem.W.mg_none_of X G ztuple
  have ndict := PySem.W.mg_none_of X G zdict
  have nenumerate := PySem.W.mg_none_of X G zenumerate
  have nsorted := PySem.W.mg_none_of X G zsorted
  have nsum := PySem.W.mg_none_of X G zsum
  have nbool := PySem.W.mg_none_of X G zbool
  have nsuper := PySem.W.mg_none_of X G zsuper
  have gCopied := PySem.W.mg_of X G aCopied
  have FCopied := fun_mk (st := Co.sCopied) lCopied cCopied kCopied
  have bCopied := FCopied.binds (ps := ["value"]) fun _ _ _ _ _ _ us hl => match us, hl with | [_], _ => rfl
  have gBegun := PySem.W.mg_of X G aBegun
  have FBegun := fun_mk (st := Draw.sBegun) lBegun cBegun kBegun
  have bBegun := FBegun.binds (ps := ["script"]) fun _ _ _ _ _ _ us hl => match us, hl with | [_], _ => rfl
  have gMixed := PySem.W.mg_of X G aMixed
  have FMixed := fun_mk (st := Draw.sMixed) lMixed cMixed kMixed
  have bMixed := FMixed.binds (ps := ["draw"]) fun _ _ _ _ _ _ us hl => match us, hl with | [_], _ => rfl
  have gTake := PySem.W.mg_of X G aTake
  have FTake := fun_mk (st := Draw.sTake) lTake cTake kTake
  have bTake := FTake.binds (ps := ["draw", "size"]) fun _ _ _ _ _ _ us hl => match us, hl with | [_, _], _ => rfl
  have gPick := PySem.W.mg_of X G aPick
  have FPick := fun_mk (st := Draw.sPick) lPick cPick kPick
  have bPick := FPick.binds (ps := ["draw", "some"]) fun _ _ _ _ _ _ us hl => match us, hl with | [_, _], _ => rfl
  have gIsList := PySem.W.mg_of X G aIsList
  have FIsList := fun_mk (st := Ki.sIsList) lIsList cIsList kIsList
  have bIsList := FIsList.binds (ps := ["thing"]) fun _ _ _ _ _ _ us hl => match us, hl with | [_], _ => rfl
  have gUnfit := PySem.W.mg_of X G aUnfit
  have FUnfit := fun_mk (st := Ki.sUnfit) lUnfit cUnfit kUnfit
  have bUnfit := FUnfit.binds (ps := ["items", "choices"]) fun _ _ _ _ _ _ us hl => match us, hl with | [_, _], _ => rfl
  have gWrong := PySem.W.mg_of X G aWrong
  have FWrong := fun_mk (st := Bk.sWrong) lWrong cWrong kWrong
  have bWrong := FWrong.binds (ps := ["words", "answers", "presume"]) fun _ _ _ _ _ _ us hl => match us, hl with | [_, _, _], _ => rfl
  have gIsNumber := PySem.W.mg_of X G aIsNumber
  have FIsNumber := fun_mk (st := s_is_number) lIsNumber cIsNumber kIsNumber
  have bIsNumber := FIsNumber.binds (ps := ["thing", "low", "high"]) fun _ _ _ _ _ _ us hl => match us, hl with | [_, _, _], _ => rfl
  have gCourse := PySem.W.mg_of X G aCourse
  have FCourse := fun_mk (st := s_check_course) lCourse cCourse kCourse
  have bCourse := FCourse.binds (ps := ["outcome", "houses"]) fun _ _ _ _ _ _ us hl => match us, hl with | [_, _], _ => rfl
  have gTimes := PySem.W.mg_of X G aTimes
  have FTimes := fun_mk (st := s_times_written) lTimes cTimes kTimes
  have bTimes := FTimes.binds (ps := ["outcome", "houses"]) fun _ _ _ _ _ _ us hl => match us, hl with | [_, _], _ => rfl
  have gWritings := PySem.W.mg_of X G aWritings
  have FWritings := fun_mk (st := s_forced_writings) lWritings cWritings kWritings
  have bWritings := FWritings.binds (ps := ["lot", "outcome", "houses"]) fun _ _ _ _ _ _ us hl => match us, hl with | [_, _, _], _ => rfl
  have gCosts := PySem.W.mg_of X G aCosts
  have FCosts := fun_mk (st := s_costs) lCosts cCosts kCosts
  have bCosts := FCosts.binds (ps := ["book", "outcome", "houses"]) fun _ _ _ _ _ _ us hl => match us, hl with | [_, _, _], _ => rfl
  have FLaw := fun_mk (st := s_law) lLaw cLaw kLaw
  have FWithForced := fun_mk (st := s_with_forced) lWithForced cWithForced kWithForced
  have bWithForced := FWithForced.binds (ps := ["self", "lot", "rest"]) fun _ _ _ _ _ _ us hl => match us, hl with | [_, _, _], _ => rfl
  have sRECORDS : ∀ H : Hp, SqT K H tRECORDS (Bk.recs.map V.str) := fun H => .inr ⟨_, itRECORDS, mRECORDS, lRECORDS, rfl, rfl, of_decide_eq_true zRECORDSS, vRECORDS⟩
  have sWORDS : ∀ H : Hp, SqT K H tWORDS (Bk.wordsL.map V.str) := fun H => .inr ⟨_, itWORDS, mWORDS, lWORDS, rfl, rfl, of_decide_eq_true zWORDSS, vWORDS⟩
  have sOUTCOMES : ∀ H : Hp, SqT K H tOUTCOMES (Bk.outs.map V.str) := fun H => .inr ⟨_, itOUTCOMES, mOUTCOMES, lOUTCOMES, rfl, rfl, of_decide_eq_true zOUTCOMESS, vOUTCOMES⟩
  have sPRESUMPTIONS : ∀ H : Hp, SqT K H tPRESUMPTIONS (Bk.pres.map V.str) := fun H => .inr ⟨_, itPRESUMPTIONS, mPRESUMPTIONS, lPRESUMPTIONS, rfl, rfl, of_decide_eq_true zPRESUMPTIONSS, vPRESUMPTIONS⟩
  have N : Bk.Tups K mg tRECORDS tWORDS tOUTCOMES tPRESUMPTIONS := ⟨PySem.W.mg_of X G gRECORDS, PySem.W.mg_of X G gWORDS, PySem.W.mg_of X G gOUTCOMES, PySem.W.mg_of X G gPRESUMPTIONS, sRECORDS, sWORDS, sOUTCOMES, sPRESUMPTIONS⟩
  have C0 : Consts K mg := ⟨⟨.ref tRECORDS, _, N.gR, rfl, fun H => rpStrs _ Bk.recs (N.sR H)⟩, ⟨.ref tOUTCOMES, _, N.gO, rfl, fun H => rpStrs _ Bk.outs (N.sO H)⟩, ⟨.int 100, _, PySem.W.mg_of X G gMOST, ⟨_, rfl⟩, fun H => .int 100⟩⟩
  obtain ⟨q1, q⟩ := and2 bBook
  obtain ⟨q2, q⟩ := and2 q
  obtain ⟨q3, q⟩ := and2 q
  obtain ⟨q4, q⟩ := and2 q
  obtain ⟨q5, q⟩ := and2 q
  obtain ⟨q6, q⟩ := and2 q
  obtain ⟨q7, q⟩ := and2 q
  obtain ⟨q8, q⟩ := and2 q
  obtain ⟨q9, q⟩ := and2 q
  obtain ⟨q10, q⟩ := and2 q
  obtain ⟨q11, q⟩ := and2 q
  obtain ⟨q12, q⟩ := and2 q
  have cl : Bi.Cl K CBk := ⟨⟨q4, q5, q6, beq_iff_eq.mp q7⟩, fun f m => beq_iff_eq.mp (List.all_eq_true.mp q8 f m)⟩
  have isa : Be.Isa K CBk := ⟨beq_iff_eq.mp q9, hn, ht, beq_iff_eq.mp q10⟩
  have M : Mk K CBk fInit := ⟨q1, iBook, q2, q3⟩
  have FI : L2.FunD K "__init__" "Book.__init__" (defArgs Bi.sInit) (defBody Bi.sInit) (defScope Bi.sInit) [.ref tEmpty, .str "no"] [] fInit (PySem.W.fnOf "__init__" "Book.__init__" (defArgs Bi.sInit) (defBody Bi.sInit) (defScope Bi.sInit) (.ref tdInit) kVInit dcInit pmInit anInit cdInit ctInit) := ⟨⟨ocInit, odInit, .ref tdInit, kVInit, dcInit, pmInit, anInit, cdInit, ctInit, slInit, rfl, lInit, cInit, .inr ⟨by simp, tdInit, _, [.ref tEmpty, .str "no" tkDef], mDef, rfl, lDef, by rw [← vDef], .cons rfl (.cons ⟨_, rfl⟩ .nil)⟩, .inl rfl⟩, kInit⟩
  have bI : Binds K (PySem.W.fnOf "__init__" "Book.__init__" (defArgs Bi.sInit) (defBody Bi.sInit) (defScope Bi.sInit) (.ref tdInit) kVInit dcInit pmInit anInit cdInit ctInit) Bi.pInit [] := by
    obtain ⟨ds, r, b⟩ := FI.binds1 (ps := Bi.pInit) 9 2 (by simp) rfl fun _ _ _ _ _ _ _ us its l1 l2 => match us, its, l1, l2 with
      | [_, _, _, _, _, _, _, _, _], [_, _], _, _ => ⟨_, rfl, rfl⟩
    cases r
    exact b
  have B0 : ∀ x ∈ bltNames, mg x = none := by
    intro x hx
    simp only [bltNames, List.mem_cons, List.not_mem_nil, or_false] at hx
    rcases hx with rfl | rfl | rfl | rfl | rfl | rfl | rfl | rfl | rfl | rfl
    · exact nlen
    · exact nrange
    · exact nmin
    · exact nisinstance
    · exact nlist
    · exact ntuple
    · exact nint
    · exact nbool
    · exact nenumerate
    · exact nsum
  refine ⟨PySem.W.fnOf "law" "law" (defArgs s_law) (defBody s_law) (defScope s_law) .none kVLaw dcLaw pmLaw anLaw cdLaw ctLaw, fun s v => .of_eq rfl, fun base _ _ => Gd.ofOk ?_⟩
  have GC := fun n => ok_copied (P := P) (w := w) (base := base) FCopied ⟨nisinstance, nlist, ntuple, ndict⟩ gCopied bCopied n
  have EBadBook : OwnE P w K mg base 3 5 "BadBook" "part" "part" CBadBook := own R formBadBook ecbBadBook oBadBook xBadBook rBadBook iBadBookI lBadBook cBadBook hBadBook vBadBook mBadBook eBadBook (PySem.W.mg_of X G aBadBook) nsuper (GC 3) gCopied kCopied bCopied
  have BK : Ki.Bare mg := ⟨nisinstance, nlist, ntuple, nenumerate⟩
  have GW := Bk.ok_wrong (P := P) (w := w) (base := base) FWrong N (Ki.ok_isList FIsList BK) gIsList kIsList bIsList (Ki.ok_unfit FUnfit BK) gUnfit kUnfit bUnfit
  have GI := Bi.ok_book (P := P) (w := w) (base := base) FI N cl ⟨ntuple, nsorted⟩ GW gWrong kWrong bWrong EBadBook
  have BX : Db.BookX P w K mg base CBk := ⟨PySem.W.mg_of X G aBook, cl, isa, fun t m => beq_iff_eq.mp (List.all_eq_true.mp q11 t m), beq_iff_eq.mp q12, ⟨CBadBook, fInit, _, GI, M, bI⟩⟩
  have B : Draw.Bare mg := ⟨nabs, nint, nlen, nrange, nmin⟩
  have GT := Draw.ok_take (P := P) (w := w) (base := base) FTake B FMixed gMixed bMixed
  have GP := Draw.ok_pickW (P := P) (w := w) (base := base) FPick B GT gTake kTake bTake
  have D1 := ok_is_number (P := P) (w := w) (base := base) (CB := CBk) ⟨_, _, FIsNumber, gIsNumber, bIsNumber⟩ B0 C0
  have D2 := ok_is_list (P := P) (w := w) (base := base) (CB := CBk) ⟨_, _, FIsList, gIsList, bIsList⟩ B0 C0
  have D3 := ok_first_unfit (P := P) (w := w) (base := base) (CB := CBk) ⟨_, _, FUnfit, gUnfit, bUnfit⟩ B0 C0
  have D4 := ok_check_course (P := P) (w := w) (base := base) (CB := CBk) ⟨_, _, FCourse, gCourse, bCourse⟩ B0 C0 D1
  have D5 := ok_times_written (P := P) (w := w) (base := base) (CB := CBk) ⟨_, _, FTimes, gTimes, bTimes⟩ B0 C0
  have D6 := ok_forced_writings (P := P) (w := w) (base := base) (CB := CBk) ⟨_, _, FWritings, gWritings, bWritings⟩ B0 C0 D5
  have D7 := ok_costs (P := P) (w := w) (base := base) (CB := CBk) ⟨_, _, FCosts, gCosts, bCosts⟩ B0 C0 BX D4 D6
  have D8 := ok_with_forced (P := P) (w := w) (base := base) (CB := CBk) FWithForced ⟨fWithForcedI, q, kWithForced⟩ bWithForced B0 C0 BX D2 D3
  exact ok_law FLaw (Draw.ok_begun FBegun B) gBegun kBegun bBegun B0 BX D8 D7 (Db.ok_take GT gTake kTake bTake) (Db.ok_pick GP gPick kPick bPick) law_math
end K50
open PySem PySem.W PyProof.Rows in
set_option maxRecDepth 100000 in
set_option maxHeartbeats 0 in
theorem PySem.Challenge.cw_presumebooks_k50_known_costs_holds : PySem.Challenge.rw_presumebooks_k50_known_costs.Holds := by
  w_on; o_law; k_head; (case hw => w_witness2)
  k_fill
  refine Gd.walkG (l := PySem.Challenge.rw_presumebooks_k50_known_costs) (n := 63) (k := 11) (sp := Db.spLaw) (x := "script") rfl (by decide) rfl ⟨rfl, by decide, by decide⟩ (fun w h Y => PySem.W.kIn_of Y) ?F (fun K H a ns hl sq => ⟨a, ns, rfl, sq, hl, fun _ => rfl⟩)
  case F =>
    intro w mg fa h KX G hmg
    refine' K50.all_mk (P := PySem.Challenge.rw_presumebooks_k50_known_costs.prog) KX G hmg ?aCopied ?lCopied ?cCopied ?kCopied ?aBegun ?lBegun ?cBegun ?kBegun ?aMixed ?lMixed ?cMixed ?kMixed ?aTake ?lTake ?cTake ?kTake ?aPick ?lPick ?cPick ?kPick ?aIsList ?lIsList ?cIsList ?kIsList ?aUnfit ?lUnfit ?cUnfit ?kUnfit ?aWrong ?lWrong ?cWrong ?kWrong ?aIsNumber ?lIsNumber ?cIsNumber ?kIsNumber ?aCourse ?lCourse ?cCourse ?kCourse ?aTimes ?lTimes ?cTimes ?kTimes ?aWritings ?lWritings ?cWritings ?kWritings ?aCosts ?lCosts ?cCosts ?kCosts ?aLaw ?lLaw ?cLaw ?kLaw ?aBadBook ?xBadBook ?rBadBook ?iBadBookI ?lBadBook ?cBadBook ?hBadBook ?vBadBook ?mBadBook ?eBadBook ?oBadBook ?ecbBadBook ?aBook ?iBook ?lInit ?cInit ?kInit ?lDef ?vDef ?fWithForcedI ?lWithForced ?cWithForced ?kWithForced ?bBook ?gRECORDS ?lRECORDS ?vRECORDS ?zRECORDSS ?gWORDS ?lWORDS ?vWORDS ?zWORDSS ?gOUTCOMES ?lOUTCOMES ?vOUTCOMES ?zOUTCOMESS ?gPRESUMPTIONS ?lPRESUMPTIONS ?vPRESUMPTIONS ?zPRESUMPTIONSS ?gMOST ?zabs ?zint ?zlen ?zrange ?zmin ?zisinstance ?zlist ?ztuple ?zdict ?zenumerate ?zsorted ?zsum ?zbool ?zsuper ?hn ?ht ?hp ?hs
    (case aCopied => k_is)
    (case lCopied => k_is)
    (case cCopied => k_is)
    (case kCopied => k_is)
    (case aBegun => k_is)
    (case lBegun => k_is)
    (case cBegun => k_is)
    (case kBegun => k_is)
    (case aMixed => k_is)
    (case lMixed => k_is)
    (case cMixed => k_is)
    (case kMixed => k_is)
    (case aTake => k_is)
    (case lTake => k_is)
    (case cTake => k_is)
    (case kTake => k_is)
    (case aPick => k_is)
    (case lPick => k_is)
    (case cPick => k_is)
    (case kPick => k_is)
    (case aIsList => k_is)
    (case lIsList => k_is)
    (case cIsList => k_is)
    (case kIsList => k_is)
    (case aUnfit => k_is)
    (case lUnfit => k_is)
    (case cUnfit => k_is)
    (case kUnfit => k_is)
    (case aWrong => k_is)
    (case lWrong => k_is)
    (case cWrong => k_is)
    (case kWrong => k_is)
    (case aIsNumber => k_is)
    (case lIsNumber => k_is)
    (case cIsNumber => k_is)
    (case kIsNumber => k_is)
    (case aCourse => k_is)
    (case lCourse => k_is)
    (case cCourse => k_is)
    (case kCourse => k_is)
    (case aTimes => k_is)
    (case lTimes => k_is)
    (case cTimes => k_is)
    (case kTimes => k_is)
    (case aWritings => k_is)
    (case lWritings => k_is)
    (case cWritings => k_is)
    (case kWritings => k_is)
    (case aCosts => k_is)
    (case lCosts => k_is)
    (case cCosts => k_is)
    (case kCosts => k_is)
    (case aLaw => k_is)
    (case lLaw => k_is)
    (case cLaw => k_is)
    (case kLaw => k_is)
    (case aBadBook => k_is)
    (case xBadBook => k_is)
    (case rBadBook => kernel_rfl!)
    (case iBadBookI => k_is)
    (case lBadBook => k_is)
    (case cBadBook => k_is)
    (case hBadBook => k_is)
    (case vBadBook => exact rfl)
    (case mBadBook => kernel_rfl!)
    (case eBadBook => k_is)
    (case oBadBook => kernel_rfl!)
    (case ecbBadBook => kernel_rfl!)
    (case aBook => k_is)
    (case iBook => k_is)
    (case lInit => k_is)
    (case cInit => k_is)
    (case kInit => k_is)
    (case lDef => k_is)
    (case vDef => exact rfl)
    (case fWithForcedI => k_is)
    (case lWithForced => k_is)
    (case cWithForced => k_is)
    (case kWithForced => k_is)
    (case bBook => kernel_rfl!)
    (case gRECORDS => k_is)
    (case lRECORDS => k_is)
    (case vRECORDS => exact .cons ⟨_, rfl⟩ (.cons ⟨_, rfl⟩ (.cons ⟨_, rfl⟩ (.cons ⟨_, rfl⟩ (.cons ⟨_, rfl⟩ (.cons ⟨_, rfl⟩ .nil))))))
    (case zRECORDSS => kernel_rfl!)
    (case gWORDS => k_is)
    (case lWORDS => k_is)
    (case vWORDS => exact .cons ⟨_, rfl⟩ (.cons ⟨_, rfl⟩ (.cons ⟨_, rfl⟩ .nil)))
    (case zWORDSS => kernel_rfl!)
    (case gOUTCOMES => k_is)
    (case lOUTCOMES => k_is)
    (case vOUTCOMES => exact .cons ⟨_, rfl⟩ (.cons ⟨_, rfl⟩ .nil))
    (case zOUTCOMESS => kernel_rfl!)
    (case gPRESUMPTIONS => k_is)
    (case lPRESUMPTIONS => k_is)
    (case vPRESUMPTIONS => exact .cons ⟨_, rfl⟩ (.cons ⟨_, rfl⟩ (.cons ⟨_, rfl⟩ .nil)))
    (case zPRESUMPTIONSS => kernel_rfl!)
    (case gMOST => k_is)
    (case zabs => k_is)
    (case zint => k_is)
    (case zlen => k_is)
    (case zrange => k_is)
    (case zmin => k_is)
    (case zisinstance => k_is)
    (case zlist => k_is)
    (case ztuple => k_is)
    (case zdict => k_is)
    (case zenumerate => k_is)
    (case zsorted => k_is)
    (case zsum => k_is)
    (case zbool => k_is)
    (case zsuper => k_is)
    (case hn => k_is)
    (case ht => k_is)
    (case hp => k_is)
    (case hs => kernel_rfl!)
