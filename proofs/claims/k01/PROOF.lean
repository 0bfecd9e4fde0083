import PyProof.Rows.All
import Wide.All
import OpenK.AllK
import Wide.FinOn
import HandS.TupMul
import HandS.TupAny
import HandS.ForMost
import HandS.Walk
import KE.GoesMore
import HandS.Deep
import HandS.Zip
import HandS.Defaults
import HandS.IsInst
import HandS.Conv
import HandS.Keys
import HandS.More
import HandS.Style
import HandS.SetFor
import HandS.Strs
import HandS.Codes
import HandS.HeadEnd
import HandS.HeadHook1
import HandS.HeadHook2
import HandS.HeadHook3
import HandS.HeadHook4
import KE.KStateDown
import HandS.Head0
import HandS.Head1
import HandS.Head2
import PySem.Challenge.RW_merelylate_k01_whole_mills
/-! ## MPT -/
set_option Elab.async false
set_option linter.all false
set_option autoImplicit false
set_option maxRecDepth 100000
set_option maxHeartbeats 4000000
/-! MPT: a tuple times any int. -/
namespace MP
open PySem PySem.Spec PyProof.Rows L2
theorem tmul_self (l : Addr) (items : Array Value) (n : Nat) (dd : Option Addr) (sl : Array (Option Value)) (x : Int) (u : Tok) (c0 : (decide (x < -(2 ^ 63)) || decide (x ≥ 2 ^ 63)) = false) (c1 : (items.isEmpty || x == 1) = true) :
    Meets (Builtin.«tuple.__mul__» ⟨[.ref l, .int x u], []⟩) (fun _ R s => s.heap.get? l = some { cls := .type "tuple", dict := dd, data := .seq items n, slots := sl } ∧ R (.ok (.ret (Value.ref l))) s) :=
  .of_wp fun prog w A R s h => by
    obtain ⟨hp, g, d, tk, os⟩ := s
    obtain ⟨hl, h⟩ := h
    have f1 := AutoSeq1.idx_int
    wp_walk using wpAny_loadPart' hl
    repeat (first
      | (refine wpAny_ite_false (decide_eq_false (by rw [c0]; exact Bool.false_ne_true)) ?_; wp_walk using wpAny_loadPart' hl)
      | (refine wpAny_ite_true (decide_eq_true c1) ?_; wp_walk using wpAny_loadPart' hl))
    exact ⟨_, rfl, h⟩
theorem tmul_none (l : Addr) (items : Array Value) (n : Nat) (dd : Option Addr) (sl : Array (Option Value)) (x : Int) (u : Tok) (c0 : (decide (x < -(2 ^ 63)) || decide (x ≥ 2 ^ 63)) = false) (c1 : (items.isEmpty || x == 1) = false) (c2 : (decide (x ≤ 0) || items.isEmpty) = true) :
    Meets (Builtin.«tuple.__mul__» ⟨[.ref l, .int x u], []⟩) (fun _ R s => s.heap.get? l = some { cls := .type "tuple", dict := dd, data := .seq items n, slots := sl } ∧
      R (.ok (.ret (Value.ref s.heap.objs.size))) { s with heap := s.heap.push { cls := Value.type "tuple", data := Data.seq #[] }, toks := s.toks }) :=
  .of_wp fun prog w A R s h => by
    obtain ⟨hp, g, d, tk, os⟩ := s
    obtain ⟨hl, h⟩ := h
    have f1 := AutoSeq1.idx_int
    wp_walk using wpAny_loadPart' hl
    repeat (first
      | (refine wpAny_ite_false (decide_eq_false (by rw [c0]; exact Bool.false_ne_true)) ?_; wp_walk using wpAny_loadPart' hl)
      | (refine wpAny_ite_false (decide_eq_false (by rw [c1]; exact Bool.false_ne_true)) ?_; wp_walk using wpAny_loadPart' hl)
      | (refine wpAny_ite_true (decide_eq_true c2) ?_; wp_walk using wpAny_loadPart' hl))
    exact ⟨_, rfl, h⟩
def rRepA (K : PySem.W.Frag) : R2 := fun x y H Q => ∃ l k xs, x = .ref l ∧ y = .int k ∧ SqT K H l xs ∧ -1000 ≤ k ∧ k ≤ 1000 ∧ xs.length ≤ 1000 ∧
  (xs = [] ∨ k = 1 → Q (.ref l) H) ∧ (xs ≠ [] → k ≤ 0 → ∀ p, H p = none → Q (.ref p) (upd H p (.tup []))) ∧ (xs ≠ [] → 2 ≤ k → ∀ p, H p = none → Q (.ref p) (upd H p (.tup (List.replicate k.toNat xs).flatten)))
section
variable {prog : Program} {w : World} {A : Around} {E : Value → Shared → Prop}
/-- t * k where the tuple's own method is asked and says what it says -/
theorem tmul_enter {q : Shared} {a : Addr} {its : Array Value} {m : Nat} {od : Option Addr} {osl : Array (Option Value)} {j : Int} {tj : Tok} {G : Value → Shared → Prop}
    {W : (Result → Shared → Prop) → Shared → Prop} (at_ : q.heap.get? a = some { cls := .type "tuple", dict := od, data := .seq its m, slots := osl })
    (M : Meets (Builtin.«tuple.__mul__» ⟨[.ref a, .int j tj], []⟩) (fun _ T s => s.heap.get? a = some { cls := .type "tuple", dict := od, data := .seq its m, slots := osl } ∧ W T s))
    (done : ∀ T : Result → Shared → Prop, (∀ u s, G u s → T (.ok (.ret u)) s) → W T q) : wpAny (model prog w) A (binaryOp .Mult (.ref a) (.int j tj)) G E q := by
  have ty : q.TypeIs (.ref a) "tuple" := ⟨_, at_, rfl⟩
  have inner := call_meets (prog := prog) (w := w) (A := A) (E := E) (Q := G) F.slot_tuple_mul ty F.entry_tuple_mul (F.args_tuple_mul_2 _ _) M ⟨at_, done _ fun u s g => g⟩
  exact wpAny_binaryOp_repeat_ref (T := "tuple") (U := "int") (by decide) ty (typeIs_int · j tj) noFill_tuple_mul F.fills_int_mul F.slot_int_rmul repeat_tuple F.slot_int_index.lookup
    (call_meets F.slot_int_rmul (typeIs_int q j tj) F.entry_int_rmul (F.args_int_rmul_2 _ _) (int_rmul_tuple j tj a its m od osl) ⟨at_, rfl, ty, inner⟩)
end
section
variable {X : Cx}
theorem op_repA : OpR X (binaryOp .Mult) (rRepA X.K) := by
  intro pins s σ H x y v u Q I rx ry h
  obtain ⟨l, k, xs, rfl, rfl, hT, h0, h1, hz, q0, q1, q2⟩ := h
  by_cases hbig : xs ≠ [] ∧ 2 ≤ k
  · exact op_repT pins s σ H _ _ v u Q I rx ry ⟨l, k, xs, rfl, rfl, hT, hbig.1, hbig.2, h1, hz, q2 hbig.1 hbig.2⟩
  cases rx
  obtain ⟨t, rfl⟩ := ry
  obtain ⟨its, r, ⟨⟨cls, dd, data, sl⟩, ho, hc, n, hd⟩, hs⟩ := I.tuple hT
  simp only at hc hd
  subst hc hd
  have hle : its.length = xs.length := r.length.symm
  have c0 : (decide (k < -(2 ^ 63)) || decide (k ≥ 2 ^ 63)) = false := by
    rw [decide_eq_false (by omega), decide_eq_false (by omega)] <;> rfl
  by_cases hself : xs = [] ∨ k = 1
  · have c1 : (its.toArray.isEmpty || k == 1) = true := by
      rcases hself with e | e
      · have : its = [] := List.eq_nil_of_length_eq_zero (by rw [hle, e]; rfl)
        subst this
        rfl
      · subst e
        simp
    exact tmul_enter ho (tmul_self l its.toArray n dd sl k t c0 c1) fun T hT2 => hT2 _ _ ⟨.ref l, H, I, rfl, q0 hself⟩
  · have hx : xs ≠ [] := fun e => hself (.inl e)
    have hk : k ≤ 0 := by
      have : ¬ 2 ≤ k := fun z => hbig ⟨hx, z⟩
      have : k ≠ 1 := fun z => hself (.inr z)
      omega
    have hi : its.toArray.isEmpty = false := by
      cases its with
      | nil => exact absurd (List.eq_nil_of_length_eq_zero (by rw [← hle]; rfl)) hx
      | cons a b => rfl
    have c1 : (its.toArray.isEmpty || k == 1) = false := by
      rw [hi, Bool.false_or]
      exact beq_eq_false_iff_ne.mpr (by omega)
    have c2 : (decide (k ≤ 0) || its.toArray.isEmpty) = true := by
      rw [decide_eq_true hk]
      rfl
    refine tmul_enter ho (tmul_none l its.toArray n dd sl k t c0 c1 c2) fun T hT2 => hT2 _ _ ?_
    refine ⟨.ref s.heap.objs.size, _, I.laid (t' := s.toks) (o := .tup []) (fun b ob q => Heap.get?_push_of_some _ q) (Nat.le_refl _) ?_, rfl, q1 hx hk _ (I.hok.fresh (Nat.le_refl _))⟩
    exact ⟨Nat.zero_le _, [], .nil, IsTup.new _ #[]⟩
end
end MP
/-! ## MPE -/
set_option Elab.async false
set_option linter.all false
set_option autoImplicit false
set_option maxRecDepth 100000
set_option maxHeartbeats 2000000
/-! MPE: enumerate over a tuple. -/
namespace MP
open PySem PySem.Spec PyProof.Rows L2
open AutoSeq1 (wpAny_loadPart')
def tupIterO (a : Addr) : Obj := { cls := .type "tuple_iterator", data := .fields #[.ref a, .int 0 0] }
def enumO (it : Addr) : Obj := { cls := .type "enumerate", data := .fields #[.none, .bool false, .ref it, rawInt 0, .none, .none] }
theorem enum_newT (a : Addr) (its : Array Value) (m : Nat) (od : Option Addr) (osl : Array (Option Value)) :
    Meets (Builtin.«enumerate.__new__» ⟨[.type "enumerate", .ref a], []⟩) (fun _ T s => s.heap.get? a = some { cls := .type "tuple", dict := od, data := .seq its m, slots := osl } ∧
      T (.ok (.ret (.ref (s.heap.push (tupIterO a)).objs.size))) { s with heap := (s.heap.push (tupIterO a)).push (enumO s.heap.objs.size) }) :=
  .of_wp fun prog w A T s want => by
    obtain ⟨hp, g, d, tk, os⟩ := s; obtain ⟨here, want⟩ := want
    have hsub := sub_enumerate
    have tup : Heap.IsTuple (Shared.heap ⟨hp, g, d, tk, os⟩) a its := ⟨_, here, rfl, m, rfl⟩
    wp_walk using wpAny_loadPart' here
    refine wpAny_stack_any fun st => wpAny_pure ?_
    split
    · rename_i c _ _ _ _ _
      cases (c == Value.type "enumerate") <;> (wp_walk using wpAny_loadPart' here, wpAny_pyIter_tuple tup) <;> exact ⟨_, rfl, want⟩
    · wp_walk using wpAny_loadPart' here, wpAny_pyIter_tuple tup
      exact ⟨_, rfl, want⟩
section
variable {prog : Program} {w : World} {A : Around} {E : Value → Shared → Prop} {s : Shared}
theorem call_enumT {a : Addr} {its : Array Value} {G : Value → Shared → Prop} (tup : s.heap.IsTuple a its)
    (h : ∀ h2, IsEnum h2 (s.heap.objs.size + 1) s.heap.objs.size 0 .none → h2.IsTupleIter s.heap.objs.size a 0 → (∀ b o, s.heap.get? b = some o → h2.get? b = some o) → G (.ref (s.heap.objs.size + 1)) { s with heap := h2 }) :
    wpAny (model prog w) A (call (.type "enumerate") [.ref a]) G E s := by
  obtain ⟨⟨cls, od, data, osl⟩, here, hc, m, hd⟩ := tup
  simp only at hc hd
  subst hc hd
  have sz : (s.heap.push (tupIterO a)).objs.size = s.heap.objs.size + 1 := Heap.size_push ..
  have en : IsEnum ((s.heap.push (tupIterO a)).push (enumO s.heap.objs.size)) (s.heap.objs.size + 1) s.heap.objs.size 0 .none := by
    rw [← sz]
    exact Heap.get?_push_size _ rfl
  refine callType_new F.called_enumerate (by decide) (F.typeCall_enumerate_1 _) (F.newCall_enumerate_1 _) (fun o => F.args_object_init_2 o _) F.entry_enumerate_new (enum_newT a its m od osl) ⟨here, ?_⟩
  show _ ∧ _
  rw [sz]
  exact ⟨⟨_, en, rfl⟩, h _ en ⟨_, Heap.get?_push_of_some _ (Heap.get?_push_size _ rfl), rfl, rfl⟩ fun b o q => Heap.get?_push_of_some _ (Heap.get?_push_of_some _ q)⟩
end
/-- the tuple at a, each item in a new pair behind its number -/
def IteT (K : PySem.W.Frag) (a : Addr) : It where
  go := fun i H => ∃ (xs : List V) (x : V), SqT K H a xs ∧ xs[i]? = some x
  yld := fun i H v H' => ∃ T x, v = .ref T ∧ H T = none ∧ H' = upd H T (.tup [.int (i : Nat), x]) ∧ ∀ xs, SqT K H a xs → xs[i]? = some x
  stop := fun i H => ∃ xs : List V, SqT K H a xs ∧ xs.length = i
theorem turn_enumT {P : Program} {w : World} {K : PySem.W.Frag} {elts : List Expr} {kk : Nat} {tpos : Pos} (a e it : Addr) :
    Turn P w K (.Tuple elts kk tpos) (IteT K a) [e, it] e (fun i h => (∃ old, IsEnum h e it ((i : Nat) : Int) old) ∧ h.IsTupleIter it a i ∧ e ≠ it ∧ e ≠ a ∧ a ≠ it) where
  mem := by simp
  obj := fun i h st b hb => by
    obtain ⟨⟨old, he⟩, ⟨o, ho, hc, hd⟩, _⟩ := st
    rcases List.mem_cons.mp hb with z | z
    · rw [z]; exact ⟨_, he, fun v q => nomatch q⟩
    · rw [List.mem_singleton.mp z]; exact ⟨o, ho, fun v q => by rw [hd] at q; cases q⟩
  keep := fun i h h' st k => by
    obtain ⟨⟨old, he⟩, hi, hne⟩ := st
    exact ⟨⟨old, k e (by simp) _ he⟩, hi.at fun o q => k it (by simp) o q, hne⟩
  item := by
    intro X hP hw hK hc i pins s σ H E I hf st hg
    subst hP hw hK
    obtain ⟨⟨old, he⟩, hit, hne, hea, hai⟩ := st
    obtain ⟨xs, x, hq, hx⟩ := hg
    obtain ⟨its, rv, tp, _⟩ := I.tuple hq
    obtain ⟨u, hu, ru⟩ := rv.get hx
    have lt : i < its.toArray.size := by
      have := (List.getElem?_eq_some_iff.mp hu).1
      simpa using this
    have hel : e < s.heap.objs.size := Heap.lt_size he
    have hil : it < s.heap.objs.size := by obtain ⟨_, q, _⟩ := hit; exact Heap.lt_size q
    have dr := Draws.tuple (prog := X.prog) (w := X.w) (A := X.A.in1) (I.ok.hd hc) it a hai its.toArray
    refine wpAny_pyNext_enum_itemD dr he ⟨hit, tp⟩ lt hne (by simp [hne, hea]) fun y g tk hy ho hst hT _ hk => ?_
    have ey : y = u := by
      have : its[i]? = some y := by simpa using hy
      rw [hu] at this
      exact (Option.some.inj this).symm
    subst ey
    refine ⟨_, rfl, wpAny_letOwnedTupleGo_enum (s := { s with heap := g, toks := tk + 1 }) ho fun g2 he2 sb => ?_⟩
    have hT2 : g2.get? s.heap.objs.size = some { cls := .type "tuple", data := .seq #[.int i tk, y] } := (sb.2 _ (Nat.ne_of_gt hel)).trans hT
    have new : ObjOk X.prog X.w (upd H s.heap.objs.size (.tup [.int (i : Nat), x])) g2 s.heap.objs.size (.tup [.int (i : Nat), x]) :=
      ⟨by rw [sizeLine_eq]; simp, [.int i tk, y], .cons ⟨_, rfl⟩ (.cons ru .nil), _, hT2, rfl, _, rfl⟩
    have inv2 := I.turnedNew (h' := g2) (t' := tk + 1) (ch := [e, it]) (fun b ob hb q => by
      have n1 : b ≠ e := fun z => hb (by simp [z])
      have n2 : b ≠ it := fun z => hb (by simp [z])
      exact (sb.2 b n1).trans (hk b ob n1 n2 q)) hf (Nat.le_refl _) new
    refine ⟨.ref s.heap.objs.size, _, inv2, rfl, ⟨_, x, rfl, I.hok.fresh (Nat.le_refl _), rfl, fun ys hy2 => by rw [I.tuple_inj hy2 hq]; exact hx⟩, ⟨⟨y, ?_⟩, hst.1.at fun o q => (sb.2 it (Ne.symm hne)).trans q, hne, hea, hai⟩, fun b hb => ?_⟩
    · rw [show ((i + 1 : Nat) : Int) = (i : Int) + 1 by omega]
      exact he2
    · have : b < s.heap.objs.size := by
        rcases List.mem_cons.mp hb with z | z
        · rw [z]; exact hel
        · rw [List.mem_singleton.mp z]; exact hil
      rw [upd_ne (Nat.ne_of_lt this)]
      exact (hf b hb).1
  done := by
    intro X hP hw hK hc i pins s σ H E I hf st hg
    subst hP hw hK
    obtain ⟨⟨old, he⟩, hit, hne, hea, hai⟩ := st
    obtain ⟨xs, hq, hx⟩ := hg
    obtain ⟨its, rv, tp, _⟩ := I.tuple hq
    obtain ⟨f0, f1, f2, f3, f4, f5⟩ := hf it (by simp)
    have big : its.toArray.size = i := by
      have := rv.length
      simp
      omega
    have dr := Draws.tuple (prog := X.prog) (w := X.w) (A := X.A.in1) (I.ok.hd hc) it a hai its.toArray
    rw [← big] at hit
    exact wpAny_pyNext_enum_endD dr he ⟨hit, tp⟩ fun g eb => ⟨rfl, I.turned (h' := g) (t' := s.toks) (fun b o hb q => eb b o hb q) f0 f1 f3 f4 f5⟩
  self := fun A i s Q E st h => by
    obtain ⟨⟨_, he⟩, _⟩ := st
    exact wpAny_pyIter_enum he h
/-- enumerate of a list or a tuple -/
def iEnumA (K : PySem.W.Frag) (ta : TA) : TI := fun σ H R => ta σ H fun vs H1 => ∃ a, vs = [.ref a] ∧ ((∃ xs, SqL K H1 a xs) ∧ R (Ite K a) H1 ∨ (∃ xs, SqT K H1 a xs) ∧ R (IteT K a) H1)
theorem pi_enumA {X : Cx} {e : Expr} {ta : TA} {p pos tpos : Pos} {elts : List Expr} {kk : Nat} (hg : Gl X "enumerate") (hm : X.mg "enumerate" = none) (ha : PA X [e] ta) (hs : starEach [e] X.env = [(false, eval e X.env)]) :
    PI X (.Tuple elts kk tpos) (.Call (.Name "enumerate" p) [e] [] pos) (iEnumA X.K ta) := by
  constructor
  intro pins q σ H R inv want
  refine Call_ (ld_blt inv hg hm boot_enumerate (PyProof.Rows.callWith_type1 (thn (ha.run pos pins q σ H _ inv want) ?_) hs rfl))
  rintro us q1 ⟨vs, G, inv1, rel, a, rfl, what⟩
  have eu := Vals.ref1 rel
  subst eu
  have young : ∀ b ∈ [q1.heap.objs.size + 1, q1.heap.objs.size], FpOk X pins G b := fun b hb => by
    have : q1.heap.objs.size ≤ b := by
      rcases List.mem_cons.mp hb with z | z
      · omega
      · rw [List.mem_singleton.mp z]; exact Nat.le_refl _
    exact inv1.fpOk this (inv1.hok.fresh this)
  rcases what with ⟨⟨xs, sq⟩, r⟩ | ⟨⟨xs, sq⟩, r⟩
  · obtain ⟨its, _, pl, _⟩ := inv1.list sq
    refine call_enumerate_list pl.isList fun h2 en it _ kp => wpAny_pyIter_enum en ?_
    exact ⟨_, _, _, _, G, rfl, inv1.kept (h' := h2) (t' := q1.toks) kp, turn_enum a (q1.heap.objs.size + 1) q1.heap.objs.size, ⟨⟨.none, en⟩, it, Nat.succ_ne_self _⟩, young, r⟩
  · obtain ⟨its, _, tp, _⟩ := inv1.tuple sq
    have al : a < q1.heap.objs.size := IsTup.lt tp
    refine call_enumT tp fun h2 en it kp => wpAny_pyIter_enum en ?_
    exact ⟨_, _, _, _, G, rfl, inv1.kept (h' := h2) (t' := q1.toks) kp, turn_enumT a (q1.heap.objs.size + 1) q1.heap.objs.size, ⟨⟨.none, en⟩, it, Nat.succ_ne_self _, Nat.ne_of_gt (Nat.lt_succ_of_lt al), Nat.ne_of_lt al⟩, young, r⟩
end MP
/-! ## MP1 -/
set_option Elab.async false
set_option linter.all false
set_option maxRecDepth 100000
/-! MP1: a small language of data: values, a store, results; what an expression comes to. -/
namespace MP
open PySem

/-- values: immutable data, a place in the store, a def of the program -/
inductive D where
  | non | bl (b : Bool) | int (i : Int) | str (x : Str) | tup (xs : List D) | loc (n : Nat) | fn (g : Nat)
/-- what stands in the store -/
inductive O where
  | lst (xs : List D) | ro (xs : List D) | dct (kvs : List (D × D))
abbrev Sto := List O
abbrev Env := List (Option D)

/-- the most items of what is made here -/
def lim : Nat := 1000000

mutual
def D.eqb : D → D → Bool
  | .non, .non => true
  | .bl a, .bl b => a == b
  | .int a, .int b => decide (a = b)
  | .str a, .str b => decide (a = b)
  | .tup a, .tup b => D.eqbs a b
  | .loc a, .loc b => Nat.beq a b
  | .fn a, .fn b => Nat.beq a b
  | _, _ => false
def D.eqbs : List D → List D → Bool
  | [], [] => true
  | a :: as, b :: bs => D.eqb a b && D.eqbs as bs
  | _, _ => false
end
mutual
/-- all places in it lie below n -/
def D.und (n : Nat) : D → Bool
  | .loc m => Nat.blt m n
  | .tup xs => D.unds n xs
  | _ => true
def D.unds (n : Nat) : List D → Bool
  | [] => true
  | x :: xs => D.und n x && D.unds n xs
end
def kvEqb : List (D × D) → List (D × D) → Bool
  | [], [] => true
  | a :: as, b :: bs => D.eqb a.1 b.1 && (D.eqb a.2 b.2 && kvEqb as bs)
  | _, _ => false
def O.eqb : O → O → Bool
  | .lst a, .lst b => D.eqbs a b
  | .ro a, .ro b => D.eqbs a b
  | .dct a, .dct b => kvEqb a b
  | _, _ => false
def O.und (n : Nat) : O → Bool
  | .lst xs => D.unds n xs
  | .ro xs => D.unds n xs
  | .dct kvs => kvs.all fun p => p.1.und n && p.2.und n

/-- each object of the one that isn't as it was names only places below n -/
def keepsOk (n : Nat) : Sto → Sto → Bool
  | [], _ => true
  | _ :: _, [] => false
  | a :: as, b :: bs => (O.eqb a b || O.und n b) && keepsOk n as bs
/-- what is left behind a step: what it made is forgotten if nothing names it -/
def gc (st st' : Sto) (d : D) : Sto := if d.und st.length && keepsOk st.length st st' then st'.take st.length else st'
def envUnd (n : Nat) : Env → Bool
  | [] => true
  | some d :: r => d.und n && envUnd n r
  | none :: r => envUnd n r
def gcE (st st' : Sto) (env : Env) : Sto := if envUnd st.length env && keepsOk st.length st st' then st'.take st.length else st'

/-- results -/
inductive R (α : Type) where
  | ok (a : α) (st : Sto)
  | exc (c : Nat) (fs : List D) (st : Sto)
  | bad
def R.bind {α β : Type} : R α → (α → Sto → R β) → R β
  | .ok a st, f => f a st
  | .exc c fs st, _ => .exc c fs st
  | .bad, _ => .bad

/-- the items of a list or tuple -/
def lstAt (st : Sto) (n : Nat) : Option (List D) := match st[n]? with
  | some (.lst xs) => some xs
  | some (.ro xs) => some xs
  | _ => none
def seqOf (st : Sto) : D → Option (List D)
  | .tup xs => some xs
  | .loc n => lstAt st n
  | _ => none
/-- the sequence is as it was -/
def seqStays (st : Sto) (d : D) (xs : List D) : Bool := match d with
  | .loc n => (match lstAt st n with
    | some ys => D.eqbs xs ys
    | none => false)
  | _ => true

def optAll {α β : Type} (f : α → Option β) : List α → Option (List β)
  | [] => some []
  | x :: xs => match f x with
    | some y => (match optAll f xs with
      | some ys => some (y :: ys)
      | none => none)
    | none => none
/-- as the library's data -/
def toP (st : Sto) : Nat → D → Option PyData
  | _, .non => some .none
  | _, .bl b => some (.bool b)
  | _, .int i => some (.int i)
  | _, .str x => some (.str x)
  | n + 1, .tup xs => (optAll (toP st n) xs).map .tuple
  | n + 1, .loc m => (match lstAt st m with
    | some xs => (optAll (toP st n) xs).map .list
    | none => none)
  | _, _ => none
def pyEq (st : Sto) (x y : D) : Option Bool := match toP st 20 x, toP st 20 y with
  | some p, some q => if SeqAt.shaped p && SeqAt.shaped q then some (PyData.eqv p q) else none
  | _, _ => none

/-- operators of two values -/
inductive B2 where
  | add | sub | mul | fdiv | mod | pow | eq | ne | lt | le | gt | ge | inn | nin | mx | mn
  deriving DecidableEq
/-- operators of one -/
inductive B1 where
  | neg | len | int | all | any | tuple | list | isN | notN | mxl | mnl | isF | truth | lnot | asI
  deriving DecidableEq
/-- those that are calls of built-ins -/
def b1Call : B1 → Prop
  | .len | .int | .all | .any | .tuple | .list | .mxl | .mnl => True
  | _ => False
/-- classes asked for by isinstance -/
inductive Ty where
  | int | bool | str | tuple | list
  deriving DecidableEq

def bigI (i : Int) : Bool := decide (-(2 ^ 64) < i) && decide (i < 2 ^ 64)
def alloc (st : Sto) (o : O) : R D := .ok (.loc st.length) (st ++ [o])
def mkT (xs : List D) (st : Sto) : R D := if xs.length ≤ lim then .ok (.tup xs) st else .bad
def mkL (xs : List D) (st : Sto) : R D := if xs.length ≤ lim then alloc st (.lst xs) else .bad
def reps {α : Type} (xs : List α) : Nat → List α
  | 0 => []
  | n + 1 => xs ++ reps xs n

def opAdd : D → D → Sto → R D
  | .int i, .int j, st => .ok (.int (i + j)) st
  | .tup xs, .tup ys, st => mkT (xs ++ ys) st
  | .loc n, .loc m, st => (match st[n]?, st[m]? with
    | some (.lst xs), some (.lst ys) => mkL (xs ++ ys) st
    | _, _ => .bad)
  | _, _, _ => .bad
def opMul : D → D → Sto → R D
  | .int i, .int j, st => if bigI i || bigI j then .ok (.int (i * j)) st else .bad
  | .tup xs, .int j, st => if xs.length ≤ 1000 && (decide (j ≤ 1000) && decide (-1000 ≤ j)) then .ok (.tup (reps xs j.toNat)) st else .bad
  | _, _, _ => .bad
def opCmp (f : Int → Int → Bool) : D → D → Sto → R D
  | .int i, .int j, st => .ok (.bl (f i j)) st
  | _, _, _ => .bad
def opIn (neg : Bool) (x y : D) (st : Sto) : R D := match y with
  | .loc n => (match lstAt st n with
    | some ys => (match toP st 20 x, optAll (toP st 20) ys with
      | some p, some qs => if SeqAt.shaped p && SeqAt.shaped (.list qs) then .ok (.bl (xor neg (qs.any fun q => PyData.eqv q p))) st else .bad
      | _, _ => .bad)
    | none => .bad)
  | _ => .bad
def op2 : B2 → D → D → Sto → R D
  | .add, x, y, st => opAdd x y st
  | .sub, .int i, .int j, st => .ok (.int (i - j)) st
  | .mul, x, y, st => opMul x y st
  | .fdiv, .int i, .int j, st => if decide (0 < j) && decide (j < 1073741824) then .ok (.int (i / j)) st else .bad
  | .mod, .int i, .int j, st => if decide (0 < j) then .ok (.int (i % j)) st else .bad
  | .pow, .int i, .int j, st => if decide (0 ≤ j) && decide (j ≤ 1000) && decide (i.natAbs < 1000000) then .ok (.int (i ^ j.toNat)) st else .bad
  | .eq, x, y, st => (match pyEq st x y with
    | some b => .ok (.bl b) st
    | none => .bad)
  | .ne, x, y, st => (match pyEq st x y with
    | some b => .ok (.bl (!b)) st
    | none => .bad)
  | .lt, x, y, st => opCmp (fun i j => decide (i < j)) x y st
  | .le, x, y, st => opCmp (fun i j => decide (i ≤ j)) x y st
  | .gt, x, y, st => opCmp (fun i j => decide (j < i)) x y st
  | .ge, x, y, st => opCmp (fun i j => decide (j ≤ i)) x y st
  | .inn, x, y, st => opIn false x y st
  | .nin, x, y, st => opIn true x y st
  | .mx, .int i, .int j, st => .ok (.int (if j > i then j else i)) st
  | .mn, .int i, .int j, st => .ok (.int (if j < i then j else i)) st
  | _, _, _, _ => .bad

def toB : D → Option Bool
  | .bl b => some b
  | _ => none
def toI : D → Option Int
  | .int i => some i
  | _ => none
def truthOf (st : Sto) : D → Option Bool
  | .non => some false
  | .bl b => some b
  | .int i => some (i != 0)
  | .tup xs => some (!xs.isEmpty)
  | .loc n => (match st[n]? with
    | some (.lst xs) => some (!xs.isEmpty)
    | some (.ro xs) => some (!xs.isEmpty)
    | some (.dct kvs) => some (!kvs.isEmpty)
    | none => none)
  | _ => none
def maxI : Int → List Int → Int
  | m, [] => m
  | m, x :: xs => maxI (if m < x then x else m) xs
def minI : Int → List Int → Int
  | m, [] => m
  | m, x :: xs => minI (if x < m then x else m) xs
/-- sorted, each once -/
def insI (x : Int) : List Int → List Int
  | [] => [x]
  | y :: ys => if x < y then x :: y :: ys else if x = y then y :: ys else y :: insI x ys
def ssortI : List Int → List Int
  | [] => []
  | x :: xs => insI x (ssortI xs)

/-- sorted(set(t)), t a tuple of ints -/
def opSset : D → Sto → R D
  | .tup xs, st => (match optAll toI xs with
    | some is => if is.length < 60 then alloc st (.lst ((ssortI is).map .int)) else .bad
    | none => .bad)
  | _, _ => .bad
def isNon : D → Bool
  | .non => true
  | _ => false
def op1 : B1 → D → Sto → R D
  | .neg, .int i, st => .ok (.int (-i)) st
  | .len, .str x, st => if x.length ≤ lim then .ok (.int x.length) st else .bad
  | .len, x, st => (match seqOf st x with
    | some xs => .ok (.int xs.length) st
    | none => .bad)
  | .int, .int i, st => .ok (.int i) st
  | .int, .bl b, st => .ok (.int (if b then 1 else 0)) st
  | .all, .loc n, st => (match lstAt st n with
    | some xs => (match optAll toB xs with
      | some bs => .ok (.bl (bs.all id)) st
      | none => .bad)
    | none => .bad)
  | .any, .loc n, st => (match lstAt st n with
    | some xs => (match optAll toB xs with
      | some bs => .ok (.bl (bs.any id)) st
      | none => .bad)
    | none => .bad)
  | .tuple, x, st => (match seqOf st x with
    | some xs => .ok (.tup xs) st
    | none => .bad)
  | .list, x, st => (match seqOf st x with
    | some xs => alloc st (.lst xs)
    | none => .bad)
  | .isN, x, st => .ok (.bl (isNon x)) st
  | .notN, x, st => .ok (.bl (!isNon x)) st
  | .asI, .int i, st => .ok (.int i) st
  | .mxl, .loc n, st => (match lstAt st n with
    | some xs => (match optAll toI xs with
      | some (i :: is) => .ok (.int (maxI i is)) st
      | _ => .bad)
    | none => .bad)
  | .mnl, .loc n, st => (match lstAt st n with
    | some xs => (match optAll toI xs with
      | some (i :: is) => .ok (.int (minI i is)) st
      | _ => .bad)
    | none => .bad)
  | .isF, .bl b, st => .ok (.bl (!b)) st
  | .truth, x, st => (match truthOf st x with
    | some b => .ok (.bl b) st
    | none => .bad)
  | .lnot, .bl b, st => .ok (.bl (!b)) st
  | _, _, _ => .bad

/-- the kind of a value: 0 None, 1 bool, 2 int, 3 str, 4 tuple, 5 list, 6 dict -/
def kindO : O → Nat
  | .lst _ => 5
  | .ro _ => 5
  | .dct _ => 6
def kindD (st : Sto) : D → Option Nat
  | .non => some 0
  | .bl _ => some 1
  | .int _ => some 2
  | .str _ => some 3
  | .tup _ => some 4
  | .loc n => (st[n]?).map kindO
  | .fn _ => none
def tyB : Ty → Nat → Bool
  | .int, k => Nat.beq k 2 || Nat.beq k 1
  | .bool, k => Nat.beq k 1
  | .str, k => Nat.beq k 3
  | .tuple, k => Nat.beq k 4
  | .list, k => Nat.beq k 5
def isTy (st : Sto) (x : D) (t : Ty) : Option Bool := (kindD st x).map (tyB t)
def isTys (st : Sto) (x : D) : List Ty → Option Bool
  | [] => some false
  | t :: ts => match isTy st x t with
    | some true => some true
    | some false => isTys st x ts
    | none => none

/-- an index of any sign -/
def atD (xs : List D) (i : Int) : Option D := if 0 ≤ i then xs[i.toNat]? else if -(xs.length : Int) ≤ i then xs[(i + xs.length).toNat]? else none
def dGet (kvs : List (D × D)) (k : D) : Option D := match kvs with
  | [] => none
  | (a, v) :: r => if D.eqb a k then some v else dGet r k
def opIdx (x y : D) (st : Sto) : R D := match x, y with
  | .tup xs, .int i => (match atD xs i with
    | some d => .ok d st
    | none => .bad)
  | .loc n, y => (match st[n]?, y with
    | some (.lst xs), .int i => (match atD xs i with
      | some d => .ok d st
      | none => .bad)
    | some (.ro xs), .int i => (match atD xs i with
      | some d => .ok d st
      | none => .bad)
    | some (.dct kvs), .str k => (match dGet kvs (.str k) with
      | some d => .ok d st
      | none => .bad)
    | some (.dct kvs), .int k => (match dGet kvs (.int k) with
      | some d => .ok d st
      | none => .bad)
    | _, _ => .bad)
  | _, _ => .bad
/-- a slice's bound among n -/
def bnd (n d : Nat) : D → Option Nat
  | .non => some d
  | .int i => some (if i < 0 then (i + n).toNat else min i.toNat n)
  | _ => none
def cutD (xs : List D) (i j : Nat) : List D := (xs.drop i).take (j - i)
def opSlc (x lo hi : D) (st : Sto) : R D := match seqOf st x with
  | none => .bad
  | some xs => (match bnd xs.length 0 lo, bnd xs.length xs.length hi with
    | some i, some j => (match x with
      | .tup _ => .ok (.tup (cutD xs i j)) st
      | _ => alloc st (.lst (cutD xs i j)))
    | _, _ => .bad)

inductive CE where
  | var (i : Nat)
  | cst (d : D)
  | b2 (o : B2) (a b : CE)
  | b1 (o : B1) (a : CE)
  | sset (a : CE)
  | rg (l : Bool) (w : Nat) (a b : CE)
  | and (a b : CE) | or (a b : CE) | ite (c a b : CE)
  | chain (o p : B2) (a b c : CE)
  | tup (es : List CE) | lst (es : List CE) | dct (ks : List Str) (es : List CE)
  | idx (a b : CE)
  | slc (a lo hi : CE)
  | call (g : Nat) (es : List CE) (dv : List D)
  | isi (a : CE) (ts : List Ty)
  | gin (kvs : List (Str × Int)) (a : CE) | gget (kvs : List (Str × Int)) (a : CE)
  | comp (own tgt : List Nat) (one : Bool) (w : Nat) (a b cond elt : CE)

def zipD : List D → List D → List D
  | x :: xs, y :: ys => .tup [x, y] :: zipD xs ys
  | _, _ => []
def enumD : Int → List D → List D
  | _, [] => []
  | i, x :: xs => .tup [.int i, x] :: enumD (i + 1) xs
def rangeD (lo : Int) : Nat → List D
  | 0 => []
  | n + 1 => .int lo :: rangeD (lo + 1) n
/-- two tuples, two lists -/
def bothK : D → D → Bool
  | .tup _, .tup _ => true
  | .loc _, .loc _ => true
  | _, _ => false
/-- what is walked: 0 a sequence, 1 range(a), 2 range(a, b), 3 zip(a, b), 4 enumerate(a) -/
def itemsOf (w : Nat) (x y : D) (st : Sto) : Option (List D) := match w with
  | 0 => seqOf st x
  | 1 => (match x with
    | .int n => if decide (n ≤ 1000000) && decide (-1000000 ≤ n) then some (rangeD 0 n.toNat) else none
    | _ => none)
  | 2 => (match x, y with
    | .int a, .int b => if decide (b ≤ 1000000) && decide (-1000000 ≤ a) && decide (a ≤ 1000000) && decide (-1000000 ≤ b) then some (rangeD a (b - a).toNat) else none
    | _, _ => none)
  | 3 => if bothK x y then (match seqOf st x, seqOf st y with
    | some xs, some ys => some (zipD xs ys)
    | _, _ => none) else none
  | 4 => (seqOf st x).map (enumD 0)
  | _ => none
/-- a tuple | a list of a range -/
def opRg (l : Bool) (w : Nat) (x y : D) (st : Sto) : R D := if w == 1 || w == 2 then (match itemsOf w x y st with
  | some xs => if l then mkL xs st else mkT xs st
  | none => .bad) else .bad
/-- what is walked is as it was -/
def stillOf (w : Nat) (x y : D) (st st' : Sto) : Bool := match w with
  | 0 => (match seqOf st x with
    | some xs => seqStays st' x xs
    | none => false)
  | 1 => true
  | 2 => true
  | 3 => (match seqOf st x, seqOf st y with
    | some xs, some ys => seqStays st' x xs && seqStays st' y ys
    | _, _ => false)
  | 4 => (match seqOf st x with
    | some xs => seqStays st' x xs
    | none => false)
  | _ => false
def setEach : List Nat → List D → Env → Env
  | i :: is, x :: xs, env => setEach is xs (env.set i (some x))
  | _, _, env => env
def setTgt (one : Bool) (tgt : List Nat) (x : D) (env : Env) : Option Env := match one with
  | true => (match tgt with
    | [i] => some (env.set i (some x))
    | _ => none)
  | false => (match x with
    | .tup xs => if xs.length = tgt.length then some (setEach tgt xs env) else none
    | _ => none)
def wipeD (env : Env) : List Nat → Env
  | [] => env
  | v :: vs => (wipeD env vs).set v none

/-- what is walked: its parts and its items -/
def itE (w : Nat) (ra : R D) (fb : Sto → R D) : R (D × D × List D) := ra.bind fun x st => (fb st).bind fun y st => match itemsOf w x y st with
  | some xs => .ok (x, y, xs) st
  | none => .bad
/-- the turns of a comprehension: its list stands at n -/
def compL (still : Sto → Bool) (set : D → Option Env) (cond elt : Env → Sto → R D) (n : Nat) : List D → Sto → R D
  | [], st => if still st then .ok (.loc n) st else .bad
  | x :: xs, st => if still st then (match set x with
    | some env => (match cond env st with
      | .ok (.bl true) st1 => (match elt env (gc st st1 .non) with
        | .ok y st2 => (match (gc (gc st st1 .non) st2 y)[n]? with
          | some (.lst acc) => if acc.length < lim then compL still set cond elt n xs ((gc (gc st st1 .non) st2 y).set n (.lst (acc ++ [y]))) else .bad
          | _ => .bad)
        | .exc c fs st2 => .exc c fs st2
        | .bad => .bad)
      | .ok (.bl false) st1 => compL still set cond elt n xs (gc st st1 .non)
      | .ok _ _ => .bad
      | .exc c fs st1 => .exc c fs st1
      | .bad => .bad)
    | none => .bad) else .bad

def kvOf : List Str → List D → List (D × D)
  | k :: ks, v :: vs => (.str k, v) :: kvOf ks vs
  | _, _ => []
def nodupS : List Str → Bool
  | [] => true
  | x :: xs => !(xs.any fun y => decide (x = y)) && nodupS xs

mutual
def evE (cl : Nat → List D → Sto → R D) : CE → Env → Sto → R D
  | .var i, env, st => (match env[i]? with
    | some (some d) => .ok d st
    | _ => .bad)
  | .cst d, _, st => .ok d st
  | .b2 o a b, env, st => (evE cl a env st).bind fun x st => (evE cl b env st).bind fun y st => op2 o x y st
  | .b1 o a, env, st => (evE cl a env st).bind fun x st => op1 o x st
  | .sset a, env, st => (evE cl a env st).bind fun x st => opSset x st
  | .rg l w a b, env, st => (evE cl a env st).bind fun x st => (evE cl b env st).bind fun y st => opRg l w x y st
  | .and a b, env, st => (evE cl a env st).bind fun x st => (match x with
    | .bl true => evE cl b env st
    | .bl false => .ok (.bl false) st
    | _ => .bad)
  | .or a b, env, st => (evE cl a env st).bind fun x st => (match x with
    | .bl true => .ok (.bl true) st
    | .bl false => evE cl b env st
    | _ => .bad)
  | .ite c a b, env, st => (evE cl c env st).bind fun x st => (match x with
    | .bl true => evE cl a env st
    | .bl false => evE cl b env st
    | _ => .bad)
  | .chain o p a b c, env, st => (evE cl a env st).bind fun x st => (evE cl b env st).bind fun y st => (op2 o x y st).bind fun z st => (match z with
    | .bl true => (evE cl c env st).bind fun w st => op2 p y w st
    | .bl false => .ok (.bl false) st
    | _ => .bad)
  | .tup es, env, st => (evEs cl es env st).bind fun xs st => mkT xs st
  | .lst es, env, st => (evEs cl es env st).bind fun xs st => mkL xs st
  | .dct ks es, env, st => (evEs cl es env (st ++ [.dct []])).bind fun xs st' => (match st'[st.length]? with
    | some (.dct []) => if ks.length = xs.length && (nodupS ks && Nat.ble ks.length 15) then .ok (.loc st.length) (st'.set st.length (.dct (kvOf ks xs))) else .bad
    | _ => .bad)
  | .idx a b, env, st => (evE cl a env st).bind fun x st => (evE cl b env st).bind fun y st => opIdx x y st
  | .slc a lo hi, env, st => (evE cl a env st).bind fun x st => (evE cl lo env st).bind fun l st => (evE cl hi env st).bind fun h st => opSlc x l h st
  | .call g es dv, env, st => (evEs cl es env st).bind fun xs st => cl g (xs ++ dv) st
  | .isi a ts, env, st => (evE cl a env st).bind fun x st => (match isTys st x ts with
    | some b => .ok (.bl b) st
    | none => .bad)
  | .gin kvs a, env, st => (evE cl a env st).bind fun x st => (match x with
    | .str k => .ok (.bl (kvs.any fun p => decide (p.1 = k))) st
    | _ => .bad)
  | .gget kvs a, env, st => (evE cl a env st).bind fun x st => (match x with
    | .str k => (match kvs.find? fun p => decide (p.1 = k) with
      | some p => .ok (.int p.2) st
      | none => .bad)
    | _ => .bad)
  | .comp own tgt one w a b cond elt, env, st => (itE w (evE cl a env st) (fun st => evE cl b env st)).bind fun p st =>
    compL (stillOf w p.1 p.2.1 st) (fun x => setTgt one tgt x (wipeD env own)) (fun env st => evE cl cond env st) (fun env st => evE cl elt env st) st.length p.2.2 (st ++ [.lst []])
def evEs (cl : Nat → List D → Sto → R D) : List CE → Env → Sto → R (List D)
  | [], _, st => .ok [] st
  | e :: es, env, st => (evE cl e env st).bind fun x st => (evEs cl es env st).bind fun xs st => .ok (x :: xs) st
end

inductive CS where
  | asg (i : Nat) (e : CE) | asgT (is : List Nat) (e : CE) | par (i j : Nat) (a b : CE)
  | sub (o i e : CE) | app (o e : CE) | ext (o e : CE)
  | expr (e : CE)
  | ret (e : CE) | retN
  | ife (c : CE) (a b : List CS)
  | for (tgt : List Nat) (one : Bool) (w : Nat) (a b : CE) (body : List CS)
  | while (c : CE) (body : List CS)
  | brk | cont | pass | never

inductive Out where
  | next (env : Env) (st : Sto) | ret (d : D) (st : Sto) | brk (env : Env) (st : Sto) | cont (env : Env) (st : Sto) | exc (c : Nat) (fs : List D) (st : Sto) | bad
def R.out {α : Type} : R α → (α → Sto → Out) → Out
  | .ok a st, f => f a st
  | .exc c fs st, _ => .exc c fs st
  | .bad, _ => .bad
/-- the turns of a for -/
def forL (still : Sto → Bool) (set : D → Env → Option Env) (body : Env → Sto → Out) : List D → Env → Sto → Out
  | [], env, st => if still st then .next env st else .bad
  | x :: xs, env, st => if still st then (match set x env with
    | some env1 => (match body env1 st with
      | .next env2 st2 => forL still set body xs env2 (gcE st st2 env2)
      | .cont env2 st2 => forL still set body xs env2 (gcE st st2 env2)
      | .brk env2 st2 => .next env2 (gcE st st2 env2)
      | .ret d st2 => .ret d st2
      | .exc c fs st2 => .exc c fs st2
      | .bad => .bad)
    | none => .bad) else .bad
def whileL (c : Env → Sto → R D) (body : Env → Sto → Out) : Nat → Env → Sto → Out
  | 0, _, _ => .bad
  | n + 1, env, st => match c env st with
    | .ok (.bl true) st1 => (match body env (gcE st st1 env) with
      | .next env2 st2 => whileL c body n env2 (gcE st st2 env2)
      | .cont env2 st2 => whileL c body n env2 (gcE st st2 env2)
      | .brk env2 st2 => .next env2 (gcE st st2 env2)
      | .ret d st2 => .ret d st2
      | .exc c fs st2 => .exc c fs st2
      | .bad => .bad)
    | .ok (.bl false) st1 => .next env (gcE st st1 env)
    | .ok _ _ => .bad
    | .exc c fs st1 => .exc c fs st1
    | .bad => .bad
/-- a list's index of any sign, as a place -/
def ixD (n : Nat) (i : Int) : Option Nat := if 0 ≤ i then (if i < n then some i.toNat else none) else if -(n : Int) ≤ i then some (i + n).toNat else none
def putAt (o i v : D) (st : Sto) : Option Sto := match o, i with
  | .loc n, .int i => (match st[n]? with
    | some (.lst xs) => (match ixD xs.length i with
      | some j => some (st.set n (.lst (xs.set j v)))
      | none => none)
    | _ => none)
  | _, _ => none
def isLst (st : Sto) : D → Bool
  | .loc n => (match st[n]? with
    | some (.lst _) => true
    | _ => false)
  | _ => false
def appAt (o v : D) (st : Sto) : Option Sto := match o with
  | .loc n => (match st[n]? with
    | some (.lst xs) => if xs.length < lim then some (st.set n (.lst (xs ++ [v]))) else none
    | _ => none)
  | _ => none
def extAt (o v : D) (st : Sto) : Option Sto := match o, v with
  | .loc n, .loc m => (match st[n]?, st[m]? with
    | some (.lst xs), some (.lst ys) => if xs.length + ys.length ≤ lim then some (st.set n (.lst (xs ++ ys))) else none
    | _, _ => none)
  | _, _ => none
/-- the most turns of a while -/
def turns : Nat := 100000000

mutual
def evS (cl : Nat → List D → Sto → R D) : CS → Env → Sto → Out
  | .asg i e, env, st => (evE cl e env st).out fun x st => .next (env.set i (some x)) st
  | .asgT is e, env, st => (evE cl e env st).out fun x st => (match setTgt false is x env with
    | some env => .next env st
    | none => .bad)
  | .par i j a b, env, st => (evE cl a env st).out fun x st => (evE cl b env st).out fun y st => .next ((env.set i (some x)).set j (some y)) st
  | .sub o i e, env, st => (evE cl e env st).out fun v st => (evE cl o env st).out fun x st => (evE cl i env st).out fun y st => (match putAt x y v st with
    | some st => .next env st
    | none => .bad)
  | .app o e, env, st => (evE cl o env st).out fun x st => if isLst st x then (evE cl e env st).out fun v st => (match appAt x v st with
    | some st => .next env st
    | none => .bad) else .bad
  | .ext o e, env, st => (evE cl o env st).out fun x st => if isLst st x then (evE cl e env st).out fun v st => (match extAt x v st with
    | some st => .next env st
    | none => .bad) else .bad
  | .expr e, env, st => (evE cl e env st).out fun _ st => .next env st
  | .ret e, env, st => (evE cl e env st).out fun x st => .ret x st
  | .retN, _, st => .ret .non st
  | .ife c a b, env, st => (evE cl c env st).out fun x st => (match x with
    | .bl true => evSs cl a env st
    | .bl false => evSs cl b env st
    | _ => .bad)
  | .for tgt one w a b body, env, st => (itE w (evE cl a env st) (fun st => evE cl b env st)).out fun p st =>
    forL (stillOf w p.1 p.2.1 st) (setTgt one tgt) (fun env st => evSs cl body env st) p.2.2 env st
  | .while c body, env, st => whileL (fun env st => evE cl c env st) (fun env st => evSs cl body env st) turns env st
  | .brk, env, st => .brk env st
  | .cont, env, st => .cont env st
  | .pass, env, st => .next env st
  | .never, _, _ => .bad
def evSs (cl : Nat → List D → Sto → R D) : List CS → Env → Sto → Out
  | [], env, st => .next env st
  | s :: ss, env, st => (match evS cl s env st with
    | .next env st => evSs cl ss env st
    | .ret d st => .ret d st
    | .brk env st => .brk env st
    | .cont env st => .cont env st
    | .exc c fs st => .exc c fs st
    | .bad => .bad)
end

/-- a def: its parameters' number, its slots, its body -/
structure Fn where
  ps : Nat
  ns : Nat
  body : List CS
def endCall (st : Sto) : Out → R D
  | .next _ st' => .ok .non (gc st st' .non)
  | .ret d st' => .ok d (gc st st' d)
  | .exc c fs st' => .exc c fs st'
  | _ => .bad
/-- the call of a def, k calls deep at most -/
def run (tb : List Fn) : Nat → Nat → List D → Sto → R D
  | 0, _, _, _ => .bad
  | k + 1, g, xs, st => match tb[g]? with
    | some f => if xs.length = f.ps then endCall st (evSs (run tb k) f.body (xs.map some ++ List.replicate (f.ns - f.ps) none) st) else .bad
    | none => .bad
end MP
/-! ## MP2 -/
set_option Elab.async false
set_option linter.all false
set_option maxRecDepth 100000
set_option maxHeartbeats 1000000
/-! MP2: what stands for what: values, stores, frames over the abstract heap; what is wanted of a result. -/
namespace MP
open PySem PySem.Spec PyProof.Rows L2

/-- tuples and known things stay -/
def Kp (H H' : Hp) : Prop := (∀ a xs, H a = some (.tup xs) → H' a = some (.tup xs)) ∧ ∀ a o u, H a = some (.frz o u) → H' a = some (.frz o u)
theorem Kp.refl (H : Hp) : Kp H H := ⟨fun _ _ h => h, fun _ _ _ h => h⟩
theorem Kp.trans {H H1 H2 : Hp} (a : Kp H H1) (b : Kp H1 H2) : Kp H H2 := ⟨fun p xs h => b.1 p xs (a.1 p xs h), fun p o u h => b.2 p o u (a.2 p o u h)⟩
theorem Kp.new {H : Hp} {p : Addr} {o : HO} (h : H p = none) : Kp H (upd H p o) :=
  ⟨fun a xs e => by rw [upd_ne (ne_of_none e h)]; exact e, fun a u v e => by rw [upd_ne (ne_of_none e h)]; exact e⟩
theorem Kp.put {H : Hp} {p : Addr} {o u : HO} (h : H p = some u) (h1 : ∀ xs, u ≠ .tup xs) (h2 : ∀ o' v, u ≠ .frz o' v) : Kp H (upd H p o) := by
  refine ⟨fun a xs e => ?_, fun a w v e => ?_⟩
  · have : a ≠ p := fun z => by rw [z, h] at e; exact h1 _ (Option.some.inj e)
    rw [upd_ne this]; exact e
  · have : a ≠ p := fun z => by rw [z, h] at e; exact h2 _ _ (Option.some.inj e)
    rw [upd_ne this]; exact e
abbrev Pre (ρ ρ' : List Addr) : Prop := ∃ t, ρ' = ρ ++ t
theorem Pre.refl (ρ : List Addr) : Pre ρ ρ := ⟨[], by simp⟩
theorem Pre.trans {a b c : List Addr} : Pre a b → Pre b c → Pre a c
  | ⟨t, e⟩, ⟨u, f⟩ => ⟨t ++ u, by rw [f, e, List.append_assoc]⟩
theorem Pre.get {a b : List Addr} (h : Pre a b) {n : Nat} {p : Addr} (e : a[n]? = some p) : b[n]? = some p := by
  obtain ⟨t, rfl⟩ := h
  rw [List.getElem?_append_left (List.getElem?_eq_some_iff.mp e).1]; exact e
theorem Pre.snoc (ρ : List Addr) (p : Addr) : Pre ρ (ρ ++ [p]) := ⟨[p], rfl⟩

theorem sqT_kp {K : PySem.W.Frag} {H H' : Hp} {a : Addr} {xs : List V} (k : Kp H H') (h : SqT K H a xs) : SqT K H' a xs := by
  rcases h with (h | ⟨o, h⟩) | h
  · exact .inl (.inl (k.1 _ _ h))
  · exact .inl (.inr ⟨o, k.2 _ _ _ h⟩)
  · exact .inr h
/-- a list that is known: read, never written -/
def Fz (K : PySem.W.Frag) (H : Hp) (a : Addr) (xs : List V) : Prop :=
  (∃ o, H a = some (.frz o (.lst xs))) ∨
    ∃ (o : Obj) (its : Array Value) (n : Nat), K.lookup a = some o ∧ o.cls = .type "list" ∧ o.dict = none ∧ o.data = .seq its n ∧ its.size ≤ sizeLine ∧ Vals xs its.toList
theorem Fz.sq {K : PySem.W.Frag} {H : Hp} {a : Addr} {xs : List V} (h : Fz K H a xs) : SqL K H a xs := by
  rcases h with ⟨o, h⟩ | h
  · exact .inl (.inr ⟨o, h⟩)
  · exact .inr h
theorem Fz.kp {K : PySem.W.Frag} {H H' : Hp} {a : Addr} {xs : List V} (k : Kp H H') (h : Fz K H a xs) : Fz K H' a xs := by
  rcases h with ⟨o, h⟩ | h
  · exact .inl ⟨o, k.2 _ _ _ h⟩
  · exact .inr h

section
variable (K : PySem.W.Frag) (fa : Nat → Option Addr)
mutual
def RepD (ρ : List Addr) (H : Hp) : D → V → Prop
  | .non, v => v = .non
  | .bl b, v => v = .bl b
  | .int i, v => v = .int i
  | .str x, v => v = .str x
  | .tup xs, v => ∃ a vs, v = .ref a ∧ SqT K H a vs ∧ RepL ρ H xs vs
  | .loc n, v => ∃ a, v = .ref a ∧ ρ[n]? = some a
  | .fn g, v => ∃ a, v = .ref a ∧ fa g = some a
def RepL (ρ : List Addr) (H : Hp) : List D → List V → Prop
  | [], vs => vs = []
  | x :: xs, vs => ∃ v r, vs = v :: r ∧ RepD ρ H x v ∧ RepL ρ H xs r
end
/-- a dict's key -/
def keyD : D → Option Key
  | .int i => some (.inl i)
  | .str x => some (.inr x)
  | _ => none
def RepKV (ρ : List Addr) (H : Hp) : List (D × D) → List (Key × V) → Prop
  | [], ws => ws = []
  | p :: ps, ws => ∃ k v r, ws = (k, v) :: r ∧ keyD p.1 = some k ∧ RepD K fa ρ H p.2 v ∧ RepKV ρ H ps r
def RepO (ρ : List Addr) (H : Hp) (a : Addr) : O → Prop
  | .lst xs => ∃ vs, H a = some (.lst vs) ∧ RepL K fa ρ H xs vs
  | .ro xs => ∃ vs, Fz K H a vs ∧ RepL K fa ρ H xs vs
  | .dct kvs => ∃ ws, H a = some (.dK ws) ∧ RepKV K fa ρ H kvs ws
end
def O.mut : O → Bool
  | .lst _ => true
  | .ro _ => false
  | .dct _ => true
structure RepS (K : PySem.W.Frag) (fa : Nat → Option Addr) (ρ : List Addr) (H : Hp) (st : Sto) : Prop where
  len : ρ.length = st.length
  at_ : ∀ (n : Nat) (o : O), st[n]? = some o → ∃ a, ρ[n]? = some a ∧ RepO K fa ρ H a o
  inj : ∀ (i j : Nat) (a : Addr) (o o' : O), ρ[i]? = some a → ρ[j]? = some a → st[i]? = some o → st[j]? = some o' → o.mut = true → o'.mut = true → i = j
def RepE (K : PySem.W.Frag) (fa : Nat → Option Addr) (ρ : List Addr) (H : Hp) (env : Env) (σ : L2.St) : Prop :=
  env.length = σ.length ∧ ∀ (i : Nat) (d : D), env[i]? = some (some d) → ∃ v, σ[i]? = some (some v) ∧ RepD K fa ρ H d v

section
variable {K : PySem.W.Frag} {fa : Nat → Option Addr} {ρ ρ' : List Addr} {H H' : Hp}
mutual
theorem RepD.kp (p : Pre ρ ρ') (k : Kp H H') : ∀ (d : D) (v : V), RepD K fa ρ H d v → RepD K fa ρ' H' d v
  | .non, _, h => h
  | .bl _, _, h => h
  | .int _, _, h => h
  | .str _, _, h => h
  | .fn _, _, h => h
  | .loc _, _, ⟨a, e, h⟩ => ⟨a, e, p.get h⟩
  | .tup xs, _, ⟨a, vs, e, h, r⟩ => ⟨a, vs, e, sqT_kp k h, RepL.kp p k xs vs r⟩
theorem RepL.kp (p : Pre ρ ρ') (k : Kp H H') : ∀ (ds : List D) (vs : List V), RepL K fa ρ H ds vs → RepL K fa ρ' H' ds vs
  | [], _, h => h
  | x :: xs, _, ⟨v, r, e, h1, h2⟩ => ⟨v, r, e, RepD.kp p k x v h1, RepL.kp p k xs r h2⟩
end
theorem RepKV.kp (p : Pre ρ ρ') (k : Kp H H') : ∀ (ds : List (D × D)) (ws : List (Key × V)), RepKV K fa ρ H ds ws → RepKV K fa ρ' H' ds ws
  | [], _, h => h
  | x :: xs, _, ⟨k1, v, r, e, h0, h1, h2⟩ => ⟨k1, v, r, e, h0, RepD.kp p k _ v h1, RepKV.kp p k xs r h2⟩
theorem RepE.kp {env : Env} {σ : L2.St} (p : Pre ρ ρ') (k : Kp H H') (h : RepE K fa ρ H env σ) : RepE K fa ρ' H' env σ :=
  ⟨h.1, fun i d e => let ⟨v, a, b⟩ := h.2 i d e; ⟨v, a, RepD.kp p k d v b⟩⟩
/-- an object that stays where it is -/
theorem RepO.kp {a : Addr} {o : O} (p : Pre ρ ρ') (k : Kp H H') (e : o.mut = true → H' a = H a) (h : RepO K fa ρ H a o) : RepO K fa ρ' H' a o := by
  cases o with
  | lst xs => obtain ⟨vs, h1, h2⟩ := h; exact ⟨vs, (e rfl).trans h1, RepL.kp p k _ _ h2⟩
  | ro xs => obtain ⟨vs, h1, h2⟩ := h; exact ⟨vs, h1.kp k, RepL.kp p k _ _ h2⟩
  | dct kvs => obtain ⟨ws, h1, h2⟩ := h; exact ⟨ws, (e rfl).trans h1, RepKV.kp p k _ _ h2⟩
theorem RepO.some_ {a : Addr} {o : O} (m : o.mut = true) (h : RepO K fa ρ H a o) : ∃ u, H a = some u ∧ (∀ xs, u ≠ .tup xs) ∧ ∀ o' v, u ≠ .frz o' v := by
  cases o with
  | lst xs => obtain ⟨vs, h1, h2⟩ := h; exact ⟨_, h1, fun _ z => (by cases z), fun _ _ z => (by cases z)⟩
  | ro xs => cases m
  | dct kvs => obtain ⟨ws, h1, h2⟩ := h; exact ⟨_, h1, fun _ z => (by cases z), fun _ _ z => (by cases z)⟩
variable {st st' : Sto}
theorem RepS.get (h : RepS K fa ρ H st) {n : Nat} {o : O} (e : st[n]? = some o) : ∃ a, ρ[n]? = some a ∧ RepO K fa ρ H a o := h.at_ n o e
/-- a new thing that no place names -/
theorem RepS.more (h : RepS K fa ρ H st) {p : Addr} {u : HO} (e : H p = none) : RepS K fa ρ (upd H p u) st := by
  refine ⟨h.len, fun n o q => ?_, h.inj⟩
  obtain ⟨a, e1, r⟩ := h.at_ n o q
  refine ⟨a, e1, r.kp (Pre.refl _) (Kp.new e) fun m => ?_⟩
  obtain ⟨v, hv, _⟩ := r.some_ m
  exact upd_ne (ne_of_none hv e)
/-- a new object of the store -/
theorem RepS.alloc (h : RepS K fa ρ H st) {p : Addr} {u : HO} {o : O} (e : H p = none) (r : RepO K fa (ρ ++ [p]) (upd H p u) p o) : RepS K fa (ρ ++ [p]) (upd H p u) (st ++ [o]) := by
  have hl := h.len
  have old : ∀ (i : Nat) (a : Addr) (o' : O), st[i]? = some o' → o'.mut = true → (ρ ++ [p])[i]? = some a → a ≠ p := fun i a o' q m e1 z => by
    obtain ⟨b, e2, rb⟩ := h.at_ i o' q
    have e3 := (Pre.snoc ρ p).get e2
    rw [e1] at e3
    cases e3
    obtain ⟨v, hv, _⟩ := rb.some_ m
    rw [z, e] at hv
    cases hv
  have ix : ∀ (i : Nat) (o' : O), (st ++ [o])[i]? = some o' → (i < st.length ∧ st[i]? = some o') ∨ (i = st.length ∧ o' = o) := fun i o' q => by
    rcases Nat.lt_or_ge i st.length with z | z
    · rw [List.getElem?_append_left z] at q; exact .inl ⟨z, q⟩
    · rw [List.getElem?_append_right z] at q
      have : i - st.length = 0 := by
        rcases Nat.eq_zero_or_pos (i - st.length) with y | y
        · exact y
        · rw [List.getElem?_eq_none (by simp; omega)] at q; cases q
      rw [this] at q
      exact .inr ⟨by omega, by simpa using q.symm⟩
  refine ⟨by simp [hl], fun n o' q => ?_, fun i j a o1 o2 a1 a2 b1 b2 m1 m2 => ?_⟩
  · rcases ix n o' q with ⟨_, q⟩ | ⟨z, rfl⟩
    · obtain ⟨a, e1, ra⟩ := h.at_ n o' q
      refine ⟨a, (Pre.snoc ρ p).get e1, ra.kp (Pre.snoc ρ p) (Kp.new e) fun m => ?_⟩
      obtain ⟨v, hv, _⟩ := ra.some_ m
      exact upd_ne (ne_of_none hv e)
    · refine ⟨p, ?_, r⟩
      rw [z, ← hl, List.getElem?_append_right (Nat.le_refl _)]
      simp
  · have lastA : ∀ k : Nat, k = st.length → (ρ ++ [p])[k]? = some p := fun k z => by
      rw [z, ← hl, List.getElem?_append_right (Nat.le_refl _)]
      simp
    rcases ix i o1 b1 with ⟨l1, q1⟩ | ⟨z1, rfl⟩
    · rcases ix j o2 b2 with ⟨l2, q2⟩ | ⟨z2, rfl⟩
      · rw [List.getElem?_append_left (by omega)] at a1 a2
        exact h.inj i j a o1 o2 a1 a2 q1 q2 m1 m2
      · rw [lastA j z2] at a2
        cases a2
        exact absurd rfl (old i p o1 q1 m1 a1)
    · rcases ix j o2 b2 with ⟨l2, q2⟩ | ⟨z2, rfl⟩
      · rw [lastA i z1] at a1
        cases a1
        exact absurd rfl (old j p o2 q2 m2 a2)
      · omega
/-- an object of the store is written -/
theorem RepS.write (h : RepS K fa ρ H st) {n : Nat} {a : Addr} {o o' : O} {u : HO} (e : st[n]? = some o) (m : o.mut = true) (ea : ρ[n]? = some a) (r : RepO K fa ρ (upd H a u) a o') (m' : o'.mut = true) : RepS K fa ρ (upd H a u) (st.set n o') := by
  obtain ⟨b, eb, rb⟩ := h.at_ n o e
  rw [ea] at eb
  cases eb
  obtain ⟨v, hv, n1, n2⟩ := rb.some_ m
  have kp : Kp H (upd H a u) := Kp.put hv n1 n2
  have hn : n < st.length := (List.getElem?_eq_some_iff.mp e).1
  refine ⟨by simp [h.len], fun i o1 q => ?_, fun i j c o1 o2 a1 a2 b1 b2 m1 m2 => ?_⟩
  · by_cases z : n = i
    · subst z
      rw [List.getElem?_set_self hn] at q
      cases q
      exact ⟨a, ea, r⟩
    · rw [List.getElem?_set_ne z] at q
      obtain ⟨c, ec, rc⟩ := h.at_ i o1 q
      refine ⟨c, ec, rc.kp (Pre.refl _) kp fun mi => upd_ne fun y => ?_⟩
      subst y
      exact z (h.inj n i c o o1 ea ec e q m mi)
  · have back : ∀ (k : Nat) (ok : O), (st.set n o')[k]? = some ok → ok.mut = true → ∃ ok', st[k]? = some ok' ∧ ok'.mut = true := fun k ok q mk => by
      by_cases z : n = k
      · subst z; exact ⟨o, e, m⟩
      · rw [List.getElem?_set_ne z] at q; exact ⟨ok, q, mk⟩
    obtain ⟨o1', q1, m1'⟩ := back i o1 b1 m1
    obtain ⟨o2', q2, m2'⟩ := back j o2 b2 m2
    exact h.inj i j c o1' o2' a1 a2 q1 q2 m1' m2'

/-! ### forgetting -/
mutual
theorem D.eqb_eq : ∀ (a b : D), D.eqb a b = true → a = b
  | .non, b, h => by cases b <;> simp_all [D.eqb]
  | .bl x, b, h => by cases b <;> simp_all [D.eqb]
  | .int x, b, h => by cases b <;> simp_all [D.eqb]
  | .str x, b, h => by cases b <;> simp_all [D.eqb]
  | .loc x, b, h => by cases b <;> simp_all [D.eqb]
  | .fn x, b, h => by cases b <;> simp_all [D.eqb]
  | .tup xs, b, h => by
    cases b with
    | tup ys => rw [D.eqbs_eq xs ys (by simpa [D.eqb] using h)]
    | _ => simp [D.eqb] at h
theorem D.eqbs_eq : ∀ (a b : List D), D.eqbs a b = true → a = b
  | [], b, h => by cases b <;> simp_all [D.eqbs]
  | x :: xs, b, h => by
    cases b with
    | nil => simp [D.eqbs] at h
    | cons y ys =>
      simp only [D.eqbs, Bool.and_eq_true] at h
      rw [D.eqb_eq x y h.1, D.eqbs_eq xs ys h.2]
end
mutual
theorem D.eqb_refl : ∀ (a : D), D.eqb a a = true
  | .non => rfl
  | .bl x => by simp [D.eqb]
  | .int x => by simp [D.eqb]
  | .str x => by simp [D.eqb]
  | .loc x => by simp [D.eqb]
  | .fn x => by simp [D.eqb]
  | .tup xs => by simp [D.eqb, D.eqbs_refl xs]
theorem D.eqbs_refl : ∀ (a : List D), D.eqbs a a = true
  | [] => rfl
  | x :: xs => by simp [D.eqbs, D.eqb_refl x, D.eqbs_refl xs]
end
theorem kvEqb_eq : ∀ (a b : List (D × D)), kvEqb a b = true → a = b
  | [], b, h => by cases b <;> simp_all [kvEqb]
  | x :: xs, b, h => by
    cases b with
    | nil => simp [kvEqb] at h
    | cons y ys =>
      simp only [kvEqb, Bool.and_eq_true] at h
      rw [kvEqb_eq xs ys h.2.2, show x = y from Prod.ext (D.eqb_eq _ _ h.1) (D.eqb_eq _ _ h.2.1)]
theorem kvEqb_refl : ∀ (a : List (D × D)), kvEqb a a = true
  | [] => rfl
  | x :: xs => by simp [kvEqb, D.eqb_refl, kvEqb_refl xs]
theorem O.eqb_eq : ∀ (a b : O), O.eqb a b = true → a = b
  | .lst a, b, h => by cases b <;> simp [O.eqb] at h; rw [D.eqbs_eq _ _ h]
  | .ro a, b, h => by cases b <;> simp [O.eqb] at h; rw [D.eqbs_eq _ _ h]
  | .dct a, b, h => by cases b <;> simp [O.eqb] at h; rw [kvEqb_eq _ _ h]
theorem O.eqb_refl : ∀ (a : O), O.eqb a a = true
  | .lst a => by simp [O.eqb, D.eqbs_refl]
  | .ro a => by simp [O.eqb, D.eqbs_refl]
  | .dct a => by simp [O.eqb, kvEqb_refl]

mutual
/-- what names only places below n stands over the first n addresses -/
theorem RepD.cut {n : Nat} : ∀ (d : D) (v : V), d.und n = true → RepD K fa ρ H d v → RepD K fa (ρ.take n) H d v
  | .non, _, _, h => h
  | .bl _, _, _, h => h
  | .int _, _, _, h => h
  | .str _, _, _, h => h
  | .fn _, _, _, h => h
  | .loc m, _, u, ⟨a, e, h⟩ => ⟨a, e, by
    have : m < n := by simpa [D.und] using u
    rw [List.getElem?_take_of_lt this]; exact h⟩
  | .tup xs, _, u, ⟨a, vs, e, h, r⟩ => ⟨a, vs, e, h, RepL.cut xs vs (by simpa [D.und] using u) r⟩
theorem RepL.cut {n : Nat} : ∀ (ds : List D) (vs : List V), D.unds n ds = true → RepL K fa ρ H ds vs → RepL K fa (ρ.take n) H ds vs
  | [], _, _, h => h
  | x :: xs, _, u, ⟨v, r, e, h1, h2⟩ => by
    simp only [D.unds, Bool.and_eq_true] at u
    exact ⟨v, r, e, RepD.cut x v u.1 h1, RepL.cut xs r u.2 h2⟩
end
theorem RepKV.cut {n : Nat} : ∀ (ds : List (D × D)) (ws : List (Key × V)), (ds.all fun p => p.1.und n && p.2.und n) = true → RepKV K fa ρ H ds ws → RepKV K fa (ρ.take n) H ds ws
  | [], _, _, h => h
  | x :: xs, _, u, ⟨k, v, r, e, h0, h1, h2⟩ => by
    simp only [List.all_cons, Bool.and_eq_true] at u
    exact ⟨k, v, r, e, h0, RepD.cut _ v u.1.2 h1, RepKV.cut xs r u.2 h2⟩
theorem RepO.cut {n : Nat} {a : Addr} {o : O} (u : o.und n = true) (h : RepO K fa ρ H a o) : RepO K fa (ρ.take n) H a o := by
  cases o with
  | lst xs => obtain ⟨vs, h1, h2⟩ := h; exact ⟨vs, h1, RepL.cut _ _ u h2⟩
  | ro xs => obtain ⟨vs, h1, h2⟩ := h; exact ⟨vs, h1, RepL.cut _ _ u h2⟩
  | dct kvs => obtain ⟨ws, h1, h2⟩ := h; exact ⟨ws, h1, RepKV.cut _ _ u h2⟩
mutual
/-- what stands over n addresses names only places below n -/
theorem RepD.und {n : Nat} (hn : ρ.length ≤ n) : ∀ (d : D) (v : V), RepD K fa ρ H d v → d.und n = true
  | .non, _, _ => rfl
  | .bl _, _, _ => rfl
  | .int _, _, _ => rfl
  | .str _, _, _ => rfl
  | .fn _, _, _ => rfl
  | .loc m, _, ⟨a, e, h⟩ => by
    have : m < ρ.length := (List.getElem?_eq_some_iff.mp h).1
    simp [D.und]; omega
  | .tup xs, _, ⟨a, vs, e, h, r⟩ => by simp [D.und, RepL.und hn xs vs r]
theorem RepL.und {n : Nat} (hn : ρ.length ≤ n) : ∀ (ds : List D) (vs : List V), RepL K fa ρ H ds vs → D.unds n ds = true
  | [], _, _ => rfl
  | x :: xs, _, ⟨v, r, e, h1, h2⟩ => by simp [D.unds, RepD.und hn x v h1, RepL.und hn xs r h2]
end
theorem RepKV.und {n : Nat} (hn : ρ.length ≤ n) : ∀ (ds : List (D × D)) (ws : List (Key × V)), RepKV K fa ρ H ds ws → (ds.all fun p => p.1.und n && p.2.und n) = true
  | [], _, _ => rfl
  | x :: xs, _, ⟨k, v, r, e, h0, h1, h2⟩ => by
    have : x.1.und n = true := by
      cases q : x.1 <;> simp [q, keyD] at h0 <;> rfl
    simp [this, RepD.und hn _ v h1]
    simpa using RepKV.und hn xs r h2
theorem RepO.und {n : Nat} (hn : ρ.length ≤ n) {a : Addr} {o : O} (h : RepO K fa ρ H a o) : o.und n = true := by
  cases o with
  | lst xs => obtain ⟨vs, h1, h2⟩ := h; exact RepL.und hn _ _ h2
  | ro xs => obtain ⟨vs, h1, h2⟩ := h; exact RepL.und hn _ _ h2
  | dct kvs => obtain ⟨ws, h1, h2⟩ := h; exact RepKV.und hn _ _ h2
theorem keepsOk_get {n : Nat} : ∀ {a b : Sto}, keepsOk n a b = true → a.length ≤ b.length ∧ ∀ (i : Nat) o', i < a.length → b[i]? = some o' → a[i]? = some o' ∨ o'.und n = true
  | [], b, _ => ⟨Nat.zero_le _, fun _ _ h _ => absurd h (Nat.not_lt_zero _)⟩
  | x :: xs, [], h => by simp [keepsOk] at h
  | x :: xs, y :: ys, h => by
    simp only [keepsOk, Bool.and_eq_true, Bool.or_eq_true] at h
    obtain ⟨l, ih⟩ := keepsOk_get h.2
    refine ⟨by simpa using l, fun i o' hi e => ?_⟩
    cases i with
    | zero =>
      simp at e
      subst e
      rcases h.1 with z | z
      · left; rw [O.eqb_eq _ _ z]; rfl
      · exact .inr z
    | succ i => exact ih i o' (by simpa using hi) (by simpa using e)
theorem keepsOk_refl (n : Nat) : ∀ (a b : Sto), keepsOk n a (a ++ b) = true
  | [], _ => rfl
  | x :: xs, b => by simp [keepsOk, O.eqb_refl, keepsOk_refl n xs b]
/-- the first n objects, if they name only places below n -/
theorem RepS.cut (h : RepS K fa ρ H st') {n : Nat} (hn : n ≤ st'.length) (hu : ∀ (i : Nat) o, i < n → st'[i]? = some o → o.und n = true) : RepS K fa (ρ.take n) H (st'.take n) := by
  refine ⟨by simp [h.len], fun i o e => ?_, fun i j a o o' a1 a2 b1 b2 m1 m2 => ?_⟩
  · have hi : i < n := by
      rcases Nat.lt_or_ge i n with z | z
      · exact z
      · rw [List.getElem?_eq_none (by simp; omega)] at e; cases e
    rw [List.getElem?_take_of_lt hi] at e
    obtain ⟨a, ea, r⟩ := h.at_ i o e
    exact ⟨a, by rw [List.getElem?_take_of_lt hi]; exact ea, r.cut (hu i o hi e)⟩
  · have lt : ∀ (k : Nat) (b : Addr), (ρ.take n)[k]? = some b → k < n := fun k b e => by
      rcases Nat.lt_or_ge k n with z | z
      · exact z
      · rw [List.getElem?_eq_none (by simp; omega)] at e; cases e
    have hi := lt i a a1
    have hj := lt j a a2
    rw [List.getElem?_take_of_lt hi] at a1 b1
    rw [List.getElem?_take_of_lt hj] at a2 b2
    exact h.inj i j a o o' a1 a2 b1 b2 m1 m2
theorem keeps_und (h : RepS K fa ρ H st) (h' : keepsOk st.length st st' = true) : ∀ (i : Nat) o, i < st.length → st'[i]? = some o → o.und st.length = true := fun i o hi e => by
  rcases (keepsOk_get h').2 i o hi e with z | z
  · obtain ⟨a, ea, r⟩ := h.at_ i o z
    exact r.und (by rw [h.len]; exact Nat.le_refl _)
  · exact z
theorem take_pre {ρ ρ' : List Addr} (h : Pre ρ ρ') : ρ'.take ρ.length = ρ := by
  obtain ⟨t, rfl⟩ := h
  simp
/-- behind gc: some addresses that still extend the old ones -/
theorem RepS.gc (h : RepS K fa ρ H st) (p : Pre ρ ρ') (h' : RepS K fa ρ' H' st') {d : D} {v : V} (r : RepD K fa ρ' H' d v) : ∃ ρ2, Pre ρ ρ2 ∧ RepS K fa ρ2 H' (MP.gc st st' d) ∧ RepD K fa ρ2 H' d v := by
  unfold MP.gc
  by_cases c : (d.und st.length && keepsOk st.length st st') = true
  · rw [if_pos c]
    obtain ⟨c1, c2⟩ := Bool.and_eq_true_iff.mp c
    have e : ρ'.take st.length = ρ := by rw [← h.len]; exact take_pre p
    refine ⟨ρ'.take st.length, by rw [e]; exact Pre.refl _, h'.cut (keepsOk_get c2).1 (keeps_und h c2), RepD.cut d v c1 r⟩
  · rw [if_neg c]
    exact ⟨ρ', p, h', r⟩
theorem RepE.cut {n : Nat} {env : Env} {σ : L2.St} (u : envUnd n env = true) (h : RepE K fa ρ H env σ) : RepE K fa (ρ.take n) H env σ := by
  refine ⟨h.1, fun i d e => ?_⟩
  obtain ⟨v, e1, r⟩ := h.2 i d e
  refine ⟨v, e1, RepD.cut d v ?_ r⟩
  clear h e1 r
  induction env generalizing i with
  | nil => simp at e
  | cons x xs ih =>
    cases x with
    | none =>
      cases i with
      | zero => simp at e
      | succ i => exact ih (by simpa [envUnd] using u) i (by simpa using e)
    | some y =>
      simp only [envUnd, Bool.and_eq_true] at u
      cases i with
      | zero => simp at e; subst e; exact u.1
      | succ i => exact ih u.2 i (by simpa using e)
theorem RepS.gcE (h : RepS K fa ρ H st) (p : Pre ρ ρ') (h' : RepS K fa ρ' H' st') {env : Env} {σ : L2.St} (r : RepE K fa ρ' H' env σ) : ∃ ρ2, Pre ρ ρ2 ∧ RepS K fa ρ2 H' (MP.gcE st st' env) ∧ RepE K fa ρ2 H' env σ := by
  unfold MP.gcE
  by_cases c : (envUnd st.length env && keepsOk st.length st st') = true
  · rw [if_pos c]
    obtain ⟨c1, c2⟩ := Bool.and_eq_true_iff.mp c
    have e : ρ'.take st.length = ρ := by rw [← h.len]; exact take_pre p
    refine ⟨ρ'.take st.length, by rw [e]; exact Pre.refl _, h'.cut (keepsOk_get c2).1 (keeps_und h c2), RepE.cut c1 r⟩
  · rw [if_neg c]
    exact ⟨ρ', p, h', r⟩
end
end MP
/-! ## MP3 -/
set_option Elab.async false
set_option linter.all false
set_option autoImplicit false
set_option maxRecDepth 100000
set_option maxHeartbeats 1000000
/-! MP3: expressions: the layer's readings follow from what an expression comes to. -/
namespace MP
open PySem PySem.Spec PyProof.Rows L2

def Pst (K : PySem.W.Frag) (fa : Nat → Option Addr) {α β : Type} (Rp : List Addr → Hp → α → β → Prop) (ρ : List Addr) (H : Hp) (r : R α) (Q : β → Hp → Prop) : Prop :=
  match r with
  | .ok d st => ∀ ρ' H' v, Pre ρ ρ' → Kp H H' → RepS K fa ρ' H' st → Rp ρ' H' d v → Q v H'
  | _ => False
section
variable {K : PySem.W.Frag} {fa : Nat → Option Addr} {ρ ρ1 : List Addr} {H H1 : Hp}
theorem Pst.kp {α β : Type} {Rp : List Addr → Hp → α → β → Prop} {r : R α} {Q : β → Hp → Prop} (p : Pre ρ ρ1) (k : Kp H H1) (h : Pst K fa Rp ρ H r Q) : Pst K fa Rp ρ1 H1 r Q := by
  cases r with
  | ok d st => exact fun ρ' H' v p' k' s r => h ρ' H' v (p.trans p') (k.trans k') s r
  | exc c fs st => exact h
  | bad => exact h
theorem Pst.bind {α β γ δ : Type} {RA : List Addr → Hp → α → β → Prop} {RB : List Addr → Hp → γ → δ → Prop} {m : R α} {f : α → Sto → R γ} {Q : δ → Hp → Prop} {K1 : β → Hp → Prop} (h : Pst K fa RB ρ H (m.bind f) Q)
    (c : ∀ d st1 ρ1 H1 v, Pre ρ ρ1 → Kp H H1 → RepS K fa ρ1 H1 st1 → RA ρ1 H1 d v → Pst K fa RB ρ1 H1 (f d st1) Q → K1 v H1) : Pst K fa RA ρ H m K1 := by
  cases m with
  | ok d st => exact fun ρ' H' v p k s r => c d st ρ' H' v p k s r (Pst.kp p k h)
  | exc c fs st => exact h
  | bad => exact h
/-- an answer that is there -/
theorem Pst.here {α β : Type} {Rp : List Addr → Hp → α → β → Prop} {d : α} {st : Sto} {v : β} {Q : β → Hp → Prop} (h : Pst K fa Rp ρ H (.ok d st) Q) (s : RepS K fa ρ H st) (r : Rp ρ H d v) : Q v H := h ρ H v (Pre.refl _) (Kp.refl _) s r
/-- a new object -/
theorem Pst.new {o : O} {u : HO} {st : Sto} {Q : V → Hp → Prop} {p : Addr} (h : Pst K fa (RepD K fa) ρ H (alloc st o) Q) (s : RepS K fa ρ H st) (e : H p = none) (r : RepO K fa (ρ ++ [p]) (upd H p u) p o) : Q (.ref p) (upd H p u) :=
  h (ρ ++ [p]) (upd H p u) (.ref p) (Pre.snoc ρ p) (Kp.new e) (s.alloc e r) ⟨p, rfl, by rw [← s.len, List.getElem?_append_right (Nat.le_refl _)]; simp⟩
/-- a new tuple -/
theorem Pst.tup {xs : List D} {vs : List V} {st : Sto} {Q : V → Hp → Prop} {p : Addr} (h : Pst K fa (RepD K fa) ρ H (.ok (.tup xs) st) Q) (s : RepS K fa ρ H st) (e : H p = none) (r : RepL K fa ρ H xs vs) : Q (.ref p) (upd H p (.tup vs)) :=
  h ρ (upd H p (.tup vs)) (.ref p) (Pre.refl _) (Kp.new e) (s.more e) ⟨p, vs, rfl, SqT.of upd_same, RepL.kp (Pre.refl _) (Kp.new e) _ _ r⟩
end
abbrev EvF := Env → Sto → R D
def tE (K : PySem.W.Frag) (fa : Nat → Option Addr) (ev : EvF) : TE := fun σ H Q => ∃ ρ env st, RepE K fa ρ H env σ ∧ RepS K fa ρ H st ∧ Pst K fa (RepD K fa) ρ H (ev env st) Q
def tA (K : PySem.W.Frag) (fa : Nat → Option Addr) (ev : Env → Sto → R (List D)) : TA := fun σ H Q => ∃ ρ env st, RepE K fa ρ H env σ ∧ RepS K fa ρ H st ∧ Pst K fa (RepL K fa) ρ H (ev env st) Q
/-- a test: a truth value -/
def RepB : List Addr → Hp → D → Bool → Prop := fun _ _ d b => d = .bl b
def tT (K : PySem.W.Frag) (fa : Nat → Option Addr) (ev : EvF) : TT := fun σ H Q => ∃ ρ env st, RepE K fa ρ H env σ ∧ RepS K fa ρ H st ∧ Pst K fa RepB ρ H (ev env st) Q

theorem PE.imp {X : Cx} {e : Expr} {t t' : TE} (h : PE X e t) (i : ∀ σ H Q, t' σ H Q → t σ H Q) : PE X e t' := ⟨fun pins s σ H Q I q => h.run pins s σ H Q I (i σ H Q q)⟩
theorem PT.imp {X : Cx} {e : Expr} {t t' : TT} (h : PT X e t) (i : ∀ σ H Q, t' σ H Q → t σ H Q) : PT X e t' := ⟨fun pins s σ H Q I q => h.run pins s σ H Q I (i σ H Q q)⟩
theorem PW.imp {X : Cx} {e : Expr} {t t' : TT} (h : PW X e t) (i : ∀ σ H Q, t' σ H Q → t σ H Q) : PW X e t' := ⟨fun wh pins s σ H Q I q => h.run wh pins s σ H Q I (i σ H Q q)⟩
theorem PA.imp {X : Cx} {es : List Expr} {t t' : TA} (h : PA X es t) (i : ∀ σ H Q, t' σ H Q → t σ H Q) : PA X es t' := ⟨fun pos pins s σ H Q I q => h.run pos pins s σ H Q I (i σ H Q q)⟩
theorem PSs.imp {X : Cx} {e : List Stmt} {t t' : TS} (h : PSs X e t) (i : ∀ D σ H, t' D σ H → t D σ H) : PSs X e t' := ⟨fun pins s σ H D I q => h.run pins s σ H D I (i D σ H q)⟩
theorem PS.imp {X : Cx} {e : Stmt} {t t' : TS} (h : PS X e t) (i : ∀ D σ H, t' D σ H → t D σ H) : PS X e t' := ⟨fun pins s σ H D I q => h.run pins s σ H D I (i D σ H q)⟩

section
variable {K : PySem.W.Frag} {fa : Nat → Option Addr} {ρ : List Addr} {H : Hp} {env : Env} {σ : L2.St} {st : Sto}
/-- the first part of a step -/
theorem tE.first {γ δ : Type} {RB : List Addr → Hp → γ → δ → Prop} {ea : EvF} {f : D → Sto → R γ} {Q : δ → Hp → Prop} {K1 : VK} (e : RepE K fa ρ H env σ) (s : RepS K fa ρ H st) (h : Pst K fa RB ρ H ((ea env st).bind f) Q)
    (c : ∀ d st1 ρ1 H1 v, RepE K fa ρ1 H1 env σ → RepS K fa ρ1 H1 st1 → RepD K fa ρ1 H1 d v → Pre ρ ρ1 → Kp H H1 → Pst K fa RB ρ1 H1 (f d st1) Q → K1 v H1) : tE K fa ea σ H K1 :=
  ⟨ρ, env, st, e, s, h.bind fun d st1 ρ1 H1 v p k s1 r q => c d st1 ρ1 H1 v (e.kp p k) s1 r p k q⟩
theorem tA.first {γ δ : Type} {RB : List Addr → Hp → γ → δ → Prop} {ea : Env → Sto → R (List D)} {f : List D → Sto → R γ} {Q : δ → Hp → Prop} {K1 : List V → Hp → Prop} (e : RepE K fa ρ H env σ) (s : RepS K fa ρ H st) (h : Pst K fa RB ρ H ((ea env st).bind f) Q)
    (c : ∀ d st1 ρ1 H1 v, RepE K fa ρ1 H1 env σ → RepS K fa ρ1 H1 st1 → RepL K fa ρ1 H1 d v → Pre ρ ρ1 → Kp H H1 → Pst K fa RB ρ1 H1 (f d st1) Q → K1 v H1) : tA K fa ea σ H K1 :=
  ⟨ρ, env, st, e, s, h.bind fun d st1 ρ1 H1 v p k s1 r q => c d st1 ρ1 H1 v (e.kp p k) s1 r p k q⟩
end

/-! ### sequences -/
section
variable {K : PySem.W.Frag} {fa : Nat → Option Addr} {ρ : List Addr} {H : Hp} {st : Sto}
theorem lstAt_rep (s : RepS K fa ρ H st) {n : Nat} {xs : List D} (h : lstAt st n = some xs) : ∃ a vs, ρ[n]? = some a ∧ SqL K H a vs ∧ RepL K fa ρ H xs vs := by
  unfold lstAt at h
  split at h
  · rename_i q
    cases h
    obtain ⟨a, e, vs, h1, h2⟩ := s.at_ _ _ q
    exact ⟨a, vs, e, SqL.of h1, h2⟩
  · rename_i q
    cases h
    obtain ⟨a, e, vs, h1, h2⟩ := s.at_ _ _ q
    exact ⟨a, vs, e, h1.sq, h2⟩
  · cases h
theorem seqOf_rep (s : RepS K fa ρ H st) {d : D} {v : V} {xs : List D} (r : RepD K fa ρ H d v) (h : seqOf st d = some xs) : ∃ a vs, v = .ref a ∧ RepL K fa ρ H xs vs ∧ ((SqL K H a vs ∧ ∃ n, d = .loc n) ∨ (SqT K H a vs ∧ d = .tup xs)) := by
  cases d with
  | tup ys =>
    cases h
    obtain ⟨a, vs, e, h1, h2⟩ := r
    exact ⟨a, vs, e, h2, .inr ⟨h1, rfl⟩⟩
  | loc n =>
    obtain ⟨a, vs, e, h1, h2⟩ := lstAt_rep s h
    obtain ⟨b, e2, e3⟩ := r
    rw [e] at e3
    cases e3
    exact ⟨a, vs, e2, h2, .inl ⟨h1, n, rfl⟩⟩
  | _ => cases h
theorem RepL.length : ∀ {xs : List D} {vs : List V}, RepL K fa ρ H xs vs → vs.length = xs.length
  | [], _, h => by cases h; rfl
  | x :: xs, _, ⟨v, r, e, _, h⟩ => by subst e; simp [RepL.length h]
theorem RepL.append : ∀ {xs ys : List D} {vs ws : List V}, RepL K fa ρ H xs vs → RepL K fa ρ H ys ws → RepL K fa ρ H (xs ++ ys) (vs ++ ws)
  | [], _, _, _, h, h2 => by cases h; exact h2
  | x :: xs, _, _, _, ⟨v, r, e, h1, h⟩, h2 => by subst e; exact ⟨v, r ++ _, rfl, h1, RepL.append h h2⟩
theorem RepL.drop : ∀ {xs : List D} {vs : List V} (n : Nat), RepL K fa ρ H xs vs → RepL K fa ρ H (xs.drop n) (vs.drop n)
  | [], _, n, h => by cases h; simp [RepL]
  | x :: xs, _, 0, h => h
  | x :: xs, _, n + 1, ⟨v, r, e, _, h⟩ => by subst e; exact RepL.drop n h
theorem RepL.take : ∀ {xs : List D} {vs : List V} (n : Nat), RepL K fa ρ H xs vs → RepL K fa ρ H (xs.take n) (vs.take n)
  | [], _, n, h => by cases h; simp [RepL]
  | x :: xs, _, 0, h => by simp [RepL]
  | x :: xs, _, n + 1, ⟨v, r, e, h1, h⟩ => by subst e; exact ⟨v, r.take n, by simp, h1, RepL.take n h⟩
theorem RepL.get : ∀ {xs : List D} {vs : List V} {n : Nat} {d : D}, RepL K fa ρ H xs vs → xs[n]? = some d → ∃ v, vs[n]? = some v ∧ RepD K fa ρ H d v
  | [], _, _, _, _, e => by simp at e
  | x :: xs, _, 0, d, ⟨v, r, e, h1, h⟩, q => by subst e; simp at q; subst q; exact ⟨v, rfl, h1⟩
  | x :: xs, _, n + 1, d, ⟨v, r, e, h1, h⟩, q => by subst e; exact RepL.get (n := n) h (by simpa using q)
theorem RepL.set : ∀ {xs : List D} {vs : List V} (n : Nat) {d : D} {v : V}, RepL K fa ρ H xs vs → RepD K fa ρ H d v → RepL K fa ρ H (xs.set n d) (vs.set n v)
  | [], _, _, _, _, h, _ => by cases h; simp [RepL]
  | x :: xs, _, 0, d, w, ⟨v, r, e, h1, h⟩, q => by subst e; exact ⟨w, r, rfl, q, h⟩
  | x :: xs, _, n + 1, d, w, ⟨v, r, e, h1, h⟩, q => by subst e; exact ⟨v, r.set n w, rfl, h1, RepL.set n h q⟩
theorem RepL.get' : ∀ {xs : List D} {vs : List V} {n : Nat} {v : V}, RepL K fa ρ H xs vs → vs[n]? = some v → ∃ d, xs[n]? = some d ∧ RepD K fa ρ H d v := fun {xs vs n v} h e => by
  have hl := RepL.length h
  have hn : n < xs.length := by rw [← hl]; exact (List.getElem?_eq_some_iff.mp e).1
  obtain ⟨w, e2, r⟩ := RepL.get h (List.getElem?_eq_getElem hn)
  rw [e] at e2
  cases e2
  exact ⟨_, List.getElem?_eq_getElem hn, r⟩
theorem lim_size {n : Nat} (h : n ≤ lim) : n ≤ sizeLine := Nat.le_trans h (by rw [sizeLine_eq]; decide)
theorem atI_rep {xs : List D} {vs : List V} {i : Int} {d : D} (h : RepL K fa ρ H xs vs) (e : atD xs i = some d) : ∃ v, atI vs i = some v ∧ RepD K fa ρ H d v := by
  have hl := RepL.length h
  unfold atD at e
  unfold atI ixN
  rw [hl]
  split at e
  · rename_i c
    obtain ⟨v, e1, r⟩ := RepL.get h e
    have : i.toNat < xs.length := (List.getElem?_eq_some_iff.mp e).1
    refine ⟨v, ?_, r⟩
    rw [if_pos c, if_pos (by omega)]
    exact e1
  · rename_i c
    split at e
    · rename_i c2
      obtain ⟨v, e1, r⟩ := RepL.get h e
      refine ⟨v, ?_, r⟩
      rw [if_neg c, if_pos c2]
      exact e1
    · cases e
end

/-! ### data -/
section
variable {K : PySem.W.Frag} {fa : Nat → Option Addr} {ρ : List Addr} {H : Hp} {st : Sto}
theorem optAll_dp {n : Nat} (ih : ∀ d v p, toP st n d = some p → RepD K fa ρ H d v → Dp K H v p) : ∀ (ds : List D) (vs : List V) (ps : List PyData), optAll (toP st n) ds = some ps → RepL K fa ρ H ds vs → DpAll K H vs ps
  | [], vs, ps, e, r => by
    cases e
    cases r
    exact .nil
  | x :: xs, _, ps, e, ⟨v, r, e2, h1, h2⟩ => by
    subst e2
    unfold optAll at e
    split at e
    · rename_i y ey
      split at e
      · rename_i ys eys
        cases e
        exact .cons (ih _ _ _ ey h1) (optAll_dp ih xs r ys eys h2)
      · cases e
    · cases e
theorem toP_dp (s : RepS K fa ρ H st) : ∀ (n : Nat) (d : D) (v : V) (p : PyData), toP st n d = some p → RepD K fa ρ H d v → Dp K H v p := by
  intro n
  induction n with
  | zero =>
    intro d v p e r
    cases d with
    | non => simp [toP] at e; subst e; cases r; exact .non
    | bl b => simp [toP] at e; subst e; cases r; exact .bl b
    | int b => simp [toP] at e; subst e; cases r; exact .int b
    | str b => simp [toP] at e; subst e; cases r; exact .str b
    | _ => simp [toP] at e
  | succ n ih =>
    intro d v p e r
    cases d with
    | non => simp [toP] at e; subst e; cases r; exact .non
    | bl b => simp [toP] at e; subst e; cases r; exact .bl b
    | int b => simp [toP] at e; subst e; cases r; exact .int b
    | str b => simp [toP] at e; subst e; cases r; exact .str b
    | tup xs =>
      simp only [toP] at e
      obtain ⟨ps, e1, e2⟩ := Option.map_eq_some_iff.mp e
      subst e2
      obtain ⟨a, vs, rfl, h1, h2⟩ := r
      exact .tup h1 (optAll_dp ih _ _ _ e1 h2)
    | loc m =>
      simp only [toP] at e
      split at e
      · rename_i xs ex
        obtain ⟨ps, e1, e2⟩ := Option.map_eq_some_iff.mp e
        subst e2
        obtain ⟨a, vs, h0, h1, h2⟩ := lstAt_rep s ex
        obtain ⟨b, rfl, h3⟩ := r
        rw [h0] at h3
        cases h3
        exact .lst h1 (optAll_dp ih _ _ _ e1 h2)
      · cases e
    | fn g => simp [toP] at e
end
end MP
/-! ## MP4 -/
set_option Elab.async false
set_option linter.all false
set_option autoImplicit false
set_option maxRecDepth 100000
set_option maxHeartbeats 1000000
/-! MP4: operators, subscripts, slices: what is asked of the values follows from what comes out. -/
namespace MP
open PySem PySem.Spec PyProof.Rows L2

def r2 (K : PySem.W.Frag) : B2 → R2
  | .add => fun x y H Q => rI0 (fun i j => .int (i + j)) x y H Q ∨ (rCatA K x y H Q ∨ rCat x y H Q)
  | .sub => rI0 fun i j => .int (i - j)
  | .mul => fun x y H Q => rI CMul (fun i j => .int (i * j)) x y H Q ∨ rRepA K x y H Q
  | .fdiv => rI CDiv fun i j => .int (i / j)
  | .mod => rI (fun _ j => 0 < j) fun i j => .int (i % j)
  | .pow => rI CPow fun i j => .int (i ^ j.toNat)
  | .eq => rEqD K
  | .ne => rNeD K
  | .lt => rI0 fun i j => .bl (decide (i < j))
  | .le => rI0 fun i j => .bl (decide (i ≤ j))
  | .gt => rI0 fun i j => .bl (decide (j < i))
  | .ge => rI0 fun i j => .bl (decide (j ≤ i))
  | .inn => rInD K
  | .nin => rNotInD K
  | .mx => fun x y H Q => ∃ i j, x = .int i ∧ y = .int j ∧ Q (.int (if j > i then j else i)) H
  | .mn => fun x y H Q => ∃ i j, x = .int i ∧ y = .int j ∧ Q (.int (if j < i then j else i)) H

section
variable {K : PySem.W.Frag} {fa : Nat → Option Addr} {ρ : List Addr} {H : Hp} {st : Sto} {x y : V} {Q : VK}
theorem int_of {i : Int} {v : V} (r : RepD K fa ρ H (.int i) v) : v = .int i := r
theorem reps_eq {α : Type} (xs : List α) : ∀ n, reps xs n = (List.replicate n xs).flatten
  | 0 => rfl
  | n + 1 => by rw [reps, reps_eq xs n, List.replicate_succ, List.flatten_cons]
theorem RepL.reps {xs : List D} {vs : List V} (h : RepL K fa ρ H xs vs) : ∀ n, RepL K fa ρ H (MP.reps xs n) (MP.reps vs n)
  | 0 => rfl
  | n + 1 => h.append (RepL.reps h n)
theorem RepL.nil_iff {xs : List D} {vs : List V} (h : RepL K fa ρ H xs vs) : vs = [] ↔ xs = [] := by
  have := h.length
  constructor
  · intro e; subst e; exact List.eq_nil_of_length_eq_zero this.symm
  · intro e; subst e; exact List.eq_nil_of_length_eq_zero this
theorem mutL (s : RepS K fa ρ H st) {n : Nat} {xs : List D} (q : st[n]? = some (.lst xs)) {v : V} (r : RepD K fa ρ H (.loc n) v) : ∃ a vs, v = .ref a ∧ ρ[n]? = some a ∧ H a = some (.lst vs) ∧ RepL K fa ρ H xs vs := by
  obtain ⟨a, e, vs, h1, h2⟩ := s.at_ _ _ q
  obtain ⟨b, e2, e3⟩ := r
  rw [e] at e3
  cases e3
  exact ⟨a, vs, e2, e, h1, h2⟩
theorem opAdd_snd {a b : D} (s : RepS K fa ρ H st) (ra : RepD K fa ρ H a x) (rb : RepD K fa ρ H b y) (h : Pst K fa (RepD K fa) ρ H (opAdd a b st) Q) : r2 K .add x y H Q := by
  unfold opAdd at h
  split at h
  · cases ra; cases rb
    exact .inl ⟨_, _, rfl, rfl, h.here s rfl⟩
  · rename_i xs ys
    unfold mkT at h
    split at h
    · rename_i hl
      obtain ⟨p, vs, rfl, hp, rv⟩ := ra
      obtain ⟨q, ws, rfl, hq, rw'⟩ := rb
      refine .inr (.inl ⟨p, q, vs, ws, rfl, rfl, hp, hq, ?_, fun e => ?_, fun e1 e2 => ?_, fun e1 e2 p' hp' => ?_⟩)
      · rw [rv.length, rw'.length, ← List.length_append]; exact lim_size hl
      · subst e
        have : xs = [] := rv.nil_iff.mp rfl
        subst this
        exact h.here s ⟨q, ws, rfl, hq, rw'⟩
      · subst e2
        have : ys = [] := rw'.nil_iff.mp rfl
        subst this
        rw [List.append_nil] at h
        exact h.here s ⟨p, vs, rfl, hp, rv⟩
      · exact h.tup s hp' (rv.append rw')
    · exact h.elim
  · rename_i n m
    split at h
    · rename_i xs ys q1 q2
      unfold mkL at h
      split at h
      · rename_i hl
        obtain ⟨p, vs, rfl, _, hp, rv⟩ := mutL s q1 ra
        obtain ⟨q, ws, rfl, _, hq, rw'⟩ := mutL s q2 rb
        refine .inr (.inr ⟨p, q, vs, ws, rfl, rfl, hp, hq, ?_, fun p' hp' => ?_⟩)
        · rw [rv.length, rw'.length, ← List.length_append]; exact lim_size hl
        · exact h.new s hp' ⟨_, upd_same, RepL.kp (Pre.snoc _ _) (Kp.new hp') _ _ (rv.append rw')⟩
      · exact h.elim
    · exact h.elim
  · exact h.elim
theorem bigI_ok {i : Int} (h : bigI i = true) : -(2 ^ 64) < i ∧ i < 2 ^ 64 := by
  unfold bigI at h
  simpa using h
theorem opMul_snd {a b : D} (s : RepS K fa ρ H st) (ra : RepD K fa ρ H a x) (rb : RepD K fa ρ H b y) (h : Pst K fa (RepD K fa) ρ H (opMul a b st) Q) : r2 K .mul x y H Q := by
  unfold opMul at h
  split at h
  · cases ra; cases rb
    split at h
    · rename_i c
      refine .inl ⟨_, _, rfl, rfl, ?_, h.here s rfl⟩
      rcases Bool.or_eq_true_iff.mp c with c | c
      · exact .inl (bigI_ok c)
      · exact .inr (bigI_ok c)
    · exact h.elim
  · rename_i xs j
    split at h
    · rename_i c
      simp only [Bool.and_eq_true, decide_eq_true_eq] at c
      obtain ⟨p, vs, rfl, hp, rv⟩ := ra
      cases rb
      refine .inr ⟨p, j, vs, rfl, rfl, hp, c.2.2, c.2.1, by rw [rv.length]; exact c.1, fun e => ?_, fun e1 e2 p' hp' => ?_, fun e1 e2 p' hp' => ?_⟩
      · have e' : MP.reps xs j.toNat = xs := by
          rcases e with e | e
          · have : xs = [] := rv.nil_iff.mp e
            subst this
            generalize j.toNat = n
            induction n with
            | zero => rfl
            | succ n ih => simp [reps, ih]
          · subst e
            simp [reps]
        rw [e'] at h
        exact h.here s ⟨p, vs, rfl, hp, rv⟩
      · have : j.toNat = 0 := by omega
        rw [this] at h
        exact h.tup s hp' rfl
      · rw [← reps_eq]
        exact h.tup s hp' (rv.reps _)
    · exact h.elim
  · exact h.elim
theorem opCmp_snd {f : Int → Int → Bool} {a b : D} (s : RepS K fa ρ H st) (ra : RepD K fa ρ H a x) (rb : RepD K fa ρ H b y) (h : Pst K fa (RepD K fa) ρ H (opCmp f a b st) Q) : rI0 (fun i j => .bl (f i j)) x y H Q := by
  unfold opCmp at h
  split at h
  · cases ra; cases rb
    exact ⟨_, _, rfl, rfl, h.here s rfl⟩
  · exact h.elim
theorem pyEq_dp {a b : D} {k : Bool} (s : RepS K fa ρ H st) (ra : RepD K fa ρ H a x) (rb : RepD K fa ρ H b y) (h : pyEq st a b = some k) : ∃ d e, Dp K H x d ∧ Dp K H y e ∧ SeqAt.shaped d = true ∧ SeqAt.shaped e = true ∧ PyData.eqv d e = k := by
  unfold pyEq at h
  split at h
  · rename_i p q e1 e2
    split at h
    · rename_i c
      obtain ⟨c1, c2⟩ := Bool.and_eq_true_iff.mp c
      exact ⟨p, q, toP_dp s 20 _ _ _ e1 ra, toP_dp s 20 _ _ _ e2 rb, c1, c2, Option.some.inj h⟩
    · cases h
  · cases h
theorem opIn_snd {neg : Bool} {a b : D} (s : RepS K fa ρ H st) (ra : RepD K fa ρ H a x) (rb : RepD K fa ρ H b y) (h : Pst K fa (RepD K fa) ρ H (opIn neg a b st) Q) :
    ∃ d ds, Dp K H x d ∧ Dp K H y (.list ds) ∧ SeqAt.shaped d = true ∧ SeqAt.shaped (.list ds) = true ∧ Q (.bl (xor neg (ds.any fun z => PyData.eqv z d))) H := by
  unfold opIn at h
  split at h
  · rename_i n
    split at h
    · rename_i ys ey
      split at h
      · rename_i p qs e1 e2
        split at h
        · rename_i c
          obtain ⟨c1, c2⟩ := Bool.and_eq_true_iff.mp c
          obtain ⟨p1, vs, e3, h1, h2⟩ := lstAt_rep s ey
          obtain ⟨p2, rfl, e4⟩ := rb
          rw [e3] at e4
          cases e4
          exact ⟨p, qs, toP_dp s 20 _ _ _ e1 ra, .lst h1 (optAll_dp (toP_dp s 20) _ _ _ e2 h2), c1, c2, h.here s rfl⟩
        · exact h.elim
      · exact h.elim
    · exact h.elim
  · exact h.elim
theorem op2_snd (o : B2) {a b : D} (s : RepS K fa ρ H st) (ra : RepD K fa ρ H a x) (rb : RepD K fa ρ H b y) (h : Pst K fa (RepD K fa) ρ H (op2 o a b st) Q) : r2 K o x y H Q := by
  unfold op2 at h
  split at h
  · exact opAdd_snd s ra rb h
  · cases ra; cases rb
    exact ⟨_, _, rfl, rfl, h.here s rfl⟩
  · exact opMul_snd s ra rb h
  · cases ra; cases rb
    split at h
    · rename_i c
      simp only [Bool.and_eq_true, decide_eq_true_eq] at c
      exact ⟨_, _, rfl, rfl, c, h.here s rfl⟩
    · exact h.elim
  · cases ra; cases rb
    split at h
    · rename_i c
      exact ⟨_, _, rfl, rfl, by simpa using c, h.here s rfl⟩
    · exact h.elim
  · cases ra; cases rb
    split at h
    · rename_i c
      simp only [Bool.and_eq_true, decide_eq_true_eq] at c
      exact ⟨_, _, rfl, rfl, ⟨c.1.1, by omega, by omega⟩, h.here s rfl⟩
    · exact h.elim
  · split at h
    · rename_i k e
      obtain ⟨d, d2, h1, h2, h3, h4, rfl⟩ := pyEq_dp s ra rb e
      exact ⟨d, d2, h1, h2, h3, h4, h.here s rfl⟩
    · exact h.elim
  · split at h
    · rename_i k e
      obtain ⟨d, d2, h1, h2, h3, h4, rfl⟩ := pyEq_dp s ra rb e
      exact ⟨d, d2, h1, h2, h3, h4, h.here s rfl⟩
    · exact h.elim
  · exact opCmp_snd s ra rb h
  · exact opCmp_snd s ra rb h
  · exact opCmp_snd s ra rb h
  · exact opCmp_snd s ra rb h
  · obtain ⟨d, ds, h1, h2, h3, h4, q⟩ := opIn_snd s ra rb h
    exact ⟨d, ds, h1, h2, h3, h4, by simpa using q⟩
  · obtain ⟨d, ds, h1, h2, h3, h4, q⟩ := opIn_snd s ra rb h
    exact ⟨d, ds, h1, h2, h3, h4, by simpa using q⟩
  · cases ra; cases rb
    exact ⟨_, _, rfl, rfl, h.here s rfl⟩
  · cases ra; cases rb
    exact ⟨_, _, rfl, rfl, h.here s rfl⟩
  · exact h.elim
end
/-- the layer's rules of these operators -/
def b2op : B2 → Option Operator
  | .add => some .Add | .sub => some .Sub | .mul => some .Mult | .fdiv => some .FloorDiv | .mod => some .Mod | .pow => some .Pow
  | _ => none
def b2cmp : B2 → Option CmpOp
  | .eq => some .Eq | .ne => some .NotEq | .lt => some .Lt | .le => some .LtE | .gt => some .Gt | .ge => some .GtE | .inn => some .In | .nin => some .NotIn
  | _ => none
section
variable {X : Cx}
theorem b2op_ok {o : B2} {op : Operator} (h : b2op o = some op) : OpR X (binaryOp op) (r2 X.K o) := by
  cases o <;> simp [b2op] at h <;> subst h
  · exact op_add.or (op_catA.or op_cat)
  · exact op_sub
  · exact op_mul.or op_repA
  · exact op_fdiv
  · exact op_mod
  · exact op_pow
theorem b2cmp_ok {o : B2} {op : CmpOp} (hu : X.A.units + 65 < cLine) (h : b2cmp o = some op) : OpR X (compareOp op) (r2 X.K o) := by
  cases o <;> simp [b2cmp] at h <;> subst h
  · exact op_eqD (by omega)
  · exact op_neD (by omega)
  · exact op_lt
  · exact op_le
  · exact op_gt
  · exact op_ge
  · exact op_inD hu
  · exact op_notInD hu
end
end MP
/-! ## MP5 -/
set_option Elab.async false
set_option linter.all false
set_option autoImplicit false
set_option maxRecDepth 100000
set_option maxHeartbeats 1000000
/-! MP5: one-place operations, truth, isinstance, subscripts, slices. -/
namespace MP
open PySem PySem.Spec PyProof.Rows L2
section
variable {K : PySem.W.Frag} {fa : Nat → Option Addr} {ρ : List Addr} {H : Hp} {st : Sto} {x y : V} {Q : VK}
theorem optAll_bls : ∀ {xs : List D} {vs : List V} {bs : List Bool}, optAll toB xs = some bs → RepL K fa ρ H xs vs → vs = bs.map V.bl
  | [], _, _, e, r => by cases e; cases r; rfl
  | x :: xs, _, bs, e, ⟨v, r, e2, h1, h2⟩ => by
    subst e2
    unfold optAll at e
    split at e
    · rename_i b eb
      split at e
      · rename_i bs' ebs
        cases e
        cases x <;> simp [toB] at eb
        subst eb
        cases h1
        rw [optAll_bls ebs h2]
        rfl
      · cases e
    · cases e
theorem optAll_ints : ∀ {xs : List D} {vs : List V} {bs : List Int}, optAll toI xs = some bs → RepL K fa ρ H xs vs → vs = bs.map V.int
  | [], _, _, e, r => by cases e; cases r; rfl
  | x :: xs, _, bs, e, ⟨v, r, e2, h1, h2⟩ => by
    subst e2
    unfold optAll at e
    split at e
    · rename_i b eb
      split at e
      · rename_i bs' ebs
        cases e
        cases x <;> simp [toI] at eb
        subst eb
        cases h1
        rw [optAll_ints ebs h2]
        rfl
      · cases e
    · cases e
theorem maxI_mem : ∀ (is : List Int) (m : Int), (maxI m is = m ∨ maxI m is ∈ is) ∧ m ≤ maxI m is ∧ ∀ y ∈ is, y ≤ maxI m is
  | [], m => ⟨.inl rfl, Int.le_refl _, by simp⟩
  | x :: xs, m => by
    obtain ⟨h1, h2, h3⟩ := maxI_mem xs (if m < x then x else m)
    unfold maxI
    split at h1
    · rename_i c
      rw [if_pos c] at h2 h3 ⊢
      refine ⟨.inr ?_, by omega, fun y hy => ?_⟩
      · rcases h1 with e | e
        · rw [e]; exact List.mem_cons_self
        · exact List.mem_cons_of_mem _ e
      · rcases List.mem_cons.mp hy with e | e
        · rw [e]; exact h2
        · exact h3 y e
    · rename_i c
      rw [if_neg c] at h2 h3 ⊢
      refine ⟨?_, h2, fun y hy => ?_⟩
      · rcases h1 with e | e
        · exact .inl e
        · exact .inr (List.mem_cons_of_mem _ e)
      · rcases List.mem_cons.mp hy with e | e
        · rw [e]; omega
        · exact h3 y e
theorem minI_mem : ∀ (is : List Int) (m : Int), (minI m is = m ∨ minI m is ∈ is) ∧ minI m is ≤ m ∧ ∀ y ∈ is, minI m is ≤ y
  | [], m => ⟨.inl rfl, Int.le_refl _, by simp⟩
  | x :: xs, m => by
    obtain ⟨h1, h2, h3⟩ := minI_mem xs (if x < m then x else m)
    unfold minI
    split at h1
    · rename_i c
      rw [if_pos c] at h2 h3 ⊢
      refine ⟨.inr ?_, by omega, fun y hy => ?_⟩
      · rcases h1 with e | e
        · rw [e]; exact List.mem_cons_self
        · exact List.mem_cons_of_mem _ e
      · rcases List.mem_cons.mp hy with e | e
        · rw [e]; exact h2
        · exact h3 y e
    · rename_i c
      rw [if_neg c] at h2 h3 ⊢
      refine ⟨?_, h2, fun y hy => ?_⟩
      · rcases h1 with e | e
        · exact .inl e
        · exact .inr (List.mem_cons_of_mem _ e)
      · rcases List.mem_cons.mp hy with e | e
        · rw [e]; omega
        · exact h3 y e

/-- what the calls of built-ins ask of one argument -/
def c1 (K : PySem.W.Frag) : B1 → List V → Hp → VK → Prop
  | .len => fun xs H Q => (∃ p ys, xs = [.ref p] ∧ (SqL K H p ys ∨ SqT K H p ys) ∧ Q (.int ys.length) H) ∨ ∃ z, xs = [.str z] ∧ z.length ≤ sizeLine ∧ Q (.int z.length) H
  | .int => fun xs H Q => (∃ i, xs = [.int i] ∧ Q (.int i) H) ∨ ∃ k, xs = [.bl k] ∧ Q (.int (if k then 1 else 0)) H
  | .all => rAll K
  | .any => rAny K
  | .tuple => fun xs H Q => ∃ p ys, xs = [.ref p] ∧ ((SqL K H p ys ∧ ∀ l, H l = none → Q (.ref l) (upd H l (.tup ys))) ∨ (SqT K H p ys ∧ Q (.ref p) H))
  | .list => fun xs H Q => ∃ p ys, xs = [.ref p] ∧ (SqL K H p ys ∨ SqT K H p ys) ∧ ∀ l, H l = none → Q (.ref l) (upd H l (.lst ys))
  | .mxl => rMax K
  | .mnl => rMin K
  | _ => fun _ _ _ => False
theorem c1_snd {o : B1} {a : D} (ho : b1Call o) (s : RepS K fa ρ H st) (ra : RepD K fa ρ H a x) (h : Pst K fa (RepD K fa) ρ H (op1 o a st) Q) : c1 K o [x] H Q := by
  unfold op1 at h
  split at h
  · exact False.elim ho
  · cases ra
    split at h
    · rename_i c
      exact .inr ⟨_, rfl, lim_size c, h.here s rfl⟩
    · exact h.elim
  · split at h
    · rename_i xs e
      obtain ⟨p, vs, rfl, rl, q⟩ := seqOf_rep s ra e
      refine .inl ⟨p, vs, rfl, ?_, ?_⟩
      · rcases q with ⟨q, _⟩ | ⟨q, _⟩
        · exact .inl q
        · exact .inr q
      · rw [rl.length]; exact h.here s rfl
    · exact h.elim
  · cases ra
    exact .inl ⟨_, rfl, h.here s rfl⟩
  · cases ra
    exact .inr ⟨_, rfl, h.here s rfl⟩
  · split at h
    · rename_i xs e
      split at h
      · rename_i bs eb
        obtain ⟨p, vs, e1, q, rl⟩ := lstAt_rep s e
        obtain ⟨p2, rfl, e2⟩ := ra
        rw [e1] at e2
        cases e2
        have := optAll_bls eb rl
        subst this
        exact ⟨p, bs, rfl, q, h.here s rfl⟩
      · exact h.elim
    · exact h.elim
  · split at h
    · rename_i xs e
      split at h
      · rename_i bs eb
        obtain ⟨p, vs, e1, q, rl⟩ := lstAt_rep s e
        obtain ⟨p2, rfl, e2⟩ := ra
        rw [e1] at e2
        cases e2
        have := optAll_bls eb rl
        subst this
        exact ⟨p, bs, rfl, q, h.here s rfl⟩
      · exact h.elim
    · exact h.elim
  · split at h
    · rename_i xs e
      obtain ⟨p, vs, rfl, rl, q⟩ := seqOf_rep s ra e
      refine ⟨p, vs, rfl, ?_⟩
      rcases q with ⟨q, _⟩ | ⟨q, e2⟩
      · exact .inl ⟨q, fun l hl => h.tup s hl rl⟩
      · subst e2
        exact .inr ⟨q, h.here s ⟨p, vs, rfl, q, rl⟩⟩
    · exact h.elim
  · split at h
    · rename_i xs e
      obtain ⟨p, vs, rfl, rl, q⟩ := seqOf_rep s ra e
      refine ⟨p, vs, rfl, ?_, fun l hl => ?_⟩
      · rcases q with ⟨q, _⟩ | ⟨q, _⟩
        · exact .inl q
        · exact .inr q
      · exact h.new s hl ⟨_, upd_same, RepL.kp (Pre.snoc _ _) (Kp.new hl) _ _ rl⟩
    · exact h.elim
  · exact False.elim ho
  · exact False.elim ho
  · exact False.elim ho
  · split at h
    · rename_i xs e
      split at h
      · rename_i i is ei
        obtain ⟨p, vs, e1, q, rl⟩ := lstAt_rep s e
        obtain ⟨p2, rfl, e2⟩ := ra
        rw [e1] at e2
        cases e2
        have := optAll_ints ei rl
        subst this
        refine ⟨p, i :: is, rfl, q, Nat.zero_lt_succ _, fun m hm hy => ?_⟩
        obtain ⟨h1, h2, h3⟩ := maxI_mem is i
        have : m = maxI i is := by
          refine Int.le_antisymm ?_ (hy _ ?_)
          · rcases List.mem_cons.mp hm with e | e
            · rw [e]; exact h2
            · exact h3 _ e
          · rcases h1 with e | e
            · rw [e]; exact List.mem_cons_self
            · exact List.mem_cons_of_mem _ e
        subst this
        exact h.here s rfl
      · exact h.elim
    · exact h.elim
  · split at h
    · rename_i xs e
      split at h
      · rename_i i is ei
        obtain ⟨p, vs, e1, q, rl⟩ := lstAt_rep s e
        obtain ⟨p2, rfl, e2⟩ := ra
        rw [e1] at e2
        cases e2
        have := optAll_ints ei rl
        subst this
        refine ⟨p, i :: is, rfl, q, Nat.zero_lt_succ _, fun m hm hy => ?_⟩
        obtain ⟨h1, h2, h3⟩ := minI_mem is i
        have : m = minI i is := by
          refine Int.le_antisymm (hy _ ?_) ?_
          · rcases h1 with e | e
            · rw [e]; exact List.mem_cons_self
            · exact List.mem_cons_of_mem _ e
          · rcases List.mem_cons.mp hm with e | e
            · rw [e]; exact h2
            · exact h3 _ e
        subst this
        exact h.here s rfl
      · exact h.elim
    · exact h.elim
  · exact False.elim ho
  · exact False.elim ho
  · exact False.elim ho
  · exact h.elim

theorem isNon_rep {d : D} {v : V} (r : RepD K fa ρ H d v) : decide (v = .non) = isNon d := by
  cases d with
  | non => cases r; rfl
  | bl _ => cases r; rfl
  | int _ => cases r; rfl
  | str _ => cases r; rfl
  | tup _ => obtain ⟨_, _, rfl, _⟩ := r; rfl
  | loc _ => obtain ⟨_, rfl, _⟩ := r; rfl
  | fn _ => obtain ⟨_, rfl, _⟩ := r; rfl
/-! ### truth -/
theorem truth_snd {a : D} {b : Bool} (s : RepS K fa ρ H st) (ra : RepD K fa ρ H a x) (h : truthOf st a = some b) : TruV K x H b := by
  unfold truthOf at h
  split at h
  · cases ra; cases h; rfl
  · cases ra; cases h; rfl
  · cases ra; cases h; rfl
  · rename_i xs
    cases h
    obtain ⟨p, vs, rfl, hp, rv⟩ := ra
    refine .inr (.inl ⟨vs, hp, ?_⟩)
    cases xs with
    | nil => cases rv; rfl
    | cons => obtain ⟨_, _, rfl, _, _⟩ := rv; rfl
  · rename_i n
    split at h
    · rename_i xs q
      cases h
      obtain ⟨p, vs, rfl, _, hp, rv⟩ := mutL s q ra
      refine .inl ⟨vs, SqL.of hp, ?_⟩
      cases xs with
      | nil => cases rv; rfl
      | cons => obtain ⟨_, _, rfl, _, _⟩ := rv; rfl
    · rename_i xs q
      cases h
      obtain ⟨p, e, vs, h1, rv⟩ := s.at_ _ _ q
      obtain ⟨p2, rfl, e3⟩ := ra
      rw [e] at e3
      cases e3
      refine .inl ⟨vs, h1.sq, ?_⟩
      cases xs with
      | nil => cases rv; rfl
      | cons => obtain ⟨_, _, rfl, _, _⟩ := rv; rfl
    · rename_i kvs q
      cases h
      obtain ⟨p, e, ws, h1, rv⟩ := s.at_ _ _ q
      obtain ⟨p2, rfl, e3⟩ := ra
      rw [e] at e3
      cases e3
      refine .inr (.inr ⟨ws, h1, ?_⟩)
      cases kvs with
      | nil => cases rv; rfl
      | cons => obtain ⟨_, _, _, rfl, _⟩ := rv; rfl
    · cases h
  · cases h

/-! ### subscripts -/
def keyV : Key → D
  | .inl i => .int i
  | .inr z => .str z
theorem keyD_inj {a : D} {k : Key} (h : keyD a = some k) : a = keyV k := by
  cases a <;> simp [keyD] at h <;> subst h <;> rfl
theorem dGet_rep {kvs : List (D × D)} {ws : List (Key × V)} (r : RepKV K fa ρ H kvs ws) {k : Key} {d : D} (h : dGet kvs (keyV k) = some d) : ∃ v, valV ws k = some v ∧ RepD K fa ρ H d v := by
  induction kvs generalizing ws with
  | nil => simp [dGet] at h
  | cons p ps ih =>
    obtain ⟨k1, v, r', rfl, h0, h1, h2⟩ := r
    obtain ⟨a, b⟩ := p
    have ea : a = keyV k1 := keyD_inj h0
    subst ea
    unfold dGet at h
    have key : D.eqb (keyV k1) (keyV k) = decide (k1 = k) := by
      cases k1 with
      | inl i => cases k with
        | inl j => simp [keyV, D.eqb]
        | inr z => simp [keyV, D.eqb]
      | inr i => cases k with
        | inl j => simp [keyV, D.eqb]
        | inr z => simp [keyV, D.eqb]
    rw [key] at h
    by_cases c : k1 = k
    · rw [if_pos (by simpa using c)] at h
      cases h
      exact ⟨v, by simp [valV, c], h1⟩
    · rw [if_neg (by simpa using c)] at h
      obtain ⟨w, e1, e2⟩ := ih h2 h
      refine ⟨w, ?_, e2⟩
      unfold valV at e1 ⊢
      rw [List.find?_cons_of_neg (by simpa using c)]
      exact e1
def rDk : R2 := fun x y H Q => ∃ p kvs k v, x = .ref p ∧ y = kV k ∧ H p = some (.dK kvs) ∧ valV kvs k = some v ∧ Q v H
def rIxA (K : PySem.W.Frag) : R2 := fun x y H Q => rIx K x y H Q ∨ rDk x y H Q
theorem opIdx_snd {a b : D} (s : RepS K fa ρ H st) (ra : RepD K fa ρ H a x) (rb : RepD K fa ρ H b y) (h : Pst K fa (RepD K fa) ρ H (opIdx a b st) Q) : rIxA K x y H Q := by
  unfold opIdx at h
  split at h
  · split at h
    · rename_i d e
      obtain ⟨p, vs, rfl, hp, rv⟩ := ra
      cases rb
      obtain ⟨v, e1, r⟩ := atI_rep rv e
      exact .inl (.inr (.inl ⟨p, vs, _, v, rfl, rfl, hp, e1, h.here s r⟩))
    · exact h.elim
  · split at h
    · rename_i q
      split at h
      · rename_i d e
        obtain ⟨p, vs, rfl, _, hp, rv⟩ := mutL s q ra
        cases rb
        obtain ⟨v, e1, r⟩ := atI_rep rv e
        exact .inl (.inl ⟨p, vs, _, v, rfl, rfl, SqL.of hp, e1, h.here s r⟩)
      · exact h.elim
    · rename_i q
      split at h
      · rename_i d e
        obtain ⟨p, e0, vs, h1, rv⟩ := s.at_ _ _ q
        obtain ⟨p2, rfl, e3⟩ := ra
        rw [e0] at e3
        cases e3
        cases rb
        obtain ⟨v, e1, r⟩ := atI_rep rv e
        exact .inl (.inl ⟨p, vs, _, v, rfl, rfl, h1.sq, e1, h.here s r⟩)
      · exact h.elim
    · rename_i k q
      split at h
      · rename_i d e
        obtain ⟨p, e0, ws, h1, rv⟩ := s.at_ _ _ q
        obtain ⟨p2, rfl, e3⟩ := ra
        rw [e0] at e3
        cases e3
        cases rb
        obtain ⟨v, e1, r⟩ := dGet_rep (k := .inr k) rv e
        exact .inr ⟨p, ws, .inr k, v, rfl, rfl, h1, e1, h.here s r⟩
      · exact h.elim
    · rename_i k q
      split at h
      · rename_i d e
        obtain ⟨p, e0, ws, h1, rv⟩ := s.at_ _ _ q
        obtain ⟨p2, rfl, e3⟩ := ra
        rw [e0] at e3
        cases e3
        cases rb
        obtain ⟨v, e1, r⟩ := dGet_rep (k := .inl k) rv e
        exact .inr ⟨p, ws, .inl k, v, rfl, rfl, h1, e1, h.here s r⟩
      · exact h.elim
    · exact h.elim
  · exact h.elim
theorem ix_dk {X : Cx} (hu : X.A.units + 1 < cLine) : IxR X rDk := by
  intro value slice pins s σ H x y v u Q I rx ry h hs
  obtain ⟨p, kvs, k, w, rfl, rfl, hp, e, q⟩ := h
  obtain rfl : v = Value.ref p := rx
  have g : DGet H p (kV k) (some w) := by rw [← e]; exact DGet.k hp
  exact tail_any (dict_typeIs I g) slot_dict_getitem.lookup (d_getItem hu I g ry fun w' s' I' r' => ⟨w, H, I', r', q⟩) hs
theorem ix_all {X : Cx} (hu : X.A.units + 1 < cLine) : IxR X (rIxA X.K) := ix_seq.or (ix_dk hu)

/-! ### slices -/
theorem bnd_eq {n d : Nat} (hd : d ≤ n) {b : D} {v : V} {i : Nat} (rb : RepD K fa ρ H b v) (h : bnd n d b = some i) : (v = .non ∧ HT.sIx n d none = i) ∨ ∃ j, v = .int j ∧ HT.sIx n d (some j) = i := by
  unfold bnd at h
  split at h
  · cases rb; cases h; exact .inl ⟨rfl, rfl⟩
  · rename_i j
    cases rb
    have h := Option.some.inj h
    refine .inr ⟨j, rfl, ?_⟩
    have e : ((HT.sIx n d (some j) : Nat) : Int) = if j < 0 then max (j + (n : Int)) 0 else min j (n : Int) := (HT.clip_eq j n d).symm
    split at h
    · rename_i c
      rw [if_pos c] at e
      omega
    · rename_i c
      rw [if_neg c] at e
      omega
  · cases h
def rSlAny (K : PySem.W.Frag) : V → Option Int → Option Int → Hp → VK → Prop := fun x lo hi H Q => rSlA K x lo hi H Q ∨ rSlL K x lo hi H Q
theorem cut_rep {xs : List D} {vs : List V} (r : RepL K fa ρ H xs vs) (i j : Nat) : RepL K fa ρ H (cutD xs i j) ((vs.drop i).take (j - i)) := (r.drop i).take _
end
end MP
/-! ## MP6 -/
set_option Elab.async false
set_option linter.all false
set_option autoImplicit false
set_option maxRecDepth 100000
set_option maxHeartbeats 1000000
/-! MP6: each form of an expression, by its parts. -/
namespace MP
open PySem PySem.Spec PyProof.Rows L2

/-! ### argument lists without stars -/
def plainX : Expr → Bool
  | .Starred _ _ => false
  | _ => true
theorem star_cons {e : Expr} {es : List Expr} {env : PySem.Env} (h : plainX e = true) : starEach (e :: es) env = (false, eval e env) :: starEach es env := by
  cases e <;> first | rfl | cases h
theorem star_all : ∀ {es : List Expr} {env : PySem.Env}, es.all plainX = true → ∀ p ∈ starEach es env, p.1 = false
  | [], _, _, p, hp => by cases hp
  | e :: es, env, h, p, hp => by
    simp only [List.all_cons, Bool.and_eq_true] at h
    rw [star_cons h.1] at hp
    rcases List.mem_cons.mp hp with q | q
    · rw [q]
    · exact star_all h.2 p q
theorem back_all {es : List Expr} {env : PySem.Env} {pos : Pos} (h : es.all plainX = true) : (backTo pos (starEach es env)).any (·.1) = false := by
  rw [List.any_eq_false]
  intro p hp
  unfold backTo at hp
  obtain ⟨q, hq, e⟩ := List.mem_map.mp hp
  have := star_all h q hq
  rw [← e]
  simpa using this

section
variable {X : Cx} {fa : Nat → Option Addr} {cl : Nat → List D → Sto → R D} {k : Nat}
abbrev PEv (X : Cx) (fa : Nat → Option Addr) (cl : Nat → List D → Sto → R D) (e : Expr) (c : CE) : Prop := PE X e (tE X.K fa (evE cl c))
abbrev PTv (X : Cx) (fa : Nat → Option Addr) (cl : Nat → List D → Sto → R D) (e : Expr) (c : CE) : Prop := PT X e (tT X.K fa (evE cl c))
abbrev PAv (X : Cx) (fa : Nat → Option Addr) (cl : Nat → List D → Sto → R D) (es : List Expr) (cs : List CE) : Prop := PA X es (tA X.K fa (evEs cl cs))

theorem s_var {i : Nat} {x : Str} {pos : Pos} (hN : X.N[i]? = some x) (hv : Vis X.env.scope x) (hd : (x == ("__debug__" : Str)) = false) (hcd : (x == ("__classdict__" : Str)) = false) : PEv X fa cl (.Name x pos) (.var i) := by
  refine PE.imp (pe_var hN hv hd hcd) fun σ H Q ⟨ρ, env, st, e, s, h⟩ => ?_
  unfold evE at h
  split at h
  · rename_i d q
    obtain ⟨v, e1, r⟩ := e.2 i d q
    exact ⟨v, e1, h.here s r⟩
  · exact h.elim
theorem s_const {e : Expr} {v : V} {d : D} (h : PE X e (tC v)) (r : ∀ ρ H, RepD X.K fa ρ H d v) : PEv X fa cl e (.cst d) :=
  PE.imp h fun σ H Q ⟨ρ, env, st, e, s, h⟩ => by
    unfold evE at h
    exact h.here s (r ρ H)
theorem s_op {o : B2} {op : Operator} {a b : Expr} {ca cb : CE} {pos : Pos} (ho : b2op o = some op) (ha : PEv X fa cl a ca) (hb : PEv X fa cl b cb) : PEv X fa cl (.BinOp a op b pos) (.b2 o ca cb) := by
  refine PE.imp (pe_op (b2op_ok ho) ha hb) fun σ H Q ⟨ρ, env, st, e, s, h⟩ => ?_
  unfold evE at h
  refine tE.first e s h fun d st1 ρ1 H1 v e1 s1 r1 p1 k1 h1 => tE.first e1 s1 h1 fun d2 st2 ρ2 H2 v2 e2 s2 r2 p2 k2 h2 => ?_
  exact op2_snd o s2 (RepD.kp p2 k2 _ _ r1) r2 h2
theorem s_cmp {o : B2} {op : CmpOp} {a b : Expr} {ca cb : CE} {pos : Pos} (hu : X.A.units + 65 < cLine) (ho : b2cmp o = some op) (hm : behindInMarks op b = false) (ha : PEv X fa cl a ca) (hb : PEv X fa cl b cb) : PEv X fa cl (.Compare a [op] [b] pos) (.b2 o ca cb) := by
  refine PE.imp (pe_cmpR (b2cmp_ok hu ho) ha hb hm) fun σ H Q ⟨ρ, env, st, e, s, h⟩ => ?_
  unfold evE at h
  refine tE.first e s h fun d st1 ρ1 H1 v e1 s1 r1 p1 k1 h1 => tE.first e1 s1 h1 fun d2 st2 ρ2 H2 v2 e2 s2 r2 p2 k2 h2 => ?_
  exact op2_snd o s2 (RepD.kp p2 k2 _ _ r1) r2 h2
theorem s_chain {o o' : B2} {op op' : CmpOp} {a b c : Expr} {ca cb cc : CE} {pos : Pos} (hu : X.A.units + 65 < cLine) (ho : b2cmp o = some op) (ho' : b2cmp o' = some op') (hm : lastMarks [op, op'] [b, c] = false) (ha : PEv X fa cl a ca) (hb : PEv X fa cl b cb) (hc : PEv X fa cl c cc) :
    PEv X fa cl (.Compare a [op, op'] [b, c] pos) (.chain o o' ca cb cc) := by
  refine PE.imp (pe_chain (b2cmp_ok hu ho) (b2cmp_ok hu ho') ha hb hc hm) fun σ H Q ⟨ρ, env, st, e, s, h⟩ => ?_
  unfold evE at h
  refine tE.first e s h fun d st1 ρ1 H1 v e1 s1 r1 p1 k1 h1 => tE.first e1 s1 h1 fun d2 st2 ρ2 H2 v2 e2 s2 r2 p2 k2 h2 => ?_
  refine op2_snd o s2 (RepD.kp p2 k2 _ _ r1) r2 (Pst.bind (RA := RepD X.K fa) h2 fun d3 st3 ρ3 H3 z p3 k3 s3 r3 h3 => ?_)
  split at h3
  · cases r3
    refine ⟨true, rfl, ?_⟩
    rw [if_pos rfl]
    exact tE.first (e2.kp p3 k3) s3 h3 fun d4 st4 ρ4 H4 w e4 s4 r4 p4 k4 h4 => op2_snd o' s4 (RepD.kp (p3.trans p4) (k3.trans k4) _ _ r2) r4 h4
  · cases r3
    refine ⟨false, rfl, ?_⟩
    rw [if_neg Bool.false_ne_true]
    exact h3.here s3 rfl
  · exact h3.elim
theorem s_neg {a : Expr} {ca : CE} {pos : Pos} (ha : PEv X fa cl a ca) : PEv X fa cl (.UnaryOp .USub a pos) (.b1 .neg ca) := by
  refine PE.imp (pe_un un_neg ha) fun σ H Q ⟨ρ, env, st, e, s, h⟩ => ?_
  unfold evE at h
  refine tE.first e s h fun d st1 ρ1 H1 v e1 s1 r1 p1 k1 h1 => ?_
  unfold op1 at h1
  cases d with
  | int i => cases r1; exact ⟨i, rfl, h1.here s1 rfl⟩
  | _ => exact h1.elim
theorem s_lnot {a : Expr} {ca : CE} {pos : Pos} (ha : PEv X fa cl a ca) : PEv X fa cl (.UnaryOp .Not a pos) (.b1 .lnot ca) := by
  refine PE.imp (pe_not ha) fun σ H Q ⟨ρ, env, st, e, s, h⟩ => ?_
  unfold evE at h
  refine tE.first e s h fun d st1 ρ1 H1 v e1 s1 r1 p1 k1 h1 => ?_
  unfold op1 at h1
  cases d with
  | bl i => cases r1; exact ⟨i, rfl, h1.here s1 rfl⟩
  | _ => exact h1.elim
theorem s_and {a b : Expr} {rest : List Expr} {ca cb : CE} {pos : Pos} (ha : PEv X fa cl a ca) (hb : PEv X fa cl (.BoolOp .And (b :: rest) pos) cb) : PEv X fa cl (.BoolOp .And (a :: b :: rest) pos) (.and ca cb) := by
  refine PE.imp (pe_and ha hb) fun σ H Q ⟨ρ, env, st, e, s, h⟩ => ?_
  unfold evE at h
  refine tE.first e s h fun d st1 ρ1 H1 v e1 s1 r1 p1 k1 h1 => ?_
  split at h1
  · cases r1
    refine ⟨true, rfl, ?_⟩
    rw [if_pos rfl]
    exact ⟨ρ1, env, st1, e1, s1, h1⟩
  · cases r1
    refine ⟨false, rfl, ?_⟩
    rw [if_neg Bool.false_ne_true]
    exact h1.here s1 rfl
  · exact h1.elim
theorem s_or {a b : Expr} {rest : List Expr} {ca cb : CE} {pos : Pos} (ha : PEv X fa cl a ca) (hb : PEv X fa cl (.BoolOp .Or (b :: rest) pos) cb) : PEv X fa cl (.BoolOp .Or (a :: b :: rest) pos) (.or ca cb) := by
  refine PE.imp (pe_or ha hb) fun σ H Q ⟨ρ, env, st, e, s, h⟩ => ?_
  unfold evE at h
  refine tE.first e s h fun d st1 ρ1 H1 v e1 s1 r1 p1 k1 h1 => ?_
  split at h1
  · cases r1
    refine ⟨true, rfl, ?_⟩
    rw [if_pos rfl]
    exact h1.here s1 rfl
  · cases r1
    refine ⟨false, rfl, ?_⟩
    rw [if_neg Bool.false_ne_true]
    exact ⟨ρ1, env, st1, e1, s1, h1⟩
  · exact h1.elim
theorem s_isN {a : Expr} {ca : CE} {pos pos' : Pos} {j : Nat} (ha : PEv X fa cl a ca) : PEv X fa cl (.Compare a [.Is] [.Constant .none j pos'] pos) (.b1 .isN ca) := by
  refine PE.imp (pe_cmp (pc_isN ha)) fun σ H Q ⟨ρ, env, st, e, s, h⟩ => ?_
  unfold evE at h
  refine tE.first e s h fun d st1 ρ1 H1 v e1 s1 r1 p1 k1 h1 => ?_
  unfold op1 at h1
  rw [isNon_rep r1]
  exact h1.here s1 rfl
theorem s_notN {a : Expr} {ca : CE} {pos pos' : Pos} {j : Nat} (ha : PEv X fa cl a ca) : PEv X fa cl (.Compare a [.IsNot] [.Constant .none j pos'] pos) (.b1 .notN ca) := by
  refine PE.imp (pe_cmp (pc_notN ha)) fun σ H Q ⟨ρ, env, st, e, s, h⟩ => ?_
  unfold evE at h
  refine tE.first e s h fun d st1 ρ1 H1 v e1 s1 r1 p1 k1 h1 => ?_
  unfold op1 at h1
  rw [isNon_rep r1]
  exact h1.here s1 rfl
theorem s_isF {a : Expr} {ca : CE} {pos pos' : Pos} {j : Nat} (ha : PEv X fa cl a ca) : PEv X fa cl (.Compare a [.Is] [.Constant (.bool false) j pos'] pos) (.b1 .isF ca) := by
  refine PE.imp (pe_cmpR op_isBl ha pe_bl (nomark _)) fun σ H Q ⟨ρ, env, st, e, s, h⟩ => ?_
  unfold evE at h
  refine tE.first e s h fun d st1 ρ1 H1 v e1 s1 r1 p1 k1 h1 => ?_
  unfold op1 at h1
  cases d with
  | bl b =>
    cases r1
    refine ⟨b, false, rfl, rfl, ?_⟩
    have : decide (b = false) = !b := by cases b <;> rfl
    rw [this]
    exact h1.here s1 rfl
  | _ => exact h1.elim

/-! ### argument lists, displays -/
theorem s_nil : PAv X fa cl [] [] := PA.imp pa_nil fun σ H Q ⟨ρ, env, st, e, s, h⟩ => by
  unfold evEs at h
  exact h.here s rfl
theorem s_cons {e : Expr} {es : List Expr} {c : CE} {cs : List CE} (hp : plainX e = true) (he : PEv X fa cl e c) (hs : PAv X fa cl es cs) : PAv X fa cl (e :: es) (c :: cs) := by
  refine PA.imp (pa_cons he hs (star_cons hp)) fun σ H Q ⟨ρ, env, st, e, s, h⟩ => ?_
  unfold evEs at h
  refine tE.first e s h fun d st1 ρ1 H1 v e1 s1 r1 p1 k1 h1 => tA.first e1 s1 h1 fun d2 st2 ρ2 H2 v2 e2 s2 r2 p2 k2 h2 => ?_
  exact h2.here s2 ⟨v, v2, rfl, RepD.kp p2 k2 _ _ r1, r2⟩
theorem s_tup {es : List Expr} {cs : List CE} {j : Nat} {pos : Pos} (hs : PAv X fa cl es cs) : PEv X fa cl (.Tuple es j pos) (.tup cs) := by
  refine PE.imp (pe_tup hs) fun σ H Q ⟨ρ, env, st, e, s, h⟩ => ?_
  unfold evE at h
  refine tA.first e s h fun d st1 ρ1 H1 v e1 s1 r1 p1 k1 h1 => ?_
  unfold mkT at h1
  split at h1
  · rename_i c
    exact ⟨by rw [r1.length]; exact lim_size c, fun p hp => h1.tup s1 hp r1⟩
  · exact h1.elim
theorem s_lst {es : List Expr} {cs : List CE} {pos : Pos} (hs : PAv X fa cl es cs) : PEv X fa cl (.List es pos) (.lst cs) := by
  refine PE.imp (pe_lst hs) fun σ H Q ⟨ρ, env, st, e, s, h⟩ => ?_
  unfold evE at h
  refine tA.first e s h fun d st1 ρ1 H1 v e1 s1 r1 p1 k1 h1 => ?_
  unfold mkL at h1
  split at h1
  · rename_i c
    exact ⟨by rw [r1.length]; exact lim_size c, fun p hp => h1.new s1 hp ⟨_, upd_same, RepL.kp (Pre.snoc _ _) (Kp.new hp) _ _ r1⟩⟩
  · exact h1.elim

/-! ### subscripts, slices -/
def plainI : Expr → Bool
  | .Slice _ _ _ _ => false
  | .Tuple _ _ _ => false
  | .Starred _ _ => false
  | _ => true
theorem plainIx_of {b : Expr} (h : plainI b = true) : PlainIx b := by
  intro o i
  cases b <;> first | rfl | cases h
theorem s_idx {a b : Expr} {ca cb : CE} {pos : Pos} (hu : X.A.units + 1 < cLine) (hp : plainI b = true) (ha : PEv X fa cl a ca) (hb : PEv X fa cl b cb) : PEv X fa cl (.Subscript a b pos) (.idx ca cb) := by
  refine PE.imp (pe_ix (ix_all hu) ha hb (plainIx_of hp)) fun σ H Q ⟨ρ, env, st, e, s, h⟩ => ?_
  unfold evE at h
  refine tE.first e s h fun d st1 ρ1 H1 v e1 s1 r1 p1 k1 h1 => tE.first e1 s1 h1 fun d2 st2 ρ2 H2 v2 e2 s2 r2 p2 k2 h2 => ?_
  exact opIdx_snd s2 (RepD.kp p2 k2 _ _ r1) r2 h2
def oV : Option Int → V
  | some i => .int i
  | none => .non
def tO (K : PySem.W.Frag) (fa : Nat → Option Addr) (ev : EvF) : TO := fun σ H Q => ∃ ρ env st, RepE K fa ρ H env σ ∧ RepS K fa ρ H st ∧ Pst K fa (fun ρ H d o => RepD K fa ρ H d (oV o)) ρ H (ev env st) Q
theorem PO.imp {e : Option Expr} {t t' : TO} (h : PO X e t) (i : ∀ σ H Q, t' σ H Q → t σ H Q) : PO X e t' := ⟨fun pins s σ H Q I q => h.run pins s σ H Q I (i σ H Q q)⟩
abbrev POv (X : Cx) (fa : Nat → Option Addr) (cl : Nat → List D → Sto → R D) (e : Option Expr) (c : CE) : Prop := PO X e (tO X.K fa (evE cl c))
theorem s_poN : POv X fa cl none (.cst .non) := PO.imp po_none fun σ H Q ⟨ρ, env, st, e, s, h⟩ => by
  unfold evE at h
  exact h.here (v := none) s rfl
theorem s_poS {e : Expr} {c : CE} (he : PEv X fa cl e c) : POv X fa cl (some e) (.b1 .asI c) := PO.imp (po_some he) fun σ H Q ⟨ρ, env, st, e, s, h⟩ => by
  unfold evE at h
  refine tE.first e s h fun d st1 ρ1 H1 v e1 s1 r1 p1 k1 h1 => ?_
  unfold op1 at h1
  cases d with
  | int i => cases r1; exact ⟨i, rfl, h1.here (v := some i) s1 rfl⟩
  | _ => exact h1.elim
theorem s_slc {a : Expr} {lo hi : Option Expr} {ca cl' ch : CE} {pos p2 : Pos} (ha : PEv X fa cl a ca) (hl : POv X fa cl lo cl') (hh : POv X fa cl hi ch) : PEv X fa cl (.Subscript a (.Slice lo hi none p2) pos) (.slc ca cl' ch) := by
  refine PE.imp (pe_slice (r := rSlAny X.K) (SlR.or sl_tupA sl_list) ha hl hh) fun σ H Q ⟨ρ, env, st, e, s, h⟩ => ?_
  unfold evE at h
  refine tE.first e s h fun d st1 ρ1 H1 v e1 s1 r1 p1 k1 h1 => ?_
  refine ⟨ρ1, env, st1, e1, s1, Pst.bind h1 fun d2 st2 ρ2 H2 v2 p2 k2 s2 r2 h2 => ?_⟩
  refine ⟨ρ2, env, st2, e1.kp p2 k2, s2, Pst.bind h2 fun d3 st3 ρ3 H3 v3 p3 k3 s3 r3 h3 => ?_⟩
  have rd := RepD.kp (p2.trans p3) (k2.trans k3) _ _ r1
  have rl : RepD X.K fa ρ3 H3 d2 (oV v2) := RepD.kp p3 k3 _ _ r2
  unfold opSlc at h3
  split at h3
  · exact h3.elim
  · rename_i xs eq
    split at h3
    · rename_i i j ei ej
      obtain ⟨p, vs, rfl, rv, q⟩ := seqOf_rep s3 rd eq
      have hi : HT.sIx vs.length 0 v2 = i := by
        rw [rv.length]
        rcases bnd_eq (Nat.zero_le _) rl ei with ⟨z1, z2⟩ | ⟨j1, z1, z2⟩
        · cases v2 with
          | none => exact z2
          | some y => cases z1
        · cases v2 with
          | none => cases z1
          | some y => cases z1; exact z2
      have hj : HT.sIx vs.length vs.length v3 = j := by
        rw [rv.length]
        rcases bnd_eq (Nat.le_refl _) r3 ej with ⟨z1, z2⟩ | ⟨j1, z1, z2⟩
        · cases v3 with
          | none => exact z2
          | some y => cases z1
        · cases v3 with
          | none => cases z1
          | some y => cases z1; exact z2
      rcases q with ⟨q, n, e2⟩ | ⟨q, e2⟩
      · subst e2
        refine .inr ⟨p, vs, rfl, q, fun p' hp' => ?_⟩
        have c := cut_rep rv i j
        unfold cutV
        rw [hi, hj]
        exact h3.new s3 hp' ⟨_, upd_same, RepL.kp (Pre.snoc _ _) (Kp.new hp') _ _ c⟩
      · subst e2
        have c := cut_rep rv i j
        refine .inl ⟨p, vs, rfl, q, fun hw => ?_, fun hw p' hp' => ?_⟩
        · rw [hi, hj] at hw
          obtain ⟨w1, w2⟩ := hw
          rw [w1, w2, rv.length] at h3
          have : cutD xs 0 xs.length = xs := by simp [cutD]
          rw [this] at h3
          exact h3.here s3 ⟨p, vs, rfl, q, rv⟩
        · unfold cutV
          rw [hi, hj]
          exact h3.tup s3 hp' c
    · exact h3.elim
end
end MP
/-! ## MP7 -/
set_option Elab.async false
set_option linter.all false
set_option autoImplicit false
set_option maxRecDepth 100000
set_option maxHeartbeats 1000000
/-! MP7: tests, conditional expressions, calls, what is walked, comprehensions. -/
namespace MP
open PySem PySem.Spec PyProof.Rows L2

theorem op1_truth (x : D) (st : Sto) : op1 .truth x st = match truthOf st x with | some b => .ok (.bl b) st | none => .bad := by cases x <;> rfl
section
variable {X : Cx} {fa : Nat → Option Addr} {cl : Nat → List D → Sto → R D} {k : Nat}
/-! ### tests -/
theorem t_truth {a : Expr} {ca : CE} (he : ∀ whole, isTrue a X.env whole = (do let v ← whole; standAt a.pos; holding [v] (truthy v))) (ha : PEv X fa cl a ca) : PTv X fa cl a (.b1 .truth ca) := by
  refine PT.imp (pt_truth ha he) fun σ H Q ⟨ρ, env, st, e, s, h⟩ => ?_
  unfold evE at h
  refine tE.first e s h fun d st1 ρ1 H1 v e1 s1 r1 p1 k1 h1 => ?_
  rw [op1_truth] at h1
  split at h1
  · rename_i b hb
    exact ⟨b, truth_snd s1 r1 hb, h1.here s1 rfl⟩
  · exact h1.elim
theorem op2_bl {o : B2} {op : CmpOp} (ho : b2cmp o = some op) {a b d : D} {st st' : Sto} (h : op2 o a b st = .ok d st') : ∃ z, d = .bl z := by
  unfold op2 at h
  cases o <;> simp [b2cmp] at ho
  · simp only at h; split at h <;> cases h; exact ⟨_, rfl⟩
  · simp only at h; split at h <;> cases h; exact ⟨_, rfl⟩
  · simp only at h; unfold opCmp at h; split at h <;> cases h; exact ⟨_, rfl⟩
  · simp only at h; unfold opCmp at h; split at h <;> cases h; exact ⟨_, rfl⟩
  · simp only at h; unfold opCmp at h; split at h <;> cases h; exact ⟨_, rfl⟩
  · simp only at h; unfold opCmp at h; split at h <;> cases h; exact ⟨_, rfl⟩
  · simp only at h; unfold opIn at h
    split at h
    · split at h
      · split at h
        · split at h
          · cases h; exact ⟨_, rfl⟩
          · cases h
        · cases h
      · cases h
    · cases h
  · simp only at h; unfold opIn at h
    split at h
    · split at h
      · split at h
        · split at h
          · cases h; exact ⟨_, rfl⟩
          · cases h
        · cases h
      · cases h
    · cases h
theorem t_cmp {o : B2} {op : CmpOp} {a b : Expr} {ca cb : CE} {pos : Pos} (hu : X.A.units + 65 < cLine) (ho : b2cmp o = some op) (hm : behindInMarks op b = false) (ha : PEv X fa cl a ca) (hb : PEv X fa cl b cb) : PTv X fa cl (.Compare a [op] [b] pos) (.b2 o ca cb) := by
  refine PT.imp (pt_cmpR (b2cmp_ok hu ho) ha hb hm) fun σ H Q ⟨ρ, env, st, e, s, h⟩ => ?_
  unfold evE at h
  refine tE.first e s h fun d st1 ρ1 H1 v e1 s1 r1 p1 k1 h1 => tE.first e1 s1 h1 fun d2 st2 ρ2 H2 v2 e2 s2 r2 p2 k2 h2 => ?_
  refine op2_snd o s2 (RepD.kp p2 k2 _ _ r1) r2 ?_
  cases q : op2 o d d2 st2 with
  | ok d3 st3 =>
    rw [q] at h2
    obtain ⟨z, rfl⟩ := op2_bl ho q
    intro ρ' H' v' p' k' s' r'
    cases r'
    exact ⟨z, rfl, h2 ρ' H' z p' k' s' rfl⟩
  | exc c fs st3 => rw [q] at h2; exact h2.elim
  | bad => rw [q] at h2; exact h2.elim
/-- the first part of a step, a test -/
theorem tT.first {γ δ : Type} {K : PySem.W.Frag} {ρ : List Addr} {H : Hp} {env : Env} {σ : L2.St} {st : Sto} {RB : List Addr → Hp → γ → δ → Prop} {ea : EvF} {f : D → Sto → R γ} {Q : δ → Hp → Prop} {K1 : Bool → Hp → Prop} (e : RepE K fa ρ H env σ) (s : RepS K fa ρ H st)
    (h : Pst K fa RB ρ H ((ea env st).bind f) Q) (c : ∀ b st1 ρ1 H1, RepE K fa ρ1 H1 env σ → RepS K fa ρ1 H1 st1 → Pre ρ ρ1 → Kp H H1 → Pst K fa RB ρ1 H1 (f (.bl b) st1) Q → K1 b H1) : tT K fa ea σ H K1 :=
  ⟨ρ, env, st, e, s, h.bind fun d st1 ρ1 H1 v p k s1 r q => by cases r; exact c v st1 ρ1 H1 (e.kp p k) s1 p k q⟩
theorem t_and1 {a : Expr} {ca : CE} {pos : Pos} (ha : PTv X fa cl a ca) : PW X (.BoolOp .And [a] pos) (tT X.K fa (evE cl ca)) := pw_and1 ha
theorem t_or1 {a : Expr} {ca : CE} {pos : Pos} (ha : PTv X fa cl a ca) : PW X (.BoolOp .Or [a] pos) (tT X.K fa (evE cl ca)) := pw_or1 ha
theorem t_and {a b : Expr} {rest : List Expr} {ca cb : CE} {pos : Pos} (ha : PTv X fa cl a ca) (hb : PW X (.BoolOp .And (b :: rest) pos) (tT X.K fa (evE cl cb))) : PW X (.BoolOp .And (a :: b :: rest) pos) (tT X.K fa (evE cl (.and ca cb))) := by
  refine PW.imp (pw_and ha hb) fun σ H Q ⟨ρ, env, st, e, s, h⟩ => ?_
  unfold evE at h
  refine tT.first e s h fun b st1 ρ1 H1 e1 s1 p1 k1 h1 => ?_
  cases b with
  | true => rw [if_pos rfl]; exact ⟨ρ1, env, st1, e1, s1, h1⟩
  | false => rw [if_neg Bool.false_ne_true]; exact h1.here s1 rfl
theorem t_or {a b : Expr} {rest : List Expr} {ca cb : CE} {pos : Pos} (ha : PTv X fa cl a ca) (hb : PW X (.BoolOp .Or (b :: rest) pos) (tT X.K fa (evE cl cb))) : PW X (.BoolOp .Or (a :: b :: rest) pos) (tT X.K fa (evE cl (.or ca cb))) := by
  refine PW.imp (pw_or ha hb) fun σ H Q ⟨ρ, env, st, e, s, h⟩ => ?_
  unfold evE at h
  refine tT.first e s h fun b st1 ρ1 H1 e1 s1 p1 k1 h1 => ?_
  cases b with
  | true => rw [if_pos rfl]; exact h1.here s1 rfl
  | false => rw [if_neg Bool.false_ne_true]; exact ⟨ρ1, env, st1, e1, s1, h1⟩
theorem t_not {a : Expr} {ca : CE} {pos : Pos} (ha : PTv X fa cl a ca) : PTv X fa cl (.UnaryOp .Not a pos) (.b1 .lnot ca) := by
  refine PT.imp (pt_not ha) fun σ H Q ⟨ρ, env, st, e, s, h⟩ => ?_
  unfold evE at h
  refine tT.first e s h fun b st1 ρ1 H1 e1 s1 p1 k1 h1 => ?_
  unfold op1 at h1
  exact h1.here s1 rfl
/-- a value that is True or False, as a test -/
theorem t_bl {a : Expr} {t : TE} {ca : CE} (h : PTv X fa cl a ca) : PTv X fa cl a ca := h
theorem s_ite {c a b : Expr} {cc ca cb : CE} {pos : Pos} (hc : PTv X fa cl c cc) (ha : PEv X fa cl a ca) (hb : PEv X fa cl b cb) : PEv X fa cl (.IfExp c a b pos) (.ite cc ca cb) := by
  refine PE.imp (pe_ifExp hc ha hb) fun σ H Q ⟨ρ, env, st, e, s, h⟩ => ?_
  unfold evE at h
  refine tT.first e s h fun b st1 ρ1 H1 e1 s1 p1 k1 h1 => ?_
  cases b with
  | true => rw [if_pos rfl]; exact ⟨ρ1, env, st1, e1, s1, h1⟩
  | false => rw [if_neg Bool.false_ne_true]; exact ⟨ρ1, env, st1, e1, s1, h1⟩

/-! ### calls of defs -/
def spOf (K : PySem.W.Frag) (fa : Nat → Option Addr) (cl : Nat → List D → Sto → R D) (g : Nat) : Sp := fun vs H Q _ => ∃ ρ st xs, RepS K fa ρ H st ∧ RepL K fa ρ H xs vs ∧ Pst K fa (RepD K fa) ρ H (cl g xs st) Q
theorem s_call {g : Nat} {x : Str} {f : Addr} {fd : FuncData} {ps : List Str} {ds : List Value} {dvs : List V} {dv : List D} {e : Expr} {es : List Expr} {cs : List CE} {p pos : Pos} (F : FnOk X.prog X.w X.K X.mg X.base CX0 k f fd ps (spOf X.K fa cl g)) (hr : Room k X.A)
    (hg : Gl X x) (hm : X.mg x = some (.ref f)) (hk : PySem.W.keepIn X.K (.ref f) = true) (hb : Binds X.K fd ps ds) (hd : Vals dvs ds) (rd : ∀ ρ H, RepL X.K fa ρ H dv dvs) (hpl : (e :: es).all plainX = true) (hdb : (x == ("__debug__" : Str)) = false) (hs : PAv X fa cl (e :: es) cs) :
    PEv X fa cl (.Call (.Name x p) (e :: es) [] pos) (.call g cs dv) := by
  have hp : plainX e = true ∧ es.all plainX = true := by simpa using hpl
  refine PE.imp (pe_call (E := E0) F hr hg hm hk hb hd pass0 hs hdb (star_cons hp.1) (back_all hp.2)) fun σ H Q ⟨ρ, env, st, e, s, h⟩ => ?_
  unfold evE at h
  refine tA.first e s h fun d st1 ρ1 H1 v e1 s1 r1 p1 k1 h1 => ?_
  exact ⟨ρ1, st1, d ++ dv, s1, r1.append (rd ρ1 H1), h1⟩
theorem s_call0 {g : Nat} {x : Str} {f : Addr} {fd : FuncData} {ps : List Str} {ds : List Value} {dvs : List V} {dv : List D} {p pos : Pos} (F : FnOk X.prog X.w X.K X.mg X.base CX0 k f fd ps (spOf X.K fa cl g)) (hr : Room k X.A)
    (hg : Gl X x) (hm : X.mg x = some (.ref f)) (hk : PySem.W.keepIn X.K (.ref f) = true) (hb : Binds X.K fd ps ds) (hd : Vals dvs ds) (rd : ∀ ρ H, RepL X.K fa ρ H dv dvs) (hdb : (x == ("__debug__" : Str)) = false) :
    PEv X fa cl (.Call (.Name x p) [] [] pos) (.call g [] dv) := by
  refine PE.imp (pe_call0 (E := E0) F hr hg hm hk hb hd pass0 hdb) fun σ H Q ⟨ρ, env, st, e, s, h⟩ => ?_
  unfold evE evEs at h
  exact ⟨ρ, st, dv, s, rd ρ H, h⟩

/-! ### calls of built-ins -/
theorem s_b1 {o : B1} {x : Str} {e : Expr} {c : CE} {p pos : Pos} (ho : b1Call o) (hp : plainX e = true)
    (hc : (∃ id, CallR X (.builtin id) (c1 X.K o) ∧ bootBuiltins x = some (.builtin id)) ∨ ∃ T, CallR X (.type T) (c1 X.K o) ∧ bootBuiltins x = some (.type T)) (hg : Gl X x) (hm : X.mg x = none) (hn : x ≠ "__name__") (hdb : (x == ("__debug__" : Str)) = false) (he : PEv X fa cl e c) :
    PEv X fa cl (.Call (.Name x p) [e] [] pos) (.b1 o c) := by
  have base : PE X (.Call (.Name x p) [e] [] pos) (tCB (c1 X.K o) (tCons (tE X.K fa (evE cl c)) tNil)) := by
    rcases hc with ⟨id, h1, h2⟩ | ⟨T, h1, h2⟩
    · exact pe_callB h1 hg hm h2 (pa_cons he pa_nil (star_cons hp)) hn hdb (star_cons hp) (back_all rfl)
    · exact pe_callTy h1 hg hm h2 (pa_cons he pa_nil (star_cons hp)) hn hdb (star_cons hp) (back_all rfl)
  refine PE.imp base fun σ H Q ⟨ρ, env, st, e, s, h⟩ => ?_
  unfold evE at h
  refine tE.first e s h fun d st1 ρ1 H1 v e1 s1 r1 p1 k1 h1 => ?_
  exact c1_snd ho s1 r1 h1
theorem cr_len : CallR X (.builtin "len") (c1 X.K .len) := call_len_seq.or call_len_str
theorem s_max2 {e e2 : Expr} {c c2 : CE} {p pos : Pos} (hc : X.calm = true) (hp : plainX e = true) (hp2 : plainX e2 = true) (hg : Gl X "max") (hm : X.mg "max" = none) (he : PEv X fa cl e c) (he2 : PEv X fa cl e2 c2) : PEv X fa cl (.Call (.Name "max" p) [e, e2] [] pos) (.b2 .mx c c2) := by
  refine PE.imp (pe_callB (call_max2 hc) hg hm (by decide +kernel) (pa_cons he (pa_cons he2 pa_nil (star_cons hp2)) (star_cons hp)) (by decide) (by decide) (star_cons hp) (back_all (by simp [hp2]))) fun σ H Q ⟨ρ, env, st, e, s, h⟩ => ?_
  unfold evE at h
  refine tE.first e s h fun d st1 ρ1 H1 v e1 s1 r1 p1 k1 h1 => tE.first e1 s1 h1 fun d2 st2 ρ2 H2 v2 e2 s2 r2 p2 k2 h2 => ?_
  obtain ⟨i, j, rfl, rfl, q⟩ := op2_snd .mx s2 (RepD.kp p2 k2 _ _ r1) r2 h2
  exact ⟨i, j, rfl, q⟩
theorem s_min2 {e e2 : Expr} {c c2 : CE} {p pos : Pos} (hc : X.calm = true) (hp : plainX e = true) (hp2 : plainX e2 = true) (hg : Gl X "min") (hm : X.mg "min" = none) (he : PEv X fa cl e c) (he2 : PEv X fa cl e2 c2) : PEv X fa cl (.Call (.Name "min" p) [e, e2] [] pos) (.b2 .mn c c2) := by
  refine PE.imp (pe_callB (call_min2 hc) hg hm (by decide +kernel) (pa_cons he (pa_cons he2 pa_nil (star_cons hp2)) (star_cons hp)) (by decide) (by decide) (star_cons hp) (back_all (by simp [hp2]))) fun σ H Q ⟨ρ, env, st, e, s, h⟩ => ?_
  unfold evE at h
  refine tE.first e s h fun d st1 ρ1 H1 v e1 s1 r1 p1 k1 h1 => tE.first e1 s1 h1 fun d2 st2 ρ2 H2 v2 e2 s2 r2 p2 k2 h2 => ?_
  obtain ⟨i, j, rfl, rfl, q⟩ := op2_snd .mn s2 (RepD.kp p2 k2 _ _ r1) r2 h2
  exact ⟨i, j, rfl, q⟩
end

/-! ### isinstance -/
def tyN : Ty → String
  | .int => "int" | .bool => "bool" | .str => "str" | .tuple => "tuple" | .list => "list"
section
variable {K : PySem.W.Frag} {fa : Nat → Option Addr} {ρ : List Addr} {H : Hp} {st : Sto} {x : V}
def kindN : Nat → String
  | 0 => "NoneType" | 1 => "bool" | 2 => "int" | 3 => "str" | 4 => "tuple" | 5 => "list" | _ => "dict"
theorem kind_le {a : D} {k : Nat} (h : kindD st a = some k) : k < 7 := by
  cases a <;> simp [kindD] at h <;> try omega
  obtain ⟨o, _, h⟩ := h
  cases o <;> simp [kindO] at h <;> omega
theorem tyx_of {a : D} {k : Nat} (s : RepS K fa ρ H st) (ra : RepD K fa ρ H a x) (h : kindD st a = some k) : TyX K H x (.type (kindN k)) := by
  cases a with
  | non => cases ra; cases h; exact .base .non
  | bl b => cases ra; cases h; exact .base (.bl _)
  | int b => cases ra; cases h; exact .base (.int _)
  | str b => cases ra; cases h; exact .base (.str _)
  | fn g => cases h
  | tup xs =>
    cases h
    obtain ⟨p, vs, rfl, hp, rv⟩ := ra
    rcases hp with (hp | ⟨o, hp⟩) | ⟨o, its, n, h1, h2, _⟩
    · exact .base (.tup hp)
    · exact .fTuple hp
    · exact .kTuple h1 h2
  | loc n =>
    simp only [kindD] at h
    obtain ⟨o, q, ho⟩ := Option.map_eq_some_iff.mp h
    obtain ⟨p, e, r⟩ := s.at_ _ _ q
    obtain ⟨p2, rfl, e2⟩ := ra
    rw [e] at e2
    cases e2
    cases o with
    | lst xs => cases ho; obtain ⟨vs, h1, h2⟩ := r; exact .base (.lst h1)
    | dct xs => cases ho; obtain ⟨vs, h1, h2⟩ := r; exact .base (.dK h1)
    | ro xs =>
      cases ho
      obtain ⟨vs, h1, h2⟩ := r
      rcases h1 with ⟨o, h1⟩ | ⟨o, its, m, h1, h3, _⟩
      · exact .base (.frz h1)
      · exact .kList h1 h3
def tyAll : List Ty := [.int, .bool, .str, .tuple, .list]
theorem kit_tab0 : ((List.range 7).all fun k => tyAll.all fun t => decide (kitB (kindN k) (tyN t) = some (tyB t k))) = true := by decide +kernel
theorem kit_tab {k : Nat} (h : k < 7) (t : Ty) : kitB (kindN k) (tyN t) = some (tyB t k) := by
  have h1 := List.all_eq_true.mp kit_tab0 k (List.mem_range.mpr h)
  have h2 := List.all_eq_true.mp h1 t (by cases t <;> simp [tyAll])
  simpa using h2
end
section
variable {X : Cx} {fa : Nat → Option Addr} {cl : Nat → List D → Sto → R D}
theorem pe_ty {x : Str} {n : String} {pos : Pos} (hg : Gl X x) (hm : X.mg x = none) (hv : bootBuiltins x = some (.type n)) (hn : x ≠ "__name__") (hd : (x == ("__debug__" : Str)) = false) : PE X (.Name x pos) (tC (.ty n)) :=
  pe_bltn hg hm hv rfl hn hd
theorem s_isi1 {e e2 : Expr} {c : CE} {t : Ty} {p pos : Pos} (hp : plainX e = true) (hp2 : plainX e2 = true) (hg : Gl X "isinstance") (hm : X.mg "isinstance" = none) (he : PEv X fa cl e c) (h2 : PE X e2 (tC (.ty (tyN t)))) : PEv X fa cl (.Call (.Name "isinstance" p) [e, e2] [] pos) (.isi c [t]) := by
  refine PE.imp (pe_callB call_isi hg hm (by decide +kernel) (pa_cons he (pa_cons h2 pa_nil (star_cons hp2)) (star_cons hp)) (by decide) (by decide) (star_cons hp) (back_all (by simp [hp2]))) fun σ H Q ⟨ρ, env, st, e, s, h⟩ => ?_
  unfold evE at h
  refine tE.first e s h fun d st1 ρ1 H1 v e1 s1 r1 p1 k1 h1 => ?_
  simp only [isTys] at h1
  cases q : isTy st1 d t with
  | none => rw [q] at h1; exact h1.elim
  | some b =>
    rw [q] at h1
    obtain ⟨kk, q1, q2⟩ := Option.map_eq_some_iff.mp q
    refine ⟨v, .ty (tyN t), .type (kindN kk), .type (tyN t), b, rfl, .ty _, tyx_of s1 r1 q1, kit_ty (by rw [kit_tab (kind_le q1), q2]), ?_⟩
    cases b <;> exact h1.here s1 rfl
/-- the classes of a tuple that is written in the call -/
theorem isTys_kit {K : PySem.W.Frag} {st : Sto} {d : D} {k : Nat} (q1 : kindD st d = some k) : ∀ {ts : List Ty} {b : Bool}, isTys st d ts = some b → PySem.W.kitAny K (.type (kindN k)) (ts.map fun t => .type (tyN t)) = some b
  | [], b, h => by cases h; rfl
  | t :: ts, b, h => by
    have e : isTy st d t = some (tyB t k) := by unfold isTy; rw [q1]; rfl
    unfold isTys at h
    rw [e] at h
    refine kitAny_cons (b := tyB t k) (kit_ty (kit_tab (kind_le q1) t)) (fun z => ?_) fun z => ?_
    · rw [z] at h; exact isTys_kit q1 h
    · rw [z] at h; cases h; rfl
theorem isTys_kind {st : Sto} {d : D} : ∀ {ts : List Ty} {b : Bool}, ts ≠ [] → isTys st d ts = some b → ∃ k, kindD st d = some k
  | [], _, h, _ => absurd rfl h
  | t :: ts, b, _, h => by
    unfold isTys isTy at h
    cases q : kindD st d with
    | some k => exact ⟨k, rfl⟩
    | none => rw [q] at h; cases h
inductive TyEs (X : Cx) : List Expr → List Ty → Prop
  | nil : TyEs X [] []
  | cons {e : Expr} {es : List Expr} {t : Ty} {ts : List Ty} (hp : plainX e = true) (h : PE X e (tC (.ty (tyN t)))) (r : TyEs X es ts) : TyEs X (e :: es) (t :: ts)
theorem TyEs.pa {es : List Expr} {ts : List Ty} (h : TyEs X es ts) : PA X es (fun _ H Q => Q (ts.map fun t => V.ty (tyN t)) H) := by
  induction h with
  | nil => exact PA.imp pa_nil fun σ H Q q => q
  | cons hp h r ih => exact PA.imp (pa_cons h ih (star_cons hp)) fun σ H Q q => q
theorem clsV_all : ∀ ts : List Ty, Paired ClsV (ts.map fun t => V.ty (tyN t)) (ts.map fun t => Value.type (tyN t))
  | [] => .nil
  | t :: ts => .cons (.ty _) (clsV_all ts)
theorem s_isiT {e : Expr} {es : List Expr} {c : CE} {ts : List Ty} {j : Nat} {p pos pt : Pos} (hne : ts ≠ []) (hl : ts.length ≤ 100) (hp : plainX e = true) (hg : Gl X "isinstance") (hm : X.mg "isinstance" = none) (he : PEv X fa cl e c) (h2 : TyEs X es ts) :
    PEv X fa cl (.Call (.Name "isinstance" p) [e, .Tuple es j pt] [] pos) (.isi c ts) := by
  refine PE.imp (pe_callB call_isiT hg hm (by decide +kernel) (pa_cons he (pa_cons (pe_tup h2.pa) pa_nil (star_cons rfl)) (star_cons hp)) (by decide) (by decide) (star_cons hp) (back_all (by simp [plainX]))) fun σ H Q ⟨ρ, env, st, e, s, h⟩ => ?_
  unfold evE at h
  refine tE.first e s h fun d st1 ρ1 H1 v e1 s1 r1 p1 k1 h1 => ?_
  refine ⟨by rw [List.length_map, sizeLine_eq]; omega, fun q hq => ?_⟩
  cases z : isTys st1 d ts with
  | none => rw [z] at h1; exact h1.elim
  | some b =>
    rw [z] at h1
    obtain ⟨kk, q1⟩ := isTys_kind hne z
    have s2 := s1.more (u := .tup (ts.map fun t => V.ty (tyN t))) hq
    have r2 := RepD.kp (Pre.refl _) (Kp.new (o := .tup (ts.map fun t => V.ty (tyN t))) hq) _ _ r1
    exact ⟨v, q, _, .type (kindN kk), _, b, rfl, upd_same, clsV_all ts, tyx_of s2 r2 q1, isTys_kit q1 z, h1 _ _ _ (Pre.refl _) (Kp.new hq) s2 rfl⟩
end
end MP
/-! ## MP8 -/
set_option Elab.async false
set_option linter.all false
set_option autoImplicit false
set_option maxRecDepth 100000
set_option maxHeartbeats 1000000
/-! MP8: what loops and comprehensions walk. -/
namespace MP
open PySem PySem.Spec PyProof.Rows L2

/-- an iterator J walks the items of what was found at ρ0, H0, st0 -/
structure WalkOk (K : PySem.W.Frag) (fa : Nat → Option Addr) (ρ0 : List Addr) (H0 : Hp) (st0 : Sto) (w : Nat) (x y : D) (items : List D) (J : It) : Prop where
  goes : ∀ (i : Nat) ρ H st, i < items.length → Pre ρ0 ρ → Kp H0 H → RepS K fa ρ H st → stillOf w x y st0 st = true → J.go i H
  stops : ∀ ρ H st, Pre ρ0 ρ → Kp H0 H → RepS K fa ρ H st → stillOf w x y st0 st = true → J.stop items.length H
  yields : ∀ (i : Nat) ρ H st v H', i < items.length → Pre ρ0 ρ → Kp H0 H → RepS K fa ρ H st → stillOf w x y st0 st = true → J.yld i H v H' → ∃ d, items[i]? = some d ∧ Kp H H' ∧ RepS K fa ρ H' st ∧ RepD K fa ρ H' d v

section
variable {K : PySem.W.Frag} {fa : Nat → Option Addr} {ρ0 ρ : List Addr} {H0 H : Hp} {st0 st : Sto}
/-- a sequence that stays, at a later heap -/
theorem seq_later {x : D} {v : V} {xs : List D} {a : Addr} (r : RepD K fa ρ0 H0 x (.ref a)) (e : seqOf st0 x = some xs) (p : Pre ρ0 ρ) (k : Kp H0 H) (s : RepS K fa ρ H st) (hs : seqStays st x xs = true) : ∃ vs, RepL K fa ρ H xs vs ∧ ((∃ n, x = .loc n) ∧ SqL K H a vs ∨ (∃ ys, x = .tup ys) ∧ SqT K H a vs) := by
  cases x with
  | tup ys =>
    cases e
    obtain ⟨b, vs, e1, h1, h2⟩ := r
    cases e1
    exact ⟨vs, RepL.kp p k _ _ h2, .inr ⟨⟨_, rfl⟩, sqT_kp k h1⟩⟩
  | loc n =>
    simp only [seqStays] at hs
    split at hs
    · rename_i ys ey
      obtain ⟨b, vs, e1, h1, h2⟩ := lstAt_rep s ey
      obtain ⟨c, e2, e3⟩ := r
      cases e2
      rw [p.get e3] at e1
      cases e1
      rw [← D.eqbs_eq _ _ hs] at h2
      exact ⟨vs, h2, .inl ⟨⟨n, rfl⟩, h1⟩⟩
    · cases hs
  | _ => cases e
/-- a list -/
theorem walkL {n : Nat} {xs : List D} {a : Addr} (s0 : RepS K fa ρ0 H0 st0) (r : RepD K fa ρ0 H0 (.loc n) (.ref a)) (e : seqOf st0 (.loc n) = some xs) (y : D) : WalkOk K fa ρ0 H0 st0 0 (.loc n) y xs (Itl K a) where
  goes := fun i ρ H st hi p k s hs => by
    simp only [stillOf, e] at hs
    obtain ⟨vs, h1, h2⟩ := seq_later (v := .non) r e p k s hs
    rcases h2 with ⟨_, h2⟩ | ⟨⟨_, z⟩, _⟩
    · have : i < vs.length := by rw [h1.length]; exact hi
      exact ⟨vs, vs[i], h2, List.getElem?_eq_getElem this⟩
    · cases z
  stops := fun ρ H st p k s hs => by
    simp only [stillOf, e] at hs
    obtain ⟨vs, h1, h2⟩ := seq_later (v := .non) r e p k s hs
    rcases h2 with ⟨_, h2⟩ | ⟨⟨_, z⟩, _⟩
    · exact ⟨vs, h2, by rw [h1.length]; exact Nat.le_refl _⟩
    · cases z
  yields := fun i ρ H st v H' hi p k s hs hy => by
    simp only [stillOf, e] at hs
    obtain ⟨vs, h1, h2⟩ := seq_later (v := .non) r e p k s hs
    rcases h2 with ⟨_, h2⟩ | ⟨⟨_, z⟩, _⟩
    · obtain ⟨rfl, hv⟩ := hy
      obtain ⟨d, e1, r1⟩ := h1.get' (hv vs h2)
      exact ⟨d, e1, Kp.refl _, s, r1⟩
    · cases z
/-- a tuple -/
theorem walkT {xs : List D} {a : Addr} (r : RepD K fa ρ0 H0 (.tup xs) (.ref a)) (y : D) : WalkOk K fa ρ0 H0 st0 0 (.tup xs) y xs (Itt K a) where
  goes := fun i ρ H st hi p k s hs => by
    obtain ⟨b, vs, e1, h1, h2⟩ := r
    cases e1
    have : i < vs.length := by rw [h2.length]; exact hi
    exact ⟨vs, vs[i], sqT_kp k h1, List.getElem?_eq_getElem this⟩
  stops := fun ρ H st p k s hs => by
    obtain ⟨b, vs, e1, h1, h2⟩ := r
    cases e1
    exact ⟨vs, sqT_kp k h1, by rw [h2.length]; exact Nat.le_refl _⟩
  yields := fun i ρ H st v H' hi p k s hs hy => by
    obtain ⟨b, vs, e1, h1, h2⟩ := r
    cases e1
    obtain ⟨rfl, hv⟩ := hy
    obtain ⟨d, e1, r1⟩ := (RepL.kp p k _ _ h2).get' (hv vs (sqT_kp k h1))
    exact ⟨d, e1, Kp.refl _, s, r1⟩
theorem rangeD_len : ∀ (n : Nat) (lo : Int), (rangeD lo n).length = n
  | 0, _ => rfl
  | n + 1, lo => by simp [rangeD, rangeD_len n]
theorem rangeD_get : ∀ (n : Nat) (lo : Int) (i : Nat), i < n → (rangeD lo n)[i]? = some (.int (lo + i))
  | n + 1, lo, 0, _ => by simp [rangeD]
  | n + 1, lo, i + 1, h => by
    have := rangeD_get n (lo + 1) i (by omega)
    simp only [rangeD, List.getElem?_cons_succ, this]
    congr 2
    omega
theorem walkR {w : Nat} {lo : Int} {n : Nat} {x y : D} : WalkOk K fa ρ0 H0 st0 w x y (rangeD lo n) (Itr lo n) where
  goes := fun i ρ H st hi p k s hs => by rw [rangeD_len] at hi; exact hi
  stops := fun ρ H st p k s hs => by rw [rangeD_len]; exact Nat.le_refl _
  yields := fun i ρ H st v H' hi p k s hs hy => by
    rw [rangeD_len] at hi
    obtain ⟨rfl, rfl⟩ := hy
    exact ⟨_, rangeD_get n lo i hi, Kp.refl _, s, rfl⟩
theorem zipD_get : ∀ (xs ys : List D) (i : Nat) (a b : D), xs[i]? = some a → ys[i]? = some b → (zipD xs ys)[i]? = some (.tup [a, b])
  | x :: xs, y :: ys, 0, a, b, h1, h2 => by simp at h1 h2; subst h1; subst h2; rfl
  | x :: xs, y :: ys, i + 1, a, b, h1, h2 => zipD_get xs ys i a b (by simpa using h1) (by simpa using h2)
  | [], _, _, _, _, h1, _ => by simp at h1
  | _ :: _, [], _, _, _, _, h2 => by simp at h2
theorem zipD_len : ∀ (xs ys : List D), (zipD xs ys).length = min xs.length ys.length
  | [], _ => by simp [zipD]
  | _ :: _, [] => by simp [zipD]
  | x :: xs, y :: ys => by simp [zipD, zipD_len xs ys]
theorem pair_new {xs : List D} {T : Addr} {a b : D} {u v : V} (s : RepS K fa ρ H st) (hT : H T = none) (ra : RepD K fa ρ H a u) (rb : RepD K fa ρ H b v) : Kp H (upd H T (.tup [u, v])) ∧ RepS K fa ρ (upd H T (.tup [u, v])) st ∧ RepD K fa ρ (upd H T (.tup [u, v])) (.tup [a, b]) (.ref T) := by
  have k := Kp.new (o := .tup [u, v]) hT
  exact ⟨k, s.more hT, T, [u, v], rfl, SqT.of upd_same, u, [v], rfl, RepD.kp (Pre.refl _) k _ _ ra, v, [], rfl, RepD.kp (Pre.refl _) k _ _ rb, rfl⟩
/-- zip of two lists -/
theorem walkZL {n m : Nat} {xs ys : List D} {a b : Addr} (r : RepD K fa ρ0 H0 (.loc n) (.ref a)) (r' : RepD K fa ρ0 H0 (.loc m) (.ref b)) (e : seqOf st0 (.loc n) = some xs) (e' : seqOf st0 (.loc m) = some ys) : WalkOk K fa ρ0 H0 st0 3 (.loc n) (.loc m) (zipD xs ys) (Itz K a b) := by
  have both : ∀ ρ H st, Pre ρ0 ρ → Kp H0 H → RepS K fa ρ H st → stillOf 3 (.loc n) (.loc m) st0 st = true → ∃ vs ws, RepL K fa ρ H xs vs ∧ RepL K fa ρ H ys ws ∧ SqL K H a vs ∧ SqL K H b ws := fun ρ H st p k s hs => by
    simp only [stillOf, e, e', Bool.and_eq_true] at hs
    obtain ⟨vs, h1, h2⟩ := seq_later (v := .non) r e p k s hs.1
    obtain ⟨ws, h3, h4⟩ := seq_later (v := .non) r' e' p k s hs.2
    rcases h2 with ⟨_, h2⟩ | ⟨⟨_, z⟩, _⟩
    · rcases h4 with ⟨_, h4⟩ | ⟨⟨_, z⟩, _⟩
      · exact ⟨vs, ws, h1, h3, h2, h4⟩
      · cases z
    · cases z
  refine ⟨fun i ρ H st hi p k s hs => ?_, fun ρ H st p k s hs => ?_, fun i ρ H st v H' hi p k s hs hy => ?_⟩
  · obtain ⟨vs, ws, h1, h2, h3, h4⟩ := both ρ H st p k s hs
    rw [zipD_len] at hi
    have l1 : i < vs.length := by rw [h1.length]; omega
    have l2 : i < ws.length := by rw [h2.length]; omega
    exact ⟨vs, ws, vs[i], ws[i], h3, h4, List.getElem?_eq_getElem l1, List.getElem?_eq_getElem l2⟩
  · obtain ⟨vs, ws, h1, h2, h3, h4⟩ := both ρ H st p k s hs
    refine ⟨vs, ws, h3, h4, ?_⟩
    rw [zipD_len, h1.length, h2.length]
    omega
  · obtain ⟨vs, ws, h1, h2, h3, h4⟩ := both ρ H st p k s hs
    obtain ⟨T, u1, u2, rfl, hT, rfl, f1, f2⟩ := hy
    obtain ⟨d1, q1, r1⟩ := h1.get' (f1 vs h3)
    obtain ⟨d2, q2, r2⟩ := h2.get' (f2 ws h4)
    obtain ⟨k1, s1, r3⟩ := pair_new (xs := []) s hT r1 r2
    exact ⟨_, zipD_get _ _ _ _ _ q1 q2, k1, s1, r3⟩
/-- zip of two tuples -/
theorem walkZT {xs ys : List D} {a b : Addr} (r : RepD K fa ρ0 H0 (.tup xs) (.ref a)) (r' : RepD K fa ρ0 H0 (.tup ys) (.ref b)) : WalkOk K fa ρ0 H0 st0 3 (.tup xs) (.tup ys) (zipD xs ys) (RZ.ItzT K a b) := by
  have both : ∀ ρ H, Pre ρ0 ρ → Kp H0 H → ∃ vs ws, RepL K fa ρ H xs vs ∧ RepL K fa ρ H ys ws ∧ SqT K H a vs ∧ SqT K H b ws := fun ρ H p k => by
    obtain ⟨a', vs, e1, h1, h2⟩ := r
    obtain ⟨b', ws, e2, h3, h4⟩ := r'
    cases e1
    cases e2
    exact ⟨vs, ws, RepL.kp p k _ _ h2, RepL.kp p k _ _ h4, sqT_kp k h1, sqT_kp k h3⟩
  refine ⟨fun i ρ H st hi p k s hs => ?_, fun ρ H st p k s hs => ?_, fun i ρ H st v H' hi p k s hs hy => ?_⟩
  · obtain ⟨vs, ws, h1, h2, h3, h4⟩ := both ρ H p k
    rw [zipD_len] at hi
    have l1 : i < vs.length := by rw [h1.length]; omega
    have l2 : i < ws.length := by rw [h2.length]; omega
    exact ⟨vs, ws, vs[i], ws[i], h3, h4, List.getElem?_eq_getElem l1, List.getElem?_eq_getElem l2⟩
  · obtain ⟨vs, ws, h1, h2, h3, h4⟩ := both ρ H p k
    refine ⟨vs, ws, h3, h4, ?_⟩
    rw [zipD_len, h1.length, h2.length]
    omega
  · obtain ⟨vs, ws, h1, h2, h3, h4⟩ := both ρ H p k
    obtain ⟨T, u1, u2, rfl, hT, rfl, f1, f2⟩ := hy
    obtain ⟨d1, q1, r1⟩ := h1.get' (f1 vs h3)
    obtain ⟨d2, q2, r2⟩ := h2.get' (f2 ws h4)
    obtain ⟨k1, s1, r3⟩ := pair_new (xs := []) s hT r1 r2
    exact ⟨_, zipD_get _ _ _ _ _ q1 q2, k1, s1, r3⟩
theorem enumD_get : ∀ (xs : List D) (i : Nat) (c : Int) (a : D), xs[i]? = some a → (enumD c xs)[i]? = some (.tup [.int (c + i), a])
  | x :: xs, 0, c, a, h1 => by simp at h1; subst h1; simp [enumD]
  | x :: xs, i + 1, c, a, h1 => by
    have := enumD_get xs i (c + 1) a (by simpa using h1)
    simp only [enumD, List.getElem?_cons_succ, this]
    congr 4
    omega
  | [], _, _, _, h1 => by simp at h1
theorem enumD_len : ∀ (xs : List D) (c : Int), (enumD c xs).length = xs.length
  | [], _ => rfl
  | x :: xs, c => by simp [enumD, enumD_len xs]
theorem walkE {n : Nat} {xs : List D} {a : Addr} {y : D} (r : RepD K fa ρ0 H0 (.loc n) (.ref a)) (e : seqOf st0 (.loc n) = some xs) : WalkOk K fa ρ0 H0 st0 4 (.loc n) y (enumD 0 xs) (Ite K a) := by
  have both : ∀ ρ H st, Pre ρ0 ρ → Kp H0 H → RepS K fa ρ H st → stillOf 4 (.loc n) y st0 st = true → ∃ vs, RepL K fa ρ H xs vs ∧ SqL K H a vs := fun ρ H st p k s hs => by
    simp only [stillOf, e] at hs
    obtain ⟨vs, h1, h2⟩ := seq_later (v := .non) r e p k s hs
    rcases h2 with ⟨_, h2⟩ | ⟨⟨_, z⟩, _⟩
    · exact ⟨vs, h1, h2⟩
    · cases z
  refine ⟨fun i ρ H st hi p k s hs => ?_, fun ρ H st p k s hs => ?_, fun i ρ H st v H' hi p k s hs hy => ?_⟩
  · obtain ⟨vs, h1, h2⟩ := both ρ H st p k s hs
    rw [enumD_len] at hi
    have l1 : i < vs.length := by rw [h1.length]; omega
    exact ⟨vs, vs[i], h2, List.getElem?_eq_getElem l1⟩
  · obtain ⟨vs, h1, h2⟩ := both ρ H st p k s hs
    exact ⟨vs, h2, by rw [enumD_len, h1.length]; exact Nat.le_refl _⟩
  · obtain ⟨vs, h1, h2⟩ := both ρ H st p k s hs
    obtain ⟨T, u, rfl, hT, rfl, f⟩ := hy
    obtain ⟨d, q, r1⟩ := h1.get' (f vs h2)
    obtain ⟨k1, s1, r3⟩ := pair_new (xs := []) (a := .int (i : Nat)) s hT rfl r1
    have := enumD_get xs i 0 d q
    rw [Int.zero_add] at this
    exact ⟨_, this, k1, s1, r3⟩
end

/-! ### the iterator's expression -/
def PstI (K : PySem.W.Frag) (fa : Nat → Option Addr) (w : Nat) (ρ : List Addr) (H : Hp) (r : R (D × D × List D)) (Q : It → Hp → Prop) : Prop := match r with
  | .ok p st => ∀ ρ' H' J, Pre ρ ρ' → Kp H H' → RepS K fa ρ' H' st → WalkOk K fa ρ' H' st w p.1 p.2.1 p.2.2 J → Q J H'
  | _ => False
def tI (K : PySem.W.Frag) (fa : Nat → Option Addr) (w : Nat) (ev : Env → Sto → R (D × D × List D)) : TI := fun σ H Q => ∃ ρ env st, RepE K fa ρ H env σ ∧ RepS K fa ρ H st ∧ PstI K fa w ρ H (ev env st) Q
theorem PI.imp {X : Cx} {tg e : Expr} {t t' : TI} (h : PI X tg e t) (i : ∀ σ H Q, t' σ H Q → t σ H Q) : PI X tg e t' := ⟨fun pins s σ H Q I q => h.run pins s σ H Q I (i σ H Q q)⟩
theorem PstI.kp {K : PySem.W.Frag} {fa : Nat → Option Addr} {w : Nat} {ρ ρ1 : List Addr} {H H1 : Hp} {r : R (D × D × List D)} {Q : It → Hp → Prop} (p : Pre ρ ρ1) (k : Kp H H1) (h : PstI K fa w ρ H r Q) : PstI K fa w ρ1 H1 r Q := by
  cases r with
  | ok d st => exact fun ρ' H' v p' k' s r => h ρ' H' v (p.trans p') (k.trans k') s r
  | exc c fs st => exact h
  | bad => exact h
/-- the parts of what is walked -/
theorem PstI.first {K : PySem.W.Frag} {fa : Nat → Option Addr} {w : Nat} {ρ : List Addr} {H : Hp} {env : Env} {σ : L2.St} {st : Sto} {ea eb : EvF} {Q : It → Hp → Prop} {K1 : VK} (e : RepE K fa ρ H env σ) (s : RepS K fa ρ H st)
    (h : PstI K fa w ρ H (itE w (ea env st) (eb env)) Q) (c : ∀ d st1 ρ1 H1 v, RepE K fa ρ1 H1 env σ → RepS K fa ρ1 H1 st1 → RepD K fa ρ1 H1 d v →
      PstI K fa w ρ1 H1 ((eb env st1).bind fun y st => match itemsOf w d y st with | some xs => .ok (d, y, xs) st | none => .bad) Q → K1 v H1) : tE K fa ea σ H K1 := by
  refine ⟨ρ, env, st, e, s, ?_⟩
  unfold itE at h
  cases q : ea env st with
  | ok d st1 =>
    rw [q] at h
    exact fun ρ' H' v p k s1 r => c d st1 ρ' H' v (e.kp p k) s1 r (PstI.kp p k h)
  | exc c fs st1 => rw [q] at h; exact h
  | bad => rw [q] at h; exact h
section
variable {X : Cx} {fa : Nat → Option Addr} {cl : Nat → List D → Sto → R D} {tg : Expr}
def iAny (K : PySem.W.Frag) (tl : TE) : TI := fun σ H R => tl σ H fun x H1 => ∃ a, x = .ref a ∧ ((∃ xs, SqL K H1 a xs) ∧ R (Itl K a) H1 ∨ (∃ xs, SqT K H1 a xs) ∧ R (Itt K a) H1)
theorem pi_any {l : Expr} {tl : TE} (hl : PE X l tl) : PI X tg l (iAny X.K tl) := by
  constructor
  intro pins q σ H R inv want
  apply thn (hl.run pins q σ H _ inv want)
  rintro u q1 ⟨x, G, inv1, rel, a, rfl, what⟩
  cases rel
  have young : ∀ b ∈ [q1.heap.objs.size], FpOk X pins G b := fun b hb => by
    have : b = q1.heap.objs.size := by simpa using hb
    rw [this]
    exact inv1.fpOk (Nat.le_refl _) (inv1.hok.fresh (Nat.le_refl _))
  rcases what with ⟨⟨xs, sq⟩, r⟩ | ⟨⟨xs, sq⟩, r⟩
  · obtain ⟨its, _, pl, _⟩ := inv1.list sq
    apply wpAny_pyIter_list pl.isList
    exact ⟨_, [q1.heap.objs.size], _, _, G, rfl, inv1.kept (t' := q1.toks) fun b o e => Heap.get?_push_of_some _ e, turn_list a _, ⟨_, Heap.get?_push_size _ rfl, rfl, rfl⟩, young, r⟩
  · obtain ⟨its, _, tp, _⟩ := inv1.tuple sq
    apply wpAny_pyIter_tuple (show q1.heap.IsTuple a its.toArray from tp)
    exact ⟨_, [q1.heap.objs.size], _, _, G, rfl, inv1.kept (t' := q1.toks) fun b o e => Heap.get?_push_of_some _ e, turn_tuple a _, ⟨_, Heap.get?_push_size _ rfl, rfl, rfl⟩, young, r⟩
abbrev itF (cl : Nat → List D → Sto → R D) (w : Nat) (a b : CE) : Env → Sto → R (D × D × List D) := fun env st => itE w (evE cl a env st) (fun st => evE cl b env st)
theorem i_seq {e : Expr} {c : CE} (he : PEv X fa cl e c) : PI X tg e (tI X.K fa 0 (itF cl 0 c (.cst .non))) := by
  refine PI.imp (pi_any he) fun σ H Q ⟨ρ, env, st, e, s, h⟩ => ?_
  refine PstI.first (eb := fun env st => evE cl (.cst .non) env st) e s h fun d st1 ρ1 H1 v e1 s1 r1 h1 => ?_
  unfold evE at h1
  simp only [R.bind] at h1
  cases q : itemsOf 0 d .non st1 with
  | none => rw [q] at h1; exact h1.elim
  | some xs =>
    rw [q] at h1
    obtain ⟨a, vs, rfl, rl, z⟩ := seqOf_rep s1 r1 q
    rcases z with ⟨z, n, rfl⟩ | ⟨z, rfl⟩
    · exact ⟨a, rfl, .inl ⟨⟨vs, z⟩, h1 ρ1 H1 _ (Pre.refl _) (Kp.refl _) s1 (walkL s1 r1 q .non)⟩⟩
    · exact ⟨a, rfl, .inr ⟨⟨vs, z⟩, h1 ρ1 H1 _ (Pre.refl _) (Kp.refl _) s1 (walkT r1 .non)⟩⟩
theorem i_range1 {e : Expr} {c : CE} {p pos : Pos} (hp : plainX e = true) (hg : Gl X "range") (hm : X.mg "range" = none) (he : PEv X fa cl e c) : PI X tg (.Call (.Name "range" p) [e] [] pos) (tI X.K fa 1 (itF cl 1 c (.cst .non))) := by
  refine PI.imp (pi_range1 hg hm (pa_cons he pa_nil (star_cons hp)) (star_cons hp)) fun σ H Q ⟨ρ, env, st, e, s, h⟩ => ?_
  refine PstI.first (eb := fun env st => evE cl (.cst .non) env st) e s h fun d st1 ρ1 H1 v e1 s1 r1 h1 => ?_
  unfold evE at h1
  simp only [R.bind, itemsOf] at h1
  cases d with
  | int n =>
    cases r1
    simp only at h1
    split at h1
    · rename_i xs q
      split at q
      · rename_i c
        cases q
        simp only [Bool.and_eq_true, decide_eq_true_eq] at c
        exact ⟨n, rfl, by omega, by omega, h1 ρ1 H1 _ (Pre.refl _) (Kp.refl _) s1 walkR⟩
      · cases q
    · exact h1.elim
  | _ => exact h1.elim
theorem i_range2 {e e' : Expr} {c c' : CE} {p pos : Pos} (hp : plainX e = true) (hp' : plainX e' = true) (hg : Gl X "range") (hm : X.mg "range" = none) (he : PEv X fa cl e c) (he' : PEv X fa cl e' c') : PI X tg (.Call (.Name "range" p) [e, e'] [] pos) (tI X.K fa 2 (itF cl 2 c c')) := by
  refine PI.imp (pi_range2 hg hm (pa_cons he (pa_cons he' pa_nil (star_cons hp')) (star_cons hp)) (by rw [star_cons hp, star_cons hp']; rfl) (star_cons hp')) fun σ H Q ⟨ρ, env, st, e, s, h⟩ => ?_
  refine PstI.first (eb := fun env st => evE cl c' env st) e s h fun d st1 ρ1 H1 v e1 s1 r1 h1 => ?_
  refine ⟨ρ1, env, st1, e1, s1, ?_⟩
  cases q : evE cl c' env st1 with
  | exc a b c => rw [q] at h1; exact h1.elim
  | bad => rw [q] at h1; exact h1.elim
  | ok y st2 =>
    rw [q] at h1
    intro ρ2 H2 v2 p2 k2 s2 r2
    simp only [R.bind, itemsOf] at h1
    cases d with
    | int n =>
      cases r1
      cases y with
      | int m =>
        cases r2
        simp only at h1
        split at h1
        · rename_i xs q
          split at q
          · rename_i c
            cases q
            simp only [Bool.and_eq_true, decide_eq_true_eq] at c
            exact ⟨n, m, rfl, ⟨by omega, by omega, by omega, by omega⟩, h1 ρ2 H2 _ p2 k2 s2 walkR⟩
          · cases q
        · exact h1.elim
      | _ => exact h1.elim
    | _ => exact h1.elim
theorem i_zip {e e' : Expr} {c c' : CE} {es : List Expr} {j : Nat} {p pos pt : Pos} (hp : plainX e = true) (hp' : plainX e' = true) (hg : Gl X "zip") (hm : X.mg "zip" = none) (he : PEv X fa cl e c) (he' : PEv X fa cl e' c') :
    PI X (.Tuple es j pt) (.Call (.Name "zip" p) [e, e'] [] pos) (tI X.K fa 3 (itF cl 3 c c')) := by
  refine PI.imp (RZ.pi_zipA hg hm (pa_cons he (pa_cons he' pa_nil (star_cons hp')) (star_cons hp)) (star_cons hp) (back_all (by simp [hp']))) fun σ H Q ⟨ρ, env, st, e, s, h⟩ => ?_
  refine PstI.first (eb := fun env st => evE cl c' env st) e s h fun d st1 ρ1 H1 v e1 s1 r1 h1 => ?_
  refine ⟨ρ1, env, st1, e1, s1, ?_⟩
  cases q : evE cl c' env st1 with
  | exc a b c => rw [q] at h1; exact h1.elim
  | bad => rw [q] at h1; exact h1.elim
  | ok y st2 =>
    rw [q] at h1
    intro ρ2 H2 v2 p2 k2 s2 r2
    simp only [R.bind] at h1
    cases z : itemsOf 3 d y st2 with
    | none => rw [z] at h1; exact h1.elim
    | some zs =>
      rw [z] at h1
      have z' := z
      simp only [itemsOf] at z
      split at z
      case isFalse => cases z
      rename_i hk
      cases z1 : seqOf st2 d with
      | none => rw [z1] at z; cases z
      | some xs =>
        rw [z1] at z
        cases z2 : seqOf st2 y with
        | none => rw [z2] at z; cases z
        | some ys =>
          rw [z2] at z
          cases z
          have r1' := RepD.kp p2 k2 _ _ r1
          obtain ⟨a, vs, rfl, ra, qa⟩ := seqOf_rep s2 r1' z1
          obtain ⟨b, ws, rfl, rb, qb⟩ := seqOf_rep s2 r2 z2
          refine ⟨a, b, vs, ws, rfl, ?_⟩
          rcases qa with ⟨qa, n, rfl⟩ | ⟨qa, rfl⟩
          · rcases qb with ⟨qb, m, rfl⟩ | ⟨qb, rfl⟩
            · exact .inl ⟨qa, qb, h1 ρ2 H2 _ p2 k2 s2 (walkZL r1' r2 z1 z2)⟩
            · cases hk
          · rcases qb with ⟨qb, m, rfl⟩ | ⟨qb, rfl⟩
            · cases hk
            · exact .inr ⟨qa, qb, h1 ρ2 H2 _ p2 k2 s2 (walkZT r1' r2)⟩
end
end MP
/-! ## MP9 -/
set_option Elab.async false
set_option linter.all false
set_option autoImplicit false
set_option maxRecDepth 100000
set_option maxHeartbeats 1000000
/-! MP9: targets, comprehensions, written dicts. -/
namespace MP
open PySem PySem.Spec PyProof.Rows L2

section
variable {K : PySem.W.Frag} {fa : Nat → Option Addr} {ρ : List Addr} {H : Hp}
theorem RepE.set {env : Env} {σ : L2.St} (h : RepE K fa ρ H env σ) (i : Nat) {d : D} {v : V} (r : RepD K fa ρ H d v) : RepE K fa ρ H (env.set i (some d)) (σ.set i (some v)) := by
  refine ⟨by simp [h.1], fun j e q => ?_⟩
  by_cases z : i = j
  · subst z
    have hl : i < env.length := by
      rcases Nat.lt_or_ge i env.length with y | y
      · exact y
      · rw [List.getElem?_eq_none (by simpa using y)] at q; cases q
    rw [List.getElem?_set_self hl] at q
    cases q
    exact ⟨v, by rw [List.getElem?_set_self (by rw [← h.1]; exact hl)], r⟩
  · rw [List.getElem?_set_ne z] at q
    obtain ⟨w, q1, q2⟩ := h.2 j e q
    exact ⟨w, by rw [List.getElem?_set_ne z]; exact q1, q2⟩
theorem RepE.unset {env : Env} {σ : L2.St} (h : RepE K fa ρ H env σ) (i : Nat) : RepE K fa ρ H (env.set i none) (σ.set i none) := by
  refine ⟨by simp [h.1], fun j e q => ?_⟩
  by_cases z : i = j
  · subst z
    rcases Nat.lt_or_ge i env.length with y | y
    · rw [List.getElem?_set_self y] at q; cases q
    · rw [List.getElem?_eq_none (by simpa using y)] at q; cases q
  · rw [List.getElem?_set_ne z] at q
    obtain ⟨w, q1, q2⟩ := h.2 j e q
    exact ⟨w, by rw [List.getElem?_set_ne z]; exact q1, q2⟩
theorem RepE.wipe {env : Env} {σ : L2.St} (h : RepE K fa ρ H env σ) : ∀ vs : List Nat, RepE K fa ρ H (wipeD env vs) (L2.wipe σ vs)
  | [] => h
  | v :: vs => (RepE.wipe h vs).unset v
end
theorem wipe_get (σ : L2.St) : ∀ (vs : List Nat) (j : Nat), (L2.wipe σ vs)[j]? = if j ∈ vs ∧ j < σ.length then some none else σ[j]?
  | [], j => by simp [L2.wipe]
  | v :: vs, j => by
    have ih := wipe_get σ vs j
    unfold L2.wipe
    by_cases z : v = j
    · subst z
      by_cases y : v < σ.length
      · rw [List.getElem?_set_self (by rw [wipe_length]; exact y), if_pos ⟨List.mem_cons_self, y⟩]
      · rw [if_neg (fun q => y q.2), List.getElem?_eq_none (by rw [List.length_set, wipe_length]; omega), List.getElem?_eq_none (by omega)]
    · rw [List.getElem?_set_ne z, ih]
      have : (j ∈ v :: vs) ↔ j ∈ vs := by simp [Ne.symm z]
      simp only [this]
theorem wipe_set (σ : L2.St) {vs : List Nat} {i : Nat} (a : Option V) (h : i ∈ vs) : L2.wipe (σ.set i a) vs = L2.wipe σ vs := by
  apply List.ext_getElem?
  intro j
  rw [wipe_get, wipe_get, List.length_set]
  by_cases c : j ∈ vs ∧ j < σ.length
  · rw [if_pos c, if_pos c]
  · rw [if_neg c, if_neg c]
    by_cases z : i = j
    · subst z
      have : ¬ i < σ.length := fun y => c ⟨h, y⟩
      rw [List.getElem?_eq_none (by simp; omega), List.getElem?_eq_none (by omega)]
    · rw [List.getElem?_set_ne z]

def gEach : List Nat → TGs
  | [] => gNil
  | i :: is => gCons (gName i) (gEach is)
def gOf (K : PySem.W.Frag) (one : Bool) (tgt : List Nat) : TG := match one with
  | true => (match tgt with
    | [i] => gName i
    | _ => fun _ _ _ _ => False)
  | false => gTup K tgt.length (gEach tgt)
section
variable {K : PySem.W.Frag} {fa : Nat → Option Addr} {ρ : List Addr} {H : Hp}
theorem gEach_ok : ∀ (tgt : List Nat) {xs : List D} {vs : List V} {env : Env} {σ : L2.St} {W : L2.St → Hp → Prop}, xs.length = tgt.length → RepE K fa ρ H env σ → RepL K fa ρ H xs vs →
    (∀ σ1, RepE K fa ρ H (setEach tgt xs env) σ1 → (∀ own : List Nat, (∀ i ∈ tgt, i ∈ own) → L2.wipe σ1 own = L2.wipe σ own) → W σ1 H) → gEach tgt vs σ H W
  | [], xs, vs, env, σ, W, hl, e, r, h => by
    cases xs with
    | nil => cases r; exact ⟨rfl, h σ e fun _ _ => rfl⟩
    | cons => cases hl
  | i :: is, xs, vs, env, σ, W, hl, e, r, h => by
    cases xs with
    | nil => cases hl
    | cons x xs =>
      obtain ⟨v, r', rfl, h1, h2⟩ := r
      refine ⟨v, r', rfl, ?_⟩
      refine gEach_ok is (by simpa using hl) (e.set i h1) h2 fun σ1 e1 w1 => h σ1 e1 fun own ho => ?_
      rw [w1 own fun j hj => ho j (List.mem_cons_of_mem _ hj)]
      exact wipe_set _ _ (ho i List.mem_cons_self)
theorem gOf_ok {one : Bool} {tgt : List Nat} {d : D} {v : V} {env env1 : Env} {σ : L2.St} {W : L2.St → Hp → Prop} (hs : setTgt one tgt d env = some env1) (e : RepE K fa ρ H env σ) (r : RepD K fa ρ H d v)
    (h : ∀ σ1, RepE K fa ρ H env1 σ1 → (∀ own : List Nat, (∀ i ∈ tgt, i ∈ own) → L2.wipe σ1 own = L2.wipe σ own) → W σ1 H) : gOf K one tgt v σ H W := by
  unfold setTgt at hs
  unfold gOf
  cases one with
  | true =>
    simp only at hs ⊢
    split at hs
    · rename_i i
      cases hs
      exact h _ (e.set i r) fun own ho => wipe_set _ _ (ho i (by simp))
    · cases hs
  | false =>
    simp only at hs ⊢
    split at hs
    · rename_i xs
      split at hs
      · rename_i hl
        cases hs
        obtain ⟨a, vs, rfl, h1, h2⟩ := r
        exact ⟨a, vs, rfl, h1, by rw [h2.length]; exact hl, gEach_ok tgt hl e h2 h⟩
      · cases hs
    · cases hs
end

/-! ### comprehensions -/
theorem PTs.imp {X : Cx} {es : List Expr} {t t' : TT} (h : PTs X es t) (i : ∀ σ H Q, t' σ H Q → t σ H Q) : PTs X es t' := ⟨fun pins s σ H Q I q => h.run pins s σ H Q I (i σ H Q q)⟩
section
variable {X : Cx} {fa : Nat → Option Addr} {cl : Nat → List D → Sto → R D}
theorem compL_still {still : Sto → Bool} {set : D → Option Env} {cond elt : EvF} {n : Nat} {ρ : List Addr} {H : Hp} {Q : VK} {xs : List D} {st : Sto} (h : Pst X.K fa (RepD X.K fa) ρ H (compL still set cond elt n xs st) Q) : still st = true := by
  cases hs : still st with
  | true => rfl
  | false => cases xs <;> (unfold compL at h; rw [hs] at h; exact h.elim)
/-- the reading of a comprehension -/
theorem comp_read {tgt : List Nat} {own : List Nat} {one : Bool} {w : Nat} {a b ccond celt : CE} (hsub : ∀ i ∈ tgt, i ∈ own) : ∀ σ H Q, tE X.K fa (evE cl (.comp own tgt one w a b ccond celt)) σ H Q →
    tLc (tI X.K fa w (itF cl w a b)) (gOf X.K one tgt) (tT X.K fa (evE cl ccond)) (tE X.K fa (evE cl celt)) own σ H Q := by
  rintro σ H Q ⟨ρ, env, st, e, s, h⟩
  unfold evE at h
  refine ⟨ρ, env, st, e, s, ?_⟩
  show PstI X.K fa w ρ H (itE w (evE cl a env st) fun st => evE cl b env st) _
  cases q : itE w (evE cl a env st) (fun st => evE cl b env st) with
  | exc c fs st1 => rw [q] at h; exact h
  | bad => rw [q] at h; exact h
  | ok p st1 =>
  rw [q] at h
  obtain ⟨x, y, items⟩ := p
  intro ρ1 H1 J p1 k1 s1 wk Dn hD
  have h : Pst X.K fa (RepD X.K fa) ρ H (compL (stillOf w x y st1) (fun x => setTgt one tgt x (wipeD env own)) (fun env st => evE cl ccond env st) (fun env st => evE cl celt env st) st1.length items (st1 ++ [.lst []])) Q := h
  have hDp : Kp H1 (upd H1 Dn (.lst [])) := Kp.new hD
  have s2 : RepS X.K fa (ρ1 ++ [Dn]) (upd H1 Dn (.lst [])) (st1 ++ [.lst []]) := s1.alloc hD ⟨[], upd_same, rfl⟩
  have hat : (ρ1 ++ [Dn])[st1.length]? = some Dn := by rw [← s1.len, List.getElem?_append_right (Nat.le_refl _)]; simp
  refine ⟨fun i m G => ∃ ρ' st', Pre (ρ1 ++ [Dn]) ρ' ∧ Kp (upd H1 Dn (.lst [])) G ∧ RepS X.K fa ρ' G st' ∧ m = items.length - i ∧ i ≤ items.length ∧
    Pst X.K fa (RepD X.K fa) ρ' G (compL (stillOf w x y st1) (fun x => setTgt one tgt x (wipeD env own)) (fun env st => evE cl ccond env st) (fun env st => evE cl celt env st) st1.length (items.drop i) st') Q,
    ⟨items.length, ρ1 ++ [Dn], st1 ++ [.lst []], Pre.refl _, Kp.refl _, s2, rfl, Nat.zero_le _, by rw [List.drop_zero]; exact Pst.kp (p1.trans (Pre.snoc _ _)) (k1.trans hDp) h⟩, ?_⟩
  rintro i m G ⟨ρ2, st2, p2, k2, s2, rfl, hle, h2⟩
  have still := compL_still h2
  have pr : Pre ρ1 ρ2 := (Pre.snoc _ _).trans p2
  have kr : Kp H1 G := hDp.trans k2
  by_cases hlt : i < items.length
  · refine .inr ⟨wk.goes i ρ2 G st2 hlt pr kr s2 still, fun G' => ∃ m', m' < items.length - i ∧ ∃ ρ' st', Pre (ρ1 ++ [Dn]) ρ' ∧ Kp (upd H1 Dn (.lst [])) G' ∧ RepS X.K fa ρ' G' st' ∧ m' = items.length - (i + 1) ∧ i + 1 ≤ items.length ∧
      Pst X.K fa (RepD X.K fa) ρ' G' (compL (stillOf w x y st1) (fun x => setTgt one tgt x (wipeD env own)) (fun env st => evE cl ccond env st) (fun env st => evE cl celt env st) st1.length (items.drop (i + 1)) st') Q, fun G' g => g, fun v G' hy => ?_⟩
    obtain ⟨d, ed, k3, s3, rd⟩ := wk.yields i ρ2 G st2 v G' hlt pr kr s2 still hy
    have hdrop : items.drop i = d :: items.drop (i + 1) := by
      rw [List.drop_eq_getElem_cons hlt]
      congr 1
      rw [List.getElem?_eq_getElem hlt] at ed
      exact Option.some.inj ed
    rw [hdrop] at h2
    unfold compL at h2
    rw [if_pos still] at h2
    have eW : RepE X.K fa ρ2 G' (wipeD env own) (L2.wipe σ own) := (e.kp ((p1.trans pr)) (k1.trans (kr.trans k3))).wipe own
    cases hset : setTgt one tgt d (wipeD env own) with
    | none => simp only [hset] at h2; exact h2.elim
    | some env1 =>
    simp only [hset] at h2
    refine gOf_ok hset eW rd fun σ1 e1 w1 => ⟨(w1 own hsub).trans ?_, ?_⟩
    · apply List.ext_getElem?
      intro j
      rw [wipe_get, wipe_get, wipe_length]
      by_cases c : j ∈ own ∧ j < σ.length
      · rw [if_pos c, if_pos c]
      · rw [if_neg c, if_neg c]
    refine ⟨ρ2, env1, st2, e1, s3, ?_⟩
    cases qc : evE cl ccond env1 st2 with
    | exc c fs st3 => simp only [qc] at h2; exact h2.elim
    | bad => simp only [qc] at h2; exact h2.elim
    | ok z st3 =>
    simp only [qc] at h2
    intro ρ3 G3 bv p3 k4 s4 rz
    cases rz
    obtain ⟨ρ4, p4, s5, _⟩ := RepS.gc (d := .non) (v := .non) s3 p3 s4 rfl
    have kAll : Kp (upd H1 Dn (.lst [])) G3 := k2.trans (k3.trans k4)
    cases bv with
    | false =>
      rw [if_neg Bool.false_ne_true]
      simp only at h2
      exact ⟨_, by omega, ρ4, gc st2 st3 .non, p2.trans p4, kAll, s5, rfl, hlt, Pst.kp p4 (k3.trans k4) h2⟩
    | true =>
      rw [if_pos rfl]
      simp only at h2
      refine ⟨ρ4, env1, gc st2 st3 .non, e1.kp p4 k4, s5, ?_⟩
      cases qe : evE cl celt env1 (gc st2 st3 .non) with
      | exc c fs st6 => simp only [qe] at h2; exact h2.elim
      | bad => simp only [qe] at h2; exact h2.elim
      | ok yv st6 =>
      simp only [qe] at h2
      intro ρ5 G5 v5 p5 k5 s6 r5
      obtain ⟨ρ6, p6, s7, r6⟩ := RepS.gc s5 p5 s6 r5
      split at h2
      · rename_i acc qa
        split at h2
        · rename_i hlim
          have pt : Pre (ρ1 ++ [Dn]) ρ6 := p2.trans (p4.trans p6)
          obtain ⟨D2, e2, vs, hv, rv⟩ := s7.at_ _ _ qa
          have : D2 = Dn := by
            have := pt.get hat
            rw [this] at e2
            exact (Option.some.inj e2).symm
          subst this
          have kp : Kp G5 (upd G5 D2 (.lst (vs ++ [v5]))) := Kp.put hv (fun _ z => (by cases z)) fun _ _ z => (by cases z)
          refine ⟨vs, hv, by rw [rv.length, sizeLine_eq]; unfold lim at hlim; omega, _, by omega, ρ6, _, pt, kAll.trans (k5.trans kp), s7.write (o' := .lst (acc ++ [yv])) qa rfl e2 ⟨_, upd_same, ?_⟩ rfl, rfl, hlt, Pst.kp (p4.trans p6) (k3.trans (k4.trans (k5.trans kp))) h2⟩
          exact RepL.append (RepL.kp (Pre.refl _) kp _ _ rv) ⟨v5, [], rfl, RepD.kp (Pre.refl _) kp _ _ r6, rfl⟩
        · exact h2.elim
      · exact h2.elim
  · have ei : i = items.length := by omega
    subst ei
    refine .inl ⟨wk.stops ρ2 G st2 pr kr s2 still, ?_⟩
    rw [List.drop_length] at h2
    unfold compL at h2
    rw [if_pos still] at h2
    exact h2.here s2 ⟨Dn, rfl, p2.get hat⟩
theorem s_comp {tg iter elt : Expr} {ifs : List Expr} {scope : Scope} {own : List (Str × Nat)} {tgt : List Nat} {one : Bool} {w : Nat} {a b ccond celt : CE} {pos : Pos} (hc : X.calm = true) (hN : X.N.Nodup) (hi : PI X tg iter (tI X.K fa w (itF cl w a b))) (ok : BlkOk X.N X.env.scope scope own)
    (hsub : ∀ i ∈ tgt, i ∈ own.map (·.2))
    (hg : ∀ (s : Shared) (H : Hp) (C : Addr) (c : List (Str × Addr)) (fp : List Addr), PG (X.blk s H scope (compEnvC scope c C X.env) fp) tg (gOf X.K one tgt))
    (ht : ∀ (s : Shared) (H : Hp) (C : Addr) (c : List (Str × Addr)) (fp : List Addr), PTs (X.blk s H scope (compEnvC scope c C X.env) fp) ifs (tT X.K fa (evE cl ccond)))
    (he : ∀ (s : Shared) (H : Hp) (C : Addr) (c : List (Str × Addr)) (fp : List Addr), PEv (X.blk s H scope (compEnvC scope c C X.env) fp) fa cl elt celt)
    (hs : ∀ x, foldedSetIterable iter X.env x = pure x) : PEv X fa cl (.ListComp elt [⟨tg, iter, ifs, 0⟩] scope pos) (.comp (own.map (·.2)) tgt one w a b ccond celt) := by
  exact PE.imp (pe_lc hc hN hi ok hg ht he hs) (comp_read hsub)
end
end MP
/-! ## MP10 -/
set_option Elab.async false
set_option linter.all false
set_option autoImplicit false
set_option maxRecDepth 100000
set_option maxHeartbeats 1000000
/-! MP10: enumerate, written dicts, dict displays, sorted(set(..)). -/
namespace MP
open PySem PySem.Spec PyProof.Rows L2

section
variable {K : PySem.W.Frag} {fa : Nat → Option Addr} {ρ0 : List Addr} {H0 : Hp} {st0 : Sto}
theorem walkET {xs : List D} {a : Addr} {y : D} (r : RepD K fa ρ0 H0 (.tup xs) (.ref a)) : WalkOk K fa ρ0 H0 st0 4 (.tup xs) y (enumD 0 xs) (IteT K a) := by
  have both : ∀ ρ H, Pre ρ0 ρ → Kp H0 H → ∃ vs, RepL K fa ρ H xs vs ∧ SqT K H a vs := fun ρ H p k => by
    obtain ⟨b, vs, e1, h1, h2⟩ := r
    cases e1
    exact ⟨vs, RepL.kp p k _ _ h2, sqT_kp k h1⟩
  refine ⟨fun i ρ H st hi p k s hs => ?_, fun ρ H st p k s hs => ?_, fun i ρ H st v H' hi p k s hs hy => ?_⟩
  · obtain ⟨vs, h1, h2⟩ := both ρ H p k
    rw [enumD_len] at hi
    have l1 : i < vs.length := by rw [h1.length]; omega
    exact ⟨vs, vs[i], h2, List.getElem?_eq_getElem l1⟩
  · obtain ⟨vs, h1, h2⟩ := both ρ H p k
    exact ⟨vs, h2, by rw [enumD_len, h1.length]⟩
  · obtain ⟨vs, h1, h2⟩ := both ρ H p k
    obtain ⟨T, u, rfl, hT, rfl, f⟩ := hy
    obtain ⟨d, q, r1⟩ := h1.get' (f vs h2)
    obtain ⟨k1, s1, r3⟩ := pair_new (xs := []) (a := .int (i : Nat)) s hT rfl r1
    have := enumD_get xs i 0 d q
    rw [Int.zero_add] at this
    exact ⟨_, this, k1, s1, r3⟩
end
section
variable {X : Cx} {fa : Nat → Option Addr} {cl : Nat → List D → Sto → R D}
theorem i_enum {e : Expr} {c : CE} {es : List Expr} {j : Nat} {p pos pt : Pos} (hp : plainX e = true) (hg : Gl X "enumerate") (hm : X.mg "enumerate" = none) (he : PEv X fa cl e c) :
    PI X (.Tuple es j pt) (.Call (.Name "enumerate" p) [e] [] pos) (tI X.K fa 4 (itF cl 4 c (.cst .non))) := by
  refine PI.imp (pi_enumA hg hm (pa_cons he pa_nil (star_cons hp)) (star_cons hp)) fun σ H Q ⟨ρ, env, st, e, s, h⟩ => ?_
  refine PstI.first (eb := fun env st => evE cl (.cst .non) env st) e s h fun d st1 ρ1 H1 v e1 s1 r1 h1 => ?_
  unfold evE at h1
  simp only [R.bind] at h1
  cases q : itemsOf 4 d .non st1 with
  | none => rw [q] at h1; exact h1.elim
  | some zs =>
    rw [q] at h1
    simp only [itemsOf] at q
    obtain ⟨xs, q1, q2⟩ := Option.map_eq_some_iff.mp q
    subst q2
    obtain ⟨a, vs, rfl, rl, z⟩ := seqOf_rep s1 r1 q1
    refine ⟨a, rfl, ?_⟩
    rcases z with ⟨z, n, rfl⟩ | ⟨z, rfl⟩
    · exact .inl ⟨⟨vs, z⟩, h1 ρ1 H1 _ (Pre.refl _) (Kp.refl _) s1 (walkE r1 q1)⟩
    · exact .inr ⟨⟨vs, z⟩, h1 ρ1 H1 _ (Pre.refl _) (Kp.refl _) s1 (walkET r1)⟩

/-! ### a dict of the module -/
/-- at d stands a written dict of these -/
structure GD (K : PySem.W.Frag) (w : World) (d : Addr) (kvs : List (Str × Int)) : Prop where
  kd : ∃ es n, KDict K w d es n
  at_ : ∀ p ∈ kvs, ∃ t, PySem.W.nsIn K d p.1 = some (some (.int p.2 t))
  no : ∀ z : Str, (kvs.any fun p => decide (p.1 = z)) = false → PySem.W.nsIn K d z = some none
theorem s_gin {x : Str} {d : Addr} {u : Value} {kvs : List (Str × Int)} {a : Expr} {ca : CE} {pos pos' : Pos} (g : GD X.K X.w d kvs) (hg : Gl X x) (hm : X.mg x = some (.ref d)) (hdb : (x == ("__debug__" : Str)) = false) (ha : PEv X fa cl a ca) : PEv X fa cl (.Compare a [.In] [.Name x pos'] pos) (.gin kvs ca) := by
  obtain ⟨es, n, kd⟩ := g.kd
  refine PE.imp (pe_cmpR (op_in_kd kd) ha (pe_glob (v := .ref d) hg hm rfl hdb) (by simp [behindInMarks])) fun σ H Q ⟨ρ, env, st, e, s, h⟩ => ?_
  unfold evE at h
  refine tE.first e s h fun d' st1 ρ1 H1 v e1 s1 r1 p1 k1 h1 => ?_
  split at h1
  · rename_i z
    cases r1
    cases q : kvs.any fun p => decide (p.1 = z) with
    | false =>
      rw [q] at h1
      exact ⟨z, none, rfl, rfl, g.no z q, h1.here s1 rfl⟩
    | true =>
      rw [q] at h1
      obtain ⟨p, hp, hz⟩ := List.any_eq_true.mp q
      obtain ⟨t, ht⟩ := g.at_ p hp
      have : p.1 = z := by simpa using hz
      rw [this] at ht
      exact ⟨z, _, rfl, rfl, ht, h1.here s1 rfl⟩
  · exact h1.elim
theorem ix_kd {d : Addr} {es : Array DictEntry} {n : Nat} (kd : KDict X.K X.w d es n) : IxR X (fun x y H Q => ∃ (z : Str) (u0 : Value) (v0 : V), x = .ref d ∧ y = .str z ∧ PySem.W.nsIn X.K d z = some (some u0) ∧ RelV v0 u0 ∧ Q v0 H) := by
  intro value slice pins s σ H x y v u Q I rx ry h hs
  have h' := h
  obtain ⟨z, u0, v0, rfl, rfl, e, r, q⟩ := h
  have ev : v = Value.ref d := rx
  subst ev
  exact tail_any (kd_type kd I) slot_dict_getitem.lookup (op_item_kd kd pins s σ H _ _ _ u Q I rx ry h') hs
theorem s_gget {x : Str} {d : Addr} {kvs : List (Str × Int)} {a : Expr} {ca : CE} {pos pos' : Pos} (hp : plainI a = true) (g : GD X.K X.w d kvs) (hg : Gl X x) (hm : X.mg x = some (.ref d)) (hdb : (x == ("__debug__" : Str)) = false) (ha : PEv X fa cl a ca) : PEv X fa cl (.Subscript (.Name x pos') a pos) (.gget kvs ca) := by
  obtain ⟨es, n, kd⟩ := g.kd
  refine PE.imp (pe_ix (ix_kd kd) (pe_glob (v := .ref d) hg hm rfl hdb) ha (plainIx_of hp)) fun σ H Q ⟨ρ, env, st, e, s, h⟩ => ?_
  unfold evE at h
  refine tE.first e s h fun d' st1 ρ1 H1 v e1 s1 r1 p1 k1 h1 => ?_
  split at h1
  · rename_i z
    cases r1
    split at h1
    · rename_i p hp
      have h2 := List.mem_of_find?_eq_some hp
      have h3 : p.1 = z := by simpa using List.find?_some hp
      obtain ⟨t, ht⟩ := g.at_ p h2
      rw [h3] at ht
      exact ⟨z, _, .int p.2, rfl, rfl, ht, ⟨t, rfl⟩, h1.here s1 rfl⟩
    · exact h1.elim
  · exact h1.elim

/-! ### sorted(set(..)) -/
def rSetT (K : PySem.W.Frag) (w : World) : List V → Hp → VK → Prop := fun xs H Q => ∃ (a : Addr) (ns : List Int), xs = [.ref a] ∧ SqT K H a (ns.map V.int) ∧ ns.length < 60 ∧ ∀ p c, c ≤ ns.length → H p = none → Q (.ref p) (upd H p (SetO w p (fun j => decide (j ∈ ns)) c))
theorem cr_setT (hc : X.calm = true) : CallR X (.type "set") (rSetT X.K X.w) := by
  intro pins q σ H xs us Q I rel want
  obtain ⟨a, ns, rfl, sq, small, go⟩ := want
  have eu := Vals.ref1 rel
  subst eu
  obtain ⟨its, rv, tp, _⟩ := I.tuple sq
  have line : ns.length + 1 < scanBound := Nat.lt_of_lt_of_le (Nat.succ_lt_succ small) (by decide)
  refine call_set_tupI ns (I.ok.hd hc) tp rv.ints line fun g tk c R hle kp => ?_
  have new := I.hok.fresh (Nat.le_refl q.heap.objs.size)
  exact ⟨.ref q.heap.objs.size, _, I.laid (h' := g) (t' := tk) kp (Nat.le_refl _) (setO_new R), rfl, go _ c hle new⟩
/-- ascending lists with the same members are one -/
theorem asc_one : ∀ (xs ys : List Int), xs.Pairwise (· < ·) → ys.Pairwise (· < ·) → (∀ k, k ∈ xs ↔ k ∈ ys) → xs = ys
  | [], [], _, _, _ => rfl
  | [], y :: ys, _, _, h => absurd ((h y).mpr List.mem_cons_self) (by simp)
  | x :: xs, [], _, _, h => absurd ((h x).mp List.mem_cons_self) (by simp)
  | x :: xs, y :: ys, hx, hy, h => by
    obtain ⟨x1, x2⟩ := List.pairwise_cons.mp hx
    obtain ⟨y1, y2⟩ := List.pairwise_cons.mp hy
    have e : x = y := by
      rcases List.mem_cons.mp ((h x).mp List.mem_cons_self) with z | z
      · exact z
      · rcases List.mem_cons.mp ((h y).mpr List.mem_cons_self) with w | w
        · exact w.symm
        · have := x1 y w
          have := y1 x z
          omega
    subst e
    rw [asc_one xs ys x2 y2 fun k => ⟨fun hk => ?_, fun hk => ?_⟩]
    · rcases List.mem_cons.mp ((h k).mp (List.mem_cons_of_mem _ hk)) with z | z
      · have := x1 k hk
        omega
      · exact z
    · rcases List.mem_cons.mp ((h k).mpr (List.mem_cons_of_mem _ hk)) with z | z
      · have := y1 k hk
        omega
      · exact z
theorem insI_mem (x k : Int) : ∀ ys : List Int, k ∈ insI x ys ↔ k = x ∨ k ∈ ys
  | [] => by simp [insI]
  | y :: ys => by
    unfold insI
    split
    · simp
    · split
      · rename_i e
        subst e
        simp
      · simp [insI_mem x k ys]
        constructor <;> (intro h; rcases h with h | h | h <;> simp [h])
theorem insI_asc (x : Int) : ∀ ys : List Int, ys.Pairwise (· < ·) → (insI x ys).Pairwise (· < ·)
  | [], _ => by simp [insI]
  | y :: ys, h => by
    obtain ⟨h1, h2⟩ := List.pairwise_cons.mp h
    unfold insI
    split
    · rename_i c
      refine List.pairwise_cons.mpr ⟨fun k hk => ?_, h⟩
      rcases List.mem_cons.mp hk with z | z
      · omega
      · have := h1 k z
        omega
    · split
      · exact h
      · refine List.pairwise_cons.mpr ⟨fun k hk => ?_, insI_asc x ys h2⟩
        rcases (insI_mem x k ys).mp hk with z | z
        · omega
        · exact h1 k z
theorem ssortI_mem (k : Int) : ∀ xs : List Int, k ∈ ssortI xs ↔ k ∈ xs
  | [] => by simp [ssortI]
  | x :: xs => by simp [ssortI, insI_mem, ssortI_mem k xs]
theorem ssortI_asc : ∀ xs : List Int, (ssortI xs).Pairwise (· < ·)
  | [] => by simp [ssortI]
  | x :: xs => insI_asc x _ (ssortI_asc xs)
/-- over a tuple alone -/
theorem s_ssort {e : Expr} {c : CE} {p p2 pos pos2 : Pos} (hc : X.calm = true) (hp : plainX e = true) (hg : Gl X "sorted") (hm : X.mg "sorted" = none) (hg2 : Gl X "set") (hm2 : X.mg "set" = none) (he : PEv X fa cl e c) :
    PEv X fa cl (.Call (.Name "sorted" p) [.Call (.Name "set" p2) [e] [] pos2] [] pos) (.sset c) := by
  refine PE.imp (pe_callB (cr_sortedSet hc) hg hm (by decide +kernel) (pa_cons (pe_callTy (cr_setT hc) hg2 hm2 (by decide +kernel) (pa_cons he pa_nil (star_cons hp)) (by decide) (by decide) (star_cons hp) (back_all rfl)) pa_nil (star_cons rfl)) (by decide) (by decide) (star_cons rfl) (back_all rfl)) fun σ H Q ⟨ρ, env, st, e, s, h⟩ => ?_
  unfold evE at h
  refine tE.first e s h fun d st1 ρ1 H1 v e1 s1 r1 p1 k1 h1 => ?_
  cases d with
  | tup xs =>
    simp only [opSset] at h1
    split at h1
    · rename_i is ei
      split at h1
      · rename_i hl
        obtain ⟨a, vs, rfl, ha, rv⟩ := r1
        have := optAll_ints ei rv
        subst this
        refine ⟨a, is, rfl, ha, hl, fun q c hcl hq => ?_⟩
        refine ⟨q, _, c, rfl, upd_same, by omega, fun ns p' asc mem _ hp' => ?_⟩
        have : ns = ssortI is := asc_one _ _ asc (ssortI_asc is) fun k => by rw [mem, ssortI_mem]; simp
        subst this
        have kq := Kp.new (o := SetO X.w q (fun j => decide (j ∈ is)) c) hq
        have s2 := s1.more (u := SetO X.w q (fun j => decide (j ∈ is)) c) hq
        refine (Pst.kp (Pre.refl _) kq h1).new s2 hp' ⟨_, upd_same, ?_⟩
        have allI : ∀ (l : List Int) ρ H, RepL X.K fa ρ H (l.map D.int) (l.map V.int) := by
          intro l
          induction l with
          | nil => intro _ _; rfl
          | cons x l ih => intro ρ H; exact ⟨_, _, rfl, rfl, ih ρ H⟩
        exact allI _ _ _
      · exact h1.elim
    · exact h1.elim
  | _ => exact h1.elim

/-! ### dict displays -/
def trsOf (K : PySem.W.Frag) (fa : Nat → Option Addr) (cl : Nat → List D → Sto → R D) : List Str → List CE → List (TE × TE)
  | k :: ks, c :: cs => (tC (.str k), tE K fa (evE cl c)) :: trsOf K fa cl ks cs
  | _, _ => []
inductive DsOk (X : Cx) (fa : Nat → Option Addr) (cl : Nat → List D → Sto → R D) : List (Option Expr) → List Expr → List Str → List CE → Prop
  | nil : DsOk X fa cl [] [] [] []
  | cons {k : Str} {j : Nat} {p : Pos} {e : Expr} {c : CE} {es : List (Option Expr)} {vs : List Expr} {ks : List Str} {cs : List CE} (h : PEv X fa cl e c) (r : DsOk X fa cl es vs ks cs) : DsOk X fa cl (some (.Constant (.str k) j p) :: es) (e :: vs) (k :: ks) (c :: cs)
theorem DsOk.pps {es : List (Option Expr)} {vs : List Expr} {ks : List Str} {cs : List CE} {pos : Pos} (h : DsOk X fa cl es vs ks cs) : PPs X pos es vs (trsOf X.K fa cl ks cs) := by
  induction h with
  | nil => exact pps_nil
  | cons h r ih => exact pps_cons pe_str h ih
theorem DsOk.facts {es : List (Option Expr)} {vs : List Expr} {ks : List Str} {cs : List CE} (h : DsOk X fa cl es vs ks cs) : es.all (·.isSome) = true ∧ es.length = vs.length ∧ ks.length = cs.length ∧ es.length = ks.length := by
  induction h with
  | nil => exact ⟨rfl, rfl, rfl, rfl⟩
  | cons h r ih => obtain ⟨a, b, c, d⟩ := ih; exact ⟨by simpa using a, by simp [b], by simp [c], by simp [d]⟩
/-- the values, from the left; f what is done with them -/
theorem pairs_read {σ : L2.St} {env : Env} : ∀ (ks : List Str) (cs : List CE) {ρ : List Addr} {H : Hp} {st : Sto} {Q : VK} {f : List D → Sto → R D} {W : List (V × V) → Hp → Prop}, ks.length = cs.length → RepE X.K fa ρ H env σ → RepS X.K fa ρ H st → Pst X.K fa (RepD X.K fa) ρ H ((evEs cl cs env st).bind f) Q →
    (∀ ds vs st1 ρ1 H1, Pre ρ ρ1 → Kp H H1 → RepS X.K fa ρ1 H1 st1 → RepL X.K fa ρ1 H1 ds vs → Pst X.K fa (RepD X.K fa) ρ1 H1 (f ds st1) Q → vs.length = ks.length → W (ks.zip vs |>.map fun p => (V.str p.1, p.2)) H1) → tPairs (trsOf X.K fa cl ks cs) σ H W
  | [], [], ρ, H, st, Q, f, W, _, e, s, h, c => by
    unfold evEs at h
    exact c [] [] st ρ H (Pre.refl _) (Kp.refl _) s rfl h rfl
  | k :: ks, c0 :: cs, ρ, H, st, Q, f, W, hl, e, s, h, c => by
    unfold evEs at h
    rw [show ∀ (m : R D) (g : D → Sto → R (List D)), (R.bind (R.bind m g) f : R D) = R.bind m fun x st => R.bind (g x st) f by intro m g; cases m <;> rfl] at h
    refine tE.first e s h fun d st1 ρ1 H1 v e1 s1 r1 p1 k1 h1 => ?_
    rw [show ∀ (m : R (List D)) (g : List D → Sto → R (List D)), (R.bind (R.bind m g) f : R D) = R.bind m fun x st => R.bind (g x st) f by intro m g; cases m <;> rfl] at h1
    refine pairs_read ks cs (by simpa using hl) e1 s1 h1 fun ds vs st2 ρ2 H2 p2 k2 s2 r2 h2 l2 => ?_
    exact c (d :: ds) (v :: vs) st2 ρ2 H2 (p1.trans p2) (k1.trans k2) s2 ⟨v, vs, rfl, RepD.kp p2 k2 _ _ r1, r2⟩ h2 (by simp [l2])
theorem nodupS_ok : ∀ {ks : List Str}, nodupS ks = true → ks.Nodup
  | [], _ => List.nodup_nil
  | x :: xs, h => by
    simp only [nodupS, Bool.and_eq_true, Bool.not_eq_true', List.any_eq_false, decide_eq_true_eq] at h
    exact List.nodup_cons.mpr ⟨fun z => h.1 x z rfl, nodupS_ok h.2⟩
theorem putK_new {kvs : List (Key × V)} {k : Key} {v : V} (h : ∀ p ∈ kvs, p.1 ≠ k) : putK kvs k v = kvs ++ [(k, v)] := by
  unfold putK
  rw [if_neg]
  intro q
  obtain ⟨p, hp, e⟩ := List.any_eq_true.mp q
  exact h p hp (by simpa using e)
theorem merge_new : ∀ (more kvs : List (Key × V)), ((kvs ++ more).map (·.1)).Nodup → mergeK kvs more = kvs ++ more
  | [], kvs, _ => by simp [mergeK]
  | p :: more, kvs, h => by
    have : mergeK kvs (p :: more) = mergeK (putK kvs p.1 p.2) more := rfl
    rw [this, putK_new, merge_new more _ (by simpa using h)]
    · simp
    · intro q hq e
      rw [List.map_append, List.map_cons] at h
      have := (List.nodup_append.mp h).2.2 q.1 (List.mem_map_of_mem hq) p.1 List.mem_cons_self
      exact this e
theorem zip_kvs : ∀ (ks : List Str) (vs : List V), ((ks.zip vs).map fun p => (V.str p.1, p.2)) = ((ks.zip vs).map fun p => ((Sum.inr p.1 : Key), p.2)).map fun kv => (kV kv.1, kv.2)
  | [], _ => rfl
  | _ :: _, [] => rfl
  | k :: ks, v :: vs => by
    simp only [List.zip_cons_cons, List.map_cons]
    rw [zip_kvs ks vs]
    rfl
theorem repKV_of {K : PySem.W.Frag} {ρ : List Addr} {H : Hp} : ∀ (ks : List Str) (ds : List D) (vs : List V), ks.length = ds.length → RepL K fa ρ H ds vs → RepKV K fa ρ H (kvOf ks ds) ((ks.zip vs).map fun p => ((Sum.inr p.1 : Key), p.2))
  | [], [], vs, _, _ => by simp [kvOf, RepKV]
  | k :: ks, d :: ds, _, h, ⟨v, r, e, h1, h2⟩ => by
    subst e
    exact ⟨_, _, _, rfl, rfl, h1, repKV_of ks ds r (by simpa using h) h2⟩
theorem s_dct {es : List (Option Expr)} {vs : List Expr} {ks : List Str} {cs : List CE} {pos : Pos} (h : DsOk X fa cl es vs ks cs) (hne : es ≠ []) (h15 : es.length ≤ 15) : PEv X fa cl (.Dict es vs pos) (.dct ks cs) := by
  obtain ⟨f1, f2, f3, f4⟩ := h.facts
  refine PE.imp (pe_disp h.pps f1 f2 hne h15) fun σ H Q ⟨ρ, env, st, e, s, h⟩ => ?_
  intro p hp
  unfold evE at h
  have k1 : Kp H (upd H p (.dK [])) := Kp.new hp
  have s1 : RepS X.K fa (ρ ++ [p]) (upd H p (.dK [])) (st ++ [.dct []]) := s.alloc hp ⟨[], upd_same, rfl⟩
  have hat : (ρ ++ [p])[st.length]? = some p := by rw [← s.len, List.getElem?_append_right (Nat.le_refl _)]; simp
  refine pairs_read ks cs f3 (e.kp (Pre.snoc _ _) k1) s1 (Pst.kp (Pre.snoc _ _) k1 h) fun ds ws st2 ρ2 H2 p2 k2 s2 r2 h2 l2 => ?_
  split at h2
  · rename_i q
    split at h2
    · rename_i c
      simp only [Bool.and_eq_true, decide_eq_true_eq] at c
      obtain ⟨c1, c2, c3⟩ := c
      obtain ⟨p', e2, w0, h3, h4⟩ := s2.at_ _ _ q
      have : p' = p := by
        have := p2.get hat
        rw [this] at e2
        exact (Option.some.inj e2).symm
      subst this
      cases h4
      refine ⟨h3, _, zip_kvs ks ws, ?_, ?_⟩
      · simp [l2]
        omega
      · have hnd : ((([] : List (Key × V)) ++ (ks.zip ws).map fun (p : Str × V) => ((Sum.inr p.1 : Key), p.2)).map (fun (z : Key × V) => z.1)).Nodup := by
          have e3 : ((ks.zip ws).map fun (p : Str × V) => ((Sum.inr p.1 : Key), p.2)).map (fun (z : Key × V) => z.1) = ks.map Sum.inr := by
            rw [List.map_map]
            have : (ks.zip ws).map Prod.fst = ks := by rw [List.map_fst_zip]; omega
            conv => rhs; rw [← this]
            rw [List.map_map]
            rfl
          rw [List.nil_append, e3]
          exact (nodupS_ok c2).map Sum.inr (fun a b h1 h2 => h1 (Sum.inr.inj h2))
        rw [merge_new _ _ hnd, List.nil_append]
        have kp : Kp H2 (upd H2 p' (.dK ((ks.zip ws).map fun p => ((Sum.inr p.1 : Key), p.2)))) := Kp.put h3 (fun _ z => (by cases z)) fun _ _ z => (by cases z)
        refine h2 ρ2 _ _ (Pre.refl _) kp (s2.write (o' := .dct (kvOf ks ds)) q rfl e2 ⟨_, upd_same, repKV_of ks ds ws c1 (RepL.kp (Pre.refl _) kp _ _ r2)⟩ rfl) ⟨p', rfl, e2⟩
    · exact h2.elim
  · exact h2.elim
theorem s_dct0 {pos : Pos} : PEv X fa cl (.Dict [] [] pos) (.dct [] []) := by
  refine PE.imp pe_dnewK fun σ H Q ⟨ρ, env, st, e, s, h⟩ => ?_
  intro p hp
  unfold evE evEs at h
  simp only [R.bind] at h
  rw [show (st ++ [O.dct []])[st.length]? = some (.dct []) by simp] at h
  have e1 : (st ++ [O.dct []]).set st.length (.dct (kvOf [] [])) = st ++ [.dct []] := by simp [kvOf]
  simp only [List.length_nil, nodupS, Nat.ble, decide_true, Bool.and_true, if_true, e1] at h
  exact Pst.new h s hp ⟨[], upd_same, rfl⟩
/-! ### tuple(range(..)), list(range(..)) -/
theorem rgV_rep {K : PySem.W.Frag} {ρ : List Addr} {H : Hp} : ∀ (n : Nat) (a : Int), RepL K fa ρ H (rangeD a n) ((List.range n).map fun i => V.int (a + (i : Nat)))
  | 0, a => rfl
  | n + 1, a => by
    rw [List.range_succ_eq_map, List.map_cons, List.map_map]
    refine ⟨_, _, rfl, by simp [RepD], ?_⟩
    have := rgV_rep (ρ := ρ) (H := H) (K := K) n (a + 1)
    have e : ((fun i : Nat => V.int (a + (i : Nat))) ∘ Nat.succ) = fun i : Nat => V.int (a + 1 + (i : Nat)) := by
      funext i
      simp only [Function.comp, Nat.succ_eq_add_one]
      congr 1
      omega
    rw [e]
    exact this
theorem rg_end {l : Bool} {ρ : List Addr} {H : Hp} {st : Sto} {a b : Int} {Q : V → Hp → Prop} (s : RepS X.K fa ρ H st)
    (h : Pst X.K fa (RepD X.K fa) ρ H (if l = true then mkL (rangeD a (b - a).toNat) st else mkT (rangeD a (b - a).toNat) st) Q) :
    ∀ q, H q = none → Q (.ref q) (upd H q (if l then .lst (rgV a b) else .tup (rgV a b))) := by
  intro q hq
  cases l with
  | true =>
    simp only [if_true] at h ⊢
    unfold mkL at h
    split at h
    · exact Pst.new h s hq ⟨_, upd_same, RepL.kp (Pre.snoc ρ q) (Kp.new hq) _ _ (rgV_rep _ _)⟩
    · exact h.elim
  | false =>
    simp only [Bool.false_eq_true, if_false] at h ⊢
    unfold mkT at h
    split at h
    · exact Pst.tup h s hq (rgV_rep _ _)
    · exact h.elim
theorem rg_read1 {l : Bool} {c : CE} {σ : L2.St} {H : Hp} {Q : VK} (h : tE X.K fa (evE cl (.rg l 1 c (.cst .non))) σ H Q) :
    tRg1 (tE X.K fa (evE cl c)) σ H fun a b H1 => RgOk a b ∧ ∀ q, H1 q = none → Q (.ref q) (upd H1 q (if l then .lst (rgV a b) else .tup (rgV a b))) := by
  obtain ⟨ρ, env, st, e, s, h⟩ := h
  unfold evE at h
  refine tE.first e s h fun d st1 ρ1 H1 v e1 s1 r1 p1 k1 h1 => ?_
  unfold evE at h1
  simp only [R.bind, opRg, itemsOf] at h1
  cases d with
  | int n =>
    cases r1
    rw [if_pos (show ((1 == 1 || 1 == 2) = true) from rfl)] at h1
    simp only at h1
    by_cases hn : (decide (n ≤ 1000000) && decide (-1000000 ≤ n)) = true
    · rw [if_pos hn] at h1
      simp only [Bool.and_eq_true, decide_eq_true_eq] at hn
      refine ⟨n, rfl, ⟨by omega, by omega, by omega, by omega, by omega⟩, ?_⟩
      exact rg_end (a := 0) (b := n) (l := l) (X := X) s1 (Q := Q) (by rw [Int.sub_zero]; exact h1)
    · rw [if_neg hn] at h1
      exact h1.elim
  | _ => exact h1.elim
theorem rg_read2 {l : Bool} {c c2 : CE} {σ : L2.St} {H : Hp} {Q : VK} (h : tE X.K fa (evE cl (.rg l 2 c c2)) σ H Q) :
    tRg2 (tE X.K fa (evE cl c)) (tE X.K fa (evE cl c2)) σ H fun a b H1 => RgOk a b ∧ ∀ q, H1 q = none → Q (.ref q) (upd H1 q (if l then .lst (rgV a b) else .tup (rgV a b))) := by
  obtain ⟨ρ, env, st, e, s, h⟩ := h
  unfold evE at h
  refine tE.first e s h fun d st1 ρ1 H1 v e1 s1 r1 p1 k1 h1 => tE.first e1 s1 h1 fun d2 st2 ρ2 H2 v2 e2 s2 r2 p2 k2 h2 => ?_
  simp only [opRg, itemsOf] at h2
  split at h2
  case isFalse hz => exact absurd rfl hz
  split at h2
  · rename_i xs hx
    split at hx
    · rename_i i j
      cases r1
      cases r2
      split at hx
      · rename_i hn
        cases hx
        simp only [Bool.and_eq_true, decide_eq_true_eq] at hn
        exact ⟨i, j, rfl, rfl, ⟨by omega, by omega, by omega, by omega, by omega⟩, rg_end (a := i) (b := j) (l := l) (X := X) s2 (Q := Q) h2⟩
      · cases hx
    · cases hx
  · exact h2.elim
theorem s_rgT1 {e : Expr} {c : CE} {p p2 pos pos2 : Pos} (hc : X.calm = true) (hp : plainX e = true) (hg : Gl X "tuple") (hm : X.mg "tuple" = none) (hg2 : Gl X "range") (hm2 : X.mg "range" = none) (he : PEv X fa cl e c) :
    PEv X fa cl (.Call (.Name "tuple" p) [.Call (.Name "range" p2) [e] [] pos2] [] pos) (.rg false 1 c (.cst .non)) :=
  PE.imp (pe_tupRg hc hg hm (prg_1 hg2 hm2 he (star_cons hp)) (star_cons rfl)) fun σ H Q h => rg_read1 h
theorem s_rgL1 {e : Expr} {c : CE} {p p2 pos pos2 : Pos} (hc : X.calm = true) (hp : plainX e = true) (hg : Gl X "list") (hm : X.mg "list" = none) (hg2 : Gl X "range") (hm2 : X.mg "range" = none) (he : PEv X fa cl e c) :
    PEv X fa cl (.Call (.Name "list" p) [.Call (.Name "range" p2) [e] [] pos2] [] pos) (.rg true 1 c (.cst .non)) :=
  PE.imp (pe_listRg hc hg hm (prg_1 hg2 hm2 he (star_cons hp)) (star_cons rfl)) fun σ H Q h => rg_read1 h
theorem s_rgT2 {e e2 : Expr} {c c2 : CE} {p p2 pos pos2 : Pos} (hc : X.calm = true) (hp : plainX e = true) (hp2 : plainX e2 = true) (hg : Gl X "tuple") (hm : X.mg "tuple" = none) (hg2 : Gl X "range") (hm2 : X.mg "range" = none) (he : PEv X fa cl e c) (he2 : PEv X fa cl e2 c2) :
    PEv X fa cl (.Call (.Name "tuple" p) [.Call (.Name "range" p2) [e, e2] [] pos2] [] pos) (.rg false 2 c c2) :=
  PE.imp (pe_tupRg hc hg hm (prg_2 hg2 hm2 he he2 (star_cons hp) (star_cons hp2) (back_all (by simp [hp2]))) (star_cons rfl)) fun σ H Q h => rg_read2 h
theorem s_rgL2 {e e2 : Expr} {c c2 : CE} {p p2 pos pos2 : Pos} (hc : X.calm = true) (hp : plainX e = true) (hp2 : plainX e2 = true) (hg : Gl X "list") (hm : X.mg "list" = none) (hg2 : Gl X "range") (hm2 : X.mg "range" = none) (he : PEv X fa cl e c) (he2 : PEv X fa cl e2 c2) :
    PEv X fa cl (.Call (.Name "list" p) [.Call (.Name "range" p2) [e, e2] [] pos2] [] pos) (.rg true 2 c c2) :=
  PE.imp (pe_listRg hc hg hm (prg_2 hg2 hm2 he he2 (star_cons hp) (star_cons hp2) (back_all (by simp [hp2]))) (star_cons rfl)) fun σ H Q h => rg_read2 h
end
end MP
/-! ## MP11 -/
set_option Elab.async false
set_option linter.all false
set_option autoImplicit false
set_option maxRecDepth 100000
set_option maxHeartbeats 1000000
/-! MP11: statements. -/
namespace MP
open PySem PySem.Spec PyProof.Rows L2

def OutP (K : PySem.W.Frag) (fa : Nat → Option Addr) (D : Ends) (ρ : List Addr) (H : Hp) : Out → Prop
  | .next env st => ∀ ρ' H' σ', Pre ρ ρ' → Kp H H' → RepE K fa ρ' H' env σ' → RepS K fa ρ' H' st → D.nx σ' H'
  | .brk env st => ∀ ρ' H' σ', Pre ρ ρ' → Kp H H' → RepE K fa ρ' H' env σ' → RepS K fa ρ' H' st → D.bk σ' H'
  | .cont env st => ∀ ρ' H' σ', Pre ρ ρ' → Kp H H' → RepE K fa ρ' H' env σ' → RepS K fa ρ' H' st → D.ct σ' H'
  | .ret d st => ∀ ρ' H' v, Pre ρ ρ' → Kp H H' → RepS K fa ρ' H' st → RepD K fa ρ' H' d v → D.rt v H'
  | _ => False
def tS (K : PySem.W.Frag) (fa : Nat → Option Addr) (ev : Env → Sto → Out) : TS := fun D σ H => ∃ ρ env st, RepE K fa ρ H env σ ∧ RepS K fa ρ H st ∧ OutP K fa D ρ H (ev env st)
section
variable {K : PySem.W.Frag} {fa : Nat → Option Addr} {ρ ρ1 : List Addr} {H H1 : Hp} {D : Ends}
theorem OutP.kp {o : Out} (p : Pre ρ ρ1) (k : Kp H H1) (h : OutP K fa D ρ H o) : OutP K fa D ρ1 H1 o := by
  cases o with
  | next env st => exact fun ρ' H' σ' p' k' => h ρ' H' σ' (p.trans p') (k.trans k')
  | brk env st => exact fun ρ' H' σ' p' k' => h ρ' H' σ' (p.trans p') (k.trans k')
  | cont env st => exact fun ρ' H' σ' p' k' => h ρ' H' σ' (p.trans p') (k.trans k')
  | ret d st => exact fun ρ' H' σ' p' k' => h ρ' H' σ' (p.trans p') (k.trans k')
  | exc c fs st => exact h
  | bad => exact h
/-- the first part of a statement -/
theorem tE.firstO {env : Env} {σ : L2.St} {st : Sto} {ea : EvF} {f : MP.D → Sto → Out} {K1 : VK} (e : RepE K fa ρ H env σ) (s : RepS K fa ρ H st) (h : OutP K fa D ρ H ((ea env st).out f))
    (c : ∀ d st1 ρ1 H1 v, RepE K fa ρ1 H1 env σ → RepS K fa ρ1 H1 st1 → RepD K fa ρ1 H1 d v → Pre ρ ρ1 → Kp H H1 → OutP K fa D ρ1 H1 (f d st1) → K1 v H1) : tE K fa ea σ H K1 := by
  refine ⟨ρ, env, st, e, s, ?_⟩
  cases q : ea env st with
  | ok d st1 =>
    rw [q] at h
    exact fun ρ' H' v p k s' r => c d st1 ρ' H' v (e.kp p k) s' r p k (OutP.kp p k h)
  | exc c fs st1 => rw [q] at h; exact h
  | bad => rw [q] at h; exact h
theorem tT.firstO {env : Env} {σ : L2.St} {st : Sto} {ea : EvF} {f : MP.D → Sto → Out} {K1 : Bool → Hp → Prop} (e : RepE K fa ρ H env σ) (s : RepS K fa ρ H st) (h : OutP K fa D ρ H ((ea env st).out f))
    (c : ∀ b st1 ρ1 H1, RepE K fa ρ1 H1 env σ → RepS K fa ρ1 H1 st1 → OutP K fa D ρ1 H1 (f (.bl b) st1) → K1 b H1) : tT K fa ea σ H K1 := by
  refine ⟨ρ, env, st, e, s, ?_⟩
  cases q : ea env st with
  | ok d st1 =>
    rw [q] at h
    exact fun ρ' H' v p k s' r => by cases r; exact c v st1 ρ' H' (e.kp p k) s' (OutP.kp p k h)
  | exc c fs st1 => rw [q] at h; exact h
  | bad => rw [q] at h; exact h
end
theorem PG.imp {X : Cx} {e : Expr} {t t' : TG} (h : PG X e t) (i : ∀ v σ H Q, t' v σ H Q → t v σ H Q) : PG X e t' := ⟨fun pins s σ H v u Q I r q => h.run pins s σ H v u Q I r (i v σ H Q q)⟩
section
variable {X : Cx} {fa : Nat → Option Addr} {cl : Nat → List D → Sto → R D}
abbrev PSv (X : Cx) (fa : Nat → Option Addr) (cl : Nat → List D → Sto → R D) (s : Stmt) (c : CS) : Prop := PS X s (tS X.K fa (evS cl c))
abbrev PSsv (X : Cx) (fa : Nat → Option Addr) (cl : Nat → List D → Sto → R D) (s : List Stmt) (c : List CS) : Prop := PSs X s (tS X.K fa (evSs cl c))
theorem ss_nil : PSsv X fa cl [] [] := PSs.imp pss_nil fun D σ H ⟨ρ, env, st, e, s, h⟩ => by
  unfold evSs at h
  exact h ρ H σ (Pre.refl _) (Kp.refl _) e s
theorem ss_cons {s : Stmt} {ss : List Stmt} {c : CS} {cs : List CS} (hs : PSv X fa cl s c) (hr : PSsv X fa cl ss cs) : PSsv X fa cl (s :: ss) (c :: cs) := by
  refine PSs.imp (pss_cons hs hr) fun D σ H ⟨ρ, env, st, e, s, h⟩ => ⟨ρ, env, st, e, s, ?_⟩
  unfold evSs at h
  cases q : evS cl c env st with
  | next env1 st1 =>
    simp only [q] at h
    exact fun ρ' H' σ' p k e' s' => ⟨ρ', env1, st1, e', s', OutP.kp p k h⟩
  | brk env1 st1 => simp only [q] at h; exact h
  | cont env1 st1 => simp only [q] at h; exact h
  | ret d st1 => simp only [q] at h; exact h
  | exc c fs st1 => simp only [q] at h; exact h
  | bad => simp only [q] at h; exact h
theorem ss_pass {pos : Pos} : PSv X fa cl (.Pass pos) .pass := PS.imp ps_pass fun D σ H ⟨ρ, env, st, e, s, h⟩ => by
  unfold evS at h
  exact h ρ H σ (Pre.refl _) (Kp.refl _) e s
theorem ss_brk {pos : Pos} : PSv X fa cl (.Break pos) .brk := PS.imp ps_break fun D σ H ⟨ρ, env, st, e, s, h⟩ => by
  unfold evS at h
  exact h ρ H σ (Pre.refl _) (Kp.refl _) e s
theorem ss_cont {pos : Pos} : PSv X fa cl (.Continue pos) .cont := PS.imp ps_continue fun D σ H ⟨ρ, env, st, e, s, h⟩ => by
  unfold evS at h
  exact h ρ H σ (Pre.refl _) (Kp.refl _) e s
theorem ss_never {s : Stmt} : PSv X fa cl s .never := PS.imp ps_never fun D σ H ⟨ρ, env, st, e, s, h⟩ => by
  unfold evS at h
  exact h
theorem ss_ret {e : Expr} {c : CE} {pos : Pos} (he : PEv X fa cl e c) : PSv X fa cl (.Return (some e) pos) (.ret c) := PS.imp (ps_ret he) fun D σ H ⟨ρ, env, st, e, s, h⟩ => by
  unfold evS at h
  exact tE.firstO e s h fun d st1 ρ1 H1 v e1 s1 r1 p1 k1 h1 => h1 ρ1 H1 v (Pre.refl _) (Kp.refl _) s1 r1
theorem ss_retN {pos : Pos} : PSv X fa cl (.Return none pos) .retN := PS.imp ps_retN fun D σ H ⟨ρ, env, st, e, s, h⟩ => by
  unfold evS at h
  exact h ρ H .non (Pre.refl _) (Kp.refl _) s rfl
def noComp : Expr → Bool
  | .ListComp _ _ _ _ => false
  | .SetComp _ _ _ _ => false
  | .DictComp _ _ _ _ _ => false
  | _ => true
theorem swaps_no {e : Expr} {t : Option Expr} {l : Nat} {env : PySem.Env} (h : noComp e = true) : swapsWith e t l env = pure false := by
  cases e <;> first | rfl | cases h
theorem ss_expr {e : Expr} {c : CE} {pos : Pos} (hn : noComp e = true) (he : PEv X fa cl e c) : PSv X fa cl (.Expr e pos) (.expr c) := PS.imp (ps_expr he (swaps_no hn)) fun D σ H ⟨ρ, env, st, e, s, h⟩ => by
  unfold evS at h
  exact tE.firstO e s h fun d st1 ρ1 H1 v e1 s1 r1 p1 k1 h1 => h1 ρ1 H1 σ (Pre.refl _) (Kp.refl _) e1 s1
theorem ss_doc {x : Str} {j : Nat} {pos pos' : Pos} : PSv X fa cl (.Expr (.Constant (.str x) j pos) pos') .pass := PS.imp ps_doc fun D σ H ⟨ρ, env, st, e, s, h⟩ => by
  unfold evS at h
  exact h ρ H σ (Pre.refl _) (Kp.refl _) e s
theorem ss_if {c : Expr} {a b : List Stmt} {cc : CE} {ca cb : List CS} {pos : Pos} (hc : PTv X fa cl c cc) (ha : PSsv X fa cl a ca) (hb : PSsv X fa cl b cb) : PSv X fa cl (.If c a b pos) (.ife cc ca cb) := by
  refine PS.imp (ps_if hc ha hb) fun D σ H ⟨ρ, env, st, e, s, h⟩ => ?_
  unfold evS at h
  refine tT.firstO e s h fun b st1 ρ1 H1 e1 s1 h1 => ?_
  cases b with
  | true => rw [if_pos rfl]; exact ⟨ρ1, env, st1, e1, s1, h1⟩
  | false => rw [if_neg Bool.false_ne_true]; exact ⟨ρ1, env, st1, e1, s1, h1⟩
/-! ### assignments -/
theorem asg_read {i : Nat} {c : CE} : ∀ D σ H, tS X.K fa (evS cl (.asg i c)) D σ H → tAsg (tE X.K fa (evE cl c)) (gName i) D σ H := fun D σ H ⟨ρ, env, st, e, s, h⟩ => by
  unfold evS at h
  exact tE.firstO e s h fun d st1 ρ1 H1 v e1 s1 r1 p1 k1 h1 => h1 ρ1 H1 _ (Pre.refl _) (Kp.refl _) (e1.set i r1) s1
theorem ss_asg {i : Nat} {x : Str} {e : Expr} {c : CE} {pos pos' : Pos} (hN : X.N.Nodup) (hi : X.N[i]? = some x) (hx : Loc X.env.scope x) (hf : X.fn x = true ∨ X.env.scope.names.lookup x = some .local) (hn : noComp e = true) (he : PEv X fa cl e c) : PSv X fa cl (.Assign [.Name x pos'] e pos) (.asg i c) :=
  PS.imp (ps_set hN hi hx he (swaps_no hn) hf) asg_read
/-- several names from a tuple -/
inductive NsOk (X : Cx) : List Expr → List Nat → Prop
  | nil : NsOk X [] []
  | cons {x : Str} {p : Pos} {i : Nat} {es : List Expr} {is : List Nat} (hi : X.N[i]? = some x) (hx : Loc X.env.scope x) (hf : X.fn x = true ∨ X.env.scope.names.lookup x = some .local) (r : NsOk X es is) : NsOk X (.Name x p :: es) (i :: is)
theorem NsOk.pgs {es : List Expr} {is : List Nat} (hN : X.N.Nodup) (h : NsOk X es is) : PGs X es (gEach is) := by
  induction h with
  | nil => exact pgs_nil
  | cons hi hx hf r ih => exact pgs_cons (pg_name hN hi hx hf) ih
theorem NsOk.len {es : List Expr} {is : List Nat} (h : NsOk X es is) : (assignEach es X.env).length = is.length ∧ (assignEach es X.env).findIdx? (·.1) = none := by
  induction h with
  | nil => exact ⟨rfl, rfl⟩
  | cons hi hx hf r ih =>
    constructor
    · simp [assignEach, ih.1]
    · simp [assignEach, List.findIdx?_cons, ih.2]
theorem ns_tup {es : List Expr} {is : List Nat} {k : Nat} {pos : Pos} (hc : X.calm = true) (hN : X.N.Nodup) (h : NsOk X es is) : PG X (.Tuple es k pos) (gOf X.K false is) := pg_tup hc (h.pgs hN) h.len.1 h.len.2
def noTup : Expr → Bool
  | .Tuple _ _ _ => false
  | _ => true
theorem ss_asgT {es : List Expr} {is : List Nat} {e : Expr} {c : CE} {k : Nat} {pos pos' : Pos} (hc : X.calm = true) (hN : X.N.Nodup) (hn : noComp e = true) (ht : noTup e = true) (h : NsOk X es is) (he : PEv X fa cl e c) : PSv X fa cl (.Assign [.Tuple es k pos'] e pos) (.asgT is c) := by
  have hw : swappedStores [.Tuple es k pos'] e X.env = pure none := by cases e <;> first | rfl | cases ht
  refine PS.imp (ps_asg he (ns_tup hc hN h) (by unfold swapsWithSole; exact swaps_no hn) hw) fun D σ H ⟨ρ, env, st, e, s, h⟩ => ?_
  unfold evS at h
  refine tE.firstO e s h fun d st1 ρ1 H1 v e1 s1 r1 p1 k1 h1 => ?_
  cases q : setTgt false is d env with
  | none => simp only [q] at h1; exact h1.elim
  | some env1 =>
    simp only [q] at h1
    exact gOf_ok q e1 r1 fun σ1 e2 _ => h1 ρ1 H1 σ1 (Pre.refl _) (Kp.refl _) e2 s1
theorem ss_setLc {i : Nat} {y : Str} {py : Pos} {tg iter elt : Expr} {ifs : List Expr} {scope : Scope} {own : List (Str × Nat)} {tgt : List Nat} {one : Bool} {w : Nat} {a b ccond celt : CE} {pos spos : Pos} (hc : X.calm = true) (hN : X.N.Nodup) (hy : X.N[i]? = some y) (hyl : X.env.scope.names.lookup y = some .local)
    (hsw : swapsWith (.ListComp elt [⟨tg, iter, ifs, 0⟩] scope pos) (some (.Name y py)) spos.line X.env = pure true) (hi : PI X tg iter (tI X.K fa w (itF cl w a b))) (ok : BlkOk X.N X.env.scope scope own) (hsub : ∀ i ∈ tgt, i ∈ own.map (·.2))
    (hg : ∀ (s : Shared) (H : Hp) (C : Addr) (c : List (Str × Addr)) (fp : List Addr), PG (X.blk s H scope (compEnvC scope c C X.env) fp) tg (gOf X.K one tgt))
    (ht : ∀ (s : Shared) (H : Hp) (C : Addr) (c : List (Str × Addr)) (fp : List Addr), PTs (X.blk s H scope (compEnvC scope c C X.env) fp) ifs (tT X.K fa (evE cl ccond)))
    (he : ∀ (s : Shared) (H : Hp) (C : Addr) (c : List (Str × Addr)) (fp : List Addr), PEv (X.blk s H scope (compEnvC scope c C X.env) fp) fa cl elt celt)
    (hs : ∀ x, foldedSetIterable iter X.env x = pure x) : PSv X fa cl (.Assign [.Name y py] (.ListComp elt [⟨tg, iter, ifs, 0⟩] scope pos) spos) (.asg i (.comp (own.map (·.2)) tgt one w a b ccond celt)) :=
  PS.imp (ps_setLc hc hN hy hyl hsw hi ok hg ht he hs) fun D σ H h => comp_read hsub σ H _ (asg_read D σ H h)
/-- two names from two values -/
theorem ss_par {i j : Nat} {x y : Str} {a b : Expr} {ca cb : CE} {px py pt pos pt2 : Pos} {kt k2 : Nat} (hc : X.calm = true) (hN : X.N.Nodup) (hi : X.N[i]? = some x) (hj : X.N[j]? = some y) (hij : i ≠ j) (hx : X.env.scope.names.lookup x = some .local) (hy : X.env.scope.names.lookup y = some .local)
    (hpa : plainX a = true) (hpb : plainX b = true) (hw : swappedStores [.Tuple [.Name x px, .Name y py] kt pt] (.Tuple [a, b] k2 pt2) X.env = pure (some [x, y])) (ha : PEv X fa cl a ca) (hb : PEv X fa cl b cb) :
    PSv X fa cl (.Assign [.Tuple [.Name x px, .Name y py] kt pt] (.Tuple [a, b] k2 pt2) pos) (.par i j ca cb) := by
  refine PS.imp (ps_par hc hN hi hj hij hx hy (pa_cons ha (pa_cons hb pa_nil (star_cons hpb)) (star_cons hpa)) hw) fun D σ H ⟨ρ, env, st, e, s, h⟩ => ?_
  unfold evS at h
  refine tE.firstO e s h fun d st1 ρ1 H1 v e1 s1 r1 p1 k1 h1 => tE.firstO e1 s1 h1 fun d2 st2 ρ2 H2 v2 e2 s2 r2 p2 k2 h2 => ?_
  exact ⟨v, v2, rfl, h2 ρ2 H2 _ (Pre.refl _) (Kp.refl _) ((e2.set i (RepD.kp p2 k2 _ _ r1)).set j r2) s2⟩

/-! ### stores into lists -/
section
variable {K : PySem.W.Frag} {ρ : List Addr} {H : Hp} {st st' : Sto} {D0 : Ends}
theorem ixN_eq (n : Nat) (i : Int) : ixN n i = ixD n i := rfl
theorem putAt_snd {a b c : D} {x y z : V} {W : Hp → Prop} (s : RepS K fa ρ H st) (ra : RepD K fa ρ H a x) (rb : RepD K fa ρ H b y) (rc : RepD K fa ρ H c z) (h : putAt a b c st = some st') (w : ∀ H', Kp H H' → RepS K fa ρ H' st' → W H') : rSetL x y z H W := by
  unfold putAt at h
  split at h
  · rename_i n i
    split at h
    · rename_i xs q
      split at h
      · rename_i j ej
        cases h
        obtain ⟨p, vs, rfl, ep, hp, rv⟩ := mutL s q ra
        cases rb
        refine ⟨p, vs, i, j, rfl, rfl, hp, by rw [ixN_eq, rv.length]; exact ej, ?_⟩
        have kp : Kp H (upd H p (.lst (vs.set j z))) := Kp.put hp (fun _ z => (by cases z)) fun _ _ z => (by cases z)
        exact w _ kp (s.write (o' := .lst (xs.set j c)) q rfl ep ⟨_, upd_same, RepL.kp (Pre.refl _) kp _ _ (rv.set j rc)⟩ rfl)
      · cases h
    · cases h
  · cases h
theorem appAt_snd {a c : D} {x z : V} {Q : VK} (s : RepS K fa ρ H st) (ra : RepD K fa ρ H a x) (rc : RepD K fa ρ H c z) (h : appAt a c st = some st') (w : ∀ H', Kp H H' → RepS K fa ρ H' st' → Q .non H') : rAppend x [z] H Q := by
  unfold appAt at h
  split at h
  · rename_i n
    split at h
    · rename_i xs q
      split at h
      · rename_i hl
        cases h
        obtain ⟨p, vs, rfl, ep, hp, rv⟩ := mutL s q ra
        refine ⟨p, vs, z, rfl, rfl, hp, by rw [rv.length, sizeLine_eq]; unfold lim at hl; omega, ?_⟩
        have kp : Kp H (upd H p (.lst (vs ++ [z]))) := Kp.put hp (fun _ z => (by cases z)) fun _ _ z => (by cases z)
        exact w _ kp (s.write (o' := .lst (xs ++ [c])) q rfl ep ⟨_, upd_same, RepL.kp (Pre.refl _) kp _ _ (rv.append ⟨z, [], rfl, rc, rfl⟩)⟩ rfl)
      · cases h
    · cases h
  · cases h
theorem extAt_snd {a c : D} {x z : V} {Q : VK} (s : RepS K fa ρ H st) (ra : RepD K fa ρ H a x) (rc : RepD K fa ρ H c z) (h : extAt a c st = some st') (w : ∀ H', Kp H H' → RepS K fa ρ H' st' → Q .non H') : rExtend x [z] H Q := by
  unfold extAt at h
  split at h
  · rename_i n m
    split at h
    · rename_i xs ys q1 q2
      split at h
      · rename_i hl
        cases h
        obtain ⟨p, vs, rfl, ep, hp, rv⟩ := mutL s q1 ra
        obtain ⟨p2, ws, rfl, ep2, hp2, rw'⟩ := mutL s q2 rc
        refine ⟨p, p2, vs, ws, rfl, rfl, hp, hp2, by rw [rv.length, rw'.length]; exact lim_size hl, ?_⟩
        have kp : Kp H (upd H p (.lst (vs ++ ws))) := Kp.put hp (fun _ z => (by cases z)) fun _ _ z => (by cases z)
        exact w _ kp (s.write (o' := .lst (xs ++ ys)) q1 rfl ep ⟨_, upd_same, RepL.kp (Pre.refl _) kp _ _ (rv.append rw')⟩ rfl)
      · cases h
    · cases h
  · cases h
end
theorem ss_sub {o i e : Expr} {co ci ce : CE} {pos pos' : Pos} (hn : noComp e = true) (ho : PEv X fa cl o co) (hi : PEv X fa cl i ci) (he : PEv X fa cl e ce)
    (ha : ∀ v, assign (.Subscript o i pos') X.env v = (do
      let ov ← holding [v] (eval o X.env)
      let iv ← holding [v, ov] (eval i X.env)
      standAt pos'
      holding [v, ov, iv] (setItem ov iv v)
      release [v, ov, iv] [])) : PSv X fa cl (.Assign [.Subscript o i pos'] e pos) (.sub co ci ce) := by
  refine PS.imp (ps_asg he (pg_sub ho hi set_list ha) (by unfold swapsWithSole; exact swaps_no hn)) fun D σ H ⟨ρ, env, st, e, s, h⟩ => ?_
  unfold evS at h
  refine tE.firstO e s h fun d st1 ρ1 H1 v e1 s1 r1 p1 k1 h1 => tE.firstO e1 s1 h1 fun d2 st2 ρ2 H2 v2 e2 s2 r2 p2 k2 h2 => tE.firstO e2 s2 h2 fun d3 st3 ρ3 H3 v3 e3 s3 r3 p3 k3 h3 => ?_
  cases q : putAt d2 d3 d st3 with
  | none => simp only [q] at h3; exact h3.elim
  | some st4 =>
    simp only [q] at h3
    exact putAt_snd s3 (RepD.kp p3 k3 _ _ r2) r3 (RepD.kp (p2.trans p3) (k2.trans k3) _ _ r1) q fun H' k4 s4 => h3 ρ3 H' _ (Pre.refl _) k4 (e3.kp (Pre.refl _) k4) s4
end
end MP
/-! ## MP12 -/
set_option Elab.async false
set_option linter.all false
set_option autoImplicit false
set_option maxRecDepth 100000
set_option maxHeartbeats 1000000
/-! MP12: loops, methods of lists. -/
namespace MP
open PySem PySem.Spec PyProof.Rows L2
section
variable {X : Cx} {fa : Nat → Option Addr} {cl : Nat → List D → Sto → R D}
theorem tyV_lst {K : PySem.W.Frag} {ρ : List Addr} {H : Hp} {st : Sto} {d : D} {v : V} (s : RepS K fa ρ H st) (r : RepD K fa ρ H d v) (q : isLst st d = true) : tyV K "list" v H := by
  unfold isLst at q
  split at q
  · rename_i n
    split at q
    · rename_i xs qs
      obtain ⟨p, vs, rfl, _, hp, _⟩ := mutL s qs r
      exact Or.inl ⟨rfl, _, Or.inl (Or.inl hp)⟩
    · cases q
  · cases q
def noSuper : Expr → Bool
  | .Call _ _ _ _ => false
  | _ => true
theorem base_of {o : Expr} {m : Str} {env : PySem.Env} {whole : Sem Value} (h : noSuper o = true) : attributeBase o m env whole = whole := by
  cases o <;> first | rfl | cases h
theorem few_of {e : Expr} {cpos : Pos} {env : PySem.Env} (h : plainX e = true) : ((backTo cpos (starEach [e] env)).all (fun x => !x.1) && (backToKw cpos (keywordEach [] env)).all (fun x => x.1.isSome)
      && decide (([e] : List Expr).length + ([] : List Keyword).length + (if ([] : List Keyword).isEmpty then 0 else 1) < 30)) = true := by
  rw [star_cons h]
  rfl
theorem ss_app {o e : Expr} {co ce : CE} {apos cpos pos : Pos} (hb : noSuper o = true) (hp : plainX e = true) (hl : (apos.endLine == cpos.line) = true) (ho : PEv X fa cl o co) (he : PEv X fa cl e ce) :
    PSv X fa cl (.Expr (.Call (.Attribute o "append" apos) [e] [] cpos) pos) (.app co ce) := by
  refine PS.imp (ps_expr (pe_bm PySem.F.plainAttrs_list PySem.F.slot_list_append PySem.F.type_list_append mt_append ho (pa_cons he pa_nil (star_cons hp)) (base_of hb) (few_of hp) hl (star_cons hp) (back_all rfl)) (swaps_no rfl)) fun D σ H ⟨ρ, env, st, e, s, h⟩ => ?_
  unfold evS at h
  refine tE.firstO e s h fun d st1 ρ1 H1 v e1 s1 r1 p1 k1 h1 => ?_
  split at h1
  · rename_i q1
    refine ⟨tyV_lst s1 r1 q1, tE.firstO e1 s1 h1 fun d2 st2 ρ2 H2 v2 e2 s2 r2 p2 k2 h2 => ?_⟩
    cases q : appAt d d2 st2 with
    | none => simp only [q] at h2; exact h2.elim
    | some st4 =>
      simp only [q] at h2
      exact appAt_snd (Q := fun _ H' => D.nx σ H') s2 (RepD.kp p2 k2 _ _ r1) r2 q fun H' k4 s4 => h2 ρ2 H' _ (Pre.refl _) k4 (e2.kp (Pre.refl _) k4) s4
  · exact h1.elim
theorem ss_ext {o e : Expr} {co ce : CE} {apos cpos pos : Pos} (hb : noSuper o = true) (hp : plainX e = true) (hl : (apos.endLine == cpos.line) = true) (ho : PEv X fa cl o co) (he : PEv X fa cl e ce) :
    PSv X fa cl (.Expr (.Call (.Attribute o "extend" apos) [e] [] cpos) pos) (.ext co ce) := by
  refine PS.imp (ps_expr (pe_bm PySem.F.plainAttrs_list PySem.F.slot_list_extend PySem.F.type_list_extend mt_extend ho (pa_cons he pa_nil (star_cons hp)) (base_of hb) (few_of hp) hl (star_cons hp) (back_all rfl)) (swaps_no rfl)) fun D σ H ⟨ρ, env, st, e, s, h⟩ => ?_
  unfold evS at h
  refine tE.firstO e s h fun d st1 ρ1 H1 v e1 s1 r1 p1 k1 h1 => ?_
  split at h1
  · rename_i q1
    refine ⟨tyV_lst s1 r1 q1, tE.firstO e1 s1 h1 fun d2 st2 ρ2 H2 v2 e2 s2 r2 p2 k2 h2 => ?_⟩
    cases q : extAt d d2 st2 with
    | none => simp only [q] at h2; exact h2.elim
    | some st4 =>
      simp only [q] at h2
      exact extAt_snd (Q := fun _ H' => D.nx σ H') s2 (RepD.kp p2 k2 _ _ r1) r2 q fun H' k4 s4 => h2 ρ2 H' _ (Pre.refl _) k4 (e2.kp (Pre.refl _) k4) s4
  · exact h1.elim

/-! ### for -/
theorem forL_still {still : Sto → Bool} {set : MP.D → Env → Option Env} {body : Env → Sto → Out} {D : Ends} {ρ : List Addr} {H : Hp} {xs : List MP.D} {env : Env} {st : Sto} (h : OutP X.K fa D ρ H (forL still set body xs env st)) : still st = true := by
  cases hs : still st with
  | true => rfl
  | false => cases xs <;> (unfold forL at h; rw [hs] at h; exact h.elim)
theorem ss_for {tg iter : Expr} {body : List Stmt} {tgt : List Nat} {one : Bool} {w : Nat} {a b : CE} {cbody : List CS} {pos : Pos} (hx : X.xe = fun _ _ => False) (hc : X.calm = true) (hi : PI X tg iter (tI X.K fa w (itF cl w a b))) (hg : PG X tg (gOf X.K one tgt)) (hb : PSsv X fa cl body cbody)
    (hs : ∀ x, foldedSetIterable iter X.env x = pure x) : PSv X fa cl (.For tg iter body [] pos) (.for tgt one w a b cbody) := by
  have hp : PassesOwn (model X.prog X.w) X.A X.env X.xe := by rw [hx]; exact PassesOwn.never
  refine PS.imp (ps_for hp hc hi hg hb hs) fun D σ H ⟨ρ, env, st, e, s, h⟩ => ?_
  unfold evS at h
  refine ⟨ρ, env, st, e, s, ?_⟩
  show PstI X.K fa w ρ H (itE w (evE cl a env st) fun st => evE cl b env st) _
  cases q : itE w (evE cl a env st) (fun st => evE cl b env st) with
  | exc c fs st1 => rw [q] at h; exact h
  | bad => rw [q] at h; exact h
  | ok p st1 =>
  rw [q] at h
  obtain ⟨x, y, items⟩ := p
  intro ρ1 H1 J p1 k1 s1 wk
  have h : OutP X.K fa D ρ H (forL (stillOf w x y st1) (setTgt one tgt) (fun env st => evSs cl cbody env st) items env st1) := h
  refine ⟨fun i m τ G => ∃ ρ' env' st', Pre ρ1 ρ' ∧ Kp H1 G ∧ RepE X.K fa ρ' G env' τ ∧ RepS X.K fa ρ' G st' ∧ m = items.length - i ∧ i ≤ items.length ∧
    OutP X.K fa D ρ' G (forL (stillOf w x y st1) (setTgt one tgt) (fun env st => evSs cl cbody env st) (items.drop i) env' st'),
    ⟨items.length, ρ1, env, st1, Pre.refl _, Kp.refl _, e.kp p1 k1, s1, rfl, Nat.zero_le _, by rw [List.drop_zero]; exact OutP.kp p1 k1 h⟩, ?_⟩
  rintro i m τ G ⟨ρ2, env2, st2, p2, k2, e2, s2, rfl, hle, h2⟩
  have still := forL_still h2
  by_cases hlt : i < items.length
  · refine .inr ⟨wk.goes i ρ2 G st2 hlt p2 k2 s2 still, fun τ' G' => ∃ m', m' < items.length - i ∧ ∃ ρ' env' st', Pre ρ1 ρ' ∧ Kp H1 G' ∧ RepE X.K fa ρ' G' env' τ' ∧ RepS X.K fa ρ' G' st' ∧ m' = items.length - (i + 1) ∧ i + 1 ≤ items.length ∧
      OutP X.K fa D ρ' G' (forL (stillOf w x y st1) (setTgt one tgt) (fun env st => evSs cl cbody env st) (items.drop (i + 1)) env' st'), fun τ' G' g => g, fun v G' hy => ?_⟩
    obtain ⟨d, ed, k3, s3, rd⟩ := wk.yields i ρ2 G st2 v G' hlt p2 k2 s2 still hy
    have hdrop : items.drop i = d :: items.drop (i + 1) := by
      rw [List.drop_eq_getElem_cons hlt]
      congr 1
      rw [List.getElem?_eq_getElem hlt] at ed
      exact Option.some.inj ed
    rw [hdrop] at h2
    unfold forL at h2
    rw [if_pos still] at h2
    cases hset : setTgt one tgt d env2 with
    | none => simp only [hset] at h2; exact h2.elim
    | some env3 =>
    simp only [hset] at h2
    refine gOf_ok hset (e2.kp (Pre.refl _) k3) rd fun σ1 e3 _ => ⟨ρ2, env3, st2, e3, s3, ?_⟩
    have again : ∀ env4 st4, OutP X.K fa D ρ2 G (forL (stillOf w x y st1) (setTgt one tgt) (fun env st => evSs cl cbody env st) (items.drop (i + 1)) env4 (gcE st2 st4 env4)) → ∀ ρ' G2 τ', Pre ρ2 ρ' → Kp G' G2 → RepE X.K fa ρ' G2 env4 τ' → RepS X.K fa ρ' G2 st4 →
        ∃ m', m' < items.length - i ∧ ∃ ρ' env' st', Pre ρ1 ρ' ∧ Kp H1 G2 ∧ RepE X.K fa ρ' G2 env' τ' ∧ RepS X.K fa ρ' G2 st' ∧ m' = items.length - (i + 1) ∧ i + 1 ≤ items.length ∧
        OutP X.K fa D ρ' G2 (forL (stillOf w x y st1) (setTgt one tgt) (fun env st => evSs cl cbody env st) (items.drop (i + 1)) env' st') := fun env4 st4 h4 ρ' G2 τ' p' k' e' s' => by
      obtain ⟨ρ6, p6, s6, e6⟩ := RepS.gcE s3 p' s' e'
      exact ⟨_, by omega, ρ6, env4, _, p2.trans p6, k2.trans (k3.trans k'), e6, s6, rfl, hlt, OutP.kp p6 (k3.trans k') h4⟩
    cases qb : evSs cl cbody env3 st2 with
    | next env4 st4 => simp only [qb] at h2; exact again env4 st4 h2
    | cont env4 st4 => simp only [qb] at h2; exact again env4 st4 h2
    | brk env4 st4 =>
      simp only [qb] at h2
      intro ρ' G2 τ' p' k' e' s'
      obtain ⟨ρ6, p6, s6, e6⟩ := RepS.gcE s3 p' s' e'
      exact h2 ρ6 G2 τ' p6 (k3.trans k') e6 s6
    | ret d st4 => simp only [qb] at h2; exact fun ρ' G2 v' p' k' s' r' => h2 ρ' G2 v' p' (k3.trans k') s' r'
    | exc c fs st4 => simp only [qb] at h2; exact h2
    | bad => simp only [qb] at h2; exact h2
  · have ei : i = items.length := by omega
    subst ei
    refine .inl ⟨wk.stops ρ2 G st2 p2 k2 s2 still, ?_⟩
    rw [List.drop_length] at h2
    unfold forL at h2
    rw [if_pos still] at h2
    exact h2 ρ2 G τ (Pre.refl _) (Kp.refl _) e2 s2

/-! ### while -/
theorem ss_while {c : Expr} {body : List Stmt} {cc : CE} {cbody : List CS} {pos : Pos} (hx : X.xe = fun _ _ => False) (hc : PTv X fa cl c cc) (hb : PSsv X fa cl body cbody) : PSv X fa cl (.While c body [] pos) (.while cc cbody) := by
  have hp : PassesOwn (model X.prog X.w) X.A X.env X.xe := by rw [hx]; exact PassesOwn.never
  refine PS.imp (ps_while hp hc hb) fun D σ H ⟨ρ, env, st, e, s, h⟩ => ?_
  unfold evS at h
  generalize turns = n at h
  refine ⟨fun m τ G => ∃ ρ' env' st', RepE X.K fa ρ' G env' τ ∧ RepS X.K fa ρ' G st' ∧ OutP X.K fa D ρ' G (whileL (fun env st => evE cl cc env st) (fun env st => evSs cl cbody env st) m env' st'), ⟨n, ρ, env, st, e, s, h⟩, ?_⟩
  rintro m τ G ⟨ρ1, env1, st1, e1, s1, h1⟩
  cases m with
  | zero => unfold whileL at h1; exact h1.elim
  | succ m =>
  unfold whileL at h1
  refine ⟨ρ1, env1, st1, e1, s1, ?_⟩
  cases qc : evE cl cc env1 st1 with
  | exc c fs st3 => simp only [qc] at h1; exact h1.elim
  | bad => simp only [qc] at h1; exact h1.elim
  | ok z st3 =>
  simp only [qc] at h1
  intro ρ2 G2 bv p2 k2 s2 rz
  cases rz
  obtain ⟨ρ3, p3, s3, e3⟩ := RepS.gcE s1 p2 s2 (e1.kp p2 k2)
  cases bv with
  | false =>
    rw [if_neg Bool.false_ne_true]
    simp only at h1
    exact h1 ρ3 G2 τ p3 k2 e3 s3
  | true =>
    rw [if_pos rfl]
    simp only at h1
    have s1' : RepS X.K fa ρ1 G st1 := s1
    refine ⟨fun τ' G' => ∃ m', m' < m + 1 ∧ ∃ ρ' env' st', RepE X.K fa ρ' G' env' τ' ∧ RepS X.K fa ρ' G' st' ∧ OutP X.K fa D ρ' G' (whileL (fun env st => evE cl cc env st) (fun env st => evSs cl cbody env st) m' env' st'), fun _ _ g => g, ⟨ρ3, env1, gcE st1 st3 env1, e3, s3, ?_⟩⟩
    have again : ∀ env4 st4, OutP X.K fa D ρ1 G (whileL (fun env st => evE cl cc env st) (fun env st => evSs cl cbody env st) m env4 (gcE st1 st4 env4)) → ∀ ρ' G3 τ', Pre ρ3 ρ' → Kp G2 G3 → RepE X.K fa ρ' G3 env4 τ' → RepS X.K fa ρ' G3 st4 →
        ∃ m', m' < m + 1 ∧ ∃ ρ' env' st', RepE X.K fa ρ' G3 env' τ' ∧ RepS X.K fa ρ' G3 st' ∧ OutP X.K fa D ρ' G3 (whileL (fun env st => evE cl cc env st) (fun env st => evSs cl cbody env st) m' env' st') := fun env4 st4 h4 ρ' G3 τ' p' k' e' s' => by
      obtain ⟨ρ6, p6, s6, e6⟩ := RepS.gcE s1' (p3.trans p') s' e'
      exact ⟨m, Nat.lt_succ_self _, ρ6, env4, _, e6, s6, OutP.kp p6 (k2.trans k') h4⟩
    cases qb : evSs cl cbody env1 (gcE st1 st3 env1) with
    | next env4 st4 => simp only [qb] at h1; exact again env4 st4 h1
    | cont env4 st4 => simp only [qb] at h1; exact again env4 st4 h1
    | brk env4 st4 =>
      simp only [qb] at h1
      intro ρ' G3 τ' p' k' e' s'
      obtain ⟨ρ6, p6, s6, e6⟩ := RepS.gcE s1' (p3.trans p') s' e'
      exact h1 ρ6 G3 τ' p6 (k2.trans k') e6 s6
    | ret d st4 => simp only [qb] at h1; exact fun ρ' G3 v' p' k' s' r' => h1 ρ' G3 v' (p3.trans p') (k2.trans k') s' r'
    | exc c fs st4 => simp only [qb] at h1; exact h1
    | bad => simp only [qb] at h1; exact h1
end
end MP
/-! ## MP13 -/
set_option Elab.async false
set_option linter.all false
set_option autoImplicit false
set_option maxRecDepth 100000
set_option maxHeartbeats 2000000
/-! MP13: from the text to the small language. -/
namespace MP
open PySem PySem.Spec PyProof.Rows L2

/-- what is known of the module: its defs (name, number of parameters, defaults), built-in names that are free, constants, dicts -/
structure Tb where
  names : List (Str × Nat × List D)
  free : List Str
  cons : List (Str × Int)
  dicts : List (Str × List (Str × Int))

def ixS (x : Str) : List Str → Option Nat
  | [] => none
  | y :: ys => if x = y then some 0 else (ixS x ys).map (· + 1)
theorem ixS_ok {x : Str} : ∀ {l : List Str} {i : Nat}, ixS x l = some i → l[i]? = some x
  | [], _, h => by cases h
  | y :: ys, i, h => by
    unfold ixS at h
    split at h
    · rename_i e; cases h; simp [e]
    · obtain ⟨j, hj, rfl⟩ := Option.map_eq_some_iff.mp h
      simpa using ixS_ok hj
def glB (sc : Scope) (x : Str) : Bool := decide (sc.names.lookup x = some .globalImplicit)
def visB (sc : Scope) (x : Str) : Bool := decide (sc.names.lookup x = some .local) || (decide (sc.names.lookup x = some .cell) || decide (sc.names.lookup x = some .free))
def okN (x : Str) : Bool := !(x == ("__debug__" : Str)) && (!(x == ("__classdict__" : Str)) && !decide (x = ("__name__" : Str)))
def frB (T : Tb) (sc : Scope) (x : Str) : Bool := glB sc x && (decide (x ∈ T.free) && okN x)
/-- a name that may be stored -/
def stoB (top : Bool) (sc : Scope) (x : Str) : Bool := decide (sc.names.lookup x = some .local) || (top && decide (sc.names.lookup x = some .cell))
def opB : Operator → Option B2
  | .Add => some .add | .Sub => some .sub | .Mult => some .mul | .FloorDiv => some .fdiv | .Mod => some .mod | .Pow => some .pow
  | _ => none
def opC : CmpOp → Option B2
  | .Eq => some .eq | .NotEq => some .ne | .Lt => some .lt | .LtE => some .le | .Gt => some .gt | .GtE => some .ge | .In => some .inn | .NotIn => some .nin
  | _ => none
def marksOk (op : CmpOp) (b : Expr) : Bool := !behindInMarks op b
def b1Of (x : Str) : Option B1 := if x = ("len" : Str) then some .len else if x = ("int" : Str) then some .int else if x = ("all" : Str) then some .all else if x = ("any" : Str) then some .any
  else if x = ("tuple" : Str) then some .tuple else if x = ("list" : Str) then some .list else if x = ("max" : Str) then some .mxl else if x = ("min" : Str) then some .mnl else none
def tyOf (T : Tb) (sc : Scope) : Expr → Option Ty
  | .Name x _ => if frB T sc x then (if x = ("int" : Str) then some .int else if x = ("bool" : Str) then some .bool else if x = ("str" : Str) then some .str else if x = ("tuple" : Str) then some .tuple else if x = ("list" : Str) then some .list else none) else none
  | _ => none
def tysOf (T : Tb) (sc : Scope) : List Expr → Option (List Ty)
  | [] => some []
  | e :: es => (tyOf T sc e).bind fun t => (tysOf T sc es).bind fun ts => some (t :: ts)
/-- the names of a tuple of names that may be stored -/
def tgsB (N : List Str) (top : Bool) (sc : Scope) : List Nat → List Expr → Bool
  | [], [] => true
  | i :: is, .Name x _ :: es => stoB top sc x && (decide (N[i]? = some x) && tgsB N top sc is es)
  | _, _ => false
def tgtB (N : List Str) (top : Bool) (sc : Scope) : Bool → List Nat → Expr → Bool
  | true, [i], .Name x _ => stoB top sc x && decide (N[i]? = some x)
  | false, is, .Tuple es _ _ => tgsB N top sc is es
  | _, _, _ => false
def ownOf (N : List Str) : List Nat → Option (List (Str × Nat))
  | [] => some []
  | i :: is => match N[i]? with
    | some x => (ownOf N is).map fun r => (x, i) :: r
    | none => none
def plainTest : Expr → Bool
  | .BoolOp _ _ _ => false
  | .UnaryOp .Not _ _ => false
  | .Compare _ _ _ _ => false
  | .Constant _ _ _ => false
  | .IfExp _ _ _ _ => false
  | .NamedExpr _ _ _ => false
  | _ => true
def setsOk : Expr → Bool
  | .Set _ _ _ => false
  | _ => true
/-- a call with a arguments: the defaults that fill up -/
def dvOk (T : Tb) (g : Nat) (x : Str) (a : Nat) (dv : List D) : Bool := match T.names[g]? with
  | some (y, m, ds) => decide (x = y) && (decide (a ≤ m) && (decide (m - a ≤ ds.length) && D.eqbs dv (ds.drop (ds.length - (m - a)))))
  | none => false

/-- the parts of what is walked -/
inductive ItF where
  | one (x : Expr) | two (x y : Expr) | no
def itForm (T : Tb) (sc : Scope) (w : Nat) (e : Expr) (pair : Bool) : ItF := match w, e with
  | 0, e => .one e
  | 1, .Call (.Name f _) [x] [] _ => if decide (f = ("range" : Str)) && (frB T sc f && plainX x) then .one x else .no
  | 2, .Call (.Name f _) [x, y] [] _ => if decide (f = ("range" : Str)) && (frB T sc f && (plainX x && plainX y)) then .two x y else .no
  | 3, .Call (.Name f _) [x, y] [] _ => if decide (f = ("zip" : Str)) && (pair && (frB T sc f && (plainX x && plainX y))) then .two x y else .no
  | 4, .Call (.Name f _) [x] [] _ => if decide (f = ("enumerate" : Str)) && (pair && (frB T sc f && plainX x)) then .one x else .no
  | _, _ => .no
def isTupX : Expr → Bool
  | .Tuple _ _ _ => true
  | _ => false
def isNonC : CE → Bool
  | .cst .non => true
  | _ => false
def isTrueC : CE → Bool
  | .cst (.bl true) => true
  | _ => false

section
variable (T : Tb) (N : List Str)
mutual
def ckE : CE → Bool → Scope → Expr → Bool
  | .var i, _, sc, e => (match e with
    | .Name x _ => okN x && (visB sc x && decide (N[i]? = some x))
    | _ => false)
  | .cst d, _, sc, e => (match d, e with
    | .int i, .Constant (.int j) _ _ => decide (i = j)
    | .bl i, .Constant (.bool j) _ _ => decide (i = j)
    | .str i, .Constant (.str j) _ _ => decide (i = j)
    | .non, .Constant .none _ _ => true
    | .int i, .Name x _ => okN x && (glB sc x && decide ((x, i) ∈ T.cons))
    | .fn g, .Name x _ => okN x && (glB sc x && decide ((T.names[g]?).map (·.1) = some x))
    | _, _ => false)
  | .b2 o a b, top, sc, e => (match e with
    | .BinOp x op y _ => decide (opB op = some o) && (ckE a top sc x && ckE b top sc y)
    | .Compare x [op] [y] _ => decide (opC op = some o) && (marksOk op y && (ckE a top sc x && ckE b top sc y))
    | .Call (.Name f _) [x, y] [] _ => frB T sc f && ((decide (f = ("max" : Str)) && decide (o = .mx) || decide (f = ("min" : Str)) && decide (o = .mn)) && (plainX x && (plainX y && (ckE a top sc x && ckE b top sc y))))
    | _ => false)
  | .sset a, top, sc, e => (match e with
    | .Call (.Name f _) [.Call (.Name g _) [x] [] _] [] _ => decide (f = ("sorted" : Str)) && (decide (g = ("set" : Str)) && (frB T sc f && (frB T sc g && (plainX x && ckE a top sc x))))
    | _ => false)
  | .rg l w a b, top, sc, e => (match e with
    | .Call (.Name f _) [.Call (.Name g _) [x] [] _] [] _ => decide (f = (if l then ("list" : Str) else ("tuple" : Str))) && (decide (g = ("range" : Str)) && (decide (w = 1) && (isNonC b && (frB T sc f && (frB T sc g && (plainX x && ckE a top sc x))))))
    | .Call (.Name f _) [.Call (.Name g _) [x, y] [] _] [] _ => decide (f = (if l then ("list" : Str) else ("tuple" : Str))) && (decide (g = ("range" : Str)) && (decide (w = 2) && (frB T sc f && (frB T sc g && (plainX x && (plainX y && (ckE a top sc x && ckE b top sc y)))))))
    | _ => false)
  | .b1 o a, top, sc, e => (match e with
    | .UnaryOp .USub x _ => decide (o = .neg) && ckE a top sc x
    | .UnaryOp .Not x _ => decide (o = .lnot) && ckE a top sc x
    | .Compare x [.Is] [.Constant .none _ _] _ => decide (o = .isN) && ckE a top sc x
    | .Compare x [.IsNot] [.Constant .none _ _] _ => decide (o = .notN) && ckE a top sc x
    | .Compare x [.Is] [.Constant (.bool false) _ _] _ => decide (o = .isF) && ckE a top sc x
    | .Call (.Name f _) [x] [] _ => frB T sc f && (decide (b1Of f = some o) && (plainX x && ckE a top sc x))
    | _ => false)
  | .and a b, top, sc, e => (match e with
    | .BoolOp .And (x :: y :: r) p => ckE a top sc x && (match r with
      | [] => ckE b top sc y
      | z :: r => ckE b top sc (.BoolOp .And (y :: z :: r) p))
    | _ => false)
  | .or a b, top, sc, e => (match e with
    | .BoolOp .Or (x :: y :: r) p => ckE a top sc x && (match r with
      | [] => ckE b top sc y
      | z :: r => ckE b top sc (.BoolOp .Or (y :: z :: r) p))
    | _ => false)
  | .ite c a b, top, sc, e => (match e with
    | .IfExp x y z _ => ckT c top sc x && (ckE a top sc y && ckE b top sc z)
    | _ => false)
  | .chain o p a b c, top, sc, e => (match e with
    | .Compare x [q, r] [y, z] _ => decide (opC q = some o) && (decide (opC r = some p) && (!lastMarks [q, r] [y, z] && (ckE a top sc x && (ckE b top sc y && ckE c top sc z))))
    | _ => false)
  | .tup cs, top, sc, e => (match e with
    | .Tuple es _ _ => ckEs cs top sc es
    | _ => false)
  | .lst cs, top, sc, e => (match e with
    | .List es _ => ckEs cs top sc es
    | _ => false)
  | .dct ks cs, top, sc, e => (match e with
    | .Dict es vs _ => decide (es.length ≤ 15) && ckDs cs ks top sc es vs
    | _ => false)
  | .idx a b, top, sc, e => (match e with
    | .Subscript x y _ => plainI y && (ckE a top sc x && ckE b top sc y)
    | _ => false)
  | .slc a l h, top, sc, e => (match e with
    | .Subscript x (.Slice lo hi none _) _ => ckE a top sc x && (ckO l top sc lo && ckO h top sc hi)
    | _ => false)
  | .call g cs dv, top, sc, e => (match e with
    | .Call (.Name f _) es [] _ => okN f && (glB sc f && (dvOk T g f es.length dv && (es.all plainX && ckEs cs top sc es)))
    | _ => false)
  | .isi a ts, top, sc, e => (match e with
    | .Call (.Name f _) [x, .Tuple es _ _] [] _ => decide (f = ("isinstance" : Str)) && (frB T sc f && (plainX x && (decide (tysOf T sc es = some ts) && (decide (ts ≠ []) && (decide (ts.length ≤ 100) && ckE a top sc x)))))
    | .Call (.Name f _) [x, y] [] _ => decide (f = ("isinstance" : Str)) && (frB T sc f && (plainX x && ((match tyOf T sc y with
      | some t => decide (ts = [t])
      | none => false) && ckE a top sc x)))
    | _ => false)
  | .gin kvs a, top, sc, e => (match e with
    | .Compare x [.In] [.Name f _] _ => okN f && (glB sc f && (decide ((f, kvs) ∈ T.dicts) && ckE a top sc x))
    | _ => false)
  | .gget kvs a, top, sc, e => (match e with
    | .Subscript (.Name f _) x _ => okN f && (glB sc f && (decide ((f, kvs) ∈ T.dicts) && (plainI x && ckE a top sc x)))
    | _ => false)
  | .comp own tgt one w a b cond elt, top, sc, e => (match e with
    | .ListComp x [⟨tg, it, ifs, 0⟩] scope _ => (match ownOf N own with
      | some ow => blkC N sc scope ow && (decide (∀ i ∈ tgt, i ∈ own) && (tgtB N true scope one tgt tg && (setsOk it && ((match itForm T sc w it (isTupX tg) with
          | .one x => isNonC b && ckE a top sc x
          | .two x y => ckE a top sc x && ckE b top sc y
          | .no => false) && ((match ifs with
          | [] => isTrueC cond
          | [c] => ckT cond false (relS scope sc) c
          | _ => false) && ckE elt false (relS scope sc) x)))))
      | none => false)
    | _ => false)
def ckT : CE → Bool → Scope → Expr → Bool
  | .b1 .truth a, top, sc, e => plainTest e && ckE a top sc e
  | .b2 o a b, top, sc, e => (match e with
    | .Compare x [op] [y] _ => decide (opC op = some o) && (marksOk op y && (ckE a top sc x && ckE b top sc y))
    | _ => false)
  | .b1 .lnot a, top, sc, e => (match e with
    | .UnaryOp .Not x _ => ckT a top sc x
    | _ => false)
  | .b1 .isN a, top, sc, e => (match e with
    | .Compare x [.Is] [.Constant .none _ _] _ => ckE a top sc x
    | _ => false)
  | .b1 .notN a, top, sc, e => (match e with
    | .Compare x [.IsNot] [.Constant .none _ _] _ => ckE a top sc x
    | _ => false)
  | .gin kvs a, top, sc, e => (match e with
    | .Compare x [.In] [.Name f _] _ => okN f && (glB sc f && (decide ((f, kvs) ∈ T.dicts) && ckE a top sc x))
    | _ => false)
  | .and a b, top, sc, e => (match e with
    | .BoolOp .And (x :: y :: r) p => ckT a top sc x && (match r with
      | [] => ckT b top sc y
      | z :: r => ckT b top sc (.BoolOp .And (y :: z :: r) p))
    | _ => false)
  | .or a b, top, sc, e => (match e with
    | .BoolOp .Or (x :: y :: r) p => ckT a top sc x && (match r with
      | [] => ckT b top sc y
      | z :: r => ckT b top sc (.BoolOp .Or (y :: z :: r) p))
    | _ => false)
  | _, _, _, _ => false
def ckO : CE → Bool → Scope → Option Expr → Bool
  | .cst .non, _, _, o => (match o with
    | none => true
    | some _ => false)
  | .b1 .asI a, top, sc, o => (match o with
    | some e => ckE a top sc e
    | none => false)
  | _, _, _, _ => false
def ckEs : List CE → Bool → Scope → List Expr → Bool
  | [], _, _, es => (match es with
    | [] => true
    | _ => false)
  | c :: cs, top, sc, es => (match es with
    | e :: es => plainX e && (ckE c top sc e && ckEs cs top sc es)
    | _ => false)
def ckDs : List CE → List Str → Bool → Scope → List (Option Expr) → List Expr → Bool
  | [], ks, _, _, es, vs => (match ks, es, vs with
    | [], [], [] => true
    | _, _, _ => false)
  | c :: cs, ks, top, sc, es, vs => (match ks, es, vs with
    | k :: ks, some (.Constant (.str z) _ _) :: es, v :: vs => decide (k = z) && (ckE c top sc v && ckDs cs ks top sc es vs)
    | _, _, _ => false)
end
end
end MP
/-! ## MP14 -/
set_option Elab.async false
set_option linter.all false
set_option autoImplicit false
set_option maxRecDepth 100000
set_option maxHeartbeats 4000000
/-! MP14: what is checked holds. -/
namespace MP
open PySem PySem.Spec PyProof.Rows L2

structure Cok (T : Tb) (N : List Str) (fa : Nat → Option Addr) (cl : Nat → List D → Sto → R D) (k : Nat) (X : Cx) (top : Bool) (sc : Scope) : Prop where
  n : X.N = N
  scp : X.env.scope = sc
  nd : X.N.Nodup
  calm : X.calm = true
  xe : X.xe = fun _ _ => False
  room : Room k X.A
  fn : top = true → ∀ x, X.fn x = true
  free : ∀ x ∈ T.free, X.mg x = none
  cons : ∀ p ∈ T.cons, ∃ t, X.mg p.1 = some (.int p.2 t)
  dicts : ∀ p ∈ T.dicts, ∃ d, X.mg p.1 = some (.ref d) ∧ GD X.K X.w d p.2
  defs : ∀ g x m dv, T.names[g]? = some (x, m, dv) → ∃ f fd ps, X.mg x = some (.ref f) ∧ fa g = some f ∧ PySem.W.keepIn X.K (.ref f) = true ∧ FnOk X.prog X.w X.K X.mg X.base CX0 k f fd ps (spOf X.K fa cl g) ∧
    ∀ j, j ≤ dv.length → ∃ ds dvs, Binds X.K fd ps ds ∧ Vals dvs ds ∧ ∀ ρ H, RepL X.K fa ρ H (dv.drop j) dvs

section
variable {T : Tb} {N : List Str} {fa : Nat → Option Addr} {cl : Nat → List D → Sto → R D} {k : Nat} {X : Cx} {top : Bool} {sc : Scope}
theorem Cok.blk (C : Cok T N fa cl k X top sc) (s : Shared) (H : Hp) (scope : Scope) (A : Addr) (c : List (Str × Addr)) (fp : List Addr) : Cok T N fa cl k (X.blk s H scope (compEnvC scope c A X.env) fp) false (relS scope sc) :=
  ⟨C.n, by rw [← C.scp]; rfl, C.nd, C.calm, rfl, C.room, fun z => (by cases z), C.free, C.cons, C.dicts, C.defs⟩
theorem Cok.u65 (C : Cok T N fa cl k X top sc) : X.A.units + 65 < cLine := by have := C.room.un; omega
theorem Cok.u1 (C : Cok T N fa cl k X top sc) : X.A.units + 1 < cLine := by have := C.room.un; omega
theorem Cok.gl (C : Cok T N fa cl k X top sc) {x : Str} (h : glB sc x = true) : Gl X x := by
  have : sc.names.lookup x = some .globalImplicit := of_decide_eq_true h
  rw [← C.scp] at this
  exact this
theorem okN_d {x : Str} (h : okN x = true) : (x == ("__debug__" : Str)) = false ∧ (x == ("__classdict__" : Str)) = false ∧ x ≠ "__name__" := by
  unfold okN at h
  simp only [Bool.and_eq_true, Bool.not_eq_true', decide_eq_false_iff_not] at h
  exact h
theorem Cok.vis (C : Cok T N fa cl k X top sc) {x : Str} (h : visB sc x = true) : Vis X.env.scope x := by
  unfold visB at h
  simp only [Bool.or_eq_true, decide_eq_true_eq] at h
  rw [C.scp]
  exact h
theorem Cok.fr (C : Cok T N fa cl k X top sc) {x : Str} (h : frB T sc x = true) : Gl X x ∧ X.mg x = none ∧ (x == ("__debug__" : Str)) = false ∧ x ≠ "__name__" := by
  unfold frB at h
  simp only [Bool.and_eq_true, decide_eq_true_eq] at h
  obtain ⟨h1, h2, h3⟩ := h
  exact ⟨C.gl h1, C.free x h2, (okN_d h3).1, (okN_d h3).2.2⟩
theorem Cok.sto (C : Cok T N fa cl k X top sc) {x : Str} (h : stoB top sc x = true) : Loc X.env.scope x ∧ (X.fn x = true ∨ X.env.scope.names.lookup x = some .local) := by
  unfold stoB at h
  simp only [Bool.or_eq_true, Bool.and_eq_true, decide_eq_true_eq] at h
  rw [C.scp]
  rcases h with h | ⟨h1, h2⟩
  · exact ⟨.inl h, .inr h⟩
  · exact ⟨.inr h2, .inl (C.fn h1 x)⟩
theorem opB_ok {op : Operator} {o : B2} (h : opB op = some o) : b2op o = some op := by cases op <;> simp [opB] at h <;> subst h <;> rfl
theorem opC_ok {op : CmpOp} {o : B2} (h : opC op = some o) : b2cmp o = some op := by cases op <;> simp [opC] at h <;> subst h <;> rfl
theorem ownOf_ok : ∀ {is : List Nat} {ow : List (Str × Nat)}, ownOf N is = some ow → ow.map (·.2) = is
  | [], _, h => by cases h; rfl
  | i :: is, _, h => by
    unfold ownOf at h
    split at h
    · obtain ⟨r, hr, rfl⟩ := Option.map_eq_some_iff.mp h
      simp [ownOf_ok hr]
    · cases h
theorem tgsX_ok {Y : Cx} {N : List Str} {top : Bool} {sc : Scope} (n : Y.N = N) (hs : ∀ x, stoB top sc x = true → Loc Y.env.scope x ∧ (Y.fn x = true ∨ Y.env.scope.names.lookup x = some .local)) : ∀ {is : List Nat} {es : List Expr}, tgsB N top sc is es = true → NsOk Y es is
  | [], [], _ => .nil
  | i :: is, .Name x p :: es, h => by
    simp only [tgsB, Bool.and_eq_true, decide_eq_true_eq] at h
    obtain ⟨h1, h2, h3⟩ := h
    obtain ⟨s1, s2⟩ := hs _ h1
    exact .cons (by rw [n]; exact h2) s1 s2 (tgsX_ok n hs h3)
  | [], _ :: _, h => by simp [tgsB] at h
  | _ :: _, [], h => by simp [tgsB] at h
theorem tgtX_ok {Y : Cx} {N : List Str} {top : Bool} {sc : Scope} (n : Y.N = N) (nd : Y.N.Nodup) (calm : Y.calm = true) (hs : ∀ x, stoB top sc x = true → Loc Y.env.scope x ∧ (Y.fn x = true ∨ Y.env.scope.names.lookup x = some .local)) {one : Bool} {is : List Nat} {e : Expr} (h : tgtB N top sc one is e = true) : PG Y e (gOf Y.K one is) := by
  unfold tgtB at h
  split at h
  · simp only [Bool.and_eq_true, decide_eq_true_eq] at h
    obtain ⟨s1, s2⟩ := hs _ h.1
    exact pg_name nd (by rw [n]; exact h.2) s1 s2
  · exact ns_tup calm nd (tgsX_ok n hs h)
  · cases h
theorem tgsB_ok (C : Cok T N fa cl k X top sc) {is : List Nat} {es : List Expr} (h : tgsB N top sc is es = true) : NsOk X es is := tgsX_ok C.n (fun x hx => C.sto hx) h
theorem tgtB_ok (C : Cok T N fa cl k X top sc) {one : Bool} {is : List Nat} {e : Expr} (h : tgtB N top sc one is e = true) : PG X e (gOf X.K one is) := tgtX_ok C.n C.nd C.calm (fun x hx => C.sto hx) h
/-- the names of a block of its own -/
theorem tgtC_ok (C : Cok T N fa cl k X top sc) (s : Shared) (H : Hp) (scope : Scope) (A : Addr) (c : List (Str × Addr)) (fp : List Addr) {one : Bool} {is : List Nat} {e : Expr} (h : tgtB N true scope one is e = true) : PG (X.blk s H scope (compEnvC scope c A X.env) fp) e (gOf X.K one is) := by
  have D := C.blk s H scope A c fp
  refine tgtX_ok D.n D.nd D.calm (fun x hx => ?_) h
  unfold stoB at hx
  simp only [Bool.or_eq_true, Bool.and_eq_true, decide_eq_true_eq] at hx
  rw [D.scp]
  have keep : ∀ kd, kd ≠ .free → scope.names.lookup x = some kd → (relS scope sc).names.lookup x = some kd := fun kd h1 h2 => lookup_relS_keep h1 h2
  rcases hx with hx | ⟨_, hx⟩
  · exact ⟨.inl (keep _ (by decide) hx), .inr (keep _ (by decide) hx)⟩
  · refine ⟨.inr (keep _ (by decide) hx), .inl ?_⟩
    show (scope.names.lookup x == some .cell) = true
    rw [hx]; rfl
theorem tyOf_ok (C : Cok T N fa cl k X top sc) {e : Expr} {t : Ty} (h : tyOf T sc e = some t) : plainX e = true ∧ PE X e (tC (.ty (tyN t))) := by
  unfold tyOf at h
  split at h
  · split at h
    · rename_i hf
      obtain ⟨g, m, d, n⟩ := C.fr hf
      refine ⟨rfl, ?_⟩
      split at h
      · rename_i ex; cases h; subst ex; exact pe_ty g m (by decide +kernel) n d
      split at h
      · rename_i ex; cases h; subst ex; exact pe_ty g m (by decide +kernel) n d
      split at h
      · rename_i ex; cases h; subst ex; exact pe_ty g m (by decide +kernel) n d
      split at h
      · rename_i ex; cases h; subst ex; exact pe_ty g m (by decide +kernel) n d
      split at h
      · rename_i ex; cases h; subst ex; exact pe_ty g m (by decide +kernel) n d
      · cases h
    · cases h
  · cases h
theorem tysOf_ok (C : Cok T N fa cl k X top sc) : ∀ {es : List Expr} {ts : List Ty}, tysOf T sc es = some ts → TyEs X es ts
  | [], _, h => by cases h; exact .nil
  | e :: es, _, h => by
    simp only [tysOf] at h
    obtain ⟨t, h1, h⟩ := Option.bind_eq_some_iff.mp h
    obtain ⟨ts, h2, h⟩ := Option.bind_eq_some_iff.mp h
    cases h
    obtain ⟨a, b⟩ := tyOf_ok C h1
    exact .cons a b (tysOf_ok C h2)
theorem b1Of_ok (C : Cok T N fa cl k X top sc) {x : Str} {o : B1} (h : b1Of x = some o) :
    b1Call o ∧ ((∃ id, CallR X (.builtin id) (c1 X.K o) ∧ bootBuiltins x = some (.builtin id)) ∨ ∃ T, CallR X (.type T) (c1 X.K o) ∧ bootBuiltins x = some (.type T)) := by
  unfold b1Of at h
  split at h
  · rename_i ex; cases h; subst ex; exact ⟨trivial, .inl ⟨_, cr_len, by decide +kernel⟩⟩
  split at h
  · rename_i ex; cases h; subst ex; exact ⟨trivial, .inr ⟨_, call_int1, by decide +kernel⟩⟩
  split at h
  · rename_i ex; cases h; subst ex; exact ⟨trivial, .inl ⟨_, cr_all C.calm, by decide +kernel⟩⟩
  split at h
  · rename_i ex; cases h; subst ex; exact ⟨trivial, .inl ⟨_, cr_any C.calm, by decide +kernel⟩⟩
  split at h
  · rename_i ex; cases h; subst ex; exact ⟨trivial, .inr ⟨_, call_tuple_of, by decide +kernel⟩⟩
  split at h
  · rename_i ex; cases h; subst ex; exact ⟨trivial, .inr ⟨_, call_list_of, by decide +kernel⟩⟩
  split at h
  · rename_i ex; cases h; subst ex; exact ⟨trivial, .inl ⟨_, cr_max C.calm, by decide +kernel⟩⟩
  split at h
  · rename_i ex; cases h; subst ex; exact ⟨trivial, .inl ⟨_, cr_min C.calm, by decide +kernel⟩⟩
  · cases h
theorem plainTest_ok {a : Expr} {env : PySem.Env} (h : plainTest a = true) (whole : Sem Value) : isTrue a env whole = (do let v ← whole; standAt a.pos; holding [v] (truthy v)) := by
  cases a <;> first | rfl | (cases h; done) | (rename_i op _ _; cases op <;> first | rfl | cases h)
theorem sets_ok {a : Expr} {env : PySem.Env} (h : setsOk a = true) (x : Value) : foldedSetIterable a env x = pure x := by
  cases a <;> first | rfl | cases h
theorem marks_ok {op : CmpOp} {b : Expr} (h : marksOk op b = true) : behindInMarks op b = false := by
  unfold marksOk at h
  simpa using h
end
end MP
/-! ## MP15 -/
set_option Elab.async false
set_option linter.all false
set_option autoImplicit false
set_option maxRecDepth 100000
set_option maxHeartbeats 4000000
/-! MP15: what is checked holds, for all expressions. -/
namespace MP
open PySem PySem.Spec PyProof.Rows L2
section
variable {T : Tb} {N : List Str} {fa : Nat → Option Addr} {cl : Nat → List D → Sto → R D} {k : Nat}
theorem ck_cst {d : D} {top : Bool} {sc : Scope} {e : Expr} {X : Cx} (C : Cok T N fa cl k X top sc) (h : ckE T N (.cst d) top sc e = true) : PEv X fa cl e (.cst d) := by
  unfold ckE at h
  split at h
  · have := of_decide_eq_true h; subst this; exact s_const pe_int fun _ _ => rfl
  · have := of_decide_eq_true h; subst this; exact s_const pe_bl fun _ _ => rfl
  · have := of_decide_eq_true h; subst this; exact s_const pe_str fun _ _ => rfl
  · exact s_const pe_non fun _ _ => rfl
  · simp only [Bool.and_eq_true, decide_eq_true_eq] at h
    obtain ⟨h1, h2, h3⟩ := h
    obtain ⟨t, ht⟩ := C.cons _ h3
    exact s_const (pe_glob (v := .int _) (C.gl h2) ht ⟨t, rfl⟩ (okN_d h1).1) fun _ _ => rfl
  · rename_i g x p
    simp only [Bool.and_eq_true, decide_eq_true_eq] at h
    obtain ⟨h1, h2, h3⟩ := h
    obtain ⟨⟨y, m, dv⟩, q1, q2⟩ := Option.map_eq_some_iff.mp h3
    simp only at q2
    subst q2
    obtain ⟨f, fd, ps, m1, m2, m3, m4⟩ := C.defs g _ m dv q1
    exact s_const (pe_glob (v := .ref f) (C.gl h2) m1 rfl (okN_d h1).1) fun _ _ => ⟨f, rfl, m2⟩
  · cases h
theorem dvOk_ok {X : Cx} {top : Bool} {sc : Scope} (C : Cok T N fa cl k X top sc) {g : Nat} {x : Str} {a : Nat} {dv : List D} (h : dvOk T g x a dv = true) : ∃ f fd ps ds dvs, X.mg x = some (.ref f) ∧ PySem.W.keepIn X.K (.ref f) = true ∧ FnOk X.prog X.w X.K X.mg X.base CX0 k f fd ps (spOf X.K fa cl g) ∧
    Binds X.K fd ps ds ∧ Vals dvs ds ∧ ∀ ρ H, RepL X.K fa ρ H dv dvs := by
  unfold dvOk at h
  split at h
  · rename_i y m ds q
    simp only [Bool.and_eq_true, decide_eq_true_eq] at h
    obtain ⟨h1, h2, h3, h4⟩ := h
    subst h1
    obtain ⟨f, fd, ps, m1, _, m3, m4, m5⟩ := C.defs g _ m ds q
    obtain ⟨vs, dvs, b, r, rr⟩ := m5 (ds.length - (m - a)) (by omega)
    rw [← D.eqbs_eq _ _ h4] at rr
    exact ⟨f, fd, ps, vs, dvs, m1, m3, m4, b, r, rr⟩
  · cases h
theorem itForm_one {sc : Scope} {w : Nat} {e x tg : Expr} {top : Bool} {X : Cx} {a b : CE} (C : Cok T N fa cl k X top sc) (h : itForm T sc w e (isTupX tg) = .one x) (hb : isNonC b = true) (ih : PEv X fa cl x a) : PI X tg e (tI X.K fa w (itF cl w a b)) := by
  have eb : b = .cst .non := by
    unfold isNonC at hb
    split at hb
    · rfl
    · cases hb
  subst eb
  unfold itForm at h
  split at h
  · cases h
    exact i_seq ih
  · split at h
    · rename_i f _ _ _ c
      cases h
      simp only [Bool.and_eq_true, decide_eq_true_eq] at c
      obtain ⟨c1, c2, c3⟩ := c
      subst c1
      obtain ⟨g, m, _, _⟩ := C.fr c2
      exact i_range1 c3 g m ih
    · cases h
  · split at h <;> cases h
  · split at h <;> cases h
  · split at h
    · rename_i f _ _ _ c
      cases h
      simp only [Bool.and_eq_true, decide_eq_true_eq] at c
      obtain ⟨c1, c2, c3, c4⟩ := c
      subst c1
      obtain ⟨g, m, _, _⟩ := C.fr c3
      unfold isTupX at c2
      split at c2
      · exact i_enum c4 g m ih
      · cases c2
    · cases h
  · cases h
theorem itForm_two {sc : Scope} {w : Nat} {e x y tg : Expr} {top : Bool} {X : Cx} {a b : CE} (C : Cok T N fa cl k X top sc) (h : itForm T sc w e (isTupX tg) = .two x y) (iha : PEv X fa cl x a) (ihb : PEv X fa cl y b) : PI X tg e (tI X.K fa w (itF cl w a b)) := by
  unfold itForm at h
  split at h
  · cases h
  · split at h <;> cases h
  · split at h
    · rename_i f _ _ _ _ c
      cases h
      simp only [Bool.and_eq_true, decide_eq_true_eq] at c
      obtain ⟨c1, c2, c3, c4⟩ := c
      subst c1
      obtain ⟨g, m, _, _⟩ := C.fr c2
      exact i_range2 c3 c4 g m iha ihb
    · cases h
  · split at h
    · rename_i f _ _ _ _ c
      cases h
      simp only [Bool.and_eq_true, decide_eq_true_eq] at c
      obtain ⟨c1, c2, c3, c4, c5⟩ := c
      subst c1
      obtain ⟨g, m, _, _⟩ := C.fr c3
      unfold isTupX at c2
      split at c2
      · exact i_zip c4 c5 g m iha ihb
      · cases c2
    · cases h
  · split at h <;> cases h
  · cases h
theorem s_poe {X : Cx} {op : BoolOp} {a : Expr} {c : CE} {p : Pos} (h : PEv X fa cl a c) : PEv X fa cl (.BoolOp op [a] p) c := pe_one h

def isBoolX : Expr → Bool
  | .BoolOp _ _ _ => true
  | _ => false
section
variable {X : Cx}
theorem t_isN {a : Expr} {ca : CE} {pos pos' : Pos} {j : Nat} (ha : PEv X fa cl a ca) : PTv X fa cl (.Compare a [.Is] [.Constant .none j pos'] pos) (.b1 .isN ca) := by
  refine PT.imp (pt_cmp (pc_isN ha)) fun σ H Q ⟨ρ, env, st, e, s, h⟩ => ?_
  unfold evE at h
  refine tE.first e s h fun d st1 ρ1 H1 v e1 s1 r1 p1 k1 h1 => ?_
  unfold op1 at h1
  exact ⟨_, rfl, by rw [isNon_rep r1]; exact h1.here s1 rfl⟩
theorem t_notN {a : Expr} {ca : CE} {pos pos' : Pos} {j : Nat} (ha : PEv X fa cl a ca) : PTv X fa cl (.Compare a [.IsNot] [.Constant .none j pos'] pos) (.b1 .notN ca) := by
  refine PT.imp (pt_cmp (pc_notN ha)) fun σ H Q ⟨ρ, env, st, e, s, h⟩ => ?_
  unfold evE at h
  refine tE.first e s h fun d st1 ρ1 H1 v e1 s1 r1 p1 k1 h1 => ?_
  unfold op1 at h1
  exact ⟨_, rfl, by rw [isNon_rep r1]; exact h1.here s1 rfl⟩
theorem t_gin {x : Str} {d : Addr} {u : Value} {kvs : List (Str × Int)} {a : Expr} {ca : CE} {pos pos' : Pos} (g : GD X.K X.w d kvs) (hg : Gl X x) (hm : X.mg x = some (.ref d)) (hdb : (x == ("__debug__" : Str)) = false) (ha : PEv X fa cl a ca) : PTv X fa cl (.Compare a [.In] [.Name x pos'] pos) (.gin kvs ca) := by
  obtain ⟨es, n, kd⟩ := g.kd
  refine PT.imp (pt_cmpR (op_in_kd kd) ha (pe_glob (v := .ref d) hg hm rfl hdb) (by simp [behindInMarks])) fun σ H Q ⟨ρ, env, st, e, s, h⟩ => ?_
  unfold evE at h
  refine tE.first e s h fun d' st1 ρ1 H1 v e1 s1 r1 p1 k1 h1 => ?_
  split at h1
  · rename_i z
    cases r1
    cases q : kvs.any fun p => decide (p.1 = z) with
    | false =>
      rw [q] at h1
      exact ⟨z, none, rfl, rfl, g.no z q, _, rfl, h1.here s1 rfl⟩
    | true =>
      rw [q] at h1
      obtain ⟨p, hp, hz⟩ := List.any_eq_true.mp q
      obtain ⟨t, ht⟩ := g.at_ p hp
      have : p.1 = z := by simpa using hz
      rw [this] at ht
      exact ⟨z, _, rfl, rfl, ht, _, rfl, h1.here s1 rfl⟩
  · exact h1.elim
end

mutual
theorem ckE_ok : ∀ (c : CE) {top : Bool} {sc : Scope} {e : Expr} {X : Cx}, Cok T N fa cl k X top sc → ckE T N c top sc e = true → PEv X fa cl e c
  | .var i, top, sc, e, X, C, h => by
    unfold ckE at h
    split at h
    · simp only [Bool.and_eq_true, decide_eq_true_eq] at h
      obtain ⟨h1, h2, h3⟩ := h
      exact s_var (by rw [C.n]; exact h3) (C.vis h2) (okN_d h1).1 (okN_d h1).2.1
    · cases h
  | .cst d, top, sc, e, X, C, h => ck_cst C h
  | .b2 o a b, top, sc, e, X, C, h => by
    unfold ckE at h
    split at h
    · simp only [Bool.and_eq_true, decide_eq_true_eq] at h
      exact s_op (opB_ok h.1) (ckE_ok a C h.2.1) (ckE_ok b C h.2.2)
    · simp only [Bool.and_eq_true, decide_eq_true_eq] at h
      exact s_cmp C.u65 (opC_ok h.1) (marks_ok h.2.1) (ckE_ok a C h.2.2.1) (ckE_ok b C h.2.2.2)
    · simp only [Bool.and_eq_true, Bool.or_eq_true, decide_eq_true_eq] at h
      obtain ⟨h1, h2, h3, h4, h5, h6⟩ := h
      obtain ⟨g, m, _, _⟩ := C.fr h1
      rcases h2 with ⟨e1, e2⟩ | ⟨e1, e2⟩
      · subst e1; subst e2; exact s_max2 C.calm h3 h4 g m (ckE_ok a C h5) (ckE_ok b C h6)
      · subst e1; subst e2; exact s_min2 C.calm h3 h4 g m (ckE_ok a C h5) (ckE_ok b C h6)
    · cases h
  | .b1 o a, top, sc, e, X, C, h => by
    unfold ckE at h
    split at h
    · simp only [Bool.and_eq_true, decide_eq_true_eq] at h
      obtain ⟨h1, h2⟩ := h; subst h1; exact s_neg (ckE_ok a C h2)
    · simp only [Bool.and_eq_true, decide_eq_true_eq] at h
      obtain ⟨h1, h2⟩ := h; subst h1; exact s_lnot (ckE_ok a C h2)
    · simp only [Bool.and_eq_true, decide_eq_true_eq] at h
      obtain ⟨h1, h2⟩ := h; subst h1; exact s_isN (ckE_ok a C h2)
    · simp only [Bool.and_eq_true, decide_eq_true_eq] at h
      obtain ⟨h1, h2⟩ := h; subst h1; exact s_notN (ckE_ok a C h2)
    · simp only [Bool.and_eq_true, decide_eq_true_eq] at h
      obtain ⟨h1, h2⟩ := h; subst h1; exact s_isF (ckE_ok a C h2)
    · simp only [Bool.and_eq_true, decide_eq_true_eq] at h
      obtain ⟨h1, h2, h3, h4⟩ := h
      obtain ⟨g, m, d, n⟩ := C.fr h1
      obtain ⟨o1, o2⟩ := b1Of_ok C h2
      exact s_b1 o1 h3 o2 g m n d (ckE_ok a C h4)
    · cases h
  | .rg l w a b, top, sc, e, X, C, h => by
    unfold ckE at h
    split at h
    · simp only [Bool.and_eq_true, decide_eq_true_eq] at h
      obtain ⟨h1, h2, h3, h4, h5, h6, h7, h8⟩ := h
      have hb : b = .cst .non := by
        unfold isNonC at h4
        split at h4
        · rfl
        · cases h4
      subst h2; subst h3; subst hb
      obtain ⟨g, m, _, _⟩ := C.fr h5
      obtain ⟨g2, m2, _, _⟩ := C.fr h6
      cases l with
      | true => simp only [if_true] at h1; subst h1; exact s_rgL1 C.calm h7 g m g2 m2 (ckE_ok a C h8)
      | false => simp only [Bool.false_eq_true, if_false] at h1; subst h1; exact s_rgT1 C.calm h7 g m g2 m2 (ckE_ok a C h8)
    · simp only [Bool.and_eq_true, decide_eq_true_eq] at h
      obtain ⟨h1, h2, h3, h5, h6, h7, h8, h9, h10⟩ := h
      subst h2; subst h3
      obtain ⟨g, m, _, _⟩ := C.fr h5
      obtain ⟨g2, m2, _, _⟩ := C.fr h6
      cases l with
      | true => simp only [if_true] at h1; subst h1; exact s_rgL2 C.calm h7 h8 g m g2 m2 (ckE_ok a C h9) (ckE_ok b C h10)
      | false => simp only [Bool.false_eq_true, if_false] at h1; subst h1; exact s_rgT2 C.calm h7 h8 g m g2 m2 (ckE_ok a C h9) (ckE_ok b C h10)
    · cases h
  | .sset a, top, sc, e, X, C, h => by
    unfold ckE at h
    split at h
    · simp only [Bool.and_eq_true, decide_eq_true_eq] at h
      obtain ⟨h1, h2, h3, h4, h5, h6⟩ := h
      subst h1; subst h2
      obtain ⟨g, m, _, _⟩ := C.fr h3
      obtain ⟨g2, m2, _, _⟩ := C.fr h4
      exact s_ssort C.calm h5 g m g2 m2 (ckE_ok a C h6)
    · cases h
  | .and a b, top, sc, e, X, C, h => by
    unfold ckE at h
    split at h
    · simp only [Bool.and_eq_true] at h
      obtain ⟨h1, h2⟩ := h
      split at h2
      · exact s_and (ckE_ok a C h1) (s_poe (ckE_ok b C h2))
      · exact s_and (ckE_ok a C h1) (ckE_ok b C h2)
    · cases h
  | .or a b, top, sc, e, X, C, h => by
    unfold ckE at h
    split at h
    · simp only [Bool.and_eq_true] at h
      obtain ⟨h1, h2⟩ := h
      split at h2
      · exact s_or (ckE_ok a C h1) (s_poe (ckE_ok b C h2))
      · exact s_or (ckE_ok a C h1) (ckE_ok b C h2)
    · cases h
  | .ite c a b, top, sc, e, X, C, h => by
    unfold ckE at h
    split at h
    · simp only [Bool.and_eq_true] at h
      exact s_ite (ckT_ok c C h.1).1 (ckE_ok a C h.2.1) (ckE_ok b C h.2.2)
    · cases h
  | .chain o p a b c, top, sc, e, X, C, h => by
    unfold ckE at h
    split at h
    · simp only [Bool.and_eq_true, Bool.not_eq_true', decide_eq_true_eq] at h
      obtain ⟨h1, h2, h3, h4, h5, h6⟩ := h
      exact s_chain C.u65 (opC_ok h1) (opC_ok h2) h3 (ckE_ok a C h4) (ckE_ok b C h5) (ckE_ok c C h6)
    · cases h
  | .tup cs, top, sc, e, X, C, h => by
    unfold ckE at h
    split at h
    · exact s_tup (ckEs_ok cs C h)
    · cases h
  | .lst cs, top, sc, e, X, C, h => by
    unfold ckE at h
    split at h
    · exact s_lst (ckEs_ok cs C h)
    · cases h
  | .dct ks cs, top, sc, e, X, C, h => by
    unfold ckE at h
    split at h
    · simp only [Bool.and_eq_true, decide_eq_true_eq] at h
      obtain ⟨h1, h2⟩ := h
      have ds := ckDs_ok cs C h2
      cases ds with
      | nil => exact s_dct0
      | cons q r => exact s_dct (.cons q r) (by simp) h1
    · cases h
  | .idx a b, top, sc, e, X, C, h => by
    unfold ckE at h
    split at h
    · simp only [Bool.and_eq_true] at h
      exact s_idx C.u1 h.1 (ckE_ok a C h.2.1) (ckE_ok b C h.2.2)
    · cases h
  | .slc a l hh, top, sc, e, X, C, h => by
    unfold ckE at h
    split at h
    · simp only [Bool.and_eq_true] at h
      exact s_slc (ckE_ok a C h.1) (ckO_ok l C h.2.1) (ckO_ok hh C h.2.2)
    · cases h
  | .call g cs dv, top, sc, e, X, C, h => by
    unfold ckE at h
    split at h
    · rename_i es _
      simp only [Bool.and_eq_true] at h
      obtain ⟨h1, h2, h3, h4, h5⟩ := h
      obtain ⟨f, fd, ps, ds, dvs, m1, m2, m3, m4, m5, m6⟩ := dvOk_ok C h3
      cases es with
      | nil =>
        cases cs with
        | nil => exact s_call0 m3 C.room (C.gl h2) m1 m2 m4 m5 m6 (okN_d h1).1
        | cons => simp [ckEs] at h5
      | cons e es => exact s_call m3 C.room (C.gl h2) m1 m2 m4 m5 m6 h4 (okN_d h1).1 (ckEs_ok cs C h5)
    · cases h
  | .isi a ts, top, sc, e, X, C, h => by
    unfold ckE at h
    split at h
    · simp only [Bool.and_eq_true, decide_eq_true_eq] at h
      obtain ⟨h1, h2, h3, h4, h5, h6, h7⟩ := h
      subst h1
      obtain ⟨g, m, _, _⟩ := C.fr h2
      exact s_isiT h5 h6 h3 g m (ckE_ok a C h7) (tysOf_ok C h4)
    · simp only [Bool.and_eq_true, decide_eq_true_eq] at h
      obtain ⟨h1, h2, h3, h4, h5⟩ := h
      subst h1
      obtain ⟨g, m, _, _⟩ := C.fr h2
      split at h4
      · rename_i t ht
        have := of_decide_eq_true h4
        subst this
        obtain ⟨p1, p2⟩ := tyOf_ok C ht
        exact s_isi1 h3 p1 g m (ckE_ok a C h5) p2
      · cases h4
    · cases h
  | .gin kvs a, top, sc, e, X, C, h => by
    unfold ckE at h
    split at h
    · simp only [Bool.and_eq_true, decide_eq_true_eq] at h
      obtain ⟨h1, h2, h3, h4⟩ := h
      obtain ⟨d, m, g⟩ := C.dicts _ h3
      exact s_gin (u := .none) g (C.gl h2) m (okN_d h1).1 (ckE_ok a C h4)
    · cases h
  | .gget kvs a, top, sc, e, X, C, h => by
    unfold ckE at h
    split at h
    · simp only [Bool.and_eq_true, decide_eq_true_eq] at h
      obtain ⟨h1, h2, h3, h4, h5⟩ := h
      obtain ⟨d, m, g⟩ := C.dicts _ h3
      exact s_gget h4 g (C.gl h2) m (okN_d h1).1 (ckE_ok a C h5)
    · cases h
  | .comp own tgt one w a b cond elt, top, sc, e, X, C, h => by
    unfold ckE at h
    split at h
    · rename_i x tg it ifs scope p
      split at h
      · rename_i ow how
        simp only [Bool.and_eq_true, decide_eq_true_eq] at h
        obtain ⟨h1, h2, h3, h4, h5, h6, h7⟩ := h
        have eo := ownOf_ok how
        have ok : BlkOk X.N X.env.scope scope ow := by rw [C.n, C.scp]; exact blkOk_by h1
        have pi : PI X tg it (tI X.K fa w (itF cl w a b)) := by
          split at h5
          · rename_i x' hx
            simp only [Bool.and_eq_true] at h5
            exact itForm_one C hx h5.1 (ckE_ok a C h5.2)
          · rename_i x' y' hx
            simp only [Bool.and_eq_true] at h5
            exact itForm_two C hx (ckE_ok a C h5.1) (ckE_ok b C h5.2)
          · cases h5
        rw [← eo]
        refine s_comp C.calm C.nd pi ok (by rw [eo]; exact h2) (fun s H A c fp => tgtC_ok C s H scope A c fp h3) (fun s H A c fp => ?_) (fun s H A c fp => ckE_ok elt (C.blk s H scope A c fp) h7) (fun y => sets_ok h4 y)
        split at h6
        · have : cond = .cst (.bl true) := by
            unfold isTrueC at h6
            split at h6
            · rfl
            · cases h6
          subst this
          refine PTs.imp pts_nil fun σ H Q ⟨ρ, env, st, e, s, q⟩ => ?_
          unfold evE at q
          exact q.here (v := true) s rfl
        · exact pts_one (ckT_ok cond (C.blk s H scope A c fp) h6).1
        · cases h6
      · cases h
    · cases h
theorem ckT_ok : ∀ (c : CE) {top : Bool} {sc : Scope} {e : Expr} {X : Cx}, Cok T N fa cl k X top sc → ckT T N c top sc e = true → PTv X fa cl e c ∧ (isBoolX e = true → PW X e (tT X.K fa (evE cl c)))
  | .b1 .truth a, top, sc, e, X, C, h => by
    unfold ckT at h
    simp only [Bool.and_eq_true] at h
    exact ⟨t_truth (plainTest_ok h.1) (ckE_ok a C h.2), fun z => absurd z (by have := h.1; cases e <;> simp [isBoolX, plainTest] at *)⟩
  | .b2 o a b, top, sc, e, X, C, h => by
    unfold ckT at h
    split at h
    · simp only [Bool.and_eq_true, decide_eq_true_eq] at h
      exact ⟨t_cmp C.u65 (opC_ok h.1) (marks_ok h.2.1) (ckE_ok a C h.2.2.1) (ckE_ok b C h.2.2.2), fun z => (by cases z)⟩
    · cases h
  | .b1 .lnot a, top, sc, e, X, C, h => by
    unfold ckT at h
    split at h
    · exact ⟨t_not (ckT_ok a C h).1, fun z => (by cases z)⟩
    · cases h
  | .b1 .isN a, top, sc, e, X, C, h => by
    unfold ckT at h
    split at h
    · exact ⟨t_isN (ckE_ok a C h), fun z => (by cases z)⟩
    · cases h
  | .b1 .notN a, top, sc, e, X, C, h => by
    unfold ckT at h
    split at h
    · exact ⟨t_notN (ckE_ok a C h), fun z => (by cases z)⟩
    · cases h
  | .gin kvs a, top, sc, e, X, C, h => by
    unfold ckT at h
    split at h
    · simp only [Bool.and_eq_true, decide_eq_true_eq] at h
      obtain ⟨h1, h2, h3, h4⟩ := h
      obtain ⟨d, m, g⟩ := C.dicts _ h3
      exact ⟨t_gin (u := .none) g (C.gl h2) m (okN_d h1).1 (ckE_ok a C h4), fun z => (by cases z)⟩
    · cases h
  | .and a b, top, sc, e, X, C, h => by
    unfold ckT at h
    split at h
    · rename_i p
      simp only [Bool.and_eq_true] at h
      obtain ⟨h1, h2⟩ := h
      split at h2
      · have w := t_and (pos := p) (ckT_ok a C h1).1 (t_and1 (ckT_ok b C h2).1)
        exact ⟨w.pt, fun _ => w⟩
      · have w := t_and (ckT_ok a C h1).1 ((ckT_ok b C h2).2 rfl)
        exact ⟨w.pt, fun _ => w⟩
    · cases h
  | .or a b, top, sc, e, X, C, h => by
    unfold ckT at h
    split at h
    · rename_i p
      simp only [Bool.and_eq_true] at h
      obtain ⟨h1, h2⟩ := h
      split at h2
      · have w := t_or (pos := p) (ckT_ok a C h1).1 (t_or1 (ckT_ok b C h2).1)
        exact ⟨w.pt, fun _ => w⟩
      · have w := t_or (ckT_ok a C h1).1 ((ckT_ok b C h2).2 rfl)
        exact ⟨w.pt, fun _ => w⟩
    · cases h
  | .var _, _, _, _, _, _, h => by simp [ckT] at h
  | .cst _, _, _, _, _, _, h => by simp [ckT] at h
  | .ite _ _ _, _, _, _, _, _, h => by simp [ckT] at h
  | .chain _ _ _ _ _, _, _, _, _, _, h => by simp [ckT] at h
  | .tup _, _, _, _, _, _, h => by simp [ckT] at h
  | .lst _, _, _, _, _, _, h => by simp [ckT] at h
  | .dct _ _, _, _, _, _, _, h => by simp [ckT] at h
  | .idx _ _, _, _, _, _, _, h => by simp [ckT] at h
  | .slc _ _ _, _, _, _, _, _, h => by simp [ckT] at h
  | .call _ _ _, _, _, _, _, _, h => by simp [ckT] at h
  | .isi _ _, _, _, _, _, _, h => by simp [ckT] at h
  | .gget _ _, _, _, _, _, _, h => by simp [ckT] at h
  | .comp _ _ _ _ _ _ _ _, _, _, _, _, _, h => by simp [ckT] at h
  | .b1 .neg a, _, _, _, _, _, h => by simp [ckT] at h
  | .b1 .len a, _, _, _, _, _, h => by simp [ckT] at h
  | .b1 .int a, _, _, _, _, _, h => by simp [ckT] at h
  | .b1 .all a, _, _, _, _, _, h => by simp [ckT] at h
  | .b1 .any a, _, _, _, _, _, h => by simp [ckT] at h
  | .b1 .tuple a, _, _, _, _, _, h => by simp [ckT] at h
  | .b1 .list a, _, _, _, _, _, h => by simp [ckT] at h
  | .b1 .mxl a, _, _, _, _, _, h => by simp [ckT] at h
  | .b1 .mnl a, _, _, _, _, _, h => by simp [ckT] at h
  | .sset _, _, _, _, _, _, h => by simp [ckT] at h
  | .rg _ _ _ _, _, _, _, _, _, h => by simp [ckT] at h
  | .b1 .isF a, _, _, _, _, _, h => by simp [ckT] at h
  | .b1 .asI a, _, _, _, _, _, h => by simp [ckT] at h
theorem ckO_ok : ∀ (c : CE) {top : Bool} {sc : Scope} {e : Option Expr} {X : Cx}, Cok T N fa cl k X top sc → ckO T N c top sc e = true → POv X fa cl e c
  | .cst .non, top, sc, e, X, C, h => by
    unfold ckO at h
    split at h
    · exact s_poN
    · cases h
  | .b1 .asI a, top, sc, e, X, C, h => by
    unfold ckO at h
    split at h
    · exact s_poS (ckE_ok a C h)
    · cases h
  | .var _, _, _, _, _, _, h => by simp [ckO] at h
  | .cst (.bl _), _, _, _, _, _, h => by simp [ckO] at h
  | .cst (.int _), _, _, _, _, _, h => by simp [ckO] at h
  | .cst (.str _), _, _, _, _, _, h => by simp [ckO] at h
  | .cst (.tup _), _, _, _, _, _, h => by simp [ckO] at h
  | .cst (.loc _), _, _, _, _, _, h => by simp [ckO] at h
  | .cst (.fn _), _, _, _, _, _, h => by simp [ckO] at h
  | .b2 _ _ _, _, _, _, _, _, h => by simp [ckO] at h
  | .and _ _, _, _, _, _, _, h => by simp [ckO] at h
  | .or _ _, _, _, _, _, _, h => by simp [ckO] at h
  | .ite _ _ _, _, _, _, _, _, h => by simp [ckO] at h
  | .chain _ _ _ _ _, _, _, _, _, _, h => by simp [ckO] at h
  | .tup _, _, _, _, _, _, h => by simp [ckO] at h
  | .lst _, _, _, _, _, _, h => by simp [ckO] at h
  | .dct _ _, _, _, _, _, _, h => by simp [ckO] at h
  | .idx _ _, _, _, _, _, _, h => by simp [ckO] at h
  | .slc _ _ _, _, _, _, _, _, h => by simp [ckO] at h
  | .call _ _ _, _, _, _, _, _, h => by simp [ckO] at h
  | .isi _ _, _, _, _, _, _, h => by simp [ckO] at h
  | .gin _ _, _, _, _, _, _, h => by simp [ckO] at h
  | .gget _ _, _, _, _, _, _, h => by simp [ckO] at h
  | .comp _ _ _ _ _ _ _ _, _, _, _, _, _, h => by simp [ckO] at h
  | .b1 .neg a, _, _, _, _, _, h => by simp [ckO] at h
  | .b1 .len a, _, _, _, _, _, h => by simp [ckO] at h
  | .b1 .int a, _, _, _, _, _, h => by simp [ckO] at h
  | .b1 .all a, _, _, _, _, _, h => by simp [ckO] at h
  | .b1 .any a, _, _, _, _, _, h => by simp [ckO] at h
  | .b1 .tuple a, _, _, _, _, _, h => by simp [ckO] at h
  | .b1 .list a, _, _, _, _, _, h => by simp [ckO] at h
  | .b1 .mxl a, _, _, _, _, _, h => by simp [ckO] at h
  | .b1 .mnl a, _, _, _, _, _, h => by simp [ckO] at h
  | .sset _, _, _, _, _, _, h => by simp [ckO] at h
  | .rg _ _ _ _, _, _, _, _, _, h => by simp [ckO] at h
  | .b1 .isF a, _, _, _, _, _, h => by simp [ckO] at h
  | .b1 .isN a, _, _, _, _, _, h => by simp [ckO] at h
  | .b1 .notN a, _, _, _, _, _, h => by simp [ckO] at h
  | .b1 .truth a, _, _, _, _, _, h => by simp [ckO] at h
  | .b1 .lnot a, _, _, _, _, _, h => by simp [ckO] at h
theorem ckEs_ok : ∀ (cs : List CE) {top : Bool} {sc : Scope} {es : List Expr} {X : Cx}, Cok T N fa cl k X top sc → ckEs T N cs top sc es = true → PAv X fa cl es cs
  | [], top, sc, es, X, C, h => by
    unfold ckEs at h
    split at h
    · exact s_nil
    · cases h
  | c :: cs, top, sc, es, X, C, h => by
    unfold ckEs at h
    split at h
    · simp only [Bool.and_eq_true] at h
      exact s_cons h.1 (ckE_ok c C h.2.1) (ckEs_ok cs C h.2.2)
    · cases h
theorem ckDs_ok : ∀ (cs : List CE) {ks : List Str} {top : Bool} {sc : Scope} {es : List (Option Expr)} {vs : List Expr} {X : Cx}, Cok T N fa cl k X top sc → ckDs T N cs ks top sc es vs = true → DsOk X fa cl es vs ks cs
  | [], ks, top, sc, es, vs, X, C, h => by
    unfold ckDs at h
    split at h
    · exact .nil
    · cases h
  | c :: cs, ks, top, sc, es, vs, X, C, h => by
    unfold ckDs at h
    split at h
    · simp only [Bool.and_eq_true, decide_eq_true_eq] at h
      obtain ⟨h1, h2, h3⟩ := h
      subst h1
      exact .cons (ckE_ok c C h2) (ckDs_ok cs C h3)
    · cases h
end
end
end MP
/-! ## MP16 -/
set_option Elab.async false
set_option linter.all false
set_option autoImplicit false
set_option maxRecDepth 100000
set_option maxHeartbeats 4000000
/-! MP16: statements, checked. -/
namespace MP
open PySem PySem.Spec PyProof.Rows L2
/-- whether a comprehension stores its name itself -/
def swB (sc scope : Scope) (y : Str) (py pos : Pos) : Bool := decide (sc.names.lookup y = some .local) && (py.line == pos.line && !(scope.names.any fun (n, k) => n == y && (k == .local || k == .cell)))
theorem swaps_comp {elt : Expr} {gs : List Comprehension} {scope : Scope} {pos py : Pos} {y : Str} {l : Nat} {env : PySem.Env} (hk : env.scope.kind = .function) :
    swapsWith (.ListComp elt gs scope pos) (some (.Name y py)) l env = pure (swB env.scope scope y py pos) := by
  have hb : env.blockKind = .function := by unfold Env.blockKind; rw [hk]; rfl
  unfold swapsWith swB
  simp only [hb, Expr.pos]
  have : (env.kindOf y == some NameKind.local) = decide (env.scope.names.lookup y = some .local) := by
    show (env.scope.names.lookup y == some NameKind.local) = _
    rw [Bool.eq_iff_iff]
    simp
  rw [this]
  simp [Bool.and_assoc]
def sameLine (p q : Pos) : Bool := q.line == p.line
theorem sw_par {x y : Str} {a b : Expr} {px py pt pt2 : Pos} {kt k2 : Nat} {env : PySem.Env} (hk : env.scope.kind = .function) (hx : env.scope.names.lookup x = some .local) (hy : env.scope.names.lookup y = some .local) (hne : x ≠ y) (hl : sameLine px py = true)
    (ha : plainX a = true) (hb : plainX b = true) (h1 : [a, b].all (foldedForSure 8) = false) (h2 : [a, b].all (constantsAlone 8) = false) : swappedStores [.Tuple [.Name x px, .Name y py] kt pt] (.Tuple [a, b] k2 pt2) env = pure (some [x, y]) := by
  have hbk : env.blockKind = .function := by unfold Env.blockKind; rw [hk]; rfl
  have kx : env.kindOf x = some NameKind.local := hx
  have ky : env.kindOf y = some NameKind.local := hy
  have e2 : [x, y].eraseDups = [x, y] := by
    rw [List.eraseDups_cons]
    have : List.filter (fun b => !b == x) [y] = [y] := by simp [Ne.symm hne]
    rw [this, List.eraseDups_cons]
    simp
  have hl' : py.line = px.line := eq_of_beq hl
  unfold swappedStores
  simp only [hbk, h1, h2]
  have names : List.filterMap (fun x => match x with
      | Expr.Name id pos => if (env.kindOf id == some NameKind.local && pos.line == px.line) = true then some id else none
      | x => none) [.Name x px, .Name y py] = [x, y] := by
    simp [kx, ky, hl']
  simp [Expr.pos, kx, ky, hl', e2]
  intro h
  rcases h with h | h
  · split at h
    · cases ha
    · cases h
  · split at h
    · cases hb
    · cases h
section
variable {T : Tb} {N : List Str} {fa : Nat → Option Addr} {cl : Nat → List D → Sto → R D} {k : Nat} {X : Cx} {top : Bool} {sc : Scope}
/-- the parts of a comprehension that is checked -/
structure CompOk (X : Cx) (fa : Nat → Option Addr) (cl : Nat → List D → Sto → R D) (tg it elt : Expr) (ifs : List Expr) (scope : Scope) (ow : List (Str × Nat)) (tgt : List Nat) (one : Bool) (w : Nat) (a b cond celt : CE) : Prop where
  pi : PI X tg it (tI X.K fa w (itF cl w a b))
  blk : BlkOk X.N X.env.scope scope ow
  sub : ∀ i ∈ tgt, i ∈ ow.map (·.2)
  tg : ∀ (s : Shared) (H : Hp) (C : Addr) (c : List (Str × Addr)) (fp : List Addr), PG (X.blk s H scope (compEnvC scope c C X.env) fp) tg (gOf X.K one tgt)
  ts : ∀ (s : Shared) (H : Hp) (C : Addr) (c : List (Str × Addr)) (fp : List Addr), PTs (X.blk s H scope (compEnvC scope c C X.env) fp) ifs (tT X.K fa (evE cl cond))
  el : ∀ (s : Shared) (H : Hp) (C : Addr) (c : List (Str × Addr)) (fp : List Addr), PEv (X.blk s H scope (compEnvC scope c C X.env) fp) fa cl elt celt
  fold : ∀ x, foldedSetIterable it X.env x = pure x
theorem comp_parts (C : Cok T N fa cl k X top sc) {own tgt : List Nat} {one : Bool} {w : Nat} {a b cond celt : CE} {e : Expr} (h : ckE T N (.comp own tgt one w a b cond celt) top sc e = true) :
    ∃ x tg it ifs scope p ow, e = .ListComp x [⟨tg, it, ifs, 0⟩] scope p ∧ ow.map (·.2) = own ∧ CompOk X fa cl tg it x ifs scope ow tgt one w a b cond celt := by
  unfold ckE at h
  split at h
  · rename_i x tg it ifs scope p
    split at h
    · rename_i ow how
      simp only [Bool.and_eq_true, decide_eq_true_eq] at h
      obtain ⟨h1, h2, h3, h4, h5, h6, h7⟩ := h
      have eo := ownOf_ok how
      refine ⟨x, tg, it, ifs, scope, p, ow, rfl, eo, ?_, by rw [C.n, C.scp]; exact blkOk_by h1, by rw [eo]; exact h2, fun s H A c fp => tgtC_ok C s H scope A c fp h3, fun s H A c fp => ?_, fun s H A c fp => ckE_ok celt (C.blk s H scope A c fp) h7, fun y => sets_ok h4 y⟩
      · split at h5
        · rename_i x' hx
          simp only [Bool.and_eq_true] at h5
          exact itForm_one C hx h5.1 (ckE_ok a C h5.2)
        · rename_i x' y' hx
          simp only [Bool.and_eq_true] at h5
          exact itForm_two C hx (ckE_ok a C h5.1) (ckE_ok b C h5.2)
        · cases h5
      · split at h6
        · have : cond = .cst (.bl true) := by
            unfold isTrueC at h6
            split at h6
            · rfl
            · cases h6
          subst this
          refine PTs.imp pts_nil fun σ H Q ⟨ρ, env, st, e, s, q⟩ => ?_
          unfold evE at q
          exact q.here (v := true) s rfl
        · exact pts_one (ckT_ok cond (C.blk s H scope A c fp) h6).1
        · cases h6
    · cases h
  · cases h
theorem ss_asg' {i : Nat} {x : Str} {e : Expr} {c : CE} {pos pos' : Pos} (hN : X.N.Nodup) (hi : X.N[i]? = some x) (hx : Loc X.env.scope x) (hf : X.fn x = true ∨ X.env.scope.names.lookup x = some .local) (hs : swapsWith e (some (.Name x pos')) pos.line X.env = pure false) (he : PEv X fa cl e c) : PSv X fa cl (.Assign [.Name x pos'] e pos) (.asg i c) :=
  PS.imp (ps_set hN hi hx he hs hf) asg_read
def plainS : Expr → Bool
  | .Slice _ _ _ _ => false
  | _ => true
theorem assign_sub {o i : Expr} {pos' : Pos} {env : PySem.Env} (h : plainI i = true) (v : Value) : assign (.Subscript o i pos') env v = (do
      let ov ← holding [v] (eval o env)
      let iv ← holding [v, ov] (eval i env)
      standAt pos'
      holding [v, ov, iv] (setItem ov iv v)
      release [v, ov, iv] []) := by
  cases i <;> first | rfl | cases h
end
section
variable (T : Tb) (N : List Str)
mutual
def ckS : CS → Scope → Stmt → Bool
  | .asg i c, sc, s => (match s with
    | .Assign [.Name x py] e _ => stoB true sc x && (decide (N[i]? = some x) && (ckE T N c true sc e && (match e with
      | .ListComp _ _ scope pos => decide (sc.kind = .function) && (if swB sc scope x py pos then decide (sc.names.lookup x = some .local) else true)
      | e => noComp e)))
    | _ => false)
  | .asgT is c, sc, s => (match s with
    | .Assign [.Tuple es _ _] e _ => noComp e && (noTup e && (tgsB N true sc is es && ckE T N c true sc e))
    | _ => false)
  | .par i j a b, sc, s => (match s with
    | .Assign [.Tuple [.Name x px, .Name y py] _ _] (.Tuple [u, v] _ _) _ => decide (N[i]? = some x) && (decide (N[j]? = some y) && (decide (i ≠ j) && (decide (x ≠ y) && (decide (sc.names.lookup x = some .local) && (decide (sc.names.lookup y = some .local) && (decide (sc.kind = .function) &&
        (sameLine px py && (plainX u && (plainX v && (!([u, v].all (foldedForSure 8)) && (!([u, v].all (constantsAlone 8)) && (ckE T N a true sc u && ckE T N b true sc v))))))))))))
    | _ => false)
  | .sub o i c, sc, s => (match s with
    | .Assign [.Subscript x y _] e _ => noComp e && (plainI y && (ckE T N o true sc x && (ckE T N i true sc y && ckE T N c true sc e)))
    | _ => false)
  | .app o c, sc, s => (match s with
    | .Expr (.Call (.Attribute x m apos) [e] [] cpos) _ => decide (m = ("append" : Str)) && (noSuper x && (plainX e && ((apos.endLine == cpos.line) && (ckE T N o true sc x && ckE T N c true sc e))))
    | _ => false)
  | .ext o c, sc, s => (match s with
    | .Expr (.Call (.Attribute x m apos) [e] [] cpos) _ => decide (m = ("extend" : Str)) && (noSuper x && (plainX e && ((apos.endLine == cpos.line) && (ckE T N o true sc x && ckE T N c true sc e))))
    | _ => false)
  | .expr c, sc, s => (match s with
    | .Expr e _ => noComp e && ckE T N c true sc e
    | _ => false)
  | .ret c, sc, s => (match s with
    | .Return (some e) _ => ckE T N c true sc e
    | _ => false)
  | .retN, _, s => (match s with
    | .Return none _ => true
    | _ => false)
  | .ife c a b, sc, s => (match s with
    | .If e x y _ => ckT T N c true sc e && (ckSs a sc x && ckSs b sc y)
    | _ => false)
  | .for tgt one w a b body, sc, s => (match s with
    | .For tg it bd [] _ => tgtB N true sc one tgt tg && (setsOk it && ((match itForm T sc w it (isTupX tg) with
          | .one x => isNonC b && ckE T N a true sc x
          | .two x y => ckE T N a true sc x && ckE T N b true sc y
          | .no => false) && ckSs body sc bd))
    | _ => false)
  | .while c body, sc, s => (match s with
    | .While e bd [] _ => ckT T N c true sc e && ckSs body sc bd
    | _ => false)
  | .brk, _, s => (match s with
    | .Break _ => true
    | _ => false)
  | .cont, _, s => (match s with
    | .Continue _ => true
    | _ => false)
  | .pass, _, s => (match s with
    | .Pass _ => true
    | .Expr (.Constant (.str _) _ _) _ => true
    | _ => false)
  | .never, _, _ => true
def ckSs : List CS → Scope → List Stmt → Bool
  | [], _, ss => (match ss with
    | [] => true
    | _ => false)
  | c :: cs, sc, ss => (match ss with
    | s :: ss => ckS c sc s && ckSs cs sc ss
    | _ => false)
end
end
section
variable {T : Tb} {N : List Str} {fa : Nat → Option Addr} {cl : Nat → List D → Sto → R D} {k : Nat}
mutual
theorem ckS_ok : ∀ (c : CS) {sc : Scope} {s : Stmt} {X : Cx}, Cok T N fa cl k X true sc → ckS T N c sc s = true → PSv X fa cl s c
  | .asg i c, sc, s, X, C, h => by
    unfold ckS at h
    split at h
    · rename_i x py e pos
      simp only [Bool.and_eq_true, decide_eq_true_eq] at h
      obtain ⟨h1, h2, h3, h4⟩ := h
      obtain ⟨s1, s2⟩ := C.sto h1
      have hi : X.N[i]? = some x := by rw [C.n]; exact h2
      have pe := ckE_ok c C h3
      split at h4
      · rename_i elt gs scope p
        simp only [Bool.and_eq_true, decide_eq_true_eq] at h4
        obtain ⟨hk, h5⟩ := h4
        have hk' : X.env.scope.kind = .function := by rw [C.scp]; exact hk
        have sw := swaps_comp (elt := elt) (gs := gs) (scope := scope) (pos := p) (py := py) (y := x) (l := pos.line) hk'
        rw [C.scp] at sw
        cases hb : swB sc scope x py p with
        | false => rw [hb] at sw; exact ss_asg' C.nd hi s1 s2 sw pe
        | true =>
          rw [hb] at sw h5
          have hl : X.env.scope.names.lookup x = some .local := by rw [C.scp]; simpa using h5
          cases c with
          | comp own tgt one w a b cond celt =>
            obtain ⟨x', tg, it, ifs, scope', p', ow, e1, e2, co⟩ := comp_parts C h3
            cases e1
            rw [← e2]
            exact ss_setLc C.calm C.nd hi hl sw co.pi co.blk co.sub co.tg co.ts co.el co.fold
          | b1 o a => cases o <;> simp [ckE] at h3
          | cst d => cases d <;> simp [ckE] at h3
          | _ => simp [ckE] at h3
      · exact ss_asg C.nd hi s1 s2 h4 pe
    · cases h
  | .asgT is c, sc, s, X, C, h => by
    unfold ckS at h
    split at h
    · simp only [Bool.and_eq_true] at h
      exact ss_asgT C.calm C.nd h.1 h.2.1 (tgsB_ok C h.2.2.1) (ckE_ok c C h.2.2.2)
    · cases h
  | .par i j a b, sc, s, X, C, h => by
    unfold ckS at h
    split at h
    · simp only [Bool.and_eq_true, Bool.not_eq_true', decide_eq_true_eq] at h
      obtain ⟨h1, h2, h3, h4, h5, h6, h7, h8, h9, h10, h11, h12, h13, h14⟩ := h
      have x1 : X.env.scope.kind = .function := by rw [C.scp]; exact h7
      have x2 := h5
      have x3 := h6
      rw [← C.scp] at x2 x3
      exact ss_par C.calm C.nd (by rw [C.n]; exact h1) (by rw [C.n]; exact h2) h3 x2 x3 h9 h10 (sw_par x1 x2 x3 h4 h8 h9 h10 h11 h12) (ckE_ok a C h13) (ckE_ok b C h14)
    · cases h
  | .sub o i c, sc, s, X, C, h => by
    unfold ckS at h
    split at h
    · simp only [Bool.and_eq_true] at h
      exact ss_sub h.1 (ckE_ok o C h.2.2.1) (ckE_ok i C h.2.2.2.1) (ckE_ok c C h.2.2.2.2) (assign_sub h.2.1)
    · cases h
  | .app o c, sc, s, X, C, h => by
    unfold ckS at h
    split at h
    · simp only [Bool.and_eq_true, decide_eq_true_eq] at h
      obtain ⟨h1, h2, h3, h4, h5, h6⟩ := h
      subst h1
      exact ss_app h2 h3 h4 (ckE_ok o C h5) (ckE_ok c C h6)
    · cases h
  | .ext o c, sc, s, X, C, h => by
    unfold ckS at h
    split at h
    · simp only [Bool.and_eq_true, decide_eq_true_eq] at h
      obtain ⟨h1, h2, h3, h4, h5, h6⟩ := h
      subst h1
      exact ss_ext h2 h3 h4 (ckE_ok o C h5) (ckE_ok c C h6)
    · cases h
  | .expr c, sc, s, X, C, h => by
    unfold ckS at h
    split at h
    · simp only [Bool.and_eq_true] at h
      exact ss_expr h.1 (ckE_ok c C h.2)
    · cases h
  | .ret c, sc, s, X, C, h => by
    unfold ckS at h
    split at h
    · exact ss_ret (ckE_ok c C h)
    · cases h
  | .retN, sc, s, X, C, h => by
    unfold ckS at h
    split at h
    · exact ss_retN
    · cases h
  | .ife c a b, sc, s, X, C, h => by
    unfold ckS at h
    split at h
    · simp only [Bool.and_eq_true] at h
      exact ss_if (ckT_ok c C h.1).1 (ckSs_ok a C h.2.1) (ckSs_ok b C h.2.2)
    · cases h
  | .for tgt one w a b body, sc, s, X, C, h => by
    unfold ckS at h
    split at h
    · simp only [Bool.and_eq_true] at h
      obtain ⟨h1, h2, h3, h4⟩ := h
      refine ss_for C.xe C.calm ?_ (tgtB_ok C h1) (ckSs_ok body C h4) (fun y => sets_ok h2 y)
      split at h3
      · rename_i x' hx
        simp only [Bool.and_eq_true] at h3
        exact itForm_one C hx h3.1 (ckE_ok a C h3.2)
      · rename_i x' y' hx
        simp only [Bool.and_eq_true] at h3
        exact itForm_two C hx (ckE_ok a C h3.1) (ckE_ok b C h3.2)
      · cases h3
    · cases h
  | .while c body, sc, s, X, C, h => by
    unfold ckS at h
    split at h
    · simp only [Bool.and_eq_true] at h
      exact ss_while C.xe (ckT_ok c C h.1).1 (ckSs_ok body C h.2)
    · cases h
  | .brk, sc, s, X, C, h => by
    unfold ckS at h
    split at h
    · exact ss_brk
    · cases h
  | .cont, sc, s, X, C, h => by
    unfold ckS at h
    split at h
    · exact ss_cont
    · cases h
  | .pass, sc, s, X, C, h => by
    unfold ckS at h
    split at h
    · exact ss_pass
    · exact ss_doc
    · cases h
  | .never, sc, s, X, C, h => ss_never
theorem ckSs_ok : ∀ (cs : List CS) {sc : Scope} {ss : List Stmt} {X : Cx}, Cok T N fa cl k X true sc → ckSs T N cs sc ss = true → PSsv X fa cl ss cs
  | [], sc, ss, X, C, h => by
    unfold ckSs at h
    split at h
    · exact ss_nil
    · cases h
  | c :: cs, sc, ss, X, C, h => by
    unfold ckSs at h
    split at h
    · simp only [Bool.and_eq_true] at h
      exact ss_cons (ckS_ok c C h.1) (ckSs_ok cs C h.2)
    · cases h
end
end
end MP
/-! ## MP17 -/
set_option Elab.async false
set_option linter.all false
set_option autoImplicit false
set_option maxRecDepth 100000
set_option maxHeartbeats 4000000
/-! MP17: a program's defs do what `run` says. -/
namespace MP
open PySem PySem.Spec PyProof.Rows L2

/-- a def: its name, its text, its names (parameters first), its parameters, their defaults, its body -/
structure Df where
  nm : Str
  st : Stmt
  N : List Str
  ps : List Str
  dv : List D
  body : List CS
def Df.fn (d : Df) : Fn := ⟨d.ps.length, d.N.length, d.body⟩
def Df.row (d : Df) : Str × Nat × List D := (d.nm, d.ps.length, d.dv)
/-- the text is the small language's -/
def Df.ck (T : Tb) (d : Df) : Bool := C8.scC d.N d.ps (defScope d.st) && ckSs T d.N d.body (defScope d.st) (defBody d.st)
abbrev FnD (K : PySem.W.Frag) (d : Df) (dvs : List V) (f : Addr) (fd : FuncData) : Prop := FunD K d.nm d.nm (defArgs d.st) (defBody d.st) (defScope d.st) dvs [] f fd
/-- the ways in which it may be called -/
def BindB (K : PySem.W.Frag) (fa : Nat → Option Addr) (d : Df) (fd : FuncData) : Prop := ∀ j, j ≤ d.dv.length → ∃ ds dvs, Binds K fd d.ps ds ∧ Vals dvs ds ∧ ∀ ρ H, RepL K fa ρ H (d.dv.drop j) dvs
structure Pg (T : Tb) (Ds : List Df) (fa : Nat → Option Addr) (K : PySem.W.Frag) (w : World) (mg : Str → Option Value) : Prop where
  names : T.names = Ds.map Df.row
  free : ∀ x ∈ T.free, mg x = none
  cons : ∀ p ∈ T.cons, ∃ t, mg p.1 = some (.int p.2 t)
  dicts : ∀ p ∈ T.dicts, ∃ d, mg p.1 = some (.ref d) ∧ GD K w d p.2
  ck : Ds.all (Df.ck T) = true
  defs : ∀ g d, Ds[g]? = some d → ∃ f fd dvs, mg d.nm = some (.ref f) ∧ fa g = some f ∧ FnD K d dvs f fd ∧ BindB K fa d fd
theorem run_len {tb : List Fn} {K : PySem.W.Frag} {fa : Nat → Option Addr} {k g : Nat} {f : Fn} (hf : tb[g]? = some f) {vs : List V} {H : Hp} {Q : VK} {E : XK} (h : spOf K fa (run tb k) g vs H Q E) : vs.length = f.ps := by
  obtain ⟨ρ, st, xs, s, r, q⟩ := h
  cases k with
  | zero => exact q.elim
  | succ k =>
    unfold run at q
    simp only [hf] at q
    by_cases e : xs.length = f.ps
    · rw [← e]; exact r.length
    · rw [if_neg e] at q; exact q.elim
theorem start_rep {K : PySem.W.Frag} {fa : Nat → Option Addr} {ρ : List Addr} {H : Hp} {xs : List D} {vs : List V} {N : List Str} {m : Nat} (r : RepL K fa ρ H xs vs) (hm : m = N.length - vs.length) : RepE K fa ρ H (xs.map some ++ List.replicate m none) (L2.start N vs) := by
  subst hm
  have key : ∀ (xs : List D) (vs : List V), RepL K fa ρ H xs vs → ∀ (i : Nat) (d : D), (xs.map some)[i]? = some (some d) → ∃ v, (vs.map some)[i]? = some (some v) ∧ RepD K fa ρ H d v := by
    intro xs
    induction xs with
    | nil => intro vs r i d h; cases h
    | cons x xs ih =>
      intro vs r i d h
      obtain ⟨v, r', rfl, h1, h2⟩ := r
      cases i with
      | zero => simp at h; subst h; exact ⟨v, rfl, h1⟩
      | succ i => simpa using ih r' h2 i d (by simpa using h)
  have hl := r.length
  refine ⟨by simp [L2.start, hl], fun i d h => ?_⟩
  by_cases c : i < xs.length
  · rw [List.getElem?_append_left (by simpa using c)] at h
    obtain ⟨v, h1, h2⟩ := key xs vs r i d h
    refine ⟨v, ?_, h2⟩
    unfold L2.start
    rw [List.getElem?_append_left (by simpa [hl] using c)]
    exact h1
  · rw [List.getElem?_append_right (by simpa using Nat.le_of_not_lt c)] at h
    rw [List.getElem?_replicate] at h
    split at h <;> cases h
section
variable {T : Tb} {Ds : List Df} {fa : Nat → Option Addr} {K : PySem.W.Frag} {w : World} {mg : Str → Option Value}
theorem prog_ok (P : Program) (pk : Pg T Ds fa K w mg) (base : Heap) : ∀ (k g : Nat) (d : Df), Ds[g]? = some d → ∀ (f : Addr) (fd : FuncData) (dvs : List V), FnD K d dvs f fd → FnOk P w K mg base CX0 k f fd d.ps (spOf K fa (run (Ds.map Df.fn) k) g)
  | 0, g, d, hd, f, fd, dvs, F => by
    have no : ∀ vs H Q E, spOf K fa (run (Ds.map Df.fn) 0) g vs H Q E → False := fun vs H Q E ⟨ρ, st, xs, s, r, q⟩ => q.elim
    exact ⟨fun vs H Q E h => (no vs H Q E h).elim, fun A outer s H args us vs Q E _ _ _ _ h => (no vs H Q E h).elim⟩
  | k + 1, g, d, hd, f, fd, dvs, F => by
    have ht : (Ds.map Df.fn)[g]? = some d.fn := by rw [List.getElem?_map, hd]; rfl
    have ckd := List.all_eq_true.mp pk.ck d (List.mem_of_getElem? hd)
    unfold Df.ck at ckd
    obtain ⟨c1, c2⟩ := Bool.and_eq_true_iff.mp ckd
    have S := C8.fnScope_by c1
    refine F.ok S (fun vs H Q E h => run_len ht h) (fun cdv A outer s H vs Q E hr h => ⟨tS K fa (evSs (run (Ds.map Df.fn) k) d.body), PSs.nox ?_, ?_⟩)
    · refine ckSs_ok (T := T) (N := d.N) (k := k) d.body (sc := defScope d.st) (X := (cxOf CX0 P w K mg base d.N d.nm (defScope d.st) f cdv A outer s H E).nox) ⟨rfl, rfl, S.nd, rfl, rfl, hr, fun _ _ => rfl, pk.free, pk.cons, pk.dicts, fun g' x m dv hg => ?_⟩ c2
      rw [pk.names, List.getElem?_map] at hg
      obtain ⟨d', hd', e⟩ := Option.map_eq_some_iff.mp hg
      cases e
      obtain ⟨f', fd', dvs', m1, m2, F', B'⟩ := pk.defs g' d' hd'
      exact ⟨f', fd', d'.ps, m1, m2, F'.kp, prog_ok P pk base k g' d' hd' f' fd' dvs' F', B'⟩
    · have hvl := run_len ht h
      obtain ⟨ρ, st, xs, s, r, q⟩ := h
      have hxl : xs.length = d.fn.ps := by rw [← hvl]; exact r.length.symm
      refine ⟨ρ, _, st, start_rep (m := d.fn.ns - d.fn.ps) r (by rw [hvl]; rfl), s, ?_⟩
      unfold run at q
      simp only [ht] at q
      rw [if_pos hxl] at q
      have eb : d.fn.body = d.body := rfl
      rw [eb] at q
      generalize evSs (run (Ds.map Df.fn) k) d.body (xs.map some ++ List.replicate (d.fn.ns - d.fn.ps) none) st = o at q ⊢
      cases o with
      | next env st' =>
        intro ρ' H' σ' p' k' e' s'
        obtain ⟨ρ2, p2, s2, r2⟩ := RepS.gc s p' s' (d := .non) (v := .non) rfl
        exact q ρ2 H' .non p2 k' s2 rfl
      | ret d' st' =>
        intro ρ' H' v p' k' s' r'
        obtain ⟨ρ2, p2, s2, r2⟩ := RepS.gc s p' s' r'
        exact q ρ2 H' v p2 k' s2 r2
      | brk env st' => exact q.elim
      | cont env st' => exact q.elim
      | exc c fs st' => exact q.elim
      | bad => exact q.elim
end

/-! ### the facts, from the head -/
def toDv : D → He.Dv
  | .bl b => .bl b
  | .int i => .int i
  | .str x => .str x
  | _ => .non
def flatD : D → Bool
  | .non => true
  | .bl _ => true
  | .int _ => true
  | .str _ => true
  | _ => false
theorem flat_rep {K : PySem.W.Frag} {fa : Nat → Option Addr} {ρ : List Addr} {H : Hp} : ∀ {ds : List D}, ds.all flatD = true → RepL K fa ρ H ds (ds.map fun d => (toDv d).v K)
  | [], _ => rfl
  | d :: ds, h => by
    simp only [List.all_cons, Bool.and_eq_true] at h
    refine ⟨_, _, rfl, ?_, flat_rep h.2⟩
    cases d <;> first | rfl | cases h.1
def Df.he (d : Df) : He.DefD := ⟨(d.nm, none), d.nm, d.nm, defArgs d.st, defBody d.st, defScope d.st, d.dv.map toDv, []⟩
theorem gd_of {K : PySem.W.Frag} {w : World} {d : Addr} {kvs : List (Str × Int)} (h1 : He.dicW K d = some (He.keysIn w.params (kvs.map (·.1)))) (h2 : He.valsB K d (kvs.map fun p => (p.1, .int p.2)) = true) : GD K w d kvs := by
  refine ⟨He.dicW_ok h1, fun p hp => ?_, fun z hz => ?_⟩
  · obtain ⟨u, h3, h4⟩ := He.valsB_ok h2 (q := (p.1, .int p.2)) (List.mem_map.mpr ⟨p, hp, rfl⟩)
    obtain ⟨t, rfl⟩ := h4
    exact ⟨t, h3⟩
  · obtain ⟨es, n, kd⟩ := He.dicW_ok h1
    have hk : es.toList.map He.keyOf = He.keysIn w.params (kvs.map (·.1)) := by
      unfold He.dicW at h1
      rw [kd.at_] at h1
      simp only at h1
      split at h1
      · exact Option.some.inj h1
      · cases h1
    have each : ∀ e ∈ es.toList, ∃ x t, e.key = .str x t ∧ x ∈ kvs.map (·.1) := by
      intro e he
      have : He.keyOf e ∈ He.keysIn w.params (kvs.map (·.1)) := by rw [← hk]; exact List.mem_map.mpr ⟨e, he, rfl⟩
      obtain ⟨x, hx, ex⟩ := List.mem_map.mp this
      unfold He.keyOf at ex
      split at ex
      · rename_i y t hy
        have e1 := (Prod.mk.inj (Option.some.inj ex)).1
        subst e1
        exact ⟨_, t, hy, hx⟩
      · cases ex
    unfold PySem.W.nsIn
    rw [kd.at_]
    simp only
    have f1 : es.toList.find? (·.key.isStr z) = none := by
      rw [List.find?_eq_none]
      intro e he hz2
      obtain ⟨x, t, hx, hm⟩ := each e he
      rw [hx] at hz2
      have : x = z := by
        have : (x == z) = true := hz2
        exact eq_of_beq this
      subst this
      obtain ⟨p, hp, e2⟩ := List.mem_map.mp hm
      have := List.any_eq_false.mp hz p hp
      simp [e2] at this
    have f2 : es.toList.any (·.refKey) = false := by
      rw [List.any_eq_false]
      intro e he
      obtain ⟨x, t, hx, hm⟩ := each e he
      unfold DictEntry.refKey
      rw [hx]
      simp
    rw [f1]
    simp only [f2]
    rfl
end MP
/-! ## MP18 -/
set_option Elab.async false
set_option linter.all false
set_option autoImplicit false
set_option maxRecDepth 100000
set_option maxHeartbeats 4000000
/-! MP18: the head's facts of a program. -/
namespace MP
open PySem PySem.Spec PyProof.Rows L2
def faOf (T : Tb) (Ds : List Df) : List He.Fa := Ds.map (fun d => .glo d.nm) ++ (T.free.map .free ++ (T.cons.map (fun p => .int p.1 p.2) ++ T.dicts.map fun p => .glo p.1))
def tsOf (T : Tb) : List He.Tab := T.dicts.map fun p => ((fun K => He.ga K p.1), p.2.map (·.1))
def exOf (T : Tb) (K : PySem.W.Frag) : Bool := T.dicts.all fun p => He.valsB K (He.ga K p.1) (p.2.map fun q => (q.1, .int q.2))
/-- the binding of arguments without defaults -/
def ArgsN (d : Df) : Prop := ∀ (kV doc pm : Value) (an : Option Addr) (cdv ct : Value) (us : List Value), us.length = d.ps.length → bindArgs (PySem.W.fnOf d.nm d.nm (defArgs d.st) (defBody d.st) (defScope d.st) .none kV doc pm an cdv ct) ⟨us, []⟩ = pure (d.ps.zip us)
/-- .. with them -/
def ArgsD (d : Df) : Prop := ∀ j, j ≤ d.dv.length → ∀ (T : Addr) (kV doc pm : Value) (an : Option Addr) (cdv ct : Value) (us its : List Value), us.length = d.ps.length - (d.dv.length - j) → its.length = d.dv.length →
  ∃ k, bindArgs (PySem.W.fnOf d.nm d.nm (defArgs d.st) (defBody d.st) (defScope d.st) (.ref T) kV doc pm an cdv ct) ⟨us, []⟩ = seqItems? (.ref T) >>= k ∧ k (some its.toArray) = pure (d.ps.zip (us ++ its.drop j))
/-- how it may be called, known -/
def ArgsOk (d : Df) : Prop := (d.dv = [] ∧ ArgsN d) ∨ (d.dv ≠ [] ∧ d.dv.length ≤ d.ps.length ∧ d.dv.all flatD = true ∧ ArgsD d)
def AllArgs : List Df → Prop
  | [] => True
  | d :: ds => ArgsOk d ∧ AllArgs ds
theorem AllArgs.get : ∀ {ds : List Df} {g : Nat} {d : Df}, AllArgs ds → ds[g]? = some d → ArgsOk d
  | [], _, _, _, h => by cases h
  | d :: ds, 0, _, a, h => by cases h; exact a.1
  | d :: ds, g + 1, _, a, h => AllArgs.get a.2 h
theorem bind_of {K : PySem.W.Frag} {fa : Nat → Option Addr} {d : Df} {f : Addr} {fd : FuncData} (a : ArgsOk d) (F : FnD K d (d.dv.map fun x => (toDv x).v K) f fd) : BindB K fa d fd := by
  intro j hj
  rcases a with ⟨e, h⟩ | ⟨hne, hl, fl, h⟩
  · rw [e] at F hj ⊢
    have := FunD.bindsN (ps := d.ps) F h
    exact ⟨[], [], this, .nil, fun ρ H => by simp [RepL]⟩
  · have len : (d.dv.map fun x => (toDv x).v K).length = d.dv.length := List.length_map ..
    obtain ⟨ds, v, b⟩ := FunD.binds1 (ps := d.ps) F (d.ps.length - (d.dv.length - j)) j (by simp [hne]) (by rw [len]; omega)
      (fun T kV doc pm an cdv ct us its hu hi => h j hj T kV doc pm an cdv ct us its hu (by rw [hi, len]))
    refine ⟨ds, _, b, v, fun ρ H => ?_⟩
    rw [← List.map_drop]
    exact flat_rep (List.all_eq_true.mpr fun x hx => List.all_eq_true.mp fl x (List.mem_of_mem_drop hx))
theorem pg_of {T : Tb} {Ds : List Df} {K : PySem.W.Frag} {w : World} {h : Heap} {mg : Str → Option Value} (hn : T.names = Ds.map Df.row) (hck : Ds.all (Df.ck T) = true) (ha : AllArgs Ds) (X : K.In h) (G : h.Ns mainGlobals mg)
    (c : He.SaysX (faOf T Ds) (Ds.map Df.he) (tsOf T) [] (exOf T) w h K) : Pg T Ds (fun g => (Ds[g]?).map fun d => He.ga K d.nm) K w mg where
  names := hn
  free := fun x hx => He.free_ok X G (c.t.d.facts (List.mem_append_right _ (List.mem_append_left _ (List.mem_map.mpr ⟨x, hx, rfl⟩))))
  cons := fun p hp => He.int_ok X G (c.t.d.facts (List.mem_append_right _ (List.mem_append_right _ (List.mem_append_left _ (List.mem_map.mpr ⟨p, hp, rfl⟩)))))
  dicts := fun p hp => by
    refine ⟨He.ga K p.1, He.glo_ok X G (c.t.d.facts (List.mem_append_right _ (List.mem_append_right _ (List.mem_append_right _ (List.mem_map.mpr ⟨p, hp, rfl⟩))))), gd_of ?_ ?_⟩
    · have e : (tsOf T).map (fun t => He.dicW K (t.1 K)) = (tsOf T).map fun t => some (He.keysIn w.params t.2) := congrArg (fun z : He.AlT => z.2) c.t
      obtain ⟨i, hi, e1⟩ := List.mem_iff_getElem.mp hp
      have e2 : ((tsOf T).map fun t => He.dicW K (t.1 K))[i]? = ((tsOf T).map fun t => some (He.keysIn w.params t.2))[i]? := by rw [e]
      rw [List.getElem?_map, List.getElem?_map] at e2
      have e3 : (tsOf T)[i]? = some ((fun K => He.ga K p.1), p.2.map (·.1)) := by
        unfold tsOf
        rw [List.getElem?_map, List.getElem?_eq_getElem hi, e1]
        rfl
      rw [e3] at e2
      exact Option.some.inj e2
    · exact List.all_eq_true.mp c.more p hp
  ck := hck
  defs := fun g d hd => by
    have hm := List.mem_of_getElem? hd
    obtain ⟨fd, F⟩ := c.t.d.defs (d := d.he) (List.mem_map.mpr ⟨d, hm, rfl⟩)
    have e : d.he.dvs K = d.dv.map fun x => (toDv x).v K := by
      unfold He.DefD.dvs Df.he
      simp [List.map_map, Function.comp_def]
    rw [e] at F
    refine ⟨He.ga K d.nm, fd, _, He.glo_ok X G (c.t.d.facts (List.mem_append_left _ (List.mem_map.mpr ⟨d, hm, rfl⟩))), by rw [hd]; rfl, F, bind_of (ha.get hd) F⟩

/-! ### the law's def -/
theorem ints_rep {K : PySem.W.Frag} {fa : Nat → Option Addr} {ρ : List Addr} {H : Hp} : ∀ ns : List Int, RepL K fa ρ H (ns.map .int) (ns.map V.int)
  | [] => rfl
  | n :: ns => ⟨_, _, rfl, rfl, ints_rep ns⟩
theorem sp_law {K : PySem.W.Frag} {fa : Nat → Option Addr} {tb : List Fn} {k g : Nat} {H : Hp} {a : Addr} {ns : List Int} (hS : SqL K H a (ns.map V.int)) (hf : Only H) (hz : ∃ st, run tb k g [.loc 0] [.ro (ns.map .int)] = .ok (.bl true) st) :
    spOf K fa (run tb k) g [.ref a] H (fun v _ => v = .bl true) fun _ _ _ => False := by
  obtain ⟨st, e⟩ := hz
  refine ⟨[a], [.ro (ns.map .int)], [.loc 0], ?_, ⟨_, _, rfl, ⟨a, rfl, rfl⟩, rfl⟩, ?_⟩
  · refine ⟨rfl, fun n o hn => ?_, fun i j b o o' hi hj ho ho' h1 h2 => ?_⟩
    · cases n with
      | zero =>
        cases hn
        refine ⟨a, rfl, ns.map V.int, ?_, ?_⟩
        · rcases hS with h | h
          · rcases h with h | ⟨o, h⟩
            · rcases hf a with z | ⟨o, xs, z⟩
              · rw [z] at h; cases h
              · rw [z] at h; cases h
            · exact .inl ⟨o, h⟩
          · exact .inr h
        · exact ints_rep ns
      | succ n => cases hn
    · cases i with
      | zero => cases ho; cases h1
      | succ i => cases ho
  · rw [e]
    intro ρ' H' v _ _ _ r
    cases r
    rfl
end MP
/-! ## MQ1 -/
set_option Elab.async false
set_option linter.all false
set_option autoImplicit false
set_option maxRecDepth 100000
set_option maxHeartbeats 4000000
/-! MQ1: reckoning with `run`. -/
namespace MP
open PySem PySem.Spec PyProof.Rows L2
theorem keepsOk_app (n : Nat) (t : Sto) : ∀ st : Sto, keepsOk n st (st ++ t) = true
  | [] => rfl
  | o :: st => by simp [keepsOk, O.eqb_refl, keepsOk_app n t st]
theorem gc_app (st t : Sto) {d : D} (h : d.und st.length = true) : gc st (st ++ t) d = st := by
  unfold gc
  rw [if_pos (by simp [h, keepsOk_app])]
  simp
theorem gc_self (st : Sto) (d : D) : gc st st d = st := by
  unfold gc
  split
  · simp
  · rfl
theorem gcE_app (st t : Sto) {env : Env} (h : envUnd st.length env = true) : gcE st (st ++ t) env = st := by
  unfold gcE
  rw [if_pos (by simp [h, keepsOk_app])]
  simp
theorem gcE_self (st : Sto) (env : Env) : gcE st st env = st := by
  unfold gcE
  split
  · simp
  · rfl
theorem run_succ {tb : List Fn} {g : Nat} {f : Fn} {k : Nat} {xs : List D} {st : Sto} (hf : tb[g]? = some f) (hl : xs.length = f.ps) :
    run tb (k + 1) g xs st = endCall st (evSs (run tb k) f.body (xs.map some ++ List.replicate (f.ns - f.ps) none) st) := by
  rw [run]
  simp only [hf]
  rw [if_pos hl]
theorem eqb_refl2 {d e : D} (h : d = e) : D.eqb d e = true := by rw [h]; exact D.eqb_refl e
/-! ### == -/
theorem shaped_str {a : Str} (h : PyData.strOk a = true) : SeqAt.shaped (.str a) = true := by
  unfold SeqAt.shaped PyData.canLay0
  rw [h]
  simp [PyData.depth]
theorem shaped_int (a : Int) : SeqAt.shaped (.int a) = true := by
  unfold SeqAt.shaped PyData.canLay0
  simp [PyData.depth]
theorem pyEq_str (st : Sto) {a b : Str} (ha : PyData.strOk a = true) (hb : PyData.strOk b = true) : pyEq st (.str a) (.str b) = some (decide (a = b)) := by
  have e : PyData.eqv (.str a) (.str b) = decide (a = b) := by
    unfold PyData.eqv
    rw [Bool.eq_iff_iff]
    simp
  unfold pyEq toP
  simp only
  rw [shaped_str ha, shaped_str hb, e]
  rfl
theorem pyEq_int (st : Sto) (a b : Int) : pyEq st (.int a) (.int b) = some (decide (a = b)) := by
  have e : PyData.eqv (.int a) (.int b) = decide (a = b) := by
    unfold PyData.eqv
    rw [Bool.eq_iff_iff]
    simp
  unfold pyEq toP
  simp only
  rw [shaped_int, shaped_int, e]
  rfl

/-! ### steps -/
def onB {α : Type} (x : D) (a b : R α) : R α := match x with
  | .bl true => a
  | .bl false => b
  | _ => .bad
def onO (x : D) (a b : Out) : Out := match x with
  | .bl true => a
  | .bl false => b
  | _ => .bad
def Out.seq (o : Out) (f : Env → Sto → Out) : Out := match o with
  | .next e s => f e s
  | .ret d st => .ret d st
  | .brk env st => .brk env st
  | .cont env st => .cont env st
  | .exc c fs st => .exc c fs st
  | .bad => .bad
def optO {α : Type} (o : Option α) (f : α → Out) : Out := match o with
  | some a => f a
  | none => .bad
def optR {α β : Type} (o : Option α) (f : α → R β) : R β := match o with
  | some a => f a
  | none => .bad
theorem onB_bl {α : Type} (c : Bool) (a b : R α) : onB (.bl c) a b = if c = true then a else b := by cases c <;> rfl
theorem onO_bl (c : Bool) (a b : Out) : onO (.bl c) a b = if c = true then a else b := by cases c <;> rfl
theorem bind_ok {α β : Type} (a : α) (st : Sto) (f : α → Sto → R β) : R.bind (.ok a st) f = f a st := rfl
theorem out_ok {α : Type} (a : α) (st : Sto) (f : α → Sto → Out) : R.out (.ok a st) f = f a st := rfl
theorem bind_ite {α β : Type} (c : Prop) [Decidable c] (a b : R α) (f : α → Sto → R β) : R.bind (if c then a else b) f = if c then a.bind f else b.bind f := by split <;> rfl
theorem out_ite {α : Type} (c : Prop) [Decidable c] (a b : R α) (f : α → Sto → Out) : R.out (if c then a else b) f = if c then a.out f else b.out f := by split <;> rfl
theorem seq_next (e : Env) (s : Sto) (f : Env → Sto → Out) : Out.seq (.next e s) f = f e s := rfl
theorem seq_ret (d : D) (s : Sto) (f : Env → Sto → Out) : Out.seq (.ret d s) f = .ret d s := rfl
theorem seq_ite (c : Prop) [Decidable c] (a b : Out) (f : Env → Sto → Out) : Out.seq (if c then a else b) f = if c then a.seq f else b.seq f := by split <;> rfl
theorem end_next (st : Sto) (e : Env) (s : Sto) : endCall st (.next e s) = .ok .non (gc st s .non) := rfl
theorem end_ret (st : Sto) (d : D) (s : Sto) : endCall st (.ret d s) = .ok d (gc st s d) := rfl
theorem end_ite (st : Sto) (c : Prop) [Decidable c] (a b : Out) : endCall st (if c then a else b) = if c then endCall st a else endCall st b := by split <;> rfl
theorem optO_some {α : Type} (a : α) (f : α → Out) : optO (some a) f = f a := rfl
theorem optR_some {α β : Type} (a : α) (f : α → R β) : optR (some a) f = f a := rfl
section
variable (cl : Nat → List D → Sto → R D) (env : Env) (st : Sto)
theorem x_var (i : Nat) : evE cl (.var i) env st = optR ((env[i]?).join) fun d => .ok d st := by
  rw [evE]
  cases env[i]? with
  | none => rfl
  | some o => cases o <;> rfl
theorem x_cst (d : D) : evE cl (.cst d) env st = .ok d st := by rw [evE]
theorem x_b2 (o : B2) (a b : CE) : evE cl (.b2 o a b) env st = (evE cl a env st).bind fun x st => (evE cl b env st).bind fun y st => op2 o x y st := by rw [evE]
theorem x_b1 (o : B1) (a : CE) : evE cl (.b1 o a) env st = (evE cl a env st).bind fun x st => op1 o x st := by rw [evE]
theorem x_sset (a : CE) : evE cl (.sset a) env st = (evE cl a env st).bind fun x st => opSset x st := by rw [evE]
theorem x_rg (l : Bool) (w : Nat) (a b : CE) : evE cl (.rg l w a b) env st = (evE cl a env st).bind fun x st => (evE cl b env st).bind fun y st => opRg l w x y st := by rw [evE]
theorem x_and (a b : CE) : evE cl (.and a b) env st = (evE cl a env st).bind fun x st => onB x (evE cl b env st) (.ok (.bl false) st) := by
  rw [evE]
  rfl
theorem x_or (a b : CE) : evE cl (.or a b) env st = (evE cl a env st).bind fun x st => onB x (.ok (.bl true) st) (evE cl b env st) := by
  rw [evE]
  rfl
theorem x_ite (c a b : CE) : evE cl (.ite c a b) env st = (evE cl c env st).bind fun x st => onB x (evE cl a env st) (evE cl b env st) := by
  rw [evE]
  rfl
theorem x_chain (o p : B2) (a b c : CE) : evE cl (.chain o p a b c) env st = (evE cl a env st).bind fun x st => (evE cl b env st).bind fun y st => (op2 o x y st).bind fun z st => onB z ((evE cl c env st).bind fun w st => op2 p y w st) (.ok (.bl false) st) := by
  rw [evE]
  rfl
theorem x_tup (es : List CE) : evE cl (.tup es) env st = (evEs cl es env st).bind fun xs st => mkT xs st := by rw [evE]
theorem x_lst (es : List CE) : evE cl (.lst es) env st = (evEs cl es env st).bind fun xs st => mkL xs st := by rw [evE]
theorem x_idx (a b : CE) : evE cl (.idx a b) env st = (evE cl a env st).bind fun x st => (evE cl b env st).bind fun y st => opIdx x y st := by rw [evE]
theorem x_slc (a lo hi : CE) : evE cl (.slc a lo hi) env st = (evE cl a env st).bind fun x st => (evE cl lo env st).bind fun l st => (evE cl hi env st).bind fun h st => opSlc x l h st := by rw [evE]
theorem x_call (g : Nat) (es : List CE) (dv : List D) : evE cl (.call g es dv) env st = (evEs cl es env st).bind fun xs st => cl g (xs ++ dv) st := by rw [evE]
theorem x_isi (a : CE) (ts : List Ty) : evE cl (.isi a ts) env st = (evE cl a env st).bind fun x st => optR (isTys st x ts) fun b => .ok (.bl b) st := by
  rw [evE]
  congr 1
  funext x st
  cases isTys st x ts <;> rfl
theorem x_gin (kvs : List (Str × Int)) (a : CE) : evE cl (.gin kvs a) env st = (evE cl a env st).bind fun x st => (match x with
    | .str k => .ok (.bl (kvs.any fun p => decide (p.1 = k))) st
    | _ => .bad) := by
  rw [evE] <;> congr 1
theorem x_gget (kvs : List (Str × Int)) (a : CE) : evE cl (.gget kvs a) env st = (evE cl a env st).bind fun x st => (match x with
    | .str k => optR (kvs.find? fun p => decide (p.1 = k)) fun p => .ok (.int p.2) st
    | _ => .bad) := by
  rw [evE]
  congr 1
  funext x st
  cases x with
  | str k => simp only; cases kvs.find? fun p => decide (p.1 = k) <;> rfl
  | _ => rfl
theorem x_comp (own tgt : List Nat) (one : Bool) (w : Nat) (a b cond elt : CE) : evE cl (.comp own tgt one w a b cond elt) env st = (itE w (evE cl a env st) (fun st => evE cl b env st)).bind fun p st =>
    compL (stillOf w p.1 p.2.1 st) (fun x => setTgt one tgt x (wipeD env own)) (evE cl cond) (evE cl elt) st.length p.2.2 (st ++ [.lst []]) := by rw [evE]
theorem x_nil : evEs cl [] env st = .ok [] st := by rw [evEs]
theorem x_cons (e : CE) (es : List CE) : evEs cl (e :: es) env st = (evE cl e env st).bind fun x st => (evEs cl es env st).bind fun xs st => .ok (x :: xs) st := by rw [evEs]
theorem x_asg (i : Nat) (e : CE) : evS cl (.asg i e) env st = (evE cl e env st).out fun x st => .next (env.set i (some x)) st := by rw [evS]
theorem x_asgT (is : List Nat) (e : CE) : evS cl (.asgT is e) env st = (evE cl e env st).out fun x st => optO (setTgt false is x env) fun env => .next env st := by
  rw [evS]
  congr 1
  funext x st
  cases setTgt false is x env <;> rfl
theorem x_par (i j : Nat) (a b : CE) : evS cl (.par i j a b) env st = (evE cl a env st).out fun x st => (evE cl b env st).out fun y st => .next ((env.set i (some x)).set j (some y)) st := by rw [evS]
theorem x_sub (o i e : CE) : evS cl (.sub o i e) env st = (evE cl e env st).out fun v st => (evE cl o env st).out fun x st => (evE cl i env st).out fun y st => optO (putAt x y v st) fun st => .next env st := by
  rw [evS]
  congr 1
  funext v st
  congr 1
  funext x st
  congr 1
  funext y st
  cases putAt x y v st <;> rfl
theorem x_app (o e : CE) : evS cl (.app o e) env st = (evE cl o env st).out fun x st => if isLst st x = true then (evE cl e env st).out fun v st => optO (appAt x v st) fun st => .next env st else .bad := by
  rw [evS]
  congr 1
  funext x st
  split
  · congr 1
    funext v st
    cases appAt x v st <;> rfl
  · rfl
theorem x_ext (o e : CE) : evS cl (.ext o e) env st = (evE cl o env st).out fun x st => if isLst st x = true then (evE cl e env st).out fun v st => optO (extAt x v st) fun st => .next env st else .bad := by
  rw [evS]
  congr 1
  funext x st
  split
  · congr 1
    funext v st
    cases extAt x v st <;> rfl
  · rfl
theorem x_expr (e : CE) : evS cl (.expr e) env st = (evE cl e env st).out fun _ st => .next env st := by rw [evS]
theorem x_ret (e : CE) : evS cl (.ret e) env st = (evE cl e env st).out fun x st => .ret x st := by rw [evS]
theorem x_retN : evS cl .retN env st = .ret .non st := by rw [evS]
theorem x_ife (c : CE) (a b : List CS) : evS cl (.ife c a b) env st = (evE cl c env st).out fun x st => onO x (evSs cl a env st) (evSs cl b env st) := by
  rw [evS]
  rfl
theorem x_for (tgt : List Nat) (one : Bool) (w : Nat) (a b : CE) (body : List CS) : evS cl (.for tgt one w a b body) env st = (itE w (evE cl a env st) (fun st => evE cl b env st)).out fun p st =>
    forL (stillOf w p.1 p.2.1 st) (setTgt one tgt) (evSs cl body) p.2.2 env st := by rw [evS]
theorem x_never : evS cl .never env st = .bad := by rw [evS]
theorem x_pass : evS cl .pass env st = .next env st := by rw [evS]
theorem x_end : evSs cl [] env st = .next env st := by rw [evSs]
theorem x_seq (s : CS) (ss : List CS) : evSs cl (s :: ss) env st = (evS cl s env st).seq fun env st => evSs cl ss env st := by
  rw [evSs]
  cases evS cl s env st <;> rfl
end

section
variable (st : Sto) (x y : D) (i j : Int) (xs ys : List D) (b : Bool)
theorem o_add_i : op2 .add (.int i) (.int j) st = .ok (.int (i + j)) st := rfl
theorem o_add_t : op2 .add (.tup xs) (.tup ys) st = mkT (xs ++ ys) st := rfl
theorem o_sub : op2 .sub (.int i) (.int j) st = .ok (.int (i - j)) st := rfl
theorem o_mul_i : op2 .mul (.int i) (.int j) st = if (bigI i || bigI j) = true then .ok (.int (i * j)) st else .bad := rfl
theorem o_mul_t : op2 .mul (.tup xs) (.int j) st = opMul (.tup xs) (.int j) st := rfl
theorem o_fdiv : op2 .fdiv (.int i) (.int j) st = if (decide (0 < j) && decide (j < 1073741824)) = true then .ok (.int (i / j)) st else .bad := rfl
theorem o_mod : op2 .mod (.int i) (.int j) st = if decide (0 < j) = true then .ok (.int (i % j)) st else .bad := rfl
theorem o_eq : op2 .eq x y st = optR (pyEq st x y) fun b => .ok (.bl b) st := by
  show (match pyEq st x y with
    | some b => R.ok (D.bl b) st
    | none => .bad) = _
  cases pyEq st x y <;> rfl
theorem o_ne : op2 .ne x y st = optR (pyEq st x y) fun b => .ok (.bl (!b)) st := by
  show (match pyEq st x y with
    | some b => R.ok (D.bl (!b)) st
    | none => .bad) = _
  cases pyEq st x y <;> rfl
theorem o_lt : op2 .lt (.int i) (.int j) st = .ok (.bl (decide (i < j))) st := rfl
theorem o_le : op2 .le (.int i) (.int j) st = .ok (.bl (decide (i ≤ j))) st := rfl
theorem o_gt : op2 .gt (.int i) (.int j) st = .ok (.bl (decide (j < i))) st := rfl
theorem o_ge : op2 .ge (.int i) (.int j) st = .ok (.bl (decide (j ≤ i))) st := rfl
theorem o_mx : op2 .mx (.int i) (.int j) st = .ok (.int (if j > i then j else i)) st := rfl
theorem o_mn : op2 .mn (.int i) (.int j) st = .ok (.int (if j < i then j else i)) st := rfl
theorem o_neg : op1 .neg (.int i) st = .ok (.int (-i)) st := rfl
theorem o_len_t : op1 .len (.tup xs) st = .ok (.int xs.length) st := rfl
theorem o_len_l (n : Nat) : op1 .len (.loc n) st = optR (lstAt st n) fun xs => .ok (.int xs.length) st := by
  show (match lstAt st n with
    | some xs => R.ok (D.int xs.length) st
    | none => .bad) = _
  cases lstAt st n <;> rfl
theorem o_int_i : op1 .int (.int i) st = .ok (.int i) st := rfl
theorem o_int_b : op1 .int (.bl b) st = .ok (.int (if b = true then 1 else 0)) st := rfl
theorem o_isN : op1 .isN x st = .ok (.bl (isNon x)) st := by cases x <;> rfl
theorem o_notN : op1 .notN x st = .ok (.bl (!isNon x)) st := by cases x <;> rfl
theorem o_asI : op1 .asI (.int i) st = .ok (.int i) st := rfl
theorem o_isF : op1 .isF (.bl b) st = .ok (.bl (!b)) st := rfl
theorem o_lnot : op1 .lnot (.bl b) st = .ok (.bl (!b)) st := rfl
theorem o_truth : op1 .truth x st = optR (truthOf st x) fun b => .ok (.bl b) st := by
  cases x <;> first | rfl | skip
  rename_i n
  show (match truthOf st (.loc n) with
    | some b => R.ok (D.bl b) st
    | none => .bad) = _
  cases truthOf st (.loc n) <;> rfl
theorem o_tuple_t : op1 .tuple (.tup xs) st = .ok (.tup xs) st := rfl
theorem o_tuple_l (n : Nat) : op1 .tuple (.loc n) st = optR (lstAt st n) fun xs => .ok (.tup xs) st := by
  show (match lstAt st n with
    | some xs => R.ok (D.tup xs) st
    | none => .bad) = _
  cases lstAt st n <;> rfl
theorem o_list_t : op1 .list (.tup xs) st = .ok (.loc st.length) (st ++ [.lst xs]) := rfl
theorem o_idx_t : opIdx (.tup xs) (.int i) st = optR (atD xs i) fun d => .ok d st := by
  show (match atD xs i with
    | some d => R.ok d st
    | none => .bad) = _
  cases atD xs i <;> rfl
theorem o_idx_l {n : Nat} (h : lstAt st n = some xs) : opIdx (.loc n) (.int i) st = optR (atD xs i) fun d => .ok d st := by
  unfold opIdx
  unfold lstAt at h
  split at h
  · rename_i ys e
    cases h
    simp only [e]
    cases atD xs i <;> rfl
  · rename_i ys e
    cases h
    simp only [e]
    cases atD xs i <;> rfl
  · cases h
theorem o_all_last : op1 .all (.loc st.length) (st ++ [.lst ys]) = optR (optAll toB ys) fun bs => .ok (.bl (bs.all id)) (st ++ [.lst ys]) := by
  have e : lstAt (st ++ [O.lst ys]) st.length = some ys := by unfold lstAt; simp
  show (match lstAt (st ++ [O.lst ys]) st.length with
    | some xs => (match optAll toB xs with
      | some bs => R.ok (D.bl (bs.all id)) (st ++ [O.lst ys])
      | none => .bad)
    | none => .bad) = _
  rw [e]
  simp only
  cases optAll toB ys <;> rfl
theorem o_tuple_last : op1 .tuple (.loc st.length) (st ++ [.lst ys]) = .ok (.tup ys) (st ++ [.lst ys]) := by
  rw [o_tuple_l]
  have e : lstAt (st ++ [O.lst ys]) st.length = some ys := by unfold lstAt; simp
  rw [e]; rfl
theorem mkT_ok {xs : List D} (h : xs.length ≤ 1000000) : mkT xs st = .ok (.tup xs) st := if_pos h
theorem mkL_ok {xs : List D} (h : xs.length ≤ 1000000) : mkL xs st = .ok (.loc st.length) (st ++ [.lst xs]) := if_pos h
end

theorem x_dct (cl : Nat → List D → Sto → R D) (ks : List Str) (es : List CE) (env : Env) (st : Sto) (xs : List D) (h : evEs cl es env (st ++ [.dct []]) = .ok xs (st ++ [.dct []])) (hk : (ks.length = xs.length && (nodupS ks && Nat.ble ks.length 15)) = true) :
    evE cl (.dct ks es) env st = .ok (.loc st.length) (st ++ [.dct (kvOf ks xs)]) := by
  rw [evE, h]
  simp only [R.bind]
  have e : (st ++ [O.dct []])[st.length]? = some (.dct []) := by simp
  rw [e]
  simp only
  rw [if_pos hk, List.set_append_right _ _ (Nat.le_refl _)]
  simp
theorem o_idx_d {n : Nat} {st : Sto} {kvs : List (D × D)} (h : st[n]? = some (.dct kvs)) (k : Str) : opIdx (.loc n) (.str k) st = optR (dGet kvs (.str k)) fun d => .ok d st := by
  unfold opIdx
  simp only [h]
  cases dGet kvs (.str k) <;> rfl
theorem pyEq_bl (st : Sto) (a b : Bool) : pyEq st (.bl a) (.bl b) = some (a == b) := by
  unfold pyEq toP
  simp only
  rw [if_pos (by cases a <;> cases b <;> (unfold SeqAt.shaped PyData.canLay0; simp [PyData.depth]))]
  unfold PyData.eqv
  rfl
end MP
/-! ## MQ2 -/
set_option Elab.async false
set_option linter.all false
set_option autoImplicit false
set_option maxRecDepth 100000
set_option maxHeartbeats 4000000
/-! MQ2: turns. -/
namespace MP
open PySem PySem.Spec PyProof.Rows L2
/-! ### the turns of a for -/
def turnO (o : Out) (f g : Env → Sto → Out) : Out := match o with
  | .next env2 st2 => f env2 st2
  | .cont env2 st2 => f env2 st2
  | .brk env2 st2 => g env2 st2
  | .ret d st2 => .ret d st2
  | .exc c fs st2 => .exc c fs st2
  | .bad => .bad
theorem turn_next (e : Env) (s : Sto) (f g : Env → Sto → Out) : turnO (.next e s) f g = f e s := rfl
theorem turn_ret (d : D) (s : Sto) (f g : Env → Sto → Out) : turnO (.ret d s) f g = .ret d s := rfl
theorem turn_ite (c : Prop) [Decidable c] (a b : Out) (f g : Env → Sto → Out) : turnO (if c then a else b) f g = if c then turnO a f g else turnO b f g := by split <;> rfl
theorem for_nil (still : Sto → Bool) (set : D → Env → Option Env) (body : Env → Sto → Out) (env : Env) (st : Sto) (h : still st = true) : forL still set body [] env st = .next env st := by
  unfold forL
  rw [if_pos h]
theorem for_cons (still : Sto → Bool) (set : D → Env → Option Env) (body : Env → Sto → Out) (x : D) (xs : List D) (env : Env) (st : Sto) (h : still st = true) :
    forL still set body (x :: xs) env st = optO (set x env) fun env1 => turnO (body env1 st) (fun env2 st2 => forL still set body xs env2 (gcE st st2 env2)) (fun env2 st2 => .next env2 (gcE st st2 env2)) := by
  rw [forL, if_pos h]
  cases set x env with
  | none => rfl
  | some env1 =>
    simp only [optO]
    cases body env1 st <;> rfl
/-! ### comprehensions of what changes nothing -/
theorem set_last {st : Sto} {o o' : O} : (st ++ [o]).set st.length o' = st ++ [o'] := by
  rw [List.set_append_right _ _ (Nat.le_refl _)]
  simp
theorem at_last {st : Sto} {o : O} : (st ++ [o])[st.length]? = some o := by simp
theorem compL_pure {still : Sto → Bool} {set : D → Option Env} {cond elt : Env → Sto → R D} {n : Nat} {st : Sto} (hn : n = st.length) (p : D → Bool) (f : D → D) :
    ∀ (xs acc : List D), (∀ acc : List D, still (st ++ [.lst acc]) = true) →
    (∀ x ∈ xs, ∃ env, set x = some env ∧ ∀ acc : List D, cond env (st ++ [.lst acc]) = .ok (.bl (p x)) (st ++ [.lst acc]) ∧
      (p x = true → (f x).und (st.length + 1) = true ∧ ∃ t, elt env (st ++ [.lst acc]) = .ok (f x) (st ++ [.lst acc] ++ t))) → acc.length + xs.length ≤ 1000000 →
    compL still set cond elt n xs (st ++ [.lst acc]) = .ok (.loc n) (st ++ [.lst (acc ++ (xs.filter p).map f)])
  | [], acc, hs, _, _ => by
    unfold compL
    rw [if_pos (hs acc)]
    simp
  | x :: xs, acc, hs, hx, hl => by
    subst hn
    obtain ⟨env, h1, h2⟩ := hx x (List.mem_cons_self ..)
    obtain ⟨h3, h4⟩ := h2 acc
    rw [compL, if_pos (hs acc)]
    simp only [h1, h3]
    cases hp : p x with
    | false =>
      simp only [gc_self]
      rw [compL_pure rfl p f xs acc hs (fun y hy => hx y (List.mem_cons_of_mem _ hy)) (by simp at hl; omega)]
      rw [List.filter_cons, hp]
      simp
    | true =>
      obtain ⟨h5, t, h6⟩ := h4 hp
      simp only [gc_self, h6]
      rw [gc_app _ _ (by simpa using h5)]
      simp only [at_last]
      rw [if_pos (by unfold lim; simp at hl; omega), set_last]
      rw [compL_pure rfl p f xs (acc ++ [f x]) hs (fun y hy => hx y (List.mem_cons_of_mem _ hy)) (by simp at hl ⊢; omega)]
      rw [List.filter_cons, hp]
      simp
theorem filter_all {α : Type} (l : List α) : l.filter (fun _ => true) = l := by simp
/-- without a condition -/
theorem compL_map {still : Sto → Bool} {set : D → Option Env} {cl : Nat → List D → Sto → R D} {elt : Env → Sto → R D} {n : Nat} {st : Sto} (hn : n = st.length) (f : D → D) (xs : List D) (hs : ∀ acc : List D, still (st ++ [.lst acc]) = true)
    (hx : ∀ x ∈ xs, ∃ env, set x = some env ∧ ∀ acc : List D, (f x).und (st.length + 1) = true ∧ ∃ t, elt env (st ++ [.lst acc]) = .ok (f x) (st ++ [.lst acc] ++ t)) (hl : xs.length ≤ 1000000) :
    compL still set (evE cl (.cst (.bl true))) elt n xs (st ++ [.lst []]) = .ok (.loc n) (st ++ [.lst (xs.map f)]) := by
  rw [compL_pure hn (fun _ => true) f xs [] hs (fun x hm => ?_) (by simpa using hl)]
  · rw [filter_all, List.nil_append]
  · obtain ⟨env, h1, h2⟩ := hx x hm
    exact ⟨env, h1, fun acc => ⟨by rw [x_cst], fun _ => h2 acc⟩⟩
theorem comp_at {still : Sto → Bool} {set : D → Option Env} {cl : Nat → List D → Sto → R D} {elt : Env → Sto → R D} {n : Nat} {s0 : Sto} (st : Sto) (f : D → D) (xs : List D) (hn : n = st.length) (h0 : s0 = st ++ [.lst []]) (hs : ∀ s : Sto, still s = true)
    (hx : ∀ x ∈ xs, ∃ env, set x = some env ∧ ∀ s : Sto, (f x).und (st.length + 1) = true ∧ ∃ t, elt env s = .ok (f x) (s ++ t)) (hl : xs.length ≤ 1000000) :
    compL still set (evE cl (.cst (.bl true))) elt n xs s0 = .ok (.loc n) (st ++ [.lst (xs.map f)]) := by
  rw [h0]
  exact compL_map hn f xs (fun acc => hs _) (fun x hm => by
    obtain ⟨env, h1, h2⟩ := hx x hm
    exact ⟨env, h1, fun acc => h2 _⟩) hl
theorem lstAt_last {st : Sto} {xs : List D} : lstAt (st ++ [.lst xs]) st.length = some xs := by unfold lstAt; rw [at_last]
theorem toB_map {α : Type} (q : α → Bool) : ∀ l : List α, optAll toB (l.map fun x => .bl (q x)) = some (l.map q)
  | [] => rfl
  | x :: l => by simp [optAll, toB, toB_map q l]
theorem toI_map {α : Type} (q : α → Int) : ∀ l : List α, optAll toI (l.map fun x => .int (q x)) = some (l.map q)
  | [] => rfl
  | x :: l => by simp [optAll, toI, toI_map q l]
theorem ints_map {α β : Type} (f : α → β) (q : List α) : q.map f = q.map fun x => f x := rfl
/-- garbage that may stay -/
theorem gc_ex (st t : Sto) (d : D) : ∃ t', gc st (st ++ t) d = st ++ t' ∧ ∀ n, d = .loc n → (st ++ t')[n]? = (st ++ t)[n]? := by
  unfold gc
  split
  · rename_i h
    refine ⟨[], by simp, fun n e => ?_⟩
    subst e
    simp only [D.und, Bool.and_eq_true] at h
    have := Nat.blt_eq.mp h.1
    simp [List.getElem?_append_left this]
  · exact ⟨t, rfl, fun _ _ => rfl⟩
theorem envUnd_loc {n m : Nat} : ∀ {env : Env} {i : Nat}, envUnd n env = true → env[i]? = some (some (.loc m)) → m < n
  | [], _, _, h => by cases h
  | none :: r, 0, _, h => by cases h
  | none :: r, i + 1, u, h => envUnd_loc (env := r) (i := i) u h
  | some d :: r, 0, u, h => by
    cases h
    simp only [envUnd, D.und, Bool.and_eq_true] at u
    exact Nat.blt_eq.mp u.1
  | some d :: r, i + 1, u, h => by
    simp only [envUnd, Bool.and_eq_true] at u
    exact envUnd_loc (env := r) (i := i) u.2 h
theorem gcE_ex (st t : Sto) (env : Env) : ∃ t', gcE st (st ++ t) env = st ++ t' ∧ ∀ i n : Nat, env[i]? = some (some (.loc n)) → (st ++ t')[n]? = (st ++ t)[n]? := by
  unfold gcE
  split
  · rename_i h
    simp only [Bool.and_eq_true] at h
    refine ⟨[], by simp, fun i n e => ?_⟩
    have := envUnd_loc h.1 e
    simp [List.getElem?_append_left this]
  · exact ⟨t, rfl, fun _ _ _ => rfl⟩
end MP
/-! ## LwD -/
set_option Elab.async false
set_option linter.all false
set_option autoImplicit false
set_option maxRecDepth 100000
set_option maxHeartbeats 4000000
namespace Lw
open PySem PySem.Spec PyProof.Rows L2 MP
def top (i : Nat) : Stmt := PySem.Challenge.pw_merelylate_k01_whole_mills.main.body.getD i (.Pass ⟨0, 0, 0, 0⟩)
/-- is_within -/
def d0 : Df := ⟨"is_within", top 6, ["value", "low", "high"], ["value", "low", "high"], [], [
  (.ret (.and (.isi (.var 0) [.int]) (.and (.b1 .lnot (.isi (.var 0) [.bool])) (.chain .le .le (.var 1) (.var 0) (.var 2)))))]⟩
/-- is_tuple -/
def d1 : Df := ⟨"is_tuple", top 7, ["value", "low", "high"], ["value", "low", "high"], [], [
  (.ret (.and (.isi (.var 0) [.tuple]) (.chain .le .le (.var 1) (.b1 .len (.var 0)) (.var 2))))]⟩
/-- is_term -/
def d2 : Df := ⟨"is_term", top 14, ["value", "names", "deep", "kind", "part"], ["value", "names", "deep"], [.int 5], [
  (.ife (.b2 .eq (.var 2) (.cst (.int 0))) [(.ret (.cst (.bl false)))] []),
  (.ife (.or (.b1 .lnot (.b1 .truth (.call 1 [(.var 0), (.cst (.int 2)), (.cst (.int 4))] []))) (.b1 .lnot (.b1 .truth (.isi (.idx (.var 0) (.cst (.int 0))) [.str])))) [(.ret (.cst (.bl false)))] []),
  (.asg 3 (.idx (.var 0) (.cst (.int 0)))),
  (.ife (.gin [("plus", 2), ("times", 2), ("same", 2), ("less", 2), ("pick", 3)] (.var 3)) [(.ife (.b2 .ne (.b1 .len (.var 0)) (.b2 .add (.gget [("plus", 2), ("times", 2), ("same", 2), ("less", 2), ("pick", 3)] (.var 3)) (.cst (.int 1)))) [(.ret (.cst (.bl false)))] []), (.ret (.b1 .all (.comp [4] [4] true 0 (.slc (.var 0) (.b1 .asI (.cst (.int 1))) (.cst .non)) (.cst .non) (.cst (.bl true)) (.call 2 [(.var 4), (.var 1), (.b2 .sub (.var 2) (.cst (.int 1)))] []))))] []),
  (.ife (.b2 .eq (.var 3) (.cst (.str "rest"))) [(.ret (.and (.b2 .eq (.b1 .len (.var 0)) (.cst (.int 3))) (.and (.call 2 [(.idx (.var 0) (.cst (.int 1))), (.var 1), (.b2 .sub (.var 2) (.cst (.int 1)))] []) (.call 0 [(.idx (.var 0) (.cst (.int 2))), (.cst (.int 1)), (.cst (.int 9))] []))))] []),
  (.ret (.call 3 [(.var 0), (.var 1)] []))]⟩
/-- is_single -/
def d3 : Df := ⟨"is_single", top 15, ["value", "names"], ["value", "names"], [], [
  (.ife (.b2 .eq (.idx (.var 0) (.cst (.int 0))) (.cst (.str "of"))) [(.ret (.and (.b2 .eq (.b1 .len (.var 0)) (.cst (.int 3))) (.and (.call 0 [(.idx (.var 0) (.cst (.int 1))), (.cst (.int 0)), (.b2 .sub (.var 1) (.cst (.int 1)))] []) (.call 4 [(.idx (.var 0) (.cst (.int 2)))] []))))] []),
  (.ife (.b2 .eq (.idx (.var 0) (.cst (.int 0))) (.cst (.str "in"))) [(.ret (.and (.b2 .eq (.b1 .len (.var 0)) (.cst (.int 2))) (.call 4 [(.idx (.var 0) (.cst (.int 1)))] [])))] []),
  (.ret (.and (.b2 .eq (.idx (.var 0) (.cst (.int 0))) (.cst (.str "is"))) (.and (.b2 .eq (.b1 .len (.var 0)) (.cst (.int 2))) (.call 0 [(.idx (.var 0) (.cst (.int 1))), (.cst (.int 0)), (.cst (.int 9))] []))))]⟩
/-- is_offset -/
def d4 : Df := ⟨"is_offset", top 16, ["value"], ["value"], [], [
  (.ret (.call 0 [(.var 0), (.b1 .neg (.cst (.int 2))), (.cst (.int 2))] []))]⟩
/-- are_equations -/
def d5 : Df := ⟨"are_equations", top 17, ["value", "names", "pair"], ["value", "names"], [], [
  (.ife (.b1 .lnot (.b1 .truth (.call 1 [(.var 0), (.cst (.int 0)), (.cst (.int 6))] []))) [(.ret (.cst (.bl false)))] []),
  (.ret (.b1 .all (.comp [2] [2] true 0 (.var 0) (.cst .non) (.cst (.bl true)) (.call 6 [(.var 2), (.var 1)] []))))]⟩
/-- is_equation -/
def d6 : Df := ⟨"is_equation", top 18, ["value", "names", "side"], ["value", "names"], [], [
  (.ret (.and (.call 1 [(.var 0), (.cst (.int 2)), (.cst (.int 2))] []) (.b1 .all (.comp [2] [2] true 0 (.var 0) (.cst .non) (.cst (.bl true)) (.call 2 [(.var 2), (.var 1)] [.int 5])))))]⟩
/-- offsets -/
def d7 : Df := ⟨"offsets", top 19, ["term", "kind", "inner", "found", "part"], ["term"], [], [
  (.asg 1 (.idx (.var 0) (.cst (.int 0)))),
  (.ife (.or (.b2 .eq (.var 1) (.cst (.str "in"))) (.b2 .eq (.var 1) (.cst (.str "of")))) [(.ret (.lst [(.idx (.var 0) (.b1 .neg (.cst (.int 1))))]))] []),
  (.ife (.b2 .eq (.var 1) (.cst (.str "is"))) [(.ret (.lst []))] []),
  (.asg 2 (.ite (.b2 .eq (.var 1) (.cst (.str "rest"))) (.slc (.var 0) (.b1 .asI (.cst (.int 1))) (.b1 .asI (.cst (.int 2)))) (.slc (.var 0) (.b1 .asI (.cst (.int 1))) (.cst .non)))),
  (.asg 3 (.lst [])),
  (.for [4] true 0 (.var 2) (.cst .non) [(.ext (.var 3) (.call 7 [(.var 4)] []))]),
  (.ret (.var 3))]⟩
/-- looks -/
def d8 : Df := ⟨"looks", top 20, ["equations", "back", "ahead", "pair", "offset"], ["equations"], [], [
  (.asg 1 (.cst (.int 0))),
  (.asg 2 (.cst (.int 0))),
  (.for [3] true 0 (.var 0) (.cst .non) [(.for [4] true 0 (.b2 .add (.call 7 [(.idx (.var 3) (.cst (.int 0)))] []) (.call 7 [(.idx (.var 3) (.cst (.int 1)))] [])) (.cst .non) [(.asg 1 (.b2 .mx (.var 1) (.b1 .neg (.var 4)))), (.asg 2 (.b2 .mx (.var 2) (.var 4)))])]),
  (.ret (.tup [(.var 1), (.var 2)]))]⟩
/-- worth -/
def d9 : Df := ⟨"worth", top 21, ["term", "columns", "at", "kind", "first", "chosen"], ["term", "columns", "at"], [], [
  (.asg 3 (.idx (.var 0) (.cst (.int 0)))),
  (.ife (.b2 .eq (.var 3) (.cst (.str "of"))) [(.ret (.idx (.idx (.var 1) (.b2 .add (.var 2) (.idx (.var 0) (.cst (.int 2))))) (.b2 .add (.idx (.var 0) (.cst (.int 1))) (.cst (.int 1)))))] []),
  (.ife (.b2 .eq (.var 3) (.cst (.str "in"))) [(.ret (.idx (.idx (.var 1) (.b2 .add (.var 2) (.idx (.var 0) (.cst (.int 1))))) (.cst (.int 0))))] []),
  (.ife (.b2 .eq (.var 3) (.cst (.str "is"))) [(.ret (.idx (.var 0) (.cst (.int 1))))] []),
  (.asg 4 (.call 9 [(.idx (.var 0) (.cst (.int 1))), (.var 1), (.var 2)] [])),
  (.ife (.b2 .eq (.var 3) (.cst (.str "rest"))) [(.ret (.b2 .mod (.var 4) (.idx (.var 0) (.cst (.int 2)))))] []),
  (.ife (.b2 .eq (.var 3) (.cst (.str "pick"))) [(.asg 5 (.ite (.b2 .ne (.var 4) (.cst (.int 0))) (.idx (.var 0) (.cst (.int 2))) (.idx (.var 0) (.cst (.int 3))))), (.ret (.call 9 [(.var 5), (.var 1), (.var 2)] []))] []),
  (.ret (.call 10 [(.var 3), (.var 4), (.call 9 [(.idx (.var 0) (.cst (.int 2))), (.var 1), (.var 2)] [])] []))]⟩
/-- worth_of_two -/
def d10 : Df := ⟨"worth_of_two", top 22, ["kind", "first", "second"], ["kind", "first", "second"], [], [
  (.ife (.b2 .eq (.var 0) (.cst (.str "plus"))) [(.ret (.b2 .add (.var 1) (.var 2)))] []),
  (.ife (.b2 .eq (.var 0) (.cst (.str "times"))) [(.ret (.b2 .mul (.var 1) (.var 2)))] []),
  (.ife (.b2 .eq (.var 0) (.cst (.str "same"))) [(.ret (.b1 .int (.b2 .eq (.var 1) (.var 2))))] []),
  (.ret (.b1 .int (.b2 .lt (.var 1) (.var 2))))]⟩
/-- all_hold -/
def d11 : Df := ⟨"all_hold", top 24, ["equations", "columns", "at"], ["equations", "columns", "at"], [], [
  (.ret (.b1 .isN (.call 42 [(.var 0), (.var 1), (.var 2)] [])))]⟩
/-- check_mill -/
def d12 : Df := ⟨"check_mill", top 30, ["mill", "part"], ["mill"], [], [
  (.asg 1 (.call 13 [(.var 0)] [])),
  (.ife (.b1 .notN (.var 1)) [.never] [])]⟩
/-- wrong_part -/
def d13 : Df := ⟨"wrong_part", top 31, ["mill", "letters", "names", "told", "equations"], ["mill"], [], [
  (.ife (.b1 .lnot (.b1 .truth (.call 1 [(.var 0), (.cst (.int 4)), (.cst (.int 4))] []))) [(.ret (.cst (.str "mill")))] []),
  (.asgT [1, 2, 3, 4] (.var 0)),
  (.ife (.b1 .lnot (.b1 .truth (.call 0 [(.var 1), (.cst (.int 1)), (.cst (.int 3))] []))) [(.ret (.cst (.str "letters")))] []),
  (.ife (.b1 .lnot (.b1 .truth (.call 14 [(.var 2)] []))) [(.ret (.cst (.str "names")))] []),
  (.ife (.b1 .lnot (.b1 .truth (.call 16 [(.var 3), (.b1 .len (.var 2))] []))) [(.ret (.cst (.str "told")))] []),
  (.ife (.b1 .lnot (.b1 .truth (.call 5 [(.var 4), (.b1 .len (.var 2))] []))) [(.ret (.cst (.str "equations")))] []),
  (.ret (.cst (.non)))]⟩
/-- are_names -/
def d14 : Df := ⟨"are_names", top 32, ["value", "pair"], ["value"], [], [
  (.ret (.and (.call 1 [(.var 0), (.cst (.int 1)), (.cst (.int 3))] []) (.b1 .all (.comp [1] [1] true 0 (.var 0) (.cst .non) (.cst (.bl true)) (.call 15 [(.var 1)] [])))))]⟩
/-- is_name -/
def d15 : Df := ⟨"is_name", top 33, ["value"], ["value"], [], [
  (.ret (.and (.call 1 [(.var 0), (.cst (.int 2)), (.cst (.int 2))] []) (.and (.call 0 [(.idx (.var 0) (.cst (.int 0))), (.cst (.int 2)), (.cst (.int 3))] []) (.call 0 [(.idx (.var 0) (.cst (.int 1))), (.cst (.int 0)), (.b2 .sub (.idx (.var 0) (.cst (.int 0))) (.cst (.int 1)))] []))))]⟩
/-- are_told -/
def d16 : Df := ⟨"are_told", top 34, ["value", "names"], ["value", "names"], [], [
  (.ret (.and (.call 44 [(.var 0), (.var 1)] []) (.b2 .gt (.b1 .len (.var 0)) (.cst (.int 0)))))]⟩
/-- is_letter -/
def d17 : Df := ⟨"is_letter", top 36, ["mill", "value"], ["mill", "value"], [], [
  (.ret (.call 0 [(.var 1), (.cst (.int 0)), (.b2 .sub (.idx (.var 0) (.cst (.int 0))) (.cst (.int 1)))] []))]⟩
/-- is_column -/
def d18 : Df := ⟨"is_column", top 37, ["mill", "value", "names", "name", "one"], ["mill", "value"], [], [
  (.asg 2 (.idx (.var 0) (.cst (.int 1)))),
  (.ife (.or (.b1 .lnot (.b1 .truth (.call 1 [(.var 1), (.b2 .add (.b1 .len (.var 2)) (.cst (.int 1))), (.b2 .add (.b1 .len (.var 2)) (.cst (.int 1)))] []))) (.b1 .lnot (.b1 .truth (.call 17 [(.var 0), (.idx (.var 1) (.cst (.int 0)))] [])))) [(.ret (.cst (.bl false)))] []),
  (.ret (.b1 .all (.comp [3, 4] [3, 4] false 3 (.var 2) (.slc (.var 1) (.b1 .asI (.cst (.int 1))) (.cst .non)) (.cst (.bl true)) (.call 0 [(.var 4), (.cst (.int 0)), (.b2 .sub (.idx (.var 3) (.cst (.int 0))) (.cst (.int 1)))] []))))]⟩
/-- are_columns -/
def d19 : Df := ⟨"are_columns", top 38, ["mill", "value", "column"], ["mill", "value"], [], [
  (.ret (.and (.call 1 [(.var 1), (.cst (.int 0)), (.cst (.int 200))] []) (.b1 .all (.comp [2] [2] true 0 (.var 1) (.cst .non) (.cst (.bl true)) (.call 18 [(.var 0), (.var 2)] [])))))]⟩
/-- is_looping_pair -/
def d20 : Df := ⟨"is_looping_pair", top 39, ["mill", "value", "stem", "loop"], ["mill", "value"], [], [
  (.ife (.b1 .lnot (.b1 .truth (.call 1 [(.var 1), (.cst (.int 2)), (.cst (.int 2))] []))) [(.ret (.cst (.bl false)))] []),
  (.asgT [2, 3] (.var 1)),
  (.ife (.or (.b1 .lnot (.b1 .truth (.call 19 [(.var 0), (.var 2)] []))) (.b1 .lnot (.b1 .truth (.call 19 [(.var 0), (.var 3)] [])))) [(.ret (.cst (.bl false)))] []),
  (.ret (.and (.b2 .gt (.b1 .len (.var 3)) (.cst (.int 0))) (.b2 .le (.b2 .add (.b1 .len (.var 2)) (.b1 .len (.var 3))) (.cst (.int 200)))))]⟩
/-- check_columns -/
def d21 : Df := ⟨"check_columns", top 40, ["mill", "columns", "index", "column"], ["mill", "columns"], [], [
  (.ife (.b1 .lnot (.b1 .truth (.call 1 [(.var 1), (.cst (.int 0)), (.cst (.int 200))] []))) [.never] []),
  (.for [2, 3] false 4 (.var 1) (.cst .non) [(.ife (.b1 .lnot (.b1 .truth (.call 18 [(.var 0), (.var 3)] []))) [.never] [])])]⟩
/-- reach -/
def d22 : Df := ⟨"reach", top 42, ["mill"], ["mill"], [], [
  (.expr (.call 12 [(.var 0)] [])),
  (.ret (.call 8 [(.idx (.var 0) (.cst (.int 3)))] []))]⟩
/-- holds -/
def d23 : Df := ⟨"holds", top 43, ["mill", "columns", "tick"], ["mill", "columns", "tick"], [], [
  (.expr (.call 12 [(.var 0)] [])),
  (.expr (.call 21 [(.var 0), (.var 1)] [])),
  (.expr (.call 45 [(.var 0), (.var 1), (.var 2)] [])),
  (.ret (.call 11 [(.idx (.var 0) (.cst (.int 3))), (.call 46 [(.var 0), (.var 1)] []), (.b2 .add (.var 2) (.idx (.call 8 [(.idx (.var 0) (.cst (.int 3)))] []) (.cst (.int 0))))] []))]⟩
/-- tells -/
def d24 : Df := ⟨"tells", top 45, ["mill", "columns", "column"], ["mill", "columns"], [], [
  (.expr (.call 12 [(.var 0)] [])),
  (.expr (.call 21 [(.var 0), (.var 1)] [])),
  (.ret (.b1 .tuple (.comp [2] [2] true 0 (.var 1) (.cst .non) (.cst (.bl true)) (.call 28 [(.var 0), (.var 2)] []))))]⟩
/-- is_history -/
def d25 : Df := ⟨"is_history", top 46, ["mill", "value", "stem", "loop", "back", "ahead", "ticks", "columns", "tick"], ["mill", "value"], [], [
  (.expr (.call 12 [(.var 0)] [])),
  (.ife (.b1 .lnot (.b1 .truth (.call 20 [(.var 0), (.var 1)] []))) [(.ret (.cst (.bl false)))] []),
  (.asgT [2, 3] (.var 1)),
  (.asgT [4, 5] (.call 8 [(.idx (.var 0) (.cst (.int 3)))] [])),
  (.asg 6 (.b2 .add (.b2 .add (.b1 .len (.var 2)) (.var 4)) (.b1 .len (.var 3)))),
  (.asg 7 (.call 46 [(.var 0), (.call 29 [(.var 2), (.var 3), (.b2 .add (.var 6) (.var 5))] [])] [])),
  (.for [8] true 1 (.var 6) (.cst .non) [(.ife (.b1 .lnot (.b1 .truth (.call 11 [(.idx (.var 0) (.cst (.int 3))), (.var 7), (.b2 .add (.var 8) (.var 4))] []))) [(.ret (.cst (.bl false)))] [])]),
  (.ret (.cst (.bl true)))]⟩
/-- column_before -/
def d26 : Df := ⟨"column_before", top 47, ["mill", "name"], ["mill"], [], [
  (.ret (.b2 .add (.tup [(.cst (.int 0))]) (.b1 .tuple (.comp [1] [1] true 0 (.idx (.var 0) (.cst (.int 1))) (.cst .non) (.cst (.bl true)) (.idx (.var 1) (.cst (.int 1)))))))]⟩
/-- before_tick_0 -/
def d27 : Df := ⟨"before_tick_0", top 48, ["mill", "many"], ["mill", "many"], [], [
  (.ret (.b2 .mul (.tup [(.call 26 [(.var 0)] [])]) (.var 1)))]⟩
/-- told_by -/
def d28 : Df := ⟨"told_by", top 50, ["mill", "column", "name"], ["mill", "column"], [], [
  (.ret (.b1 .tuple (.comp [2] [2] true 0 (.idx (.var 0) (.cst (.int 2))) (.cst .non) (.cst (.bl true)) (.idx (.var 1) (.b2 .add (.var 2) (.cst (.int 1)))))))]⟩
/-- unrolled -/
def d29 : Df := ⟨"unrolled", top 51, ["stem", "loop", "many", "turns"], ["stem", "loop", "many"], [], [
  (.asg 3 (.b2 .add (.b2 .fdiv (.var 2) (.b1 .len (.var 1))) (.cst (.int 1)))),
  (.ret (.slc (.b2 .add (.var 0) (.b2 .mul (.var 1) (.var 3))) (.cst .non) (.b1 .asI (.var 2))))]⟩
/-- _law_taken -/
def d30 : Df := ⟨"_law_taken", top 53, ["row", "many", "found", "cell"], ["row", "many"], [], [
  (.ife (.b2 .gt (.idx (.var 0) (.cst (.int 3))) (.cst (.int 0))) [(.asg 2 (.b2 .mod (.b1 .int (.idx (.var 0) (.cst (.int 3)))) (.var 1))), (.sub (.var 0) (.cst (.int 3)) (.b2 .fdiv (.idx (.var 0) (.cst (.int 3))) (.var 1))), (.ret (.var 2))] []),
  (.sub (.var 0) (.cst (.int 1)) (.b2 .add (.idx (.var 0) (.cst (.int 1))) (.cst (.int 1)))),
  (.ife (.b2 .gt (.idx (.var 0) (.cst (.int 1))) (.b1 .len (.idx (.var 0) (.cst (.int 0))))) [(.sub (.var 0) (.cst (.int 2)) (.b2 .mod (.b1 .int (.b2 .add (.b2 .mul (.idx (.var 0) (.cst (.int 2))) (.cst (.int 48271))) (.cst (.int 11)))) (.cst (.int 2147483647)))), (.ret (.b2 .mod (.b1 .int (.b2 .fdiv (.idx (.var 0) (.cst (.int 2))) (.cst (.int 7)))) (.var 1)))] []),
  (.asg 3 (.idx (.idx (.var 0) (.cst (.int 0))) (.b2 .sub (.idx (.var 0) (.cst (.int 1))) (.cst (.int 1))))),
  (.sub (.var 0) (.cst (.int 2)) (.b2 .mod (.b1 .int (.b2 .add (.b2 .add (.b2 .mul (.idx (.var 0) (.cst (.int 2))) (.cst (.int 48271))) (.var 3)) (.cst (.int 11)))) (.cst (.int 2147483647)))),
  (.ife (.b2 .ge (.var 3) (.b2 .pow (.cst (.int 10)) (.cst (.int 18)))) [(.sub (.var 0) (.cst (.int 3)) (.b2 .fdiv (.var 3) (.var 1)))] []),
  (.ret (.b2 .mod (.b1 .int (.var 3)) (.var 1)))]⟩
/-- _law_pick -/
def d31 : Df := ⟨"_law_pick", top 54, ["row", "things"], ["row", "things"], [], [
  (.ret (.idx (.var 1) (.call 30 [(.var 0), (.b1 .len (.var 1))] [])))]⟩
/-- _law_term -/
def d32 : Df := ⟨"_law_term", top 55, ["row", "names", "deep", "way", "parts", "part", "word"], ["row", "names", "deep"], [], [
  (.asg 3 (.call 30 [(.var 0), (.ite (.b2 .gt (.var 2) (.cst (.int 1))) (.cst (.int 9)) (.cst (.int 3)))] [])),
  (.ife (.b2 .eq (.var 3) (.cst (.int 0))) [(.ret (.tup [(.cst (.str "in")), (.call 31 [(.var 0), (.lst [(.cst (.int 0)), (.cst (.int 0)), (.cst (.int 1)), (.b2 .sub (.cst (.int 0)) (.cst (.int 1))), (.cst (.int 1)), (.cst (.int 2))])] [])]))] []),
  (.ife (.b2 .lt (.var 3) (.cst (.int 3))) [(.ret (.tup [(.cst (.str "of")), (.call 30 [(.var 0), (.var 1)] []), (.call 31 [(.var 0), (.lst [(.cst (.int 0)), (.cst (.int 0)), (.cst (.int 1)), (.cst (.int 1)), (.b2 .sub (.cst (.int 0)) (.cst (.int 1))), (.b2 .sub (.cst (.int 0)) (.cst (.int 1)))])] [])]))] []),
  (.ife (.b2 .eq (.var 3) (.cst (.int 3))) [(.ret (.tup [(.cst (.str "is")), (.call 30 [(.var 0), (.cst (.int 3))] [])]))] []),
  (.ife (.b2 .eq (.var 3) (.cst (.int 4))) [(.ret (.tup [(.cst (.str "rest")), (.call 32 [(.var 0), (.var 1), (.b2 .sub (.var 2) (.cst (.int 1)))] []), (.b2 .add (.cst (.int 2)) (.call 30 [(.var 0), (.cst (.int 2))] []))]))] []),
  (.ife (.b2 .eq (.var 3) (.cst (.int 5))) [(.asg 4 (.comp [5] [5] true 1 (.cst (.int 3)) (.cst .non) (.cst (.bl true)) (.call 32 [(.var 0), (.var 1), (.b2 .sub (.var 2) (.cst (.int 1)))] []))), (.ret (.tup [(.cst (.str "pick")), (.idx (.var 4) (.cst (.int 0))), (.idx (.var 4) (.cst (.int 1))), (.idx (.var 4) (.cst (.int 2)))]))] []),
  (.asg 6 (.call 31 [(.var 0), (.lst [(.cst (.str "plus")), (.cst (.str "times")), (.cst (.str "same")), (.cst (.str "less")), (.cst (.str "plus")), (.cst (.str "same"))])] [])),
  (.ret (.tup [(.var 6), (.call 32 [(.var 0), (.var 1), (.b2 .sub (.var 2) (.cst (.int 1)))] []), (.call 32 [(.var 0), (.var 1), (.b2 .sub (.var 2) (.cst (.int 1)))] [])]))]⟩
/-- _law_mill -/
def d33 : Df := ⟨"_law_mill", top 56, ["row", "letters", "many", "names", "name", "told", "equations", "way", "values"], ["row"], [], [
  (.par 1 2 (.b2 .add (.cst (.int 1)) (.call 30 [(.var 0), (.cst (.int 3))] [])) (.b2 .add (.cst (.int 1)) (.call 30 [(.var 0), (.cst (.int 2))] []))),
  (.asg 3 (.b1 .tuple (.comp [4] [4] true 1 (.var 2) (.cst .non) (.cst (.bl true)) (.tup [(.cst (.int 2)), (.call 30 [(.var 0), (.cst (.int 2))] [])])))),
  (.ife (.and (.b2 .eq (.var 2) (.cst (.int 1))) (.b2 .eq (.call 30 [(.var 0), (.cst (.int 4))] []) (.cst (.int 0)))) [(.asg 3 (.tup [(.tup [(.cst (.int 3)), (.call 30 [(.var 0), (.cst (.int 3))] [])])]))] []),
  (.asg 5 (.ite (.b2 .eq (.call 30 [(.var 0), (.cst (.int 2))] []) (.cst (.int 0))) (.rg false 1 (.var 2) (.cst .non)) (.tup [(.call 30 [(.var 0), (.var 2)] [])]))),
  (.asg 6 (.lst [])),
  (.for [4] true 1 (.var 2) (.cst .non) [(.asg 7 (.call 30 [(.var 0), (.cst (.int 6))] [])), (.asg 8 (.idx (.idx (.var 3) (.var 4)) (.cst (.int 0)))), (.ife (.b2 .gt (.var 7) (.cst (.int 0))) [(.app (.var 6) (.tup [(.tup [(.cst (.str "of")), (.var 4), (.cst (.int 0))]), (.tup [(.cst (.str "rest")), (.call 32 [(.var 0), (.var 2), (.cst (.int 3))] []), (.var 8)])]))] [])]),
  (.ife (.b2 .eq (.call 30 [(.var 0), (.cst (.int 4))] []) (.cst (.int 0))) [(.app (.var 6) (.tup [(.call 32 [(.var 0), (.var 2), (.cst (.int 2))] []), (.call 32 [(.var 0), (.var 2), (.cst (.int 2))] [])]))] []),
  (.ret (.tup [(.var 1), (.var 3), (.var 5), (.b1 .tuple (.var 6))]))]⟩
/-- _law_offsets -/
def d34 : Df := ⟨"_law_offsets", top 57, ["term", "found", "part"], ["term"], [], [
  (.ife (.b2 .inn (.idx (.var 0) (.cst (.int 0))) (.lst [(.cst (.str "in")), (.cst (.str "of"))])) [(.ret (.lst [(.idx (.var 0) (.b1 .neg (.cst (.int 1))))]))] []),
  (.asg 1 (.lst [])),
  (.for [2] true 0 (.slc (.var 0) (.b1 .asI (.cst (.int 1))) (.cst .non)) (.cst .non) [(.asg 1 (.b2 .add (.var 1) (.ite (.b1 .truth (.isi (.var 2) [.tuple])) (.call 34 [(.var 2)] []) (.lst []))))]),
  (.ret (.var 1))]⟩
/-- _law_reach -/
def d35 : Df := ⟨"_law_reach", top 58, ["mill", "found", "one", "other"], ["mill"], [], [
  (.asg 1 (.lst [(.cst (.int 0))])),
  (.for [2, 3] false 0 (.idx (.var 0) (.cst (.int 3))) (.cst .non) [(.asg 1 (.b2 .add (.b2 .add (.var 1) (.call 34 [(.var 2)] [])) (.call 34 [(.var 3)] [])))]),
  (.ret (.tup [(.b2 .sub (.cst (.int 0)) (.b1 .mnl (.var 1))), (.b1 .mxl (.var 1))]))]⟩
/-- _law_alike -/
def d36 : Df := ⟨"_law_alike", top 59, ["found", "due", "k"], ["found", "due"], [], [
  (.ife (.b1 .truth (.isi (.var 1) [.tuple, .list])) [(.ife (.or (.b1 .lnot (.b1 .truth (.isi (.var 0) [.tuple, .list]))) (.b2 .ne (.isi (.var 0) [.list]) (.isi (.var 1) [.list]))) [(.ret (.cst (.bl false)))] []), (.ife (.b2 .ne (.b1 .len (.var 0)) (.b1 .len (.var 1))) [(.ret (.cst (.bl false)))] []), (.ret (.b2 .eq (.comp [2] [2] true 1 (.b1 .len (.var 1)) (.cst .non) (.b1 .lnot (.b1 .truth (.call 36 [(.idx (.var 0) (.var 2)), (.idx (.var 1) (.var 2))] []))) (.var 2)) (.lst [])))] []),
  (.ife (.or (.b1 .isN (.var 1)) (.b1 .truth (.isi (.var 1) [.str]))) [(.ret (.and (.b2 .eq (.var 0) (.var 1)) (.b2 .eq (.isi (.var 0) [.str]) (.isi (.var 1) [.str]))))] []),
  (.ret (.and (.isi (.var 0) [.int]) (.and (.b2 .eq (.isi (.var 0) [.bool]) (.isi (.var 1) [.bool])) (.b2 .eq (.var 0) (.var 1)))))]⟩
/-- _law_columns -/
def d37 : Df := ⟨"_law_columns", top 60, ["mill", "letter", "found", "values", "first", "longer", "one", "value"], ["mill", "letter"], [], [
  (.asg 2 (.lst [(.tup [(.var 1)])])),
  (.for [3, 4] false 0 (.idx (.var 0) (.cst (.int 1))) (.cst .non) [(.asg 5 (.lst [])), (.for [6] true 0 (.var 2) (.cst .non) [(.asg 5 (.b2 .add (.var 5) (.comp [7] [7] true 1 (.var 3) (.cst .non) (.cst (.bl true)) (.b2 .add (.var 6) (.tup [(.var 7)])))))]), (.asg 2 (.var 5))]),
  (.ret (.var 2))]⟩
/-- _law_worth -/
def d38 : Df := ⟨"_law_worth", top 61, ["mill", "term", "columns", "tick", "word", "place", "column", "values", "first", "one", "other", "found"], ["mill", "term", "columns", "tick"], [], [
  (.asg 4 (.idx (.var 1) (.cst (.int 0)))),
  (.ife (.b2 .inn (.var 4) (.lst [(.cst (.str "in")), (.cst (.str "of"))])) [(.asg 5 (.b2 .add (.var 3) (.idx (.var 1) (.b1 .neg (.cst (.int 1)))))), (.asg 6 (.ite (.b2 .ge (.var 5) (.cst (.int 0))) (.idx (.var 2) (.var 5)) (.b2 .add (.tup [(.cst (.int 0))]) (.b1 .tuple (.comp [7, 8] [7, 8] false 0 (.idx (.var 0) (.cst (.int 1))) (.cst .non) (.cst (.bl true)) (.var 8)))))), (.ret (.ite (.b2 .eq (.var 4) (.cst (.str "in"))) (.idx (.var 6) (.cst (.int 0))) (.idx (.var 6) (.b2 .add (.cst (.int 1)) (.idx (.var 1) (.cst (.int 1)))))))] []),
  (.ife (.b2 .eq (.var 4) (.cst (.str "is"))) [(.ret (.idx (.var 1) (.cst (.int 1))))] []),
  (.asg 9 (.call 38 [(.var 0), (.idx (.var 1) (.cst (.int 1))), (.var 2), (.var 3)] [])),
  (.ife (.b2 .eq (.var 4) (.cst (.str "rest"))) [(.ret (.b2 .mod (.var 9) (.b1 .int (.idx (.var 1) (.cst (.int 2))))))] []),
  (.ife (.b2 .eq (.var 4) (.cst (.str "pick"))) [(.ret (.call 38 [(.var 0), (.ite (.b2 .ne (.var 9) (.cst (.int 0))) (.idx (.var 1) (.cst (.int 2))) (.idx (.var 1) (.cst (.int 3)))), (.var 2), (.var 3)] []))] []),
  (.asg 10 (.call 38 [(.var 0), (.idx (.var 1) (.cst (.int 2))), (.var 2), (.var 3)] [])),
  (.asg 11 (.dct ["plus", "times", "same", "less"] [(.b2 .add (.var 9) (.var 10)), (.b2 .mul (.var 9) (.var 10)), (.b1 .int (.b2 .eq (.var 9) (.var 10))), (.b1 .int (.b2 .lt (.var 9) (.var 10)))])),
  (.ret (.idx (.var 11) (.var 4)))]⟩
/-- _law_holds -/
def d39 : Df := ⟨"_law_holds", top 62, ["mill", "columns", "tick", "one", "other"], ["mill", "columns", "tick"], [], [
  (.for [3, 4] false 0 (.idx (.var 0) (.cst (.int 3))) (.cst .non) [(.ife (.b2 .ne (.call 38 [(.var 0), (.var 3), (.var 1), (.var 2)] []) (.call 38 [(.var 0), (.var 4), (.var 1), (.var 2)] [])) [(.ret (.cst (.bl false)))] [])]),
  (.ret (.cst (.bl true)))]⟩
/-- law -/
def d40 : Df := ⟨"law", top 63, ["script", "row", "mill", "back", "ahead", "every", "letter", "turn", "columns", "tick", "due", "name", "column", "stem", "loop", "whole", "good", "odd"], ["script"], [], [
  (.asg 1 (.lst [(.var 0), (.cst (.int 0)), (.cst (.int 4001)), (.cst (.int 0))])),
  (.asg 2 (.call 33 [(.var 1)] [])),
  (.asgT [3, 4] (.call 35 [(.var 2)] [])),
  (.ife (.b1 .lnot (.b1 .truth (.call 36 [(.call 22 [(.var 2)] []), (.tup [(.var 3), (.var 4)])] []))) [(.ret (.cst (.bl false)))] []),
  (.asg 5 (.lst [])),
  (.for [6] true 1 (.idx (.var 2) (.cst (.int 0))) (.cst .non) [(.asg 5 (.b2 .add (.var 5) (.call 37 [(.var 2), (.var 6)] [])))]),
  (.for [7] true 1 (.cst (.int 3)) (.cst .non) [(.asg 8 (.b1 .tuple (.comp [9] [9] true 1 (.b2 .add (.b2 .add (.var 4) (.cst (.int 1))) (.call 30 [(.var 1), (.cst (.int 5))] [])) (.cst .non) (.cst (.bl true)) (.call 31 [(.var 1), (.var 5)] [])))), (.for [9] true 1 (.b2 .sub (.b1 .len (.var 8)) (.var 4)) (.cst .non) [(.ife (.b1 .lnot (.b1 .truth (.call 36 [(.call 23 [(.var 2), (.var 8), (.var 9)] []), (.call 39 [(.var 2), (.var 8), (.var 9)] [])] []))) [(.ret (.cst (.bl false)))] [])]), (.asg 10 (.b1 .tuple (.comp [12] [12] true 0 (.var 8) (.cst .non) (.cst (.bl true)) (.b1 .tuple (.comp [11] [11] true 0 (.idx (.var 2) (.cst (.int 2))) (.cst .non) (.cst (.bl true)) (.idx (.var 12) (.b2 .add (.cst (.int 1)) (.var 11)))))))), (.ife (.b1 .lnot (.b1 .truth (.call 36 [(.call 24 [(.var 2), (.var 8)] []), (.var 10)] []))) [(.ret (.cst (.bl false)))] []), (.par 13 14 (.slc (.var 8) (.cst .non) (.b1 .asI (.call 30 [(.var 1), (.cst (.int 3))] []))) (.slc (.var 8) (.cst .non) (.b1 .asI (.b2 .add (.cst (.int 1)) (.call 30 [(.var 1), (.cst (.int 2))] []))))), (.asg 15 (.b2 .add (.var 13) (.b2 .mul (.var 14) (.b2 .add (.cst (.int 8)) (.b2 .mul (.cst (.int 2)) (.var 4)))))), (.asg 16 (.b2 .eq (.comp [9] [9] true 1 (.b2 .add (.b2 .add (.b1 .len (.var 13)) (.b1 .len (.var 14))) (.cst (.int 4))) (.cst .non) (.b1 .lnot (.b1 .truth (.call 39 [(.var 2), (.var 15), (.var 9)] []))) (.var 9)) (.lst []))), (.ife (.b1 .lnot (.b1 .truth (.call 36 [(.call 25 [(.var 2), (.tup [(.var 13), (.var 14)])] []), (.var 16)] []))) [(.ret (.cst (.bl false)))] [])]),
  (.asg 17 (.lst [(.cst (.non)), (.tup [(.var 13)]), (.tup [(.var 13), (.tup [])]), (.lst [(.var 13), (.var 14)]), (.tup [(.var 13), (.b1 .list (.var 14))]), (.dct [] []), (.tup [(.var 13), (.var 14), (.tup [])]), (.tup [(.var 13), (.tup [(.cst (.non))])])])),
  (.app (.var 17) (.tup [(.tup []), (.tup [(.tup [(.cst (.int 9)), (.cst (.int 9))])])])),
  (.ret (.b1 .isF (.call 25 [(.var 2), (.call 31 [(.var 1), (.var 17)] [])] [])))]⟩
/-- is_ascending -/
def d41 : Df := ⟨"is_ascending", top 8, ["row", "at"], ["row"], [], [
  (.ret (.b1 .all (.comp [1] [1] true 2 (.cst (.int 1)) (.b1 .len (.var 0)) (.cst (.bl true)) (.b2 .lt (.idx (.var 0) (.b2 .sub (.var 1) (.cst (.int 1)))) (.idx (.var 0) (.var 1))))))]⟩
/-- first_failing -/
def d42 : Df := ⟨"first_failing", top 23, ["equations", "columns", "at", "number", "pair"], ["equations", "columns", "at"], [], [
  (.for [3, 4] false 4 (.var 0) (.cst .non) [(.ife (.b1 .lnot (.b1 .truth (.call 43 [(.var 4), (.var 1), (.var 2)] []))) [(.ret (.var 3))] [])]),
  (.ret (.cst (.non)))]⟩
/-- is_held -/
def d43 : Df := ⟨"is_held", top 25, ["pair", "columns", "at"], ["pair", "columns", "at"], [], [
  (.ret (.b2 .eq (.call 9 [(.idx (.var 0) (.cst (.int 0))), (.var 1), (.var 2)] []) (.call 9 [(.idx (.var 0) (.cst (.int 1))), (.var 1), (.var 2)] [])))]⟩
/-- are_numbers -/
def d44 : Df := ⟨"are_numbers", top 35, ["value", "many", "one"], ["value", "many"], [], [
  (.ife (.or (.b1 .lnot (.b1 .truth (.call 1 [(.var 0), (.cst (.int 0)), (.var 1)] []))) (.b1 .lnot (.b1 .truth (.b1 .all (.comp [2] [2] true 0 (.var 0) (.cst .non) (.cst (.bl true)) (.call 0 [(.var 2), (.cst (.int 0)), (.b2 .sub (.var 1) (.cst (.int 1)))] [])))))) [(.ret (.cst (.bl false)))] []),
  (.ret (.call 41 [(.var 0)] []))]⟩
/-- check_tick -/
def d45 : Df := ⟨"check_tick", top 44, ["mill", "columns", "tick"], ["mill", "columns", "tick"], [], [
  (.ife (.b1 .lnot (.b1 .truth (.call 0 [(.var 2), (.cst (.int 0)), (.b2 .sub (.b2 .sub (.b1 .len (.var 1)) (.cst (.int 1))) (.idx (.call 8 [(.idx (.var 0) (.cst (.int 3)))] []) (.cst (.int 1))))] []))) [.never] [])]⟩
/-- with_before -/
def d46 : Df := ⟨"with_before", top 49, ["mill", "columns"], ["mill", "columns"], [], [
  (.ret (.b2 .add (.call 27 [(.var 0), (.idx (.call 8 [(.idx (.var 0) (.cst (.int 3)))] []) (.cst (.int 0)))] []) (.var 1)))]⟩
def Ds : List Df := [d0, d1, d2, d3, d4, d5, d6, d7, d8, d9, d10, d11, d12, d13, d14, d15, d16, d17, d18, d19, d20, d21, d22, d23, d24, d25, d26, d27, d28, d29, d30, d31, d32, d33, d34, d35, d36, d37, d38, d39, d40, d41, d42, d43, d44, d45, d46]
def T : Tb := ⟨Ds.map Df.row, ["ValueError", "all", "bool", "enumerate", "int", "isinstance", "len", "list", "max", "min", "range", "str", "tuple", "zip"], [("MOST_DEEP", 5), ("MOST_EQUATIONS", 6), ("FARTHEST", 2), ("MOST_LETTERS", 3), ("MOST_NAMES", 3), ("MOST_COLUMNS", 200)], [("INNER", [("plus", 2), ("times", 2), ("same", 2), ("less", 2), ("pick", 3)])]⟩
abbrev tb : List Fn := Ds.map Df.fn
end Lw
/-! ## KM1 -/
set_option Elab.async false
set_option linter.all false
set_option autoImplicit false
set_option maxRecDepth 100000
set_option maxHeartbeats 1000000
namespace Lw
open PySem PySem.Spec PyProof.Rows L2 MP
theorem at0 (xs : List D) : atD xs 0 = xs[0]? := rfl
theorem at1 (xs : List D) : atD xs 1 = xs[1]? := rfl
theorem at2 (xs : List D) : atD xs 2 = xs[2]? := rfl
theorem at3 (xs : List D) : atD xs 3 = xs[3]? := rfl
theorem lift {P : Nat → Prop} {m : Nat} (h : ∀ k, m ≤ k → P (k + 1)) : ∀ k, m + 1 ≤ k → P k := fun k hk => by
  obtain ⟨j, rfl⟩ : ∃ j, k = j + 1 := ⟨k - 1, by omega⟩
  exact h j (by omega)

/-! ### is_within, is_tuple -/
/-- a value that is a whole number between -/
def wiD (lo hi : Int) : D → Bool
  | .int i => decide (lo ≤ i) && decide (i ≤ hi)
  | _ => false
def tuD (lo hi : Int) : D → Bool
  | .tup xs => decide (lo ≤ (xs.length : Int)) && decide ((xs.length : Int) ≤ hi)
  | _ => false
/-- its kind is known -/
def kno (st : Sto) (d : D) : Prop := ∃ k, kindD st d = some k
theorem is_within_ok : ∀ k, 1 ≤ k → ∀ (v : D) (lo hi : Int) (st : Sto), kno st v → run tb k 0 [v, .int lo, .int hi] st = .ok (.bl (wiD lo hi v)) st := lift fun k _ v lo hi st ⟨kd, hv⟩ => by
  rw [run_succ (f := d0.fn) rfl rfl]
  cases v with
  | int i =>
    (simp (config := {decide := true, maxSteps := 1000000}) (disch := omega) only [Df.fn, Nat.reduceAdd, Nat.reduceSub, Nat.reduceMul, Int.reduceToNat, Int.reduceAdd, Int.reduceSub, Int.reduceMul, Int.reduceNeg, Int.reduceLE, Int.reduceLT, at0, at1, at2, at3, Nat.zero_add, Nat.sub_self, List.map_cons, List.map_nil, List.length_cons, List.length_nil, List.replicate_succ, List.replicate_zero, List.cons_append, List.nil_append, List.append_nil, List.getElem?_cons_zero, List.getElem?_cons_succ, Option.join_some, List.set_cons_zero, List.set_cons_succ,
  onB_bl, onO_bl, bind_ok, out_ok, bind_ite, out_ite, seq_next, seq_ret, seq_ite, end_next, end_ret, end_ite, optO_some, optR_some, x_var, x_cst, x_b2, x_b1, x_sset, x_rg, x_and, x_or, x_ite, x_chain, x_tup, x_lst, x_idx, x_slc, x_call, x_isi, x_gin, x_gget, x_comp, x_nil, x_cons, x_asg, x_asgT, x_par, x_sub, x_app, x_ext, x_expr, x_ret, x_retN, x_ife, x_for, x_pass, x_end, x_seq,
  turn_next, turn_ret, turn_ite, pyEq_int, wipeD, setTgt, setEach,
  o_add_i, o_add_t, o_sub, o_mul_i, o_fdiv, o_mod, o_eq, o_ne, o_lt, o_le, o_gt, o_ge, o_mx, o_mn, o_neg, o_len_t, o_len_l, o_int_i, o_int_b, o_isN, o_notN, o_asI, o_isF, o_lnot, o_truth, o_tuple_t, o_tuple_l, o_list_t, o_idx_t, o_all_last, o_tuple_last, MP.isNon, Bool.not_true, Bool.not_false, List.length_append, List.append_assoc,
  truthOf, isTys, isTy, kindD, tyB, gc_self, mkT, mkL, lim, seqOf, Option.map_some, Nat.beq, Bool.or_false, Bool.or_true, decide_eq_true_eq, decide_true, decide_false, Bool.true_and, Bool.true_or, Bool.false_or, Bool.false_and, Bool.and_false, Bool.and_true, if_true, Bool.false_eq_true, if_false, ite_true, ite_false, d0, wiD])
    by_cases h : lo ≤ i <;> simp [h]
  | bl b => (simp (config := {decide := true, maxSteps := 1000000}) (disch := omega) only [Df.fn, Nat.reduceAdd, Nat.reduceSub, Nat.reduceMul, Int.reduceToNat, Int.reduceAdd, Int.reduceSub, Int.reduceMul, Int.reduceNeg, Int.reduceLE, Int.reduceLT, at0, at1, at2, at3, Nat.zero_add, Nat.sub_self, List.map_cons, List.map_nil, List.length_cons, List.length_nil, List.replicate_succ, List.replicate_zero, List.cons_append, List.nil_append, List.append_nil, List.getElem?_cons_zero, List.getElem?_cons_succ, Option.join_some, List.set_cons_zero, List.set_cons_succ,
  onB_bl, onO_bl, bind_ok, out_ok, bind_ite, out_ite, seq_next, seq_ret, seq_ite, end_next, end_ret, end_ite, optO_some, optR_some, x_var, x_cst, x_b2, x_b1, x_sset, x_rg, x_and, x_or, x_ite, x_chain, x_tup, x_lst, x_idx, x_slc, x_call, x_isi, x_gin, x_gget, x_comp, x_nil, x_cons, x_asg, x_asgT, x_par, x_sub, x_app, x_ext, x_expr, x_ret, x_retN, x_ife, x_for, x_pass, x_end, x_seq,
  turn_next, turn_ret, turn_ite, pyEq_int, wipeD, setTgt, setEach,
  o_add_i, o_add_t, o_sub, o_mul_i, o_fdiv, o_mod, o_eq, o_ne, o_lt, o_le, o_gt, o_ge, o_mx, o_mn, o_neg, o_len_t, o_len_l, o_int_i, o_int_b, o_isN, o_notN, o_asI, o_isF, o_lnot, o_truth, o_tuple_t, o_tuple_l, o_list_t, o_idx_t, o_all_last, o_tuple_last, MP.isNon, Bool.not_true, Bool.not_false, List.length_append, List.append_assoc,
  truthOf, isTys, isTy, kindD, tyB, gc_self, mkT, mkL, lim, seqOf, Option.map_some, Nat.beq, Bool.or_false, Bool.or_true, decide_eq_true_eq, decide_true, decide_false, Bool.true_and, Bool.true_or, Bool.false_or, Bool.false_and, Bool.and_false, Bool.and_true, if_true, Bool.false_eq_true, if_false, ite_true, ite_false, d0, wiD])
  | non => (simp (config := {decide := true, maxSteps := 1000000}) (disch := omega) only [Df.fn, Nat.reduceAdd, Nat.reduceSub, Nat.reduceMul, Int.reduceToNat, Int.reduceAdd, Int.reduceSub, Int.reduceMul, Int.reduceNeg, Int.reduceLE, Int.reduceLT, at0, at1, at2, at3, Nat.zero_add, Nat.sub_self, List.map_cons, List.map_nil, List.length_cons, List.length_nil, List.replicate_succ, List.replicate_zero, List.cons_append, List.nil_append, List.append_nil, List.getElem?_cons_zero, List.getElem?_cons_succ, Option.join_some, List.set_cons_zero, List.set_cons_succ,
  onB_bl, onO_bl, bind_ok, out_ok, bind_ite, out_ite, seq_next, seq_ret, seq_ite, end_next, end_ret, end_ite, optO_some, optR_some, x_var, x_cst, x_b2, x_b1, x_sset, x_rg, x_and, x_or, x_ite, x_chain, x_tup, x_lst, x_idx, x_slc, x_call, x_isi, x_gin, x_gget, x_comp, x_nil, x_cons, x_asg, x_asgT, x_par, x_sub, x_app, x_ext, x_expr, x_ret, x_retN, x_ife, x_for, x_pass, x_end, x_seq,
  turn_next, turn_ret, turn_ite, pyEq_int, wipeD, setTgt, setEach,
  o_add_i, o_add_t, o_sub, o_mul_i, o_fdiv, o_mod, o_eq, o_ne, o_lt, o_le, o_gt, o_ge, o_mx, o_mn, o_neg, o_len_t, o_len_l, o_int_i, o_int_b, o_isN, o_notN, o_asI, o_isF, o_lnot, o_truth, o_tuple_t, o_tuple_l, o_list_t, o_idx_t, o_all_last, o_tuple_last, MP.isNon, Bool.not_true, Bool.not_false, List.length_append, List.append_assoc,
  truthOf, isTys, isTy, kindD, tyB, gc_self, mkT, mkL, lim, seqOf, Option.map_some, Nat.beq, Bool.or_false, Bool.or_true, decide_eq_true_eq, decide_true, decide_false, Bool.true_and, Bool.true_or, Bool.false_or, Bool.false_and, Bool.and_false, Bool.and_true, if_true, Bool.false_eq_true, if_false, ite_true, ite_false, d0, wiD])
  | str s => (simp (config := {decide := true, maxSteps := 1000000}) (disch := omega) only [Df.fn, Nat.reduceAdd, Nat.reduceSub, Nat.reduceMul, Int.reduceToNat, Int.reduceAdd, Int.reduceSub, Int.reduceMul, Int.reduceNeg, Int.reduceLE, Int.reduceLT, at0, at1, at2, at3, Nat.zero_add, Nat.sub_self, List.map_cons, List.map_nil, List.length_cons, List.length_nil, List.replicate_succ, List.replicate_zero, List.cons_append, List.nil_append, List.append_nil, List.getElem?_cons_zero, List.getElem?_cons_succ, Option.join_some, List.set_cons_zero, List.set_cons_succ,
  onB_bl, onO_bl, bind_ok, out_ok, bind_ite, out_ite, seq_next, seq_ret, seq_ite, end_next, end_ret, end_ite, optO_some, optR_some, x_var, x_cst, x_b2, x_b1, x_sset, x_rg, x_and, x_or, x_ite, x_chain, x_tup, x_lst, x_idx, x_slc, x_call, x_isi, x_gin, x_gget, x_comp, x_nil, x_cons, x_asg, x_asgT, x_par, x_sub, x_app, x_ext, x_expr, x_ret, x_retN, x_ife, x_for, x_pass, x_end, x_seq,
  turn_next, turn_ret, turn_ite, pyEq_int, wipeD, setTgt, setEach,
  o_add_i, o_add_t, o_sub, o_mul_i, o_fdiv, o_mod, o_eq, o_ne, o_lt, o_le, o_gt, o_ge, o_mx, o_mn, o_neg, o_len_t, o_len_l, o_int_i, o_int_b, o_isN, o_notN, o_asI, o_isF, o_lnot, o_truth, o_tuple_t, o_tuple_l, o_list_t, o_idx_t, o_all_last, o_tuple_last, MP.isNon, Bool.not_true, Bool.not_false, List.length_append, List.append_assoc,
  truthOf, isTys, isTy, kindD, tyB, gc_self, mkT, mkL, lim, seqOf, Option.map_some, Nat.beq, Bool.or_false, Bool.or_true, decide_eq_true_eq, decide_true, decide_false, Bool.true_and, Bool.true_or, Bool.false_or, Bool.false_and, Bool.and_false, Bool.and_true, if_true, Bool.false_eq_true, if_false, ite_true, ite_false, d0, wiD])
  | tup xs => (simp (config := {decide := true, maxSteps := 1000000}) (disch := omega) only [Df.fn, Nat.reduceAdd, Nat.reduceSub, Nat.reduceMul, Int.reduceToNat, Int.reduceAdd, Int.reduceSub, Int.reduceMul, Int.reduceNeg, Int.reduceLE, Int.reduceLT, at0, at1, at2, at3, Nat.zero_add, Nat.sub_self, List.map_cons, List.map_nil, List.length_cons, List.length_nil, List.replicate_succ, List.replicate_zero, List.cons_append, List.nil_append, List.append_nil, List.getElem?_cons_zero, List.getElem?_cons_succ, Option.join_some, List.set_cons_zero, List.set_cons_succ,
  onB_bl, onO_bl, bind_ok, out_ok, bind_ite, out_ite, seq_next, seq_ret, seq_ite, end_next, end_ret, end_ite, optO_some, optR_some, x_var, x_cst, x_b2, x_b1, x_sset, x_rg, x_and, x_or, x_ite, x_chain, x_tup, x_lst, x_idx, x_slc, x_call, x_isi, x_gin, x_gget, x_comp, x_nil, x_cons, x_asg, x_asgT, x_par, x_sub, x_app, x_ext, x_expr, x_ret, x_retN, x_ife, x_for, x_pass, x_end, x_seq,
  turn_next, turn_ret, turn_ite, pyEq_int, wipeD, setTgt, setEach,
  o_add_i, o_add_t, o_sub, o_mul_i, o_fdiv, o_mod, o_eq, o_ne, o_lt, o_le, o_gt, o_ge, o_mx, o_mn, o_neg, o_len_t, o_len_l, o_int_i, o_int_b, o_isN, o_notN, o_asI, o_isF, o_lnot, o_truth, o_tuple_t, o_tuple_l, o_list_t, o_idx_t, o_all_last, o_tuple_last, MP.isNon, Bool.not_true, Bool.not_false, List.length_append, List.append_assoc,
  truthOf, isTys, isTy, kindD, tyB, gc_self, mkT, mkL, lim, seqOf, Option.map_some, Nat.beq, Bool.or_false, Bool.or_true, decide_eq_true_eq, decide_true, decide_false, Bool.true_and, Bool.true_or, Bool.false_or, Bool.false_and, Bool.and_false, Bool.and_true, if_true, Bool.false_eq_true, if_false, ite_true, ite_false, d0, wiD])
  | fn g => cases hv
  | loc n =>
    simp only [kindD] at hv
    obtain ⟨o, q, ho⟩ := Option.map_eq_some_iff.mp hv
    cases o <;> ((simp (config := {decide := true, maxSteps := 1000000}) (disch := omega) only [Df.fn, Nat.reduceAdd, Nat.reduceSub, Nat.reduceMul, Int.reduceToNat, Int.reduceAdd, Int.reduceSub, Int.reduceMul, Int.reduceNeg, Int.reduceLE, Int.reduceLT, at0, at1, at2, at3, Nat.zero_add, Nat.sub_self, List.map_cons, List.map_nil, List.length_cons, List.length_nil, List.replicate_succ, List.replicate_zero, List.cons_append, List.nil_append, List.append_nil, List.getElem?_cons_zero, List.getElem?_cons_succ, Option.join_some, List.set_cons_zero, List.set_cons_succ,
  onB_bl, onO_bl, bind_ok, out_ok, bind_ite, out_ite, seq_next, seq_ret, seq_ite, end_next, end_ret, end_ite, optO_some, optR_some, x_var, x_cst, x_b2, x_b1, x_sset, x_rg, x_and, x_or, x_ite, x_chain, x_tup, x_lst, x_idx, x_slc, x_call, x_isi, x_gin, x_gget, x_comp, x_nil, x_cons, x_asg, x_asgT, x_par, x_sub, x_app, x_ext, x_expr, x_ret, x_retN, x_ife, x_for, x_pass, x_end, x_seq,
  turn_next, turn_ret, turn_ite, pyEq_int, wipeD, setTgt, setEach,
  o_add_i, o_add_t, o_sub, o_mul_i, o_fdiv, o_mod, o_eq, o_ne, o_lt, o_le, o_gt, o_ge, o_mx, o_mn, o_neg, o_len_t, o_len_l, o_int_i, o_int_b, o_isN, o_notN, o_asI, o_isF, o_lnot, o_truth, o_tuple_t, o_tuple_l, o_list_t, o_idx_t, o_all_last, o_tuple_last, MP.isNon, Bool.not_true, Bool.not_false, List.length_append, List.append_assoc,
  truthOf, isTys, isTy, kindD, tyB, gc_self, mkT, mkL, lim, seqOf, Option.map_some, Nat.beq, Bool.or_false, Bool.or_true, decide_eq_true_eq, decide_true, decide_false, Bool.true_and, Bool.true_or, Bool.false_or, Bool.false_and, Bool.and_false, Bool.and_true, if_true, Bool.false_eq_true, if_false, ite_true, ite_false, d0, wiD, q, kindO]))
theorem is_tuple_ok : ∀ k, 1 ≤ k → ∀ (v : D) (lo hi : Int) (st : Sto), kno st v → run tb k 1 [v, .int lo, .int hi] st = .ok (.bl (tuD lo hi v)) st := lift fun k _ v lo hi st ⟨kd, hv⟩ => by
  rw [run_succ (f := d1.fn) rfl rfl]
  cases v with
  | int i => (simp (config := {decide := true, maxSteps := 1000000}) (disch := omega) only [Df.fn, Nat.reduceAdd, Nat.reduceSub, Nat.reduceMul, Int.reduceToNat, Int.reduceAdd, Int.reduceSub, Int.reduceMul, Int.reduceNeg, Int.reduceLE, Int.reduceLT, at0, at1, at2, at3, Nat.zero_add, Nat.sub_self, List.map_cons, List.map_nil, List.length_cons, List.length_nil, List.replicate_succ, List.replicate_zero, List.cons_append, List.nil_append, List.append_nil, List.getElem?_cons_zero, List.getElem?_cons_succ, Option.join_some, List.set_cons_zero, List.set_cons_succ,
  onB_bl, onO_bl, bind_ok, out_ok, bind_ite, out_ite, seq_next, seq_ret, seq_ite, end_next, end_ret, end_ite, optO_some, optR_some, x_var, x_cst, x_b2, x_b1, x_sset, x_rg, x_and, x_or, x_ite, x_chain, x_tup, x_lst, x_idx, x_slc, x_call, x_isi, x_gin, x_gget, x_comp, x_nil, x_cons, x_asg, x_asgT, x_par, x_sub, x_app, x_ext, x_expr, x_ret, x_retN, x_ife, x_for, x_pass, x_end, x_seq,
  turn_next, turn_ret, turn_ite, pyEq_int, wipeD, setTgt, setEach,
  o_add_i, o_add_t, o_sub, o_mul_i, o_fdiv, o_mod, o_eq, o_ne, o_lt, o_le, o_gt, o_ge, o_mx, o_mn, o_neg, o_len_t, o_len_l, o_int_i, o_int_b, o_isN, o_notN, o_asI, o_isF, o_lnot, o_truth, o_tuple_t, o_tuple_l, o_list_t, o_idx_t, o_all_last, o_tuple_last, MP.isNon, Bool.not_true, Bool.not_false, List.length_append, List.append_assoc,
  truthOf, isTys, isTy, kindD, tyB, gc_self, mkT, mkL, lim, seqOf, Option.map_some, Nat.beq, Bool.or_false, Bool.or_true, decide_eq_true_eq, decide_true, decide_false, Bool.true_and, Bool.true_or, Bool.false_or, Bool.false_and, Bool.and_false, Bool.and_true, if_true, Bool.false_eq_true, if_false, ite_true, ite_false, d1, tuD])
  | bl b => (simp (config := {decide := true, maxSteps := 1000000}) (disch := omega) only [Df.fn, Nat.reduceAdd, Nat.reduceSub, Nat.reduceMul, Int.reduceToNat, Int.reduceAdd, Int.reduceSub, Int.reduceMul, Int.reduceNeg, Int.reduceLE, Int.reduceLT, at0, at1, at2, at3, Nat.zero_add, Nat.sub_self, List.map_cons, List.map_nil, List.length_cons, List.length_nil, List.replicate_succ, List.replicate_zero, List.cons_append, List.nil_append, List.append_nil, List.getElem?_cons_zero, List.getElem?_cons_succ, Option.join_some, List.set_cons_zero, List.set_cons_succ,
  onB_bl, onO_bl, bind_ok, out_ok, bind_ite, out_ite, seq_next, seq_ret, seq_ite, end_next, end_ret, end_ite, optO_some, optR_some, x_var, x_cst, x_b2, x_b1, x_sset, x_rg, x_and, x_or, x_ite, x_chain, x_tup, x_lst, x_idx, x_slc, x_call, x_isi, x_gin, x_gget, x_comp, x_nil, x_cons, x_asg, x_asgT, x_par, x_sub, x_app, x_ext, x_expr, x_ret, x_retN, x_ife, x_for, x_pass, x_end, x_seq,
  turn_next, turn_ret, turn_ite, pyEq_int, wipeD, setTgt, setEach,
  o_add_i, o_add_t, o_sub, o_mul_i, o_fdiv, o_mod, o_eq, o_ne, o_lt, o_le, o_gt, o_ge, o_mx, o_mn, o_neg, o_len_t, o_len_l, o_int_i, o_int_b, o_isN, o_notN, o_asI, o_isF, o_lnot, o_truth, o_tuple_t, o_tuple_l, o_list_t, o_idx_t, o_all_last, o_tuple_last, MP.isNon, Bool.not_true, Bool.not_false, List.length_append, List.append_assoc,
  truthOf, isTys, isTy, kindD, tyB, gc_self, mkT, mkL, lim, seqOf, Option.map_some, Nat.beq, Bool.or_false, Bool.or_true, decide_eq_true_eq, decide_true, decide_false, Bool.true_and, Bool.true_or, Bool.false_or, Bool.false_and, Bool.and_false, Bool.and_true, if_true, Bool.false_eq_true, if_false, ite_true, ite_false, d1, tuD])
  | non => (simp (config := {decide := true, maxSteps := 1000000}) (disch := omega) only [Df.fn, Nat.reduceAdd, Nat.reduceSub, Nat.reduceMul, Int.reduceToNat, Int.reduceAdd, Int.reduceSub, Int.reduceMul, Int.reduceNeg, Int.reduceLE, Int.reduceLT, at0, at1, at2, at3, Nat.zero_add, Nat.sub_self, List.map_cons, List.map_nil, List.length_cons, List.length_nil, List.replicate_succ, List.replicate_zero, List.cons_append, List.nil_append, List.append_nil, List.getElem?_cons_zero, List.getElem?_cons_succ, Option.join_some, List.set_cons_zero, List.set_cons_succ,
  onB_bl, onO_bl, bind_ok, out_ok, bind_ite, out_ite, seq_next, seq_ret, seq_ite, end_next, end_ret, end_ite, optO_some, optR_some, x_var, x_cst, x_b2, x_b1, x_sset, x_rg, x_and, x_or, x_ite, x_chain, x_tup, x_lst, x_idx, x_slc, x_call, x_isi, x_gin, x_gget, x_comp, x_nil, x_cons, x_asg, x_asgT, x_par, x_sub, x_app, x_ext, x_expr, x_ret, x_retN, x_ife, x_for, x_pass, x_end, x_seq,
  turn_next, turn_ret, turn_ite, pyEq_int, wipeD, setTgt, setEach,
  o_add_i, o_add_t, o_sub, o_mul_i, o_fdiv, o_mod, o_eq, o_ne, o_lt, o_le, o_gt, o_ge, o_mx, o_mn, o_neg, o_len_t, o_len_l, o_int_i, o_int_b, o_isN, o_notN, o_asI, o_isF, o_lnot, o_truth, o_tuple_t, o_tuple_l, o_list_t, o_idx_t, o_all_last, o_tuple_last, MP.isNon, Bool.not_true, Bool.not_false, List.length_append, List.append_assoc,
  truthOf, isTys, isTy, kindD, tyB, gc_self, mkT, mkL, lim, seqOf, Option.map_some, Nat.beq, Bool.or_false, Bool.or_true, decide_eq_true_eq, decide_true, decide_false, Bool.true_and, Bool.true_or, Bool.false_or, Bool.false_and, Bool.and_false, Bool.and_true, if_true, Bool.false_eq_true, if_false, ite_true, ite_false, d1, tuD])
  | str s => (simp (config := {decide := true, maxSteps := 1000000}) (disch := omega) only [Df.fn, Nat.reduceAdd, Nat.reduceSub, Nat.reduceMul, Int.reduceToNat, Int.reduceAdd, Int.reduceSub, Int.reduceMul, Int.reduceNeg, Int.reduceLE, Int.reduceLT, at0, at1, at2, at3, Nat.zero_add, Nat.sub_self, List.map_cons, List.map_nil, List.length_cons, List.length_nil, List.replicate_succ, List.replicate_zero, List.cons_append, List.nil_append, List.append_nil, List.getElem?_cons_zero, List.getElem?_cons_succ, Option.join_some, List.set_cons_zero, List.set_cons_succ,
  onB_bl, onO_bl, bind_ok, out_ok, bind_ite, out_ite, seq_next, seq_ret, seq_ite, end_next, end_ret, end_ite, optO_some, optR_some, x_var, x_cst, x_b2, x_b1, x_sset, x_rg, x_and, x_or, x_ite, x_chain, x_tup, x_lst, x_idx, x_slc, x_call, x_isi, x_gin, x_gget, x_comp, x_nil, x_cons, x_asg, x_asgT, x_par, x_sub, x_app, x_ext, x_expr, x_ret, x_retN, x_ife, x_for, x_pass, x_end, x_seq,
  turn_next, turn_ret, turn_ite, pyEq_int, wipeD, setTgt, setEach,
  o_add_i, o_add_t, o_sub, o_mul_i, o_fdiv, o_mod, o_eq, o_ne, o_lt, o_le, o_gt, o_ge, o_mx, o_mn, o_neg, o_len_t, o_len_l, o_int_i, o_int_b, o_isN, o_notN, o_asI, o_isF, o_lnot, o_truth, o_tuple_t, o_tuple_l, o_list_t, o_idx_t, o_all_last, o_tuple_last, MP.isNon, Bool.not_true, Bool.not_false, List.length_append, List.append_assoc,
  truthOf, isTys, isTy, kindD, tyB, gc_self, mkT, mkL, lim, seqOf, Option.map_some, Nat.beq, Bool.or_false, Bool.or_true, decide_eq_true_eq, decide_true, decide_false, Bool.true_and, Bool.true_or, Bool.false_or, Bool.false_and, Bool.and_false, Bool.and_true, if_true, Bool.false_eq_true, if_false, ite_true, ite_false, d1, tuD])
  | tup xs =>
    (simp (config := {decide := true, maxSteps := 1000000}) (disch := omega) only [Df.fn, Nat.reduceAdd, Nat.reduceSub, Nat.reduceMul, Int.reduceToNat, Int.reduceAdd, Int.reduceSub, Int.reduceMul, Int.reduceNeg, Int.reduceLE, Int.reduceLT, at0, at1, at2, at3, Nat.zero_add, Nat.sub_self, List.map_cons, List.map_nil, List.length_cons, List.length_nil, List.replicate_succ, List.replicate_zero, List.cons_append, List.nil_append, List.append_nil, List.getElem?_cons_zero, List.getElem?_cons_succ, Option.join_some, List.set_cons_zero, List.set_cons_succ,
  onB_bl, onO_bl, bind_ok, out_ok, bind_ite, out_ite, seq_next, seq_ret, seq_ite, end_next, end_ret, end_ite, optO_some, optR_some, x_var, x_cst, x_b2, x_b1, x_sset, x_rg, x_and, x_or, x_ite, x_chain, x_tup, x_lst, x_idx, x_slc, x_call, x_isi, x_gin, x_gget, x_comp, x_nil, x_cons, x_asg, x_asgT, x_par, x_sub, x_app, x_ext, x_expr, x_ret, x_retN, x_ife, x_for, x_pass, x_end, x_seq,
  turn_next, turn_ret, turn_ite, pyEq_int, wipeD, setTgt, setEach,
  o_add_i, o_add_t, o_sub, o_mul_i, o_fdiv, o_mod, o_eq, o_ne, o_lt, o_le, o_gt, o_ge, o_mx, o_mn, o_neg, o_len_t, o_len_l, o_int_i, o_int_b, o_isN, o_notN, o_asI, o_isF, o_lnot, o_truth, o_tuple_t, o_tuple_l, o_list_t, o_idx_t, o_all_last, o_tuple_last, MP.isNon, Bool.not_true, Bool.not_false, List.length_append, List.append_assoc,
  truthOf, isTys, isTy, kindD, tyB, gc_self, mkT, mkL, lim, seqOf, Option.map_some, Nat.beq, Bool.or_false, Bool.or_true, decide_eq_true_eq, decide_true, decide_false, Bool.true_and, Bool.true_or, Bool.false_or, Bool.false_and, Bool.and_false, Bool.and_true, if_true, Bool.false_eq_true, if_false, ite_true, ite_false, d1, tuD])
    by_cases h : lo ≤ (xs.length : Int) <;> simp [h]
  | fn g => cases hv
  | loc n =>
    simp only [kindD] at hv
    obtain ⟨o, q, ho⟩ := Option.map_eq_some_iff.mp hv
    cases o <;> ((simp (config := {decide := true, maxSteps := 1000000}) (disch := omega) only [Df.fn, Nat.reduceAdd, Nat.reduceSub, Nat.reduceMul, Int.reduceToNat, Int.reduceAdd, Int.reduceSub, Int.reduceMul, Int.reduceNeg, Int.reduceLE, Int.reduceLT, at0, at1, at2, at3, Nat.zero_add, Nat.sub_self, List.map_cons, List.map_nil, List.length_cons, List.length_nil, List.replicate_succ, List.replicate_zero, List.cons_append, List.nil_append, List.append_nil, List.getElem?_cons_zero, List.getElem?_cons_succ, Option.join_some, List.set_cons_zero, List.set_cons_succ,
  onB_bl, onO_bl, bind_ok, out_ok, bind_ite, out_ite, seq_next, seq_ret, seq_ite, end_next, end_ret, end_ite, optO_some, optR_some, x_var, x_cst, x_b2, x_b1, x_sset, x_rg, x_and, x_or, x_ite, x_chain, x_tup, x_lst, x_idx, x_slc, x_call, x_isi, x_gin, x_gget, x_comp, x_nil, x_cons, x_asg, x_asgT, x_par, x_sub, x_app, x_ext, x_expr, x_ret, x_retN, x_ife, x_for, x_pass, x_end, x_seq,
  turn_next, turn_ret, turn_ite, pyEq_int, wipeD, setTgt, setEach,
  o_add_i, o_add_t, o_sub, o_mul_i, o_fdiv, o_mod, o_eq, o_ne, o_lt, o_le, o_gt, o_ge, o_mx, o_mn, o_neg, o_len_t, o_len_l, o_int_i, o_int_b, o_isN, o_notN, o_asI, o_isF, o_lnot, o_truth, o_tuple_t, o_tuple_l, o_list_t, o_idx_t, o_all_last, o_tuple_last, MP.isNon, Bool.not_true, Bool.not_false, List.length_append, List.append_assoc,
  truthOf, isTys, isTy, kindD, tyB, gc_self, mkT, mkL, lim, seqOf, Option.map_some, Nat.beq, Bool.or_false, Bool.or_true, decide_eq_true_eq, decide_true, decide_false, Bool.true_and, Bool.true_or, Bool.false_or, Bool.false_and, Bool.and_false, Bool.and_true, if_true, Bool.false_eq_true, if_false, ite_true, ite_false, d1, tuD, q, kindO]))
theorem kno_int (st : Sto) (i : Int) : kno st (.int i) := ⟨_, rfl⟩
theorem kno_tup (st : Sto) (xs : List D) : kno st (.tup xs) := ⟨_, rfl⟩
theorem kno_str (st : Sto) (x : Str) : kno st (.str x) := ⟨_, rfl⟩
theorem is_offset_ok : ∀ k, 2 ≤ k → ∀ (i : Int) (st : Sto), run tb k 4 [.int i] st = .ok (.bl (decide (-2 ≤ i) && decide (i ≤ 2))) st := lift fun k hk i st => by
  rw [run_succ (f := d4.fn) rfl rfl]
  (simp (config := {decide := true, maxSteps := 1000000}) (disch := omega) only [Df.fn, Nat.reduceAdd, Nat.reduceSub, Nat.reduceMul, Int.reduceToNat, Int.reduceAdd, Int.reduceSub, Int.reduceMul, Int.reduceNeg, Int.reduceLE, Int.reduceLT, at0, at1, at2, at3, Nat.zero_add, Nat.sub_self, List.map_cons, List.map_nil, List.length_cons, List.length_nil, List.replicate_succ, List.replicate_zero, List.cons_append, List.nil_append, List.append_nil, List.getElem?_cons_zero, List.getElem?_cons_succ, Option.join_some, List.set_cons_zero, List.set_cons_succ,
  onB_bl, onO_bl, bind_ok, out_ok, bind_ite, out_ite, seq_next, seq_ret, seq_ite, end_next, end_ret, end_ite, optO_some, optR_some, x_var, x_cst, x_b2, x_b1, x_sset, x_rg, x_and, x_or, x_ite, x_chain, x_tup, x_lst, x_idx, x_slc, x_call, x_isi, x_gin, x_gget, x_comp, x_nil, x_cons, x_asg, x_asgT, x_par, x_sub, x_app, x_ext, x_expr, x_ret, x_retN, x_ife, x_for, x_pass, x_end, x_seq,
  turn_next, turn_ret, turn_ite, pyEq_int, wipeD, setTgt, setEach,
  o_add_i, o_add_t, o_sub, o_mul_i, o_fdiv, o_mod, o_eq, o_ne, o_lt, o_le, o_gt, o_ge, o_mx, o_mn, o_neg, o_len_t, o_len_l, o_int_i, o_int_b, o_isN, o_notN, o_asI, o_isF, o_lnot, o_truth, o_tuple_t, o_tuple_l, o_list_t, o_idx_t, o_all_last, o_tuple_last, MP.isNon, Bool.not_true, Bool.not_false, List.length_append, List.append_assoc,
  truthOf, isTys, isTy, kindD, tyB, gc_self, mkT, mkL, lim, seqOf, Option.map_some, Nat.beq, Bool.or_false, Bool.or_true, decide_eq_true_eq, decide_true, decide_false, Bool.true_and, Bool.true_or, Bool.false_or, Bool.false_and, Bool.and_false, Bool.and_true, if_true, Bool.false_eq_true, if_false, ite_true, ite_false, d4, is_within_ok k hk _ _ _ _ (kno_int _ _), wiD])
end Lw
/-! ## KM2 -/
set_option Elab.async false
set_option linter.all false
set_option autoImplicit false
set_option maxRecDepth 100000
set_option maxHeartbeats 1000000
namespace Lw
open PySem PySem.Spec PyProof.Rows L2 MP
/-! ### words -/
theorem ok_in : PyData.strOk ("in" : Str) = true := by decide +kernel
theorem ok_of : PyData.strOk ("of" : Str) = true := by decide +kernel
theorem ok_is : PyData.strOk ("is" : Str) = true := by decide +kernel
theorem ok_rest : PyData.strOk ("rest" : Str) = true := by decide +kernel
theorem ok_pick : PyData.strOk ("pick" : Str) = true := by decide +kernel
theorem ok_plus : PyData.strOk ("plus" : Str) = true := by decide +kernel
theorem ok_times : PyData.strOk ("times" : Str) = true := by decide +kernel
theorem ok_same : PyData.strOk ("same" : Str) = true := by decide +kernel
theorem ok_less : PyData.strOk ("less" : Str) = true := by decide +kernel
theorem ne_in_of : (("in" : Str) = "of") = False := eq_false (by decide +kernel)
theorem ne_in_is : (("in" : Str) = "is") = False := eq_false (by decide +kernel)
theorem ne_in_rest : (("in" : Str) = "rest") = False := eq_false (by decide +kernel)
theorem ne_in_pick : (("in" : Str) = "pick") = False := eq_false (by decide +kernel)
theorem ne_in_plus : (("in" : Str) = "plus") = False := eq_false (by decide +kernel)
theorem ne_in_times : (("in" : Str) = "times") = False := eq_false (by decide +kernel)
theorem ne_in_same : (("in" : Str) = "same") = False := eq_false (by decide +kernel)
theorem ne_in_less : (("in" : Str) = "less") = False := eq_false (by decide +kernel)
theorem ne_of_in : (("of" : Str) = "in") = False := eq_false (by decide +kernel)
theorem ne_of_is : (("of" : Str) = "is") = False := eq_false (by decide +kernel)
theorem ne_of_rest : (("of" : Str) = "rest") = False := eq_false (by decide +kernel)
theorem ne_of_pick : (("of" : Str) = "pick") = False := eq_false (by decide +kernel)
theorem ne_of_plus : (("of" : Str) = "plus") = False := eq_false (by decide +kernel)
theorem ne_of_times : (("of" : Str) = "times") = False := eq_false (by decide +kernel)
theorem ne_of_same : (("of" : Str) = "same") = False := eq_false (by decide +kernel)
theorem ne_of_less : (("of" : Str) = "less") = False := eq_false (by decide +kernel)
theorem ne_is_in : (("is" : Str) = "in") = False := eq_false (by decide +kernel)
theorem ne_is_of : (("is" : Str) = "of") = False := eq_false (by decide +kernel)
theorem ne_is_rest : (("is" : Str) = "rest") = False := eq_false (by decide +kernel)
theorem ne_is_pick : (("is" : Str) = "pick") = False := eq_false (by decide +kernel)
theorem ne_is_plus : (("is" : Str) = "plus") = False := eq_false (by decide +kernel)
theorem ne_is_times : (("is" : Str) = "times") = False := eq_false (by decide +kernel)
theorem ne_is_same : (("is" : Str) = "same") = False := eq_false (by decide +kernel)
theorem ne_is_less : (("is" : Str) = "less") = False := eq_false (by decide +kernel)
theorem ne_rest_in : (("rest" : Str) = "in") = False := eq_false (by decide +kernel)
theorem ne_rest_of : (("rest" : Str) = "of") = False := eq_false (by decide +kernel)
theorem ne_rest_is : (("rest" : Str) = "is") = False := eq_false (by decide +kernel)
theorem ne_rest_pick : (("rest" : Str) = "pick") = False := eq_false (by decide +kernel)
theorem ne_rest_plus : (("rest" : Str) = "plus") = False := eq_false (by decide +kernel)
theorem ne_rest_times : (("rest" : Str) = "times") = False := eq_false (by decide +kernel)
theorem ne_rest_same : (("rest" : Str) = "same") = False := eq_false (by decide +kernel)
theorem ne_rest_less : (("rest" : Str) = "less") = False := eq_false (by decide +kernel)
theorem ne_pick_in : (("pick" : Str) = "in") = False := eq_false (by decide +kernel)
theorem ne_pick_of : (("pick" : Str) = "of") = False := eq_false (by decide +kernel)
theorem ne_pick_is : (("pick" : Str) = "is") = False := eq_false (by decide +kernel)
theorem ne_pick_rest : (("pick" : Str) = "rest") = False := eq_false (by decide +kernel)
theorem ne_pick_plus : (("pick" : Str) = "plus") = False := eq_false (by decide +kernel)
theorem ne_pick_times : (("pick" : Str) = "times") = False := eq_false (by decide +kernel)
theorem ne_pick_same : (("pick" : Str) = "same") = False := eq_false (by decide +kernel)
theorem ne_pick_less : (("pick" : Str) = "less") = False := eq_false (by decide +kernel)
theorem ne_plus_in : (("plus" : Str) = "in") = False := eq_false (by decide +kernel)
theorem ne_plus_of : (("plus" : Str) = "of") = False := eq_false (by decide +kernel)
theorem ne_plus_is : (("plus" : Str) = "is") = False := eq_false (by decide +kernel)
theorem ne_plus_rest : (("plus" : Str) = "rest") = False := eq_false (by decide +kernel)
theorem ne_plus_pick : (("plus" : Str) = "pick") = False := eq_false (by decide +kernel)
theorem ne_plus_times : (("plus" : Str) = "times") = False := eq_false (by decide +kernel)
theorem ne_plus_same : (("plus" : Str) = "same") = False := eq_false (by decide +kernel)
theorem ne_plus_less : (("plus" : Str) = "less") = False := eq_false (by decide +kernel)
theorem ne_times_in : (("times" : Str) = "in") = False := eq_false (by decide +kernel)
theorem ne_times_of : (("times" : Str) = "of") = False := eq_false (by decide +kernel)
theorem ne_times_is : (("times" : Str) = "is") = False := eq_false (by decide +kernel)
theorem ne_times_rest : (("times" : Str) = "rest") = False := eq_false (by decide +kernel)
theorem ne_times_pick : (("times" : Str) = "pick") = False := eq_false (by decide +kernel)
theorem ne_times_plus : (("times" : Str) = "plus") = False := eq_false (by decide +kernel)
theorem ne_times_same : (("times" : Str) = "same") = False := eq_false (by decide +kernel)
theorem ne_times_less : (("times" : Str) = "less") = False := eq_false (by decide +kernel)
theorem ne_same_in : (("same" : Str) = "in") = False := eq_false (by decide +kernel)
theorem ne_same_of : (("same" : Str) = "of") = False := eq_false (by decide +kernel)
theorem ne_same_is : (("same" : Str) = "is") = False := eq_false (by decide +kernel)
theorem ne_same_rest : (("same" : Str) = "rest") = False := eq_false (by decide +kernel)
theorem ne_same_pick : (("same" : Str) = "pick") = False := eq_false (by decide +kernel)
theorem ne_same_plus : (("same" : Str) = "plus") = False := eq_false (by decide +kernel)
theorem ne_same_times : (("same" : Str) = "times") = False := eq_false (by decide +kernel)
theorem ne_same_less : (("same" : Str) = "less") = False := eq_false (by decide +kernel)
theorem ne_less_in : (("less" : Str) = "in") = False := eq_false (by decide +kernel)
theorem ne_less_of : (("less" : Str) = "of") = False := eq_false (by decide +kernel)
theorem ne_less_is : (("less" : Str) = "is") = False := eq_false (by decide +kernel)
theorem ne_less_rest : (("less" : Str) = "rest") = False := eq_false (by decide +kernel)
theorem ne_less_pick : (("less" : Str) = "pick") = False := eq_false (by decide +kernel)
theorem ne_less_plus : (("less" : Str) = "plus") = False := eq_false (by decide +kernel)
theorem ne_less_times : (("less" : Str) = "times") = False := eq_false (by decide +kernel)
theorem ne_less_same : (("less" : Str) = "same") = False := eq_false (by decide +kernel)
theorem pe_in_in (st : Sto) : pyEq st (.str "in") (.str "in") = some true := by rw [pyEq_str st ok_in ok_in]; simp []
theorem pe_in_of (st : Sto) : pyEq st (.str "in") (.str "of") = some false := by rw [pyEq_str st ok_in ok_of]; simp [ne_in_of]
theorem pe_in_is (st : Sto) : pyEq st (.str "in") (.str "is") = some false := by rw [pyEq_str st ok_in ok_is]; simp [ne_in_is]
theorem pe_in_rest (st : Sto) : pyEq st (.str "in") (.str "rest") = some false := by rw [pyEq_str st ok_in ok_rest]; simp [ne_in_rest]
theorem pe_in_pick (st : Sto) : pyEq st (.str "in") (.str "pick") = some false := by rw [pyEq_str st ok_in ok_pick]; simp [ne_in_pick]
theorem pe_in_plus (st : Sto) : pyEq st (.str "in") (.str "plus") = some false := by rw [pyEq_str st ok_in ok_plus]; simp [ne_in_plus]
theorem pe_in_times (st : Sto) : pyEq st (.str "in") (.str "times") = some false := by rw [pyEq_str st ok_in ok_times]; simp [ne_in_times]
theorem pe_in_same (st : Sto) : pyEq st (.str "in") (.str "same") = some false := by rw [pyEq_str st ok_in ok_same]; simp [ne_in_same]
theorem pe_in_less (st : Sto) : pyEq st (.str "in") (.str "less") = some false := by rw [pyEq_str st ok_in ok_less]; simp [ne_in_less]
theorem pe_of_in (st : Sto) : pyEq st (.str "of") (.str "in") = some false := by rw [pyEq_str st ok_of ok_in]; simp [ne_of_in]
theorem pe_of_of (st : Sto) : pyEq st (.str "of") (.str "of") = some true := by rw [pyEq_str st ok_of ok_of]; simp []
theorem pe_of_is (st : Sto) : pyEq st (.str "of") (.str "is") = some false := by rw [pyEq_str st ok_of ok_is]; simp [ne_of_is]
theorem pe_of_rest (st : Sto) : pyEq st (.str "of") (.str "rest") = some false := by rw [pyEq_str st ok_of ok_rest]; simp [ne_of_rest]
theorem pe_of_pick (st : Sto) : pyEq st (.str "of") (.str "pick") = some false := by rw [pyEq_str st ok_of ok_pick]; simp [ne_of_pick]
theorem pe_of_plus (st : Sto) : pyEq st (.str "of") (.str "plus") = some false := by rw [pyEq_str st ok_of ok_plus]; simp [ne_of_plus]
theorem pe_of_times (st : Sto) : pyEq st (.str "of") (.str "times") = some false := by rw [pyEq_str st ok_of ok_times]; simp [ne_of_times]
theorem pe_of_same (st : Sto) : pyEq st (.str "of") (.str "same") = some false := by rw [pyEq_str st ok_of ok_same]; simp [ne_of_same]
theorem pe_of_less (st : Sto) : pyEq st (.str "of") (.str "less") = some false := by rw [pyEq_str st ok_of ok_less]; simp [ne_of_less]
theorem pe_is_in (st : Sto) : pyEq st (.str "is") (.str "in") = some false := by rw [pyEq_str st ok_is ok_in]; simp [ne_is_in]
theorem pe_is_of (st : Sto) : pyEq st (.str "is") (.str "of") = some false := by rw [pyEq_str st ok_is ok_of]; simp [ne_is_of]
theorem pe_is_is (st : Sto) : pyEq st (.str "is") (.str "is") = some true := by rw [pyEq_str st ok_is ok_is]; simp []
theorem pe_is_rest (st : Sto) : pyEq st (.str "is") (.str "rest") = some false := by rw [pyEq_str st ok_is ok_rest]; simp [ne_is_rest]
theorem pe_is_pick (st : Sto) : pyEq st (.str "is") (.str "pick") = some false := by rw [pyEq_str st ok_is ok_pick]; simp [ne_is_pick]
theorem pe_is_plus (st : Sto) : pyEq st (.str "is") (.str "plus") = some false := by rw [pyEq_str st ok_is ok_plus]; simp [ne_is_plus]
theorem pe_is_times (st : Sto) : pyEq st (.str "is") (.str "times") = some false := by rw [pyEq_str st ok_is ok_times]; simp [ne_is_times]
theorem pe_is_same (st : Sto) : pyEq st (.str "is") (.str "same") = some false := by rw [pyEq_str st ok_is ok_same]; simp [ne_is_same]
theorem pe_is_less (st : Sto) : pyEq st (.str "is") (.str "less") = some false := by rw [pyEq_str st ok_is ok_less]; simp [ne_is_less]
theorem pe_rest_in (st : Sto) : pyEq st (.str "rest") (.str "in") = some false := by rw [pyEq_str st ok_rest ok_in]; simp [ne_rest_in]
theorem pe_rest_of (st : Sto) : pyEq st (.str "rest") (.str "of") = some false := by rw [pyEq_str st ok_rest ok_of]; simp [ne_rest_of]
theorem pe_rest_is (st : Sto) : pyEq st (.str "rest") (.str "is") = some false := by rw [pyEq_str st ok_rest ok_is]; simp [ne_rest_is]
theorem pe_rest_rest (st : Sto) : pyEq st (.str "rest") (.str "rest") = some true := by rw [pyEq_str st ok_rest ok_rest]; simp []
theorem pe_rest_pick (st : Sto) : pyEq st (.str "rest") (.str "pick") = some false := by rw [pyEq_str st ok_rest ok_pick]; simp [ne_rest_pick]
theorem pe_rest_plus (st : Sto) : pyEq st (.str "rest") (.str "plus") = some false := by rw [pyEq_str st ok_rest ok_plus]; simp [ne_rest_plus]
theorem pe_rest_times (st : Sto) : pyEq st (.str "rest") (.str "times") = some false := by rw [pyEq_str st ok_rest ok_times]; simp [ne_rest_times]
theorem pe_rest_same (st : Sto) : pyEq st (.str "rest") (.str "same") = some false := by rw [pyEq_str st ok_rest ok_same]; simp [ne_rest_same]
theorem pe_rest_less (st : Sto) : pyEq st (.str "rest") (.str "less") = some false := by rw [pyEq_str st ok_rest ok_less]; simp [ne_rest_less]
theorem pe_pick_in (st : Sto) : pyEq st (.str "pick") (.str "in") = some false := by rw [pyEq_str st ok_pick ok_in]; simp [ne_pick_in]
theorem pe_pick_of (st : Sto) : pyEq st (.str "pick") (.str "of") = some false := by rw [pyEq_str st ok_pick ok_of]; simp [ne_pick_of]
theorem pe_pick_is (st : Sto) : pyEq st (.str "pick") (.str "is") = some false := by rw [pyEq_str st ok_pick ok_is]; simp [ne_pick_is]
theorem pe_pick_rest (st : Sto) : pyEq st (.str "pick") (.str "rest") = some false := by rw [pyEq_str st ok_pick ok_rest]; simp [ne_pick_rest]
theorem pe_pick_pick (st : Sto) : pyEq st (.str "pick") (.str "pick") = some true := by rw [pyEq_str st ok_pick ok_pick]; simp []
theorem pe_pick_plus (st : Sto) : pyEq st (.str "pick") (.str "plus") = some false := by rw [pyEq_str st ok_pick ok_plus]; simp [ne_pick_plus]
theorem pe_pick_times (st : Sto) : pyEq st (.str "pick") (.str "times") = some false := by rw [pyEq_str st ok_pick ok_times]; simp [ne_pick_times]
theorem pe_pick_same (st : Sto) : pyEq st (.str "pick") (.str "same") = some false := by rw [pyEq_str st ok_pick ok_same]; simp [ne_pick_same]
theorem pe_pick_less (st : Sto) : pyEq st (.str "pick") (.str "less") = some false := by rw [pyEq_str st ok_pick ok_less]; simp [ne_pick_less]
theorem pe_plus_in (st : Sto) : pyEq st (.str "plus") (.str "in") = some false := by rw [pyEq_str st ok_plus ok_in]; simp [ne_plus_in]
theorem pe_plus_of (st : Sto) : pyEq st (.str "plus") (.str "of") = some false := by rw [pyEq_str st ok_plus ok_of]; simp [ne_plus_of]
theorem pe_plus_is (st : Sto) : pyEq st (.str "plus") (.str "is") = some false := by rw [pyEq_str st ok_plus ok_is]; simp [ne_plus_is]
theorem pe_plus_rest (st : Sto) : pyEq st (.str "plus") (.str "rest") = some false := by rw [pyEq_str st ok_plus ok_rest]; simp [ne_plus_rest]
theorem pe_plus_pick (st : Sto) : pyEq st (.str "plus") (.str "pick") = some false := by rw [pyEq_str st ok_plus ok_pick]; simp [ne_plus_pick]
theorem pe_plus_plus (st : Sto) : pyEq st (.str "plus") (.str "plus") = some true := by rw [pyEq_str st ok_plus ok_plus]; simp []
theorem pe_plus_times (st : Sto) : pyEq st (.str "plus") (.str "times") = some false := by rw [pyEq_str st ok_plus ok_times]; simp [ne_plus_times]
theorem pe_plus_same (st : Sto) : pyEq st (.str "plus") (.str "same") = some false := by rw [pyEq_str st ok_plus ok_same]; simp [ne_plus_same]
theorem pe_plus_less (st : Sto) : pyEq st (.str "plus") (.str "less") = some false := by rw [pyEq_str st ok_plus ok_less]; simp [ne_plus_less]
theorem pe_times_in (st : Sto) : pyEq st (.str "times") (.str "in") = some false := by rw [pyEq_str st ok_times ok_in]; simp [ne_times_in]
theorem pe_times_of (st : Sto) : pyEq st (.str "times") (.str "of") = some false := by rw [pyEq_str st ok_times ok_of]; simp [ne_times_of]
theorem pe_times_is (st : Sto) : pyEq st (.str "times") (.str "is") = some false := by rw [pyEq_str st ok_times ok_is]; simp [ne_times_is]
theorem pe_times_rest (st : Sto) : pyEq st (.str "times") (.str "rest") = some false := by rw [pyEq_str st ok_times ok_rest]; simp [ne_times_rest]
theorem pe_times_pick (st : Sto) : pyEq st (.str "times") (.str "pick") = some false := by rw [pyEq_str st ok_times ok_pick]; simp [ne_times_pick]
theorem pe_times_plus (st : Sto) : pyEq st (.str "times") (.str "plus") = some false := by rw [pyEq_str st ok_times ok_plus]; simp [ne_times_plus]
theorem pe_times_times (st : Sto) : pyEq st (.str "times") (.str "times") = some true := by rw [pyEq_str st ok_times ok_times]; simp []
theorem pe_times_same (st : Sto) : pyEq st (.str "times") (.str "same") = some false := by rw [pyEq_str st ok_times ok_same]; simp [ne_times_same]
theorem pe_times_less (st : Sto) : pyEq st (.str "times") (.str "less") = some false := by rw [pyEq_str st ok_times ok_less]; simp [ne_times_less]
theorem pe_same_in (st : Sto) : pyEq st (.str "same") (.str "in") = some false := by rw [pyEq_str st ok_same ok_in]; simp [ne_same_in]
theorem pe_same_of (st : Sto) : pyEq st (.str "same") (.str "of") = some false := by rw [pyEq_str st ok_same ok_of]; simp [ne_same_of]
theorem pe_same_is (st : Sto) : pyEq st (.str "same") (.str "is") = some false := by rw [pyEq_str st ok_same ok_is]; simp [ne_same_is]
theorem pe_same_rest (st : Sto) : pyEq st (.str "same") (.str "rest") = some false := by rw [pyEq_str st ok_same ok_rest]; simp [ne_same_rest]
theorem pe_same_pick (st : Sto) : pyEq st (.str "same") (.str "pick") = some false := by rw [pyEq_str st ok_same ok_pick]; simp [ne_same_pick]
theorem pe_same_plus (st : Sto) : pyEq st (.str "same") (.str "plus") = some false := by rw [pyEq_str st ok_same ok_plus]; simp [ne_same_plus]
theorem pe_same_times (st : Sto) : pyEq st (.str "same") (.str "times") = some false := by rw [pyEq_str st ok_same ok_times]; simp [ne_same_times]
theorem pe_same_same (st : Sto) : pyEq st (.str "same") (.str "same") = some true := by rw [pyEq_str st ok_same ok_same]; simp []
theorem pe_same_less (st : Sto) : pyEq st (.str "same") (.str "less") = some false := by rw [pyEq_str st ok_same ok_less]; simp [ne_same_less]
theorem pe_less_in (st : Sto) : pyEq st (.str "less") (.str "in") = some false := by rw [pyEq_str st ok_less ok_in]; simp [ne_less_in]
theorem pe_less_of (st : Sto) : pyEq st (.str "less") (.str "of") = some false := by rw [pyEq_str st ok_less ok_of]; simp [ne_less_of]
theorem pe_less_is (st : Sto) : pyEq st (.str "less") (.str "is") = some false := by rw [pyEq_str st ok_less ok_is]; simp [ne_less_is]
theorem pe_less_rest (st : Sto) : pyEq st (.str "less") (.str "rest") = some false := by rw [pyEq_str st ok_less ok_rest]; simp [ne_less_rest]
theorem pe_less_pick (st : Sto) : pyEq st (.str "less") (.str "pick") = some false := by rw [pyEq_str st ok_less ok_pick]; simp [ne_less_pick]
theorem pe_less_plus (st : Sto) : pyEq st (.str "less") (.str "plus") = some false := by rw [pyEq_str st ok_less ok_plus]; simp [ne_less_plus]
theorem pe_less_times (st : Sto) : pyEq st (.str "less") (.str "times") = some false := by rw [pyEq_str st ok_less ok_times]; simp [ne_less_times]
theorem pe_less_same (st : Sto) : pyEq st (.str "less") (.str "same") = some false := by rw [pyEq_str st ok_less ok_same]; simp [ne_less_same]
theorem pe_less_less (st : Sto) : pyEq st (.str "less") (.str "less") = some true := by rw [pyEq_str st ok_less ok_less]; simp []
abbrev inner : List (Str × Int) := [("plus", 2), ("times", 2), ("same", 2), ("less", 2), ("pick", 3)]
theorem gi_in : (inner.any fun p => decide (p.1 = ("in" : Str))) = false := by decide +kernel
theorem gi_of : (inner.any fun p => decide (p.1 = ("of" : Str))) = false := by decide +kernel
theorem gi_is : (inner.any fun p => decide (p.1 = ("is" : Str))) = false := by decide +kernel
theorem gi_rest : (inner.any fun p => decide (p.1 = ("rest" : Str))) = false := by decide +kernel
theorem gi_pick : (inner.any fun p => decide (p.1 = ("pick" : Str))) = true := by decide +kernel
theorem gg_pick : (inner.find? fun p => decide (p.1 = ("pick" : Str))) = some (("pick" : Str), (3 : Int)) := by decide +kernel
theorem gi_plus : (inner.any fun p => decide (p.1 = ("plus" : Str))) = true := by decide +kernel
theorem gg_plus : (inner.find? fun p => decide (p.1 = ("plus" : Str))) = some (("plus" : Str), (2 : Int)) := by decide +kernel
theorem gi_times : (inner.any fun p => decide (p.1 = ("times" : Str))) = true := by decide +kernel
theorem gg_times : (inner.find? fun p => decide (p.1 = ("times" : Str))) = some (("times" : Str), (2 : Int)) := by decide +kernel
theorem gi_same : (inner.any fun p => decide (p.1 = ("same" : Str))) = true := by decide +kernel
theorem gg_same : (inner.find? fun p => decide (p.1 = ("same" : Str))) = some (("same" : Str), (2 : Int)) := by decide +kernel
theorem gi_less : (inner.any fun p => decide (p.1 = ("less" : Str))) = true := by decide +kernel
theorem gg_less : (inner.find? fun p => decide (p.1 = ("less" : Str))) = some (("less" : Str), (2 : Int)) := by decide +kernel

/-! ### terms -/
inductive W2 where
  | plus | times | same | less
inductive Tm where
  | inp (o : Int) | of (n : Nat) (o : Int) | is (v : Int) | rest (t : Tm) (m : Int) | pick (a b c : Tm) | two (w : W2) (a b : Tm)
def W2.s : W2 → Str
  | .plus => "plus" | .times => "times" | .same => "same" | .less => "less"
def Tm.d : Tm → D
  | .inp o => .tup [.str "in", .int o]
  | .of n o => .tup [.str "of", .int n, .int o]
  | .is v => .tup [.str "is", .int v]
  | .rest t m => .tup [.str "rest", t.d, .int m]
  | .pick a b c => .tup [.str "pick", a.d, b.d, c.d]
  | .two w a b => .tup [.str w.s, a.d, b.d]
/-- as the law makes them, at most so deep -/
def Tm.ok (names : Nat) : Nat → Tm → Prop
  | 0, _ => False
  | _ + 1, .inp o => -1 ≤ o ∧ o ≤ 2
  | _ + 1, .of n o => n < names ∧ -1 ≤ o ∧ o ≤ 2
  | _ + 1, .is v => 0 ≤ v ∧ v ≤ 2
  | d + 1, .rest t m => Tm.ok names d t ∧ 2 ≤ m ∧ m ≤ 3
  | d + 1, .pick a b c => Tm.ok names d a ∧ Tm.ok names d b ∧ Tm.ok names d c
  | d + 1, .two _ a b => Tm.ok names d a ∧ Tm.ok names d b
theorem Tm.ok_up {names : Nat} : ∀ {d : Nat} {t : Tm}, t.ok names d → t.ok names (d + 1)
  | d + 1, .inp o, h => h
  | d + 1, .of n o, h => h
  | d + 1, .is v, h => h
  | d + 1, .rest t m, h => ⟨Tm.ok_up h.1, h.2⟩
  | d + 1, .pick a b c, h => ⟨Tm.ok_up h.1, Tm.ok_up h.2.1, Tm.ok_up h.2.2⟩
  | d + 1, .two w a b, h => ⟨Tm.ok_up h.1, Tm.ok_up h.2⟩
theorem Tm.d_tup (t : Tm) : ∃ xs, t.d = .tup xs := by cases t <;> exact ⟨_, rfl⟩
theorem kno_tm (st : Sto) (t : Tm) : kno st t.d := by obtain ⟨xs, e⟩ := t.d_tup; rw [e]; exact kno_tup _ _
mutual
theorem und_tm (n : Nat) : ∀ t : Tm, t.d.und n = true
  | .inp o => rfl
  | .of m o => rfl
  | .is v => rfl
  | .rest t m => by simp [Tm.d, D.und, D.unds, und_tm n t]
  | .pick a b c => by simp [Tm.d, D.und, D.unds, und_tm n a, und_tm n b, und_tm n c]
  | .two w a b => by simp [Tm.d, D.und, D.unds, und_tm n a, und_tm n b]
end
/-- a row of parts, each of them good -/
theorem all_parts {cl : Nat → List D → Sto → R D} {still : Sto → Bool} {set : D → Option MP.Env} {elt : MP.Env → Sto → R D} {st : Sto} (xs : List D) (hs : ∀ acc : List D, still (st ++ [.lst acc]) = true) (hl : xs.length ≤ 1000000)
    (hx : ∀ x ∈ xs, ∃ env, set x = some env ∧ ∀ acc : List D, elt env (st ++ [.lst acc]) = .ok (.bl true) (st ++ [.lst acc])) :
    compL still set (evE cl (.cst (.bl true))) elt st.length xs (st ++ [.lst []]) = .ok (.loc st.length) (st ++ [.lst (xs.map fun _ => .bl true)]) :=
  compL_map rfl (fun _ => .bl true) xs hs (fun x hm => by
    obtain ⟨env, h1, h2⟩ := hx x hm
    exact ⟨env, h1, fun acc => ⟨rfl, [], by rw [h2, List.append_nil]⟩⟩) hl
theorem all_true {st : Sto} (xs : List D) : op1 .all (.loc st.length) (st ++ [.lst (xs.map fun _ => .bl true)]) = .ok (.bl true) (st ++ [.lst (xs.map fun _ => .bl true)]) := by
  unfold op1
  simp only [lstAt_last]
  rw [toB_map (fun _ => true)]
  simp
theorem is_single_ok : ∀ k, 3 ≤ k → ∀ (names : Nat) (t : Tm) (st : Sto), t.ok names 1 → run tb k 3 [t.d, .int names] st = .ok (.bl true) st := lift fun k hk names t st h => by
  rw [run_succ (f := d3.fn) rfl rfl]
  cases t with
  | inp o =>
    obtain ⟨h1, h2⟩ := h
    ((simp (config := {decide := true, maxSteps := 1000000}) (disch := omega) only [Df.fn, Nat.reduceAdd, Nat.reduceSub, Nat.reduceMul, Int.reduceToNat, Int.reduceAdd, Int.reduceSub, Int.reduceMul, Int.reduceNeg, Int.reduceLE, Int.reduceLT, at0, at1, at2, at3, Nat.zero_add, Nat.sub_self, List.map_cons, List.map_nil, List.length_cons, List.length_nil, List.replicate_succ, List.replicate_zero, List.cons_append, List.nil_append, List.append_nil, List.getElem?_cons_zero, List.getElem?_cons_succ, Option.join_some, List.set_cons_zero, List.set_cons_succ,
  onB_bl, onO_bl, bind_ok, out_ok, bind_ite, out_ite, seq_next, seq_ret, seq_ite, end_next, end_ret, end_ite, optO_some, optR_some, x_var, x_cst, x_b2, x_b1, x_sset, x_rg, x_and, x_or, x_ite, x_chain, x_tup, x_lst, x_idx, x_slc, x_call, x_isi, x_gin, x_gget, x_comp, x_nil, x_cons, x_asg, x_asgT, x_par, x_sub, x_app, x_ext, x_expr, x_ret, x_retN, x_ife, x_for, x_pass, x_end, x_seq,
  turn_next, turn_ret, turn_ite, pyEq_int, wipeD, setTgt, setEach,
  o_add_i, o_add_t, o_sub, o_mul_i, o_fdiv, o_mod, o_eq, o_ne, o_lt, o_le, o_gt, o_ge, o_mx, o_mn, o_neg, o_len_t, o_len_l, o_int_i, o_int_b, o_isN, o_notN, o_asI, o_isF, o_lnot, o_truth, o_tuple_t, o_tuple_l, o_list_t, o_idx_t, o_all_last, o_tuple_last, MP.isNon, Bool.not_true, Bool.not_false, List.length_append, List.append_assoc,
  truthOf, isTys, isTy, kindD, tyB, gc_self, mkT, mkL, lim, seqOf, Option.map_some, Nat.beq, Bool.or_false, Bool.or_true, decide_eq_true_eq, decide_true, decide_false, Bool.true_and, Bool.true_or, Bool.false_or, Bool.false_and, Bool.and_false, Bool.and_true, if_true, Bool.false_eq_true, if_false, ite_true, ite_false, pe_in_in, pe_in_of, pe_in_is, pe_in_rest, pe_in_pick, pe_in_plus, pe_in_times, pe_in_same, pe_in_less, pe_of_in, pe_of_of, pe_of_is, pe_of_rest, pe_of_pick, pe_of_plus, pe_of_times, pe_of_same, pe_of_less, pe_is_in, pe_is_of, pe_is_is, pe_is_rest, pe_is_pick, pe_is_plus, pe_is_times, pe_is_same, pe_is_less, pe_rest_in, pe_rest_of, pe_rest_is, pe_rest_rest, pe_rest_pick, pe_rest_plus, pe_rest_times, pe_rest_same, pe_rest_less, pe_pick_in, pe_pick_of, pe_pick_is, pe_pick_rest, pe_pick_pick, pe_pick_plus, pe_pick_times, pe_pick_same, pe_pick_less, pe_plus_in, pe_plus_of, pe_plus_is, pe_plus_rest, pe_plus_pick, pe_plus_plus, pe_plus_times, pe_plus_same, pe_plus_less, pe_times_in, pe_times_of, pe_times_is, pe_times_rest, pe_times_pick, pe_times_plus, pe_times_times, pe_times_same, pe_times_less, pe_same_in, pe_same_of, pe_same_is, pe_same_rest, pe_same_pick, pe_same_plus, pe_same_times, pe_same_same, pe_same_less, pe_less_in, pe_less_of, pe_less_is, pe_less_rest, pe_less_pick, pe_less_plus, pe_less_times, pe_less_same, pe_less_less, gi_in, gi_of, gi_is, gi_rest, gi_pick, gi_plus, gi_times, gi_same, gi_less, gg_plus, gg_times, gg_same, gg_less, gg_pick, d3, Tm.d, is_offset_ok k (by omega)]))
    simp
    omega
  | of n o =>
    obtain ⟨h1, h2, h3⟩ := h
    ((simp (config := {decide := true, maxSteps := 1000000}) (disch := omega) only [Df.fn, Nat.reduceAdd, Nat.reduceSub, Nat.reduceMul, Int.reduceToNat, Int.reduceAdd, Int.reduceSub, Int.reduceMul, Int.reduceNeg, Int.reduceLE, Int.reduceLT, at0, at1, at2, at3, Nat.zero_add, Nat.sub_self, List.map_cons, List.map_nil, List.length_cons, List.length_nil, List.replicate_succ, List.replicate_zero, List.cons_append, List.nil_append, List.append_nil, List.getElem?_cons_zero, List.getElem?_cons_succ, Option.join_some, List.set_cons_zero, List.set_cons_succ,
  onB_bl, onO_bl, bind_ok, out_ok, bind_ite, out_ite, seq_next, seq_ret, seq_ite, end_next, end_ret, end_ite, optO_some, optR_some, x_var, x_cst, x_b2, x_b1, x_sset, x_rg, x_and, x_or, x_ite, x_chain, x_tup, x_lst, x_idx, x_slc, x_call, x_isi, x_gin, x_gget, x_comp, x_nil, x_cons, x_asg, x_asgT, x_par, x_sub, x_app, x_ext, x_expr, x_ret, x_retN, x_ife, x_for, x_pass, x_end, x_seq,
  turn_next, turn_ret, turn_ite, pyEq_int, wipeD, setTgt, setEach,
  o_add_i, o_add_t, o_sub, o_mul_i, o_fdiv, o_mod, o_eq, o_ne, o_lt, o_le, o_gt, o_ge, o_mx, o_mn, o_neg, o_len_t, o_len_l, o_int_i, o_int_b, o_isN, o_notN, o_asI, o_isF, o_lnot, o_truth, o_tuple_t, o_tuple_l, o_list_t, o_idx_t, o_all_last, o_tuple_last, MP.isNon, Bool.not_true, Bool.not_false, List.length_append, List.append_assoc,
  truthOf, isTys, isTy, kindD, tyB, gc_self, mkT, mkL, lim, seqOf, Option.map_some, Nat.beq, Bool.or_false, Bool.or_true, decide_eq_true_eq, decide_true, decide_false, Bool.true_and, Bool.true_or, Bool.false_or, Bool.false_and, Bool.and_false, Bool.and_true, if_true, Bool.false_eq_true, if_false, ite_true, ite_false, pe_in_in, pe_in_of, pe_in_is, pe_in_rest, pe_in_pick, pe_in_plus, pe_in_times, pe_in_same, pe_in_less, pe_of_in, pe_of_of, pe_of_is, pe_of_rest, pe_of_pick, pe_of_plus, pe_of_times, pe_of_same, pe_of_less, pe_is_in, pe_is_of, pe_is_is, pe_is_rest, pe_is_pick, pe_is_plus, pe_is_times, pe_is_same, pe_is_less, pe_rest_in, pe_rest_of, pe_rest_is, pe_rest_rest, pe_rest_pick, pe_rest_plus, pe_rest_times, pe_rest_same, pe_rest_less, pe_pick_in, pe_pick_of, pe_pick_is, pe_pick_rest, pe_pick_pick, pe_pick_plus, pe_pick_times, pe_pick_same, pe_pick_less, pe_plus_in, pe_plus_of, pe_plus_is, pe_plus_rest, pe_plus_pick, pe_plus_plus, pe_plus_times, pe_plus_same, pe_plus_less, pe_times_in, pe_times_of, pe_times_is, pe_times_rest, pe_times_pick, pe_times_plus, pe_times_times, pe_times_same, pe_times_less, pe_same_in, pe_same_of, pe_same_is, pe_same_rest, pe_same_pick, pe_same_plus, pe_same_times, pe_same_same, pe_same_less, pe_less_in, pe_less_of, pe_less_is, pe_less_rest, pe_less_pick, pe_less_plus, pe_less_times, pe_less_same, pe_less_less, gi_in, gi_of, gi_is, gi_rest, gi_pick, gi_plus, gi_times, gi_same, gi_less, gg_plus, gg_times, gg_same, gg_less, gg_pick, d3, Tm.d, is_offset_ok k (by omega), is_within_ok k (by omega) _ _ _ _ (kno_int _ _), wiD]))
    grind
  | is v =>
    obtain ⟨h1, h2⟩ := h
    ((simp (config := {decide := true, maxSteps := 1000000}) (disch := omega) only [Df.fn, Nat.reduceAdd, Nat.reduceSub, Nat.reduceMul, Int.reduceToNat, Int.reduceAdd, Int.reduceSub, Int.reduceMul, Int.reduceNeg, Int.reduceLE, Int.reduceLT, at0, at1, at2, at3, Nat.zero_add, Nat.sub_self, List.map_cons, List.map_nil, List.length_cons, List.length_nil, List.replicate_succ, List.replicate_zero, List.cons_append, List.nil_append, List.append_nil, List.getElem?_cons_zero, List.getElem?_cons_succ, Option.join_some, List.set_cons_zero, List.set_cons_succ,
  onB_bl, onO_bl, bind_ok, out_ok, bind_ite, out_ite, seq_next, seq_ret, seq_ite, end_next, end_ret, end_ite, optO_some, optR_some, x_var, x_cst, x_b2, x_b1, x_sset, x_rg, x_and, x_or, x_ite, x_chain, x_tup, x_lst, x_idx, x_slc, x_call, x_isi, x_gin, x_gget, x_comp, x_nil, x_cons, x_asg, x_asgT, x_par, x_sub, x_app, x_ext, x_expr, x_ret, x_retN, x_ife, x_for, x_pass, x_end, x_seq,
  turn_next, turn_ret, turn_ite, pyEq_int, wipeD, setTgt, setEach,
  o_add_i, o_add_t, o_sub, o_mul_i, o_fdiv, o_mod, o_eq, o_ne, o_lt, o_le, o_gt, o_ge, o_mx, o_mn, o_neg, o_len_t, o_len_l, o_int_i, o_int_b, o_isN, o_notN, o_asI, o_isF, o_lnot, o_truth, o_tuple_t, o_tuple_l, o_list_t, o_idx_t, o_all_last, o_tuple_last, MP.isNon, Bool.not_true, Bool.not_false, List.length_append, List.append_assoc,
  truthOf, isTys, isTy, kindD, tyB, gc_self, mkT, mkL, lim, seqOf, Option.map_some, Nat.beq, Bool.or_false, Bool.or_true, decide_eq_true_eq, decide_true, decide_false, Bool.true_and, Bool.true_or, Bool.false_or, Bool.false_and, Bool.and_false, Bool.and_true, if_true, Bool.false_eq_true, if_false, ite_true, ite_false, pe_in_in, pe_in_of, pe_in_is, pe_in_rest, pe_in_pick, pe_in_plus, pe_in_times, pe_in_same, pe_in_less, pe_of_in, pe_of_of, pe_of_is, pe_of_rest, pe_of_pick, pe_of_plus, pe_of_times, pe_of_same, pe_of_less, pe_is_in, pe_is_of, pe_is_is, pe_is_rest, pe_is_pick, pe_is_plus, pe_is_times, pe_is_same, pe_is_less, pe_rest_in, pe_rest_of, pe_rest_is, pe_rest_rest, pe_rest_pick, pe_rest_plus, pe_rest_times, pe_rest_same, pe_rest_less, pe_pick_in, pe_pick_of, pe_pick_is, pe_pick_rest, pe_pick_pick, pe_pick_plus, pe_pick_times, pe_pick_same, pe_pick_less, pe_plus_in, pe_plus_of, pe_plus_is, pe_plus_rest, pe_plus_pick, pe_plus_plus, pe_plus_times, pe_plus_same, pe_plus_less, pe_times_in, pe_times_of, pe_times_is, pe_times_rest, pe_times_pick, pe_times_plus, pe_times_times, pe_times_same, pe_times_less, pe_same_in, pe_same_of, pe_same_is, pe_same_rest, pe_same_pick, pe_same_plus, pe_same_times, pe_same_same, pe_same_less, pe_less_in, pe_less_of, pe_less_is, pe_less_rest, pe_less_pick, pe_less_plus, pe_less_times, pe_less_same, pe_less_less, gi_in, gi_of, gi_is, gi_rest, gi_pick, gi_plus, gi_times, gi_same, gi_less, gg_plus, gg_times, gg_same, gg_less, gg_pick, d3, Tm.d, is_within_ok k (by omega) _ _ _ _ (kno_int _ _), wiD]))
    simp
    omega
  | rest t m => exact h.1.elim
  | pick a b c => exact h.1.elim
  | two w a b => exact h.1.elim

/-! ### is_term -/
theorem kno_idx0 (st : Sto) (x : Str) : kno st (.str x) := ⟨_, rfl⟩
theorem slc1 (xs : List D) (st : Sto) : opSlc (.tup xs) (.int 1) .non st = .ok (.tup (xs.drop 1)) st := by
  unfold opSlc
  simp only [seqOf, bnd]
  cases xs with
  | nil => rfl
  | cons x xs => simp [MP.cutD]
theorem still_tup (xs : List D) (y : D) (st st' : Sto) : stillOf 0 (.tup xs) y st st' = true := rfl
theorem it_tup (xs : List D) (y : D) (st : Sto) : itE 0 (.ok (.tup xs) st) (fun st => .ok y st) = .ok (.tup xs, y, xs) st := rfl
theorem is_term_ok : ∀ (d : Nat), d ≤ 5 → ∀ k, d + 4 ≤ k → ∀ (names : Nat) (t : Tm) (st : Sto), t.ok names d → run tb k 2 [t.d, .int names, .int d] st = .ok (.bl true) st
  | 0, _, k, hk, names, t, st, h => h.elim
  | d + 1, hd, k, hk, names, t, st, h => by
    obtain ⟨k, rfl⟩ : ∃ j, k = j + 1 := ⟨k - 1, by omega⟩
    rw [run_succ (f := d2.fn) rfl rfl]
    have ih := is_term_ok d (by omega) k (by omega) names
    have e0 : (((d + 1 : Nat) : Int) = 0) = False := eq_false (by omega)
    have e1 : ((d + 1 : Nat) : Int) - 1 = (d : Int) := by omega
    have sg : ∀ st, t.ok names 1 → run tb k 3 [t.d, .int names] st = .ok (.bl true) st := fun st h1 => is_single_ok k (by omega) names t st h1
    cases t with
    | inp o =>
      have sg := fun st => sg st h
      simp only [Tm.d] at sg
      ((simp (config := {decide := true, maxSteps := 1000000}) (disch := omega) only [Df.fn, Nat.reduceAdd, Nat.reduceSub, Nat.reduceMul, Int.reduceToNat, Int.reduceAdd, Int.reduceSub, Int.reduceMul, Int.reduceNeg, Int.reduceLE, Int.reduceLT, at0, at1, at2, at3, Nat.zero_add, Nat.sub_self, List.map_cons, List.map_nil, List.length_cons, List.length_nil, List.replicate_succ, List.replicate_zero, List.cons_append, List.nil_append, List.append_nil, List.getElem?_cons_zero, List.getElem?_cons_succ, Option.join_some, List.set_cons_zero, List.set_cons_succ,
  onB_bl, onO_bl, bind_ok, out_ok, bind_ite, out_ite, seq_next, seq_ret, seq_ite, end_next, end_ret, end_ite, optO_some, optR_some, x_var, x_cst, x_b2, x_b1, x_sset, x_rg, x_and, x_or, x_ite, x_chain, x_tup, x_lst, x_idx, x_slc, x_call, x_isi, x_gin, x_gget, x_comp, x_nil, x_cons, x_asg, x_asgT, x_par, x_sub, x_app, x_ext, x_expr, x_ret, x_retN, x_ife, x_for, x_pass, x_end, x_seq,
  turn_next, turn_ret, turn_ite, pyEq_int, wipeD, setTgt, setEach,
  o_add_i, o_add_t, o_sub, o_mul_i, o_fdiv, o_mod, o_eq, o_ne, o_lt, o_le, o_gt, o_ge, o_mx, o_mn, o_neg, o_len_t, o_len_l, o_int_i, o_int_b, o_isN, o_notN, o_asI, o_isF, o_lnot, o_truth, o_tuple_t, o_tuple_l, o_list_t, o_idx_t, o_all_last, o_tuple_last, MP.isNon, Bool.not_true, Bool.not_false, List.length_append, List.append_assoc,
  truthOf, isTys, isTy, kindD, tyB, gc_self, mkT, mkL, lim, seqOf, Option.map_some, Nat.beq, Bool.or_false, Bool.or_true, decide_eq_true_eq, decide_true, decide_false, Bool.true_and, Bool.true_or, Bool.false_or, Bool.false_and, Bool.and_false, Bool.and_true, if_true, Bool.false_eq_true, if_false, ite_true, ite_false, pe_in_in, pe_in_of, pe_in_is, pe_in_rest, pe_in_pick, pe_in_plus, pe_in_times, pe_in_same, pe_in_less, pe_of_in, pe_of_of, pe_of_is, pe_of_rest, pe_of_pick, pe_of_plus, pe_of_times, pe_of_same, pe_of_less, pe_is_in, pe_is_of, pe_is_is, pe_is_rest, pe_is_pick, pe_is_plus, pe_is_times, pe_is_same, pe_is_less, pe_rest_in, pe_rest_of, pe_rest_is, pe_rest_rest, pe_rest_pick, pe_rest_plus, pe_rest_times, pe_rest_same, pe_rest_less, pe_pick_in, pe_pick_of, pe_pick_is, pe_pick_rest, pe_pick_pick, pe_pick_plus, pe_pick_times, pe_pick_same, pe_pick_less, pe_plus_in, pe_plus_of, pe_plus_is, pe_plus_rest, pe_plus_pick, pe_plus_plus, pe_plus_times, pe_plus_same, pe_plus_less, pe_times_in, pe_times_of, pe_times_is, pe_times_rest, pe_times_pick, pe_times_plus, pe_times_times, pe_times_same, pe_times_less, pe_same_in, pe_same_of, pe_same_is, pe_same_rest, pe_same_pick, pe_same_plus, pe_same_times, pe_same_same, pe_same_less, pe_less_in, pe_less_of, pe_less_is, pe_less_rest, pe_less_pick, pe_less_plus, pe_less_times, pe_less_same, pe_less_less, gi_in, gi_of, gi_is, gi_rest, gi_pick, gi_plus, gi_times, gi_same, gi_less, gg_plus, gg_times, gg_same, gg_less, gg_pick, d2, Tm.d, e0, is_tuple_ok k (by omega) _ _ _ _ (kno_tup _ _), tuD, sg, wiD]))
    | of n o =>
      have sg := fun st => sg st h
      simp only [Tm.d] at sg
      ((simp (config := {decide := true, maxSteps := 1000000}) (disch := omega) only [Df.fn, Nat.reduceAdd, Nat.reduceSub, Nat.reduceMul, Int.reduceToNat, Int.reduceAdd, Int.reduceSub, Int.reduceMul, Int.reduceNeg, Int.reduceLE, Int.reduceLT, at0, at1, at2, at3, Nat.zero_add, Nat.sub_self, List.map_cons, List.map_nil, List.length_cons, List.length_nil, List.replicate_succ, List.replicate_zero, List.cons_append, List.nil_append, List.append_nil, List.getElem?_cons_zero, List.getElem?_cons_succ, Option.join_some, List.set_cons_zero, List.set_cons_succ,
  onB_bl, onO_bl, bind_ok, out_ok, bind_ite, out_ite, seq_next, seq_ret, seq_ite, end_next, end_ret, end_ite, optO_some, optR_some, x_var, x_cst, x_b2, x_b1, x_sset, x_rg, x_and, x_or, x_ite, x_chain, x_tup, x_lst, x_idx, x_slc, x_call, x_isi, x_gin, x_gget, x_comp, x_nil, x_cons, x_asg, x_asgT, x_par, x_sub, x_app, x_ext, x_expr, x_ret, x_retN, x_ife, x_for, x_pass, x_end, x_seq,
  turn_next, turn_ret, turn_ite, pyEq_int, wipeD, setTgt, setEach,
  o_add_i, o_add_t, o_sub, o_mul_i, o_fdiv, o_mod, o_eq, o_ne, o_lt, o_le, o_gt, o_ge, o_mx, o_mn, o_neg, o_len_t, o_len_l, o_int_i, o_int_b, o_isN, o_notN, o_asI, o_isF, o_lnot, o_truth, o_tuple_t, o_tuple_l, o_list_t, o_idx_t, o_all_last, o_tuple_last, MP.isNon, Bool.not_true, Bool.not_false, List.length_append, List.append_assoc,
  truthOf, isTys, isTy, kindD, tyB, gc_self, mkT, mkL, lim, seqOf, Option.map_some, Nat.beq, Bool.or_false, Bool.or_true, decide_eq_true_eq, decide_true, decide_false, Bool.true_and, Bool.true_or, Bool.false_or, Bool.false_and, Bool.and_false, Bool.and_true, if_true, Bool.false_eq_true, if_false, ite_true, ite_false, pe_in_in, pe_in_of, pe_in_is, pe_in_rest, pe_in_pick, pe_in_plus, pe_in_times, pe_in_same, pe_in_less, pe_of_in, pe_of_of, pe_of_is, pe_of_rest, pe_of_pick, pe_of_plus, pe_of_times, pe_of_same, pe_of_less, pe_is_in, pe_is_of, pe_is_is, pe_is_rest, pe_is_pick, pe_is_plus, pe_is_times, pe_is_same, pe_is_less, pe_rest_in, pe_rest_of, pe_rest_is, pe_rest_rest, pe_rest_pick, pe_rest_plus, pe_rest_times, pe_rest_same, pe_rest_less, pe_pick_in, pe_pick_of, pe_pick_is, pe_pick_rest, pe_pick_pick, pe_pick_plus, pe_pick_times, pe_pick_same, pe_pick_less, pe_plus_in, pe_plus_of, pe_plus_is, pe_plus_rest, pe_plus_pick, pe_plus_plus, pe_plus_times, pe_plus_same, pe_plus_less, pe_times_in, pe_times_of, pe_times_is, pe_times_rest, pe_times_pick, pe_times_plus, pe_times_times, pe_times_same, pe_times_less, pe_same_in, pe_same_of, pe_same_is, pe_same_rest, pe_same_pick, pe_same_plus, pe_same_times, pe_same_same, pe_same_less, pe_less_in, pe_less_of, pe_less_is, pe_less_rest, pe_less_pick, pe_less_plus, pe_less_times, pe_less_same, pe_less_less, gi_in, gi_of, gi_is, gi_rest, gi_pick, gi_plus, gi_times, gi_same, gi_less, gg_plus, gg_times, gg_same, gg_less, gg_pick, d2, Tm.d, e0, is_tuple_ok k (by omega) _ _ _ _ (kno_tup _ _), tuD, sg, wiD]))
    | is v =>
      have sg := fun st => sg st h
      simp only [Tm.d] at sg
      ((simp (config := {decide := true, maxSteps := 1000000}) (disch := omega) only [Df.fn, Nat.reduceAdd, Nat.reduceSub, Nat.reduceMul, Int.reduceToNat, Int.reduceAdd, Int.reduceSub, Int.reduceMul, Int.reduceNeg, Int.reduceLE, Int.reduceLT, at0, at1, at2, at3, Nat.zero_add, Nat.sub_self, List.map_cons, List.map_nil, List.length_cons, List.length_nil, List.replicate_succ, List.replicate_zero, List.cons_append, List.nil_append, List.append_nil, List.getElem?_cons_zero, List.getElem?_cons_succ, Option.join_some, List.set_cons_zero, List.set_cons_succ,
  onB_bl, onO_bl, bind_ok, out_ok, bind_ite, out_ite, seq_next, seq_ret, seq_ite, end_next, end_ret, end_ite, optO_some, optR_some, x_var, x_cst, x_b2, x_b1, x_sset, x_rg, x_and, x_or, x_ite, x_chain, x_tup, x_lst, x_idx, x_slc, x_call, x_isi, x_gin, x_gget, x_comp, x_nil, x_cons, x_asg, x_asgT, x_par, x_sub, x_app, x_ext, x_expr, x_ret, x_retN, x_ife, x_for, x_pass, x_end, x_seq,
  turn_next, turn_ret, turn_ite, pyEq_int, wipeD, setTgt, setEach,
  o_add_i, o_add_t, o_sub, o_mul_i, o_fdiv, o_mod, o_eq, o_ne, o_lt, o_le, o_gt, o_ge, o_mx, o_mn, o_neg, o_len_t, o_len_l, o_int_i, o_int_b, o_isN, o_notN, o_asI, o_isF, o_lnot, o_truth, o_tuple_t, o_tuple_l, o_list_t, o_idx_t, o_all_last, o_tuple_last, MP.isNon, Bool.not_true, Bool.not_false, List.length_append, List.append_assoc,
  truthOf, isTys, isTy, kindD, tyB, gc_self, mkT, mkL, lim, seqOf, Option.map_some, Nat.beq, Bool.or_false, Bool.or_true, decide_eq_true_eq, decide_true, decide_false, Bool.true_and, Bool.true_or, Bool.false_or, Bool.false_and, Bool.and_false, Bool.and_true, if_true, Bool.false_eq_true, if_false, ite_true, ite_false, pe_in_in, pe_in_of, pe_in_is, pe_in_rest, pe_in_pick, pe_in_plus, pe_in_times, pe_in_same, pe_in_less, pe_of_in, pe_of_of, pe_of_is, pe_of_rest, pe_of_pick, pe_of_plus, pe_of_times, pe_of_same, pe_of_less, pe_is_in, pe_is_of, pe_is_is, pe_is_rest, pe_is_pick, pe_is_plus, pe_is_times, pe_is_same, pe_is_less, pe_rest_in, pe_rest_of, pe_rest_is, pe_rest_rest, pe_rest_pick, pe_rest_plus, pe_rest_times, pe_rest_same, pe_rest_less, pe_pick_in, pe_pick_of, pe_pick_is, pe_pick_rest, pe_pick_pick, pe_pick_plus, pe_pick_times, pe_pick_same, pe_pick_less, pe_plus_in, pe_plus_of, pe_plus_is, pe_plus_rest, pe_plus_pick, pe_plus_plus, pe_plus_times, pe_plus_same, pe_plus_less, pe_times_in, pe_times_of, pe_times_is, pe_times_rest, pe_times_pick, pe_times_plus, pe_times_times, pe_times_same, pe_times_less, pe_same_in, pe_same_of, pe_same_is, pe_same_rest, pe_same_pick, pe_same_plus, pe_same_times, pe_same_same, pe_same_less, pe_less_in, pe_less_of, pe_less_is, pe_less_rest, pe_less_pick, pe_less_plus, pe_less_times, pe_less_same, pe_less_less, gi_in, gi_of, gi_is, gi_rest, gi_pick, gi_plus, gi_times, gi_same, gi_less, gg_plus, gg_times, gg_same, gg_less, gg_pick, d2, Tm.d, e0, is_tuple_ok k (by omega) _ _ _ _ (kno_tup _ _), tuD, sg, wiD]))
    | rest t m =>
      obtain ⟨h1, h2, h3⟩ := h
      ((simp (config := {decide := true, maxSteps := 1000000}) (disch := omega) only [Df.fn, Nat.reduceAdd, Nat.reduceSub, Nat.reduceMul, Int.reduceToNat, Int.reduceAdd, Int.reduceSub, Int.reduceMul, Int.reduceNeg, Int.reduceLE, Int.reduceLT, at0, at1, at2, at3, Nat.zero_add, Nat.sub_self, List.map_cons, List.map_nil, List.length_cons, List.length_nil, List.replicate_succ, List.replicate_zero, List.cons_append, List.nil_append, List.append_nil, List.getElem?_cons_zero, List.getElem?_cons_succ, Option.join_some, List.set_cons_zero, List.set_cons_succ,
  onB_bl, onO_bl, bind_ok, out_ok, bind_ite, out_ite, seq_next, seq_ret, seq_ite, end_next, end_ret, end_ite, optO_some, optR_some, x_var, x_cst, x_b2, x_b1, x_sset, x_rg, x_and, x_or, x_ite, x_chain, x_tup, x_lst, x_idx, x_slc, x_call, x_isi, x_gin, x_gget, x_comp, x_nil, x_cons, x_asg, x_asgT, x_par, x_sub, x_app, x_ext, x_expr, x_ret, x_retN, x_ife, x_for, x_pass, x_end, x_seq,
  turn_next, turn_ret, turn_ite, pyEq_int, wipeD, setTgt, setEach,
  o_add_i, o_add_t, o_sub, o_mul_i, o_fdiv, o_mod, o_eq, o_ne, o_lt, o_le, o_gt, o_ge, o_mx, o_mn, o_neg, o_len_t, o_len_l, o_int_i, o_int_b, o_isN, o_notN, o_asI, o_isF, o_lnot, o_truth, o_tuple_t, o_tuple_l, o_list_t, o_idx_t, o_all_last, o_tuple_last, MP.isNon, Bool.not_true, Bool.not_false, List.length_append, List.append_assoc,
  truthOf, isTys, isTy, kindD, tyB, gc_self, mkT, mkL, lim, seqOf, Option.map_some, Nat.beq, Bool.or_false, Bool.or_true, decide_eq_true_eq, decide_true, decide_false, Bool.true_and, Bool.true_or, Bool.false_or, Bool.false_and, Bool.and_false, Bool.and_true, if_true, Bool.false_eq_true, if_false, ite_true, ite_false, pe_in_in, pe_in_of, pe_in_is, pe_in_rest, pe_in_pick, pe_in_plus, pe_in_times, pe_in_same, pe_in_less, pe_of_in, pe_of_of, pe_of_is, pe_of_rest, pe_of_pick, pe_of_plus, pe_of_times, pe_of_same, pe_of_less, pe_is_in, pe_is_of, pe_is_is, pe_is_rest, pe_is_pick, pe_is_plus, pe_is_times, pe_is_same, pe_is_less, pe_rest_in, pe_rest_of, pe_rest_is, pe_rest_rest, pe_rest_pick, pe_rest_plus, pe_rest_times, pe_rest_same, pe_rest_less, pe_pick_in, pe_pick_of, pe_pick_is, pe_pick_rest, pe_pick_pick, pe_pick_plus, pe_pick_times, pe_pick_same, pe_pick_less, pe_plus_in, pe_plus_of, pe_plus_is, pe_plus_rest, pe_plus_pick, pe_plus_plus, pe_plus_times, pe_plus_same, pe_plus_less, pe_times_in, pe_times_of, pe_times_is, pe_times_rest, pe_times_pick, pe_times_plus, pe_times_times, pe_times_same, pe_times_less, pe_same_in, pe_same_of, pe_same_is, pe_same_rest, pe_same_pick, pe_same_plus, pe_same_times, pe_same_same, pe_same_less, pe_less_in, pe_less_of, pe_less_is, pe_less_rest, pe_less_pick, pe_less_plus, pe_less_times, pe_less_same, pe_less_less, gi_in, gi_of, gi_is, gi_rest, gi_pick, gi_plus, gi_times, gi_same, gi_less, gg_plus, gg_times, gg_same, gg_less, gg_pick, d2, Tm.d, e0, e1, ih t _ h1, is_tuple_ok k (by omega) _ _ _ _ (kno_tup _ _), is_within_ok k (by omega) _ _ _ _ (kno_int _ _), tuD, wiD]))
      grind
    | pick a b c =>
      obtain ⟨h1, h2, h3⟩ := h
      ((simp (config := {decide := true, maxSteps := 1000000}) (disch := omega) only [Df.fn, Nat.reduceAdd, Nat.reduceSub, Nat.reduceMul, Int.reduceToNat, Int.reduceAdd, Int.reduceSub, Int.reduceMul, Int.reduceNeg, Int.reduceLE, Int.reduceLT, at0, at1, at2, at3, Nat.zero_add, Nat.sub_self, List.map_cons, List.map_nil, List.length_cons, List.length_nil, List.replicate_succ, List.replicate_zero, List.cons_append, List.nil_append, List.append_nil, List.getElem?_cons_zero, List.getElem?_cons_succ, Option.join_some, List.set_cons_zero, List.set_cons_succ,
  onB_bl, onO_bl, bind_ok, out_ok, bind_ite, out_ite, seq_next, seq_ret, seq_ite, end_next, end_ret, end_ite, optO_some, optR_some, x_var, x_cst, x_b2, x_b1, x_sset, x_rg, x_and, x_or, x_ite, x_chain, x_tup, x_lst, x_idx, x_slc, x_call, x_isi, x_gin, x_gget, x_comp, x_nil, x_cons, x_asg, x_asgT, x_par, x_sub, x_app, x_ext, x_expr, x_ret, x_retN, x_ife, x_for, x_pass, x_end, x_seq,
  turn_next, turn_ret, turn_ite, pyEq_int, wipeD, setTgt, setEach,
  o_add_i, o_add_t, o_sub, o_mul_i, o_fdiv, o_mod, o_eq, o_ne, o_lt, o_le, o_gt, o_ge, o_mx, o_mn, o_neg, o_len_t, o_len_l, o_int_i, o_int_b, o_isN, o_notN, o_asI, o_isF, o_lnot, o_truth, o_tuple_t, o_tuple_l, o_list_t, o_idx_t, o_all_last, o_tuple_last, MP.isNon, Bool.not_true, Bool.not_false, List.length_append, List.append_assoc,
  truthOf, isTys, isTy, kindD, tyB, gc_self, mkT, mkL, lim, seqOf, Option.map_some, Nat.beq, Bool.or_false, Bool.or_true, decide_eq_true_eq, decide_true, decide_false, Bool.true_and, Bool.true_or, Bool.false_or, Bool.false_and, Bool.and_false, Bool.and_true, if_true, Bool.false_eq_true, if_false, ite_true, ite_false, pe_in_in, pe_in_of, pe_in_is, pe_in_rest, pe_in_pick, pe_in_plus, pe_in_times, pe_in_same, pe_in_less, pe_of_in, pe_of_of, pe_of_is, pe_of_rest, pe_of_pick, pe_of_plus, pe_of_times, pe_of_same, pe_of_less, pe_is_in, pe_is_of, pe_is_is, pe_is_rest, pe_is_pick, pe_is_plus, pe_is_times, pe_is_same, pe_is_less, pe_rest_in, pe_rest_of, pe_rest_is, pe_rest_rest, pe_rest_pick, pe_rest_plus, pe_rest_times, pe_rest_same, pe_rest_less, pe_pick_in, pe_pick_of, pe_pick_is, pe_pick_rest, pe_pick_pick, pe_pick_plus, pe_pick_times, pe_pick_same, pe_pick_less, pe_plus_in, pe_plus_of, pe_plus_is, pe_plus_rest, pe_plus_pick, pe_plus_plus, pe_plus_times, pe_plus_same, pe_plus_less, pe_times_in, pe_times_of, pe_times_is, pe_times_rest, pe_times_pick, pe_times_plus, pe_times_times, pe_times_same, pe_times_less, pe_same_in, pe_same_of, pe_same_is, pe_same_rest, pe_same_pick, pe_same_plus, pe_same_times, pe_same_same, pe_same_less, pe_less_in, pe_less_of, pe_less_is, pe_less_rest, pe_less_pick, pe_less_plus, pe_less_times, pe_less_same, pe_less_less, gi_in, gi_of, gi_is, gi_rest, gi_pick, gi_plus, gi_times, gi_same, gi_less, gg_plus, gg_times, gg_same, gg_less, gg_pick, d2, Tm.d, e0, e1, is_tuple_ok k (by omega) _ _ _ _ (kno_tup _ _), tuD, slc1, List.drop_succ_cons, List.drop_zero, it_tup]))
      rw [all_parts [a.d, b.d, c.d] ?h1 ?h2 ?h3]
      case h1 => exact fun acc => rfl
      case h2 => simp
      · (simp (config := {decide := true, maxSteps := 1000000}) (disch := omega) only [Df.fn, Nat.reduceAdd, Nat.reduceSub, Nat.reduceMul, Int.reduceToNat, Int.reduceAdd, Int.reduceSub, Int.reduceMul, Int.reduceNeg, Int.reduceLE, Int.reduceLT, at0, at1, at2, at3, Nat.zero_add, Nat.sub_self, List.map_cons, List.map_nil, List.length_cons, List.length_nil, List.replicate_succ, List.replicate_zero, List.cons_append, List.nil_append, List.append_nil, List.getElem?_cons_zero, List.getElem?_cons_succ, Option.join_some, List.set_cons_zero, List.set_cons_succ,
  onB_bl, onO_bl, bind_ok, out_ok, bind_ite, out_ite, seq_next, seq_ret, seq_ite, end_next, end_ret, end_ite, optO_some, optR_some, x_var, x_cst, x_b2, x_b1, x_sset, x_rg, x_and, x_or, x_ite, x_chain, x_tup, x_lst, x_idx, x_slc, x_call, x_isi, x_gin, x_gget, x_comp, x_nil, x_cons, x_asg, x_asgT, x_par, x_sub, x_app, x_ext, x_expr, x_ret, x_retN, x_ife, x_for, x_pass, x_end, x_seq,
  turn_next, turn_ret, turn_ite, pyEq_int, wipeD, setTgt, setEach,
  o_add_i, o_add_t, o_sub, o_mul_i, o_fdiv, o_mod, o_eq, o_ne, o_lt, o_le, o_gt, o_ge, o_mx, o_mn, o_neg, o_len_t, o_len_l, o_int_i, o_int_b, o_isN, o_notN, o_asI, o_isF, o_lnot, o_truth, o_tuple_t, o_tuple_l, o_list_t, o_idx_t, o_all_last, o_tuple_last, MP.isNon, Bool.not_true, Bool.not_false, List.length_append, List.append_assoc,
  truthOf, isTys, isTy, kindD, tyB, gc_self, mkT, mkL, lim, seqOf, Option.map_some, Nat.beq, Bool.or_false, Bool.or_true, decide_eq_true_eq, decide_true, decide_false, Bool.true_and, Bool.true_or, Bool.false_or, Bool.false_and, Bool.and_false, Bool.and_true, if_true, Bool.false_eq_true, if_false, ite_true, ite_false, optAll, toB, List.all_cons, List.all_nil, id, gc_app _ _ (show (D.bl true).und st.length = true from rfl)])
      · intro x hm
        refine ⟨_, rfl, fun acc => ?_⟩
        simp only [List.mem_cons, List.not_mem_nil, or_false] at hm
        rcases hm with rfl | rfl | rfl
        · (simp (config := {decide := true, maxSteps := 1000000}) (disch := omega) only [Df.fn, Nat.reduceAdd, Nat.reduceSub, Nat.reduceMul, Int.reduceToNat, Int.reduceAdd, Int.reduceSub, Int.reduceMul, Int.reduceNeg, Int.reduceLE, Int.reduceLT, at0, at1, at2, at3, Nat.zero_add, Nat.sub_self, List.map_cons, List.map_nil, List.length_cons, List.length_nil, List.replicate_succ, List.replicate_zero, List.cons_append, List.nil_append, List.append_nil, List.getElem?_cons_zero, List.getElem?_cons_succ, Option.join_some, List.set_cons_zero, List.set_cons_succ,
  onB_bl, onO_bl, bind_ok, out_ok, bind_ite, out_ite, seq_next, seq_ret, seq_ite, end_next, end_ret, end_ite, optO_some, optR_some, x_var, x_cst, x_b2, x_b1, x_sset, x_rg, x_and, x_or, x_ite, x_chain, x_tup, x_lst, x_idx, x_slc, x_call, x_isi, x_gin, x_gget, x_comp, x_nil, x_cons, x_asg, x_asgT, x_par, x_sub, x_app, x_ext, x_expr, x_ret, x_retN, x_ife, x_for, x_pass, x_end, x_seq,
  turn_next, turn_ret, turn_ite, pyEq_int, wipeD, setTgt, setEach,
  o_add_i, o_add_t, o_sub, o_mul_i, o_fdiv, o_mod, o_eq, o_ne, o_lt, o_le, o_gt, o_ge, o_mx, o_mn, o_neg, o_len_t, o_len_l, o_int_i, o_int_b, o_isN, o_notN, o_asI, o_isF, o_lnot, o_truth, o_tuple_t, o_tuple_l, o_list_t, o_idx_t, o_all_last, o_tuple_last, MP.isNon, Bool.not_true, Bool.not_false, List.length_append, List.append_assoc,
  truthOf, isTys, isTy, kindD, tyB, gc_self, mkT, mkL, lim, seqOf, Option.map_some, Nat.beq, Bool.or_false, Bool.or_true, decide_eq_true_eq, decide_true, decide_false, Bool.true_and, Bool.true_or, Bool.false_or, Bool.false_and, Bool.and_false, Bool.and_true, if_true, Bool.false_eq_true, if_false, ite_true, ite_false, ih a _ h1, e1])
        · (simp (config := {decide := true, maxSteps := 1000000}) (disch := omega) only [Df.fn, Nat.reduceAdd, Nat.reduceSub, Nat.reduceMul, Int.reduceToNat, Int.reduceAdd, Int.reduceSub, Int.reduceMul, Int.reduceNeg, Int.reduceLE, Int.reduceLT, at0, at1, at2, at3, Nat.zero_add, Nat.sub_self, List.map_cons, List.map_nil, List.length_cons, List.length_nil, List.replicate_succ, List.replicate_zero, List.cons_append, List.nil_append, List.append_nil, List.getElem?_cons_zero, List.getElem?_cons_succ, Option.join_some, List.set_cons_zero, List.set_cons_succ,
  onB_bl, onO_bl, bind_ok, out_ok, bind_ite, out_ite, seq_next, seq_ret, seq_ite, end_next, end_ret, end_ite, optO_some, optR_some, x_var, x_cst, x_b2, x_b1, x_sset, x_rg, x_and, x_or, x_ite, x_chain, x_tup, x_lst, x_idx, x_slc, x_call, x_isi, x_gin, x_gget, x_comp, x_nil, x_cons, x_asg, x_asgT, x_par, x_sub, x_app, x_ext, x_expr, x_ret, x_retN, x_ife, x_for, x_pass, x_end, x_seq,
  turn_next, turn_ret, turn_ite, pyEq_int, wipeD, setTgt, setEach,
  o_add_i, o_add_t, o_sub, o_mul_i, o_fdiv, o_mod, o_eq, o_ne, o_lt, o_le, o_gt, o_ge, o_mx, o_mn, o_neg, o_len_t, o_len_l, o_int_i, o_int_b, o_isN, o_notN, o_asI, o_isF, o_lnot, o_truth, o_tuple_t, o_tuple_l, o_list_t, o_idx_t, o_all_last, o_tuple_last, MP.isNon, Bool.not_true, Bool.not_false, List.length_append, List.append_assoc,
  truthOf, isTys, isTy, kindD, tyB, gc_self, mkT, mkL, lim, seqOf, Option.map_some, Nat.beq, Bool.or_false, Bool.or_true, decide_eq_true_eq, decide_true, decide_false, Bool.true_and, Bool.true_or, Bool.false_or, Bool.false_and, Bool.and_false, Bool.and_true, if_true, Bool.false_eq_true, if_false, ite_true, ite_false, ih b _ h2, e1])
        · (simp (config := {decide := true, maxSteps := 1000000}) (disch := omega) only [Df.fn, Nat.reduceAdd, Nat.reduceSub, Nat.reduceMul, Int.reduceToNat, Int.reduceAdd, Int.reduceSub, Int.reduceMul, Int.reduceNeg, Int.reduceLE, Int.reduceLT, at0, at1, at2, at3, Nat.zero_add, Nat.sub_self, List.map_cons, List.map_nil, List.length_cons, List.length_nil, List.replicate_succ, List.replicate_zero, List.cons_append, List.nil_append, List.append_nil, List.getElem?_cons_zero, List.getElem?_cons_succ, Option.join_some, List.set_cons_zero, List.set_cons_succ,
  onB_bl, onO_bl, bind_ok, out_ok, bind_ite, out_ite, seq_next, seq_ret, seq_ite, end_next, end_ret, end_ite, optO_some, optR_some, x_var, x_cst, x_b2, x_b1, x_sset, x_rg, x_and, x_or, x_ite, x_chain, x_tup, x_lst, x_idx, x_slc, x_call, x_isi, x_gin, x_gget, x_comp, x_nil, x_cons, x_asg, x_asgT, x_par, x_sub, x_app, x_ext, x_expr, x_ret, x_retN, x_ife, x_for, x_pass, x_end, x_seq,
  turn_next, turn_ret, turn_ite, pyEq_int, wipeD, setTgt, setEach,
  o_add_i, o_add_t, o_sub, o_mul_i, o_fdiv, o_mod, o_eq, o_ne, o_lt, o_le, o_gt, o_ge, o_mx, o_mn, o_neg, o_len_t, o_len_l, o_int_i, o_int_b, o_isN, o_notN, o_asI, o_isF, o_lnot, o_truth, o_tuple_t, o_tuple_l, o_list_t, o_idx_t, o_all_last, o_tuple_last, MP.isNon, Bool.not_true, Bool.not_false, List.length_append, List.append_assoc,
  truthOf, isTys, isTy, kindD, tyB, gc_self, mkT, mkL, lim, seqOf, Option.map_some, Nat.beq, Bool.or_false, Bool.or_true, decide_eq_true_eq, decide_true, decide_false, Bool.true_and, Bool.true_or, Bool.false_or, Bool.false_and, Bool.and_false, Bool.and_true, if_true, Bool.false_eq_true, if_false, ite_true, ite_false, ih c _ h3, e1])
    | two w a b =>
      obtain ⟨h1, h2⟩ := h
      cases w <;> (
        ((simp (config := {decide := true, maxSteps := 1000000}) (disch := omega) only [Df.fn, Nat.reduceAdd, Nat.reduceSub, Nat.reduceMul, Int.reduceToNat, Int.reduceAdd, Int.reduceSub, Int.reduceMul, Int.reduceNeg, Int.reduceLE, Int.reduceLT, at0, at1, at2, at3, Nat.zero_add, Nat.sub_self, List.map_cons, List.map_nil, List.length_cons, List.length_nil, List.replicate_succ, List.replicate_zero, List.cons_append, List.nil_append, List.append_nil, List.getElem?_cons_zero, List.getElem?_cons_succ, Option.join_some, List.set_cons_zero, List.set_cons_succ,
  onB_bl, onO_bl, bind_ok, out_ok, bind_ite, out_ite, seq_next, seq_ret, seq_ite, end_next, end_ret, end_ite, optO_some, optR_some, x_var, x_cst, x_b2, x_b1, x_sset, x_rg, x_and, x_or, x_ite, x_chain, x_tup, x_lst, x_idx, x_slc, x_call, x_isi, x_gin, x_gget, x_comp, x_nil, x_cons, x_asg, x_asgT, x_par, x_sub, x_app, x_ext, x_expr, x_ret, x_retN, x_ife, x_for, x_pass, x_end, x_seq,
  turn_next, turn_ret, turn_ite, pyEq_int, wipeD, setTgt, setEach,
  o_add_i, o_add_t, o_sub, o_mul_i, o_fdiv, o_mod, o_eq, o_ne, o_lt, o_le, o_gt, o_ge, o_mx, o_mn, o_neg, o_len_t, o_len_l, o_int_i, o_int_b, o_isN, o_notN, o_asI, o_isF, o_lnot, o_truth, o_tuple_t, o_tuple_l, o_list_t, o_idx_t, o_all_last, o_tuple_last, MP.isNon, Bool.not_true, Bool.not_false, List.length_append, List.append_assoc,
  truthOf, isTys, isTy, kindD, tyB, gc_self, mkT, mkL, lim, seqOf, Option.map_some, Nat.beq, Bool.or_false, Bool.or_true, decide_eq_true_eq, decide_true, decide_false, Bool.true_and, Bool.true_or, Bool.false_or, Bool.false_and, Bool.and_false, Bool.and_true, if_true, Bool.false_eq_true, if_false, ite_true, ite_false, pe_in_in, pe_in_of, pe_in_is, pe_in_rest, pe_in_pick, pe_in_plus, pe_in_times, pe_in_same, pe_in_less, pe_of_in, pe_of_of, pe_of_is, pe_of_rest, pe_of_pick, pe_of_plus, pe_of_times, pe_of_same, pe_of_less, pe_is_in, pe_is_of, pe_is_is, pe_is_rest, pe_is_pick, pe_is_plus, pe_is_times, pe_is_same, pe_is_less, pe_rest_in, pe_rest_of, pe_rest_is, pe_rest_rest, pe_rest_pick, pe_rest_plus, pe_rest_times, pe_rest_same, pe_rest_less, pe_pick_in, pe_pick_of, pe_pick_is, pe_pick_rest, pe_pick_pick, pe_pick_plus, pe_pick_times, pe_pick_same, pe_pick_less, pe_plus_in, pe_plus_of, pe_plus_is, pe_plus_rest, pe_plus_pick, pe_plus_plus, pe_plus_times, pe_plus_same, pe_plus_less, pe_times_in, pe_times_of, pe_times_is, pe_times_rest, pe_times_pick, pe_times_plus, pe_times_times, pe_times_same, pe_times_less, pe_same_in, pe_same_of, pe_same_is, pe_same_rest, pe_same_pick, pe_same_plus, pe_same_times, pe_same_same, pe_same_less, pe_less_in, pe_less_of, pe_less_is, pe_less_rest, pe_less_pick, pe_less_plus, pe_less_times, pe_less_same, pe_less_less, gi_in, gi_of, gi_is, gi_rest, gi_pick, gi_plus, gi_times, gi_same, gi_less, gg_plus, gg_times, gg_same, gg_less, gg_pick, d2, Tm.d, W2.s, e0, e1, is_tuple_ok k (by omega) _ _ _ _ (kno_tup _ _), tuD, slc1, List.drop_succ_cons, List.drop_zero, it_tup]))
        rw [all_parts [a.d, b.d] ?_ ?_ ?_]
        · (simp (config := {decide := true, maxSteps := 1000000}) (disch := omega) only [Df.fn, Nat.reduceAdd, Nat.reduceSub, Nat.reduceMul, Int.reduceToNat, Int.reduceAdd, Int.reduceSub, Int.reduceMul, Int.reduceNeg, Int.reduceLE, Int.reduceLT, at0, at1, at2, at3, Nat.zero_add, Nat.sub_self, List.map_cons, List.map_nil, List.length_cons, List.length_nil, List.replicate_succ, List.replicate_zero, List.cons_append, List.nil_append, List.append_nil, List.getElem?_cons_zero, List.getElem?_cons_succ, Option.join_some, List.set_cons_zero, List.set_cons_succ,
  onB_bl, onO_bl, bind_ok, out_ok, bind_ite, out_ite, seq_next, seq_ret, seq_ite, end_next, end_ret, end_ite, optO_some, optR_some, x_var, x_cst, x_b2, x_b1, x_sset, x_rg, x_and, x_or, x_ite, x_chain, x_tup, x_lst, x_idx, x_slc, x_call, x_isi, x_gin, x_gget, x_comp, x_nil, x_cons, x_asg, x_asgT, x_par, x_sub, x_app, x_ext, x_expr, x_ret, x_retN, x_ife, x_for, x_pass, x_end, x_seq,
  turn_next, turn_ret, turn_ite, pyEq_int, wipeD, setTgt, setEach,
  o_add_i, o_add_t, o_sub, o_mul_i, o_fdiv, o_mod, o_eq, o_ne, o_lt, o_le, o_gt, o_ge, o_mx, o_mn, o_neg, o_len_t, o_len_l, o_int_i, o_int_b, o_isN, o_notN, o_asI, o_isF, o_lnot, o_truth, o_tuple_t, o_tuple_l, o_list_t, o_idx_t, o_all_last, o_tuple_last, MP.isNon, Bool.not_true, Bool.not_false, List.length_append, List.append_assoc,
  truthOf, isTys, isTy, kindD, tyB, gc_self, mkT, mkL, lim, seqOf, Option.map_some, Nat.beq, Bool.or_false, Bool.or_true, decide_eq_true_eq, decide_true, decide_false, Bool.true_and, Bool.true_or, Bool.false_or, Bool.false_and, Bool.and_false, Bool.and_true, if_true, Bool.false_eq_true, if_false, ite_true, ite_false, optAll, toB, List.all_cons, List.all_nil, id, gc_app _ _ (show (D.bl true).und st.length = true from rfl)])
        · exact fun acc => rfl
        · simp
        · intro x hm
          refine ⟨_, rfl, fun acc => ?_⟩
          simp only [List.mem_cons, List.not_mem_nil, or_false] at hm
          rcases hm with rfl | rfl
          · (simp (config := {decide := true, maxSteps := 1000000}) (disch := omega) only [Df.fn, Nat.reduceAdd, Nat.reduceSub, Nat.reduceMul, Int.reduceToNat, Int.reduceAdd, Int.reduceSub, Int.reduceMul, Int.reduceNeg, Int.reduceLE, Int.reduceLT, at0, at1, at2, at3, Nat.zero_add, Nat.sub_self, List.map_cons, List.map_nil, List.length_cons, List.length_nil, List.replicate_succ, List.replicate_zero, List.cons_append, List.nil_append, List.append_nil, List.getElem?_cons_zero, List.getElem?_cons_succ, Option.join_some, List.set_cons_zero, List.set_cons_succ,
  onB_bl, onO_bl, bind_ok, out_ok, bind_ite, out_ite, seq_next, seq_ret, seq_ite, end_next, end_ret, end_ite, optO_some, optR_some, x_var, x_cst, x_b2, x_b1, x_sset, x_rg, x_and, x_or, x_ite, x_chain, x_tup, x_lst, x_idx, x_slc, x_call, x_isi, x_gin, x_gget, x_comp, x_nil, x_cons, x_asg, x_asgT, x_par, x_sub, x_app, x_ext, x_expr, x_ret, x_retN, x_ife, x_for, x_pass, x_end, x_seq,
  turn_next, turn_ret, turn_ite, pyEq_int, wipeD, setTgt, setEach,
  o_add_i, o_add_t, o_sub, o_mul_i, o_fdiv, o_mod, o_eq, o_ne, o_lt, o_le, o_gt, o_ge, o_mx, o_mn, o_neg, o_len_t, o_len_l, o_int_i, o_int_b, o_isN, o_notN, o_asI, o_isF, o_lnot, o_truth, o_tuple_t, o_tuple_l, o_list_t, o_idx_t, o_all_last, o_tuple_last, MP.isNon, Bool.not_true, Bool.not_false, List.length_append, List.append_assoc,
  truthOf, isTys, isTy, kindD, tyB, gc_self, mkT, mkL, lim, seqOf, Option.map_some, Nat.beq, Bool.or_false, Bool.or_true, decide_eq_true_eq, decide_true, decide_false, Bool.true_and, Bool.true_or, Bool.false_or, Bool.false_and, Bool.and_false, Bool.and_true, if_true, Bool.false_eq_true, if_false, ite_true, ite_false, ih a _ h1, e1])
          · (simp (config := {decide := true, maxSteps := 1000000}) (disch := omega) only [Df.fn, Nat.reduceAdd, Nat.reduceSub, Nat.reduceMul, Int.reduceToNat, Int.reduceAdd, Int.reduceSub, Int.reduceMul, Int.reduceNeg, Int.reduceLE, Int.reduceLT, at0, at1, at2, at3, Nat.zero_add, Nat.sub_self, List.map_cons, List.map_nil, List.length_cons, List.length_nil, List.replicate_succ, List.replicate_zero, List.cons_append, List.nil_append, List.append_nil, List.getElem?_cons_zero, List.getElem?_cons_succ, Option.join_some, List.set_cons_zero, List.set_cons_succ,
  onB_bl, onO_bl, bind_ok, out_ok, bind_ite, out_ite, seq_next, seq_ret, seq_ite, end_next, end_ret, end_ite, optO_some, optR_some, x_var, x_cst, x_b2, x_b1, x_sset, x_rg, x_and, x_or, x_ite, x_chain, x_tup, x_lst, x_idx, x_slc, x_call, x_isi, x_gin, x_gget, x_comp, x_nil, x_cons, x_asg, x_asgT, x_par, x_sub, x_app, x_ext, x_expr, x_ret, x_retN, x_ife, x_for, x_pass, x_end, x_seq,
  turn_next, turn_ret, turn_ite, pyEq_int, wipeD, setTgt, setEach,
  o_add_i, o_add_t, o_sub, o_mul_i, o_fdiv, o_mod, o_eq, o_ne, o_lt, o_le, o_gt, o_ge, o_mx, o_mn, o_neg, o_len_t, o_len_l, o_int_i, o_int_b, o_isN, o_notN, o_asI, o_isF, o_lnot, o_truth, o_tuple_t, o_tuple_l, o_list_t, o_idx_t, o_all_last, o_tuple_last, MP.isNon, Bool.not_true, Bool.not_false, List.length_append, List.append_assoc,
  truthOf, isTys, isTy, kindD, tyB, gc_self, mkT, mkL, lim, seqOf, Option.map_some, Nat.beq, Bool.or_false, Bool.or_true, decide_eq_true_eq, decide_true, decide_false, Bool.true_and, Bool.true_or, Bool.false_or, Bool.false_and, Bool.and_false, Bool.and_true, if_true, Bool.false_eq_true, if_false, ite_true, ite_false, ih b _ h2, e1]))
end Lw
/-! ## KM3 -/
set_option Elab.async false
set_option linter.all false
set_option autoImplicit false
set_option maxRecDepth 100000
set_option maxHeartbeats 1000000
namespace Lw
open PySem PySem.Spec PyProof.Rows L2 MP
theorem parts {cl : Nat → List D → Sto → R D} {still : Sto → Bool} {set : D → Option MP.Env} {elt : MP.Env → Sto → R D} {st : Sto} (q : D → Bool) (xs : List D) (hs : ∀ acc : List D, still (st ++ [.lst acc]) = true) (hl : xs.length ≤ 1000000)
    (hx : ∀ x ∈ xs, ∃ env, set x = some env ∧ ∀ acc : List D, elt env (st ++ [.lst acc]) = .ok (.bl (q x)) (st ++ [.lst acc])) :
    compL still set (evE cl (.cst (.bl true))) elt st.length xs (st ++ [.lst []]) = .ok (.loc st.length) (st ++ [.lst (xs.map fun x => .bl (q x))]) :=
  compL_map rfl (fun x => .bl (q x)) xs hs (fun x hm => by
    obtain ⟨env, h1, h2⟩ := hx x hm
    exact ⟨env, h1, fun acc => ⟨rfl, [], by rw [h2, List.append_nil]⟩⟩) hl
theorem all_q {α : Type} (q : α → Bool) (l : List α) : (l.map q).all id = l.all q := by
  induction l with
  | nil => rfl
  | cons x l ih => simp [ih]
theorem all_tt {α : Type} (l : List α) : (l.all fun _ => true) = true := by simp
theorem gc_b (st t : Sto) (b : Bool) : gc st (st ++ t) (.bl b) = st := gc_app _ _ rfl
theorem gc_n (st t : Sto) : gc st (st ++ t) .non = st := gc_app _ _ rfl
theorem gc_i (st t : Sto) (i : Int) : gc st (st ++ t) (.int i) = st := gc_app _ _ rfl
/-! ### mills -/
structure Ml where
  letters : Int
  names : List (Int × Int)
  told : List Int
  eqs : List (Tm × Tm)
def nmD (p : Int × Int) : D := .tup [.int p.1, .int p.2]
def eqD (p : Tm × Tm) : D := .tup [p.1.d, p.2.d]
def Ml.nd (m : Ml) : D := .tup (m.names.map nmD)
def Ml.d (m : Ml) : D := .tup [.int m.letters, m.nd, .tup (m.told.map .int), .tup (m.eqs.map eqD)]
structure Ml.ok (m : Ml) : Prop where
  l1 : 1 ≤ m.letters
  l3 : m.letters ≤ 3
  n1 : 1 ≤ m.names.length
  n2 : m.names.length ≤ 2
  nm : ∀ p ∈ m.names, 2 ≤ p.1 ∧ p.1 ≤ 3 ∧ 0 ≤ p.2 ∧ p.2 < p.1
  td : m.told = [0] ∨ (m.names.length = 2 ∧ (m.told = [1] ∨ m.told = [0, 1]))
  e3 : m.eqs.length ≤ 3
  eq : ∀ p ∈ m.eqs, p.1.ok m.names.length 4 ∧ p.2.ok m.names.length 4
theorem is_equation_ok : ∀ k, 11 ≤ k → ∀ (names : Nat) (p : Tm × Tm) (st : Sto), p.1.ok names 4 → p.2.ok names 4 → run tb k 6 [eqD p, .int names] st = .ok (.bl true) st := lift fun k hk names p st h1 h2 => by
  rw [run_succ (f := d6.fn) rfl rfl]
  have t1 : ∀ st, run tb k 2 [p.1.d, .int names, .int 5] st = .ok (.bl true) st := fun st => is_term_ok 5 (by omega) k (by omega) names p.1 st (Tm.ok_up h1)
  have t2 : ∀ st, run tb k 2 [p.2.d, .int names, .int 5] st = .ok (.bl true) st := fun st => is_term_ok 5 (by omega) k (by omega) names p.2 st (Tm.ok_up h2)
  ((simp (config := {decide := true, maxSteps := 1000000}) (disch := omega) only [Df.fn, Nat.reduceAdd, Nat.reduceSub, Nat.reduceMul, Int.reduceToNat, Int.reduceAdd, Int.reduceSub, Int.reduceMul, Int.reduceNeg, Int.reduceLE, Int.reduceLT, at0, at1, at2, at3, Nat.zero_add, Nat.sub_self, List.map_cons, List.map_nil, List.length_cons, List.length_nil, List.replicate_succ, List.replicate_zero, List.cons_append, List.nil_append, List.append_nil, List.getElem?_cons_zero, List.getElem?_cons_succ, Option.join_some, List.set_cons_zero, List.set_cons_succ,
  onB_bl, onO_bl, bind_ok, out_ok, bind_ite, out_ite, seq_next, seq_ret, seq_ite, end_next, end_ret, end_ite, optO_some, optR_some, x_var, x_cst, x_b2, x_b1, x_sset, x_rg, x_and, x_or, x_ite, x_chain, x_tup, x_lst, x_idx, x_slc, x_call, x_isi, x_gin, x_gget, x_comp, x_nil, x_cons, x_asg, x_asgT, x_par, x_sub, x_app, x_ext, x_expr, x_ret, x_retN, x_ife, x_for, x_pass, x_end, x_seq,
  turn_next, turn_ret, turn_ite, pyEq_int, wipeD, setTgt, setEach,
  o_add_i, o_add_t, o_sub, o_mul_i, o_fdiv, o_mod, o_eq, o_ne, o_lt, o_le, o_gt, o_ge, o_mx, o_mn, o_neg, o_len_t, o_len_l, o_int_i, o_int_b, o_isN, o_notN, o_asI, o_isF, o_lnot, o_truth, o_tuple_t, o_tuple_l, o_list_t, o_idx_t, o_all_last, o_tuple_last, MP.isNon, Bool.not_true, Bool.not_false, List.length_append, List.append_assoc,
  truthOf, isTys, isTy, kindD, tyB, gc_self, mkT, mkL, lim, seqOf, Option.map_some, Nat.beq, Bool.or_false, Bool.or_true, decide_eq_true_eq, decide_true, decide_false, Bool.true_and, Bool.true_or, Bool.false_or, Bool.false_and, Bool.and_false, Bool.and_true, if_true, Bool.false_eq_true, if_false, ite_true, ite_false, toB_map, toB, optAll, all_q, all_tt, List.all_cons, List.all_nil, id, gc_b, gc_n, gc_i, slc1, it_tup, List.drop_succ_cons, List.drop_zero, d6, eqD, is_tuple_ok k (by omega) _ _ _ _ (kno_tup _ _), tuD]))
  rw [parts (fun _ => true) [p.1.d, p.2.d] ?_ ?_ ?_]
  · ((simp (config := {decide := true, maxSteps := 1000000}) (disch := omega) only [Df.fn, Nat.reduceAdd, Nat.reduceSub, Nat.reduceMul, Int.reduceToNat, Int.reduceAdd, Int.reduceSub, Int.reduceMul, Int.reduceNeg, Int.reduceLE, Int.reduceLT, at0, at1, at2, at3, Nat.zero_add, Nat.sub_self, List.map_cons, List.map_nil, List.length_cons, List.length_nil, List.replicate_succ, List.replicate_zero, List.cons_append, List.nil_append, List.append_nil, List.getElem?_cons_zero, List.getElem?_cons_succ, Option.join_some, List.set_cons_zero, List.set_cons_succ,
  onB_bl, onO_bl, bind_ok, out_ok, bind_ite, out_ite, seq_next, seq_ret, seq_ite, end_next, end_ret, end_ite, optO_some, optR_some, x_var, x_cst, x_b2, x_b1, x_sset, x_rg, x_and, x_or, x_ite, x_chain, x_tup, x_lst, x_idx, x_slc, x_call, x_isi, x_gin, x_gget, x_comp, x_nil, x_cons, x_asg, x_asgT, x_par, x_sub, x_app, x_ext, x_expr, x_ret, x_retN, x_ife, x_for, x_pass, x_end, x_seq,
  turn_next, turn_ret, turn_ite, pyEq_int, wipeD, setTgt, setEach,
  o_add_i, o_add_t, o_sub, o_mul_i, o_fdiv, o_mod, o_eq, o_ne, o_lt, o_le, o_gt, o_ge, o_mx, o_mn, o_neg, o_len_t, o_len_l, o_int_i, o_int_b, o_isN, o_notN, o_asI, o_isF, o_lnot, o_truth, o_tuple_t, o_tuple_l, o_list_t, o_idx_t, o_all_last, o_tuple_last, MP.isNon, Bool.not_true, Bool.not_false, List.length_append, List.append_assoc,
  truthOf, isTys, isTy, kindD, tyB, gc_self, mkT, mkL, lim, seqOf, Option.map_some, Nat.beq, Bool.or_false, Bool.or_true, decide_eq_true_eq, decide_true, decide_false, Bool.true_and, Bool.true_or, Bool.false_or, Bool.false_and, Bool.and_false, Bool.and_true, if_true, Bool.false_eq_true, if_false, ite_true, ite_false, toB_map, toB, optAll, all_q, all_tt, List.all_cons, List.all_nil, id, gc_b, gc_n, gc_i, slc1, it_tup, List.drop_succ_cons, List.drop_zero]))
  · exact fun acc => rfl
  · simp
  · intro x hm
    refine ⟨_, rfl, fun acc => ?_⟩
    simp only [List.mem_cons, List.not_mem_nil, or_false] at hm
    rcases hm with rfl | rfl
    · (simp (config := {decide := true, maxSteps := 1000000}) (disch := omega) only [Df.fn, Nat.reduceAdd, Nat.reduceSub, Nat.reduceMul, Int.reduceToNat, Int.reduceAdd, Int.reduceSub, Int.reduceMul, Int.reduceNeg, Int.reduceLE, Int.reduceLT, at0, at1, at2, at3, Nat.zero_add, Nat.sub_self, List.map_cons, List.map_nil, List.length_cons, List.length_nil, List.replicate_succ, List.replicate_zero, List.cons_append, List.nil_append, List.append_nil, List.getElem?_cons_zero, List.getElem?_cons_succ, Option.join_some, List.set_cons_zero, List.set_cons_succ,
  onB_bl, onO_bl, bind_ok, out_ok, bind_ite, out_ite, seq_next, seq_ret, seq_ite, end_next, end_ret, end_ite, optO_some, optR_some, x_var, x_cst, x_b2, x_b1, x_sset, x_rg, x_and, x_or, x_ite, x_chain, x_tup, x_lst, x_idx, x_slc, x_call, x_isi, x_gin, x_gget, x_comp, x_nil, x_cons, x_asg, x_asgT, x_par, x_sub, x_app, x_ext, x_expr, x_ret, x_retN, x_ife, x_for, x_pass, x_end, x_seq,
  turn_next, turn_ret, turn_ite, pyEq_int, wipeD, setTgt, setEach,
  o_add_i, o_add_t, o_sub, o_mul_i, o_fdiv, o_mod, o_eq, o_ne, o_lt, o_le, o_gt, o_ge, o_mx, o_mn, o_neg, o_len_t, o_len_l, o_int_i, o_int_b, o_isN, o_notN, o_asI, o_isF, o_lnot, o_truth, o_tuple_t, o_tuple_l, o_list_t, o_idx_t, o_all_last, o_tuple_last, MP.isNon, Bool.not_true, Bool.not_false, List.length_append, List.append_assoc,
  truthOf, isTys, isTy, kindD, tyB, gc_self, mkT, mkL, lim, seqOf, Option.map_some, Nat.beq, Bool.or_false, Bool.or_true, decide_eq_true_eq, decide_true, decide_false, Bool.true_and, Bool.true_or, Bool.false_or, Bool.false_and, Bool.and_false, Bool.and_true, if_true, Bool.false_eq_true, if_false, ite_true, ite_false, t1])
    · (simp (config := {decide := true, maxSteps := 1000000}) (disch := omega) only [Df.fn, Nat.reduceAdd, Nat.reduceSub, Nat.reduceMul, Int.reduceToNat, Int.reduceAdd, Int.reduceSub, Int.reduceMul, Int.reduceNeg, Int.reduceLE, Int.reduceLT, at0, at1, at2, at3, Nat.zero_add, Nat.sub_self, List.map_cons, List.map_nil, List.length_cons, List.length_nil, List.replicate_succ, List.replicate_zero, List.cons_append, List.nil_append, List.append_nil, List.getElem?_cons_zero, List.getElem?_cons_succ, Option.join_some, List.set_cons_zero, List.set_cons_succ,
  onB_bl, onO_bl, bind_ok, out_ok, bind_ite, out_ite, seq_next, seq_ret, seq_ite, end_next, end_ret, end_ite, optO_some, optR_some, x_var, x_cst, x_b2, x_b1, x_sset, x_rg, x_and, x_or, x_ite, x_chain, x_tup, x_lst, x_idx, x_slc, x_call, x_isi, x_gin, x_gget, x_comp, x_nil, x_cons, x_asg, x_asgT, x_par, x_sub, x_app, x_ext, x_expr, x_ret, x_retN, x_ife, x_for, x_pass, x_end, x_seq,
  turn_next, turn_ret, turn_ite, pyEq_int, wipeD, setTgt, setEach,
  o_add_i, o_add_t, o_sub, o_mul_i, o_fdiv, o_mod, o_eq, o_ne, o_lt, o_le, o_gt, o_ge, o_mx, o_mn, o_neg, o_len_t, o_len_l, o_int_i, o_int_b, o_isN, o_notN, o_asI, o_isF, o_lnot, o_truth, o_tuple_t, o_tuple_l, o_list_t, o_idx_t, o_all_last, o_tuple_last, MP.isNon, Bool.not_true, Bool.not_false, List.length_append, List.append_assoc,
  truthOf, isTys, isTy, kindD, tyB, gc_self, mkT, mkL, lim, seqOf, Option.map_some, Nat.beq, Bool.or_false, Bool.or_true, decide_eq_true_eq, decide_true, decide_false, Bool.true_and, Bool.true_or, Bool.false_or, Bool.false_and, Bool.and_false, Bool.and_true, if_true, Bool.false_eq_true, if_false, ite_true, ite_false, t2])
theorem are_equations_ok : ∀ k, 12 ≤ k → ∀ (names : Nat) (es : List (Tm × Tm)) (st : Sto), es.length ≤ 6 → (∀ p ∈ es, p.1.ok names 4 ∧ p.2.ok names 4) → run tb k 5 [.tup (es.map eqD), .int names] st = .ok (.bl true) st := lift fun k hk names es st hl h => by
  rw [run_succ (f := d5.fn) rfl rfl]
  have e1 : (decide (0 ≤ ((es.map eqD).length : Int)) && decide (((es.map eqD).length : Int) ≤ 6)) = true := by simp; omega
  ((simp (config := {decide := true, maxSteps := 1000000}) (disch := omega) only [Df.fn, Nat.reduceAdd, Nat.reduceSub, Nat.reduceMul, Int.reduceToNat, Int.reduceAdd, Int.reduceSub, Int.reduceMul, Int.reduceNeg, Int.reduceLE, Int.reduceLT, at0, at1, at2, at3, Nat.zero_add, Nat.sub_self, List.map_cons, List.map_nil, List.length_cons, List.length_nil, List.replicate_succ, List.replicate_zero, List.cons_append, List.nil_append, List.append_nil, List.getElem?_cons_zero, List.getElem?_cons_succ, Option.join_some, List.set_cons_zero, List.set_cons_succ,
  onB_bl, onO_bl, bind_ok, out_ok, bind_ite, out_ite, seq_next, seq_ret, seq_ite, end_next, end_ret, end_ite, optO_some, optR_some, x_var, x_cst, x_b2, x_b1, x_sset, x_rg, x_and, x_or, x_ite, x_chain, x_tup, x_lst, x_idx, x_slc, x_call, x_isi, x_gin, x_gget, x_comp, x_nil, x_cons, x_asg, x_asgT, x_par, x_sub, x_app, x_ext, x_expr, x_ret, x_retN, x_ife, x_for, x_pass, x_end, x_seq,
  turn_next, turn_ret, turn_ite, pyEq_int, wipeD, setTgt, setEach,
  o_add_i, o_add_t, o_sub, o_mul_i, o_fdiv, o_mod, o_eq, o_ne, o_lt, o_le, o_gt, o_ge, o_mx, o_mn, o_neg, o_len_t, o_len_l, o_int_i, o_int_b, o_isN, o_notN, o_asI, o_isF, o_lnot, o_truth, o_tuple_t, o_tuple_l, o_list_t, o_idx_t, o_all_last, o_tuple_last, MP.isNon, Bool.not_true, Bool.not_false, List.length_append, List.append_assoc,
  truthOf, isTys, isTy, kindD, tyB, gc_self, mkT, mkL, lim, seqOf, Option.map_some, Nat.beq, Bool.or_false, Bool.or_true, decide_eq_true_eq, decide_true, decide_false, Bool.true_and, Bool.true_or, Bool.false_or, Bool.false_and, Bool.and_false, Bool.and_true, if_true, Bool.false_eq_true, if_false, ite_true, ite_false, toB_map, toB, optAll, all_q, all_tt, List.all_cons, List.all_nil, id, gc_b, gc_n, gc_i, slc1, it_tup, List.drop_succ_cons, List.drop_zero, d5, is_tuple_ok k (by omega) _ _ _ _ (kno_tup _ _), tuD, e1]))
  rw [parts (fun _ => true) (es.map eqD) ?_ ?_ ?_]
  · ((simp (config := {decide := true, maxSteps := 1000000}) (disch := omega) only [Df.fn, Nat.reduceAdd, Nat.reduceSub, Nat.reduceMul, Int.reduceToNat, Int.reduceAdd, Int.reduceSub, Int.reduceMul, Int.reduceNeg, Int.reduceLE, Int.reduceLT, at0, at1, at2, at3, Nat.zero_add, Nat.sub_self, List.map_cons, List.map_nil, List.length_cons, List.length_nil, List.replicate_succ, List.replicate_zero, List.cons_append, List.nil_append, List.append_nil, List.getElem?_cons_zero, List.getElem?_cons_succ, Option.join_some, List.set_cons_zero, List.set_cons_succ,
  onB_bl, onO_bl, bind_ok, out_ok, bind_ite, out_ite, seq_next, seq_ret, seq_ite, end_next, end_ret, end_ite, optO_some, optR_some, x_var, x_cst, x_b2, x_b1, x_sset, x_rg, x_and, x_or, x_ite, x_chain, x_tup, x_lst, x_idx, x_slc, x_call, x_isi, x_gin, x_gget, x_comp, x_nil, x_cons, x_asg, x_asgT, x_par, x_sub, x_app, x_ext, x_expr, x_ret, x_retN, x_ife, x_for, x_pass, x_end, x_seq,
  turn_next, turn_ret, turn_ite, pyEq_int, wipeD, setTgt, setEach,
  o_add_i, o_add_t, o_sub, o_mul_i, o_fdiv, o_mod, o_eq, o_ne, o_lt, o_le, o_gt, o_ge, o_mx, o_mn, o_neg, o_len_t, o_len_l, o_int_i, o_int_b, o_isN, o_notN, o_asI, o_isF, o_lnot, o_truth, o_tuple_t, o_tuple_l, o_list_t, o_idx_t, o_all_last, o_tuple_last, MP.isNon, Bool.not_true, Bool.not_false, List.length_append, List.append_assoc,
  truthOf, isTys, isTy, kindD, tyB, gc_self, mkT, mkL, lim, seqOf, Option.map_some, Nat.beq, Bool.or_false, Bool.or_true, decide_eq_true_eq, decide_true, decide_false, Bool.true_and, Bool.true_or, Bool.false_or, Bool.false_and, Bool.and_false, Bool.and_true, if_true, Bool.false_eq_true, if_false, ite_true, ite_false, toB_map, toB, optAll, all_q, all_tt, List.all_cons, List.all_nil, id, gc_b, gc_n, gc_i, slc1, it_tup, List.drop_succ_cons, List.drop_zero]))
  · exact fun acc => rfl
  · simp; omega
  · intro x hm
    refine ⟨_, rfl, fun acc => ?_⟩
    obtain ⟨p, hp, rfl⟩ := List.mem_map.mp hm
    (simp (config := {decide := true, maxSteps := 1000000}) (disch := omega) only [Df.fn, Nat.reduceAdd, Nat.reduceSub, Nat.reduceMul, Int.reduceToNat, Int.reduceAdd, Int.reduceSub, Int.reduceMul, Int.reduceNeg, Int.reduceLE, Int.reduceLT, at0, at1, at2, at3, Nat.zero_add, Nat.sub_self, List.map_cons, List.map_nil, List.length_cons, List.length_nil, List.replicate_succ, List.replicate_zero, List.cons_append, List.nil_append, List.append_nil, List.getElem?_cons_zero, List.getElem?_cons_succ, Option.join_some, List.set_cons_zero, List.set_cons_succ,
  onB_bl, onO_bl, bind_ok, out_ok, bind_ite, out_ite, seq_next, seq_ret, seq_ite, end_next, end_ret, end_ite, optO_some, optR_some, x_var, x_cst, x_b2, x_b1, x_sset, x_rg, x_and, x_or, x_ite, x_chain, x_tup, x_lst, x_idx, x_slc, x_call, x_isi, x_gin, x_gget, x_comp, x_nil, x_cons, x_asg, x_asgT, x_par, x_sub, x_app, x_ext, x_expr, x_ret, x_retN, x_ife, x_for, x_pass, x_end, x_seq,
  turn_next, turn_ret, turn_ite, pyEq_int, wipeD, setTgt, setEach,
  o_add_i, o_add_t, o_sub, o_mul_i, o_fdiv, o_mod, o_eq, o_ne, o_lt, o_le, o_gt, o_ge, o_mx, o_mn, o_neg, o_len_t, o_len_l, o_int_i, o_int_b, o_isN, o_notN, o_asI, o_isF, o_lnot, o_truth, o_tuple_t, o_tuple_l, o_list_t, o_idx_t, o_all_last, o_tuple_last, MP.isNon, Bool.not_true, Bool.not_false, List.length_append, List.append_assoc,
  truthOf, isTys, isTy, kindD, tyB, gc_self, mkT, mkL, lim, seqOf, Option.map_some, Nat.beq, Bool.or_false, Bool.or_true, decide_eq_true_eq, decide_true, decide_false, Bool.true_and, Bool.true_or, Bool.false_or, Bool.false_and, Bool.and_false, Bool.and_true, if_true, Bool.false_eq_true, if_false, ite_true, ite_false, is_equation_ok k (by omega) names p _ (h p hp).1 (h p hp).2])
theorem is_name_ok : ∀ k, 2 ≤ k → ∀ (p : Int × Int) (st : Sto), 2 ≤ p.1 → p.1 ≤ 3 → 0 ≤ p.2 → p.2 < p.1 → run tb k 15 [nmD p] st = .ok (.bl true) st := lift fun k hk p st h1 h2 h3 h4 => by
  rw [run_succ (f := d15.fn) rfl rfl]
  ((simp (config := {decide := true, maxSteps := 1000000}) (disch := omega) only [Df.fn, Nat.reduceAdd, Nat.reduceSub, Nat.reduceMul, Int.reduceToNat, Int.reduceAdd, Int.reduceSub, Int.reduceMul, Int.reduceNeg, Int.reduceLE, Int.reduceLT, at0, at1, at2, at3, Nat.zero_add, Nat.sub_self, List.map_cons, List.map_nil, List.length_cons, List.length_nil, List.replicate_succ, List.replicate_zero, List.cons_append, List.nil_append, List.append_nil, List.getElem?_cons_zero, List.getElem?_cons_succ, Option.join_some, List.set_cons_zero, List.set_cons_succ,
  onB_bl, onO_bl, bind_ok, out_ok, bind_ite, out_ite, seq_next, seq_ret, seq_ite, end_next, end_ret, end_ite, optO_some, optR_some, x_var, x_cst, x_b2, x_b1, x_sset, x_rg, x_and, x_or, x_ite, x_chain, x_tup, x_lst, x_idx, x_slc, x_call, x_isi, x_gin, x_gget, x_comp, x_nil, x_cons, x_asg, x_asgT, x_par, x_sub, x_app, x_ext, x_expr, x_ret, x_retN, x_ife, x_for, x_pass, x_end, x_seq,
  turn_next, turn_ret, turn_ite, pyEq_int, wipeD, setTgt, setEach,
  o_add_i, o_add_t, o_sub, o_mul_i, o_fdiv, o_mod, o_eq, o_ne, o_lt, o_le, o_gt, o_ge, o_mx, o_mn, o_neg, o_len_t, o_len_l, o_int_i, o_int_b, o_isN, o_notN, o_asI, o_isF, o_lnot, o_truth, o_tuple_t, o_tuple_l, o_list_t, o_idx_t, o_all_last, o_tuple_last, MP.isNon, Bool.not_true, Bool.not_false, List.length_append, List.append_assoc,
  truthOf, isTys, isTy, kindD, tyB, gc_self, mkT, mkL, lim, seqOf, Option.map_some, Nat.beq, Bool.or_false, Bool.or_true, decide_eq_true_eq, decide_true, decide_false, Bool.true_and, Bool.true_or, Bool.false_or, Bool.false_and, Bool.and_false, Bool.and_true, if_true, Bool.false_eq_true, if_false, ite_true, ite_false, toB_map, toB, optAll, all_q, all_tt, List.all_cons, List.all_nil, id, gc_b, gc_n, gc_i, slc1, it_tup, List.drop_succ_cons, List.drop_zero, d15, nmD, is_tuple_ok k (by omega) _ _ _ _ (kno_tup _ _), is_within_ok k (by omega) _ _ _ _ (kno_int _ _), tuD, wiD]))
  grind
theorem are_names_ok : ∀ k, 3 ≤ k → ∀ (m : Ml) (st : Sto), m.ok → run tb k 14 [m.nd] st = .ok (.bl true) st := lift fun k hk m st h => by
  rw [run_succ (f := d14.fn) rfl rfl]
  have := h.n1
  have := h.n2
  have e1 : (decide (1 ≤ ((m.names.map nmD).length : Int)) && decide (((m.names.map nmD).length : Int) ≤ 3)) = true := by simp; omega
  ((simp (config := {decide := true, maxSteps := 1000000}) (disch := omega) only [Df.fn, Nat.reduceAdd, Nat.reduceSub, Nat.reduceMul, Int.reduceToNat, Int.reduceAdd, Int.reduceSub, Int.reduceMul, Int.reduceNeg, Int.reduceLE, Int.reduceLT, at0, at1, at2, at3, Nat.zero_add, Nat.sub_self, List.map_cons, List.map_nil, List.length_cons, List.length_nil, List.replicate_succ, List.replicate_zero, List.cons_append, List.nil_append, List.append_nil, List.getElem?_cons_zero, List.getElem?_cons_succ, Option.join_some, List.set_cons_zero, List.set_cons_succ,
  onB_bl, onO_bl, bind_ok, out_ok, bind_ite, out_ite, seq_next, seq_ret, seq_ite, end_next, end_ret, end_ite, optO_some, optR_some, x_var, x_cst, x_b2, x_b1, x_sset, x_rg, x_and, x_or, x_ite, x_chain, x_tup, x_lst, x_idx, x_slc, x_call, x_isi, x_gin, x_gget, x_comp, x_nil, x_cons, x_asg, x_asgT, x_par, x_sub, x_app, x_ext, x_expr, x_ret, x_retN, x_ife, x_for, x_pass, x_end, x_seq,
  turn_next, turn_ret, turn_ite, pyEq_int, wipeD, setTgt, setEach,
  o_add_i, o_add_t, o_sub, o_mul_i, o_fdiv, o_mod, o_eq, o_ne, o_lt, o_le, o_gt, o_ge, o_mx, o_mn, o_neg, o_len_t, o_len_l, o_int_i, o_int_b, o_isN, o_notN, o_asI, o_isF, o_lnot, o_truth, o_tuple_t, o_tuple_l, o_list_t, o_idx_t, o_all_last, o_tuple_last, MP.isNon, Bool.not_true, Bool.not_false, List.length_append, List.append_assoc,
  truthOf, isTys, isTy, kindD, tyB, gc_self, mkT, mkL, lim, seqOf, Option.map_some, Nat.beq, Bool.or_false, Bool.or_true, decide_eq_true_eq, decide_true, decide_false, Bool.true_and, Bool.true_or, Bool.false_or, Bool.false_and, Bool.and_false, Bool.and_true, if_true, Bool.false_eq_true, if_false, ite_true, ite_false, toB_map, toB, optAll, all_q, all_tt, List.all_cons, List.all_nil, id, gc_b, gc_n, gc_i, slc1, it_tup, List.drop_succ_cons, List.drop_zero, d14, Ml.nd, is_tuple_ok k (by omega) _ _ _ _ (kno_tup _ _), tuD, e1]))
  rw [parts (fun _ => true) (m.names.map nmD) ?_ ?_ ?_]
  · ((simp (config := {decide := true, maxSteps := 1000000}) (disch := omega) only [Df.fn, Nat.reduceAdd, Nat.reduceSub, Nat.reduceMul, Int.reduceToNat, Int.reduceAdd, Int.reduceSub, Int.reduceMul, Int.reduceNeg, Int.reduceLE, Int.reduceLT, at0, at1, at2, at3, Nat.zero_add, Nat.sub_self, List.map_cons, List.map_nil, List.length_cons, List.length_nil, List.replicate_succ, List.replicate_zero, List.cons_append, List.nil_append, List.append_nil, List.getElem?_cons_zero, List.getElem?_cons_succ, Option.join_some, List.set_cons_zero, List.set_cons_succ,
  onB_bl, onO_bl, bind_ok, out_ok, bind_ite, out_ite, seq_next, seq_ret, seq_ite, end_next, end_ret, end_ite, optO_some, optR_some, x_var, x_cst, x_b2, x_b1, x_sset, x_rg, x_and, x_or, x_ite, x_chain, x_tup, x_lst, x_idx, x_slc, x_call, x_isi, x_gin, x_gget, x_comp, x_nil, x_cons, x_asg, x_asgT, x_par, x_sub, x_app, x_ext, x_expr, x_ret, x_retN, x_ife, x_for, x_pass, x_end, x_seq,
  turn_next, turn_ret, turn_ite, pyEq_int, wipeD, setTgt, setEach,
  o_add_i, o_add_t, o_sub, o_mul_i, o_fdiv, o_mod, o_eq, o_ne, o_lt, o_le, o_gt, o_ge, o_mx, o_mn, o_neg, o_len_t, o_len_l, o_int_i, o_int_b, o_isN, o_notN, o_asI, o_isF, o_lnot, o_truth, o_tuple_t, o_tuple_l, o_list_t, o_idx_t, o_all_last, o_tuple_last, MP.isNon, Bool.not_true, Bool.not_false, List.length_append, List.append_assoc,
  truthOf, isTys, isTy, kindD, tyB, gc_self, mkT, mkL, lim, seqOf, Option.map_some, Nat.beq, Bool.or_false, Bool.or_true, decide_eq_true_eq, decide_true, decide_false, Bool.true_and, Bool.true_or, Bool.false_or, Bool.false_and, Bool.and_false, Bool.and_true, if_true, Bool.false_eq_true, if_false, ite_true, ite_false, toB_map, toB, optAll, all_q, all_tt, List.all_cons, List.all_nil, id, gc_b, gc_n, gc_i, slc1, it_tup, List.drop_succ_cons, List.drop_zero]))
  · exact fun acc => rfl
  · simp; omega
  · intro x hm
    refine ⟨_, rfl, fun acc => ?_⟩
    obtain ⟨p, hp, rfl⟩ := List.mem_map.mp hm
    obtain ⟨a, b, c, d⟩ := h.nm p hp
    (simp (config := {decide := true, maxSteps := 1000000}) (disch := omega) only [Df.fn, Nat.reduceAdd, Nat.reduceSub, Nat.reduceMul, Int.reduceToNat, Int.reduceAdd, Int.reduceSub, Int.reduceMul, Int.reduceNeg, Int.reduceLE, Int.reduceLT, at0, at1, at2, at3, Nat.zero_add, Nat.sub_self, List.map_cons, List.map_nil, List.length_cons, List.length_nil, List.replicate_succ, List.replicate_zero, List.cons_append, List.nil_append, List.append_nil, List.getElem?_cons_zero, List.getElem?_cons_succ, Option.join_some, List.set_cons_zero, List.set_cons_succ,
  onB_bl, onO_bl, bind_ok, out_ok, bind_ite, out_ite, seq_next, seq_ret, seq_ite, end_next, end_ret, end_ite, optO_some, optR_some, x_var, x_cst, x_b2, x_b1, x_sset, x_rg, x_and, x_or, x_ite, x_chain, x_tup, x_lst, x_idx, x_slc, x_call, x_isi, x_gin, x_gget, x_comp, x_nil, x_cons, x_asg, x_asgT, x_par, x_sub, x_app, x_ext, x_expr, x_ret, x_retN, x_ife, x_for, x_pass, x_end, x_seq,
  turn_next, turn_ret, turn_ite, pyEq_int, wipeD, setTgt, setEach,
  o_add_i, o_add_t, o_sub, o_mul_i, o_fdiv, o_mod, o_eq, o_ne, o_lt, o_le, o_gt, o_ge, o_mx, o_mn, o_neg, o_len_t, o_len_l, o_int_i, o_int_b, o_isN, o_notN, o_asI, o_isF, o_lnot, o_truth, o_tuple_t, o_tuple_l, o_list_t, o_idx_t, o_all_last, o_tuple_last, MP.isNon, Bool.not_true, Bool.not_false, List.length_append, List.append_assoc,
  truthOf, isTys, isTy, kindD, tyB, gc_self, mkT, mkL, lim, seqOf, Option.map_some, Nat.beq, Bool.or_false, Bool.or_true, decide_eq_true_eq, decide_true, decide_false, Bool.true_and, Bool.true_or, Bool.false_or, Bool.false_and, Bool.and_false, Bool.and_true, if_true, Bool.false_eq_true, if_false, ite_true, ite_false, is_name_ok k (by omega) p _ a b c d])
theorem pyEq_lists {st : Sto} {a b : Nat} {xs : List Int} (ha : lstAt st a = some (xs.map .int)) (hb : lstAt st b = some (xs.map .int)) (h : xs.length ≤ 2) : pyEq st (.loc a) (.loc b) = some true := by
  unfold pyEq
  have t : ∀ n, lstAt st n = some (xs.map .int) → toP st 20 (.loc n) = some (.list (xs.map .int)) := by
    intro n hn
    unfold toP
    rw [hn]
    have : optAll (toP st 19) (xs.map .int) = some (xs.map .int) := by
      clear ha hb hn h
      induction xs with
      | nil => rfl
      | cons x xs ih => simp [optAll, toP, ih]
    simp only [this, Option.map_some]
  rw [t a ha, t b hb]
  match xs, h with
  | [], _ => rfl
  | [x], _ => simp [SeqAt.shaped, PyData.canLay0, PyData.canLayAll0, PyData.depth, PyData.depthAll, PyData.eqv, PyData.eqvAll]
  | [x, y], _ => simp [SeqAt.shaped, PyData.canLay0, PyData.canLayAll0, PyData.depth, PyData.depthAll, PyData.eqv, PyData.eqvAll]

theorem lst_l (st : Sto) (xs : List D) (t : Sto) : lstAt (st ++ .lst xs :: t) st.length = some xs := by unfold lstAt; simp
theorem lst_l1 (st : Sto) (o : O) (xs : List D) (t : Sto) : lstAt (st ++ o :: .lst xs :: t) (st.length + 1) = some xs := by
  unfold lstAt
  rw [List.getElem?_append_right (by omega)]
  simp
theorem lst_l2 (st : Sto) (o o' : O) (xs : List D) (t : Sto) : lstAt (st ++ o :: o' :: .lst xs :: t) (st.length + 2) = some xs := by
  unfold lstAt
  rw [List.getElem?_append_right (by omega)]
  simp
theorem sset_ok (st : Sto) (xs : List Int) (h : ssortI xs = xs) (hl : xs.length < 60) : opSset (.tup (xs.map .int)) st = .ok (.loc st.length) (st ++ [.lst (xs.map .int)]) := by
  unfold opSset
  simp only [toI_map (fun x => x) xs, List.map_id']
  rw [if_pos hl, h]
  rfl
theorem it_rg2 (n m : Int) (st : Sto) (h1 : -1000000 ≤ n) (h2 : n ≤ 1000000) (h3 : -1000000 ≤ m) (h4 : m ≤ 1000000) : itE 2 (.ok (.int n) st) (fun st => .ok (.int m) st) = .ok (.int n, .int m, rangeD n (m - n).toNat) st := by
  unfold itE
  simp only [R.bind, itemsOf]
  rw [if_pos (by simp; omega)]
theorem is_ascending_ok : ∀ k, 1 ≤ k → ∀ (xs : List Int) (st : Sto), ssortI xs = xs → 1 ≤ xs.length → xs.length ≤ 3 → run tb k 41 [.tup (xs.map .int)] st = .ok (.bl true) st := lift fun k _ xs st hs h1 h3 => by
  rw [run_succ (f := d41.fn) rfl rfl]
  have asc : xs.Pairwise (· < ·) := by rw [← hs]; exact ssortI_asc xs
  have key : ∀ q : List D, ∀ A : List D, (∀ x ∈ q, ∃ i : Int, x = .int i ∧ ∃ u v : Int, atD A (i - 1) = some (.int u) ∧ atD A i = some (.int v) ∧ u < v) → q.length ≤ 1000000 → ∀ (still : Sto → Bool), (∀ s, still s = true) →
      compL still (fun x => some [some (.tup A), some x]) (evE (run tb k) (.cst (.bl true))) (evE (run tb k) (.b2 .lt (.idx (.var 0) (.b2 .sub (.var 1) (.cst (.int 1)))) (.idx (.var 0) (.var 1)))) st.length q (st ++ [.lst []]) = .ok (.loc st.length) (st ++ [.lst (q.map fun _ => .bl true)]) := by
    intro q A hq hl still hst
    refine parts (fun _ => true) q (fun _ => hst _) hl fun x hx => ?_
    obtain ⟨i, rfl, u, v, e1, e2, e3⟩ := hq x hx
    refine ⟨_, rfl, fun acc => ?_⟩
    (simp (config := {decide := true, maxSteps := 1000000}) (disch := omega) only [Df.fn, Nat.reduceAdd, Nat.reduceSub, Nat.reduceMul, Int.reduceToNat, Int.reduceAdd, Int.reduceSub, Int.reduceMul, Int.reduceNeg, Int.reduceLE, Int.reduceLT, at0, at1, at2, at3, Nat.zero_add, Nat.sub_self, List.map_cons, List.map_nil, List.length_cons, List.length_nil, List.replicate_succ, List.replicate_zero, List.cons_append, List.nil_append, List.append_nil, List.getElem?_cons_zero, List.getElem?_cons_succ, Option.join_some, List.set_cons_zero, List.set_cons_succ,
  onB_bl, onO_bl, bind_ok, out_ok, bind_ite, out_ite, seq_next, seq_ret, seq_ite, end_next, end_ret, end_ite, optO_some, optR_some, x_var, x_cst, x_b2, x_b1, x_sset, x_rg, x_and, x_or, x_ite, x_chain, x_tup, x_lst, x_idx, x_slc, x_call, x_isi, x_gin, x_gget, x_comp, x_nil, x_cons, x_asg, x_asgT, x_par, x_sub, x_app, x_ext, x_expr, x_ret, x_retN, x_ife, x_for, x_pass, x_end, x_seq,
  turn_next, turn_ret, turn_ite, pyEq_int, wipeD, setTgt, setEach,
  o_add_i, o_add_t, o_sub, o_mul_i, o_fdiv, o_mod, o_eq, o_ne, o_lt, o_le, o_gt, o_ge, o_mx, o_mn, o_neg, o_len_t, o_len_l, o_int_i, o_int_b, o_isN, o_notN, o_asI, o_isF, o_lnot, o_truth, o_tuple_t, o_tuple_l, o_list_t, o_idx_t, o_all_last, o_tuple_last, MP.isNon, Bool.not_true, Bool.not_false, List.length_append, List.append_assoc,
  truthOf, isTys, isTy, kindD, tyB, gc_self, mkT, mkL, lim, seqOf, Option.map_some, Nat.beq, Bool.or_false, Bool.or_true, decide_eq_true_eq, decide_true, decide_false, Bool.true_and, Bool.true_or, Bool.false_or, Bool.false_and, Bool.and_false, Bool.and_true, if_true, Bool.false_eq_true, if_false, ite_true, ite_false, e1, e2])
    simp [e3]
  match xs, h1, h3, asc with
  | [x], _, _, _ =>
    ((simp (config := {decide := true, maxSteps := 1000000}) (disch := omega) only [Df.fn, Nat.reduceAdd, Nat.reduceSub, Nat.reduceMul, Int.reduceToNat, Int.reduceAdd, Int.reduceSub, Int.reduceMul, Int.reduceNeg, Int.reduceLE, Int.reduceLT, at0, at1, at2, at3, Nat.zero_add, Nat.sub_self, List.map_cons, List.map_nil, List.length_cons, List.length_nil, List.replicate_succ, List.replicate_zero, List.cons_append, List.nil_append, List.append_nil, List.getElem?_cons_zero, List.getElem?_cons_succ, Option.join_some, List.set_cons_zero, List.set_cons_succ,
  onB_bl, onO_bl, bind_ok, out_ok, bind_ite, out_ite, seq_next, seq_ret, seq_ite, end_next, end_ret, end_ite, optO_some, optR_some, x_var, x_cst, x_b2, x_b1, x_sset, x_rg, x_and, x_or, x_ite, x_chain, x_tup, x_lst, x_idx, x_slc, x_call, x_isi, x_gin, x_gget, x_comp, x_nil, x_cons, x_asg, x_asgT, x_par, x_sub, x_app, x_ext, x_expr, x_ret, x_retN, x_ife, x_for, x_pass, x_end, x_seq,
  turn_next, turn_ret, turn_ite, pyEq_int, wipeD, setTgt, setEach,
  o_add_i, o_add_t, o_sub, o_mul_i, o_fdiv, o_mod, o_eq, o_ne, o_lt, o_le, o_gt, o_ge, o_mx, o_mn, o_neg, o_len_t, o_len_l, o_int_i, o_int_b, o_isN, o_notN, o_asI, o_isF, o_lnot, o_truth, o_tuple_t, o_tuple_l, o_list_t, o_idx_t, o_all_last, o_tuple_last, MP.isNon, Bool.not_true, Bool.not_false, List.length_append, List.append_assoc,
  truthOf, isTys, isTy, kindD, tyB, gc_self, mkT, mkL, lim, seqOf, Option.map_some, Nat.beq, Bool.or_false, Bool.or_true, decide_eq_true_eq, decide_true, decide_false, Bool.true_and, Bool.true_or, Bool.false_or, Bool.false_and, Bool.and_false, Bool.and_true, if_true, Bool.false_eq_true, if_false, ite_true, ite_false, toB_map, toB, optAll, all_q, all_tt, List.all_cons, List.all_nil, id, gc_b, gc_n, gc_i, slc1, it_tup, List.drop_succ_cons, List.drop_zero, d41, it_rg2]))
    rw [show rangeD 1 (((1 : Nat) : Int) - 1).toNat = [] from rfl]
    rw [key [] [.int x] (by simp) (by simp) (stillOf 2 (.int 1) (.int ((1 : Nat) : Int)) st) (fun _ => rfl)]
    ((simp (config := {decide := true, maxSteps := 1000000}) (disch := omega) only [Df.fn, Nat.reduceAdd, Nat.reduceSub, Nat.reduceMul, Int.reduceToNat, Int.reduceAdd, Int.reduceSub, Int.reduceMul, Int.reduceNeg, Int.reduceLE, Int.reduceLT, at0, at1, at2, at3, Nat.zero_add, Nat.sub_self, List.map_cons, List.map_nil, List.length_cons, List.length_nil, List.replicate_succ, List.replicate_zero, List.cons_append, List.nil_append, List.append_nil, List.getElem?_cons_zero, List.getElem?_cons_succ, Option.join_some, List.set_cons_zero, List.set_cons_succ,
  onB_bl, onO_bl, bind_ok, out_ok, bind_ite, out_ite, seq_next, seq_ret, seq_ite, end_next, end_ret, end_ite, optO_some, optR_some, x_var, x_cst, x_b2, x_b1, x_sset, x_rg, x_and, x_or, x_ite, x_chain, x_tup, x_lst, x_idx, x_slc, x_call, x_isi, x_gin, x_gget, x_comp, x_nil, x_cons, x_asg, x_asgT, x_par, x_sub, x_app, x_ext, x_expr, x_ret, x_retN, x_ife, x_for, x_pass, x_end, x_seq,
  turn_next, turn_ret, turn_ite, pyEq_int, wipeD, setTgt, setEach,
  o_add_i, o_add_t, o_sub, o_mul_i, o_fdiv, o_mod, o_eq, o_ne, o_lt, o_le, o_gt, o_ge, o_mx, o_mn, o_neg, o_len_t, o_len_l, o_int_i, o_int_b, o_isN, o_notN, o_asI, o_isF, o_lnot, o_truth, o_tuple_t, o_tuple_l, o_list_t, o_idx_t, o_all_last, o_tuple_last, MP.isNon, Bool.not_true, Bool.not_false, List.length_append, List.append_assoc,
  truthOf, isTys, isTy, kindD, tyB, gc_self, mkT, mkL, lim, seqOf, Option.map_some, Nat.beq, Bool.or_false, Bool.or_true, decide_eq_true_eq, decide_true, decide_false, Bool.true_and, Bool.true_or, Bool.false_or, Bool.false_and, Bool.and_false, Bool.and_true, if_true, Bool.false_eq_true, if_false, ite_true, ite_false, toB_map, toB, optAll, all_q, all_tt, List.all_cons, List.all_nil, id, gc_b, gc_n, gc_i, slc1, it_tup, List.drop_succ_cons, List.drop_zero]))
  | [x, y], _, _, asc =>
    simp only [List.pairwise_cons, List.mem_cons, List.not_mem_nil, or_false, forall_eq] at asc
    ((simp (config := {decide := true, maxSteps := 1000000}) (disch := omega) only [Df.fn, Nat.reduceAdd, Nat.reduceSub, Nat.reduceMul, Int.reduceToNat, Int.reduceAdd, Int.reduceSub, Int.reduceMul, Int.reduceNeg, Int.reduceLE, Int.reduceLT, at0, at1, at2, at3, Nat.zero_add, Nat.sub_self, List.map_cons, List.map_nil, List.length_cons, List.length_nil, List.replicate_succ, List.replicate_zero, List.cons_append, List.nil_append, List.append_nil, List.getElem?_cons_zero, List.getElem?_cons_succ, Option.join_some, List.set_cons_zero, List.set_cons_succ,
  onB_bl, onO_bl, bind_ok, out_ok, bind_ite, out_ite, seq_next, seq_ret, seq_ite, end_next, end_ret, end_ite, optO_some, optR_some, x_var, x_cst, x_b2, x_b1, x_sset, x_rg, x_and, x_or, x_ite, x_chain, x_tup, x_lst, x_idx, x_slc, x_call, x_isi, x_gin, x_gget, x_comp, x_nil, x_cons, x_asg, x_asgT, x_par, x_sub, x_app, x_ext, x_expr, x_ret, x_retN, x_ife, x_for, x_pass, x_end, x_seq,
  turn_next, turn_ret, turn_ite, pyEq_int, wipeD, setTgt, setEach,
  o_add_i, o_add_t, o_sub, o_mul_i, o_fdiv, o_mod, o_eq, o_ne, o_lt, o_le, o_gt, o_ge, o_mx, o_mn, o_neg, o_len_t, o_len_l, o_int_i, o_int_b, o_isN, o_notN, o_asI, o_isF, o_lnot, o_truth, o_tuple_t, o_tuple_l, o_list_t, o_idx_t, o_all_last, o_tuple_last, MP.isNon, Bool.not_true, Bool.not_false, List.length_append, List.append_assoc,
  truthOf, isTys, isTy, kindD, tyB, gc_self, mkT, mkL, lim, seqOf, Option.map_some, Nat.beq, Bool.or_false, Bool.or_true, decide_eq_true_eq, decide_true, decide_false, Bool.true_and, Bool.true_or, Bool.false_or, Bool.false_and, Bool.and_false, Bool.and_true, if_true, Bool.false_eq_true, if_false, ite_true, ite_false, toB_map, toB, optAll, all_q, all_tt, List.all_cons, List.all_nil, id, gc_b, gc_n, gc_i, slc1, it_tup, List.drop_succ_cons, List.drop_zero, d41, it_rg2]))
    rw [show rangeD 1 (((2 : Nat) : Int) - 1).toNat = [.int 1] from rfl]
    rw [key [.int 1] [.int x, .int y] (by
      intro z hz
      simp only [List.mem_cons, List.not_mem_nil, or_false] at hz
      exact ⟨1, hz, x, y, rfl, rfl, asc.1⟩) (by simp) (stillOf 2 (.int 1) (.int ((2 : Nat) : Int)) st) (fun _ => rfl)]
    ((simp (config := {decide := true, maxSteps := 1000000}) (disch := omega) only [Df.fn, Nat.reduceAdd, Nat.reduceSub, Nat.reduceMul, Int.reduceToNat, Int.reduceAdd, Int.reduceSub, Int.reduceMul, Int.reduceNeg, Int.reduceLE, Int.reduceLT, at0, at1, at2, at3, Nat.zero_add, Nat.sub_self, List.map_cons, List.map_nil, List.length_cons, List.length_nil, List.replicate_succ, List.replicate_zero, List.cons_append, List.nil_append, List.append_nil, List.getElem?_cons_zero, List.getElem?_cons_succ, Option.join_some, List.set_cons_zero, List.set_cons_succ,
  onB_bl, onO_bl, bind_ok, out_ok, bind_ite, out_ite, seq_next, seq_ret, seq_ite, end_next, end_ret, end_ite, optO_some, optR_some, x_var, x_cst, x_b2, x_b1, x_sset, x_rg, x_and, x_or, x_ite, x_chain, x_tup, x_lst, x_idx, x_slc, x_call, x_isi, x_gin, x_gget, x_comp, x_nil, x_cons, x_asg, x_asgT, x_par, x_sub, x_app, x_ext, x_expr, x_ret, x_retN, x_ife, x_for, x_pass, x_end, x_seq,
  turn_next, turn_ret, turn_ite, pyEq_int, wipeD, setTgt, setEach,
  o_add_i, o_add_t, o_sub, o_mul_i, o_fdiv, o_mod, o_eq, o_ne, o_lt, o_le, o_gt, o_ge, o_mx, o_mn, o_neg, o_len_t, o_len_l, o_int_i, o_int_b, o_isN, o_notN, o_asI, o_isF, o_lnot, o_truth, o_tuple_t, o_tuple_l, o_list_t, o_idx_t, o_all_last, o_tuple_last, MP.isNon, Bool.not_true, Bool.not_false, List.length_append, List.append_assoc,
  truthOf, isTys, isTy, kindD, tyB, gc_self, mkT, mkL, lim, seqOf, Option.map_some, Nat.beq, Bool.or_false, Bool.or_true, decide_eq_true_eq, decide_true, decide_false, Bool.true_and, Bool.true_or, Bool.false_or, Bool.false_and, Bool.and_false, Bool.and_true, if_true, Bool.false_eq_true, if_false, ite_true, ite_false, toB_map, toB, optAll, all_q, all_tt, List.all_cons, List.all_nil, id, gc_b, gc_n, gc_i, slc1, it_tup, List.drop_succ_cons, List.drop_zero]))
  | [x, y, z], _, _, asc =>
    simp only [List.pairwise_cons, List.mem_cons, List.not_mem_nil, or_false, forall_eq] at asc
    have a1 : x < y := asc.1 y (.inl rfl)
    have a2 : y < z := by
      have := asc.2.1
      simpa using this
    ((simp (config := {decide := true, maxSteps := 1000000}) (disch := omega) only [Df.fn, Nat.reduceAdd, Nat.reduceSub, Nat.reduceMul, Int.reduceToNat, Int.reduceAdd, Int.reduceSub, Int.reduceMul, Int.reduceNeg, Int.reduceLE, Int.reduceLT, at0, at1, at2, at3, Nat.zero_add, Nat.sub_self, List.map_cons, List.map_nil, List.length_cons, List.length_nil, List.replicate_succ, List.replicate_zero, List.cons_append, List.nil_append, List.append_nil, List.getElem?_cons_zero, List.getElem?_cons_succ, Option.join_some, List.set_cons_zero, List.set_cons_succ,
  onB_bl, onO_bl, bind_ok, out_ok, bind_ite, out_ite, seq_next, seq_ret, seq_ite, end_next, end_ret, end_ite, optO_some, optR_some, x_var, x_cst, x_b2, x_b1, x_sset, x_rg, x_and, x_or, x_ite, x_chain, x_tup, x_lst, x_idx, x_slc, x_call, x_isi, x_gin, x_gget, x_comp, x_nil, x_cons, x_asg, x_asgT, x_par, x_sub, x_app, x_ext, x_expr, x_ret, x_retN, x_ife, x_for, x_pass, x_end, x_seq,
  turn_next, turn_ret, turn_ite, pyEq_int, wipeD, setTgt, setEach,
  o_add_i, o_add_t, o_sub, o_mul_i, o_fdiv, o_mod, o_eq, o_ne, o_lt, o_le, o_gt, o_ge, o_mx, o_mn, o_neg, o_len_t, o_len_l, o_int_i, o_int_b, o_isN, o_notN, o_asI, o_isF, o_lnot, o_truth, o_tuple_t, o_tuple_l, o_list_t, o_idx_t, o_all_last, o_tuple_last, MP.isNon, Bool.not_true, Bool.not_false, List.length_append, List.append_assoc,
  truthOf, isTys, isTy, kindD, tyB, gc_self, mkT, mkL, lim, seqOf, Option.map_some, Nat.beq, Bool.or_false, Bool.or_true, decide_eq_true_eq, decide_true, decide_false, Bool.true_and, Bool.true_or, Bool.false_or, Bool.false_and, Bool.and_false, Bool.and_true, if_true, Bool.false_eq_true, if_false, ite_true, ite_false, toB_map, toB, optAll, all_q, all_tt, List.all_cons, List.all_nil, id, gc_b, gc_n, gc_i, slc1, it_tup, List.drop_succ_cons, List.drop_zero, d41, it_rg2]))
    rw [show rangeD 1 (((3 : Nat) : Int) - 1).toNat = [.int 1, .int 2] from rfl]
    rw [key [.int 1, .int 2] [.int x, .int y, .int z] (by
      intro w hw
      simp only [List.mem_cons, List.not_mem_nil, or_false] at hw
      rcases hw with rfl | rfl
      · exact ⟨1, rfl, x, y, rfl, rfl, a1⟩
      · exact ⟨2, rfl, y, z, rfl, rfl, a2⟩) (by simp) (stillOf 2 (.int 1) (.int ((3 : Nat) : Int)) st) (fun _ => rfl)]
    ((simp (config := {decide := true, maxSteps := 1000000}) (disch := omega) only [Df.fn, Nat.reduceAdd, Nat.reduceSub, Nat.reduceMul, Int.reduceToNat, Int.reduceAdd, Int.reduceSub, Int.reduceMul, Int.reduceNeg, Int.reduceLE, Int.reduceLT, at0, at1, at2, at3, Nat.zero_add, Nat.sub_self, List.map_cons, List.map_nil, List.length_cons, List.length_nil, List.replicate_succ, List.replicate_zero, List.cons_append, List.nil_append, List.append_nil, List.getElem?_cons_zero, List.getElem?_cons_succ, Option.join_some, List.set_cons_zero, List.set_cons_succ,
  onB_bl, onO_bl, bind_ok, out_ok, bind_ite, out_ite, seq_next, seq_ret, seq_ite, end_next, end_ret, end_ite, optO_some, optR_some, x_var, x_cst, x_b2, x_b1, x_sset, x_rg, x_and, x_or, x_ite, x_chain, x_tup, x_lst, x_idx, x_slc, x_call, x_isi, x_gin, x_gget, x_comp, x_nil, x_cons, x_asg, x_asgT, x_par, x_sub, x_app, x_ext, x_expr, x_ret, x_retN, x_ife, x_for, x_pass, x_end, x_seq,
  turn_next, turn_ret, turn_ite, pyEq_int, wipeD, setTgt, setEach,
  o_add_i, o_add_t, o_sub, o_mul_i, o_fdiv, o_mod, o_eq, o_ne, o_lt, o_le, o_gt, o_ge, o_mx, o_mn, o_neg, o_len_t, o_len_l, o_int_i, o_int_b, o_isN, o_notN, o_asI, o_isF, o_lnot, o_truth, o_tuple_t, o_tuple_l, o_list_t, o_idx_t, o_all_last, o_tuple_last, MP.isNon, Bool.not_true, Bool.not_false, List.length_append, List.append_assoc,
  truthOf, isTys, isTy, kindD, tyB, gc_self, mkT, mkL, lim, seqOf, Option.map_some, Nat.beq, Bool.or_false, Bool.or_true, decide_eq_true_eq, decide_true, decide_false, Bool.true_and, Bool.true_or, Bool.false_or, Bool.false_and, Bool.and_false, Bool.and_true, if_true, Bool.false_eq_true, if_false, ite_true, ite_false, toB_map, toB, optAll, all_q, all_tt, List.all_cons, List.all_nil, id, gc_b, gc_n, gc_i, slc1, it_tup, List.drop_succ_cons, List.drop_zero]))
theorem are_numbers_ok : ∀ k, 2 ≤ k → ∀ (m : Ml) (st : Sto), m.ok → run tb k 44 [.tup (m.told.map .int), .int m.names.length] st = .ok (.bl true) st := lift fun k hk m st h => by
  rw [run_succ (f := d44.fn) rfl rfl]
  have h1 := h.n1
  have h2 := h.n2
  have key : ∀ xs : List Int, ssortI xs = xs → 1 ≤ xs.length → xs.length ≤ 3 → xs.length ≤ m.names.length → (∀ x ∈ xs, 0 ≤ x ∧ x < m.names.length) →
      endCall st (evSs (run tb k) d44.fn.body (List.map some [.tup (xs.map .int), .int m.names.length] ++ List.replicate (d44.fn.ns - d44.fn.ps) none) st) = .ok (.bl true) st := by
    intro xs hs ha hb hc hx
    have e1 : (decide (0 ≤ ((xs.map D.int).length : Int)) && decide (((xs.map D.int).length : Int) ≤ (m.names.length : Int))) = true := by simp; omega
    have asc := fun st => is_ascending_ok k (by omega) xs st hs ha hb
    ((simp (config := {decide := true, maxSteps := 1000000}) (disch := omega) only [Df.fn, Nat.reduceAdd, Nat.reduceSub, Nat.reduceMul, Int.reduceToNat, Int.reduceAdd, Int.reduceSub, Int.reduceMul, Int.reduceNeg, Int.reduceLE, Int.reduceLT, at0, at1, at2, at3, Nat.zero_add, Nat.sub_self, List.map_cons, List.map_nil, List.length_cons, List.length_nil, List.replicate_succ, List.replicate_zero, List.cons_append, List.nil_append, List.append_nil, List.getElem?_cons_zero, List.getElem?_cons_succ, Option.join_some, List.set_cons_zero, List.set_cons_succ,
  onB_bl, onO_bl, bind_ok, out_ok, bind_ite, out_ite, seq_next, seq_ret, seq_ite, end_next, end_ret, end_ite, optO_some, optR_some, x_var, x_cst, x_b2, x_b1, x_sset, x_rg, x_and, x_or, x_ite, x_chain, x_tup, x_lst, x_idx, x_slc, x_call, x_isi, x_gin, x_gget, x_comp, x_nil, x_cons, x_asg, x_asgT, x_par, x_sub, x_app, x_ext, x_expr, x_ret, x_retN, x_ife, x_for, x_pass, x_end, x_seq,
  turn_next, turn_ret, turn_ite, pyEq_int, wipeD, setTgt, setEach,
  o_add_i, o_add_t, o_sub, o_mul_i, o_fdiv, o_mod, o_eq, o_ne, o_lt, o_le, o_gt, o_ge, o_mx, o_mn, o_neg, o_len_t, o_len_l, o_int_i, o_int_b, o_isN, o_notN, o_asI, o_isF, o_lnot, o_truth, o_tuple_t, o_tuple_l, o_list_t, o_idx_t, o_all_last, o_tuple_last, MP.isNon, Bool.not_true, Bool.not_false, List.length_append, List.append_assoc,
  truthOf, isTys, isTy, kindD, tyB, gc_self, mkT, mkL, lim, seqOf, Option.map_some, Nat.beq, Bool.or_false, Bool.or_true, decide_eq_true_eq, decide_true, decide_false, Bool.true_and, Bool.true_or, Bool.false_or, Bool.false_and, Bool.and_false, Bool.and_true, if_true, Bool.false_eq_true, if_false, ite_true, ite_false, toB_map, toB, optAll, all_q, all_tt, List.all_cons, List.all_nil, id, gc_b, gc_n, gc_i, slc1, it_tup, List.drop_succ_cons, List.drop_zero, d44, is_tuple_ok k (by omega) _ _ _ _ (kno_tup _ _), tuD, e1]))
    rw [parts (fun _ => true) (xs.map .int) ?_ ?_ ?_]
    · ((simp (config := {decide := true, maxSteps := 1000000}) (disch := omega) only [Df.fn, Nat.reduceAdd, Nat.reduceSub, Nat.reduceMul, Int.reduceToNat, Int.reduceAdd, Int.reduceSub, Int.reduceMul, Int.reduceNeg, Int.reduceLE, Int.reduceLT, at0, at1, at2, at3, Nat.zero_add, Nat.sub_self, List.map_cons, List.map_nil, List.length_cons, List.length_nil, List.replicate_succ, List.replicate_zero, List.cons_append, List.nil_append, List.append_nil, List.getElem?_cons_zero, List.getElem?_cons_succ, Option.join_some, List.set_cons_zero, List.set_cons_succ,
  onB_bl, onO_bl, bind_ok, out_ok, bind_ite, out_ite, seq_next, seq_ret, seq_ite, end_next, end_ret, end_ite, optO_some, optR_some, x_var, x_cst, x_b2, x_b1, x_sset, x_rg, x_and, x_or, x_ite, x_chain, x_tup, x_lst, x_idx, x_slc, x_call, x_isi, x_gin, x_gget, x_comp, x_nil, x_cons, x_asg, x_asgT, x_par, x_sub, x_app, x_ext, x_expr, x_ret, x_retN, x_ife, x_for, x_pass, x_end, x_seq,
  turn_next, turn_ret, turn_ite, pyEq_int, wipeD, setTgt, setEach,
  o_add_i, o_add_t, o_sub, o_mul_i, o_fdiv, o_mod, o_eq, o_ne, o_lt, o_le, o_gt, o_ge, o_mx, o_mn, o_neg, o_len_t, o_len_l, o_int_i, o_int_b, o_isN, o_notN, o_asI, o_isF, o_lnot, o_truth, o_tuple_t, o_tuple_l, o_list_t, o_idx_t, o_all_last, o_tuple_last, MP.isNon, Bool.not_true, Bool.not_false, List.length_append, List.append_assoc,
  truthOf, isTys, isTy, kindD, tyB, gc_self, mkT, mkL, lim, seqOf, Option.map_some, Nat.beq, Bool.or_false, Bool.or_true, decide_eq_true_eq, decide_true, decide_false, Bool.true_and, Bool.true_or, Bool.false_or, Bool.false_and, Bool.and_false, Bool.and_true, if_true, Bool.false_eq_true, if_false, ite_true, ite_false, toB_map, toB, optAll, all_q, all_tt, List.all_cons, List.all_nil, id, gc_b, gc_n, gc_i, slc1, it_tup, List.drop_succ_cons, List.drop_zero, asc]))
    · exact fun acc => rfl
    · simp; omega
    · intro x hm
      refine ⟨_, rfl, fun acc => ?_⟩
      obtain ⟨p, hp, rfl⟩ := List.mem_map.mp hm
      have := hx p hp
      (simp (config := {decide := true, maxSteps := 1000000}) (disch := omega) only [Df.fn, Nat.reduceAdd, Nat.reduceSub, Nat.reduceMul, Int.reduceToNat, Int.reduceAdd, Int.reduceSub, Int.reduceMul, Int.reduceNeg, Int.reduceLE, Int.reduceLT, at0, at1, at2, at3, Nat.zero_add, Nat.sub_self, List.map_cons, List.map_nil, List.length_cons, List.length_nil, List.replicate_succ, List.replicate_zero, List.cons_append, List.nil_append, List.append_nil, List.getElem?_cons_zero, List.getElem?_cons_succ, Option.join_some, List.set_cons_zero, List.set_cons_succ,
  onB_bl, onO_bl, bind_ok, out_ok, bind_ite, out_ite, seq_next, seq_ret, seq_ite, end_next, end_ret, end_ite, optO_some, optR_some, x_var, x_cst, x_b2, x_b1, x_sset, x_rg, x_and, x_or, x_ite, x_chain, x_tup, x_lst, x_idx, x_slc, x_call, x_isi, x_gin, x_gget, x_comp, x_nil, x_cons, x_asg, x_asgT, x_par, x_sub, x_app, x_ext, x_expr, x_ret, x_retN, x_ife, x_for, x_pass, x_end, x_seq,
  turn_next, turn_ret, turn_ite, pyEq_int, wipeD, setTgt, setEach,
  o_add_i, o_add_t, o_sub, o_mul_i, o_fdiv, o_mod, o_eq, o_ne, o_lt, o_le, o_gt, o_ge, o_mx, o_mn, o_neg, o_len_t, o_len_l, o_int_i, o_int_b, o_isN, o_notN, o_asI, o_isF, o_lnot, o_truth, o_tuple_t, o_tuple_l, o_list_t, o_idx_t, o_all_last, o_tuple_last, MP.isNon, Bool.not_true, Bool.not_false, List.length_append, List.append_assoc,
  truthOf, isTys, isTy, kindD, tyB, gc_self, mkT, mkL, lim, seqOf, Option.map_some, Nat.beq, Bool.or_false, Bool.or_true, decide_eq_true_eq, decide_true, decide_false, Bool.true_and, Bool.true_or, Bool.false_or, Bool.false_and, Bool.and_false, Bool.and_true, if_true, Bool.false_eq_true, if_false, ite_true, ite_false, is_within_ok k (by omega) _ _ _ _ (kno_int _ _), wiD])
      simp
      omega
  rcases h.td with e | ⟨hn, e | e⟩
  · rw [e]; exact key [0] rfl (by simp) (by simp) (by simp; omega) (by simp; omega)
  · rw [e]; exact key [1] rfl (by simp) (by simp) (by simp; omega) (by simp; omega)
  · rw [e]; exact key [0, 1] rfl (by simp) (by simp) (by simp; omega) (by simp; omega)
theorem are_told_ok : ∀ k, 3 ≤ k → ∀ (m : Ml) (st : Sto), m.ok → run tb k 16 [.tup (m.told.map .int), .int m.names.length] st = .ok (.bl true) st := lift fun k hk m st h => by
  rw [run_succ (f := d16.fn) rfl rfl]
  have t1 := fun st => are_numbers_ok k (by omega) m st h
  have h1 : 1 ≤ m.told.length := by
    rcases h.td with e | ⟨hn, e | e⟩ <;> rw [e] <;> simp
  ((simp (config := {decide := true, maxSteps := 1000000}) (disch := omega) only [Df.fn, Nat.reduceAdd, Nat.reduceSub, Nat.reduceMul, Int.reduceToNat, Int.reduceAdd, Int.reduceSub, Int.reduceMul, Int.reduceNeg, Int.reduceLE, Int.reduceLT, at0, at1, at2, at3, Nat.zero_add, Nat.sub_self, List.map_cons, List.map_nil, List.length_cons, List.length_nil, List.replicate_succ, List.replicate_zero, List.cons_append, List.nil_append, List.append_nil, List.getElem?_cons_zero, List.getElem?_cons_succ, Option.join_some, List.set_cons_zero, List.set_cons_succ,
  onB_bl, onO_bl, bind_ok, out_ok, bind_ite, out_ite, seq_next, seq_ret, seq_ite, end_next, end_ret, end_ite, optO_some, optR_some, x_var, x_cst, x_b2, x_b1, x_sset, x_rg, x_and, x_or, x_ite, x_chain, x_tup, x_lst, x_idx, x_slc, x_call, x_isi, x_gin, x_gget, x_comp, x_nil, x_cons, x_asg, x_asgT, x_par, x_sub, x_app, x_ext, x_expr, x_ret, x_retN, x_ife, x_for, x_pass, x_end, x_seq,
  turn_next, turn_ret, turn_ite, pyEq_int, wipeD, setTgt, setEach,
  o_add_i, o_add_t, o_sub, o_mul_i, o_fdiv, o_mod, o_eq, o_ne, o_lt, o_le, o_gt, o_ge, o_mx, o_mn, o_neg, o_len_t, o_len_l, o_int_i, o_int_b, o_isN, o_notN, o_asI, o_isF, o_lnot, o_truth, o_tuple_t, o_tuple_l, o_list_t, o_idx_t, o_all_last, o_tuple_last, MP.isNon, Bool.not_true, Bool.not_false, List.length_append, List.append_assoc,
  truthOf, isTys, isTy, kindD, tyB, gc_self, mkT, mkL, lim, seqOf, Option.map_some, Nat.beq, Bool.or_false, Bool.or_true, decide_eq_true_eq, decide_true, decide_false, Bool.true_and, Bool.true_or, Bool.false_or, Bool.false_and, Bool.and_false, Bool.and_true, if_true, Bool.false_eq_true, if_false, ite_true, ite_false, toB_map, toB, optAll, all_q, all_tt, List.all_cons, List.all_nil, id, gc_b, gc_n, gc_i, slc1, it_tup, List.drop_succ_cons, List.drop_zero, d16, t1]))
  simp
  omega

theorem check_mill_ok : ∀ k, 14 ≤ k → ∀ (m : Ml) (st : Sto), m.ok → run tb k 12 [m.d] st = .ok .non st := lift fun k hk m st h => by
  obtain ⟨k, rfl⟩ : ∃ j, k = j + 1 := ⟨k - 1, by omega⟩
  have w : run tb (k + 1) 13 [m.d] st = .ok .non st := by
    rw [run_succ (f := d13.fn) rfl rfl]
    have h1 := h.l1
    have h3 := h.l3
    have t1 := fun st => are_names_ok k (by omega) m st h
    have t2 := fun st => are_told_ok k (by omega) m st h
    have t3 := fun st => are_equations_ok k (by omega) m.names.length m.eqs st (by have := h.e3; omega) h.eq
    simp only [Ml.nd] at t1
    have e1 : (decide (1 ≤ m.letters) && decide (m.letters ≤ 3)) = true := by simp; omega
    ((simp (config := {decide := true, maxSteps := 1000000}) (disch := omega) only [Df.fn, Nat.reduceAdd, Nat.reduceSub, Nat.reduceMul, Int.reduceToNat, Int.reduceAdd, Int.reduceSub, Int.reduceMul, Int.reduceNeg, Int.reduceLE, Int.reduceLT, at0, at1, at2, at3, Nat.zero_add, Nat.sub_self, List.map_cons, List.map_nil, List.length_cons, List.length_nil, List.replicate_succ, List.replicate_zero, List.cons_append, List.nil_append, List.append_nil, List.getElem?_cons_zero, List.getElem?_cons_succ, Option.join_some, List.set_cons_zero, List.set_cons_succ,
  onB_bl, onO_bl, bind_ok, out_ok, bind_ite, out_ite, seq_next, seq_ret, seq_ite, end_next, end_ret, end_ite, optO_some, optR_some, x_var, x_cst, x_b2, x_b1, x_sset, x_rg, x_and, x_or, x_ite, x_chain, x_tup, x_lst, x_idx, x_slc, x_call, x_isi, x_gin, x_gget, x_comp, x_nil, x_cons, x_asg, x_asgT, x_par, x_sub, x_app, x_ext, x_expr, x_ret, x_retN, x_ife, x_for, x_pass, x_end, x_seq,
  turn_next, turn_ret, turn_ite, pyEq_int, wipeD, setTgt, setEach,
  o_add_i, o_add_t, o_sub, o_mul_i, o_fdiv, o_mod, o_eq, o_ne, o_lt, o_le, o_gt, o_ge, o_mx, o_mn, o_neg, o_len_t, o_len_l, o_int_i, o_int_b, o_isN, o_notN, o_asI, o_isF, o_lnot, o_truth, o_tuple_t, o_tuple_l, o_list_t, o_idx_t, o_all_last, o_tuple_last, MP.isNon, Bool.not_true, Bool.not_false, List.length_append, List.append_assoc,
  truthOf, isTys, isTy, kindD, tyB, gc_self, mkT, mkL, lim, seqOf, Option.map_some, Nat.beq, Bool.or_false, Bool.or_true, decide_eq_true_eq, decide_true, decide_false, Bool.true_and, Bool.true_or, Bool.false_or, Bool.false_and, Bool.and_false, Bool.and_true, if_true, Bool.false_eq_true, if_false, ite_true, ite_false, toB_map, toB, optAll, all_q, all_tt, List.all_cons, List.all_nil, id, gc_b, gc_n, gc_i, slc1, it_tup, List.drop_succ_cons, List.drop_zero, d13, Ml.d, Ml.nd, is_tuple_ok k (by omega) _ _ _ _ (kno_tup _ _), is_within_ok k (by omega) _ _ _ _ (kno_int _ _), tuD, wiD, e1, t1, t2, t3, List.length_map]))
  rw [run_succ (f := d12.fn) rfl rfl]
  ((simp (config := {decide := true, maxSteps := 1000000}) (disch := omega) only [Df.fn, Nat.reduceAdd, Nat.reduceSub, Nat.reduceMul, Int.reduceToNat, Int.reduceAdd, Int.reduceSub, Int.reduceMul, Int.reduceNeg, Int.reduceLE, Int.reduceLT, at0, at1, at2, at3, Nat.zero_add, Nat.sub_self, List.map_cons, List.map_nil, List.length_cons, List.length_nil, List.replicate_succ, List.replicate_zero, List.cons_append, List.nil_append, List.append_nil, List.getElem?_cons_zero, List.getElem?_cons_succ, Option.join_some, List.set_cons_zero, List.set_cons_succ,
  onB_bl, onO_bl, bind_ok, out_ok, bind_ite, out_ite, seq_next, seq_ret, seq_ite, end_next, end_ret, end_ite, optO_some, optR_some, x_var, x_cst, x_b2, x_b1, x_sset, x_rg, x_and, x_or, x_ite, x_chain, x_tup, x_lst, x_idx, x_slc, x_call, x_isi, x_gin, x_gget, x_comp, x_nil, x_cons, x_asg, x_asgT, x_par, x_sub, x_app, x_ext, x_expr, x_ret, x_retN, x_ife, x_for, x_pass, x_end, x_seq,
  turn_next, turn_ret, turn_ite, pyEq_int, wipeD, setTgt, setEach,
  o_add_i, o_add_t, o_sub, o_mul_i, o_fdiv, o_mod, o_eq, o_ne, o_lt, o_le, o_gt, o_ge, o_mx, o_mn, o_neg, o_len_t, o_len_l, o_int_i, o_int_b, o_isN, o_notN, o_asI, o_isF, o_lnot, o_truth, o_tuple_t, o_tuple_l, o_list_t, o_idx_t, o_all_last, o_tuple_last, MP.isNon, Bool.not_true, Bool.not_false, List.length_append, List.append_assoc,
  truthOf, isTys, isTy, kindD, tyB, gc_self, mkT, mkL, lim, seqOf, Option.map_some, Nat.beq, Bool.or_false, Bool.or_true, decide_eq_true_eq, decide_true, decide_false, Bool.true_and, Bool.true_or, Bool.false_or, Bool.false_and, Bool.and_false, Bool.and_true, if_true, Bool.false_eq_true, if_false, ite_true, ite_false, toB_map, toB, optAll, all_q, all_tt, List.all_cons, List.all_nil, id, gc_b, gc_n, gc_i, slc1, it_tup, List.drop_succ_cons, List.drop_zero, d12, w]))
/-! ### columns -/
def cD (c : List Int) : D := .tup (c.map .int)
def colsD (cs : List (List Int)) : D := .tup (cs.map cD)
structure Ml.col (m : Ml) (c : List Int) : Prop where
  len : c.length = m.names.length + 1
  l0 : ∃ a r, c = a :: r ∧ 0 ≤ a ∧ a < m.letters ∧ ∀ q ∈ m.names.zip r, 0 ≤ q.2 ∧ q.2 < q.1.1
theorem is_letter_ok : ∀ k, 2 ≤ k → ∀ (m : Ml) (a : Int) (st : Sto), run tb k 17 [m.d, .int a] st = .ok (.bl (decide (0 ≤ a) && decide (a ≤ m.letters - 1))) st := lift fun k hk m a st => by
  rw [run_succ (f := d17.fn) rfl rfl]
  ((simp (config := {decide := true, maxSteps := 1000000}) (disch := omega) only [Df.fn, Nat.reduceAdd, Nat.reduceSub, Nat.reduceMul, Int.reduceToNat, Int.reduceAdd, Int.reduceSub, Int.reduceMul, Int.reduceNeg, Int.reduceLE, Int.reduceLT, at0, at1, at2, at3, Nat.zero_add, Nat.sub_self, List.map_cons, List.map_nil, List.length_cons, List.length_nil, List.replicate_succ, List.replicate_zero, List.cons_append, List.nil_append, List.append_nil, List.getElem?_cons_zero, List.getElem?_cons_succ, Option.join_some, List.set_cons_zero, List.set_cons_succ,
  onB_bl, onO_bl, bind_ok, out_ok, bind_ite, out_ite, seq_next, seq_ret, seq_ite, end_next, end_ret, end_ite, optO_some, optR_some, x_var, x_cst, x_b2, x_b1, x_sset, x_rg, x_and, x_or, x_ite, x_chain, x_tup, x_lst, x_idx, x_slc, x_call, x_isi, x_gin, x_gget, x_comp, x_nil, x_cons, x_asg, x_asgT, x_par, x_sub, x_app, x_ext, x_expr, x_ret, x_retN, x_ife, x_for, x_pass, x_end, x_seq,
  turn_next, turn_ret, turn_ite, pyEq_int, wipeD, setTgt, setEach,
  o_add_i, o_add_t, o_sub, o_mul_i, o_fdiv, o_mod, o_eq, o_ne, o_lt, o_le, o_gt, o_ge, o_mx, o_mn, o_neg, o_len_t, o_len_l, o_int_i, o_int_b, o_isN, o_notN, o_asI, o_isF, o_lnot, o_truth, o_tuple_t, o_tuple_l, o_list_t, o_idx_t, o_all_last, o_tuple_last, MP.isNon, Bool.not_true, Bool.not_false, List.length_append, List.append_assoc,
  truthOf, isTys, isTy, kindD, tyB, gc_self, mkT, mkL, lim, seqOf, Option.map_some, Nat.beq, Bool.or_false, Bool.or_true, decide_eq_true_eq, decide_true, decide_false, Bool.true_and, Bool.true_or, Bool.false_or, Bool.false_and, Bool.and_false, Bool.and_true, if_true, Bool.false_eq_true, if_false, ite_true, ite_false, toB_map, toB, optAll, all_q, all_tt, List.all_cons, List.all_nil, id, gc_b, gc_n, gc_i, slc1, it_tup, List.drop_succ_cons, List.drop_zero, d17, Ml.d, is_within_ok k (by omega) _ _ _ _ (kno_int _ _), wiD]))
theorem zip_map {α β : Type} (f : α → D) (g : β → D) : ∀ (l : List α) (r : List β), zipD (l.map f) (r.map g) = (l.zip r).map fun p => .tup [f p.1, g p.2]
  | [], _ => rfl
  | _ :: _, [] => rfl
  | x :: l, y :: r => by simp [zipD, zip_map f g l r]
theorem it_zip (xs ys : List D) (st : Sto) : itE 3 (.ok (.tup xs) st) (fun st => .ok (.tup ys) st) = .ok (.tup xs, .tup ys, zipD xs ys) st := rfl
theorem is_column_ok : ∀ k, 3 ≤ k → ∀ (m : Ml) (c : List Int) (st : Sto), m.ok → m.col c → run tb k 18 [m.d, cD c] st = .ok (.bl true) st := lift fun k hk m c st h hc => by
  rw [run_succ (f := d18.fn) rfl rfl]
  obtain ⟨a, r, rfl, h1, h2, h3⟩ := hc.l0
  have hl := hc.len
  have t1 := fun st => is_letter_ok k (by omega) m a st
  have e2 : (decide (0 ≤ a) && decide (a ≤ m.letters - 1)) = true := by simp; omega
  have e1 : (decide ((m.names.length : Int) + 1 ≤ (r.length + 1 : Nat)) && decide ((r.length + 1 : Nat) ≤ (m.names.length : Int) + 1)) = true := by simp at hl ⊢; omega
  simp only [Ml.d, Ml.nd] at t1
  ((simp (config := {decide := true, maxSteps := 1000000}) (disch := omega) only [Df.fn, Nat.reduceAdd, Nat.reduceSub, Nat.reduceMul, Int.reduceToNat, Int.reduceAdd, Int.reduceSub, Int.reduceMul, Int.reduceNeg, Int.reduceLE, Int.reduceLT, at0, at1, at2, at3, Nat.zero_add, Nat.sub_self, List.map_cons, List.map_nil, List.length_cons, List.length_nil, List.replicate_succ, List.replicate_zero, List.cons_append, List.nil_append, List.append_nil, List.getElem?_cons_zero, List.getElem?_cons_succ, Option.join_some, List.set_cons_zero, List.set_cons_succ,
  onB_bl, onO_bl, bind_ok, out_ok, bind_ite, out_ite, seq_next, seq_ret, seq_ite, end_next, end_ret, end_ite, optO_some, optR_some, x_var, x_cst, x_b2, x_b1, x_sset, x_rg, x_and, x_or, x_ite, x_chain, x_tup, x_lst, x_idx, x_slc, x_call, x_isi, x_gin, x_gget, x_comp, x_nil, x_cons, x_asg, x_asgT, x_par, x_sub, x_app, x_ext, x_expr, x_ret, x_retN, x_ife, x_for, x_pass, x_end, x_seq,
  turn_next, turn_ret, turn_ite, pyEq_int, wipeD, setTgt, setEach,
  o_add_i, o_add_t, o_sub, o_mul_i, o_fdiv, o_mod, o_eq, o_ne, o_lt, o_le, o_gt, o_ge, o_mx, o_mn, o_neg, o_len_t, o_len_l, o_int_i, o_int_b, o_isN, o_notN, o_asI, o_isF, o_lnot, o_truth, o_tuple_t, o_tuple_l, o_list_t, o_idx_t, o_all_last, o_tuple_last, MP.isNon, Bool.not_true, Bool.not_false, List.length_append, List.append_assoc,
  truthOf, isTys, isTy, kindD, tyB, gc_self, mkT, mkL, lim, seqOf, Option.map_some, Nat.beq, Bool.or_false, Bool.or_true, decide_eq_true_eq, decide_true, decide_false, Bool.true_and, Bool.true_or, Bool.false_or, Bool.false_and, Bool.and_false, Bool.and_true, if_true, Bool.false_eq_true, if_false, ite_true, ite_false, toB_map, toB, optAll, all_q, all_tt, List.all_cons, List.all_nil, id, gc_b, gc_n, gc_i, slc1, it_tup, List.drop_succ_cons, List.drop_zero, d18, Ml.d, Ml.nd, cD, is_tuple_ok k (by omega) _ _ _ _ (kno_tup _ _), tuD, t1, e1, e2, List.length_map, it_zip, zip_map]))
  rw [parts (fun _ => true) ((m.names.zip r).map fun p => .tup [nmD p.1, .int p.2]) ?_ ?_ ?_]
  · ((simp (config := {decide := true, maxSteps := 1000000}) (disch := omega) only [Df.fn, Nat.reduceAdd, Nat.reduceSub, Nat.reduceMul, Int.reduceToNat, Int.reduceAdd, Int.reduceSub, Int.reduceMul, Int.reduceNeg, Int.reduceLE, Int.reduceLT, at0, at1, at2, at3, Nat.zero_add, Nat.sub_self, List.map_cons, List.map_nil, List.length_cons, List.length_nil, List.replicate_succ, List.replicate_zero, List.cons_append, List.nil_append, List.append_nil, List.getElem?_cons_zero, List.getElem?_cons_succ, Option.join_some, List.set_cons_zero, List.set_cons_succ,
  onB_bl, onO_bl, bind_ok, out_ok, bind_ite, out_ite, seq_next, seq_ret, seq_ite, end_next, end_ret, end_ite, optO_some, optR_some, x_var, x_cst, x_b2, x_b1, x_sset, x_rg, x_and, x_or, x_ite, x_chain, x_tup, x_lst, x_idx, x_slc, x_call, x_isi, x_gin, x_gget, x_comp, x_nil, x_cons, x_asg, x_asgT, x_par, x_sub, x_app, x_ext, x_expr, x_ret, x_retN, x_ife, x_for, x_pass, x_end, x_seq,
  turn_next, turn_ret, turn_ite, pyEq_int, wipeD, setTgt, setEach,
  o_add_i, o_add_t, o_sub, o_mul_i, o_fdiv, o_mod, o_eq, o_ne, o_lt, o_le, o_gt, o_ge, o_mx, o_mn, o_neg, o_len_t, o_len_l, o_int_i, o_int_b, o_isN, o_notN, o_asI, o_isF, o_lnot, o_truth, o_tuple_t, o_tuple_l, o_list_t, o_idx_t, o_all_last, o_tuple_last, MP.isNon, Bool.not_true, Bool.not_false, List.length_append, List.append_assoc,
  truthOf, isTys, isTy, kindD, tyB, gc_self, mkT, mkL, lim, seqOf, Option.map_some, Nat.beq, Bool.or_false, Bool.or_true, decide_eq_true_eq, decide_true, decide_false, Bool.true_and, Bool.true_or, Bool.false_or, Bool.false_and, Bool.and_false, Bool.and_true, if_true, Bool.false_eq_true, if_false, ite_true, ite_false, toB_map, toB, optAll, all_q, all_tt, List.all_cons, List.all_nil, id, gc_b, gc_n, gc_i, slc1, it_tup, List.drop_succ_cons, List.drop_zero]))
  · exact fun acc => rfl
  · have := h.n2
    simp
    omega
  · intro x hm
    obtain ⟨p, hp, rfl⟩ := List.mem_map.mp hm
    refine ⟨_, rfl, fun acc => ?_⟩
    have := h3 p hp
    (simp (config := {decide := true, maxSteps := 1000000}) (disch := omega) only [Df.fn, Nat.reduceAdd, Nat.reduceSub, Nat.reduceMul, Int.reduceToNat, Int.reduceAdd, Int.reduceSub, Int.reduceMul, Int.reduceNeg, Int.reduceLE, Int.reduceLT, at0, at1, at2, at3, Nat.zero_add, Nat.sub_self, List.map_cons, List.map_nil, List.length_cons, List.length_nil, List.replicate_succ, List.replicate_zero, List.cons_append, List.nil_append, List.append_nil, List.getElem?_cons_zero, List.getElem?_cons_succ, Option.join_some, List.set_cons_zero, List.set_cons_succ,
  onB_bl, onO_bl, bind_ok, out_ok, bind_ite, out_ite, seq_next, seq_ret, seq_ite, end_next, end_ret, end_ite, optO_some, optR_some, x_var, x_cst, x_b2, x_b1, x_sset, x_rg, x_and, x_or, x_ite, x_chain, x_tup, x_lst, x_idx, x_slc, x_call, x_isi, x_gin, x_gget, x_comp, x_nil, x_cons, x_asg, x_asgT, x_par, x_sub, x_app, x_ext, x_expr, x_ret, x_retN, x_ife, x_for, x_pass, x_end, x_seq,
  turn_next, turn_ret, turn_ite, pyEq_int, wipeD, setTgt, setEach,
  o_add_i, o_add_t, o_sub, o_mul_i, o_fdiv, o_mod, o_eq, o_ne, o_lt, o_le, o_gt, o_ge, o_mx, o_mn, o_neg, o_len_t, o_len_l, o_int_i, o_int_b, o_isN, o_notN, o_asI, o_isF, o_lnot, o_truth, o_tuple_t, o_tuple_l, o_list_t, o_idx_t, o_all_last, o_tuple_last, MP.isNon, Bool.not_true, Bool.not_false, List.length_append, List.append_assoc,
  truthOf, isTys, isTy, kindD, tyB, gc_self, mkT, mkL, lim, seqOf, Option.map_some, Nat.beq, Bool.or_false, Bool.or_true, decide_eq_true_eq, decide_true, decide_false, Bool.true_and, Bool.true_or, Bool.false_or, Bool.false_and, Bool.and_false, Bool.and_true, if_true, Bool.false_eq_true, if_false, ite_true, ite_false, nmD, is_within_ok k (by omega) _ _ _ _ (kno_int _ _), wiD])
    simp
    omega

/-- values that are no columns -/
theorem is_column_none : ∀ k, 3 ≤ k → ∀ (m : Ml) (st : Sto), run tb k 18 [m.d, .non] st = .ok (.bl false) st := lift fun k hk m st => by
  rw [run_succ (f := d18.fn) rfl rfl]
  ((simp (config := {decide := true, maxSteps := 1000000}) (disch := omega) only [Df.fn, Nat.reduceAdd, Nat.reduceSub, Nat.reduceMul, Int.reduceToNat, Int.reduceAdd, Int.reduceSub, Int.reduceMul, Int.reduceNeg, Int.reduceLE, Int.reduceLT, at0, at1, at2, at3, Nat.zero_add, Nat.sub_self, List.map_cons, List.map_nil, List.length_cons, List.length_nil, List.replicate_succ, List.replicate_zero, List.cons_append, List.nil_append, List.append_nil, List.getElem?_cons_zero, List.getElem?_cons_succ, Option.join_some, List.set_cons_zero, List.set_cons_succ,
  onB_bl, onO_bl, bind_ok, out_ok, bind_ite, out_ite, seq_next, seq_ret, seq_ite, end_next, end_ret, end_ite, optO_some, optR_some, x_var, x_cst, x_b2, x_b1, x_sset, x_rg, x_and, x_or, x_ite, x_chain, x_tup, x_lst, x_idx, x_slc, x_call, x_isi, x_gin, x_gget, x_comp, x_nil, x_cons, x_asg, x_asgT, x_par, x_sub, x_app, x_ext, x_expr, x_ret, x_retN, x_ife, x_for, x_pass, x_end, x_seq,
  turn_next, turn_ret, turn_ite, pyEq_int, wipeD, setTgt, setEach,
  o_add_i, o_add_t, o_sub, o_mul_i, o_fdiv, o_mod, o_eq, o_ne, o_lt, o_le, o_gt, o_ge, o_mx, o_mn, o_neg, o_len_t, o_len_l, o_int_i, o_int_b, o_isN, o_notN, o_asI, o_isF, o_lnot, o_truth, o_tuple_t, o_tuple_l, o_list_t, o_idx_t, o_all_last, o_tuple_last, MP.isNon, Bool.not_true, Bool.not_false, List.length_append, List.append_assoc,
  truthOf, isTys, isTy, kindD, tyB, gc_self, mkT, mkL, lim, seqOf, Option.map_some, Nat.beq, Bool.or_false, Bool.or_true, decide_eq_true_eq, decide_true, decide_false, Bool.true_and, Bool.true_or, Bool.false_or, Bool.false_and, Bool.and_false, Bool.and_true, if_true, Bool.false_eq_true, if_false, ite_true, ite_false, toB_map, toB, optAll, all_q, all_tt, List.all_cons, List.all_nil, id, gc_b, gc_n, gc_i, slc1, it_tup, List.drop_succ_cons, List.drop_zero, d18, Ml.d, Ml.nd, is_tuple_ok k (by omega) _ _ _ _ (show kno st .non from ⟨_, rfl⟩), tuD, List.length_map]))
theorem is_column_99 : ∀ k, 3 ≤ k → ∀ (m : Ml) (st : Sto), m.ok → run tb k 18 [m.d, .tup [.int 9, .int 9]] st = .ok (.bl false) st := lift fun k hk m st h => by
  rw [run_succ (f := d18.fn) rfl rfl]
  have t1 := fun st => is_letter_ok k (by omega) m 9 st
  have := h.l3
  have e2 : (decide (0 ≤ (9 : Int)) && decide ((9 : Int) ≤ m.letters - 1)) = false := by simp; omega
  simp only [Ml.d, Ml.nd, e2] at t1
  ((simp (config := {decide := true, maxSteps := 1000000}) (disch := omega) only [Df.fn, Nat.reduceAdd, Nat.reduceSub, Nat.reduceMul, Int.reduceToNat, Int.reduceAdd, Int.reduceSub, Int.reduceMul, Int.reduceNeg, Int.reduceLE, Int.reduceLT, at0, at1, at2, at3, Nat.zero_add, Nat.sub_self, List.map_cons, List.map_nil, List.length_cons, List.length_nil, List.replicate_succ, List.replicate_zero, List.cons_append, List.nil_append, List.append_nil, List.getElem?_cons_zero, List.getElem?_cons_succ, Option.join_some, List.set_cons_zero, List.set_cons_succ,
  onB_bl, onO_bl, bind_ok, out_ok, bind_ite, out_ite, seq_next, seq_ret, seq_ite, end_next, end_ret, end_ite, optO_some, optR_some, x_var, x_cst, x_b2, x_b1, x_sset, x_rg, x_and, x_or, x_ite, x_chain, x_tup, x_lst, x_idx, x_slc, x_call, x_isi, x_gin, x_gget, x_comp, x_nil, x_cons, x_asg, x_asgT, x_par, x_sub, x_app, x_ext, x_expr, x_ret, x_retN, x_ife, x_for, x_pass, x_end, x_seq,
  turn_next, turn_ret, turn_ite, pyEq_int, wipeD, setTgt, setEach,
  o_add_i, o_add_t, o_sub, o_mul_i, o_fdiv, o_mod, o_eq, o_ne, o_lt, o_le, o_gt, o_ge, o_mx, o_mn, o_neg, o_len_t, o_len_l, o_int_i, o_int_b, o_isN, o_notN, o_asI, o_isF, o_lnot, o_truth, o_tuple_t, o_tuple_l, o_list_t, o_idx_t, o_all_last, o_tuple_last, MP.isNon, Bool.not_true, Bool.not_false, List.length_append, List.append_assoc,
  truthOf, isTys, isTy, kindD, tyB, gc_self, mkT, mkL, lim, seqOf, Option.map_some, Nat.beq, Bool.or_false, Bool.or_true, decide_eq_true_eq, decide_true, decide_false, Bool.true_and, Bool.true_or, Bool.false_or, Bool.false_and, Bool.and_false, Bool.and_true, if_true, Bool.false_eq_true, if_false, ite_true, ite_false, toB_map, toB, optAll, all_q, all_tt, List.all_cons, List.all_nil, id, gc_b, gc_n, gc_i, slc1, it_tup, List.drop_succ_cons, List.drop_zero, d18, Ml.d, Ml.nd, is_tuple_ok k (by omega) _ _ _ _ (kno_tup _ _), tuD, t1, List.length_map]))
  split <;> rfl
/-- of rows of values: what each is said to be -/
theorem are_columns_q : ∀ k, 4 ≤ k → ∀ (m : Ml) (xs : List D) (q : D → Bool) (st : Sto), xs.length ≤ 200 → (∀ x ∈ xs, ∀ st, run tb (k - 1) 18 [m.d, x] st = .ok (.bl (q x)) st) → run tb k 19 [m.d, .tup xs] st = .ok (.bl (xs.all q)) st := lift fun k hk m xs q st hl hx => by
  rw [run_succ (f := d19.fn) rfl rfl]
  have e1 : (decide (0 ≤ (xs.length : Int)) && decide ((xs.length : Int) ≤ 200)) = true := by simp; omega
  ((simp (config := {decide := true, maxSteps := 1000000}) (disch := omega) only [Df.fn, Nat.reduceAdd, Nat.reduceSub, Nat.reduceMul, Int.reduceToNat, Int.reduceAdd, Int.reduceSub, Int.reduceMul, Int.reduceNeg, Int.reduceLE, Int.reduceLT, at0, at1, at2, at3, Nat.zero_add, Nat.sub_self, List.map_cons, List.map_nil, List.length_cons, List.length_nil, List.replicate_succ, List.replicate_zero, List.cons_append, List.nil_append, List.append_nil, List.getElem?_cons_zero, List.getElem?_cons_succ, Option.join_some, List.set_cons_zero, List.set_cons_succ,
  onB_bl, onO_bl, bind_ok, out_ok, bind_ite, out_ite, seq_next, seq_ret, seq_ite, end_next, end_ret, end_ite, optO_some, optR_some, x_var, x_cst, x_b2, x_b1, x_sset, x_rg, x_and, x_or, x_ite, x_chain, x_tup, x_lst, x_idx, x_slc, x_call, x_isi, x_gin, x_gget, x_comp, x_nil, x_cons, x_asg, x_asgT, x_par, x_sub, x_app, x_ext, x_expr, x_ret, x_retN, x_ife, x_for, x_pass, x_end, x_seq,
  turn_next, turn_ret, turn_ite, pyEq_int, wipeD, setTgt, setEach,
  o_add_i, o_add_t, o_sub, o_mul_i, o_fdiv, o_mod, o_eq, o_ne, o_lt, o_le, o_gt, o_ge, o_mx, o_mn, o_neg, o_len_t, o_len_l, o_int_i, o_int_b, o_isN, o_notN, o_asI, o_isF, o_lnot, o_truth, o_tuple_t, o_tuple_l, o_list_t, o_idx_t, o_all_last, o_tuple_last, MP.isNon, Bool.not_true, Bool.not_false, List.length_append, List.append_assoc,
  truthOf, isTys, isTy, kindD, tyB, gc_self, mkT, mkL, lim, seqOf, Option.map_some, Nat.beq, Bool.or_false, Bool.or_true, decide_eq_true_eq, decide_true, decide_false, Bool.true_and, Bool.true_or, Bool.false_or, Bool.false_and, Bool.and_false, Bool.and_true, if_true, Bool.false_eq_true, if_false, ite_true, ite_false, toB_map, toB, optAll, all_q, all_tt, List.all_cons, List.all_nil, id, gc_b, gc_n, gc_i, slc1, it_tup, List.drop_succ_cons, List.drop_zero, d19, is_tuple_ok k (by omega) _ _ _ _ (kno_tup _ _), tuD, e1]))
  rw [parts q xs ?_ ?_ ?_]
  · ((simp (config := {decide := true, maxSteps := 1000000}) (disch := omega) only [Df.fn, Nat.reduceAdd, Nat.reduceSub, Nat.reduceMul, Int.reduceToNat, Int.reduceAdd, Int.reduceSub, Int.reduceMul, Int.reduceNeg, Int.reduceLE, Int.reduceLT, at0, at1, at2, at3, Nat.zero_add, Nat.sub_self, List.map_cons, List.map_nil, List.length_cons, List.length_nil, List.replicate_succ, List.replicate_zero, List.cons_append, List.nil_append, List.append_nil, List.getElem?_cons_zero, List.getElem?_cons_succ, Option.join_some, List.set_cons_zero, List.set_cons_succ,
  onB_bl, onO_bl, bind_ok, out_ok, bind_ite, out_ite, seq_next, seq_ret, seq_ite, end_next, end_ret, end_ite, optO_some, optR_some, x_var, x_cst, x_b2, x_b1, x_sset, x_rg, x_and, x_or, x_ite, x_chain, x_tup, x_lst, x_idx, x_slc, x_call, x_isi, x_gin, x_gget, x_comp, x_nil, x_cons, x_asg, x_asgT, x_par, x_sub, x_app, x_ext, x_expr, x_ret, x_retN, x_ife, x_for, x_pass, x_end, x_seq,
  turn_next, turn_ret, turn_ite, pyEq_int, wipeD, setTgt, setEach,
  o_add_i, o_add_t, o_sub, o_mul_i, o_fdiv, o_mod, o_eq, o_ne, o_lt, o_le, o_gt, o_ge, o_mx, o_mn, o_neg, o_len_t, o_len_l, o_int_i, o_int_b, o_isN, o_notN, o_asI, o_isF, o_lnot, o_truth, o_tuple_t, o_tuple_l, o_list_t, o_idx_t, o_all_last, o_tuple_last, MP.isNon, Bool.not_true, Bool.not_false, List.length_append, List.append_assoc,
  truthOf, isTys, isTy, kindD, tyB, gc_self, mkT, mkL, lim, seqOf, Option.map_some, Nat.beq, Bool.or_false, Bool.or_true, decide_eq_true_eq, decide_true, decide_false, Bool.true_and, Bool.true_or, Bool.false_or, Bool.false_and, Bool.and_false, Bool.and_true, if_true, Bool.false_eq_true, if_false, ite_true, ite_false, toB_map, toB, optAll, all_q, all_tt, List.all_cons, List.all_nil, id, gc_b, gc_n, gc_i, slc1, it_tup, List.drop_succ_cons, List.drop_zero]))
  · exact fun acc => rfl
  · omega
  · intro x hm
    refine ⟨_, rfl, fun acc => ?_⟩
    have := hx x hm
    simp only [Nat.add_sub_cancel] at this
    (simp (config := {decide := true, maxSteps := 1000000}) (disch := omega) only [Df.fn, Nat.reduceAdd, Nat.reduceSub, Nat.reduceMul, Int.reduceToNat, Int.reduceAdd, Int.reduceSub, Int.reduceMul, Int.reduceNeg, Int.reduceLE, Int.reduceLT, at0, at1, at2, at3, Nat.zero_add, Nat.sub_self, List.map_cons, List.map_nil, List.length_cons, List.length_nil, List.replicate_succ, List.replicate_zero, List.cons_append, List.nil_append, List.append_nil, List.getElem?_cons_zero, List.getElem?_cons_succ, Option.join_some, List.set_cons_zero, List.set_cons_succ,
  onB_bl, onO_bl, bind_ok, out_ok, bind_ite, out_ite, seq_next, seq_ret, seq_ite, end_next, end_ret, end_ite, optO_some, optR_some, x_var, x_cst, x_b2, x_b1, x_sset, x_rg, x_and, x_or, x_ite, x_chain, x_tup, x_lst, x_idx, x_slc, x_call, x_isi, x_gin, x_gget, x_comp, x_nil, x_cons, x_asg, x_asgT, x_par, x_sub, x_app, x_ext, x_expr, x_ret, x_retN, x_ife, x_for, x_pass, x_end, x_seq,
  turn_next, turn_ret, turn_ite, pyEq_int, wipeD, setTgt, setEach,
  o_add_i, o_add_t, o_sub, o_mul_i, o_fdiv, o_mod, o_eq, o_ne, o_lt, o_le, o_gt, o_ge, o_mx, o_mn, o_neg, o_len_t, o_len_l, o_int_i, o_int_b, o_isN, o_notN, o_asI, o_isF, o_lnot, o_truth, o_tuple_t, o_tuple_l, o_list_t, o_idx_t, o_all_last, o_tuple_last, MP.isNon, Bool.not_true, Bool.not_false, List.length_append, List.append_assoc,
  truthOf, isTys, isTy, kindD, tyB, gc_self, mkT, mkL, lim, seqOf, Option.map_some, Nat.beq, Bool.or_false, Bool.or_true, decide_eq_true_eq, decide_true, decide_false, Bool.true_and, Bool.true_or, Bool.false_or, Bool.false_and, Bool.and_false, Bool.and_true, if_true, Bool.false_eq_true, if_false, ite_true, ite_false, this])
theorem are_columns_ok (k : Nat) (hk : 4 ≤ k) (m : Ml) (cs : List (List Int)) (st : Sto) (h : m.ok) (hl : cs.length ≤ 200) (hc : ∀ c ∈ cs, m.col c) : run tb k 19 [m.d, colsD cs] st = .ok (.bl true) st := by
  have := are_columns_q k hk m (cs.map cD) (fun _ => true) st (by simpa using hl) (fun x hx st => by
    obtain ⟨c, h1, rfl⟩ := List.mem_map.mp hx
    exact is_column_ok (k - 1) (by omega) m c st h (hc c h1))
  rw [all_tt] at this
  exact this
theorem it_enum (xs : List D) (y : D) (st : Sto) : itE 4 (.ok (.tup xs) st) (fun st => .ok y st) = .ok (.tup xs, y, enumD 0 xs) st := rfl
theorem check_columns_ok : ∀ k, 4 ≤ k → ∀ (m : Ml) (cs : List (List Int)) (st : Sto), m.ok → cs.length ≤ 200 → (∀ c ∈ cs, m.col c) → run tb k 21 [m.d, colsD cs] st = .ok .non st := lift fun k hk m cs st h hl hc => by
  rw [run_succ (f := d21.fn) rfl rfl]
  have e1 : (decide (0 ≤ (cs.length : Int)) && decide ((cs.length : Int) ≤ 200)) = true := by simp; omega
  have loop : ∀ (cs : List (List Int)) (i : Int) (a b : Option D) (still : Sto → Bool) (y : D), (∀ s, still s = true) → (∀ c ∈ cs, m.col c) →
      ∃ a' b', forL still (setTgt false [2, 3]) (evSs (run tb k) [.ife (.b1 .lnot (.b1 .truth (.call 18 [.var 0, .var 3] []))) [.never] []]) (enumD i (cs.map cD)) [some m.d, some y, a, b] st = .next [some m.d, some y, a', b'] st := by
    intro cs
    induction cs with
    | nil => intro i a b still y hs _; exact ⟨a, b, for_nil _ _ _ _ _ (hs _)⟩
    | cons c cs ih =>
      intro i a b still y hs hc
      obtain ⟨a', b', e⟩ := ih (i + 1) (some (.int i)) (some (cD c)) still y hs (fun c' h' => hc c' (List.mem_cons_of_mem _ h'))
      refine ⟨a', b', ?_⟩
      rw [← e]
      simp only [List.map_cons, enumD]
      rw [for_cons _ _ _ _ _ _ _ (hs _)]
      have := fun st => is_column_ok k (by omega) m c st h (hc c (List.mem_cons_self ..))
      (simp (config := {decide := true, maxSteps := 1000000}) (disch := omega) only [Df.fn, Nat.reduceAdd, Nat.reduceSub, Nat.reduceMul, Int.reduceToNat, Int.reduceAdd, Int.reduceSub, Int.reduceMul, Int.reduceNeg, Int.reduceLE, Int.reduceLT, at0, at1, at2, at3, Nat.zero_add, Nat.sub_self, List.map_cons, List.map_nil, List.length_cons, List.length_nil, List.replicate_succ, List.replicate_zero, List.cons_append, List.nil_append, List.append_nil, List.getElem?_cons_zero, List.getElem?_cons_succ, Option.join_some, List.set_cons_zero, List.set_cons_succ,
  onB_bl, onO_bl, bind_ok, out_ok, bind_ite, out_ite, seq_next, seq_ret, seq_ite, end_next, end_ret, end_ite, optO_some, optR_some, x_var, x_cst, x_b2, x_b1, x_sset, x_rg, x_and, x_or, x_ite, x_chain, x_tup, x_lst, x_idx, x_slc, x_call, x_isi, x_gin, x_gget, x_comp, x_nil, x_cons, x_asg, x_asgT, x_par, x_sub, x_app, x_ext, x_expr, x_ret, x_retN, x_ife, x_for, x_pass, x_end, x_seq,
  turn_next, turn_ret, turn_ite, pyEq_int, wipeD, setTgt, setEach,
  o_add_i, o_add_t, o_sub, o_mul_i, o_fdiv, o_mod, o_eq, o_ne, o_lt, o_le, o_gt, o_ge, o_mx, o_mn, o_neg, o_len_t, o_len_l, o_int_i, o_int_b, o_isN, o_notN, o_asI, o_isF, o_lnot, o_truth, o_tuple_t, o_tuple_l, o_list_t, o_idx_t, o_all_last, o_tuple_last, MP.isNon, Bool.not_true, Bool.not_false, List.length_append, List.append_assoc,
  truthOf, isTys, isTy, kindD, tyB, gc_self, mkT, mkL, lim, seqOf, Option.map_some, Nat.beq, Bool.or_false, Bool.or_true, decide_eq_true_eq, decide_true, decide_false, Bool.true_and, Bool.true_or, Bool.false_or, Bool.false_and, Bool.and_false, Bool.and_true, if_true, Bool.false_eq_true, if_false, ite_true, ite_false, this, gcE_self])
  obtain ⟨a', b', e⟩ := loop cs 0 none none (stillOf 4 (colsD cs) .non st) (colsD cs) (fun _ => rfl) hc
  simp only [colsD, Ml.d, Ml.nd] at e
  ((simp (config := {decide := true, maxSteps := 1000000}) (disch := omega) only [Df.fn, Nat.reduceAdd, Nat.reduceSub, Nat.reduceMul, Int.reduceToNat, Int.reduceAdd, Int.reduceSub, Int.reduceMul, Int.reduceNeg, Int.reduceLE, Int.reduceLT, at0, at1, at2, at3, Nat.zero_add, Nat.sub_self, List.map_cons, List.map_nil, List.length_cons, List.length_nil, List.replicate_succ, List.replicate_zero, List.cons_append, List.nil_append, List.append_nil, List.getElem?_cons_zero, List.getElem?_cons_succ, Option.join_some, List.set_cons_zero, List.set_cons_succ,
  onB_bl, onO_bl, bind_ok, out_ok, bind_ite, out_ite, seq_next, seq_ret, seq_ite, end_next, end_ret, end_ite, optO_some, optR_some, x_var, x_cst, x_b2, x_b1, x_sset, x_rg, x_and, x_or, x_ite, x_chain, x_tup, x_lst, x_idx, x_slc, x_call, x_isi, x_gin, x_gget, x_comp, x_nil, x_cons, x_asg, x_asgT, x_par, x_sub, x_app, x_ext, x_expr, x_ret, x_retN, x_ife, x_for, x_pass, x_end, x_seq,
  turn_next, turn_ret, turn_ite, pyEq_int, wipeD, setTgt, setEach,
  o_add_i, o_add_t, o_sub, o_mul_i, o_fdiv, o_mod, o_eq, o_ne, o_lt, o_le, o_gt, o_ge, o_mx, o_mn, o_neg, o_len_t, o_len_l, o_int_i, o_int_b, o_isN, o_notN, o_asI, o_isF, o_lnot, o_truth, o_tuple_t, o_tuple_l, o_list_t, o_idx_t, o_all_last, o_tuple_last, MP.isNon, Bool.not_true, Bool.not_false, List.length_append, List.append_assoc,
  truthOf, isTys, isTy, kindD, tyB, gc_self, mkT, mkL, lim, seqOf, Option.map_some, Nat.beq, Bool.or_false, Bool.or_true, decide_eq_true_eq, decide_true, decide_false, Bool.true_and, Bool.true_or, Bool.false_or, Bool.false_and, Bool.and_false, Bool.and_true, if_true, Bool.false_eq_true, if_false, ite_true, ite_false, toB_map, toB, optAll, all_q, all_tt, List.all_cons, List.all_nil, id, gc_b, gc_n, gc_i, slc1, it_tup, List.drop_succ_cons, List.drop_zero, d21, colsD, Ml.d, Ml.nd, e, is_tuple_ok k (by omega) _ _ _ _ (kno_tup _ _), tuD, e1, List.length_map, it_enum]))
end Lw
/-! ## KM4 -/
set_option Elab.async false
set_option linter.all false
set_option autoImplicit false
set_option maxRecDepth 100000
set_option maxHeartbeats 1000000
namespace Lw
open PySem PySem.Spec PyProof.Rows L2 MP
/-! ### what terms come to -/
def Tm.offs : Tm → List Int
  | .inp o => [o]
  | .of _ o => [o]
  | .is _ => []
  | .rest t _ => t.offs
  | .pick a b c => a.offs ++ (b.offs ++ c.offs)
  | .two _ a b => a.offs ++ b.offs
def W2.ev : W2 → Int → Int → Int
  | .plus, i, j => i + j
  | .times, i, j => i * j
  | .same, i, j => if i = j then 1 else 0
  | .less, i, j => if i < j then 1 else 0
def Tm.ev (look : Int → Nat → Int) : Tm → Int
  | .inp o => look o 0
  | .of n o => look o (n + 1)
  | .is v => v
  | .rest t m => t.ev look % m
  | .pick a b c => if a.ev look = 0 then c.ev look else b.ev look
  | .two w a b => w.ev (a.ev look) (b.ev look)
def Bd : Nat → Int
  | 0 => 2
  | d + 1 => Bd d * Bd d
theorem Bd2 : ∀ d, 2 ≤ Bd d
  | 0 => by decide
  | d + 1 => by
    have h := Bd2 d
    have : 2 * 1 ≤ Bd d * Bd d := Int.mul_le_mul h (by omega) (by omega) (by omega)
    show 2 ≤ Bd d * Bd d
    omega
theorem ev_bd {names : Nat} {look : Int → Nat → Int} : ∀ (d : Nat) (t : Tm), t.ok names d → (∀ o ∈ t.offs, ∀ j ≤ names, 0 ≤ look o j ∧ look o j ≤ 2) → 0 ≤ t.ev look ∧ t.ev look ≤ Bd d
  | 0, t, h, _ => h.elim
  | d + 1, t, h, hl => by
    have b := Bd2 d
    have b1 := Bd2 (d + 1)
    have dbl : Bd d + Bd d ≤ Bd (d + 1) := by
      have : 2 * Bd d ≤ Bd d * Bd d := Int.mul_le_mul b (Int.le_refl _) (by omega) (by omega)
      show _ ≤ Bd d * Bd d
      omega
    cases t with
    | inp o =>
      have := hl o (by simp [Tm.offs]) 0 (by omega)
      exact ⟨this.1, by show look o 0 ≤ _; omega⟩
    | of n o =>
      have := hl o (by simp [Tm.offs]) (n + 1) (by have := h.1; omega)
      exact ⟨this.1, by show look o (n + 1) ≤ _; omega⟩
    | is v => exact ⟨h.1, by have := h.2; show v ≤ _; omega⟩
    | rest t m =>
      obtain ⟨h1, h2, h3⟩ := h
      have e1 := Int.emod_nonneg (t.ev look) (show m ≠ 0 by omega)
      have e2 := Int.emod_lt_of_pos (t.ev look) (show 0 < m by omega)
      exact ⟨e1, by show t.ev look % m ≤ _; omega⟩
    | pick a b c =>
      obtain ⟨h1, h2, h3⟩ := h
      have eb := ev_bd d b h2 (fun o ho => hl o (by simp [Tm.offs, ho]))
      have ec := ev_bd d c h3 (fun o ho => hl o (by simp [Tm.offs, ho]))
      simp only [Tm.ev]
      split <;> omega
    | two w a b =>
      obtain ⟨h1, h2⟩ := h
      have ea := ev_bd d a h1 (fun o ho => hl o (by simp [Tm.offs, ho]))
      have eb := ev_bd d b h2 (fun o ho => hl o (by simp [Tm.offs, ho]))
      cases w with
      | plus => exact ⟨by show 0 ≤ a.ev look + b.ev look; omega, by show a.ev look + b.ev look ≤ _; omega⟩
      | times => exact ⟨Int.mul_nonneg ea.1 eb.1, Int.mul_le_mul ea.2 eb.2 eb.1 (by omega)⟩
      | same => simp only [Tm.ev, W2.ev]; split <;> omega
      | less => simp only [Tm.ev, W2.ev]; split <;> omega
theorem big_of {i : Int} (h0 : 0 ≤ i) (h1 : i ≤ 65536) : bigI i = true := by
  unfold bigI
  simp
  omega
theorem ev_big {names : Nat} {look : Int → Nat → Int} {d : Nat} {t : Tm} (hd : d ≤ 4) (h : t.ok names d) (hl : ∀ o ∈ t.offs, ∀ j ≤ names, 0 ≤ look o j ∧ look o j ≤ 2) : bigI (t.ev look) = true := by
  obtain ⟨a, b⟩ := ev_bd d t h hl
  have up : ∀ n d : Nat, d + n = 4 → Bd d ≤ Bd 4 := by
    intro n
    induction n with
    | zero => intro d e; have : d = 4 := by omega
              rw [this]; exact Int.le_refl _
    | succ n ih =>
      intro d e
      have h1 := ih (d + 1) (by omega)
      have h2 := Bd2 d
      have : 1 * Bd d ≤ Bd d * Bd d := Int.mul_le_mul (by omega) (Int.le_refl _) (by omega) (by omega)
      have e3 : Bd (d + 1) = Bd d * Bd d := rfl
      omega
  have := up (4 - d) d (by omega)
  exact big_of a (by have e : Bd 4 = 65536 := by decide
                     omega)
/-- the row of columns as it is seen from at -/
def sees (cs : List (List Int)) (at_ : Int) (names : Nat) (look : Int → Nat → Int) (o : Int) : Prop := ∃ c, atD (cs.map cD) (at_ + o) = some (cD c) ∧ ∀ j : Nat, j ≤ names → atD (c.map D.int) (j : Int) = some (.int (look o j))
theorem worth_of_two_ok : ∀ k, 1 ≤ k → ∀ (w : W2) (i j : Int) (st : Sto), bigI i = true → run tb k 10 [.str w.s, .int i, .int j] st = .ok (.int (w.ev i j)) st := lift fun k _ w i j st hb => by
  rw [run_succ (f := d10.fn) rfl rfl]
  cases w with
  | plus => ((simp (config := {decide := true, maxSteps := 1000000}) (disch := omega) only [Df.fn, Nat.reduceAdd, Nat.reduceSub, Nat.reduceMul, Int.reduceToNat, Int.reduceAdd, Int.reduceSub, Int.reduceMul, Int.reduceNeg, Int.reduceLE, Int.reduceLT, at0, at1, at2, at3, Nat.zero_add, Nat.sub_self, List.map_cons, List.map_nil, List.length_cons, List.length_nil, List.replicate_succ, List.replicate_zero, List.cons_append, List.nil_append, List.append_nil, List.getElem?_cons_zero, List.getElem?_cons_succ, Option.join_some, List.set_cons_zero, List.set_cons_succ,
  onB_bl, onO_bl, bind_ok, out_ok, bind_ite, out_ite, seq_next, seq_ret, seq_ite, end_next, end_ret, end_ite, optO_some, optR_some, x_var, x_cst, x_b2, x_b1, x_sset, x_rg, x_and, x_or, x_ite, x_chain, x_tup, x_lst, x_idx, x_slc, x_call, x_isi, x_gin, x_gget, x_comp, x_nil, x_cons, x_asg, x_asgT, x_par, x_sub, x_app, x_ext, x_expr, x_ret, x_retN, x_ife, x_for, x_pass, x_end, x_seq,
  turn_next, turn_ret, turn_ite, pyEq_int, wipeD, setTgt, setEach,
  o_add_i, o_add_t, o_sub, o_mul_i, o_fdiv, o_mod, o_eq, o_ne, o_lt, o_le, o_gt, o_ge, o_mx, o_mn, o_neg, o_len_t, o_len_l, o_int_i, o_int_b, o_isN, o_notN, o_asI, o_isF, o_lnot, o_truth, o_tuple_t, o_tuple_l, o_list_t, o_idx_t, o_all_last, o_tuple_last, MP.isNon, Bool.not_true, Bool.not_false, List.length_append, List.append_assoc,
  truthOf, isTys, isTy, kindD, tyB, gc_self, mkT, mkL, lim, seqOf, Option.map_some, Nat.beq, Bool.or_false, Bool.or_true, decide_eq_true_eq, decide_true, decide_false, Bool.true_and, Bool.true_or, Bool.false_or, Bool.false_and, Bool.and_false, Bool.and_true, if_true, Bool.false_eq_true, if_false, ite_true, ite_false, pe_in_in, pe_in_of, pe_in_is, pe_in_rest, pe_in_pick, pe_in_plus, pe_in_times, pe_in_same, pe_in_less, pe_of_in, pe_of_of, pe_of_is, pe_of_rest, pe_of_pick, pe_of_plus, pe_of_times, pe_of_same, pe_of_less, pe_is_in, pe_is_of, pe_is_is, pe_is_rest, pe_is_pick, pe_is_plus, pe_is_times, pe_is_same, pe_is_less, pe_rest_in, pe_rest_of, pe_rest_is, pe_rest_rest, pe_rest_pick, pe_rest_plus, pe_rest_times, pe_rest_same, pe_rest_less, pe_pick_in, pe_pick_of, pe_pick_is, pe_pick_rest, pe_pick_pick, pe_pick_plus, pe_pick_times, pe_pick_same, pe_pick_less, pe_plus_in, pe_plus_of, pe_plus_is, pe_plus_rest, pe_plus_pick, pe_plus_plus, pe_plus_times, pe_plus_same, pe_plus_less, pe_times_in, pe_times_of, pe_times_is, pe_times_rest, pe_times_pick, pe_times_plus, pe_times_times, pe_times_same, pe_times_less, pe_same_in, pe_same_of, pe_same_is, pe_same_rest, pe_same_pick, pe_same_plus, pe_same_times, pe_same_same, pe_same_less, pe_less_in, pe_less_of, pe_less_is, pe_less_rest, pe_less_pick, pe_less_plus, pe_less_times, pe_less_same, pe_less_less, gi_in, gi_of, gi_is, gi_rest, gi_pick, gi_plus, gi_times, gi_same, gi_less, gg_plus, gg_times, gg_same, gg_less, gg_pick, d10, W2.s, W2.ev]))
  | times => ((simp (config := {decide := true, maxSteps := 1000000}) (disch := omega) only [Df.fn, Nat.reduceAdd, Nat.reduceSub, Nat.reduceMul, Int.reduceToNat, Int.reduceAdd, Int.reduceSub, Int.reduceMul, Int.reduceNeg, Int.reduceLE, Int.reduceLT, at0, at1, at2, at3, Nat.zero_add, Nat.sub_self, List.map_cons, List.map_nil, List.length_cons, List.length_nil, List.replicate_succ, List.replicate_zero, List.cons_append, List.nil_append, List.append_nil, List.getElem?_cons_zero, List.getElem?_cons_succ, Option.join_some, List.set_cons_zero, List.set_cons_succ,
  onB_bl, onO_bl, bind_ok, out_ok, bind_ite, out_ite, seq_next, seq_ret, seq_ite, end_next, end_ret, end_ite, optO_some, optR_some, x_var, x_cst, x_b2, x_b1, x_sset, x_rg, x_and, x_or, x_ite, x_chain, x_tup, x_lst, x_idx, x_slc, x_call, x_isi, x_gin, x_gget, x_comp, x_nil, x_cons, x_asg, x_asgT, x_par, x_sub, x_app, x_ext, x_expr, x_ret, x_retN, x_ife, x_for, x_pass, x_end, x_seq,
  turn_next, turn_ret, turn_ite, pyEq_int, wipeD, setTgt, setEach,
  o_add_i, o_add_t, o_sub, o_mul_i, o_fdiv, o_mod, o_eq, o_ne, o_lt, o_le, o_gt, o_ge, o_mx, o_mn, o_neg, o_len_t, o_len_l, o_int_i, o_int_b, o_isN, o_notN, o_asI, o_isF, o_lnot, o_truth, o_tuple_t, o_tuple_l, o_list_t, o_idx_t, o_all_last, o_tuple_last, MP.isNon, Bool.not_true, Bool.not_false, List.length_append, List.append_assoc,
  truthOf, isTys, isTy, kindD, tyB, gc_self, mkT, mkL, lim, seqOf, Option.map_some, Nat.beq, Bool.or_false, Bool.or_true, decide_eq_true_eq, decide_true, decide_false, Bool.true_and, Bool.true_or, Bool.false_or, Bool.false_and, Bool.and_false, Bool.and_true, if_true, Bool.false_eq_true, if_false, ite_true, ite_false, pe_in_in, pe_in_of, pe_in_is, pe_in_rest, pe_in_pick, pe_in_plus, pe_in_times, pe_in_same, pe_in_less, pe_of_in, pe_of_of, pe_of_is, pe_of_rest, pe_of_pick, pe_of_plus, pe_of_times, pe_of_same, pe_of_less, pe_is_in, pe_is_of, pe_is_is, pe_is_rest, pe_is_pick, pe_is_plus, pe_is_times, pe_is_same, pe_is_less, pe_rest_in, pe_rest_of, pe_rest_is, pe_rest_rest, pe_rest_pick, pe_rest_plus, pe_rest_times, pe_rest_same, pe_rest_less, pe_pick_in, pe_pick_of, pe_pick_is, pe_pick_rest, pe_pick_pick, pe_pick_plus, pe_pick_times, pe_pick_same, pe_pick_less, pe_plus_in, pe_plus_of, pe_plus_is, pe_plus_rest, pe_plus_pick, pe_plus_plus, pe_plus_times, pe_plus_same, pe_plus_less, pe_times_in, pe_times_of, pe_times_is, pe_times_rest, pe_times_pick, pe_times_plus, pe_times_times, pe_times_same, pe_times_less, pe_same_in, pe_same_of, pe_same_is, pe_same_rest, pe_same_pick, pe_same_plus, pe_same_times, pe_same_same, pe_same_less, pe_less_in, pe_less_of, pe_less_is, pe_less_rest, pe_less_pick, pe_less_plus, pe_less_times, pe_less_same, pe_less_less, gi_in, gi_of, gi_is, gi_rest, gi_pick, gi_plus, gi_times, gi_same, gi_less, gg_plus, gg_times, gg_same, gg_less, gg_pick, d10, W2.s, W2.ev, hb]))
  | same => ((simp (config := {decide := true, maxSteps := 1000000}) (disch := omega) only [Df.fn, Nat.reduceAdd, Nat.reduceSub, Nat.reduceMul, Int.reduceToNat, Int.reduceAdd, Int.reduceSub, Int.reduceMul, Int.reduceNeg, Int.reduceLE, Int.reduceLT, at0, at1, at2, at3, Nat.zero_add, Nat.sub_self, List.map_cons, List.map_nil, List.length_cons, List.length_nil, List.replicate_succ, List.replicate_zero, List.cons_append, List.nil_append, List.append_nil, List.getElem?_cons_zero, List.getElem?_cons_succ, Option.join_some, List.set_cons_zero, List.set_cons_succ,
  onB_bl, onO_bl, bind_ok, out_ok, bind_ite, out_ite, seq_next, seq_ret, seq_ite, end_next, end_ret, end_ite, optO_some, optR_some, x_var, x_cst, x_b2, x_b1, x_sset, x_rg, x_and, x_or, x_ite, x_chain, x_tup, x_lst, x_idx, x_slc, x_call, x_isi, x_gin, x_gget, x_comp, x_nil, x_cons, x_asg, x_asgT, x_par, x_sub, x_app, x_ext, x_expr, x_ret, x_retN, x_ife, x_for, x_pass, x_end, x_seq,
  turn_next, turn_ret, turn_ite, pyEq_int, wipeD, setTgt, setEach,
  o_add_i, o_add_t, o_sub, o_mul_i, o_fdiv, o_mod, o_eq, o_ne, o_lt, o_le, o_gt, o_ge, o_mx, o_mn, o_neg, o_len_t, o_len_l, o_int_i, o_int_b, o_isN, o_notN, o_asI, o_isF, o_lnot, o_truth, o_tuple_t, o_tuple_l, o_list_t, o_idx_t, o_all_last, o_tuple_last, MP.isNon, Bool.not_true, Bool.not_false, List.length_append, List.append_assoc,
  truthOf, isTys, isTy, kindD, tyB, gc_self, mkT, mkL, lim, seqOf, Option.map_some, Nat.beq, Bool.or_false, Bool.or_true, decide_eq_true_eq, decide_true, decide_false, Bool.true_and, Bool.true_or, Bool.false_or, Bool.false_and, Bool.and_false, Bool.and_true, if_true, Bool.false_eq_true, if_false, ite_true, ite_false, pe_in_in, pe_in_of, pe_in_is, pe_in_rest, pe_in_pick, pe_in_plus, pe_in_times, pe_in_same, pe_in_less, pe_of_in, pe_of_of, pe_of_is, pe_of_rest, pe_of_pick, pe_of_plus, pe_of_times, pe_of_same, pe_of_less, pe_is_in, pe_is_of, pe_is_is, pe_is_rest, pe_is_pick, pe_is_plus, pe_is_times, pe_is_same, pe_is_less, pe_rest_in, pe_rest_of, pe_rest_is, pe_rest_rest, pe_rest_pick, pe_rest_plus, pe_rest_times, pe_rest_same, pe_rest_less, pe_pick_in, pe_pick_of, pe_pick_is, pe_pick_rest, pe_pick_pick, pe_pick_plus, pe_pick_times, pe_pick_same, pe_pick_less, pe_plus_in, pe_plus_of, pe_plus_is, pe_plus_rest, pe_plus_pick, pe_plus_plus, pe_plus_times, pe_plus_same, pe_plus_less, pe_times_in, pe_times_of, pe_times_is, pe_times_rest, pe_times_pick, pe_times_plus, pe_times_times, pe_times_same, pe_times_less, pe_same_in, pe_same_of, pe_same_is, pe_same_rest, pe_same_pick, pe_same_plus, pe_same_times, pe_same_same, pe_same_less, pe_less_in, pe_less_of, pe_less_is, pe_less_rest, pe_less_pick, pe_less_plus, pe_less_times, pe_less_same, pe_less_less, gi_in, gi_of, gi_is, gi_rest, gi_pick, gi_plus, gi_times, gi_same, gi_less, gg_plus, gg_times, gg_same, gg_less, gg_pick, d10, W2.s, W2.ev]))
  | less => ((simp (config := {decide := true, maxSteps := 1000000}) (disch := omega) only [Df.fn, Nat.reduceAdd, Nat.reduceSub, Nat.reduceMul, Int.reduceToNat, Int.reduceAdd, Int.reduceSub, Int.reduceMul, Int.reduceNeg, Int.reduceLE, Int.reduceLT, at0, at1, at2, at3, Nat.zero_add, Nat.sub_self, List.map_cons, List.map_nil, List.length_cons, List.length_nil, List.replicate_succ, List.replicate_zero, List.cons_append, List.nil_append, List.append_nil, List.getElem?_cons_zero, List.getElem?_cons_succ, Option.join_some, List.set_cons_zero, List.set_cons_succ,
  onB_bl, onO_bl, bind_ok, out_ok, bind_ite, out_ite, seq_next, seq_ret, seq_ite, end_next, end_ret, end_ite, optO_some, optR_some, x_var, x_cst, x_b2, x_b1, x_sset, x_rg, x_and, x_or, x_ite, x_chain, x_tup, x_lst, x_idx, x_slc, x_call, x_isi, x_gin, x_gget, x_comp, x_nil, x_cons, x_asg, x_asgT, x_par, x_sub, x_app, x_ext, x_expr, x_ret, x_retN, x_ife, x_for, x_pass, x_end, x_seq,
  turn_next, turn_ret, turn_ite, pyEq_int, wipeD, setTgt, setEach,
  o_add_i, o_add_t, o_sub, o_mul_i, o_fdiv, o_mod, o_eq, o_ne, o_lt, o_le, o_gt, o_ge, o_mx, o_mn, o_neg, o_len_t, o_len_l, o_int_i, o_int_b, o_isN, o_notN, o_asI, o_isF, o_lnot, o_truth, o_tuple_t, o_tuple_l, o_list_t, o_idx_t, o_all_last, o_tuple_last, MP.isNon, Bool.not_true, Bool.not_false, List.length_append, List.append_assoc,
  truthOf, isTys, isTy, kindD, tyB, gc_self, mkT, mkL, lim, seqOf, Option.map_some, Nat.beq, Bool.or_false, Bool.or_true, decide_eq_true_eq, decide_true, decide_false, Bool.true_and, Bool.true_or, Bool.false_or, Bool.false_and, Bool.and_false, Bool.and_true, if_true, Bool.false_eq_true, if_false, ite_true, ite_false, pe_in_in, pe_in_of, pe_in_is, pe_in_rest, pe_in_pick, pe_in_plus, pe_in_times, pe_in_same, pe_in_less, pe_of_in, pe_of_of, pe_of_is, pe_of_rest, pe_of_pick, pe_of_plus, pe_of_times, pe_of_same, pe_of_less, pe_is_in, pe_is_of, pe_is_is, pe_is_rest, pe_is_pick, pe_is_plus, pe_is_times, pe_is_same, pe_is_less, pe_rest_in, pe_rest_of, pe_rest_is, pe_rest_rest, pe_rest_pick, pe_rest_plus, pe_rest_times, pe_rest_same, pe_rest_less, pe_pick_in, pe_pick_of, pe_pick_is, pe_pick_rest, pe_pick_pick, pe_pick_plus, pe_pick_times, pe_pick_same, pe_pick_less, pe_plus_in, pe_plus_of, pe_plus_is, pe_plus_rest, pe_plus_pick, pe_plus_plus, pe_plus_times, pe_plus_same, pe_plus_less, pe_times_in, pe_times_of, pe_times_is, pe_times_rest, pe_times_pick, pe_times_plus, pe_times_times, pe_times_same, pe_times_less, pe_same_in, pe_same_of, pe_same_is, pe_same_rest, pe_same_pick, pe_same_plus, pe_same_times, pe_same_same, pe_same_less, pe_less_in, pe_less_of, pe_less_is, pe_less_rest, pe_less_pick, pe_less_plus, pe_less_times, pe_less_same, pe_less_less, gi_in, gi_of, gi_is, gi_rest, gi_pick, gi_plus, gi_times, gi_same, gi_less, gg_plus, gg_times, gg_same, gg_less, gg_pick, d10, W2.s, W2.ev]))
theorem worth_ok {names : Nat} {look : Int → Nat → Int} {cs : List (List Int)} {at_ : Int} : ∀ (d : Nat), d ≤ 4 → ∀ k, d + 1 ≤ k → ∀ (t : Tm) (st : Sto), t.ok names d → (∀ o ∈ t.offs, sees cs at_ names look o ∧ ∀ j ≤ names, 0 ≤ look o j ∧ look o j ≤ 2) →
    run tb k 9 [t.d, colsD cs, .int at_] st = .ok (.int (t.ev look)) st
  | 0, _, k, hk, t, st, h, _ => h.elim
  | d + 1, hd, k, hk, t, st, h, hs => by
    obtain ⟨k, rfl⟩ : ∃ j, k = j + 1 := ⟨k - 1, by omega⟩
    rw [run_succ (f := d9.fn) rfl rfl]
    have ih := worth_ok (names := names) (look := look) (cs := cs) (at_ := at_) d (by omega) k (by omega)
    simp only [colsD] at ih
    cases t with
    | inp o =>
      obtain ⟨⟨c, h1, h2⟩, _⟩ := hs o (by simp [Tm.offs])
      have h3 : atD (c.map D.int) 0 = some (.int (look o 0)) := h2 0 (by omega)
      rw [at0] at h3
      ((simp (config := {decide := true, maxSteps := 1000000}) (disch := omega) only [Df.fn, Nat.reduceAdd, Nat.reduceSub, Nat.reduceMul, Int.reduceToNat, Int.reduceAdd, Int.reduceSub, Int.reduceMul, Int.reduceNeg, Int.reduceLE, Int.reduceLT, at0, at1, at2, at3, Nat.zero_add, Nat.sub_self, List.map_cons, List.map_nil, List.length_cons, List.length_nil, List.replicate_succ, List.replicate_zero, List.cons_append, List.nil_append, List.append_nil, List.getElem?_cons_zero, List.getElem?_cons_succ, Option.join_some, List.set_cons_zero, List.set_cons_succ,
  onB_bl, onO_bl, bind_ok, out_ok, bind_ite, out_ite, seq_next, seq_ret, seq_ite, end_next, end_ret, end_ite, optO_some, optR_some, x_var, x_cst, x_b2, x_b1, x_sset, x_rg, x_and, x_or, x_ite, x_chain, x_tup, x_lst, x_idx, x_slc, x_call, x_isi, x_gin, x_gget, x_comp, x_nil, x_cons, x_asg, x_asgT, x_par, x_sub, x_app, x_ext, x_expr, x_ret, x_retN, x_ife, x_for, x_pass, x_end, x_seq,
  turn_next, turn_ret, turn_ite, pyEq_int, wipeD, setTgt, setEach,
  o_add_i, o_add_t, o_sub, o_mul_i, o_fdiv, o_mod, o_eq, o_ne, o_lt, o_le, o_gt, o_ge, o_mx, o_mn, o_neg, o_len_t, o_len_l, o_int_i, o_int_b, o_isN, o_notN, o_asI, o_isF, o_lnot, o_truth, o_tuple_t, o_tuple_l, o_list_t, o_idx_t, o_all_last, o_tuple_last, MP.isNon, Bool.not_true, Bool.not_false, List.length_append, List.append_assoc,
  truthOf, isTys, isTy, kindD, tyB, gc_self, mkT, mkL, lim, seqOf, Option.map_some, Nat.beq, Bool.or_false, Bool.or_true, decide_eq_true_eq, decide_true, decide_false, Bool.true_and, Bool.true_or, Bool.false_or, Bool.false_and, Bool.and_false, Bool.and_true, if_true, Bool.false_eq_true, if_false, ite_true, ite_false, pe_in_in, pe_in_of, pe_in_is, pe_in_rest, pe_in_pick, pe_in_plus, pe_in_times, pe_in_same, pe_in_less, pe_of_in, pe_of_of, pe_of_is, pe_of_rest, pe_of_pick, pe_of_plus, pe_of_times, pe_of_same, pe_of_less, pe_is_in, pe_is_of, pe_is_is, pe_is_rest, pe_is_pick, pe_is_plus, pe_is_times, pe_is_same, pe_is_less, pe_rest_in, pe_rest_of, pe_rest_is, pe_rest_rest, pe_rest_pick, pe_rest_plus, pe_rest_times, pe_rest_same, pe_rest_less, pe_pick_in, pe_pick_of, pe_pick_is, pe_pick_rest, pe_pick_pick, pe_pick_plus, pe_pick_times, pe_pick_same, pe_pick_less, pe_plus_in, pe_plus_of, pe_plus_is, pe_plus_rest, pe_plus_pick, pe_plus_plus, pe_plus_times, pe_plus_same, pe_plus_less, pe_times_in, pe_times_of, pe_times_is, pe_times_rest, pe_times_pick, pe_times_plus, pe_times_times, pe_times_same, pe_times_less, pe_same_in, pe_same_of, pe_same_is, pe_same_rest, pe_same_pick, pe_same_plus, pe_same_times, pe_same_same, pe_same_less, pe_less_in, pe_less_of, pe_less_is, pe_less_rest, pe_less_pick, pe_less_plus, pe_less_times, pe_less_same, pe_less_less, gi_in, gi_of, gi_is, gi_rest, gi_pick, gi_plus, gi_times, gi_same, gi_less, gg_plus, gg_times, gg_same, gg_less, gg_pick, d9, Tm.d, Tm.ev, colsD, h1, cD, h3]))
    | of n o =>
      obtain ⟨⟨c, h1, h2⟩, _⟩ := hs o (by simp [Tm.offs])
      have h3 : atD (c.map D.int) ((n : Int) + 1) = some (.int (look o (n + 1))) := h2 (n + 1) (by have := h.1; omega)
      ((simp (config := {decide := true, maxSteps := 1000000}) (disch := omega) only [Df.fn, Nat.reduceAdd, Nat.reduceSub, Nat.reduceMul, Int.reduceToNat, Int.reduceAdd, Int.reduceSub, Int.reduceMul, Int.reduceNeg, Int.reduceLE, Int.reduceLT, at0, at1, at2, at3, Nat.zero_add, Nat.sub_self, List.map_cons, List.map_nil, List.length_cons, List.length_nil, List.replicate_succ, List.replicate_zero, List.cons_append, List.nil_append, List.append_nil, List.getElem?_cons_zero, List.getElem?_cons_succ, Option.join_some, List.set_cons_zero, List.set_cons_succ,
  onB_bl, onO_bl, bind_ok, out_ok, bind_ite, out_ite, seq_next, seq_ret, seq_ite, end_next, end_ret, end_ite, optO_some, optR_some, x_var, x_cst, x_b2, x_b1, x_sset, x_rg, x_and, x_or, x_ite, x_chain, x_tup, x_lst, x_idx, x_slc, x_call, x_isi, x_gin, x_gget, x_comp, x_nil, x_cons, x_asg, x_asgT, x_par, x_sub, x_app, x_ext, x_expr, x_ret, x_retN, x_ife, x_for, x_pass, x_end, x_seq,
  turn_next, turn_ret, turn_ite, pyEq_int, wipeD, setTgt, setEach,
  o_add_i, o_add_t, o_sub, o_mul_i, o_fdiv, o_mod, o_eq, o_ne, o_lt, o_le, o_gt, o_ge, o_mx, o_mn, o_neg, o_len_t, o_len_l, o_int_i, o_int_b, o_isN, o_notN, o_asI, o_isF, o_lnot, o_truth, o_tuple_t, o_tuple_l, o_list_t, o_idx_t, o_all_last, o_tuple_last, MP.isNon, Bool.not_true, Bool.not_false, List.length_append, List.append_assoc,
  truthOf, isTys, isTy, kindD, tyB, gc_self, mkT, mkL, lim, seqOf, Option.map_some, Nat.beq, Bool.or_false, Bool.or_true, decide_eq_true_eq, decide_true, decide_false, Bool.true_and, Bool.true_or, Bool.false_or, Bool.false_and, Bool.and_false, Bool.and_true, if_true, Bool.false_eq_true, if_false, ite_true, ite_false, pe_in_in, pe_in_of, pe_in_is, pe_in_rest, pe_in_pick, pe_in_plus, pe_in_times, pe_in_same, pe_in_less, pe_of_in, pe_of_of, pe_of_is, pe_of_rest, pe_of_pick, pe_of_plus, pe_of_times, pe_of_same, pe_of_less, pe_is_in, pe_is_of, pe_is_is, pe_is_rest, pe_is_pick, pe_is_plus, pe_is_times, pe_is_same, pe_is_less, pe_rest_in, pe_rest_of, pe_rest_is, pe_rest_rest, pe_rest_pick, pe_rest_plus, pe_rest_times, pe_rest_same, pe_rest_less, pe_pick_in, pe_pick_of, pe_pick_is, pe_pick_rest, pe_pick_pick, pe_pick_plus, pe_pick_times, pe_pick_same, pe_pick_less, pe_plus_in, pe_plus_of, pe_plus_is, pe_plus_rest, pe_plus_pick, pe_plus_plus, pe_plus_times, pe_plus_same, pe_plus_less, pe_times_in, pe_times_of, pe_times_is, pe_times_rest, pe_times_pick, pe_times_plus, pe_times_times, pe_times_same, pe_times_less, pe_same_in, pe_same_of, pe_same_is, pe_same_rest, pe_same_pick, pe_same_plus, pe_same_times, pe_same_same, pe_same_less, pe_less_in, pe_less_of, pe_less_is, pe_less_rest, pe_less_pick, pe_less_plus, pe_less_times, pe_less_same, pe_less_less, gi_in, gi_of, gi_is, gi_rest, gi_pick, gi_plus, gi_times, gi_same, gi_less, gg_plus, gg_times, gg_same, gg_less, gg_pick, d9, Tm.d, Tm.ev, colsD, h1, cD, h3]))
    | is v => ((simp (config := {decide := true, maxSteps := 1000000}) (disch := omega) only [Df.fn, Nat.reduceAdd, Nat.reduceSub, Nat.reduceMul, Int.reduceToNat, Int.reduceAdd, Int.reduceSub, Int.reduceMul, Int.reduceNeg, Int.reduceLE, Int.reduceLT, at0, at1, at2, at3, Nat.zero_add, Nat.sub_self, List.map_cons, List.map_nil, List.length_cons, List.length_nil, List.replicate_succ, List.replicate_zero, List.cons_append, List.nil_append, List.append_nil, List.getElem?_cons_zero, List.getElem?_cons_succ, Option.join_some, List.set_cons_zero, List.set_cons_succ,
  onB_bl, onO_bl, bind_ok, out_ok, bind_ite, out_ite, seq_next, seq_ret, seq_ite, end_next, end_ret, end_ite, optO_some, optR_some, x_var, x_cst, x_b2, x_b1, x_sset, x_rg, x_and, x_or, x_ite, x_chain, x_tup, x_lst, x_idx, x_slc, x_call, x_isi, x_gin, x_gget, x_comp, x_nil, x_cons, x_asg, x_asgT, x_par, x_sub, x_app, x_ext, x_expr, x_ret, x_retN, x_ife, x_for, x_pass, x_end, x_seq,
  turn_next, turn_ret, turn_ite, pyEq_int, wipeD, setTgt, setEach,
  o_add_i, o_add_t, o_sub, o_mul_i, o_fdiv, o_mod, o_eq, o_ne, o_lt, o_le, o_gt, o_ge, o_mx, o_mn, o_neg, o_len_t, o_len_l, o_int_i, o_int_b, o_isN, o_notN, o_asI, o_isF, o_lnot, o_truth, o_tuple_t, o_tuple_l, o_list_t, o_idx_t, o_all_last, o_tuple_last, MP.isNon, Bool.not_true, Bool.not_false, List.length_append, List.append_assoc,
  truthOf, isTys, isTy, kindD, tyB, gc_self, mkT, mkL, lim, seqOf, Option.map_some, Nat.beq, Bool.or_false, Bool.or_true, decide_eq_true_eq, decide_true, decide_false, Bool.true_and, Bool.true_or, Bool.false_or, Bool.false_and, Bool.and_false, Bool.and_true, if_true, Bool.false_eq_true, if_false, ite_true, ite_false, pe_in_in, pe_in_of, pe_in_is, pe_in_rest, pe_in_pick, pe_in_plus, pe_in_times, pe_in_same, pe_in_less, pe_of_in, pe_of_of, pe_of_is, pe_of_rest, pe_of_pick, pe_of_plus, pe_of_times, pe_of_same, pe_of_less, pe_is_in, pe_is_of, pe_is_is, pe_is_rest, pe_is_pick, pe_is_plus, pe_is_times, pe_is_same, pe_is_less, pe_rest_in, pe_rest_of, pe_rest_is, pe_rest_rest, pe_rest_pick, pe_rest_plus, pe_rest_times, pe_rest_same, pe_rest_less, pe_pick_in, pe_pick_of, pe_pick_is, pe_pick_rest, pe_pick_pick, pe_pick_plus, pe_pick_times, pe_pick_same, pe_pick_less, pe_plus_in, pe_plus_of, pe_plus_is, pe_plus_rest, pe_plus_pick, pe_plus_plus, pe_plus_times, pe_plus_same, pe_plus_less, pe_times_in, pe_times_of, pe_times_is, pe_times_rest, pe_times_pick, pe_times_plus, pe_times_times, pe_times_same, pe_times_less, pe_same_in, pe_same_of, pe_same_is, pe_same_rest, pe_same_pick, pe_same_plus, pe_same_times, pe_same_same, pe_same_less, pe_less_in, pe_less_of, pe_less_is, pe_less_rest, pe_less_pick, pe_less_plus, pe_less_times, pe_less_same, pe_less_less, gi_in, gi_of, gi_is, gi_rest, gi_pick, gi_plus, gi_times, gi_same, gi_less, gg_plus, gg_times, gg_same, gg_less, gg_pick, d9, Tm.d, Tm.ev]))
    | rest t m =>
      obtain ⟨h1, h2, h3⟩ := h
      have h1 := fun st => ih t st h1 (fun o ho => hs o ho)
      have e : decide (0 < m) = true := by simp; omega
      ((simp (config := {decide := true, maxSteps := 1000000}) (disch := omega) only [Df.fn, Nat.reduceAdd, Nat.reduceSub, Nat.reduceMul, Int.reduceToNat, Int.reduceAdd, Int.reduceSub, Int.reduceMul, Int.reduceNeg, Int.reduceLE, Int.reduceLT, at0, at1, at2, at3, Nat.zero_add, Nat.sub_self, List.map_cons, List.map_nil, List.length_cons, List.length_nil, List.replicate_succ, List.replicate_zero, List.cons_append, List.nil_append, List.append_nil, List.getElem?_cons_zero, List.getElem?_cons_succ, Option.join_some, List.set_cons_zero, List.set_cons_succ,
  onB_bl, onO_bl, bind_ok, out_ok, bind_ite, out_ite, seq_next, seq_ret, seq_ite, end_next, end_ret, end_ite, optO_some, optR_some, x_var, x_cst, x_b2, x_b1, x_sset, x_rg, x_and, x_or, x_ite, x_chain, x_tup, x_lst, x_idx, x_slc, x_call, x_isi, x_gin, x_gget, x_comp, x_nil, x_cons, x_asg, x_asgT, x_par, x_sub, x_app, x_ext, x_expr, x_ret, x_retN, x_ife, x_for, x_pass, x_end, x_seq,
  turn_next, turn_ret, turn_ite, pyEq_int, wipeD, setTgt, setEach,
  o_add_i, o_add_t, o_sub, o_mul_i, o_fdiv, o_mod, o_eq, o_ne, o_lt, o_le, o_gt, o_ge, o_mx, o_mn, o_neg, o_len_t, o_len_l, o_int_i, o_int_b, o_isN, o_notN, o_asI, o_isF, o_lnot, o_truth, o_tuple_t, o_tuple_l, o_list_t, o_idx_t, o_all_last, o_tuple_last, MP.isNon, Bool.not_true, Bool.not_false, List.length_append, List.append_assoc,
  truthOf, isTys, isTy, kindD, tyB, gc_self, mkT, mkL, lim, seqOf, Option.map_some, Nat.beq, Bool.or_false, Bool.or_true, decide_eq_true_eq, decide_true, decide_false, Bool.true_and, Bool.true_or, Bool.false_or, Bool.false_and, Bool.and_false, Bool.and_true, if_true, Bool.false_eq_true, if_false, ite_true, ite_false, pe_in_in, pe_in_of, pe_in_is, pe_in_rest, pe_in_pick, pe_in_plus, pe_in_times, pe_in_same, pe_in_less, pe_of_in, pe_of_of, pe_of_is, pe_of_rest, pe_of_pick, pe_of_plus, pe_of_times, pe_of_same, pe_of_less, pe_is_in, pe_is_of, pe_is_is, pe_is_rest, pe_is_pick, pe_is_plus, pe_is_times, pe_is_same, pe_is_less, pe_rest_in, pe_rest_of, pe_rest_is, pe_rest_rest, pe_rest_pick, pe_rest_plus, pe_rest_times, pe_rest_same, pe_rest_less, pe_pick_in, pe_pick_of, pe_pick_is, pe_pick_rest, pe_pick_pick, pe_pick_plus, pe_pick_times, pe_pick_same, pe_pick_less, pe_plus_in, pe_plus_of, pe_plus_is, pe_plus_rest, pe_plus_pick, pe_plus_plus, pe_plus_times, pe_plus_same, pe_plus_less, pe_times_in, pe_times_of, pe_times_is, pe_times_rest, pe_times_pick, pe_times_plus, pe_times_times, pe_times_same, pe_times_less, pe_same_in, pe_same_of, pe_same_is, pe_same_rest, pe_same_pick, pe_same_plus, pe_same_times, pe_same_same, pe_same_less, pe_less_in, pe_less_of, pe_less_is, pe_less_rest, pe_less_pick, pe_less_plus, pe_less_times, pe_less_same, pe_less_less, gi_in, gi_of, gi_is, gi_rest, gi_pick, gi_plus, gi_times, gi_same, gi_less, gg_plus, gg_times, gg_same, gg_less, gg_pick, d9, Tm.d, Tm.ev, colsD, h1, e]))
    | pick a b c =>
      obtain ⟨h1, h2, h3⟩ := h
      have h1 := fun st => ih a st h1 (fun o ho => hs o (by simp [Tm.offs, ho]))
      have h2 := fun st => ih b st h2 (fun o ho => hs o (by simp [Tm.offs, ho]))
      have h3 := fun st => ih c st h3 (fun o ho => hs o (by simp [Tm.offs, ho]))
      by_cases hz : a.ev look = 0
      · ((simp (config := {decide := true, maxSteps := 1000000}) (disch := omega) only [Df.fn, Nat.reduceAdd, Nat.reduceSub, Nat.reduceMul, Int.reduceToNat, Int.reduceAdd, Int.reduceSub, Int.reduceMul, Int.reduceNeg, Int.reduceLE, Int.reduceLT, at0, at1, at2, at3, Nat.zero_add, Nat.sub_self, List.map_cons, List.map_nil, List.length_cons, List.length_nil, List.replicate_succ, List.replicate_zero, List.cons_append, List.nil_append, List.append_nil, List.getElem?_cons_zero, List.getElem?_cons_succ, Option.join_some, List.set_cons_zero, List.set_cons_succ,
  onB_bl, onO_bl, bind_ok, out_ok, bind_ite, out_ite, seq_next, seq_ret, seq_ite, end_next, end_ret, end_ite, optO_some, optR_some, x_var, x_cst, x_b2, x_b1, x_sset, x_rg, x_and, x_or, x_ite, x_chain, x_tup, x_lst, x_idx, x_slc, x_call, x_isi, x_gin, x_gget, x_comp, x_nil, x_cons, x_asg, x_asgT, x_par, x_sub, x_app, x_ext, x_expr, x_ret, x_retN, x_ife, x_for, x_pass, x_end, x_seq,
  turn_next, turn_ret, turn_ite, pyEq_int, wipeD, setTgt, setEach,
  o_add_i, o_add_t, o_sub, o_mul_i, o_fdiv, o_mod, o_eq, o_ne, o_lt, o_le, o_gt, o_ge, o_mx, o_mn, o_neg, o_len_t, o_len_l, o_int_i, o_int_b, o_isN, o_notN, o_asI, o_isF, o_lnot, o_truth, o_tuple_t, o_tuple_l, o_list_t, o_idx_t, o_all_last, o_tuple_last, MP.isNon, Bool.not_true, Bool.not_false, List.length_append, List.append_assoc,
  truthOf, isTys, isTy, kindD, tyB, gc_self, mkT, mkL, lim, seqOf, Option.map_some, Nat.beq, Bool.or_false, Bool.or_true, decide_eq_true_eq, decide_true, decide_false, Bool.true_and, Bool.true_or, Bool.false_or, Bool.false_and, Bool.and_false, Bool.and_true, if_true, Bool.false_eq_true, if_false, ite_true, ite_false, pe_in_in, pe_in_of, pe_in_is, pe_in_rest, pe_in_pick, pe_in_plus, pe_in_times, pe_in_same, pe_in_less, pe_of_in, pe_of_of, pe_of_is, pe_of_rest, pe_of_pick, pe_of_plus, pe_of_times, pe_of_same, pe_of_less, pe_is_in, pe_is_of, pe_is_is, pe_is_rest, pe_is_pick, pe_is_plus, pe_is_times, pe_is_same, pe_is_less, pe_rest_in, pe_rest_of, pe_rest_is, pe_rest_rest, pe_rest_pick, pe_rest_plus, pe_rest_times, pe_rest_same, pe_rest_less, pe_pick_in, pe_pick_of, pe_pick_is, pe_pick_rest, pe_pick_pick, pe_pick_plus, pe_pick_times, pe_pick_same, pe_pick_less, pe_plus_in, pe_plus_of, pe_plus_is, pe_plus_rest, pe_plus_pick, pe_plus_plus, pe_plus_times, pe_plus_same, pe_plus_less, pe_times_in, pe_times_of, pe_times_is, pe_times_rest, pe_times_pick, pe_times_plus, pe_times_times, pe_times_same, pe_times_less, pe_same_in, pe_same_of, pe_same_is, pe_same_rest, pe_same_pick, pe_same_plus, pe_same_times, pe_same_same, pe_same_less, pe_less_in, pe_less_of, pe_less_is, pe_less_rest, pe_less_pick, pe_less_plus, pe_less_times, pe_less_same, pe_less_less, gi_in, gi_of, gi_is, gi_rest, gi_pick, gi_plus, gi_times, gi_same, gi_less, gg_plus, gg_times, gg_same, gg_less, gg_pick, d9, Tm.d, Tm.ev, colsD, h1, h2, h3, hz]))
      · ((simp (config := {decide := true, maxSteps := 1000000}) (disch := omega) only [Df.fn, Nat.reduceAdd, Nat.reduceSub, Nat.reduceMul, Int.reduceToNat, Int.reduceAdd, Int.reduceSub, Int.reduceMul, Int.reduceNeg, Int.reduceLE, Int.reduceLT, at0, at1, at2, at3, Nat.zero_add, Nat.sub_self, List.map_cons, List.map_nil, List.length_cons, List.length_nil, List.replicate_succ, List.replicate_zero, List.cons_append, List.nil_append, List.append_nil, List.getElem?_cons_zero, List.getElem?_cons_succ, Option.join_some, List.set_cons_zero, List.set_cons_succ,
  onB_bl, onO_bl, bind_ok, out_ok, bind_ite, out_ite, seq_next, seq_ret, seq_ite, end_next, end_ret, end_ite, optO_some, optR_some, x_var, x_cst, x_b2, x_b1, x_sset, x_rg, x_and, x_or, x_ite, x_chain, x_tup, x_lst, x_idx, x_slc, x_call, x_isi, x_gin, x_gget, x_comp, x_nil, x_cons, x_asg, x_asgT, x_par, x_sub, x_app, x_ext, x_expr, x_ret, x_retN, x_ife, x_for, x_pass, x_end, x_seq,
  turn_next, turn_ret, turn_ite, pyEq_int, wipeD, setTgt, setEach,
  o_add_i, o_add_t, o_sub, o_mul_i, o_fdiv, o_mod, o_eq, o_ne, o_lt, o_le, o_gt, o_ge, o_mx, o_mn, o_neg, o_len_t, o_len_l, o_int_i, o_int_b, o_isN, o_notN, o_asI, o_isF, o_lnot, o_truth, o_tuple_t, o_tuple_l, o_list_t, o_idx_t, o_all_last, o_tuple_last, MP.isNon, Bool.not_true, Bool.not_false, List.length_append, List.append_assoc,
  truthOf, isTys, isTy, kindD, tyB, gc_self, mkT, mkL, lim, seqOf, Option.map_some, Nat.beq, Bool.or_false, Bool.or_true, decide_eq_true_eq, decide_true, decide_false, Bool.true_and, Bool.true_or, Bool.false_or, Bool.false_and, Bool.and_false, Bool.and_true, if_true, Bool.false_eq_true, if_false, ite_true, ite_false, pe_in_in, pe_in_of, pe_in_is, pe_in_rest, pe_in_pick, pe_in_plus, pe_in_times, pe_in_same, pe_in_less, pe_of_in, pe_of_of, pe_of_is, pe_of_rest, pe_of_pick, pe_of_plus, pe_of_times, pe_of_same, pe_of_less, pe_is_in, pe_is_of, pe_is_is, pe_is_rest, pe_is_pick, pe_is_plus, pe_is_times, pe_is_same, pe_is_less, pe_rest_in, pe_rest_of, pe_rest_is, pe_rest_rest, pe_rest_pick, pe_rest_plus, pe_rest_times, pe_rest_same, pe_rest_less, pe_pick_in, pe_pick_of, pe_pick_is, pe_pick_rest, pe_pick_pick, pe_pick_plus, pe_pick_times, pe_pick_same, pe_pick_less, pe_plus_in, pe_plus_of, pe_plus_is, pe_plus_rest, pe_plus_pick, pe_plus_plus, pe_plus_times, pe_plus_same, pe_plus_less, pe_times_in, pe_times_of, pe_times_is, pe_times_rest, pe_times_pick, pe_times_plus, pe_times_times, pe_times_same, pe_times_less, pe_same_in, pe_same_of, pe_same_is, pe_same_rest, pe_same_pick, pe_same_plus, pe_same_times, pe_same_same, pe_same_less, pe_less_in, pe_less_of, pe_less_is, pe_less_rest, pe_less_pick, pe_less_plus, pe_less_times, pe_less_same, pe_less_less, gi_in, gi_of, gi_is, gi_rest, gi_pick, gi_plus, gi_times, gi_same, gi_less, gg_plus, gg_times, gg_same, gg_less, gg_pick, d9, Tm.d, Tm.ev, colsD, h1, h2, h3, hz]))
    | two w a b =>
      obtain ⟨h1, h2⟩ := h
      have hb : bigI (a.ev look) = true := ev_big (by omega) h1 fun o ho => (hs o (by simp [Tm.offs, ho])).2
      have h1 := fun st => ih a st h1 (fun o ho => hs o (by simp [Tm.offs, ho]))
      have h2 := fun st => ih b st h2 (fun o ho => hs o (by simp [Tm.offs, ho]))
      have h3 := fun st => worth_of_two_ok k (by omega) w (a.ev look) (b.ev look) st hb
      cases w <;> (simp only [W2.s] at h3; ((simp (config := {decide := true, maxSteps := 1000000}) (disch := omega) only [Df.fn, Nat.reduceAdd, Nat.reduceSub, Nat.reduceMul, Int.reduceToNat, Int.reduceAdd, Int.reduceSub, Int.reduceMul, Int.reduceNeg, Int.reduceLE, Int.reduceLT, at0, at1, at2, at3, Nat.zero_add, Nat.sub_self, List.map_cons, List.map_nil, List.length_cons, List.length_nil, List.replicate_succ, List.replicate_zero, List.cons_append, List.nil_append, List.append_nil, List.getElem?_cons_zero, List.getElem?_cons_succ, Option.join_some, List.set_cons_zero, List.set_cons_succ,
  onB_bl, onO_bl, bind_ok, out_ok, bind_ite, out_ite, seq_next, seq_ret, seq_ite, end_next, end_ret, end_ite, optO_some, optR_some, x_var, x_cst, x_b2, x_b1, x_sset, x_rg, x_and, x_or, x_ite, x_chain, x_tup, x_lst, x_idx, x_slc, x_call, x_isi, x_gin, x_gget, x_comp, x_nil, x_cons, x_asg, x_asgT, x_par, x_sub, x_app, x_ext, x_expr, x_ret, x_retN, x_ife, x_for, x_pass, x_end, x_seq,
  turn_next, turn_ret, turn_ite, pyEq_int, wipeD, setTgt, setEach,
  o_add_i, o_add_t, o_sub, o_mul_i, o_fdiv, o_mod, o_eq, o_ne, o_lt, o_le, o_gt, o_ge, o_mx, o_mn, o_neg, o_len_t, o_len_l, o_int_i, o_int_b, o_isN, o_notN, o_asI, o_isF, o_lnot, o_truth, o_tuple_t, o_tuple_l, o_list_t, o_idx_t, o_all_last, o_tuple_last, MP.isNon, Bool.not_true, Bool.not_false, List.length_append, List.append_assoc,
  truthOf, isTys, isTy, kindD, tyB, gc_self, mkT, mkL, lim, seqOf, Option.map_some, Nat.beq, Bool.or_false, Bool.or_true, decide_eq_true_eq, decide_true, decide_false, Bool.true_and, Bool.true_or, Bool.false_or, Bool.false_and, Bool.and_false, Bool.and_true, if_true, Bool.false_eq_true, if_false, ite_true, ite_false, pe_in_in, pe_in_of, pe_in_is, pe_in_rest, pe_in_pick, pe_in_plus, pe_in_times, pe_in_same, pe_in_less, pe_of_in, pe_of_of, pe_of_is, pe_of_rest, pe_of_pick, pe_of_plus, pe_of_times, pe_of_same, pe_of_less, pe_is_in, pe_is_of, pe_is_is, pe_is_rest, pe_is_pick, pe_is_plus, pe_is_times, pe_is_same, pe_is_less, pe_rest_in, pe_rest_of, pe_rest_is, pe_rest_rest, pe_rest_pick, pe_rest_plus, pe_rest_times, pe_rest_same, pe_rest_less, pe_pick_in, pe_pick_of, pe_pick_is, pe_pick_rest, pe_pick_pick, pe_pick_plus, pe_pick_times, pe_pick_same, pe_pick_less, pe_plus_in, pe_plus_of, pe_plus_is, pe_plus_rest, pe_plus_pick, pe_plus_plus, pe_plus_times, pe_plus_same, pe_plus_less, pe_times_in, pe_times_of, pe_times_is, pe_times_rest, pe_times_pick, pe_times_plus, pe_times_times, pe_times_same, pe_times_less, pe_same_in, pe_same_of, pe_same_is, pe_same_rest, pe_same_pick, pe_same_plus, pe_same_times, pe_same_same, pe_same_less, pe_less_in, pe_less_of, pe_less_is, pe_less_rest, pe_less_pick, pe_less_plus, pe_less_times, pe_less_same, pe_less_less, gi_in, gi_of, gi_is, gi_rest, gi_pick, gi_plus, gi_times, gi_same, gi_less, gg_plus, gg_times, gg_same, gg_less, gg_pick, d9, Tm.d, W2.s, Tm.ev, colsD, h1, h2, h3])))

theorem is_held_ok {names : Nat} {look : Int → Nat → Int} {cs : List (List Int)} {at_ : Int} : ∀ k, 7 ≤ k → ∀ (p : Tm × Tm) (st : Sto), ((p.1.ok names 4 ∧ p.2.ok names 4) ∧ ∀ o, o ∈ p.1.offs ∨ o ∈ p.2.offs → sees cs at_ names look o ∧ ∀ j ≤ names, 0 ≤ look o j ∧ look o j ≤ 2) →
    run tb k 43 [eqD p, colsD cs, .int at_] st = .ok (.bl (decide (p.1.ev look = p.2.ev look))) st := lift fun k hk p st h => by
  rw [run_succ (f := d43.fn) rfl rfl]
  obtain ⟨⟨h1, h2⟩, h3⟩ := h
  have w1 := fun st => worth_ok (names := names) (look := look) 4 (by omega) k (by omega) p.1 st h1 (fun o ho => h3 o (.inl ho))
  have w2 := fun st => worth_ok (names := names) (look := look) 4 (by omega) k (by omega) p.2 st h2 (fun o ho => h3 o (.inr ho))
  ((simp (config := {decide := true, maxSteps := 1000000}) (disch := omega) only [Df.fn, Nat.reduceAdd, Nat.reduceSub, Nat.reduceMul, Int.reduceToNat, Int.reduceAdd, Int.reduceSub, Int.reduceMul, Int.reduceNeg, Int.reduceLE, Int.reduceLT, at0, at1, at2, at3, Nat.zero_add, Nat.sub_self, List.map_cons, List.map_nil, List.length_cons, List.length_nil, List.replicate_succ, List.replicate_zero, List.cons_append, List.nil_append, List.append_nil, List.getElem?_cons_zero, List.getElem?_cons_succ, Option.join_some, List.set_cons_zero, List.set_cons_succ,
  onB_bl, onO_bl, bind_ok, out_ok, bind_ite, out_ite, seq_next, seq_ret, seq_ite, end_next, end_ret, end_ite, optO_some, optR_some, x_var, x_cst, x_b2, x_b1, x_sset, x_rg, x_and, x_or, x_ite, x_chain, x_tup, x_lst, x_idx, x_slc, x_call, x_isi, x_gin, x_gget, x_comp, x_nil, x_cons, x_asg, x_asgT, x_par, x_sub, x_app, x_ext, x_expr, x_ret, x_retN, x_ife, x_for, x_pass, x_end, x_seq,
  turn_next, turn_ret, turn_ite, pyEq_int, wipeD, setTgt, setEach,
  o_add_i, o_add_t, o_sub, o_mul_i, o_fdiv, o_mod, o_eq, o_ne, o_lt, o_le, o_gt, o_ge, o_mx, o_mn, o_neg, o_len_t, o_len_l, o_int_i, o_int_b, o_isN, o_notN, o_asI, o_isF, o_lnot, o_truth, o_tuple_t, o_tuple_l, o_list_t, o_idx_t, o_all_last, o_tuple_last, MP.isNon, Bool.not_true, Bool.not_false, List.length_append, List.append_assoc,
  truthOf, isTys, isTy, kindD, tyB, gc_self, mkT, mkL, lim, seqOf, Option.map_some, Nat.beq, Bool.or_false, Bool.or_true, decide_eq_true_eq, decide_true, decide_false, Bool.true_and, Bool.true_or, Bool.false_or, Bool.false_and, Bool.and_false, Bool.and_true, if_true, Bool.false_eq_true, if_false, ite_true, ite_false, toB_map, toB, optAll, all_q, all_tt, List.all_cons, List.all_nil, id, gc_b, gc_n, gc_i, slc1, it_tup, List.drop_succ_cons, List.drop_zero, d43, eqD, w1, w2]))
theorem first_failing_ok {names : Nat} {look : Int → Nat → Int} {cs : List (List Int)} {at_ : Int} : ∀ k, 8 ≤ k → ∀ (es : List (Tm × Tm)) (st : Sto), (∀ p ∈ es, (p.1.ok names 4 ∧ p.2.ok names 4) ∧ ∀ o, o ∈ p.1.offs ∨ o ∈ p.2.offs → sees cs at_ names look o ∧ ∀ j ≤ names, 0 ≤ look o j ∧ look o j ≤ 2) →
    (es.all (fun p => decide (p.1.ev look = p.2.ev look)) = true ∧ run tb k 42 [.tup (es.map eqD), colsD cs, .int at_] st = .ok .non st) ∨ (es.all (fun p => decide (p.1.ev look = p.2.ev look)) = false ∧ ∃ i, run tb k 42 [.tup (es.map eqD), colsD cs, .int at_] st = .ok (.int i) st) := lift fun k hk es st h => by
  rw [run_succ (f := d42.fn) rfl rfl]
  have loop : ∀ (es : List (Tm × Tm)) (c : Int) (y : D) (a b : Option D) (still : Sto → Bool), (∀ s, still s = true) → (∀ p ∈ es, (p.1.ok names 4 ∧ p.2.ok names 4) ∧ ∀ o, o ∈ p.1.offs ∨ o ∈ p.2.offs → sees cs at_ names look o ∧ ∀ j ≤ names, 0 ≤ look o j ∧ look o j ≤ 2) →
      (es.all (fun p => decide (p.1.ev look = p.2.ev look)) = true ∧ ∃ a' b', forL still (setTgt false [3, 4]) (evSs (run tb k) [(.ife (.b1 .lnot (.b1 .truth (.call 43 [(.var 4), (.var 1), (.var 2)] []))) [(.ret (.var 3))] [])]) (enumD c (es.map eqD)) [some y, some (colsD cs), some (.int at_), a, b] st = .next [some y, some (colsD cs), some (.int at_), a', b'] st) ∨
      (es.all (fun p => decide (p.1.ev look = p.2.ev look)) = false ∧ ∃ i, forL still (setTgt false [3, 4]) (evSs (run tb k) [(.ife (.b1 .lnot (.b1 .truth (.call 43 [(.var 4), (.var 1), (.var 2)] []))) [(.ret (.var 3))] [])]) (enumD c (es.map eqD)) [some y, some (colsD cs), some (.int at_), a, b] st = .ret (.int i) st) := by
    intro es
    induction es with
    | nil => intro c y a b still hs _; exact .inl ⟨rfl, a, b, for_nil _ _ _ _ _ (hs _)⟩
    | cons p es ih =>
      intro c y a b still hs h
      have w := fun st => is_held_ok (names := names) (look := look) (cs := cs) (at_ := at_) k (by omega) p st (h p (List.mem_cons_self ..))
      simp only [List.map_cons, enumD]
      rw [for_cons _ _ _ _ _ _ _ (hs _)]
      by_cases e : p.1.ev look = p.2.ev look
      · rcases ih (c + 1) y (some (.int c)) (some (eqD p)) still hs (fun q hq => h q (List.mem_cons_of_mem _ hq)) with ⟨r1, a', b', r2⟩ | ⟨r1, i, r2⟩
        · refine .inl ⟨by simp [e] at r1 ⊢; exact r1, a', b', ?_⟩
          rw [← r2]
          (simp (config := {decide := true, maxSteps := 1000000}) (disch := omega) only [Df.fn, Nat.reduceAdd, Nat.reduceSub, Nat.reduceMul, Int.reduceToNat, Int.reduceAdd, Int.reduceSub, Int.reduceMul, Int.reduceNeg, Int.reduceLE, Int.reduceLT, at0, at1, at2, at3, Nat.zero_add, Nat.sub_self, List.map_cons, List.map_nil, List.length_cons, List.length_nil, List.replicate_succ, List.replicate_zero, List.cons_append, List.nil_append, List.append_nil, List.getElem?_cons_zero, List.getElem?_cons_succ, Option.join_some, List.set_cons_zero, List.set_cons_succ,
  onB_bl, onO_bl, bind_ok, out_ok, bind_ite, out_ite, seq_next, seq_ret, seq_ite, end_next, end_ret, end_ite, optO_some, optR_some, x_var, x_cst, x_b2, x_b1, x_sset, x_rg, x_and, x_or, x_ite, x_chain, x_tup, x_lst, x_idx, x_slc, x_call, x_isi, x_gin, x_gget, x_comp, x_nil, x_cons, x_asg, x_asgT, x_par, x_sub, x_app, x_ext, x_expr, x_ret, x_retN, x_ife, x_for, x_pass, x_end, x_seq,
  turn_next, turn_ret, turn_ite, pyEq_int, wipeD, setTgt, setEach,
  o_add_i, o_add_t, o_sub, o_mul_i, o_fdiv, o_mod, o_eq, o_ne, o_lt, o_le, o_gt, o_ge, o_mx, o_mn, o_neg, o_len_t, o_len_l, o_int_i, o_int_b, o_isN, o_notN, o_asI, o_isF, o_lnot, o_truth, o_tuple_t, o_tuple_l, o_list_t, o_idx_t, o_all_last, o_tuple_last, MP.isNon, Bool.not_true, Bool.not_false, List.length_append, List.append_assoc,
  truthOf, isTys, isTy, kindD, tyB, gc_self, mkT, mkL, lim, seqOf, Option.map_some, Nat.beq, Bool.or_false, Bool.or_true, decide_eq_true_eq, decide_true, decide_false, Bool.true_and, Bool.true_or, Bool.false_or, Bool.false_and, Bool.and_false, Bool.and_true, if_true, Bool.false_eq_true, if_false, ite_true, ite_false, w, e, gcE_self])
        · refine .inr ⟨by simp [e] at r1 ⊢; exact r1, i, ?_⟩
          rw [← r2]
          (simp (config := {decide := true, maxSteps := 1000000}) (disch := omega) only [Df.fn, Nat.reduceAdd, Nat.reduceSub, Nat.reduceMul, Int.reduceToNat, Int.reduceAdd, Int.reduceSub, Int.reduceMul, Int.reduceNeg, Int.reduceLE, Int.reduceLT, at0, at1, at2, at3, Nat.zero_add, Nat.sub_self, List.map_cons, List.map_nil, List.length_cons, List.length_nil, List.replicate_succ, List.replicate_zero, List.cons_append, List.nil_append, List.append_nil, List.getElem?_cons_zero, List.getElem?_cons_succ, Option.join_some, List.set_cons_zero, List.set_cons_succ,
  onB_bl, onO_bl, bind_ok, out_ok, bind_ite, out_ite, seq_next, seq_ret, seq_ite, end_next, end_ret, end_ite, optO_some, optR_some, x_var, x_cst, x_b2, x_b1, x_sset, x_rg, x_and, x_or, x_ite, x_chain, x_tup, x_lst, x_idx, x_slc, x_call, x_isi, x_gin, x_gget, x_comp, x_nil, x_cons, x_asg, x_asgT, x_par, x_sub, x_app, x_ext, x_expr, x_ret, x_retN, x_ife, x_for, x_pass, x_end, x_seq,
  turn_next, turn_ret, turn_ite, pyEq_int, wipeD, setTgt, setEach,
  o_add_i, o_add_t, o_sub, o_mul_i, o_fdiv, o_mod, o_eq, o_ne, o_lt, o_le, o_gt, o_ge, o_mx, o_mn, o_neg, o_len_t, o_len_l, o_int_i, o_int_b, o_isN, o_notN, o_asI, o_isF, o_lnot, o_truth, o_tuple_t, o_tuple_l, o_list_t, o_idx_t, o_all_last, o_tuple_last, MP.isNon, Bool.not_true, Bool.not_false, List.length_append, List.append_assoc,
  truthOf, isTys, isTy, kindD, tyB, gc_self, mkT, mkL, lim, seqOf, Option.map_some, Nat.beq, Bool.or_false, Bool.or_true, decide_eq_true_eq, decide_true, decide_false, Bool.true_and, Bool.true_or, Bool.false_or, Bool.false_and, Bool.and_false, Bool.and_true, if_true, Bool.false_eq_true, if_false, ite_true, ite_false, w, e, gcE_self])
      · refine .inr ⟨by simp [e], c, ?_⟩
        (simp (config := {decide := true, maxSteps := 1000000}) (disch := omega) only [Df.fn, Nat.reduceAdd, Nat.reduceSub, Nat.reduceMul, Int.reduceToNat, Int.reduceAdd, Int.reduceSub, Int.reduceMul, Int.reduceNeg, Int.reduceLE, Int.reduceLT, at0, at1, at2, at3, Nat.zero_add, Nat.sub_self, List.map_cons, List.map_nil, List.length_cons, List.length_nil, List.replicate_succ, List.replicate_zero, List.cons_append, List.nil_append, List.append_nil, List.getElem?_cons_zero, List.getElem?_cons_succ, Option.join_some, List.set_cons_zero, List.set_cons_succ,
  onB_bl, onO_bl, bind_ok, out_ok, bind_ite, out_ite, seq_next, seq_ret, seq_ite, end_next, end_ret, end_ite, optO_some, optR_some, x_var, x_cst, x_b2, x_b1, x_sset, x_rg, x_and, x_or, x_ite, x_chain, x_tup, x_lst, x_idx, x_slc, x_call, x_isi, x_gin, x_gget, x_comp, x_nil, x_cons, x_asg, x_asgT, x_par, x_sub, x_app, x_ext, x_expr, x_ret, x_retN, x_ife, x_for, x_pass, x_end, x_seq,
  turn_next, turn_ret, turn_ite, pyEq_int, wipeD, setTgt, setEach,
  o_add_i, o_add_t, o_sub, o_mul_i, o_fdiv, o_mod, o_eq, o_ne, o_lt, o_le, o_gt, o_ge, o_mx, o_mn, o_neg, o_len_t, o_len_l, o_int_i, o_int_b, o_isN, o_notN, o_asI, o_isF, o_lnot, o_truth, o_tuple_t, o_tuple_l, o_list_t, o_idx_t, o_all_last, o_tuple_last, MP.isNon, Bool.not_true, Bool.not_false, List.length_append, List.append_assoc,
  truthOf, isTys, isTy, kindD, tyB, gc_self, mkT, mkL, lim, seqOf, Option.map_some, Nat.beq, Bool.or_false, Bool.or_true, decide_eq_true_eq, decide_true, decide_false, Bool.true_and, Bool.true_or, Bool.false_or, Bool.false_and, Bool.and_false, Bool.and_true, if_true, Bool.false_eq_true, if_false, ite_true, ite_false, w, e, gcE_self])
  rcases loop es 0 (.tup (es.map eqD)) none none (stillOf 4 (.tup (es.map eqD)) .non st) (fun _ => rfl) h with ⟨r1, a', b', r2⟩ | ⟨r1, i, r2⟩
  · refine .inl ⟨r1, ?_⟩
    ((simp (config := {decide := true, maxSteps := 1000000}) (disch := omega) only [Df.fn, Nat.reduceAdd, Nat.reduceSub, Nat.reduceMul, Int.reduceToNat, Int.reduceAdd, Int.reduceSub, Int.reduceMul, Int.reduceNeg, Int.reduceLE, Int.reduceLT, at0, at1, at2, at3, Nat.zero_add, Nat.sub_self, List.map_cons, List.map_nil, List.length_cons, List.length_nil, List.replicate_succ, List.replicate_zero, List.cons_append, List.nil_append, List.append_nil, List.getElem?_cons_zero, List.getElem?_cons_succ, Option.join_some, List.set_cons_zero, List.set_cons_succ,
  onB_bl, onO_bl, bind_ok, out_ok, bind_ite, out_ite, seq_next, seq_ret, seq_ite, end_next, end_ret, end_ite, optO_some, optR_some, x_var, x_cst, x_b2, x_b1, x_sset, x_rg, x_and, x_or, x_ite, x_chain, x_tup, x_lst, x_idx, x_slc, x_call, x_isi, x_gin, x_gget, x_comp, x_nil, x_cons, x_asg, x_asgT, x_par, x_sub, x_app, x_ext, x_expr, x_ret, x_retN, x_ife, x_for, x_pass, x_end, x_seq,
  turn_next, turn_ret, turn_ite, pyEq_int, wipeD, setTgt, setEach,
  o_add_i, o_add_t, o_sub, o_mul_i, o_fdiv, o_mod, o_eq, o_ne, o_lt, o_le, o_gt, o_ge, o_mx, o_mn, o_neg, o_len_t, o_len_l, o_int_i, o_int_b, o_isN, o_notN, o_asI, o_isF, o_lnot, o_truth, o_tuple_t, o_tuple_l, o_list_t, o_idx_t, o_all_last, o_tuple_last, MP.isNon, Bool.not_true, Bool.not_false, List.length_append, List.append_assoc,
  truthOf, isTys, isTy, kindD, tyB, gc_self, mkT, mkL, lim, seqOf, Option.map_some, Nat.beq, Bool.or_false, Bool.or_true, decide_eq_true_eq, decide_true, decide_false, Bool.true_and, Bool.true_or, Bool.false_or, Bool.false_and, Bool.and_false, Bool.and_true, if_true, Bool.false_eq_true, if_false, ite_true, ite_false, toB_map, toB, optAll, all_q, all_tt, List.all_cons, List.all_nil, id, gc_b, gc_n, gc_i, slc1, it_tup, List.drop_succ_cons, List.drop_zero, d42, it_enum, r2]))
  · refine .inr ⟨r1, i, ?_⟩
    ((simp (config := {decide := true, maxSteps := 1000000}) (disch := omega) only [Df.fn, Nat.reduceAdd, Nat.reduceSub, Nat.reduceMul, Int.reduceToNat, Int.reduceAdd, Int.reduceSub, Int.reduceMul, Int.reduceNeg, Int.reduceLE, Int.reduceLT, at0, at1, at2, at3, Nat.zero_add, Nat.sub_self, List.map_cons, List.map_nil, List.length_cons, List.length_nil, List.replicate_succ, List.replicate_zero, List.cons_append, List.nil_append, List.append_nil, List.getElem?_cons_zero, List.getElem?_cons_succ, Option.join_some, List.set_cons_zero, List.set_cons_succ,
  onB_bl, onO_bl, bind_ok, out_ok, bind_ite, out_ite, seq_next, seq_ret, seq_ite, end_next, end_ret, end_ite, optO_some, optR_some, x_var, x_cst, x_b2, x_b1, x_sset, x_rg, x_and, x_or, x_ite, x_chain, x_tup, x_lst, x_idx, x_slc, x_call, x_isi, x_gin, x_gget, x_comp, x_nil, x_cons, x_asg, x_asgT, x_par, x_sub, x_app, x_ext, x_expr, x_ret, x_retN, x_ife, x_for, x_pass, x_end, x_seq,
  turn_next, turn_ret, turn_ite, pyEq_int, wipeD, setTgt, setEach,
  o_add_i, o_add_t, o_sub, o_mul_i, o_fdiv, o_mod, o_eq, o_ne, o_lt, o_le, o_gt, o_ge, o_mx, o_mn, o_neg, o_len_t, o_len_l, o_int_i, o_int_b, o_isN, o_notN, o_asI, o_isF, o_lnot, o_truth, o_tuple_t, o_tuple_l, o_list_t, o_idx_t, o_all_last, o_tuple_last, MP.isNon, Bool.not_true, Bool.not_false, List.length_append, List.append_assoc,
  truthOf, isTys, isTy, kindD, tyB, gc_self, mkT, mkL, lim, seqOf, Option.map_some, Nat.beq, Bool.or_false, Bool.or_true, decide_eq_true_eq, decide_true, decide_false, Bool.true_and, Bool.true_or, Bool.false_or, Bool.false_and, Bool.and_false, Bool.and_true, if_true, Bool.false_eq_true, if_false, ite_true, ite_false, toB_map, toB, optAll, all_q, all_tt, List.all_cons, List.all_nil, id, gc_b, gc_n, gc_i, slc1, it_tup, List.drop_succ_cons, List.drop_zero, d42, it_enum, r2]))
theorem all_hold_ok {names : Nat} {look : Int → Nat → Int} {cs : List (List Int)} {at_ : Int} : ∀ k, 9 ≤ k → ∀ (es : List (Tm × Tm)) (st : Sto), (∀ p ∈ es, (p.1.ok names 4 ∧ p.2.ok names 4) ∧ ∀ o, o ∈ p.1.offs ∨ o ∈ p.2.offs → sees cs at_ names look o ∧ ∀ j ≤ names, 0 ≤ look o j ∧ look o j ≤ 2) →
    run tb k 11 [.tup (es.map eqD), colsD cs, .int at_] st = .ok (.bl (es.all fun p => decide (p.1.ev look = p.2.ev look))) st := lift fun k hk es st h => by
  rw [run_succ (f := d11.fn) rfl rfl]
  rcases first_failing_ok (names := names) (look := look) (cs := cs) (at_ := at_) k (by omega) es st h with ⟨r1, r2⟩ | ⟨r1, i, r2⟩
  · ((simp (config := {decide := true, maxSteps := 1000000}) (disch := omega) only [Df.fn, Nat.reduceAdd, Nat.reduceSub, Nat.reduceMul, Int.reduceToNat, Int.reduceAdd, Int.reduceSub, Int.reduceMul, Int.reduceNeg, Int.reduceLE, Int.reduceLT, at0, at1, at2, at3, Nat.zero_add, Nat.sub_self, List.map_cons, List.map_nil, List.length_cons, List.length_nil, List.replicate_succ, List.replicate_zero, List.cons_append, List.nil_append, List.append_nil, List.getElem?_cons_zero, List.getElem?_cons_succ, Option.join_some, List.set_cons_zero, List.set_cons_succ,
  onB_bl, onO_bl, bind_ok, out_ok, bind_ite, out_ite, seq_next, seq_ret, seq_ite, end_next, end_ret, end_ite, optO_some, optR_some, x_var, x_cst, x_b2, x_b1, x_sset, x_rg, x_and, x_or, x_ite, x_chain, x_tup, x_lst, x_idx, x_slc, x_call, x_isi, x_gin, x_gget, x_comp, x_nil, x_cons, x_asg, x_asgT, x_par, x_sub, x_app, x_ext, x_expr, x_ret, x_retN, x_ife, x_for, x_pass, x_end, x_seq,
  turn_next, turn_ret, turn_ite, pyEq_int, wipeD, setTgt, setEach,
  o_add_i, o_add_t, o_sub, o_mul_i, o_fdiv, o_mod, o_eq, o_ne, o_lt, o_le, o_gt, o_ge, o_mx, o_mn, o_neg, o_len_t, o_len_l, o_int_i, o_int_b, o_isN, o_notN, o_asI, o_isF, o_lnot, o_truth, o_tuple_t, o_tuple_l, o_list_t, o_idx_t, o_all_last, o_tuple_last, MP.isNon, Bool.not_true, Bool.not_false, List.length_append, List.append_assoc,
  truthOf, isTys, isTy, kindD, tyB, gc_self, mkT, mkL, lim, seqOf, Option.map_some, Nat.beq, Bool.or_false, Bool.or_true, decide_eq_true_eq, decide_true, decide_false, Bool.true_and, Bool.true_or, Bool.false_or, Bool.false_and, Bool.and_false, Bool.and_true, if_true, Bool.false_eq_true, if_false, ite_true, ite_false, toB_map, toB, optAll, all_q, all_tt, List.all_cons, List.all_nil, id, gc_b, gc_n, gc_i, slc1, it_tup, List.drop_succ_cons, List.drop_zero, d11, r1, r2]))
  · ((simp (config := {decide := true, maxSteps := 1000000}) (disch := omega) only [Df.fn, Nat.reduceAdd, Nat.reduceSub, Nat.reduceMul, Int.reduceToNat, Int.reduceAdd, Int.reduceSub, Int.reduceMul, Int.reduceNeg, Int.reduceLE, Int.reduceLT, at0, at1, at2, at3, Nat.zero_add, Nat.sub_self, List.map_cons, List.map_nil, List.length_cons, List.length_nil, List.replicate_succ, List.replicate_zero, List.cons_append, List.nil_append, List.append_nil, List.getElem?_cons_zero, List.getElem?_cons_succ, Option.join_some, List.set_cons_zero, List.set_cons_succ,
  onB_bl, onO_bl, bind_ok, out_ok, bind_ite, out_ite, seq_next, seq_ret, seq_ite, end_next, end_ret, end_ite, optO_some, optR_some, x_var, x_cst, x_b2, x_b1, x_sset, x_rg, x_and, x_or, x_ite, x_chain, x_tup, x_lst, x_idx, x_slc, x_call, x_isi, x_gin, x_gget, x_comp, x_nil, x_cons, x_asg, x_asgT, x_par, x_sub, x_app, x_ext, x_expr, x_ret, x_retN, x_ife, x_for, x_pass, x_end, x_seq,
  turn_next, turn_ret, turn_ite, pyEq_int, wipeD, setTgt, setEach,
  o_add_i, o_add_t, o_sub, o_mul_i, o_fdiv, o_mod, o_eq, o_ne, o_lt, o_le, o_gt, o_ge, o_mx, o_mn, o_neg, o_len_t, o_len_l, o_int_i, o_int_b, o_isN, o_notN, o_asI, o_isF, o_lnot, o_truth, o_tuple_t, o_tuple_l, o_list_t, o_idx_t, o_all_last, o_tuple_last, MP.isNon, Bool.not_true, Bool.not_false, List.length_append, List.append_assoc,
  truthOf, isTys, isTy, kindD, tyB, gc_self, mkT, mkL, lim, seqOf, Option.map_some, Nat.beq, Bool.or_false, Bool.or_true, decide_eq_true_eq, decide_true, decide_false, Bool.true_and, Bool.true_or, Bool.false_or, Bool.false_and, Bool.and_false, Bool.and_true, if_true, Bool.false_eq_true, if_false, ite_true, ite_false, toB_map, toB, optAll, all_q, all_tt, List.all_cons, List.all_nil, id, gc_b, gc_n, gc_i, slc1, it_tup, List.drop_succ_cons, List.drop_zero, d11, r1, r2]))
theorem inn_w (st : Sto) (w : Str) (ws : List Str) (b : Bool) (hw : PyData.strOk w = true) (hs : ws.all PyData.strOk = true) (hb : (ws.any fun x => decide (x = w)) = b) : op2 .inn (.str w) (.loc st.length) (st ++ [.lst (ws.map .str)]) = .ok (.bl b) (st ++ [.lst (ws.map .str)]) := by
  show opIn false (.str w) (.loc st.length) (st ++ [.lst (ws.map .str)]) = _
  unfold opIn
  simp only [lstAt_last]
  have e : ∀ ws : List Str, optAll (toP (st ++ [.lst (ws.map .str)]) 20) (ws.map D.str) = some (ws.map .str) := fun ws => by
    have : ∀ (s : Sto) (ws : List Str), optAll (toP s 20) (ws.map D.str) = some (ws.map .str) := by
      intro s ws
      induction ws with
      | nil => rfl
      | cons x xs ih => simp [optAll, toP, ih]
    exact this _ _
  rw [e]
  simp only [toP]
  have sh : ∀ ws : List Str, ws.all PyData.strOk = true → SeqAt.shaped (.list (ws.map .str)) = true := by
    intro ws h
    have a : ∀ ws : List Str, ws.all PyData.strOk = true → PyData.canLayAll0 (ws.map .str) = true ∧ PyData.depthAll (ws.map .str) ≤ 1 := by
      intro ws
      induction ws with
      | nil => intro _; exact ⟨rfl, by simp [PyData.depthAll]⟩
      | cons x xs ih =>
        intro h
        simp only [List.all_cons, Bool.and_eq_true] at h
        obtain ⟨i1, i2⟩ := ih h.2
        exact ⟨by simp [PyData.canLayAll0, PyData.canLay0, h.1, i1], by simp [PyData.depthAll, PyData.depth, i2]⟩
    obtain ⟨a1, a2⟩ := a ws h
    unfold SeqAt.shaped PyData.canLay0
    rw [a1]
    simp [PyData.depth]
    try omega
  rw [if_pos (by rw [shaped_str hw, sh ws hs]; rfl)]
  have ea : ((ws.map PyData.str).any fun q => PyData.eqv q (.str w)) = b := by
    rw [← hb, List.any_map]
    congr 1
  rw [ea]
  cases b <;> rfl
theorem inn_of (st : Sto) (w : Str) (b : Bool) (hw : PyData.strOk w = true) (hb : ((["in", "of"] : List Str).any fun x => decide (x = w)) = b) : op2 .inn (.str w) (.loc st.length) (st ++ [.lst [.str "in", .str "of"]]) = .ok (.bl b) (st ++ [.lst [.str "in", .str "of"]]) :=
  inn_w st w ["in", "of"] b hw (by decide +kernel) hb
theorem io_in (st : Sto) : op2 .inn (.str "in") (.loc st.length) (st ++ [.lst [.str "in", .str "of"]]) = .ok (.bl true) (st ++ [.lst [.str "in", .str "of"]]) := inn_of st "in" true ok_in (by decide +kernel)
theorem io_of (st : Sto) : op2 .inn (.str "of") (.loc st.length) (st ++ [.lst [.str "in", .str "of"]]) = .ok (.bl true) (st ++ [.lst [.str "in", .str "of"]]) := inn_of st "of" true ok_of (by decide +kernel)
theorem io_is (st : Sto) : op2 .inn (.str "is") (.loc st.length) (st ++ [.lst [.str "in", .str "of"]]) = .ok (.bl false) (st ++ [.lst [.str "in", .str "of"]]) := inn_of st "is" false ok_is (by decide +kernel)
theorem io_rest (st : Sto) : op2 .inn (.str "rest") (.loc st.length) (st ++ [.lst [.str "in", .str "of"]]) = .ok (.bl false) (st ++ [.lst [.str "in", .str "of"]]) := inn_of st "rest" false ok_rest (by decide +kernel)
theorem io_pick (st : Sto) : op2 .inn (.str "pick") (.loc st.length) (st ++ [.lst [.str "in", .str "of"]]) = .ok (.bl false) (st ++ [.lst [.str "in", .str "of"]]) := inn_of st "pick" false ok_pick (by decide +kernel)
theorem io_plus (st : Sto) : op2 .inn (.str "plus") (.loc st.length) (st ++ [.lst [.str "in", .str "of"]]) = .ok (.bl false) (st ++ [.lst [.str "in", .str "of"]]) := inn_of st "plus" false ok_plus (by decide +kernel)
theorem io_times (st : Sto) : op2 .inn (.str "times") (.loc st.length) (st ++ [.lst [.str "in", .str "of"]]) = .ok (.bl false) (st ++ [.lst [.str "in", .str "of"]]) := inn_of st "times" false ok_times (by decide +kernel)
theorem io_same (st : Sto) : op2 .inn (.str "same") (.loc st.length) (st ++ [.lst [.str "in", .str "of"]]) = .ok (.bl false) (st ++ [.lst [.str "in", .str "of"]]) := inn_of st "same" false ok_same (by decide +kernel)
theorem io_less (st : Sto) : op2 .inn (.str "less") (.loc st.length) (st ++ [.lst [.str "in", .str "of"]]) = .ok (.bl false) (st ++ [.lst [.str "in", .str "of"]]) := inn_of st "less" false ok_less (by decide +kernel)
def snd (d : D) : D := match d with
  | .tup [_, b] => b
  | _ => .non
theorem snd_map (m : Ml) : (m.names.map nmD).map snd = m.names.map fun p => .int p.2 := by simp [nmD, snd]
theorem snd_elt {cl : Nat → List D → Sto → R D} {n : Nat} {a0 a1 a2 a3 a4 a5 a6 a9 a10 a11 : Option D} (m : Ml) {g : D → Option MP.Env} (hg : (fun x => match x with
      | D.tup xs => if xs.length = 2 then some (setEach [7, 8] xs [a0, a1, a2, a3, a4, a5, a6, none, none, a9, a10, a11]) else none
      | _ => none) = g) : ∀ x ∈ m.names.map nmD, ∃ env, g x = some env ∧ ∀ s : Sto, (snd x).und n = true ∧ ∃ t, evE cl (.var 8) env s = .ok (snd x) (s ++ t) := by
  subst hg
  intro x hx
  obtain ⟨p, hp, rfl⟩ := List.mem_map.mp hx
  refine ⟨_, rfl, fun s => ⟨rfl, [], ?_⟩⟩
  (simp (config := {decide := true, maxSteps := 1000000}) (disch := omega) only [Df.fn, Nat.reduceAdd, Nat.reduceSub, Nat.reduceMul, Int.reduceToNat, Int.reduceAdd, Int.reduceSub, Int.reduceMul, Int.reduceNeg, Int.reduceLE, Int.reduceLT, at0, at1, at2, at3, Nat.zero_add, Nat.sub_self, List.map_cons, List.map_nil, List.length_cons, List.length_nil, List.replicate_succ, List.replicate_zero, List.cons_append, List.nil_append, List.append_nil, List.getElem?_cons_zero, List.getElem?_cons_succ, Option.join_some, List.set_cons_zero, List.set_cons_succ,
  onB_bl, onO_bl, bind_ok, out_ok, bind_ite, out_ite, seq_next, seq_ret, seq_ite, end_next, end_ret, end_ite, optO_some, optR_some, x_var, x_cst, x_b2, x_b1, x_sset, x_rg, x_and, x_or, x_ite, x_chain, x_tup, x_lst, x_idx, x_slc, x_call, x_isi, x_gin, x_gget, x_comp, x_nil, x_cons, x_asg, x_asgT, x_par, x_sub, x_app, x_ext, x_expr, x_ret, x_retN, x_ife, x_for, x_pass, x_end, x_seq,
  turn_next, turn_ret, turn_ite, pyEq_int, wipeD, setTgt, setEach,
  o_add_i, o_add_t, o_sub, o_mul_i, o_fdiv, o_mod, o_eq, o_ne, o_lt, o_le, o_gt, o_ge, o_mx, o_mn, o_neg, o_len_t, o_len_l, o_int_i, o_int_b, o_isN, o_notN, o_asI, o_isF, o_lnot, o_truth, o_tuple_t, o_tuple_l, o_list_t, o_idx_t, o_all_last, o_tuple_last, MP.isNon, Bool.not_true, Bool.not_false, List.length_append, List.append_assoc,
  truthOf, isTys, isTy, kindD, tyB, gc_self, mkT, mkL, lim, seqOf, Option.map_some, Nat.beq, Bool.or_false, Bool.or_true, decide_eq_true_eq, decide_true, decide_false, Bool.true_and, Bool.true_or, Bool.false_or, Bool.false_and, Bool.and_false, Bool.and_true, if_true, Bool.false_eq_true, if_false, ite_true, ite_false, nmD, snd])
abbrev two4 : List CE := [(.b2 .add (.var 9) (.var 10)), (.b2 .mul (.var 9) (.var 10)), (.b1 .int (.b2 .eq (.var 9) (.var 10))), (.b1 .int (.b2 .lt (.var 9) (.var 10)))]
abbrev kv4 (i j : Int) : List (D × D) := [(.str "plus", .int (i + j)), (.str "times", .int (i * j)), (.str "same", .int (if i = j then 1 else 0)), (.str "less", .int (if i < j then 1 else 0))]
theorem nd4 : nodupS (["plus", "times", "same", "less"] : List Str) = true := by decide +kernel
theorem dct_ev {cl : Nat → List D → Sto → R D} {i j : Int} (hb : bigI i = true) (a0 a1 a2 a3 a4 a5 a6 a7 a8 a11 : Option D) (st : Sto) :
    evE cl (.dct ["plus", "times", "same", "less"] two4) [a0, a1, a2, a3, a4, a5, a6, a7, a8, some (.int i), some (.int j), a11] st = .ok (.loc st.length) (st ++ [.dct (kv4 i j)]) := by
  rw [x_dct cl _ two4 _ st [.int (i + j), .int (i * j), .int (if i = j then 1 else 0), .int (if i < j then 1 else 0)] ?_ (by rw [nd4]; rfl)]
  · rfl
  · (simp (config := {decide := true, maxSteps := 1000000}) (disch := omega) only [Df.fn, Nat.reduceAdd, Nat.reduceSub, Nat.reduceMul, Int.reduceToNat, Int.reduceAdd, Int.reduceSub, Int.reduceMul, Int.reduceNeg, Int.reduceLE, Int.reduceLT, at0, at1, at2, at3, Nat.zero_add, Nat.sub_self, List.map_cons, List.map_nil, List.length_cons, List.length_nil, List.replicate_succ, List.replicate_zero, List.cons_append, List.nil_append, List.append_nil, List.getElem?_cons_zero, List.getElem?_cons_succ, Option.join_some, List.set_cons_zero, List.set_cons_succ,
  onB_bl, onO_bl, bind_ok, out_ok, bind_ite, out_ite, seq_next, seq_ret, seq_ite, end_next, end_ret, end_ite, optO_some, optR_some, x_var, x_cst, x_b2, x_b1, x_sset, x_rg, x_and, x_or, x_ite, x_chain, x_tup, x_lst, x_idx, x_slc, x_call, x_isi, x_gin, x_gget, x_comp, x_nil, x_cons, x_asg, x_asgT, x_par, x_sub, x_app, x_ext, x_expr, x_ret, x_retN, x_ife, x_for, x_pass, x_end, x_seq,
  turn_next, turn_ret, turn_ite, pyEq_int, wipeD, setTgt, setEach,
  o_add_i, o_add_t, o_sub, o_mul_i, o_fdiv, o_mod, o_eq, o_ne, o_lt, o_le, o_gt, o_ge, o_mx, o_mn, o_neg, o_len_t, o_len_l, o_int_i, o_int_b, o_isN, o_notN, o_asI, o_isF, o_lnot, o_truth, o_tuple_t, o_tuple_l, o_list_t, o_idx_t, o_all_last, o_tuple_last, MP.isNon, Bool.not_true, Bool.not_false, List.length_append, List.append_assoc,
  truthOf, isTys, isTy, kindD, tyB, gc_self, mkT, mkL, lim, seqOf, Option.map_some, Nat.beq, Bool.or_false, Bool.or_true, decide_eq_true_eq, decide_true, decide_false, Bool.true_and, Bool.true_or, Bool.false_or, Bool.false_and, Bool.and_false, Bool.and_true, if_true, Bool.false_eq_true, if_false, ite_true, ite_false, two4, hb])
theorem dct_at (st : Sto) (o : O) (kvs : List (D × D)) (k : Str) : opIdx (.loc (st.length + 1)) (.str k) (st ++ [o, .dct kvs]) = optR (dGet kvs (.str k)) fun d => .ok d (st ++ [o, .dct kvs]) := by
  refine o_idx_d ?_ k
  rw [List.getElem?_append_right (by omega)]
  simp
theorem kv_get (w : W2) (i j : Int) : dGet (kv4 i j) (.str w.s) = some (.int (w.ev i j)) := by
  cases w <;> simp only [W2.s, dGet, D.eqb, ne_plus_times, ne_plus_same, ne_plus_less, ne_times_same, ne_times_less, ne_same_less, W2.ev, decide_true, decide_false, if_true, Bool.false_eq_true, if_false]
theorem neg1 (x : D) (a b : D) : atD [a, b] (-1) = some b ∧ atD [a, x, b] (-1) = some b := ⟨rfl, rfl⟩
theorem neg1a (a b : D) : atD [a, b] (-1) = some b := rfl
theorem neg1b (a b c : D) : atD [a, b, c] (-1) = some c := rfl
/-- what the law sees -/
def lsees (m : Ml) (cs : List (List Int)) (tick : Int) (look : Int → Nat → Int) (o : Int) : Prop :=
  (0 ≤ tick + o → sees cs tick m.names.length look o) ∧ (tick + o < 0 → ∀ j : Nat, j ≤ m.names.length → atD (.int 0 :: m.names.map fun p => D.int p.2) (j : Int) = some (.int (look o j)))
theorem law_worth_ok {m : Ml} {look : Int → Nat → Int} {cs : List (List Int)} {tick : Int} (hm : m.names.length ≤ 2) : ∀ (d : Nat), d ≤ 4 → ∀ k, d + 1 ≤ k → ∀ (t : Tm) (st : Sto), t.ok m.names.length d → (∀ o ∈ t.offs, lsees m cs tick look o ∧ ∀ j ≤ m.names.length, 0 ≤ look o j ∧ look o j ≤ 2) →
    run tb k 38 [m.d, t.d, colsD cs, .int tick] st = .ok (.int (t.ev look)) st
  | 0, _, k, hk, t, st, h, _ => h.elim
  | d + 1, hd, k, hk, t, st, h, hs => by
    obtain ⟨k, rfl⟩ : ∃ j, k = j + 1 := ⟨k - 1, by omega⟩
    rw [run_succ (f := d38.fn) rfl rfl]
    have ih := law_worth_ok (look := look) (cs := cs) (tick := tick) hm d (by omega) k (by omega)
    simp only [colsD] at ih
    cases t with
    | inp o =>
      obtain ⟨⟨p1, p2⟩, _⟩ := hs o (by simp [Tm.offs])
      by_cases hp : 0 ≤ tick + o
      · obtain ⟨c, h1, h2⟩ := p1 hp
        have h3 : atD (c.map D.int) 0 = some (.int (look o 0)) := h2 0 (by omega)
        rw [at0] at h3
        (((simp (config := {decide := true, maxSteps := 1000000}) (disch := omega) only [Df.fn, Nat.reduceAdd, Nat.reduceSub, Nat.reduceMul, Int.reduceToNat, Int.reduceAdd, Int.reduceSub, Int.reduceMul, Int.reduceNeg, Int.reduceLE, Int.reduceLT, at0, at1, at2, at3, Nat.zero_add, Nat.sub_self, List.map_cons, List.map_nil, List.length_cons, List.length_nil, List.replicate_succ, List.replicate_zero, List.cons_append, List.nil_append, List.append_nil, List.getElem?_cons_zero, List.getElem?_cons_succ, Option.join_some, List.set_cons_zero, List.set_cons_succ,
  onB_bl, onO_bl, bind_ok, out_ok, bind_ite, out_ite, seq_next, seq_ret, seq_ite, end_next, end_ret, end_ite, optO_some, optR_some, x_var, x_cst, x_b2, x_b1, x_sset, x_rg, x_and, x_or, x_ite, x_chain, x_tup, x_lst, x_idx, x_slc, x_call, x_isi, x_gin, x_gget, x_comp, x_nil, x_cons, x_asg, x_asgT, x_par, x_sub, x_app, x_ext, x_expr, x_ret, x_retN, x_ife, x_for, x_pass, x_end, x_seq,
  turn_next, turn_ret, turn_ite, pyEq_int, wipeD, setTgt, setEach,
  o_add_i, o_add_t, o_sub, o_mul_i, o_fdiv, o_mod, o_eq, o_ne, o_lt, o_le, o_gt, o_ge, o_mx, o_mn, o_neg, o_len_t, o_len_l, o_int_i, o_int_b, o_isN, o_notN, o_asI, o_isF, o_lnot, o_truth, o_tuple_t, o_tuple_l, o_list_t, o_idx_t, o_all_last, o_tuple_last, MP.isNon, Bool.not_true, Bool.not_false, List.length_append, List.append_assoc,
  truthOf, isTys, isTy, kindD, tyB, gc_self, mkT, mkL, lim, seqOf, Option.map_some, Nat.beq, Bool.or_false, Bool.or_true, decide_eq_true_eq, decide_true, decide_false, Bool.true_and, Bool.true_or, Bool.false_or, Bool.false_and, Bool.and_false, Bool.and_true, if_true, Bool.false_eq_true, if_false, ite_true, ite_false, pe_in_in, pe_in_of, pe_in_is, pe_in_rest, pe_in_pick, pe_in_plus, pe_in_times, pe_in_same, pe_in_less, pe_of_in, pe_of_of, pe_of_is, pe_of_rest, pe_of_pick, pe_of_plus, pe_of_times, pe_of_same, pe_of_less, pe_is_in, pe_is_of, pe_is_is, pe_is_rest, pe_is_pick, pe_is_plus, pe_is_times, pe_is_same, pe_is_less, pe_rest_in, pe_rest_of, pe_rest_is, pe_rest_rest, pe_rest_pick, pe_rest_plus, pe_rest_times, pe_rest_same, pe_rest_less, pe_pick_in, pe_pick_of, pe_pick_is, pe_pick_rest, pe_pick_pick, pe_pick_plus, pe_pick_times, pe_pick_same, pe_pick_less, pe_plus_in, pe_plus_of, pe_plus_is, pe_plus_rest, pe_plus_pick, pe_plus_plus, pe_plus_times, pe_plus_same, pe_plus_less, pe_times_in, pe_times_of, pe_times_is, pe_times_rest, pe_times_pick, pe_times_plus, pe_times_times, pe_times_same, pe_times_less, pe_same_in, pe_same_of, pe_same_is, pe_same_rest, pe_same_pick, pe_same_plus, pe_same_times, pe_same_same, pe_same_less, pe_less_in, pe_less_of, pe_less_is, pe_less_rest, pe_less_pick, pe_less_plus, pe_less_times, pe_less_same, pe_less_less, gi_in, gi_of, gi_is, gi_rest, gi_pick, gi_plus, gi_times, gi_same, gi_less, gg_plus, gg_times, gg_same, gg_less, gg_pick, MP.alloc, io_in, io_of, io_is, io_rest, io_pick, io_plus, io_times, io_same, io_less, lst_l, lst_l1, lst_l2, gc_b, gc_n, gc_i, gc_self, d38, Tm.d, Tm.ev, colsD, h1, cD, h3, neg1a, hp])))
      · have h3 : atD (.int 0 :: m.names.map fun p => D.int p.2) 0 = some (.int (look o 0)) := p2 (by omega) 0 (by omega)
        have h3 : look o 0 = 0 := (D.int.inj (Option.some.inj h3)).symm
        have hl : ((m.names.map fun p => D.int p.2).length + 1 ≤ 1000000) = True := eq_true (by simp; omega)
        (((simp (config := {decide := true, maxSteps := 1000000}) (disch := omega) only [Df.fn, Nat.reduceAdd, Nat.reduceSub, Nat.reduceMul, Int.reduceToNat, Int.reduceAdd, Int.reduceSub, Int.reduceMul, Int.reduceNeg, Int.reduceLE, Int.reduceLT, at0, at1, at2, at3, Nat.zero_add, Nat.sub_self, List.map_cons, List.map_nil, List.length_cons, List.length_nil, List.replicate_succ, List.replicate_zero, List.cons_append, List.nil_append, List.append_nil, List.getElem?_cons_zero, List.getElem?_cons_succ, Option.join_some, List.set_cons_zero, List.set_cons_succ,
  onB_bl, onO_bl, bind_ok, out_ok, bind_ite, out_ite, seq_next, seq_ret, seq_ite, end_next, end_ret, end_ite, optO_some, optR_some, x_var, x_cst, x_b2, x_b1, x_sset, x_rg, x_and, x_or, x_ite, x_chain, x_tup, x_lst, x_idx, x_slc, x_call, x_isi, x_gin, x_gget, x_comp, x_nil, x_cons, x_asg, x_asgT, x_par, x_sub, x_app, x_ext, x_expr, x_ret, x_retN, x_ife, x_for, x_pass, x_end, x_seq,
  turn_next, turn_ret, turn_ite, pyEq_int, wipeD, setTgt, setEach,
  o_add_i, o_add_t, o_sub, o_mul_i, o_fdiv, o_mod, o_eq, o_ne, o_lt, o_le, o_gt, o_ge, o_mx, o_mn, o_neg, o_len_t, o_len_l, o_int_i, o_int_b, o_isN, o_notN, o_asI, o_isF, o_lnot, o_truth, o_tuple_t, o_tuple_l, o_list_t, o_idx_t, o_all_last, o_tuple_last, MP.isNon, Bool.not_true, Bool.not_false, List.length_append, List.append_assoc,
  truthOf, isTys, isTy, kindD, tyB, gc_self, mkT, mkL, lim, seqOf, Option.map_some, Nat.beq, Bool.or_false, Bool.or_true, decide_eq_true_eq, decide_true, decide_false, Bool.true_and, Bool.true_or, Bool.false_or, Bool.false_and, Bool.and_false, Bool.and_true, if_true, Bool.false_eq_true, if_false, ite_true, ite_false, pe_in_in, pe_in_of, pe_in_is, pe_in_rest, pe_in_pick, pe_in_plus, pe_in_times, pe_in_same, pe_in_less, pe_of_in, pe_of_of, pe_of_is, pe_of_rest, pe_of_pick, pe_of_plus, pe_of_times, pe_of_same, pe_of_less, pe_is_in, pe_is_of, pe_is_is, pe_is_rest, pe_is_pick, pe_is_plus, pe_is_times, pe_is_same, pe_is_less, pe_rest_in, pe_rest_of, pe_rest_is, pe_rest_rest, pe_rest_pick, pe_rest_plus, pe_rest_times, pe_rest_same, pe_rest_less, pe_pick_in, pe_pick_of, pe_pick_is, pe_pick_rest, pe_pick_pick, pe_pick_plus, pe_pick_times, pe_pick_same, pe_pick_less, pe_plus_in, pe_plus_of, pe_plus_is, pe_plus_rest, pe_plus_pick, pe_plus_plus, pe_plus_times, pe_plus_same, pe_plus_less, pe_times_in, pe_times_of, pe_times_is, pe_times_rest, pe_times_pick, pe_times_plus, pe_times_times, pe_times_same, pe_times_less, pe_same_in, pe_same_of, pe_same_is, pe_same_rest, pe_same_pick, pe_same_plus, pe_same_times, pe_same_same, pe_same_less, pe_less_in, pe_less_of, pe_less_is, pe_less_rest, pe_less_pick, pe_less_plus, pe_less_times, pe_less_same, pe_less_less, gi_in, gi_of, gi_is, gi_rest, gi_pick, gi_plus, gi_times, gi_same, gi_less, gg_plus, gg_times, gg_same, gg_less, gg_pick, MP.alloc, io_in, io_of, io_is, io_rest, io_pick, io_plus, io_times, io_same, io_less, lst_l, lst_l1, lst_l2, gc_b, gc_n, gc_i, gc_self, d38, Tm.d, Tm.ev, colsD, cD, neg1a, hp, Ml.d, Ml.nd, it_tup])))
        rw [comp_at (st ++ [O.lst [D.str "in", D.str "of"]]) snd (m.names.map nmD) ?_ ?_ ?_ ?_ ?_]
        · rw [snd_map]
          (((simp (config := {decide := true, maxSteps := 1000000}) (disch := omega) only [Df.fn, Nat.reduceAdd, Nat.reduceSub, Nat.reduceMul, Int.reduceToNat, Int.reduceAdd, Int.reduceSub, Int.reduceMul, Int.reduceNeg, Int.reduceLE, Int.reduceLT, at0, at1, at2, at3, Nat.zero_add, Nat.sub_self, List.map_cons, List.map_nil, List.length_cons, List.length_nil, List.replicate_succ, List.replicate_zero, List.cons_append, List.nil_append, List.append_nil, List.getElem?_cons_zero, List.getElem?_cons_succ, Option.join_some, List.set_cons_zero, List.set_cons_succ,
  onB_bl, onO_bl, bind_ok, out_ok, bind_ite, out_ite, seq_next, seq_ret, seq_ite, end_next, end_ret, end_ite, optO_some, optR_some, x_var, x_cst, x_b2, x_b1, x_sset, x_rg, x_and, x_or, x_ite, x_chain, x_tup, x_lst, x_idx, x_slc, x_call, x_isi, x_gin, x_gget, x_comp, x_nil, x_cons, x_asg, x_asgT, x_par, x_sub, x_app, x_ext, x_expr, x_ret, x_retN, x_ife, x_for, x_pass, x_end, x_seq,
  turn_next, turn_ret, turn_ite, pyEq_int, wipeD, setTgt, setEach,
  o_add_i, o_add_t, o_sub, o_mul_i, o_fdiv, o_mod, o_eq, o_ne, o_lt, o_le, o_gt, o_ge, o_mx, o_mn, o_neg, o_len_t, o_len_l, o_int_i, o_int_b, o_isN, o_notN, o_asI, o_isF, o_lnot, o_truth, o_tuple_t, o_tuple_l, o_list_t, o_idx_t, o_all_last, o_tuple_last, MP.isNon, Bool.not_true, Bool.not_false, List.length_append, List.append_assoc,
  truthOf, isTys, isTy, kindD, tyB, gc_self, mkT, mkL, lim, seqOf, Option.map_some, Nat.beq, Bool.or_false, Bool.or_true, decide_eq_true_eq, decide_true, decide_false, Bool.true_and, Bool.true_or, Bool.false_or, Bool.false_and, Bool.and_false, Bool.and_true, if_true, Bool.false_eq_true, if_false, ite_true, ite_false, pe_in_in, pe_in_of, pe_in_is, pe_in_rest, pe_in_pick, pe_in_plus, pe_in_times, pe_in_same, pe_in_less, pe_of_in, pe_of_of, pe_of_is, pe_of_rest, pe_of_pick, pe_of_plus, pe_of_times, pe_of_same, pe_of_less, pe_is_in, pe_is_of, pe_is_is, pe_is_rest, pe_is_pick, pe_is_plus, pe_is_times, pe_is_same, pe_is_less, pe_rest_in, pe_rest_of, pe_rest_is, pe_rest_rest, pe_rest_pick, pe_rest_plus, pe_rest_times, pe_rest_same, pe_rest_less, pe_pick_in, pe_pick_of, pe_pick_is, pe_pick_rest, pe_pick_pick, pe_pick_plus, pe_pick_times, pe_pick_same, pe_pick_less, pe_plus_in, pe_plus_of, pe_plus_is, pe_plus_rest, pe_plus_pick, pe_plus_plus, pe_plus_times, pe_plus_same, pe_plus_less, pe_times_in, pe_times_of, pe_times_is, pe_times_rest, pe_times_pick, pe_times_plus, pe_times_times, pe_times_same, pe_times_less, pe_same_in, pe_same_of, pe_same_is, pe_same_rest, pe_same_pick, pe_same_plus, pe_same_times, pe_same_same, pe_same_less, pe_less_in, pe_less_of, pe_less_is, pe_less_rest, pe_less_pick, pe_less_plus, pe_less_times, pe_less_same, pe_less_less, gi_in, gi_of, gi_is, gi_rest, gi_pick, gi_plus, gi_times, gi_same, gi_less, gg_plus, gg_times, gg_same, gg_less, gg_pick, MP.alloc, io_in, io_of, io_is, io_rest, io_pick, io_plus, io_times, io_same, io_less, lst_l, lst_l1, lst_l2, gc_b, gc_n, gc_i, gc_self, h3, hl])))
        · simp
        · simp
        · exact fun _ => rfl
        · exact snd_elt m rfl
        · simp; omega
    | of n o =>
      obtain ⟨⟨p1, p2⟩, _⟩ := hs o (by simp [Tm.offs])
      have hn := h.1
      have e1 : (1 : Int) + (n : Int) = ((n + 1 : Nat) : Int) := by omega
      by_cases hp : 0 ≤ tick + o
      · obtain ⟨c, h1, h2⟩ := p1 hp
        have h3 : atD (c.map D.int) ((n + 1 : Nat) : Int) = some (.int (look o (n + 1))) := h2 (n + 1) (by omega)
        (((simp (config := {decide := true, maxSteps := 1000000}) (disch := omega) only [Df.fn, Nat.reduceAdd, Nat.reduceSub, Nat.reduceMul, Int.reduceToNat, Int.reduceAdd, Int.reduceSub, Int.reduceMul, Int.reduceNeg, Int.reduceLE, Int.reduceLT, at0, at1, at2, at3, Nat.zero_add, Nat.sub_self, List.map_cons, List.map_nil, List.length_cons, List.length_nil, List.replicate_succ, List.replicate_zero, List.cons_append, List.nil_append, List.append_nil, List.getElem?_cons_zero, List.getElem?_cons_succ, Option.join_some, List.set_cons_zero, List.set_cons_succ,
  onB_bl, onO_bl, bind_ok, out_ok, bind_ite, out_ite, seq_next, seq_ret, seq_ite, end_next, end_ret, end_ite, optO_some, optR_some, x_var, x_cst, x_b2, x_b1, x_sset, x_rg, x_and, x_or, x_ite, x_chain, x_tup, x_lst, x_idx, x_slc, x_call, x_isi, x_gin, x_gget, x_comp, x_nil, x_cons, x_asg, x_asgT, x_par, x_sub, x_app, x_ext, x_expr, x_ret, x_retN, x_ife, x_for, x_pass, x_end, x_seq,
  turn_next, turn_ret, turn_ite, pyEq_int, wipeD, setTgt, setEach,
  o_add_i, o_add_t, o_sub, o_mul_i, o_fdiv, o_mod, o_eq, o_ne, o_lt, o_le, o_gt, o_ge, o_mx, o_mn, o_neg, o_len_t, o_len_l, o_int_i, o_int_b, o_isN, o_notN, o_asI, o_isF, o_lnot, o_truth, o_tuple_t, o_tuple_l, o_list_t, o_idx_t, o_all_last, o_tuple_last, MP.isNon, Bool.not_true, Bool.not_false, List.length_append, List.append_assoc,
  truthOf, isTys, isTy, kindD, tyB, gc_self, mkT, mkL, lim, seqOf, Option.map_some, Nat.beq, Bool.or_false, Bool.or_true, decide_eq_true_eq, decide_true, decide_false, Bool.true_and, Bool.true_or, Bool.false_or, Bool.false_and, Bool.and_false, Bool.and_true, if_true, Bool.false_eq_true, if_false, ite_true, ite_false, pe_in_in, pe_in_of, pe_in_is, pe_in_rest, pe_in_pick, pe_in_plus, pe_in_times, pe_in_same, pe_in_less, pe_of_in, pe_of_of, pe_of_is, pe_of_rest, pe_of_pick, pe_of_plus, pe_of_times, pe_of_same, pe_of_less, pe_is_in, pe_is_of, pe_is_is, pe_is_rest, pe_is_pick, pe_is_plus, pe_is_times, pe_is_same, pe_is_less, pe_rest_in, pe_rest_of, pe_rest_is, pe_rest_rest, pe_rest_pick, pe_rest_plus, pe_rest_times, pe_rest_same, pe_rest_less, pe_pick_in, pe_pick_of, pe_pick_is, pe_pick_rest, pe_pick_pick, pe_pick_plus, pe_pick_times, pe_pick_same, pe_pick_less, pe_plus_in, pe_plus_of, pe_plus_is, pe_plus_rest, pe_plus_pick, pe_plus_plus, pe_plus_times, pe_plus_same, pe_plus_less, pe_times_in, pe_times_of, pe_times_is, pe_times_rest, pe_times_pick, pe_times_plus, pe_times_times, pe_times_same, pe_times_less, pe_same_in, pe_same_of, pe_same_is, pe_same_rest, pe_same_pick, pe_same_plus, pe_same_times, pe_same_same, pe_same_less, pe_less_in, pe_less_of, pe_less_is, pe_less_rest, pe_less_pick, pe_less_plus, pe_less_times, pe_less_same, pe_less_less, gi_in, gi_of, gi_is, gi_rest, gi_pick, gi_plus, gi_times, gi_same, gi_less, gg_plus, gg_times, gg_same, gg_less, gg_pick, MP.alloc, io_in, io_of, io_is, io_rest, io_pick, io_plus, io_times, io_same, io_less, lst_l, lst_l1, lst_l2, gc_b, gc_n, gc_i, gc_self, d38, Tm.d, Tm.ev, colsD, h1, cD, e1, h3, neg1b, hp])))
      · have h3 : atD (.int 0 :: m.names.map fun p => D.int p.2) ((n + 1 : Nat) : Int) = some (.int (look o (n + 1))) := p2 (by omega) (n + 1) (by omega)
        have hl : ((m.names.map fun p => D.int p.2).length + 1 ≤ 1000000) = True := eq_true (by simp; omega)
        (((simp (config := {decide := true, maxSteps := 1000000}) (disch := omega) only [Df.fn, Nat.reduceAdd, Nat.reduceSub, Nat.reduceMul, Int.reduceToNat, Int.reduceAdd, Int.reduceSub, Int.reduceMul, Int.reduceNeg, Int.reduceLE, Int.reduceLT, at0, at1, at2, at3, Nat.zero_add, Nat.sub_self, List.map_cons, List.map_nil, List.length_cons, List.length_nil, List.replicate_succ, List.replicate_zero, List.cons_append, List.nil_append, List.append_nil, List.getElem?_cons_zero, List.getElem?_cons_succ, Option.join_some, List.set_cons_zero, List.set_cons_succ,
  onB_bl, onO_bl, bind_ok, out_ok, bind_ite, out_ite, seq_next, seq_ret, seq_ite, end_next, end_ret, end_ite, optO_some, optR_some, x_var, x_cst, x_b2, x_b1, x_sset, x_rg, x_and, x_or, x_ite, x_chain, x_tup, x_lst, x_idx, x_slc, x_call, x_isi, x_gin, x_gget, x_comp, x_nil, x_cons, x_asg, x_asgT, x_par, x_sub, x_app, x_ext, x_expr, x_ret, x_retN, x_ife, x_for, x_pass, x_end, x_seq,
  turn_next, turn_ret, turn_ite, pyEq_int, wipeD, setTgt, setEach,
  o_add_i, o_add_t, o_sub, o_mul_i, o_fdiv, o_mod, o_eq, o_ne, o_lt, o_le, o_gt, o_ge, o_mx, o_mn, o_neg, o_len_t, o_len_l, o_int_i, o_int_b, o_isN, o_notN, o_asI, o_isF, o_lnot, o_truth, o_tuple_t, o_tuple_l, o_list_t, o_idx_t, o_all_last, o_tuple_last, MP.isNon, Bool.not_true, Bool.not_false, List.length_append, List.append_assoc,
  truthOf, isTys, isTy, kindD, tyB, gc_self, mkT, mkL, lim, seqOf, Option.map_some, Nat.beq, Bool.or_false, Bool.or_true, decide_eq_true_eq, decide_true, decide_false, Bool.true_and, Bool.true_or, Bool.false_or, Bool.false_and, Bool.and_false, Bool.and_true, if_true, Bool.false_eq_true, if_false, ite_true, ite_false, pe_in_in, pe_in_of, pe_in_is, pe_in_rest, pe_in_pick, pe_in_plus, pe_in_times, pe_in_same, pe_in_less, pe_of_in, pe_of_of, pe_of_is, pe_of_rest, pe_of_pick, pe_of_plus, pe_of_times, pe_of_same, pe_of_less, pe_is_in, pe_is_of, pe_is_is, pe_is_rest, pe_is_pick, pe_is_plus, pe_is_times, pe_is_same, pe_is_less, pe_rest_in, pe_rest_of, pe_rest_is, pe_rest_rest, pe_rest_pick, pe_rest_plus, pe_rest_times, pe_rest_same, pe_rest_less, pe_pick_in, pe_pick_of, pe_pick_is, pe_pick_rest, pe_pick_pick, pe_pick_plus, pe_pick_times, pe_pick_same, pe_pick_less, pe_plus_in, pe_plus_of, pe_plus_is, pe_plus_rest, pe_plus_pick, pe_plus_plus, pe_plus_times, pe_plus_same, pe_plus_less, pe_times_in, pe_times_of, pe_times_is, pe_times_rest, pe_times_pick, pe_times_plus, pe_times_times, pe_times_same, pe_times_less, pe_same_in, pe_same_of, pe_same_is, pe_same_rest, pe_same_pick, pe_same_plus, pe_same_times, pe_same_same, pe_same_less, pe_less_in, pe_less_of, pe_less_is, pe_less_rest, pe_less_pick, pe_less_plus, pe_less_times, pe_less_same, pe_less_less, gi_in, gi_of, gi_is, gi_rest, gi_pick, gi_plus, gi_times, gi_same, gi_less, gg_plus, gg_times, gg_same, gg_less, gg_pick, MP.alloc, io_in, io_of, io_is, io_rest, io_pick, io_plus, io_times, io_same, io_less, lst_l, lst_l1, lst_l2, gc_b, gc_n, gc_i, gc_self, d38, Tm.d, Tm.ev, colsD, cD, neg1b, hp, Ml.d, Ml.nd, it_tup])))
        rw [comp_at (st ++ [O.lst [D.str "in", D.str "of"]]) snd (m.names.map nmD) ?_ ?_ ?_ ?_ ?_]
        · rw [snd_map]
          (((simp (config := {decide := true, maxSteps := 1000000}) (disch := omega) only [Df.fn, Nat.reduceAdd, Nat.reduceSub, Nat.reduceMul, Int.reduceToNat, Int.reduceAdd, Int.reduceSub, Int.reduceMul, Int.reduceNeg, Int.reduceLE, Int.reduceLT, at0, at1, at2, at3, Nat.zero_add, Nat.sub_self, List.map_cons, List.map_nil, List.length_cons, List.length_nil, List.replicate_succ, List.replicate_zero, List.cons_append, List.nil_append, List.append_nil, List.getElem?_cons_zero, List.getElem?_cons_succ, Option.join_some, List.set_cons_zero, List.set_cons_succ,
  onB_bl, onO_bl, bind_ok, out_ok, bind_ite, out_ite, seq_next, seq_ret, seq_ite, end_next, end_ret, end_ite, optO_some, optR_some, x_var, x_cst, x_b2, x_b1, x_sset, x_rg, x_and, x_or, x_ite, x_chain, x_tup, x_lst, x_idx, x_slc, x_call, x_isi, x_gin, x_gget, x_comp, x_nil, x_cons, x_asg, x_asgT, x_par, x_sub, x_app, x_ext, x_expr, x_ret, x_retN, x_ife, x_for, x_pass, x_end, x_seq,
  turn_next, turn_ret, turn_ite, pyEq_int, wipeD, setTgt, setEach,
  o_add_i, o_add_t, o_sub, o_mul_i, o_fdiv, o_mod, o_eq, o_ne, o_lt, o_le, o_gt, o_ge, o_mx, o_mn, o_neg, o_len_t, o_len_l, o_int_i, o_int_b, o_isN, o_notN, o_asI, o_isF, o_lnot, o_truth, o_tuple_t, o_tuple_l, o_list_t, o_idx_t, o_all_last, o_tuple_last, MP.isNon, Bool.not_true, Bool.not_false, List.length_append, List.append_assoc,
  truthOf, isTys, isTy, kindD, tyB, gc_self, mkT, mkL, lim, seqOf, Option.map_some, Nat.beq, Bool.or_false, Bool.or_true, decide_eq_true_eq, decide_true, decide_false, Bool.true_and, Bool.true_or, Bool.false_or, Bool.false_and, Bool.and_false, Bool.and_true, if_true, Bool.false_eq_true, if_false, ite_true, ite_false, pe_in_in, pe_in_of, pe_in_is, pe_in_rest, pe_in_pick, pe_in_plus, pe_in_times, pe_in_same, pe_in_less, pe_of_in, pe_of_of, pe_of_is, pe_of_rest, pe_of_pick, pe_of_plus, pe_of_times, pe_of_same, pe_of_less, pe_is_in, pe_is_of, pe_is_is, pe_is_rest, pe_is_pick, pe_is_plus, pe_is_times, pe_is_same, pe_is_less, pe_rest_in, pe_rest_of, pe_rest_is, pe_rest_rest, pe_rest_pick, pe_rest_plus, pe_rest_times, pe_rest_same, pe_rest_less, pe_pick_in, pe_pick_of, pe_pick_is, pe_pick_rest, pe_pick_pick, pe_pick_plus, pe_pick_times, pe_pick_same, pe_pick_less, pe_plus_in, pe_plus_of, pe_plus_is, pe_plus_rest, pe_plus_pick, pe_plus_plus, pe_plus_times, pe_plus_same, pe_plus_less, pe_times_in, pe_times_of, pe_times_is, pe_times_rest, pe_times_pick, pe_times_plus, pe_times_times, pe_times_same, pe_times_less, pe_same_in, pe_same_of, pe_same_is, pe_same_rest, pe_same_pick, pe_same_plus, pe_same_times, pe_same_same, pe_same_less, pe_less_in, pe_less_of, pe_less_is, pe_less_rest, pe_less_pick, pe_less_plus, pe_less_times, pe_less_same, pe_less_less, gi_in, gi_of, gi_is, gi_rest, gi_pick, gi_plus, gi_times, gi_same, gi_less, gg_plus, gg_times, gg_same, gg_less, gg_pick, MP.alloc, io_in, io_of, io_is, io_rest, io_pick, io_plus, io_times, io_same, io_less, lst_l, lst_l1, lst_l2, gc_b, gc_n, gc_i, gc_self, e1, h3, hl])))
        · simp
        · simp
        · exact fun _ => rfl
        · exact snd_elt m rfl
        · simp; omega
    | is v => (((simp (config := {decide := true, maxSteps := 1000000}) (disch := omega) only [Df.fn, Nat.reduceAdd, Nat.reduceSub, Nat.reduceMul, Int.reduceToNat, Int.reduceAdd, Int.reduceSub, Int.reduceMul, Int.reduceNeg, Int.reduceLE, Int.reduceLT, at0, at1, at2, at3, Nat.zero_add, Nat.sub_self, List.map_cons, List.map_nil, List.length_cons, List.length_nil, List.replicate_succ, List.replicate_zero, List.cons_append, List.nil_append, List.append_nil, List.getElem?_cons_zero, List.getElem?_cons_succ, Option.join_some, List.set_cons_zero, List.set_cons_succ,
  onB_bl, onO_bl, bind_ok, out_ok, bind_ite, out_ite, seq_next, seq_ret, seq_ite, end_next, end_ret, end_ite, optO_some, optR_some, x_var, x_cst, x_b2, x_b1, x_sset, x_rg, x_and, x_or, x_ite, x_chain, x_tup, x_lst, x_idx, x_slc, x_call, x_isi, x_gin, x_gget, x_comp, x_nil, x_cons, x_asg, x_asgT, x_par, x_sub, x_app, x_ext, x_expr, x_ret, x_retN, x_ife, x_for, x_pass, x_end, x_seq,
  turn_next, turn_ret, turn_ite, pyEq_int, wipeD, setTgt, setEach,
  o_add_i, o_add_t, o_sub, o_mul_i, o_fdiv, o_mod, o_eq, o_ne, o_lt, o_le, o_gt, o_ge, o_mx, o_mn, o_neg, o_len_t, o_len_l, o_int_i, o_int_b, o_isN, o_notN, o_asI, o_isF, o_lnot, o_truth, o_tuple_t, o_tuple_l, o_list_t, o_idx_t, o_all_last, o_tuple_last, MP.isNon, Bool.not_true, Bool.not_false, List.length_append, List.append_assoc,
  truthOf, isTys, isTy, kindD, tyB, gc_self, mkT, mkL, lim, seqOf, Option.map_some, Nat.beq, Bool.or_false, Bool.or_true, decide_eq_true_eq, decide_true, decide_false, Bool.true_and, Bool.true_or, Bool.false_or, Bool.false_and, Bool.and_false, Bool.and_true, if_true, Bool.false_eq_true, if_false, ite_true, ite_false, pe_in_in, pe_in_of, pe_in_is, pe_in_rest, pe_in_pick, pe_in_plus, pe_in_times, pe_in_same, pe_in_less, pe_of_in, pe_of_of, pe_of_is, pe_of_rest, pe_of_pick, pe_of_plus, pe_of_times, pe_of_same, pe_of_less, pe_is_in, pe_is_of, pe_is_is, pe_is_rest, pe_is_pick, pe_is_plus, pe_is_times, pe_is_same, pe_is_less, pe_rest_in, pe_rest_of, pe_rest_is, pe_rest_rest, pe_rest_pick, pe_rest_plus, pe_rest_times, pe_rest_same, pe_rest_less, pe_pick_in, pe_pick_of, pe_pick_is, pe_pick_rest, pe_pick_pick, pe_pick_plus, pe_pick_times, pe_pick_same, pe_pick_less, pe_plus_in, pe_plus_of, pe_plus_is, pe_plus_rest, pe_plus_pick, pe_plus_plus, pe_plus_times, pe_plus_same, pe_plus_less, pe_times_in, pe_times_of, pe_times_is, pe_times_rest, pe_times_pick, pe_times_plus, pe_times_times, pe_times_same, pe_times_less, pe_same_in, pe_same_of, pe_same_is, pe_same_rest, pe_same_pick, pe_same_plus, pe_same_times, pe_same_same, pe_same_less, pe_less_in, pe_less_of, pe_less_is, pe_less_rest, pe_less_pick, pe_less_plus, pe_less_times, pe_less_same, pe_less_less, gi_in, gi_of, gi_is, gi_rest, gi_pick, gi_plus, gi_times, gi_same, gi_less, gg_plus, gg_times, gg_same, gg_less, gg_pick, MP.alloc, io_in, io_of, io_is, io_rest, io_pick, io_plus, io_times, io_same, io_less, lst_l, lst_l1, lst_l2, gc_b, gc_n, gc_i, gc_self, d38, Tm.d, Tm.ev])))
    | rest t m2 =>
      obtain ⟨h1, h2, h3⟩ := h
      have h1 := fun st => ih t st h1 (fun o ho => hs o ho)
      have e : decide (0 < m2) = true := by simp; omega
      (((simp (config := {decide := true, maxSteps := 1000000}) (disch := omega) only [Df.fn, Nat.reduceAdd, Nat.reduceSub, Nat.reduceMul, Int.reduceToNat, Int.reduceAdd, Int.reduceSub, Int.reduceMul, Int.reduceNeg, Int.reduceLE, Int.reduceLT, at0, at1, at2, at3, Nat.zero_add, Nat.sub_self, List.map_cons, List.map_nil, List.length_cons, List.length_nil, List.replicate_succ, List.replicate_zero, List.cons_append, List.nil_append, List.append_nil, List.getElem?_cons_zero, List.getElem?_cons_succ, Option.join_some, List.set_cons_zero, List.set_cons_succ,
  onB_bl, onO_bl, bind_ok, out_ok, bind_ite, out_ite, seq_next, seq_ret, seq_ite, end_next, end_ret, end_ite, optO_some, optR_some, x_var, x_cst, x_b2, x_b1, x_sset, x_rg, x_and, x_or, x_ite, x_chain, x_tup, x_lst, x_idx, x_slc, x_call, x_isi, x_gin, x_gget, x_comp, x_nil, x_cons, x_asg, x_asgT, x_par, x_sub, x_app, x_ext, x_expr, x_ret, x_retN, x_ife, x_for, x_pass, x_end, x_seq,
  turn_next, turn_ret, turn_ite, pyEq_int, wipeD, setTgt, setEach,
  o_add_i, o_add_t, o_sub, o_mul_i, o_fdiv, o_mod, o_eq, o_ne, o_lt, o_le, o_gt, o_ge, o_mx, o_mn, o_neg, o_len_t, o_len_l, o_int_i, o_int_b, o_isN, o_notN, o_asI, o_isF, o_lnot, o_truth, o_tuple_t, o_tuple_l, o_list_t, o_idx_t, o_all_last, o_tuple_last, MP.isNon, Bool.not_true, Bool.not_false, List.length_append, List.append_assoc,
  truthOf, isTys, isTy, kindD, tyB, gc_self, mkT, mkL, lim, seqOf, Option.map_some, Nat.beq, Bool.or_false, Bool.or_true, decide_eq_true_eq, decide_true, decide_false, Bool.true_and, Bool.true_or, Bool.false_or, Bool.false_and, Bool.and_false, Bool.and_true, if_true, Bool.false_eq_true, if_false, ite_true, ite_false, pe_in_in, pe_in_of, pe_in_is, pe_in_rest, pe_in_pick, pe_in_plus, pe_in_times, pe_in_same, pe_in_less, pe_of_in, pe_of_of, pe_of_is, pe_of_rest, pe_of_pick, pe_of_plus, pe_of_times, pe_of_same, pe_of_less, pe_is_in, pe_is_of, pe_is_is, pe_is_rest, pe_is_pick, pe_is_plus, pe_is_times, pe_is_same, pe_is_less, pe_rest_in, pe_rest_of, pe_rest_is, pe_rest_rest, pe_rest_pick, pe_rest_plus, pe_rest_times, pe_rest_same, pe_rest_less, pe_pick_in, pe_pick_of, pe_pick_is, pe_pick_rest, pe_pick_pick, pe_pick_plus, pe_pick_times, pe_pick_same, pe_pick_less, pe_plus_in, pe_plus_of, pe_plus_is, pe_plus_rest, pe_plus_pick, pe_plus_plus, pe_plus_times, pe_plus_same, pe_plus_less, pe_times_in, pe_times_of, pe_times_is, pe_times_rest, pe_times_pick, pe_times_plus, pe_times_times, pe_times_same, pe_times_less, pe_same_in, pe_same_of, pe_same_is, pe_same_rest, pe_same_pick, pe_same_plus, pe_same_times, pe_same_same, pe_same_less, pe_less_in, pe_less_of, pe_less_is, pe_less_rest, pe_less_pick, pe_less_plus, pe_less_times, pe_less_same, pe_less_less, gi_in, gi_of, gi_is, gi_rest, gi_pick, gi_plus, gi_times, gi_same, gi_less, gg_plus, gg_times, gg_same, gg_less, gg_pick, MP.alloc, io_in, io_of, io_is, io_rest, io_pick, io_plus, io_times, io_same, io_less, lst_l, lst_l1, lst_l2, gc_b, gc_n, gc_i, gc_self, d38, Tm.d, Tm.ev, colsD, h1, e])))
    | pick a b c =>
      obtain ⟨h1, h2, h3⟩ := h
      have h1 := fun st => ih a st h1 (fun o ho => hs o (by simp [Tm.offs, ho]))
      have h2 := fun st => ih b st h2 (fun o ho => hs o (by simp [Tm.offs, ho]))
      have h3 := fun st => ih c st h3 (fun o ho => hs o (by simp [Tm.offs, ho]))
      by_cases hz : a.ev look = 0
      · (((simp (config := {decide := true, maxSteps := 1000000}) (disch := omega) only [Df.fn, Nat.reduceAdd, Nat.reduceSub, Nat.reduceMul, Int.reduceToNat, Int.reduceAdd, Int.reduceSub, Int.reduceMul, Int.reduceNeg, Int.reduceLE, Int.reduceLT, at0, at1, at2, at3, Nat.zero_add, Nat.sub_self, List.map_cons, List.map_nil, List.length_cons, List.length_nil, List.replicate_succ, List.replicate_zero, List.cons_append, List.nil_append, List.append_nil, List.getElem?_cons_zero, List.getElem?_cons_succ, Option.join_some, List.set_cons_zero, List.set_cons_succ,
  onB_bl, onO_bl, bind_ok, out_ok, bind_ite, out_ite, seq_next, seq_ret, seq_ite, end_next, end_ret, end_ite, optO_some, optR_some, x_var, x_cst, x_b2, x_b1, x_sset, x_rg, x_and, x_or, x_ite, x_chain, x_tup, x_lst, x_idx, x_slc, x_call, x_isi, x_gin, x_gget, x_comp, x_nil, x_cons, x_asg, x_asgT, x_par, x_sub, x_app, x_ext, x_expr, x_ret, x_retN, x_ife, x_for, x_pass, x_end, x_seq,
  turn_next, turn_ret, turn_ite, pyEq_int, wipeD, setTgt, setEach,
  o_add_i, o_add_t, o_sub, o_mul_i, o_fdiv, o_mod, o_eq, o_ne, o_lt, o_le, o_gt, o_ge, o_mx, o_mn, o_neg, o_len_t, o_len_l, o_int_i, o_int_b, o_isN, o_notN, o_asI, o_isF, o_lnot, o_truth, o_tuple_t, o_tuple_l, o_list_t, o_idx_t, o_all_last, o_tuple_last, MP.isNon, Bool.not_true, Bool.not_false, List.length_append, List.append_assoc,
  truthOf, isTys, isTy, kindD, tyB, gc_self, mkT, mkL, lim, seqOf, Option.map_some, Nat.beq, Bool.or_false, Bool.or_true, decide_eq_true_eq, decide_true, decide_false, Bool.true_and, Bool.true_or, Bool.false_or, Bool.false_and, Bool.and_false, Bool.and_true, if_true, Bool.false_eq_true, if_false, ite_true, ite_false, pe_in_in, pe_in_of, pe_in_is, pe_in_rest, pe_in_pick, pe_in_plus, pe_in_times, pe_in_same, pe_in_less, pe_of_in, pe_of_of, pe_of_is, pe_of_rest, pe_of_pick, pe_of_plus, pe_of_times, pe_of_same, pe_of_less, pe_is_in, pe_is_of, pe_is_is, pe_is_rest, pe_is_pick, pe_is_plus, pe_is_times, pe_is_same, pe_is_less, pe_rest_in, pe_rest_of, pe_rest_is, pe_rest_rest, pe_rest_pick, pe_rest_plus, pe_rest_times, pe_rest_same, pe_rest_less, pe_pick_in, pe_pick_of, pe_pick_is, pe_pick_rest, pe_pick_pick, pe_pick_plus, pe_pick_times, pe_pick_same, pe_pick_less, pe_plus_in, pe_plus_of, pe_plus_is, pe_plus_rest, pe_plus_pick, pe_plus_plus, pe_plus_times, pe_plus_same, pe_plus_less, pe_times_in, pe_times_of, pe_times_is, pe_times_rest, pe_times_pick, pe_times_plus, pe_times_times, pe_times_same, pe_times_less, pe_same_in, pe_same_of, pe_same_is, pe_same_rest, pe_same_pick, pe_same_plus, pe_same_times, pe_same_same, pe_same_less, pe_less_in, pe_less_of, pe_less_is, pe_less_rest, pe_less_pick, pe_less_plus, pe_less_times, pe_less_same, pe_less_less, gi_in, gi_of, gi_is, gi_rest, gi_pick, gi_plus, gi_times, gi_same, gi_less, gg_plus, gg_times, gg_same, gg_less, gg_pick, MP.alloc, io_in, io_of, io_is, io_rest, io_pick, io_plus, io_times, io_same, io_less, lst_l, lst_l1, lst_l2, gc_b, gc_n, gc_i, gc_self, d38, Tm.d, Tm.ev, colsD, h1, h2, h3, hz])))
      · (((simp (config := {decide := true, maxSteps := 1000000}) (disch := omega) only [Df.fn, Nat.reduceAdd, Nat.reduceSub, Nat.reduceMul, Int.reduceToNat, Int.reduceAdd, Int.reduceSub, Int.reduceMul, Int.reduceNeg, Int.reduceLE, Int.reduceLT, at0, at1, at2, at3, Nat.zero_add, Nat.sub_self, List.map_cons, List.map_nil, List.length_cons, List.length_nil, List.replicate_succ, List.replicate_zero, List.cons_append, List.nil_append, List.append_nil, List.getElem?_cons_zero, List.getElem?_cons_succ, Option.join_some, List.set_cons_zero, List.set_cons_succ,
  onB_bl, onO_bl, bind_ok, out_ok, bind_ite, out_ite, seq_next, seq_ret, seq_ite, end_next, end_ret, end_ite, optO_some, optR_some, x_var, x_cst, x_b2, x_b1, x_sset, x_rg, x_and, x_or, x_ite, x_chain, x_tup, x_lst, x_idx, x_slc, x_call, x_isi, x_gin, x_gget, x_comp, x_nil, x_cons, x_asg, x_asgT, x_par, x_sub, x_app, x_ext, x_expr, x_ret, x_retN, x_ife, x_for, x_pass, x_end, x_seq,
  turn_next, turn_ret, turn_ite, pyEq_int, wipeD, setTgt, setEach,
  o_add_i, o_add_t, o_sub, o_mul_i, o_fdiv, o_mod, o_eq, o_ne, o_lt, o_le, o_gt, o_ge, o_mx, o_mn, o_neg, o_len_t, o_len_l, o_int_i, o_int_b, o_isN, o_notN, o_asI, o_isF, o_lnot, o_truth, o_tuple_t, o_tuple_l, o_list_t, o_idx_t, o_all_last, o_tuple_last, MP.isNon, Bool.not_true, Bool.not_false, List.length_append, List.append_assoc,
  truthOf, isTys, isTy, kindD, tyB, gc_self, mkT, mkL, lim, seqOf, Option.map_some, Nat.beq, Bool.or_false, Bool.or_true, decide_eq_true_eq, decide_true, decide_false, Bool.true_and, Bool.true_or, Bool.false_or, Bool.false_and, Bool.and_false, Bool.and_true, if_true, Bool.false_eq_true, if_false, ite_true, ite_false, pe_in_in, pe_in_of, pe_in_is, pe_in_rest, pe_in_pick, pe_in_plus, pe_in_times, pe_in_same, pe_in_less, pe_of_in, pe_of_of, pe_of_is, pe_of_rest, pe_of_pick, pe_of_plus, pe_of_times, pe_of_same, pe_of_less, pe_is_in, pe_is_of, pe_is_is, pe_is_rest, pe_is_pick, pe_is_plus, pe_is_times, pe_is_same, pe_is_less, pe_rest_in, pe_rest_of, pe_rest_is, pe_rest_rest, pe_rest_pick, pe_rest_plus, pe_rest_times, pe_rest_same, pe_rest_less, pe_pick_in, pe_pick_of, pe_pick_is, pe_pick_rest, pe_pick_pick, pe_pick_plus, pe_pick_times, pe_pick_same, pe_pick_less, pe_plus_in, pe_plus_of, pe_plus_is, pe_plus_rest, pe_plus_pick, pe_plus_plus, pe_plus_times, pe_plus_same, pe_plus_less, pe_times_in, pe_times_of, pe_times_is, pe_times_rest, pe_times_pick, pe_times_plus, pe_times_times, pe_times_same, pe_times_less, pe_same_in, pe_same_of, pe_same_is, pe_same_rest, pe_same_pick, pe_same_plus, pe_same_times, pe_same_same, pe_same_less, pe_less_in, pe_less_of, pe_less_is, pe_less_rest, pe_less_pick, pe_less_plus, pe_less_times, pe_less_same, pe_less_less, gi_in, gi_of, gi_is, gi_rest, gi_pick, gi_plus, gi_times, gi_same, gi_less, gg_plus, gg_times, gg_same, gg_less, gg_pick, MP.alloc, io_in, io_of, io_is, io_rest, io_pick, io_plus, io_times, io_same, io_less, lst_l, lst_l1, lst_l2, gc_b, gc_n, gc_i, gc_self, d38, Tm.d, Tm.ev, colsD, h1, h2, h3, hz])))
    | two w a b =>
      obtain ⟨h1, h2⟩ := h
      have hb : bigI (a.ev look) = true := ev_big (by omega) h1 fun o ho => (hs o (by simp [Tm.offs, ho])).2
      have h1 := fun st => ih a st h1 (fun o ho => hs o (by simp [Tm.offs, ho]))
      have h2 := fun st => ih b st h2 (fun o ho => hs o (by simp [Tm.offs, ho]))
      have h4 := kv_get w (a.ev look) (b.ev look)
      cases w <;> (simp only [W2.s] at h4; (((simp (config := {decide := true, maxSteps := 1000000}) (disch := omega) only [Df.fn, Nat.reduceAdd, Nat.reduceSub, Nat.reduceMul, Int.reduceToNat, Int.reduceAdd, Int.reduceSub, Int.reduceMul, Int.reduceNeg, Int.reduceLE, Int.reduceLT, at0, at1, at2, at3, Nat.zero_add, Nat.sub_self, List.map_cons, List.map_nil, List.length_cons, List.length_nil, List.replicate_succ, List.replicate_zero, List.cons_append, List.nil_append, List.append_nil, List.getElem?_cons_zero, List.getElem?_cons_succ, Option.join_some, List.set_cons_zero, List.set_cons_succ,
  onB_bl, onO_bl, bind_ok, out_ok, bind_ite, out_ite, seq_next, seq_ret, seq_ite, end_next, end_ret, end_ite, optO_some, optR_some, x_var, x_cst, x_b2, x_b1, x_sset, x_rg, x_and, x_or, x_ite, x_chain, x_tup, x_lst, x_idx, x_slc, x_call, x_isi, x_gin, x_gget, x_comp, x_nil, x_cons, x_asg, x_asgT, x_par, x_sub, x_app, x_ext, x_expr, x_ret, x_retN, x_ife, x_for, x_pass, x_end, x_seq,
  turn_next, turn_ret, turn_ite, pyEq_int, wipeD, setTgt, setEach,
  o_add_i, o_add_t, o_sub, o_mul_i, o_fdiv, o_mod, o_eq, o_ne, o_lt, o_le, o_gt, o_ge, o_mx, o_mn, o_neg, o_len_t, o_len_l, o_int_i, o_int_b, o_isN, o_notN, o_asI, o_isF, o_lnot, o_truth, o_tuple_t, o_tuple_l, o_list_t, o_idx_t, o_all_last, o_tuple_last, MP.isNon, Bool.not_true, Bool.not_false, List.length_append, List.append_assoc,
  truthOf, isTys, isTy, kindD, tyB, gc_self, mkT, mkL, lim, seqOf, Option.map_some, Nat.beq, Bool.or_false, Bool.or_true, decide_eq_true_eq, decide_true, decide_false, Bool.true_and, Bool.true_or, Bool.false_or, Bool.false_and, Bool.and_false, Bool.and_true, if_true, Bool.false_eq_true, if_false, ite_true, ite_false, pe_in_in, pe_in_of, pe_in_is, pe_in_rest, pe_in_pick, pe_in_plus, pe_in_times, pe_in_same, pe_in_less, pe_of_in, pe_of_of, pe_of_is, pe_of_rest, pe_of_pick, pe_of_plus, pe_of_times, pe_of_same, pe_of_less, pe_is_in, pe_is_of, pe_is_is, pe_is_rest, pe_is_pick, pe_is_plus, pe_is_times, pe_is_same, pe_is_less, pe_rest_in, pe_rest_of, pe_rest_is, pe_rest_rest, pe_rest_pick, pe_rest_plus, pe_rest_times, pe_rest_same, pe_rest_less, pe_pick_in, pe_pick_of, pe_pick_is, pe_pick_rest, pe_pick_pick, pe_pick_plus, pe_pick_times, pe_pick_same, pe_pick_less, pe_plus_in, pe_plus_of, pe_plus_is, pe_plus_rest, pe_plus_pick, pe_plus_plus, pe_plus_times, pe_plus_same, pe_plus_less, pe_times_in, pe_times_of, pe_times_is, pe_times_rest, pe_times_pick, pe_times_plus, pe_times_times, pe_times_same, pe_times_less, pe_same_in, pe_same_of, pe_same_is, pe_same_rest, pe_same_pick, pe_same_plus, pe_same_times, pe_same_same, pe_same_less, pe_less_in, pe_less_of, pe_less_is, pe_less_rest, pe_less_pick, pe_less_plus, pe_less_times, pe_less_same, pe_less_less, gi_in, gi_of, gi_is, gi_rest, gi_pick, gi_plus, gi_times, gi_same, gi_less, gg_plus, gg_times, gg_same, gg_less, gg_pick, MP.alloc, io_in, io_of, io_is, io_rest, io_pick, io_plus, io_times, io_same, io_less, lst_l, lst_l1, lst_l2, gc_b, gc_n, gc_i, gc_self, d38, Tm.d, W2.s, Tm.ev, colsD, h1, h2, dct_ev hb, dct_at, h4]))))
theorem law_holds_ok {m : Ml} {look : Int → Nat → Int} {cs : List (List Int)} {tick : Int} (hm : m.ok) : ∀ k, 6 ≤ k → ∀ (st : Sto), (∀ p ∈ m.eqs, ∀ o, o ∈ p.1.offs ∨ o ∈ p.2.offs → lsees m cs tick look o ∧ ∀ j ≤ m.names.length, 0 ≤ look o j ∧ look o j ≤ 2) →
    run tb k 39 [m.d, colsD cs, .int tick] st = .ok (.bl (m.eqs.all fun p => decide (p.1.ev look = p.2.ev look))) st := lift fun k hk st h => by
  rw [run_succ (f := d39.fn) rfl rfl]
  have loop : ∀ (es : List (Tm × Tm)) (a b : Option D) (still : Sto → Bool), (∀ s, still s = true) → (∀ p ∈ es, (p.1.ok m.names.length 4 ∧ p.2.ok m.names.length 4) ∧ ∀ o, o ∈ p.1.offs ∨ o ∈ p.2.offs → lsees m cs tick look o ∧ ∀ j ≤ m.names.length, 0 ≤ look o j ∧ look o j ≤ 2) →
      (es.all (fun p => decide (p.1.ev look = p.2.ev look)) = true ∧ ∃ a' b', forL still (setTgt false [3, 4]) (evSs (run tb k) [.ife (.b2 .ne (.call 38 [(.var 0), (.var 3), (.var 1), (.var 2)] []) (.call 38 [(.var 0), (.var 4), (.var 1), (.var 2)] [])) [(.ret (.cst (.bl false)))] []]) (es.map eqD) [some m.d, some (colsD cs), some (.int tick), a, b] st = .next [some m.d, some (colsD cs), some (.int tick), a', b'] st) ∨
      (es.all (fun p => decide (p.1.ev look = p.2.ev look)) = false ∧ forL still (setTgt false [3, 4]) (evSs (run tb k) [.ife (.b2 .ne (.call 38 [(.var 0), (.var 3), (.var 1), (.var 2)] []) (.call 38 [(.var 0), (.var 4), (.var 1), (.var 2)] [])) [(.ret (.cst (.bl false)))] []]) (es.map eqD) [some m.d, some (colsD cs), some (.int tick), a, b] st = .ret (.bl false) st) := by
    intro es
    induction es with
    | nil => intro a b still hs _; exact .inl ⟨rfl, a, b, for_nil _ _ _ _ _ (hs _)⟩
    | cons p es ih =>
      intro a b still hs h
      obtain ⟨⟨h1, h2⟩, h3⟩ := h p (List.mem_cons_self ..)
      have w1 := fun st => law_worth_ok (look := look) hm.n2 4 (by omega) k (by omega) p.1 st h1 (fun o ho => h3 o (.inl ho))
      have w2 := fun st => law_worth_ok (look := look) hm.n2 4 (by omega) k (by omega) p.2 st h2 (fun o ho => h3 o (.inr ho))
      simp only [List.map_cons]
      rw [for_cons _ _ _ _ _ _ _ (hs _)]
      by_cases e : p.1.ev look = p.2.ev look
      · rcases ih (some p.1.d) (some p.2.d) still hs (fun q hq => h q (List.mem_cons_of_mem _ hq)) with ⟨r1, a', b', r2⟩ | ⟨r1, r2⟩
        · refine .inl ⟨by simp [e] at r1 ⊢; exact r1, a', b', ?_⟩
          rw [← r2]
          (simp (config := {decide := true, maxSteps := 1000000}) (disch := omega) only [Df.fn, Nat.reduceAdd, Nat.reduceSub, Nat.reduceMul, Int.reduceToNat, Int.reduceAdd, Int.reduceSub, Int.reduceMul, Int.reduceNeg, Int.reduceLE, Int.reduceLT, at0, at1, at2, at3, Nat.zero_add, Nat.sub_self, List.map_cons, List.map_nil, List.length_cons, List.length_nil, List.replicate_succ, List.replicate_zero, List.cons_append, List.nil_append, List.append_nil, List.getElem?_cons_zero, List.getElem?_cons_succ, Option.join_some, List.set_cons_zero, List.set_cons_succ,
  onB_bl, onO_bl, bind_ok, out_ok, bind_ite, out_ite, seq_next, seq_ret, seq_ite, end_next, end_ret, end_ite, optO_some, optR_some, x_var, x_cst, x_b2, x_b1, x_sset, x_rg, x_and, x_or, x_ite, x_chain, x_tup, x_lst, x_idx, x_slc, x_call, x_isi, x_gin, x_gget, x_comp, x_nil, x_cons, x_asg, x_asgT, x_par, x_sub, x_app, x_ext, x_expr, x_ret, x_retN, x_ife, x_for, x_pass, x_end, x_seq,
  turn_next, turn_ret, turn_ite, pyEq_int, wipeD, setTgt, setEach,
  o_add_i, o_add_t, o_sub, o_mul_i, o_fdiv, o_mod, o_eq, o_ne, o_lt, o_le, o_gt, o_ge, o_mx, o_mn, o_neg, o_len_t, o_len_l, o_int_i, o_int_b, o_isN, o_notN, o_asI, o_isF, o_lnot, o_truth, o_tuple_t, o_tuple_l, o_list_t, o_idx_t, o_all_last, o_tuple_last, MP.isNon, Bool.not_true, Bool.not_false, List.length_append, List.append_assoc,
  truthOf, isTys, isTy, kindD, tyB, gc_self, mkT, mkL, lim, seqOf, Option.map_some, Nat.beq, Bool.or_false, Bool.or_true, decide_eq_true_eq, decide_true, decide_false, Bool.true_and, Bool.true_or, Bool.false_or, Bool.false_and, Bool.and_false, Bool.and_true, if_true, Bool.false_eq_true, if_false, ite_true, ite_false, eqD, w1, w2, e, gcE_self])
        · refine .inr ⟨by simp [e] at r1 ⊢; exact r1, ?_⟩
          rw [← r2]
          (simp (config := {decide := true, maxSteps := 1000000}) (disch := omega) only [Df.fn, Nat.reduceAdd, Nat.reduceSub, Nat.reduceMul, Int.reduceToNat, Int.reduceAdd, Int.reduceSub, Int.reduceMul, Int.reduceNeg, Int.reduceLE, Int.reduceLT, at0, at1, at2, at3, Nat.zero_add, Nat.sub_self, List.map_cons, List.map_nil, List.length_cons, List.length_nil, List.replicate_succ, List.replicate_zero, List.cons_append, List.nil_append, List.append_nil, List.getElem?_cons_zero, List.getElem?_cons_succ, Option.join_some, List.set_cons_zero, List.set_cons_succ,
  onB_bl, onO_bl, bind_ok, out_ok, bind_ite, out_ite, seq_next, seq_ret, seq_ite, end_next, end_ret, end_ite, optO_some, optR_some, x_var, x_cst, x_b2, x_b1, x_sset, x_rg, x_and, x_or, x_ite, x_chain, x_tup, x_lst, x_idx, x_slc, x_call, x_isi, x_gin, x_gget, x_comp, x_nil, x_cons, x_asg, x_asgT, x_par, x_sub, x_app, x_ext, x_expr, x_ret, x_retN, x_ife, x_for, x_pass, x_end, x_seq,
  turn_next, turn_ret, turn_ite, pyEq_int, wipeD, setTgt, setEach,
  o_add_i, o_add_t, o_sub, o_mul_i, o_fdiv, o_mod, o_eq, o_ne, o_lt, o_le, o_gt, o_ge, o_mx, o_mn, o_neg, o_len_t, o_len_l, o_int_i, o_int_b, o_isN, o_notN, o_asI, o_isF, o_lnot, o_truth, o_tuple_t, o_tuple_l, o_list_t, o_idx_t, o_all_last, o_tuple_last, MP.isNon, Bool.not_true, Bool.not_false, List.length_append, List.append_assoc,
  truthOf, isTys, isTy, kindD, tyB, gc_self, mkT, mkL, lim, seqOf, Option.map_some, Nat.beq, Bool.or_false, Bool.or_true, decide_eq_true_eq, decide_true, decide_false, Bool.true_and, Bool.true_or, Bool.false_or, Bool.false_and, Bool.and_false, Bool.and_true, if_true, Bool.false_eq_true, if_false, ite_true, ite_false, eqD, w1, w2, e, gcE_self])
      · refine .inr ⟨by simp [e], ?_⟩
        (simp (config := {decide := true, maxSteps := 1000000}) (disch := omega) only [Df.fn, Nat.reduceAdd, Nat.reduceSub, Nat.reduceMul, Int.reduceToNat, Int.reduceAdd, Int.reduceSub, Int.reduceMul, Int.reduceNeg, Int.reduceLE, Int.reduceLT, at0, at1, at2, at3, Nat.zero_add, Nat.sub_self, List.map_cons, List.map_nil, List.length_cons, List.length_nil, List.replicate_succ, List.replicate_zero, List.cons_append, List.nil_append, List.append_nil, List.getElem?_cons_zero, List.getElem?_cons_succ, Option.join_some, List.set_cons_zero, List.set_cons_succ,
  onB_bl, onO_bl, bind_ok, out_ok, bind_ite, out_ite, seq_next, seq_ret, seq_ite, end_next, end_ret, end_ite, optO_some, optR_some, x_var, x_cst, x_b2, x_b1, x_sset, x_rg, x_and, x_or, x_ite, x_chain, x_tup, x_lst, x_idx, x_slc, x_call, x_isi, x_gin, x_gget, x_comp, x_nil, x_cons, x_asg, x_asgT, x_par, x_sub, x_app, x_ext, x_expr, x_ret, x_retN, x_ife, x_for, x_pass, x_end, x_seq,
  turn_next, turn_ret, turn_ite, pyEq_int, wipeD, setTgt, setEach,
  o_add_i, o_add_t, o_sub, o_mul_i, o_fdiv, o_mod, o_eq, o_ne, o_lt, o_le, o_gt, o_ge, o_mx, o_mn, o_neg, o_len_t, o_len_l, o_int_i, o_int_b, o_isN, o_notN, o_asI, o_isF, o_lnot, o_truth, o_tuple_t, o_tuple_l, o_list_t, o_idx_t, o_all_last, o_tuple_last, MP.isNon, Bool.not_true, Bool.not_false, List.length_append, List.append_assoc,
  truthOf, isTys, isTy, kindD, tyB, gc_self, mkT, mkL, lim, seqOf, Option.map_some, Nat.beq, Bool.or_false, Bool.or_true, decide_eq_true_eq, decide_true, decide_false, Bool.true_and, Bool.true_or, Bool.false_or, Bool.false_and, Bool.and_false, Bool.and_true, if_true, Bool.false_eq_true, if_false, ite_true, ite_false, eqD, w1, w2, e, gcE_self])
  rcases loop m.eqs none none (stillOf 0 (.tup (m.eqs.map eqD)) .non st) (fun _ => rfl) (fun p hp => ⟨hm.eq p hp, h p hp⟩) with ⟨r1, a', b', r2⟩ | ⟨r1, r2⟩
  · simp only [Ml.d] at r2
    ((simp (config := {decide := true, maxSteps := 1000000}) (disch := omega) only [Df.fn, Nat.reduceAdd, Nat.reduceSub, Nat.reduceMul, Int.reduceToNat, Int.reduceAdd, Int.reduceSub, Int.reduceMul, Int.reduceNeg, Int.reduceLE, Int.reduceLT, at0, at1, at2, at3, Nat.zero_add, Nat.sub_self, List.map_cons, List.map_nil, List.length_cons, List.length_nil, List.replicate_succ, List.replicate_zero, List.cons_append, List.nil_append, List.append_nil, List.getElem?_cons_zero, List.getElem?_cons_succ, Option.join_some, List.set_cons_zero, List.set_cons_succ,
  onB_bl, onO_bl, bind_ok, out_ok, bind_ite, out_ite, seq_next, seq_ret, seq_ite, end_next, end_ret, end_ite, optO_some, optR_some, x_var, x_cst, x_b2, x_b1, x_sset, x_rg, x_and, x_or, x_ite, x_chain, x_tup, x_lst, x_idx, x_slc, x_call, x_isi, x_gin, x_gget, x_comp, x_nil, x_cons, x_asg, x_asgT, x_par, x_sub, x_app, x_ext, x_expr, x_ret, x_retN, x_ife, x_for, x_pass, x_end, x_seq,
  turn_next, turn_ret, turn_ite, pyEq_int, wipeD, setTgt, setEach,
  o_add_i, o_add_t, o_sub, o_mul_i, o_fdiv, o_mod, o_eq, o_ne, o_lt, o_le, o_gt, o_ge, o_mx, o_mn, o_neg, o_len_t, o_len_l, o_int_i, o_int_b, o_isN, o_notN, o_asI, o_isF, o_lnot, o_truth, o_tuple_t, o_tuple_l, o_list_t, o_idx_t, o_all_last, o_tuple_last, MP.isNon, Bool.not_true, Bool.not_false, List.length_append, List.append_assoc,
  truthOf, isTys, isTy, kindD, tyB, gc_self, mkT, mkL, lim, seqOf, Option.map_some, Nat.beq, Bool.or_false, Bool.or_true, decide_eq_true_eq, decide_true, decide_false, Bool.true_and, Bool.true_or, Bool.false_or, Bool.false_and, Bool.and_false, Bool.and_true, if_true, Bool.false_eq_true, if_false, ite_true, ite_false, toB_map, toB, optAll, all_q, all_tt, List.all_cons, List.all_nil, id, gc_b, gc_n, gc_i, slc1, it_tup, List.drop_succ_cons, List.drop_zero, d39, Ml.d, r1, r2]))
  · simp only [Ml.d] at r2
    ((simp (config := {decide := true, maxSteps := 1000000}) (disch := omega) only [Df.fn, Nat.reduceAdd, Nat.reduceSub, Nat.reduceMul, Int.reduceToNat, Int.reduceAdd, Int.reduceSub, Int.reduceMul, Int.reduceNeg, Int.reduceLE, Int.reduceLT, at0, at1, at2, at3, Nat.zero_add, Nat.sub_self, List.map_cons, List.map_nil, List.length_cons, List.length_nil, List.replicate_succ, List.replicate_zero, List.cons_append, List.nil_append, List.append_nil, List.getElem?_cons_zero, List.getElem?_cons_succ, Option.join_some, List.set_cons_zero, List.set_cons_succ,
  onB_bl, onO_bl, bind_ok, out_ok, bind_ite, out_ite, seq_next, seq_ret, seq_ite, end_next, end_ret, end_ite, optO_some, optR_some, x_var, x_cst, x_b2, x_b1, x_sset, x_rg, x_and, x_or, x_ite, x_chain, x_tup, x_lst, x_idx, x_slc, x_call, x_isi, x_gin, x_gget, x_comp, x_nil, x_cons, x_asg, x_asgT, x_par, x_sub, x_app, x_ext, x_expr, x_ret, x_retN, x_ife, x_for, x_pass, x_end, x_seq,
  turn_next, turn_ret, turn_ite, pyEq_int, wipeD, setTgt, setEach,
  o_add_i, o_add_t, o_sub, o_mul_i, o_fdiv, o_mod, o_eq, o_ne, o_lt, o_le, o_gt, o_ge, o_mx, o_mn, o_neg, o_len_t, o_len_l, o_int_i, o_int_b, o_isN, o_notN, o_asI, o_isF, o_lnot, o_truth, o_tuple_t, o_tuple_l, o_list_t, o_idx_t, o_all_last, o_tuple_last, MP.isNon, Bool.not_true, Bool.not_false, List.length_append, List.append_assoc,
  truthOf, isTys, isTy, kindD, tyB, gc_self, mkT, mkL, lim, seqOf, Option.map_some, Nat.beq, Bool.or_false, Bool.or_true, decide_eq_true_eq, decide_true, decide_false, Bool.true_and, Bool.true_or, Bool.false_or, Bool.false_and, Bool.and_false, Bool.and_true, if_true, Bool.false_eq_true, if_false, ite_true, ite_false, toB_map, toB, optAll, all_q, all_tt, List.all_cons, List.all_nil, id, gc_b, gc_n, gc_i, slc1, it_tup, List.drop_succ_cons, List.drop_zero, d39, Ml.d, r1, r2]))
end Lw
/-! ## KM5 -/
set_option Elab.async false
set_option linter.all false
set_option autoImplicit false
set_option maxRecDepth 100000
set_option maxHeartbeats 1000000
namespace Lw
open PySem PySem.Spec PyProof.Rows L2 MP
/-! ### stores that grow -/
def Ext (st s : Sto) : Prop := ∃ t, s = st ++ t
theorem Ext.refl (st : Sto) : Ext st st := ⟨[], by simp⟩
theorem Ext.trans {a b c : Sto} (h : Ext a b) (k : Ext b c) : Ext a c := by
  obtain ⟨t, rfl⟩ := h
  obtain ⟨u, rfl⟩ := k
  exact ⟨t ++ u, by simp⟩
theorem Ext.app {st s : Sto} (h : Ext st s) (u : Sto) : Ext st (s ++ u) := h.trans ⟨u, rfl⟩
theorem Ext.len {st s : Sto} (h : Ext st s) : st.length ≤ s.length := by
  obtain ⟨t, rfl⟩ := h
  simp
theorem Ext.set {st s : Sto} (h : Ext st s) {f : Nat} (hf : st.length ≤ f) (o : O) : Ext st (s.set f o) := by
  obtain ⟨t, rfl⟩ := h
  exact ⟨t.set (f - st.length) o, by rw [List.set_append_right _ _ hf]⟩
theorem Ext.at {st s : Sto} (h : Ext st s) {n : Nat} {o : O} (hn : st[n]? = some o) : s[n]? = some o := by
  obtain ⟨t, rfl⟩ := h
  have : n < st.length := (List.getElem?_eq_some_iff.mp hn).1
  rw [List.getElem?_append_left this]
  exact hn
theorem Ext.take {st s : Sto} (h : Ext st s) {n : Nat} (hn : st.length ≤ n) : Ext st (s.take n) := by
  obtain ⟨t, rfl⟩ := h
  exact ⟨t.take (n - st.length), by rw [List.take_append, List.take_of_length_le hn]⟩
theorem gcE_view {st s s2 : Sto} (h : Ext st s2) (hl : st.length ≤ s.length) (env : MP.Env) : Ext st (gcE s s2 env) ∧ ∀ i n : Nat, env[i]? = some (some (.loc n)) → (gcE s s2 env)[n]? = s2[n]? := by
  unfold gcE
  split
  · rename_i c
    simp only [Bool.and_eq_true] at c
    refine ⟨h.take hl, fun i n e => ?_⟩
    have := envUnd_loc c.1 e
    rw [List.getElem?_take, if_pos this]
  · exact ⟨h, fun _ _ _ => rfl⟩
/-- a new list of these comes out -/
def RL (r : R D) (st : Sto) (xs : List D) : Prop := ∃ n s, r = .ok (.loc n) s ∧ Ext st s ∧ s[n]? = some (.lst xs)
theorem rl_gc {st s : Sto} {n : Nat} {xs : List D} (h : Ext st s) (hn : s[n]? = some (.lst xs)) : RL (.ok (.loc n) (gc st s (.loc n))) st xs := by
  obtain ⟨t, rfl⟩ := h
  obtain ⟨t', e1, e2⟩ := gc_ex st t (.loc n)
  refine ⟨n, _, rfl, ?_, ?_⟩
  · rw [e1]; exact ⟨t', rfl⟩
  · rw [e1, e2 n rfl]; exact hn
theorem at_l (st : Sto) (o : O) (t : Sto) : (st ++ o :: t)[st.length]? = some o := by simp
theorem offs_len {names : Nat} : ∀ (d : Nat) (t : Tm), t.ok names d → t.offs.length ≤ 3 ^ d
  | 0, t, h => h.elim
  | d + 1, t, h => by
    have e : 3 ^ (d + 1) = 3 ^ d * 3 := rfl
    have p : 1 ≤ 3 ^ d := Nat.one_le_pow _ _ (by omega)
    cases t with
    | inp o => simp [Tm.offs]; omega
    | of n o => simp [Tm.offs]; omega
    | is v => simp [Tm.offs]
    | rest t m => have := offs_len d t h.1; simp only [Tm.offs]; omega
    | pick a b c =>
      have := offs_len d a h.1
      have := offs_len d b h.2.1
      have := offs_len d c h.2.2
      simp only [Tm.offs, List.length_append]
      omega
    | two w a b =>
      have := offs_len d a h.1
      have := offs_len d b h.2
      simp only [Tm.offs, List.length_append]
      omega
theorem slc12 (x y : D) (xs : List D) (st : Sto) : opSlc (.tup (x :: y :: xs)) (.int 1) (.int 2) st = .ok (.tup [y]) st := by
  unfold opSlc
  simp only [seqOf, bnd]
  simp [MP.cutD]
/-- the parts of a term -/
def kids : Tm → List Tm
  | .rest t _ => [t]
  | .pick a b c => [a, b, c]
  | .two _ a b => [a, b]
  | _ => []
theorem kids_offs (t : Tm) (h : ∀ o, t ≠ .inp o) (h2 : ∀ n o, t ≠ .of n o) : (kids t).flatMap Tm.offs = t.offs := by
  cases t with
  | inp o => exact absurd rfl (h o)
  | of n o => exact absurd rfl (h2 n o)
  | _ => simp [kids, Tm.offs]
theorem offsets_loop {cl : Nat → List D → Sto → R D} {still : Sto → Bool} {A B C : Option D} (hs : ∀ s, still s = true) : ∀ (ts : List Tm) (st s : Sto) (acc : List D) (f : Nat) (p : Option D), (∀ t ∈ ts, ∀ s, RL (cl 7 [t.d] s) s (t.offs.map .int)) →
    Ext st s → st.length ≤ f → s[f]? = some (.lst acc) → acc.length + (ts.flatMap Tm.offs).length ≤ 1000000 →
    ∃ s' p', forL still (setTgt true [4]) (evSs cl [(.ext (.var 3) (.call 7 [(.var 4)] []))]) (ts.map Tm.d) [A, B, C, some (.loc f), p] s = .next [A, B, C, some (.loc f), p'] s' ∧ Ext st s' ∧ s'[f]? = some (.lst (acc ++ (ts.flatMap Tm.offs).map .int))
  | [], st, s, acc, f, p, _, h1, h2, h3, _ => ⟨s, p, for_nil _ _ _ _ _ (hs _), h1, by simpa using h3⟩
  | t :: ts, st, s, acc, f, p, ht, h1, h2, h3, hl => by
    obtain ⟨n, s2, e1, e2, e3⟩ := ht t (List.mem_cons_self ..) s
    have f2 := e2.at h3
    have il : isLst s (.loc f) = true := by simp only [isLst, h3]
    have ex : extAt (.loc f) (.loc n) s2 = some (s2.set f (.lst (acc ++ t.offs.map .int))) := by
      unfold extAt
      simp only [f2, e3]
      rw [if_pos]
      simp only [List.flatMap_cons, List.length_append] at hl
      simp [lim]
      omega
    have fl : f < s2.length := (List.getElem?_eq_some_iff.mp f2).1
    obtain ⟨v1, v2⟩ := gcE_view (st := st) (s := s) ((h1.trans e2).set h2 (.lst (acc ++ t.offs.map .int))) h1.len [A, B, C, some (.loc f), some t.d]
    have v3 := v2 3 f rfl
    rw [List.getElem?_set_self fl] at v3
    obtain ⟨s', p', r1, r2, r3⟩ := offsets_loop hs ts st _ (acc ++ t.offs.map .int) f (some t.d) (fun t' h' => ht t' (List.mem_cons_of_mem _ h')) v1 h2 v3 (by simp only [List.flatMap_cons, List.length_append] at hl; simp only [List.length_append, List.length_map]; omega)
    refine ⟨s', p', ?_, r2, by simpa using r3⟩
    rw [← r1]
    simp only [List.map_cons]
    rw [for_cons _ _ _ _ _ _ _ (hs _)]
    (simp (config := {decide := true, maxSteps := 1000000}) (disch := omega) only [Df.fn, Nat.reduceAdd, Nat.reduceSub, Nat.reduceMul, Int.reduceToNat, Int.reduceAdd, Int.reduceSub, Int.reduceMul, Int.reduceNeg, Int.reduceLE, Int.reduceLT, at0, at1, at2, at3, Nat.zero_add, Nat.sub_self, List.map_cons, List.map_nil, List.length_cons, List.length_nil, List.replicate_succ, List.replicate_zero, List.cons_append, List.nil_append, List.append_nil, List.getElem?_cons_zero, List.getElem?_cons_succ, Option.join_some, List.set_cons_zero, List.set_cons_succ,
  onB_bl, onO_bl, bind_ok, out_ok, bind_ite, out_ite, seq_next, seq_ret, seq_ite, end_next, end_ret, end_ite, optO_some, optR_some, x_var, x_cst, x_b2, x_b1, x_sset, x_rg, x_and, x_or, x_ite, x_chain, x_tup, x_lst, x_idx, x_slc, x_call, x_isi, x_gin, x_gget, x_comp, x_nil, x_cons, x_asg, x_asgT, x_par, x_sub, x_app, x_ext, x_expr, x_ret, x_retN, x_ife, x_for, x_pass, x_end, x_seq,
  turn_next, turn_ret, turn_ite, pyEq_int, wipeD, setTgt, setEach,
  o_add_i, o_add_t, o_sub, o_mul_i, o_fdiv, o_mod, o_eq, o_ne, o_lt, o_le, o_gt, o_ge, o_mx, o_mn, o_neg, o_len_t, o_len_l, o_int_i, o_int_b, o_isN, o_notN, o_asI, o_isF, o_lnot, o_truth, o_tuple_t, o_tuple_l, o_list_t, o_idx_t, o_all_last, o_tuple_last, MP.isNon, Bool.not_true, Bool.not_false, List.length_append, List.append_assoc,
  truthOf, isTys, isTy, kindD, tyB, gc_self, mkT, mkL, lim, seqOf, Option.map_some, Nat.beq, Bool.or_false, Bool.or_true, decide_eq_true_eq, decide_true, decide_false, Bool.true_and, Bool.true_or, Bool.false_or, Bool.false_and, Bool.and_false, Bool.and_true, if_true, Bool.false_eq_true, if_false, ite_true, ite_false, il, e1, ex])
theorem offsets_ok {names : Nat} : ∀ (d : Nat), d ≤ 4 → ∀ k, d + 1 ≤ k → ∀ (t : Tm), t.ok names d → ∀ st, RL (run tb k 7 [t.d] st) st (t.offs.map .int)
  | 0, _, k, hk, t, h, st => h.elim
  | d + 1, hd, k, hk, t, h, st => by
    obtain ⟨k, rfl⟩ : ∃ j, k = j + 1 := ⟨k - 1, by omega⟩
    rw [run_succ (f := d7.fn) rfl rfl]
    have ih := offsets_ok (names := names) d (by omega) k (by omega)
    have p3 : 3 ^ d * 3 ≤ 1000000 := by
      have : 3 ^ d ≤ 3 ^ 4 := Nat.pow_le_pow_right (by omega) (by omega)
      omega
    have lp := fun (ts : List Tm) (A B C p : Option D) (still : Sto → Bool) (hs : ∀ s, still s = true) (ht : ∀ t ∈ ts, ∀ s, RL (run tb k 7 [t.d] s) s (t.offs.map .int)) (hl : (ts.flatMap Tm.offs).length ≤ 1000000) =>
      offsets_loop (A := A) (B := B) (C := C) hs ts st (st ++ [.lst []]) [] st.length p ht ⟨_, rfl⟩ (Nat.le_refl _) (at_l _ _ _) (by simpa using hl)
    cases t with
    | inp o =>
      ((simp (config := {decide := true, maxSteps := 1000000}) (disch := omega) only [Df.fn, Nat.reduceAdd, Nat.reduceSub, Nat.reduceMul, Int.reduceToNat, Int.reduceAdd, Int.reduceSub, Int.reduceMul, Int.reduceNeg, Int.reduceLE, Int.reduceLT, at0, at1, at2, at3, Nat.zero_add, Nat.sub_self, List.map_cons, List.map_nil, List.length_cons, List.length_nil, List.replicate_succ, List.replicate_zero, List.cons_append, List.nil_append, List.append_nil, List.getElem?_cons_zero, List.getElem?_cons_succ, Option.join_some, List.set_cons_zero, List.set_cons_succ,
  onB_bl, onO_bl, bind_ok, out_ok, bind_ite, out_ite, seq_next, seq_ret, seq_ite, end_next, end_ret, end_ite, optO_some, optR_some, x_var, x_cst, x_b2, x_b1, x_sset, x_rg, x_and, x_or, x_ite, x_chain, x_tup, x_lst, x_idx, x_slc, x_call, x_isi, x_gin, x_gget, x_comp, x_nil, x_cons, x_asg, x_asgT, x_par, x_sub, x_app, x_ext, x_expr, x_ret, x_retN, x_ife, x_for, x_pass, x_end, x_seq,
  turn_next, turn_ret, turn_ite, pyEq_int, wipeD, setTgt, setEach,
  o_add_i, o_add_t, o_sub, o_mul_i, o_fdiv, o_mod, o_eq, o_ne, o_lt, o_le, o_gt, o_ge, o_mx, o_mn, o_neg, o_len_t, o_len_l, o_int_i, o_int_b, o_isN, o_notN, o_asI, o_isF, o_lnot, o_truth, o_tuple_t, o_tuple_l, o_list_t, o_idx_t, o_all_last, o_tuple_last, MP.isNon, Bool.not_true, Bool.not_false, List.length_append, List.append_assoc,
  truthOf, isTys, isTy, kindD, tyB, gc_self, mkT, mkL, lim, seqOf, Option.map_some, Nat.beq, Bool.or_false, Bool.or_true, decide_eq_true_eq, decide_true, decide_false, Bool.true_and, Bool.true_or, Bool.false_or, Bool.false_and, Bool.and_false, Bool.and_true, if_true, Bool.false_eq_true, if_false, ite_true, ite_false, pe_in_in, pe_in_of, pe_in_is, pe_in_rest, pe_in_pick, pe_in_plus, pe_in_times, pe_in_same, pe_in_less, pe_of_in, pe_of_of, pe_of_is, pe_of_rest, pe_of_pick, pe_of_plus, pe_of_times, pe_of_same, pe_of_less, pe_is_in, pe_is_of, pe_is_is, pe_is_rest, pe_is_pick, pe_is_plus, pe_is_times, pe_is_same, pe_is_less, pe_rest_in, pe_rest_of, pe_rest_is, pe_rest_rest, pe_rest_pick, pe_rest_plus, pe_rest_times, pe_rest_same, pe_rest_less, pe_pick_in, pe_pick_of, pe_pick_is, pe_pick_rest, pe_pick_pick, pe_pick_plus, pe_pick_times, pe_pick_same, pe_pick_less, pe_plus_in, pe_plus_of, pe_plus_is, pe_plus_rest, pe_plus_pick, pe_plus_plus, pe_plus_times, pe_plus_same, pe_plus_less, pe_times_in, pe_times_of, pe_times_is, pe_times_rest, pe_times_pick, pe_times_plus, pe_times_times, pe_times_same, pe_times_less, pe_same_in, pe_same_of, pe_same_is, pe_same_rest, pe_same_pick, pe_same_plus, pe_same_times, pe_same_same, pe_same_less, pe_less_in, pe_less_of, pe_less_is, pe_less_rest, pe_less_pick, pe_less_plus, pe_less_times, pe_less_same, pe_less_less, gi_in, gi_of, gi_is, gi_rest, gi_pick, gi_plus, gi_times, gi_same, gi_less, gg_plus, gg_times, gg_same, gg_less, gg_pick, d7, Tm.d, Tm.offs, MP.alloc, neg1a]))
      exact rl_gc ⟨_, rfl⟩ (at_l _ _ _)
    | of n o =>
      ((simp (config := {decide := true, maxSteps := 1000000}) (disch := omega) only [Df.fn, Nat.reduceAdd, Nat.reduceSub, Nat.reduceMul, Int.reduceToNat, Int.reduceAdd, Int.reduceSub, Int.reduceMul, Int.reduceNeg, Int.reduceLE, Int.reduceLT, at0, at1, at2, at3, Nat.zero_add, Nat.sub_self, List.map_cons, List.map_nil, List.length_cons, List.length_nil, List.replicate_succ, List.replicate_zero, List.cons_append, List.nil_append, List.append_nil, List.getElem?_cons_zero, List.getElem?_cons_succ, Option.join_some, List.set_cons_zero, List.set_cons_succ,
  onB_bl, onO_bl, bind_ok, out_ok, bind_ite, out_ite, seq_next, seq_ret, seq_ite, end_next, end_ret, end_ite, optO_some, optR_some, x_var, x_cst, x_b2, x_b1, x_sset, x_rg, x_and, x_or, x_ite, x_chain, x_tup, x_lst, x_idx, x_slc, x_call, x_isi, x_gin, x_gget, x_comp, x_nil, x_cons, x_asg, x_asgT, x_par, x_sub, x_app, x_ext, x_expr, x_ret, x_retN, x_ife, x_for, x_pass, x_end, x_seq,
  turn_next, turn_ret, turn_ite, pyEq_int, wipeD, setTgt, setEach,
  o_add_i, o_add_t, o_sub, o_mul_i, o_fdiv, o_mod, o_eq, o_ne, o_lt, o_le, o_gt, o_ge, o_mx, o_mn, o_neg, o_len_t, o_len_l, o_int_i, o_int_b, o_isN, o_notN, o_asI, o_isF, o_lnot, o_truth, o_tuple_t, o_tuple_l, o_list_t, o_idx_t, o_all_last, o_tuple_last, MP.isNon, Bool.not_true, Bool.not_false, List.length_append, List.append_assoc,
  truthOf, isTys, isTy, kindD, tyB, gc_self, mkT, mkL, lim, seqOf, Option.map_some, Nat.beq, Bool.or_false, Bool.or_true, decide_eq_true_eq, decide_true, decide_false, Bool.true_and, Bool.true_or, Bool.false_or, Bool.false_and, Bool.and_false, Bool.and_true, if_true, Bool.false_eq_true, if_false, ite_true, ite_false, pe_in_in, pe_in_of, pe_in_is, pe_in_rest, pe_in_pick, pe_in_plus, pe_in_times, pe_in_same, pe_in_less, pe_of_in, pe_of_of, pe_of_is, pe_of_rest, pe_of_pick, pe_of_plus, pe_of_times, pe_of_same, pe_of_less, pe_is_in, pe_is_of, pe_is_is, pe_is_rest, pe_is_pick, pe_is_plus, pe_is_times, pe_is_same, pe_is_less, pe_rest_in, pe_rest_of, pe_rest_is, pe_rest_rest, pe_rest_pick, pe_rest_plus, pe_rest_times, pe_rest_same, pe_rest_less, pe_pick_in, pe_pick_of, pe_pick_is, pe_pick_rest, pe_pick_pick, pe_pick_plus, pe_pick_times, pe_pick_same, pe_pick_less, pe_plus_in, pe_plus_of, pe_plus_is, pe_plus_rest, pe_plus_pick, pe_plus_plus, pe_plus_times, pe_plus_same, pe_plus_less, pe_times_in, pe_times_of, pe_times_is, pe_times_rest, pe_times_pick, pe_times_plus, pe_times_times, pe_times_same, pe_times_less, pe_same_in, pe_same_of, pe_same_is, pe_same_rest, pe_same_pick, pe_same_plus, pe_same_times, pe_same_same, pe_same_less, pe_less_in, pe_less_of, pe_less_is, pe_less_rest, pe_less_pick, pe_less_plus, pe_less_times, pe_less_same, pe_less_less, gi_in, gi_of, gi_is, gi_rest, gi_pick, gi_plus, gi_times, gi_same, gi_less, gg_plus, gg_times, gg_same, gg_less, gg_pick, d7, Tm.d, Tm.offs, MP.alloc, neg1b]))
      exact rl_gc ⟨_, rfl⟩ (at_l _ _ _)
    | is v =>
      ((simp (config := {decide := true, maxSteps := 1000000}) (disch := omega) only [Df.fn, Nat.reduceAdd, Nat.reduceSub, Nat.reduceMul, Int.reduceToNat, Int.reduceAdd, Int.reduceSub, Int.reduceMul, Int.reduceNeg, Int.reduceLE, Int.reduceLT, at0, at1, at2, at3, Nat.zero_add, Nat.sub_self, List.map_cons, List.map_nil, List.length_cons, List.length_nil, List.replicate_succ, List.replicate_zero, List.cons_append, List.nil_append, List.append_nil, List.getElem?_cons_zero, List.getElem?_cons_succ, Option.join_some, List.set_cons_zero, List.set_cons_succ,
  onB_bl, onO_bl, bind_ok, out_ok, bind_ite, out_ite, seq_next, seq_ret, seq_ite, end_next, end_ret, end_ite, optO_some, optR_some, x_var, x_cst, x_b2, x_b1, x_sset, x_rg, x_and, x_or, x_ite, x_chain, x_tup, x_lst, x_idx, x_slc, x_call, x_isi, x_gin, x_gget, x_comp, x_nil, x_cons, x_asg, x_asgT, x_par, x_sub, x_app, x_ext, x_expr, x_ret, x_retN, x_ife, x_for, x_pass, x_end, x_seq,
  turn_next, turn_ret, turn_ite, pyEq_int, wipeD, setTgt, setEach,
  o_add_i, o_add_t, o_sub, o_mul_i, o_fdiv, o_mod, o_eq, o_ne, o_lt, o_le, o_gt, o_ge, o_mx, o_mn, o_neg, o_len_t, o_len_l, o_int_i, o_int_b, o_isN, o_notN, o_asI, o_isF, o_lnot, o_truth, o_tuple_t, o_tuple_l, o_list_t, o_idx_t, o_all_last, o_tuple_last, MP.isNon, Bool.not_true, Bool.not_false, List.length_append, List.append_assoc,
  truthOf, isTys, isTy, kindD, tyB, gc_self, mkT, mkL, lim, seqOf, Option.map_some, Nat.beq, Bool.or_false, Bool.or_true, decide_eq_true_eq, decide_true, decide_false, Bool.true_and, Bool.true_or, Bool.false_or, Bool.false_and, Bool.and_false, Bool.and_true, if_true, Bool.false_eq_true, if_false, ite_true, ite_false, pe_in_in, pe_in_of, pe_in_is, pe_in_rest, pe_in_pick, pe_in_plus, pe_in_times, pe_in_same, pe_in_less, pe_of_in, pe_of_of, pe_of_is, pe_of_rest, pe_of_pick, pe_of_plus, pe_of_times, pe_of_same, pe_of_less, pe_is_in, pe_is_of, pe_is_is, pe_is_rest, pe_is_pick, pe_is_plus, pe_is_times, pe_is_same, pe_is_less, pe_rest_in, pe_rest_of, pe_rest_is, pe_rest_rest, pe_rest_pick, pe_rest_plus, pe_rest_times, pe_rest_same, pe_rest_less, pe_pick_in, pe_pick_of, pe_pick_is, pe_pick_rest, pe_pick_pick, pe_pick_plus, pe_pick_times, pe_pick_same, pe_pick_less, pe_plus_in, pe_plus_of, pe_plus_is, pe_plus_rest, pe_plus_pick, pe_plus_plus, pe_plus_times, pe_plus_same, pe_plus_less, pe_times_in, pe_times_of, pe_times_is, pe_times_rest, pe_times_pick, pe_times_plus, pe_times_times, pe_times_same, pe_times_less, pe_same_in, pe_same_of, pe_same_is, pe_same_rest, pe_same_pick, pe_same_plus, pe_same_times, pe_same_same, pe_same_less, pe_less_in, pe_less_of, pe_less_is, pe_less_rest, pe_less_pick, pe_less_plus, pe_less_times, pe_less_same, pe_less_less, gi_in, gi_of, gi_is, gi_rest, gi_pick, gi_plus, gi_times, gi_same, gi_less, gg_plus, gg_times, gg_same, gg_less, gg_pick, d7, Tm.d, Tm.offs, MP.alloc, neg1b]))
      exact rl_gc ⟨_, rfl⟩ (at_l _ _ _)
    | rest t m =>
      have l1 := offs_len d t h.1
      obtain ⟨s', p', r1, r2, r3⟩ := lp [t] (some (.tup [.str "rest", t.d, .int m])) (some (.str "rest")) (some (.tup [t.d])) none (stillOf 0 (.tup [t.d]) .non (st ++ [.lst []])) (fun _ => rfl) (fun t' h' s => by simp at h'; subst h'; exact ih t' h.1 s) (by simp; omega)
      simp only [List.map_cons, List.map_nil] at r1
      ((simp (config := {decide := true, maxSteps := 1000000}) (disch := omega) only [Df.fn, Nat.reduceAdd, Nat.reduceSub, Nat.reduceMul, Int.reduceToNat, Int.reduceAdd, Int.reduceSub, Int.reduceMul, Int.reduceNeg, Int.reduceLE, Int.reduceLT, at0, at1, at2, at3, Nat.zero_add, Nat.sub_self, List.map_cons, List.map_nil, List.length_cons, List.length_nil, List.replicate_succ, List.replicate_zero, List.cons_append, List.nil_append, List.append_nil, List.getElem?_cons_zero, List.getElem?_cons_succ, Option.join_some, List.set_cons_zero, List.set_cons_succ,
  onB_bl, onO_bl, bind_ok, out_ok, bind_ite, out_ite, seq_next, seq_ret, seq_ite, end_next, end_ret, end_ite, optO_some, optR_some, x_var, x_cst, x_b2, x_b1, x_sset, x_rg, x_and, x_or, x_ite, x_chain, x_tup, x_lst, x_idx, x_slc, x_call, x_isi, x_gin, x_gget, x_comp, x_nil, x_cons, x_asg, x_asgT, x_par, x_sub, x_app, x_ext, x_expr, x_ret, x_retN, x_ife, x_for, x_pass, x_end, x_seq,
  turn_next, turn_ret, turn_ite, pyEq_int, wipeD, setTgt, setEach,
  o_add_i, o_add_t, o_sub, o_mul_i, o_fdiv, o_mod, o_eq, o_ne, o_lt, o_le, o_gt, o_ge, o_mx, o_mn, o_neg, o_len_t, o_len_l, o_int_i, o_int_b, o_isN, o_notN, o_asI, o_isF, o_lnot, o_truth, o_tuple_t, o_tuple_l, o_list_t, o_idx_t, o_all_last, o_tuple_last, MP.isNon, Bool.not_true, Bool.not_false, List.length_append, List.append_assoc,
  truthOf, isTys, isTy, kindD, tyB, gc_self, mkT, mkL, lim, seqOf, Option.map_some, Nat.beq, Bool.or_false, Bool.or_true, decide_eq_true_eq, decide_true, decide_false, Bool.true_and, Bool.true_or, Bool.false_or, Bool.false_and, Bool.and_false, Bool.and_true, if_true, Bool.false_eq_true, if_false, ite_true, ite_false, pe_in_in, pe_in_of, pe_in_is, pe_in_rest, pe_in_pick, pe_in_plus, pe_in_times, pe_in_same, pe_in_less, pe_of_in, pe_of_of, pe_of_is, pe_of_rest, pe_of_pick, pe_of_plus, pe_of_times, pe_of_same, pe_of_less, pe_is_in, pe_is_of, pe_is_is, pe_is_rest, pe_is_pick, pe_is_plus, pe_is_times, pe_is_same, pe_is_less, pe_rest_in, pe_rest_of, pe_rest_is, pe_rest_rest, pe_rest_pick, pe_rest_plus, pe_rest_times, pe_rest_same, pe_rest_less, pe_pick_in, pe_pick_of, pe_pick_is, pe_pick_rest, pe_pick_pick, pe_pick_plus, pe_pick_times, pe_pick_same, pe_pick_less, pe_plus_in, pe_plus_of, pe_plus_is, pe_plus_rest, pe_plus_pick, pe_plus_plus, pe_plus_times, pe_plus_same, pe_plus_less, pe_times_in, pe_times_of, pe_times_is, pe_times_rest, pe_times_pick, pe_times_plus, pe_times_times, pe_times_same, pe_times_less, pe_same_in, pe_same_of, pe_same_is, pe_same_rest, pe_same_pick, pe_same_plus, pe_same_times, pe_same_same, pe_same_less, pe_less_in, pe_less_of, pe_less_is, pe_less_rest, pe_less_pick, pe_less_plus, pe_less_times, pe_less_same, pe_less_less, gi_in, gi_of, gi_is, gi_rest, gi_pick, gi_plus, gi_times, gi_same, gi_less, gg_plus, gg_times, gg_same, gg_less, gg_pick, d7, Tm.d, Tm.offs, MP.alloc, slc12, it_tup, r1]))
      exact rl_gc r2 (by simpa using r3)
    | pick a b c =>
      have l1 := offs_len d a h.1
      have l2 := offs_len d b h.2.1
      have l3 := offs_len d c h.2.2
      obtain ⟨s', p', r1, r2, r3⟩ := lp [a, b, c] (some (.tup [.str "pick", a.d, b.d, c.d])) (some (.str "pick")) (some (.tup [a.d, b.d, c.d])) none (stillOf 0 (.tup [a.d, b.d, c.d]) .non (st ++ [.lst []])) (fun _ => rfl) (fun t' h' s => by
        simp at h'
        rcases h' with rfl | rfl | rfl
        · exact ih t' h.1 s
        · exact ih t' h.2.1 s
        · exact ih t' h.2.2 s) (by simp; omega)
      simp only [List.map_cons, List.map_nil] at r1
      ((simp (config := {decide := true, maxSteps := 1000000}) (disch := omega) only [Df.fn, Nat.reduceAdd, Nat.reduceSub, Nat.reduceMul, Int.reduceToNat, Int.reduceAdd, Int.reduceSub, Int.reduceMul, Int.reduceNeg, Int.reduceLE, Int.reduceLT, at0, at1, at2, at3, Nat.zero_add, Nat.sub_self, List.map_cons, List.map_nil, List.length_cons, List.length_nil, List.replicate_succ, List.replicate_zero, List.cons_append, List.nil_append, List.append_nil, List.getElem?_cons_zero, List.getElem?_cons_succ, Option.join_some, List.set_cons_zero, List.set_cons_succ,
  onB_bl, onO_bl, bind_ok, out_ok, bind_ite, out_ite, seq_next, seq_ret, seq_ite, end_next, end_ret, end_ite, optO_some, optR_some, x_var, x_cst, x_b2, x_b1, x_sset, x_rg, x_and, x_or, x_ite, x_chain, x_tup, x_lst, x_idx, x_slc, x_call, x_isi, x_gin, x_gget, x_comp, x_nil, x_cons, x_asg, x_asgT, x_par, x_sub, x_app, x_ext, x_expr, x_ret, x_retN, x_ife, x_for, x_pass, x_end, x_seq,
  turn_next, turn_ret, turn_ite, pyEq_int, wipeD, setTgt, setEach,
  o_add_i, o_add_t, o_sub, o_mul_i, o_fdiv, o_mod, o_eq, o_ne, o_lt, o_le, o_gt, o_ge, o_mx, o_mn, o_neg, o_len_t, o_len_l, o_int_i, o_int_b, o_isN, o_notN, o_asI, o_isF, o_lnot, o_truth, o_tuple_t, o_tuple_l, o_list_t, o_idx_t, o_all_last, o_tuple_last, MP.isNon, Bool.not_true, Bool.not_false, List.length_append, List.append_assoc,
  truthOf, isTys, isTy, kindD, tyB, gc_self, mkT, mkL, lim, seqOf, Option.map_some, Nat.beq, Bool.or_false, Bool.or_true, decide_eq_true_eq, decide_true, decide_false, Bool.true_and, Bool.true_or, Bool.false_or, Bool.false_and, Bool.and_false, Bool.and_true, if_true, Bool.false_eq_true, if_false, ite_true, ite_false, pe_in_in, pe_in_of, pe_in_is, pe_in_rest, pe_in_pick, pe_in_plus, pe_in_times, pe_in_same, pe_in_less, pe_of_in, pe_of_of, pe_of_is, pe_of_rest, pe_of_pick, pe_of_plus, pe_of_times, pe_of_same, pe_of_less, pe_is_in, pe_is_of, pe_is_is, pe_is_rest, pe_is_pick, pe_is_plus, pe_is_times, pe_is_same, pe_is_less, pe_rest_in, pe_rest_of, pe_rest_is, pe_rest_rest, pe_rest_pick, pe_rest_plus, pe_rest_times, pe_rest_same, pe_rest_less, pe_pick_in, pe_pick_of, pe_pick_is, pe_pick_rest, pe_pick_pick, pe_pick_plus, pe_pick_times, pe_pick_same, pe_pick_less, pe_plus_in, pe_plus_of, pe_plus_is, pe_plus_rest, pe_plus_pick, pe_plus_plus, pe_plus_times, pe_plus_same, pe_plus_less, pe_times_in, pe_times_of, pe_times_is, pe_times_rest, pe_times_pick, pe_times_plus, pe_times_times, pe_times_same, pe_times_less, pe_same_in, pe_same_of, pe_same_is, pe_same_rest, pe_same_pick, pe_same_plus, pe_same_times, pe_same_same, pe_same_less, pe_less_in, pe_less_of, pe_less_is, pe_less_rest, pe_less_pick, pe_less_plus, pe_less_times, pe_less_same, pe_less_less, gi_in, gi_of, gi_is, gi_rest, gi_pick, gi_plus, gi_times, gi_same, gi_less, gg_plus, gg_times, gg_same, gg_less, gg_pick, d7, Tm.d, Tm.offs, MP.alloc, slc1, List.drop_succ_cons, List.drop_zero, it_tup, r1]))
      exact rl_gc r2 (by simpa using r3)
    | two w a b =>
      have l1 := offs_len d a h.1
      have l2 := offs_len d b h.2
      obtain ⟨s', p', r1, r2, r3⟩ := lp [a, b] (some (.tup [.str w.s, a.d, b.d])) (some (.str w.s)) (some (.tup [a.d, b.d])) none (stillOf 0 (.tup [a.d, b.d]) .non (st ++ [.lst []])) (fun _ => rfl) (fun t' h' s => by
        simp at h'
        rcases h' with rfl | rfl
        · exact ih t' h.1 s
        · exact ih t' h.2 s) (by simp; omega)
      simp only [List.map_cons, List.map_nil] at r1
      cases w <;> (
        simp only [W2.s] at r1
        ((simp (config := {decide := true, maxSteps := 1000000}) (disch := omega) only [Df.fn, Nat.reduceAdd, Nat.reduceSub, Nat.reduceMul, Int.reduceToNat, Int.reduceAdd, Int.reduceSub, Int.reduceMul, Int.reduceNeg, Int.reduceLE, Int.reduceLT, at0, at1, at2, at3, Nat.zero_add, Nat.sub_self, List.map_cons, List.map_nil, List.length_cons, List.length_nil, List.replicate_succ, List.replicate_zero, List.cons_append, List.nil_append, List.append_nil, List.getElem?_cons_zero, List.getElem?_cons_succ, Option.join_some, List.set_cons_zero, List.set_cons_succ,
  onB_bl, onO_bl, bind_ok, out_ok, bind_ite, out_ite, seq_next, seq_ret, seq_ite, end_next, end_ret, end_ite, optO_some, optR_some, x_var, x_cst, x_b2, x_b1, x_sset, x_rg, x_and, x_or, x_ite, x_chain, x_tup, x_lst, x_idx, x_slc, x_call, x_isi, x_gin, x_gget, x_comp, x_nil, x_cons, x_asg, x_asgT, x_par, x_sub, x_app, x_ext, x_expr, x_ret, x_retN, x_ife, x_for, x_pass, x_end, x_seq,
  turn_next, turn_ret, turn_ite, pyEq_int, wipeD, setTgt, setEach,
  o_add_i, o_add_t, o_sub, o_mul_i, o_fdiv, o_mod, o_eq, o_ne, o_lt, o_le, o_gt, o_ge, o_mx, o_mn, o_neg, o_len_t, o_len_l, o_int_i, o_int_b, o_isN, o_notN, o_asI, o_isF, o_lnot, o_truth, o_tuple_t, o_tuple_l, o_list_t, o_idx_t, o_all_last, o_tuple_last, MP.isNon, Bool.not_true, Bool.not_false, List.length_append, List.append_assoc,
  truthOf, isTys, isTy, kindD, tyB, gc_self, mkT, mkL, lim, seqOf, Option.map_some, Nat.beq, Bool.or_false, Bool.or_true, decide_eq_true_eq, decide_true, decide_false, Bool.true_and, Bool.true_or, Bool.false_or, Bool.false_and, Bool.and_false, Bool.and_true, if_true, Bool.false_eq_true, if_false, ite_true, ite_false, pe_in_in, pe_in_of, pe_in_is, pe_in_rest, pe_in_pick, pe_in_plus, pe_in_times, pe_in_same, pe_in_less, pe_of_in, pe_of_of, pe_of_is, pe_of_rest, pe_of_pick, pe_of_plus, pe_of_times, pe_of_same, pe_of_less, pe_is_in, pe_is_of, pe_is_is, pe_is_rest, pe_is_pick, pe_is_plus, pe_is_times, pe_is_same, pe_is_less, pe_rest_in, pe_rest_of, pe_rest_is, pe_rest_rest, pe_rest_pick, pe_rest_plus, pe_rest_times, pe_rest_same, pe_rest_less, pe_pick_in, pe_pick_of, pe_pick_is, pe_pick_rest, pe_pick_pick, pe_pick_plus, pe_pick_times, pe_pick_same, pe_pick_less, pe_plus_in, pe_plus_of, pe_plus_is, pe_plus_rest, pe_plus_pick, pe_plus_plus, pe_plus_times, pe_plus_same, pe_plus_less, pe_times_in, pe_times_of, pe_times_is, pe_times_rest, pe_times_pick, pe_times_plus, pe_times_times, pe_times_same, pe_times_less, pe_same_in, pe_same_of, pe_same_is, pe_same_rest, pe_same_pick, pe_same_plus, pe_same_times, pe_same_same, pe_same_less, pe_less_in, pe_less_of, pe_less_is, pe_less_rest, pe_less_pick, pe_less_plus, pe_less_times, pe_less_same, pe_less_less, gi_in, gi_of, gi_is, gi_rest, gi_pick, gi_plus, gi_times, gi_same, gi_less, gg_plus, gg_times, gg_same, gg_less, gg_pick, d7, Tm.d, W2.s, Tm.offs, MP.alloc, slc1, List.drop_succ_cons, List.drop_zero, it_tup, r1]))
        exact rl_gc r2 (by simpa using r3))
end Lw
/-! ## KM6 -/
set_option Elab.async false
set_option linter.all false
set_option autoImplicit false
set_option maxRecDepth 100000
set_option maxHeartbeats 1000000
namespace Lw
open PySem PySem.Spec PyProof.Rows L2 MP
/-! ### how far is looked -/
def bkF : Int → List Int → Int
  | b, [] => b
  | b, o :: os => bkF (if -o > b then -o else b) os
def ahF : Int → List Int → Int
  | a, [] => a
  | a, o :: os => ahF (if o > a then o else a) os
theorem bkF_app : ∀ (xs ys : List Int) (b : Int), bkF b (xs ++ ys) = bkF (bkF b xs) ys
  | [], _, _ => rfl
  | x :: xs, ys, b => by simp [bkF, bkF_app xs ys]
theorem ahF_app : ∀ (xs ys : List Int) (b : Int), ahF b (xs ++ ys) = ahF (ahF b xs) ys
  | [], _, _ => rfl
  | x :: xs, ys, b => by simp [ahF, ahF_app xs ys]
theorem minI_bk : ∀ (os : List Int) (m : Int), minI m os = -(bkF (-m) os)
  | [], m => by simp [minI, bkF]
  | o :: os, m => by
    simp only [minI, bkF]
    rw [minI_bk os]
    have : -(if o < m then o else m) = (if -o > -m then -o else -m) := by split <;> split <;> omega
    rw [this]
theorem maxI_ah : ∀ (os : List Int) (m : Int), maxI m os = ahF m os
  | [], m => rfl
  | o :: os, m => by
    simp only [maxI, ahF]
    rw [maxI_ah os]
theorem bkF_ge : ∀ (os : List Int) (b : Int), b ≤ bkF b os ∧ ∀ o ∈ os, -o ≤ bkF b os
  | [], b => ⟨Int.le_refl _, by simp⟩
  | o :: os, b => by
    obtain ⟨h1, h2⟩ := bkF_ge os (if -o > b then -o else b)
    have h3 : b ≤ (if -o > b then -o else b) := by split <;> omega
    have h4 : -o ≤ (if -o > b then -o else b) := by split <;> omega
    refine ⟨Int.le_trans h3 h1, fun x hx => ?_⟩
    rcases List.mem_cons.mp hx with e | hx
    · rw [e]; exact Int.le_trans h4 h1
    · exact h2 x hx
theorem ahF_ge : ∀ (os : List Int) (b : Int), b ≤ ahF b os ∧ ∀ o ∈ os, o ≤ ahF b os
  | [], b => ⟨Int.le_refl _, by simp⟩
  | o :: os, b => by
    obtain ⟨h1, h2⟩ := ahF_ge os (if o > b then o else b)
    have h3 : b ≤ (if o > b then o else b) := by split <;> omega
    have h4 : o ≤ (if o > b then o else b) := by split <;> omega
    refine ⟨Int.le_trans h3 h1, fun x hx => ?_⟩
    rcases List.mem_cons.mp hx with e | hx
    · rw [e]; exact Int.le_trans h4 h1
    · exact h2 x hx
theorem bkF_le {c : Int} : ∀ (os : List Int) (b : Int), b ≤ c → (∀ o ∈ os, -o ≤ c) → bkF b os ≤ c
  | [], b, h, _ => h
  | o :: os, b, h, ho => by
    simp only [bkF]
    refine bkF_le os _ ?_ fun x hx => ho x (List.mem_cons_of_mem _ hx)
    have := ho o (List.mem_cons_self ..)
    split <;> omega
theorem ahF_le {c : Int} : ∀ (os : List Int) (b : Int), b ≤ c → (∀ o ∈ os, o ≤ c) → ahF b os ≤ c
  | [], b, h, _ => h
  | o :: os, b, h, ho => by
    simp only [ahF]
    refine ahF_le os _ ?_ fun x hx => ho x (List.mem_cons_of_mem _ hx)
    have := ho o (List.mem_cons_self ..)
    split <;> omega
def aoffs (es : List (Tm × Tm)) : List Int := es.flatMap fun p => p.1.offs ++ p.2.offs
def Ml.back (m : Ml) : Int := bkF 0 (aoffs m.eqs)
def Ml.ahead (m : Ml) : Int := ahF 0 (aoffs m.eqs)
theorem it_loc {n : Nat} {s : Sto} {xs : List D} (h : lstAt s n = some xs) (y : D) : itE 0 (.ok (.loc n) s) (fun st => .ok y st) = .ok (.loc n, y, xs) s := by
  unfold itE
  simp only [R.bind, itemsOf, seqOf, h]
theorem still_loc {n : Nat} {s : Sto} {xs : List D} (h : lstAt s n = some xs) (y : D) : stillOf 0 (.loc n) y s s = true := by
  simp only [stillOf, seqOf, h, seqStays, D.eqbs_refl]
theorem lstAt_of {s : Sto} {n : Nat} {xs : List D} (h : s[n]? = some (.lst xs)) : lstAt s n = some xs := by simp only [lstAt, h]
theorem o_add_l {s : Sto} {n m : Nat} {xs ys : List D} (h1 : s[n]? = some (.lst xs)) (h2 : s[m]? = some (.lst ys)) (hl : (xs ++ ys).length ≤ 1000000) : op2 .add (.loc n) (.loc m) s = .ok (.loc s.length) (s ++ [.lst (xs ++ ys)]) := by
  show opAdd (.loc n) (.loc m) s = _
  unfold opAdd
  simp only [h1, h2]
  exact mkL_ok s hl
theorem looks_inner {cl : Nat → List D → Sto → R D} {still : Sto → Bool} {E P : Option D} {s : Sto} (hs : still s = true) : ∀ (os : List Int) (b a : Int) (p : Option D),
    ∃ p', forL still (setTgt true [4]) (evSs cl [(.asg 1 (.b2 .mx (.var 1) (.b1 .neg (.var 4)))), (.asg 2 (.b2 .mx (.var 2) (.var 4)))]) (os.map .int) [E, some (.int b), some (.int a), P, p] s = .next [E, some (.int (bkF b os)), some (.int (ahF a os)), P, p'] s
  | [], b, a, p => ⟨p, for_nil _ _ _ _ _ hs⟩
  | o :: os, b, a, p => by
    obtain ⟨p', e⟩ := looks_inner (cl := cl) (E := E) (P := P) hs os (if -o > b then -o else b) (if o > a then o else a) (some (.int o))
    refine ⟨p', ?_⟩
    simp only [bkF, ahF]
    rw [← e]
    simp only [List.map_cons]
    rw [for_cons _ _ _ _ _ _ _ hs]
    (simp (config := {decide := true, maxSteps := 1000000}) (disch := omega) only [Df.fn, Nat.reduceAdd, Nat.reduceSub, Nat.reduceMul, Int.reduceToNat, Int.reduceAdd, Int.reduceSub, Int.reduceMul, Int.reduceNeg, Int.reduceLE, Int.reduceLT, at0, at1, at2, at3, Nat.zero_add, Nat.sub_self, List.map_cons, List.map_nil, List.length_cons, List.length_nil, List.replicate_succ, List.replicate_zero, List.cons_append, List.nil_append, List.append_nil, List.getElem?_cons_zero, List.getElem?_cons_succ, Option.join_some, List.set_cons_zero, List.set_cons_succ,
  onB_bl, onO_bl, bind_ok, out_ok, bind_ite, out_ite, seq_next, seq_ret, seq_ite, end_next, end_ret, end_ite, optO_some, optR_some, x_var, x_cst, x_b2, x_b1, x_sset, x_rg, x_and, x_or, x_ite, x_chain, x_tup, x_lst, x_idx, x_slc, x_call, x_isi, x_gin, x_gget, x_comp, x_nil, x_cons, x_asg, x_asgT, x_par, x_sub, x_app, x_ext, x_expr, x_ret, x_retN, x_ife, x_for, x_pass, x_end, x_seq,
  turn_next, turn_ret, turn_ite, pyEq_int, wipeD, setTgt, setEach,
  o_add_i, o_add_t, o_sub, o_mul_i, o_fdiv, o_mod, o_eq, o_ne, o_lt, o_le, o_gt, o_ge, o_mx, o_mn, o_neg, o_len_t, o_len_l, o_int_i, o_int_b, o_isN, o_notN, o_asI, o_isF, o_lnot, o_truth, o_tuple_t, o_tuple_l, o_list_t, o_idx_t, o_all_last, o_tuple_last, MP.isNon, Bool.not_true, Bool.not_false, List.length_append, List.append_assoc,
  truthOf, isTys, isTy, kindD, tyB, gc_self, mkT, mkL, lim, seqOf, Option.map_some, Nat.beq, Bool.or_false, Bool.or_true, decide_eq_true_eq, decide_true, decide_false, Bool.true_and, Bool.true_or, Bool.false_or, Bool.false_and, Bool.and_false, Bool.and_true, if_true, Bool.false_eq_true, if_false, ite_true, ite_false, gcE_self])
abbrev lookBody : List CS := [(.for [4] true 0 (.b2 .add (.call 7 [(.idx (.var 3) (.cst (.int 0)))] []) (.call 7 [(.idx (.var 3) (.cst (.int 1)))] [])) (.cst .non) [(.asg 1 (.b2 .mx (.var 1) (.b1 .neg (.var 4)))), (.asg 2 (.b2 .mx (.var 2) (.var 4)))])]
theorem looks_outer {cl : Nat → List D → Sto → R D} {still : Sto → Bool} {E : Option D} (hs : ∀ s, still s = true) : ∀ (es : List (Tm × Tm)) (st s : Sto) (b a : Int) (P p : Option D), (∀ q ∈ es, (∀ s, RL (cl 7 [q.1.d] s) s (q.1.offs.map .int)) ∧ (∀ s, RL (cl 7 [q.2.d] s) s (q.2.offs.map .int)) ∧ q.1.offs.length + q.2.offs.length ≤ 1000000) → Ext st s →
    ∃ s' P' p', forL still (setTgt true [3]) (evSs cl lookBody) (es.map eqD) [E, some (.int b), some (.int a), P, p] s = .next [E, some (.int (bkF b (aoffs es))), some (.int (ahF a (aoffs es))), P', p'] s' ∧ Ext st s'
  | [], st, s, b, a, P, p, _, h => ⟨s, P, p, for_nil _ _ _ _ _ (hs _), h⟩
  | q :: es, st, s, b, a, P, p, hq, h => by
    obtain ⟨q1, q2, q3⟩ := hq q (List.mem_cons_self ..)
    obtain ⟨n1, s1, e1, x1, l1⟩ := q1 s
    obtain ⟨n2, s2, e2, x2, l2⟩ := q2 s1
    have add := o_add_l (x2.at l1) l2 (by simp only [List.length_append, List.length_map]; omega)
    have l3 : lstAt (s2 ++ [.lst (q.1.offs.map D.int ++ q.2.offs.map .int)]) s2.length = some (q.1.offs.map D.int ++ q.2.offs.map .int) := lstAt_last
    obtain ⟨p2, e3⟩ := looks_inner (cl := cl) (E := E) (P := some (eqD q)) (still_loc l3 .non) (q.1.offs ++ q.2.offs) b a p
    have x3 : Ext st (s2 ++ [.lst (q.1.offs.map D.int ++ q.2.offs.map .int)]) := ((h.trans x1).trans x2).app _
    obtain ⟨s', P', p', r1, r2⟩ := looks_outer (cl := cl) hs es st _ (bkF b (q.1.offs ++ q.2.offs)) (ahF a (q.1.offs ++ q.2.offs)) (some (eqD q)) p2 (fun q' h' => hq q' (List.mem_cons_of_mem _ h'))
      (gcE_view x3 h.len [E, some (.int (bkF b (q.1.offs ++ q.2.offs))), some (.int (ahF a (q.1.offs ++ q.2.offs))), some (eqD q), p2]).1
    refine ⟨s', P', p', ?_, r2⟩
    have ea : aoffs (q :: es) = (q.1.offs ++ q.2.offs) ++ aoffs es := rfl
    rw [ea, bkF_app, ahF_app, ← r1]
    simp only [List.map_cons]
    rw [for_cons _ _ _ _ _ _ _ (hs _)]
    simp only [List.map_append, eqD] at e3
    (simp (config := {decide := true, maxSteps := 1000000}) (disch := omega) only [Df.fn, Nat.reduceAdd, Nat.reduceSub, Nat.reduceMul, Int.reduceToNat, Int.reduceAdd, Int.reduceSub, Int.reduceMul, Int.reduceNeg, Int.reduceLE, Int.reduceLT, at0, at1, at2, at3, Nat.zero_add, Nat.sub_self, List.map_cons, List.map_nil, List.length_cons, List.length_nil, List.replicate_succ, List.replicate_zero, List.cons_append, List.nil_append, List.append_nil, List.getElem?_cons_zero, List.getElem?_cons_succ, Option.join_some, List.set_cons_zero, List.set_cons_succ,
  onB_bl, onO_bl, bind_ok, out_ok, bind_ite, out_ite, seq_next, seq_ret, seq_ite, end_next, end_ret, end_ite, optO_some, optR_some, x_var, x_cst, x_b2, x_b1, x_sset, x_rg, x_and, x_or, x_ite, x_chain, x_tup, x_lst, x_idx, x_slc, x_call, x_isi, x_gin, x_gget, x_comp, x_nil, x_cons, x_asg, x_asgT, x_par, x_sub, x_app, x_ext, x_expr, x_ret, x_retN, x_ife, x_for, x_pass, x_end, x_seq,
  turn_next, turn_ret, turn_ite, pyEq_int, wipeD, setTgt, setEach,
  o_add_i, o_add_t, o_sub, o_mul_i, o_fdiv, o_mod, o_eq, o_ne, o_lt, o_le, o_gt, o_ge, o_mx, o_mn, o_neg, o_len_t, o_len_l, o_int_i, o_int_b, o_isN, o_notN, o_asI, o_isF, o_lnot, o_truth, o_tuple_t, o_tuple_l, o_list_t, o_idx_t, o_all_last, o_tuple_last, MP.isNon, Bool.not_true, Bool.not_false, List.length_append, List.append_assoc,
  truthOf, isTys, isTy, kindD, tyB, gc_self, mkT, mkL, lim, seqOf, Option.map_some, Nat.beq, Bool.or_false, Bool.or_true, decide_eq_true_eq, decide_true, decide_false, Bool.true_and, Bool.true_or, Bool.false_or, Bool.false_and, Bool.and_false, Bool.and_true, if_true, Bool.false_eq_true, if_false, ite_true, ite_false, lookBody, eqD, e1, e2, add, it_loc l3, e3])
theorem looks_ok : ∀ k, 6 ≤ k → ∀ (names : Nat) (es : List (Tm × Tm)) (st : Sto), (∀ p ∈ es, p.1.ok names 4 ∧ p.2.ok names 4) → run tb k 8 [.tup (es.map eqD)] st = .ok (.tup [.int (bkF 0 (aoffs es)), .int (ahF 0 (aoffs es))]) st := lift fun k hk names es st h => by
  rw [run_succ (f := d8.fn) rfl rfl]
  obtain ⟨s', P', p', r1, t, r2⟩ := looks_outer (cl := run tb k) (E := some (.tup (es.map eqD))) (still := stillOf 0 (.tup (es.map eqD)) .non st) (fun _ => rfl) es st st 0 0 none none (fun q hq => by
    obtain ⟨h1, h2⟩ := h q hq
    have l1 := offs_len 4 _ h1
    have l2 := offs_len 4 _ h2
    exact ⟨offsets_ok 4 (by omega) k (by omega) q.1 h1, offsets_ok 4 (by omega) k (by omega) q.2 h2, by omega⟩) (Ext.refl _)
  subst r2
  ((simp (config := {decide := true, maxSteps := 1000000}) (disch := omega) only [Df.fn, Nat.reduceAdd, Nat.reduceSub, Nat.reduceMul, Int.reduceToNat, Int.reduceAdd, Int.reduceSub, Int.reduceMul, Int.reduceNeg, Int.reduceLE, Int.reduceLT, at0, at1, at2, at3, Nat.zero_add, Nat.sub_self, List.map_cons, List.map_nil, List.length_cons, List.length_nil, List.replicate_succ, List.replicate_zero, List.cons_append, List.nil_append, List.append_nil, List.getElem?_cons_zero, List.getElem?_cons_succ, Option.join_some, List.set_cons_zero, List.set_cons_succ,
  onB_bl, onO_bl, bind_ok, out_ok, bind_ite, out_ite, seq_next, seq_ret, seq_ite, end_next, end_ret, end_ite, optO_some, optR_some, x_var, x_cst, x_b2, x_b1, x_sset, x_rg, x_and, x_or, x_ite, x_chain, x_tup, x_lst, x_idx, x_slc, x_call, x_isi, x_gin, x_gget, x_comp, x_nil, x_cons, x_asg, x_asgT, x_par, x_sub, x_app, x_ext, x_expr, x_ret, x_retN, x_ife, x_for, x_pass, x_end, x_seq,
  turn_next, turn_ret, turn_ite, pyEq_int, wipeD, setTgt, setEach,
  o_add_i, o_add_t, o_sub, o_mul_i, o_fdiv, o_mod, o_eq, o_ne, o_lt, o_le, o_gt, o_ge, o_mx, o_mn, o_neg, o_len_t, o_len_l, o_int_i, o_int_b, o_isN, o_notN, o_asI, o_isF, o_lnot, o_truth, o_tuple_t, o_tuple_l, o_list_t, o_idx_t, o_all_last, o_tuple_last, MP.isNon, Bool.not_true, Bool.not_false, List.length_append, List.append_assoc,
  truthOf, isTys, isTy, kindD, tyB, gc_self, mkT, mkL, lim, seqOf, Option.map_some, Nat.beq, Bool.or_false, Bool.or_true, decide_eq_true_eq, decide_true, decide_false, Bool.true_and, Bool.true_or, Bool.false_or, Bool.false_and, Bool.and_false, Bool.and_true, if_true, Bool.false_eq_true, if_false, ite_true, ite_false, toB_map, toB, optAll, all_q, all_tt, List.all_cons, List.all_nil, id, gc_b, gc_n, gc_i, slc1, it_tup, List.drop_succ_cons, List.drop_zero, d8, r1]))
  rw [gc_app _ _ (by rfl)]
theorem reach_ok : ∀ k, 15 ≤ k → ∀ (m : Ml) (st : Sto), m.ok → run tb k 22 [m.d] st = .ok (.tup [.int m.back, .int m.ahead]) st := lift fun k hk m st h => by
  rw [run_succ (f := d22.fn) rfl rfl]
  have c := fun st => check_mill_ok k (by omega) m st h
  have l := fun st => looks_ok k (by omega) m.names.length m.eqs st h.eq
  simp only [Ml.d] at c
  ((simp (config := {decide := true, maxSteps := 1000000}) (disch := omega) only [Df.fn, Nat.reduceAdd, Nat.reduceSub, Nat.reduceMul, Int.reduceToNat, Int.reduceAdd, Int.reduceSub, Int.reduceMul, Int.reduceNeg, Int.reduceLE, Int.reduceLT, at0, at1, at2, at3, Nat.zero_add, Nat.sub_self, List.map_cons, List.map_nil, List.length_cons, List.length_nil, List.replicate_succ, List.replicate_zero, List.cons_append, List.nil_append, List.append_nil, List.getElem?_cons_zero, List.getElem?_cons_succ, Option.join_some, List.set_cons_zero, List.set_cons_succ,
  onB_bl, onO_bl, bind_ok, out_ok, bind_ite, out_ite, seq_next, seq_ret, seq_ite, end_next, end_ret, end_ite, optO_some, optR_some, x_var, x_cst, x_b2, x_b1, x_sset, x_rg, x_and, x_or, x_ite, x_chain, x_tup, x_lst, x_idx, x_slc, x_call, x_isi, x_gin, x_gget, x_comp, x_nil, x_cons, x_asg, x_asgT, x_par, x_sub, x_app, x_ext, x_expr, x_ret, x_retN, x_ife, x_for, x_pass, x_end, x_seq,
  turn_next, turn_ret, turn_ite, pyEq_int, wipeD, setTgt, setEach,
  o_add_i, o_add_t, o_sub, o_mul_i, o_fdiv, o_mod, o_eq, o_ne, o_lt, o_le, o_gt, o_ge, o_mx, o_mn, o_neg, o_len_t, o_len_l, o_int_i, o_int_b, o_isN, o_notN, o_asI, o_isF, o_lnot, o_truth, o_tuple_t, o_tuple_l, o_list_t, o_idx_t, o_all_last, o_tuple_last, MP.isNon, Bool.not_true, Bool.not_false, List.length_append, List.append_assoc,
  truthOf, isTys, isTy, kindD, tyB, gc_self, mkT, mkL, lim, seqOf, Option.map_some, Nat.beq, Bool.or_false, Bool.or_true, decide_eq_true_eq, decide_true, decide_false, Bool.true_and, Bool.true_or, Bool.false_or, Bool.false_and, Bool.and_false, Bool.and_true, if_true, Bool.false_eq_true, if_false, ite_true, ite_false, toB_map, toB, optAll, all_q, all_tt, List.all_cons, List.all_nil, id, gc_b, gc_n, gc_i, slc1, it_tup, List.drop_succ_cons, List.drop_zero, d22, Ml.d, c, l, Ml.back, Ml.ahead]))
end Lw
/-! ## KM7 -/
set_option Elab.async false
set_option linter.all false
set_option autoImplicit false
set_option maxRecDepth 100000
set_option maxHeartbeats 1000000
namespace Lw
open PySem PySem.Spec PyProof.Rows L2 MP
/-! ### how far the law looks -/
inductive Pa where
  | iv (v : Int) | tm (t : Tm)
def Pa.d : Pa → D
  | .iv v => .int v
  | .tm t => t.d
def Pa.offs : Pa → List Int
  | .iv _ => []
  | .tm t => t.offs
theorem kind_tm (st : Sto) (t : Tm) : kindD st t.d = some 4 := by
  obtain ⟨xs, e⟩ := t.d_tup
  rw [e]; rfl
abbrev lofBody : List CS := [(.asg 1 (.b2 .add (.var 1) (.ite (.b1 .truth (.isi (.var 2) [.tuple])) (.call 34 [(.var 2)] []) (.lst []))))]
theorem lof_loop {cl : Nat → List D → Sto → R D} {still : Sto → Bool} {A : Option D} (hs : ∀ s, still s = true) : ∀ (ps : List Pa) (st s : Sto) (acc : List D) (f : Nat) (p : Option D), (∀ t, .tm t ∈ ps → ∀ s, RL (cl 34 [t.d] s) s (t.offs.map .int)) →
    Ext st s → s[f]? = some (.lst acc) → acc.length + (ps.flatMap Pa.offs).length ≤ 1000000 →
    ∃ s' p' f', forL still (setTgt true [2]) (evSs cl lofBody) (ps.map Pa.d) [A, some (.loc f), p] s = .next [A, some (.loc f'), p'] s' ∧ Ext st s' ∧ s'[f']? = some (.lst (acc ++ (ps.flatMap Pa.offs).map .int))
  | [], st, s, acc, f, p, _, h1, h3, _ => ⟨s, p, f, for_nil _ _ _ _ _ (hs _), h1, by simpa using h3⟩
  | .iv v :: ps, st, s, acc, f, p, ht, h1, h3, hl => by
    have add := o_add_l (s := s ++ [.lst []]) (n := f) (m := s.length) (xs := acc) (ys := []) (Ext.at ⟨_, rfl⟩ h3) (at_l _ _ _) (by simp only [List.append_nil]; omega)
    simp only [List.append_nil] at add
    have x3 : Ext st (s ++ [.lst []] ++ [.lst acc]) := (h1.app _).app _
    obtain ⟨v1, v2⟩ := gcE_view x3 h1.len [A, some (.loc (s ++ [O.lst []]).length), some (.int v)]
    have v3 := v2 1 _ rfl
    rw [at_last] at v3
    obtain ⟨s', p', f', r1, r2, r3⟩ := lof_loop (cl := cl) hs ps st _ acc (s ++ [O.lst []]).length (some (.int v)) (fun t' h' => ht t' (List.mem_cons_of_mem _ h')) v1 v3 (by simpa [Pa.offs] using hl)
    refine ⟨s', p', f', ?_, r2, by simpa [Pa.offs] using r3⟩
    rw [← r1]
    simp only [List.map_cons]
    rw [for_cons _ _ _ _ _ _ _ (hs _)]
    simp only [List.length_append, List.length_cons, List.length_nil, Nat.zero_add, List.append_assoc, List.cons_append, List.nil_append] at add ⊢
    (simp (config := {decide := true, maxSteps := 1000000}) (disch := omega) only [Df.fn, Nat.reduceAdd, Nat.reduceSub, Nat.reduceMul, Int.reduceToNat, Int.reduceAdd, Int.reduceSub, Int.reduceMul, Int.reduceNeg, Int.reduceLE, Int.reduceLT, at0, at1, at2, at3, Nat.zero_add, Nat.sub_self, List.map_cons, List.map_nil, List.length_cons, List.length_nil, List.replicate_succ, List.replicate_zero, List.cons_append, List.nil_append, List.append_nil, List.getElem?_cons_zero, List.getElem?_cons_succ, Option.join_some, List.set_cons_zero, List.set_cons_succ,
  onB_bl, onO_bl, bind_ok, out_ok, bind_ite, out_ite, seq_next, seq_ret, seq_ite, end_next, end_ret, end_ite, optO_some, optR_some, x_var, x_cst, x_b2, x_b1, x_sset, x_rg, x_and, x_or, x_ite, x_chain, x_tup, x_lst, x_idx, x_slc, x_call, x_isi, x_gin, x_gget, x_comp, x_nil, x_cons, x_asg, x_asgT, x_par, x_sub, x_app, x_ext, x_expr, x_ret, x_retN, x_ife, x_for, x_pass, x_end, x_seq,
  turn_next, turn_ret, turn_ite, pyEq_int, wipeD, setTgt, setEach,
  o_add_i, o_add_t, o_sub, o_mul_i, o_fdiv, o_mod, o_eq, o_ne, o_lt, o_le, o_gt, o_ge, o_mx, o_mn, o_neg, o_len_t, o_len_l, o_int_i, o_int_b, o_isN, o_notN, o_asI, o_isF, o_lnot, o_truth, o_tuple_t, o_tuple_l, o_list_t, o_idx_t, o_all_last, o_tuple_last, MP.isNon, Bool.not_true, Bool.not_false, List.length_append, List.append_assoc,
  truthOf, isTys, isTy, kindD, tyB, gc_self, mkT, mkL, lim, seqOf, Option.map_some, Nat.beq, Bool.or_false, Bool.or_true, decide_eq_true_eq, decide_true, decide_false, Bool.true_and, Bool.true_or, Bool.false_or, Bool.false_and, Bool.and_false, Bool.and_true, if_true, Bool.false_eq_true, if_false, ite_true, ite_false, lofBody, Pa.d, MP.alloc, add])
  | .tm t :: ps, st, s, acc, f, p, ht, h1, h3, hl => by
    obtain ⟨n, s2, e1, e2, e3⟩ := ht t (List.mem_cons_self ..) s
    simp only [List.flatMap_cons, List.length_append, Pa.offs] at hl
    have add := o_add_l (e2.at h3) e3 (by simp only [List.length_append, List.length_map]; omega)
    have x3 : Ext st (s2 ++ [.lst (acc ++ t.offs.map .int)]) := (h1.trans e2).app _
    obtain ⟨v1, v2⟩ := gcE_view x3 h1.len [A, some (.loc s2.length), some t.d]
    have v3 := v2 1 _ rfl
    rw [at_last] at v3
    obtain ⟨s', p', f', r1, r2, r3⟩ := lof_loop (cl := cl) hs ps st _ (acc ++ t.offs.map .int) s2.length (some t.d) (fun t' h' => ht t' (List.mem_cons_of_mem _ h')) v1 v3 (by simp only [List.length_append, List.length_map]; omega)
    refine ⟨s', p', f', ?_, r2, by simpa [Pa.offs] using r3⟩
    rw [← r1]
    simp only [List.map_cons]
    rw [for_cons _ _ _ _ _ _ _ (hs _)]
    obtain ⟨xs, ex⟩ := t.d_tup
    simp only [Pa.d, ex] at e1 ⊢
    (simp (config := {decide := true, maxSteps := 1000000}) (disch := omega) only [Df.fn, Nat.reduceAdd, Nat.reduceSub, Nat.reduceMul, Int.reduceToNat, Int.reduceAdd, Int.reduceSub, Int.reduceMul, Int.reduceNeg, Int.reduceLE, Int.reduceLT, at0, at1, at2, at3, Nat.zero_add, Nat.sub_self, List.map_cons, List.map_nil, List.length_cons, List.length_nil, List.replicate_succ, List.replicate_zero, List.cons_append, List.nil_append, List.append_nil, List.getElem?_cons_zero, List.getElem?_cons_succ, Option.join_some, List.set_cons_zero, List.set_cons_succ,
  onB_bl, onO_bl, bind_ok, out_ok, bind_ite, out_ite, seq_next, seq_ret, seq_ite, end_next, end_ret, end_ite, optO_some, optR_some, x_var, x_cst, x_b2, x_b1, x_sset, x_rg, x_and, x_or, x_ite, x_chain, x_tup, x_lst, x_idx, x_slc, x_call, x_isi, x_gin, x_gget, x_comp, x_nil, x_cons, x_asg, x_asgT, x_par, x_sub, x_app, x_ext, x_expr, x_ret, x_retN, x_ife, x_for, x_pass, x_end, x_seq,
  turn_next, turn_ret, turn_ite, pyEq_int, wipeD, setTgt, setEach,
  o_add_i, o_add_t, o_sub, o_mul_i, o_fdiv, o_mod, o_eq, o_ne, o_lt, o_le, o_gt, o_ge, o_mx, o_mn, o_neg, o_len_t, o_len_l, o_int_i, o_int_b, o_isN, o_notN, o_asI, o_isF, o_lnot, o_truth, o_tuple_t, o_tuple_l, o_list_t, o_idx_t, o_all_last, o_tuple_last, MP.isNon, Bool.not_true, Bool.not_false, List.length_append, List.append_assoc,
  truthOf, isTys, isTy, kindD, tyB, gc_self, mkT, mkL, lim, seqOf, Option.map_some, Nat.beq, Bool.or_false, Bool.or_true, decide_eq_true_eq, decide_true, decide_false, Bool.true_and, Bool.true_or, Bool.false_or, Bool.false_and, Bool.and_false, Bool.and_true, if_true, Bool.false_eq_true, if_false, ite_true, ite_false, lofBody, MP.alloc, e1, add])
theorem rl_gc2 {st s : Sto} {n : Nat} {xs : List D} (h : Ext st s) (hn : s[n]? = some (.lst xs)) (r : R D) (e : r = .ok (.loc n) (gc st s (.loc n))) : RL r st xs := by rw [e]; exact rl_gc h hn
theorem law_offsets_ok {names : Nat} : ∀ (d : Nat), d ≤ 4 → ∀ k, d + 1 ≤ k → ∀ (t : Tm), t.ok names d → ∀ st, RL (run tb k 34 [t.d] st) st (t.offs.map .int)
  | 0, _, k, hk, t, h, st => h.elim
  | d + 1, hd, k, hk, t, h, st => by
    obtain ⟨k, rfl⟩ : ∃ j, k = j + 1 := ⟨k - 1, by omega⟩
    rw [run_succ (f := d34.fn) rfl rfl]
    have ih := law_offsets_ok (names := names) d (by omega) k (by omega)
    have p3 : 3 ^ d * 3 ≤ 1000000 := by
      have : 3 ^ d ≤ 3 ^ 4 := Nat.pow_le_pow_right (by omega) (by omega)
      omega
    have lp := fun (ps : List Pa) (A p : Option D) (still : Sto → Bool) (hs : ∀ s, still s = true) (ht : ∀ t, Pa.tm t ∈ ps → ∀ s, RL (run tb k 34 [t.d] s) s (t.offs.map .int)) (hl : (ps.flatMap Pa.offs).length ≤ 1000000) =>
      lof_loop (cl := run tb k) (A := A) hs ps st (st ++ [.lst [.str "in", .str "of"], .lst []]) [] (st.length + 1) p ht ⟨_, rfl⟩ (by rw [List.getElem?_append_right (by omega)]; simp) (by simpa using hl)
    cases t with
    | inp o =>
      (((simp (config := {decide := true, maxSteps := 1000000}) (disch := omega) only [Df.fn, Nat.reduceAdd, Nat.reduceSub, Nat.reduceMul, Int.reduceToNat, Int.reduceAdd, Int.reduceSub, Int.reduceMul, Int.reduceNeg, Int.reduceLE, Int.reduceLT, at0, at1, at2, at3, Nat.zero_add, Nat.sub_self, List.map_cons, List.map_nil, List.length_cons, List.length_nil, List.replicate_succ, List.replicate_zero, List.cons_append, List.nil_append, List.append_nil, List.getElem?_cons_zero, List.getElem?_cons_succ, Option.join_some, List.set_cons_zero, List.set_cons_succ,
  onB_bl, onO_bl, bind_ok, out_ok, bind_ite, out_ite, seq_next, seq_ret, seq_ite, end_next, end_ret, end_ite, optO_some, optR_some, x_var, x_cst, x_b2, x_b1, x_sset, x_rg, x_and, x_or, x_ite, x_chain, x_tup, x_lst, x_idx, x_slc, x_call, x_isi, x_gin, x_gget, x_comp, x_nil, x_cons, x_asg, x_asgT, x_par, x_sub, x_app, x_ext, x_expr, x_ret, x_retN, x_ife, x_for, x_pass, x_end, x_seq,
  turn_next, turn_ret, turn_ite, pyEq_int, wipeD, setTgt, setEach,
  o_add_i, o_add_t, o_sub, o_mul_i, o_fdiv, o_mod, o_eq, o_ne, o_lt, o_le, o_gt, o_ge, o_mx, o_mn, o_neg, o_len_t, o_len_l, o_int_i, o_int_b, o_isN, o_notN, o_asI, o_isF, o_lnot, o_truth, o_tuple_t, o_tuple_l, o_list_t, o_idx_t, o_all_last, o_tuple_last, MP.isNon, Bool.not_true, Bool.not_false, List.length_append, List.append_assoc,
  truthOf, isTys, isTy, kindD, tyB, gc_self, mkT, mkL, lim, seqOf, Option.map_some, Nat.beq, Bool.or_false, Bool.or_true, decide_eq_true_eq, decide_true, decide_false, Bool.true_and, Bool.true_or, Bool.false_or, Bool.false_and, Bool.and_false, Bool.and_true, if_true, Bool.false_eq_true, if_false, ite_true, ite_false, pe_in_in, pe_in_of, pe_in_is, pe_in_rest, pe_in_pick, pe_in_plus, pe_in_times, pe_in_same, pe_in_less, pe_of_in, pe_of_of, pe_of_is, pe_of_rest, pe_of_pick, pe_of_plus, pe_of_times, pe_of_same, pe_of_less, pe_is_in, pe_is_of, pe_is_is, pe_is_rest, pe_is_pick, pe_is_plus, pe_is_times, pe_is_same, pe_is_less, pe_rest_in, pe_rest_of, pe_rest_is, pe_rest_rest, pe_rest_pick, pe_rest_plus, pe_rest_times, pe_rest_same, pe_rest_less, pe_pick_in, pe_pick_of, pe_pick_is, pe_pick_rest, pe_pick_pick, pe_pick_plus, pe_pick_times, pe_pick_same, pe_pick_less, pe_plus_in, pe_plus_of, pe_plus_is, pe_plus_rest, pe_plus_pick, pe_plus_plus, pe_plus_times, pe_plus_same, pe_plus_less, pe_times_in, pe_times_of, pe_times_is, pe_times_rest, pe_times_pick, pe_times_plus, pe_times_times, pe_times_same, pe_times_less, pe_same_in, pe_same_of, pe_same_is, pe_same_rest, pe_same_pick, pe_same_plus, pe_same_times, pe_same_same, pe_same_less, pe_less_in, pe_less_of, pe_less_is, pe_less_rest, pe_less_pick, pe_less_plus, pe_less_times, pe_less_same, pe_less_less, gi_in, gi_of, gi_is, gi_rest, gi_pick, gi_plus, gi_times, gi_same, gi_less, gg_plus, gg_times, gg_same, gg_less, gg_pick, MP.alloc, io_in, io_of, io_is, io_rest, io_pick, io_plus, io_times, io_same, io_less, lst_l, lst_l1, lst_l2, gc_b, gc_n, gc_i, gc_self, d34, Tm.d, Tm.offs, neg1a])))
      exact rl_gc ⟨_, rfl⟩ (by rw [List.getElem?_append_right (by omega)]; simp)
    | of n o =>
      (((simp (config := {decide := true, maxSteps := 1000000}) (disch := omega) only [Df.fn, Nat.reduceAdd, Nat.reduceSub, Nat.reduceMul, Int.reduceToNat, Int.reduceAdd, Int.reduceSub, Int.reduceMul, Int.reduceNeg, Int.reduceLE, Int.reduceLT, at0, at1, at2, at3, Nat.zero_add, Nat.sub_self, List.map_cons, List.map_nil, List.length_cons, List.length_nil, List.replicate_succ, List.replicate_zero, List.cons_append, List.nil_append, List.append_nil, List.getElem?_cons_zero, List.getElem?_cons_succ, Option.join_some, List.set_cons_zero, List.set_cons_succ,
  onB_bl, onO_bl, bind_ok, out_ok, bind_ite, out_ite, seq_next, seq_ret, seq_ite, end_next, end_ret, end_ite, optO_some, optR_some, x_var, x_cst, x_b2, x_b1, x_sset, x_rg, x_and, x_or, x_ite, x_chain, x_tup, x_lst, x_idx, x_slc, x_call, x_isi, x_gin, x_gget, x_comp, x_nil, x_cons, x_asg, x_asgT, x_par, x_sub, x_app, x_ext, x_expr, x_ret, x_retN, x_ife, x_for, x_pass, x_end, x_seq,
  turn_next, turn_ret, turn_ite, pyEq_int, wipeD, setTgt, setEach,
  o_add_i, o_add_t, o_sub, o_mul_i, o_fdiv, o_mod, o_eq, o_ne, o_lt, o_le, o_gt, o_ge, o_mx, o_mn, o_neg, o_len_t, o_len_l, o_int_i, o_int_b, o_isN, o_notN, o_asI, o_isF, o_lnot, o_truth, o_tuple_t, o_tuple_l, o_list_t, o_idx_t, o_all_last, o_tuple_last, MP.isNon, Bool.not_true, Bool.not_false, List.length_append, List.append_assoc,
  truthOf, isTys, isTy, kindD, tyB, gc_self, mkT, mkL, lim, seqOf, Option.map_some, Nat.beq, Bool.or_false, Bool.or_true, decide_eq_true_eq, decide_true, decide_false, Bool.true_and, Bool.true_or, Bool.false_or, Bool.false_and, Bool.and_false, Bool.and_true, if_true, Bool.false_eq_true, if_false, ite_true, ite_false, pe_in_in, pe_in_of, pe_in_is, pe_in_rest, pe_in_pick, pe_in_plus, pe_in_times, pe_in_same, pe_in_less, pe_of_in, pe_of_of, pe_of_is, pe_of_rest, pe_of_pick, pe_of_plus, pe_of_times, pe_of_same, pe_of_less, pe_is_in, pe_is_of, pe_is_is, pe_is_rest, pe_is_pick, pe_is_plus, pe_is_times, pe_is_same, pe_is_less, pe_rest_in, pe_rest_of, pe_rest_is, pe_rest_rest, pe_rest_pick, pe_rest_plus, pe_rest_times, pe_rest_same, pe_rest_less, pe_pick_in, pe_pick_of, pe_pick_is, pe_pick_rest, pe_pick_pick, pe_pick_plus, pe_pick_times, pe_pick_same, pe_pick_less, pe_plus_in, pe_plus_of, pe_plus_is, pe_plus_rest, pe_plus_pick, pe_plus_plus, pe_plus_times, pe_plus_same, pe_plus_less, pe_times_in, pe_times_of, pe_times_is, pe_times_rest, pe_times_pick, pe_times_plus, pe_times_times, pe_times_same, pe_times_less, pe_same_in, pe_same_of, pe_same_is, pe_same_rest, pe_same_pick, pe_same_plus, pe_same_times, pe_same_same, pe_same_less, pe_less_in, pe_less_of, pe_less_is, pe_less_rest, pe_less_pick, pe_less_plus, pe_less_times, pe_less_same, pe_less_less, gi_in, gi_of, gi_is, gi_rest, gi_pick, gi_plus, gi_times, gi_same, gi_less, gg_plus, gg_times, gg_same, gg_less, gg_pick, MP.alloc, io_in, io_of, io_is, io_rest, io_pick, io_plus, io_times, io_same, io_less, lst_l, lst_l1, lst_l2, gc_b, gc_n, gc_i, gc_self, d34, Tm.d, Tm.offs, neg1b])))
      exact rl_gc ⟨_, rfl⟩ (by rw [List.getElem?_append_right (by omega)]; simp)
    | is v =>
      obtain ⟨s', p', f', r1, r2, r3⟩ := lp [.iv v] (some (.tup [.str "is", .int v])) none (stillOf 0 (.tup [.int v]) .non (st ++ [.lst [.str "in", .str "of"], .lst []])) (fun _ => rfl) (fun t h' => by simp at h') (by simp [Pa.offs])
      simp only [List.map_cons, List.map_nil, Pa.d] at r1
      (((simp (config := {decide := true, maxSteps := 1000000}) (disch := omega) only [Df.fn, Nat.reduceAdd, Nat.reduceSub, Nat.reduceMul, Int.reduceToNat, Int.reduceAdd, Int.reduceSub, Int.reduceMul, Int.reduceNeg, Int.reduceLE, Int.reduceLT, at0, at1, at2, at3, Nat.zero_add, Nat.sub_self, List.map_cons, List.map_nil, List.length_cons, List.length_nil, List.replicate_succ, List.replicate_zero, List.cons_append, List.nil_append, List.append_nil, List.getElem?_cons_zero, List.getElem?_cons_succ, Option.join_some, List.set_cons_zero, List.set_cons_succ,
  onB_bl, onO_bl, bind_ok, out_ok, bind_ite, out_ite, seq_next, seq_ret, seq_ite, end_next, end_ret, end_ite, optO_some, optR_some, x_var, x_cst, x_b2, x_b1, x_sset, x_rg, x_and, x_or, x_ite, x_chain, x_tup, x_lst, x_idx, x_slc, x_call, x_isi, x_gin, x_gget, x_comp, x_nil, x_cons, x_asg, x_asgT, x_par, x_sub, x_app, x_ext, x_expr, x_ret, x_retN, x_ife, x_for, x_pass, x_end, x_seq,
  turn_next, turn_ret, turn_ite, pyEq_int, wipeD, setTgt, setEach,
  o_add_i, o_add_t, o_sub, o_mul_i, o_fdiv, o_mod, o_eq, o_ne, o_lt, o_le, o_gt, o_ge, o_mx, o_mn, o_neg, o_len_t, o_len_l, o_int_i, o_int_b, o_isN, o_notN, o_asI, o_isF, o_lnot, o_truth, o_tuple_t, o_tuple_l, o_list_t, o_idx_t, o_all_last, o_tuple_last, MP.isNon, Bool.not_true, Bool.not_false, List.length_append, List.append_assoc,
  truthOf, isTys, isTy, kindD, tyB, gc_self, mkT, mkL, lim, seqOf, Option.map_some, Nat.beq, Bool.or_false, Bool.or_true, decide_eq_true_eq, decide_true, decide_false, Bool.true_and, Bool.true_or, Bool.false_or, Bool.false_and, Bool.and_false, Bool.and_true, if_true, Bool.false_eq_true, if_false, ite_true, ite_false, pe_in_in, pe_in_of, pe_in_is, pe_in_rest, pe_in_pick, pe_in_plus, pe_in_times, pe_in_same, pe_in_less, pe_of_in, pe_of_of, pe_of_is, pe_of_rest, pe_of_pick, pe_of_plus, pe_of_times, pe_of_same, pe_of_less, pe_is_in, pe_is_of, pe_is_is, pe_is_rest, pe_is_pick, pe_is_plus, pe_is_times, pe_is_same, pe_is_less, pe_rest_in, pe_rest_of, pe_rest_is, pe_rest_rest, pe_rest_pick, pe_rest_plus, pe_rest_times, pe_rest_same, pe_rest_less, pe_pick_in, pe_pick_of, pe_pick_is, pe_pick_rest, pe_pick_pick, pe_pick_plus, pe_pick_times, pe_pick_same, pe_pick_less, pe_plus_in, pe_plus_of, pe_plus_is, pe_plus_rest, pe_plus_pick, pe_plus_plus, pe_plus_times, pe_plus_same, pe_plus_less, pe_times_in, pe_times_of, pe_times_is, pe_times_rest, pe_times_pick, pe_times_plus, pe_times_times, pe_times_same, pe_times_less, pe_same_in, pe_same_of, pe_same_is, pe_same_rest, pe_same_pick, pe_same_plus, pe_same_times, pe_same_same, pe_same_less, pe_less_in, pe_less_of, pe_less_is, pe_less_rest, pe_less_pick, pe_less_plus, pe_less_times, pe_less_same, pe_less_less, gi_in, gi_of, gi_is, gi_rest, gi_pick, gi_plus, gi_times, gi_same, gi_less, gg_plus, gg_times, gg_same, gg_less, gg_pick, MP.alloc, io_in, io_of, io_is, io_rest, io_pick, io_plus, io_times, io_same, io_less, lst_l, lst_l1, lst_l2, gc_b, gc_n, gc_i, gc_self, d34, Tm.d, Tm.offs, slc1, List.drop_succ_cons, List.drop_zero, it_tup, r1])))
      exact rl_gc r2 (by simpa [Pa.offs] using r3)
    | rest t m =>
      have l1 := offs_len d t h.1
      obtain ⟨s', p', f', r1, r2, r3⟩ := lp [.tm t, .iv m] (some (.tup [.str "rest", t.d, .int m])) none (stillOf 0 (.tup [t.d, .int m]) .non (st ++ [.lst [.str "in", .str "of"], .lst []])) (fun _ => rfl) (fun t' h' s => by simp at h'; subst h'; exact ih t' h.1 s) (by simp [Pa.offs]; omega)
      simp only [List.map_cons, List.map_nil, Pa.d] at r1
      (((simp (config := {decide := true, maxSteps := 1000000}) (disch := omega) only [Df.fn, Nat.reduceAdd, Nat.reduceSub, Nat.reduceMul, Int.reduceToNat, Int.reduceAdd, Int.reduceSub, Int.reduceMul, Int.reduceNeg, Int.reduceLE, Int.reduceLT, at0, at1, at2, at3, Nat.zero_add, Nat.sub_self, List.map_cons, List.map_nil, List.length_cons, List.length_nil, List.replicate_succ, List.replicate_zero, List.cons_append, List.nil_append, List.append_nil, List.getElem?_cons_zero, List.getElem?_cons_succ, Option.join_some, List.set_cons_zero, List.set_cons_succ,
  onB_bl, onO_bl, bind_ok, out_ok, bind_ite, out_ite, seq_next, seq_ret, seq_ite, end_next, end_ret, end_ite, optO_some, optR_some, x_var, x_cst, x_b2, x_b1, x_sset, x_rg, x_and, x_or, x_ite, x_chain, x_tup, x_lst, x_idx, x_slc, x_call, x_isi, x_gin, x_gget, x_comp, x_nil, x_cons, x_asg, x_asgT, x_par, x_sub, x_app, x_ext, x_expr, x_ret, x_retN, x_ife, x_for, x_pass, x_end, x_seq,
  turn_next, turn_ret, turn_ite, pyEq_int, wipeD, setTgt, setEach,
  o_add_i, o_add_t, o_sub, o_mul_i, o_fdiv, o_mod, o_eq, o_ne, o_lt, o_le, o_gt, o_ge, o_mx, o_mn, o_neg, o_len_t, o_len_l, o_int_i, o_int_b, o_isN, o_notN, o_asI, o_isF, o_lnot, o_truth, o_tuple_t, o_tuple_l, o_list_t, o_idx_t, o_all_last, o_tuple_last, MP.isNon, Bool.not_true, Bool.not_false, List.length_append, List.append_assoc,
  truthOf, isTys, isTy, kindD, tyB, gc_self, mkT, mkL, lim, seqOf, Option.map_some, Nat.beq, Bool.or_false, Bool.or_true, decide_eq_true_eq, decide_true, decide_false, Bool.true_and, Bool.true_or, Bool.false_or, Bool.false_and, Bool.and_false, Bool.and_true, if_true, Bool.false_eq_true, if_false, ite_true, ite_false, pe_in_in, pe_in_of, pe_in_is, pe_in_rest, pe_in_pick, pe_in_plus, pe_in_times, pe_in_same, pe_in_less, pe_of_in, pe_of_of, pe_of_is, pe_of_rest, pe_of_pick, pe_of_plus, pe_of_times, pe_of_same, pe_of_less, pe_is_in, pe_is_of, pe_is_is, pe_is_rest, pe_is_pick, pe_is_plus, pe_is_times, pe_is_same, pe_is_less, pe_rest_in, pe_rest_of, pe_rest_is, pe_rest_rest, pe_rest_pick, pe_rest_plus, pe_rest_times, pe_rest_same, pe_rest_less, pe_pick_in, pe_pick_of, pe_pick_is, pe_pick_rest, pe_pick_pick, pe_pick_plus, pe_pick_times, pe_pick_same, pe_pick_less, pe_plus_in, pe_plus_of, pe_plus_is, pe_plus_rest, pe_plus_pick, pe_plus_plus, pe_plus_times, pe_plus_same, pe_plus_less, pe_times_in, pe_times_of, pe_times_is, pe_times_rest, pe_times_pick, pe_times_plus, pe_times_times, pe_times_same, pe_times_less, pe_same_in, pe_same_of, pe_same_is, pe_same_rest, pe_same_pick, pe_same_plus, pe_same_times, pe_same_same, pe_same_less, pe_less_in, pe_less_of, pe_less_is, pe_less_rest, pe_less_pick, pe_less_plus, pe_less_times, pe_less_same, pe_less_less, gi_in, gi_of, gi_is, gi_rest, gi_pick, gi_plus, gi_times, gi_same, gi_less, gg_plus, gg_times, gg_same, gg_less, gg_pick, MP.alloc, io_in, io_of, io_is, io_rest, io_pick, io_plus, io_times, io_same, io_less, lst_l, lst_l1, lst_l2, gc_b, gc_n, gc_i, gc_self, d34, Tm.d, Tm.offs, slc1, List.drop_succ_cons, List.drop_zero, it_tup, r1])))
      exact rl_gc r2 (by simpa [Pa.offs] using r3)
    | pick a b c =>
      have l1 := offs_len d a h.1
      have l2 := offs_len d b h.2.1
      have l3 := offs_len d c h.2.2
      obtain ⟨s', p', f', r1, r2, r3⟩ := lp [.tm a, .tm b, .tm c] (some (.tup [.str "pick", a.d, b.d, c.d])) none (stillOf 0 (.tup [a.d, b.d, c.d]) .non (st ++ [.lst [.str "in", .str "of"], .lst []])) (fun _ => rfl) (fun t' h' s => by
        simp at h'
        rcases h' with rfl | rfl | rfl
        · exact ih _ h.1 s
        · exact ih _ h.2.1 s
        · exact ih _ h.2.2 s) (by simp [Pa.offs]; omega)
      simp only [List.map_cons, List.map_nil, Pa.d] at r1
      (((simp (config := {decide := true, maxSteps := 1000000}) (disch := omega) only [Df.fn, Nat.reduceAdd, Nat.reduceSub, Nat.reduceMul, Int.reduceToNat, Int.reduceAdd, Int.reduceSub, Int.reduceMul, Int.reduceNeg, Int.reduceLE, Int.reduceLT, at0, at1, at2, at3, Nat.zero_add, Nat.sub_self, List.map_cons, List.map_nil, List.length_cons, List.length_nil, List.replicate_succ, List.replicate_zero, List.cons_append, List.nil_append, List.append_nil, List.getElem?_cons_zero, List.getElem?_cons_succ, Option.join_some, List.set_cons_zero, List.set_cons_succ,
  onB_bl, onO_bl, bind_ok, out_ok, bind_ite, out_ite, seq_next, seq_ret, seq_ite, end_next, end_ret, end_ite, optO_some, optR_some, x_var, x_cst, x_b2, x_b1, x_sset, x_rg, x_and, x_or, x_ite, x_chain, x_tup, x_lst, x_idx, x_slc, x_call, x_isi, x_gin, x_gget, x_comp, x_nil, x_cons, x_asg, x_asgT, x_par, x_sub, x_app, x_ext, x_expr, x_ret, x_retN, x_ife, x_for, x_pass, x_end, x_seq,
  turn_next, turn_ret, turn_ite, pyEq_int, wipeD, setTgt, setEach,
  o_add_i, o_add_t, o_sub, o_mul_i, o_fdiv, o_mod, o_eq, o_ne, o_lt, o_le, o_gt, o_ge, o_mx, o_mn, o_neg, o_len_t, o_len_l, o_int_i, o_int_b, o_isN, o_notN, o_asI, o_isF, o_lnot, o_truth, o_tuple_t, o_tuple_l, o_list_t, o_idx_t, o_all_last, o_tuple_last, MP.isNon, Bool.not_true, Bool.not_false, List.length_append, List.append_assoc,
  truthOf, isTys, isTy, kindD, tyB, gc_self, mkT, mkL, lim, seqOf, Option.map_some, Nat.beq, Bool.or_false, Bool.or_true, decide_eq_true_eq, decide_true, decide_false, Bool.true_and, Bool.true_or, Bool.false_or, Bool.false_and, Bool.and_false, Bool.and_true, if_true, Bool.false_eq_true, if_false, ite_true, ite_false, pe_in_in, pe_in_of, pe_in_is, pe_in_rest, pe_in_pick, pe_in_plus, pe_in_times, pe_in_same, pe_in_less, pe_of_in, pe_of_of, pe_of_is, pe_of_rest, pe_of_pick, pe_of_plus, pe_of_times, pe_of_same, pe_of_less, pe_is_in, pe_is_of, pe_is_is, pe_is_rest, pe_is_pick, pe_is_plus, pe_is_times, pe_is_same, pe_is_less, pe_rest_in, pe_rest_of, pe_rest_is, pe_rest_rest, pe_rest_pick, pe_rest_plus, pe_rest_times, pe_rest_same, pe_rest_less, pe_pick_in, pe_pick_of, pe_pick_is, pe_pick_rest, pe_pick_pick, pe_pick_plus, pe_pick_times, pe_pick_same, pe_pick_less, pe_plus_in, pe_plus_of, pe_plus_is, pe_plus_rest, pe_plus_pick, pe_plus_plus, pe_plus_times, pe_plus_same, pe_plus_less, pe_times_in, pe_times_of, pe_times_is, pe_times_rest, pe_times_pick, pe_times_plus, pe_times_times, pe_times_same, pe_times_less, pe_same_in, pe_same_of, pe_same_is, pe_same_rest, pe_same_pick, pe_same_plus, pe_same_times, pe_same_same, pe_same_less, pe_less_in, pe_less_of, pe_less_is, pe_less_rest, pe_less_pick, pe_less_plus, pe_less_times, pe_less_same, pe_less_less, gi_in, gi_of, gi_is, gi_rest, gi_pick, gi_plus, gi_times, gi_same, gi_less, gg_plus, gg_times, gg_same, gg_less, gg_pick, MP.alloc, io_in, io_of, io_is, io_rest, io_pick, io_plus, io_times, io_same, io_less, lst_l, lst_l1, lst_l2, gc_b, gc_n, gc_i, gc_self, d34, Tm.d, Tm.offs, slc1, List.drop_succ_cons, List.drop_zero, it_tup, r1])))
      exact rl_gc r2 (by simpa [Pa.offs] using r3)
    | two w a b =>
      have l1 := offs_len d a h.1
      have l2 := offs_len d b h.2
      obtain ⟨s', p', f', r1, r2, r3⟩ := lp [.tm a, .tm b] (some (.tup [.str w.s, a.d, b.d])) none (stillOf 0 (.tup [a.d, b.d]) .non (st ++ [.lst [.str "in", .str "of"], .lst []])) (fun _ => rfl) (fun t' h' s => by
        simp at h'
        rcases h' with rfl | rfl
        · exact ih _ h.1 s
        · exact ih _ h.2 s) (by simp [Pa.offs]; omega)
      simp only [List.map_cons, List.map_nil, Pa.d] at r1
      cases w <;> (
        simp only [W2.s] at r1
        (((simp (config := {decide := true, maxSteps := 1000000}) (disch := omega) only [Df.fn, Nat.reduceAdd, Nat.reduceSub, Nat.reduceMul, Int.reduceToNat, Int.reduceAdd, Int.reduceSub, Int.reduceMul, Int.reduceNeg, Int.reduceLE, Int.reduceLT, at0, at1, at2, at3, Nat.zero_add, Nat.sub_self, List.map_cons, List.map_nil, List.length_cons, List.length_nil, List.replicate_succ, List.replicate_zero, List.cons_append, List.nil_append, List.append_nil, List.getElem?_cons_zero, List.getElem?_cons_succ, Option.join_some, List.set_cons_zero, List.set_cons_succ,
  onB_bl, onO_bl, bind_ok, out_ok, bind_ite, out_ite, seq_next, seq_ret, seq_ite, end_next, end_ret, end_ite, optO_some, optR_some, x_var, x_cst, x_b2, x_b1, x_sset, x_rg, x_and, x_or, x_ite, x_chain, x_tup, x_lst, x_idx, x_slc, x_call, x_isi, x_gin, x_gget, x_comp, x_nil, x_cons, x_asg, x_asgT, x_par, x_sub, x_app, x_ext, x_expr, x_ret, x_retN, x_ife, x_for, x_pass, x_end, x_seq,
  turn_next, turn_ret, turn_ite, pyEq_int, wipeD, setTgt, setEach,
  o_add_i, o_add_t, o_sub, o_mul_i, o_fdiv, o_mod, o_eq, o_ne, o_lt, o_le, o_gt, o_ge, o_mx, o_mn, o_neg, o_len_t, o_len_l, o_int_i, o_int_b, o_isN, o_notN, o_asI, o_isF, o_lnot, o_truth, o_tuple_t, o_tuple_l, o_list_t, o_idx_t, o_all_last, o_tuple_last, MP.isNon, Bool.not_true, Bool.not_false, List.length_append, List.append_assoc,
  truthOf, isTys, isTy, kindD, tyB, gc_self, mkT, mkL, lim, seqOf, Option.map_some, Nat.beq, Bool.or_false, Bool.or_true, decide_eq_true_eq, decide_true, decide_false, Bool.true_and, Bool.true_or, Bool.false_or, Bool.false_and, Bool.and_false, Bool.and_true, if_true, Bool.false_eq_true, if_false, ite_true, ite_false, pe_in_in, pe_in_of, pe_in_is, pe_in_rest, pe_in_pick, pe_in_plus, pe_in_times, pe_in_same, pe_in_less, pe_of_in, pe_of_of, pe_of_is, pe_of_rest, pe_of_pick, pe_of_plus, pe_of_times, pe_of_same, pe_of_less, pe_is_in, pe_is_of, pe_is_is, pe_is_rest, pe_is_pick, pe_is_plus, pe_is_times, pe_is_same, pe_is_less, pe_rest_in, pe_rest_of, pe_rest_is, pe_rest_rest, pe_rest_pick, pe_rest_plus, pe_rest_times, pe_rest_same, pe_rest_less, pe_pick_in, pe_pick_of, pe_pick_is, pe_pick_rest, pe_pick_pick, pe_pick_plus, pe_pick_times, pe_pick_same, pe_pick_less, pe_plus_in, pe_plus_of, pe_plus_is, pe_plus_rest, pe_plus_pick, pe_plus_plus, pe_plus_times, pe_plus_same, pe_plus_less, pe_times_in, pe_times_of, pe_times_is, pe_times_rest, pe_times_pick, pe_times_plus, pe_times_times, pe_times_same, pe_times_less, pe_same_in, pe_same_of, pe_same_is, pe_same_rest, pe_same_pick, pe_same_plus, pe_same_times, pe_same_same, pe_same_less, pe_less_in, pe_less_of, pe_less_is, pe_less_rest, pe_less_pick, pe_less_plus, pe_less_times, pe_less_same, pe_less_less, gi_in, gi_of, gi_is, gi_rest, gi_pick, gi_plus, gi_times, gi_same, gi_less, gg_plus, gg_times, gg_same, gg_less, gg_pick, MP.alloc, io_in, io_of, io_is, io_rest, io_pick, io_plus, io_times, io_same, io_less, lst_l, lst_l1, lst_l2, gc_b, gc_n, gc_i, gc_self, d34, Tm.d, W2.s, Tm.offs, slc1, List.drop_succ_cons, List.drop_zero, it_tup, r1])))
        exact rl_gc r2 (by simpa [Pa.offs] using r3))
abbrev lreBody : List CS := [(.asg 1 (.b2 .add (.b2 .add (.var 1) (.call 34 [(.var 2)] [])) (.call 34 [(.var 3)] [])))]
theorem lre_loop {cl : Nat → List D → Sto → R D} {still : Sto → Bool} {A : Option D} (hs : ∀ s, still s = true) : ∀ (es : List (Tm × Tm)) (st s : Sto) (acc : List D) (f : Nat) (p q : Option D), (∀ e ∈ es, (∀ s, RL (cl 34 [e.1.d] s) s (e.1.offs.map .int)) ∧ (∀ s, RL (cl 34 [e.2.d] s) s (e.2.offs.map .int))) →
    Ext st s → s[f]? = some (.lst acc) → acc.length + (aoffs es).length ≤ 1000000 →
    ∃ s' p' q' f', forL still (setTgt false [2, 3]) (evSs cl lreBody) (es.map eqD) [A, some (.loc f), p, q] s = .next [A, some (.loc f'), p', q'] s' ∧ Ext st s' ∧ s'[f']? = some (.lst (acc ++ (aoffs es).map .int))
  | [], st, s, acc, f, p, q, _, h1, h3, _ => ⟨s, p, q, f, for_nil _ _ _ _ _ (hs _), h1, by simpa [aoffs] using h3⟩
  | e :: es, st, s, acc, f, p, q, ht, h1, h3, hl => by
    obtain ⟨t1, t2⟩ := ht e (List.mem_cons_self ..)
    have ea : aoffs (e :: es) = (e.1.offs ++ e.2.offs) ++ aoffs es := rfl
    rw [ea] at hl
    simp only [List.length_append] at hl
    obtain ⟨n1, s1, e1, x1, l1⟩ := t1 s
    have add1 := o_add_l (x1.at h3) l1 (by simp only [List.length_append, List.length_map]; omega)
    obtain ⟨n2, s2, e2, x2, l2⟩ := t2 (s1 ++ [.lst (acc ++ e.1.offs.map .int)])
    have add2 := o_add_l (x2.at (at_last (o := .lst (acc ++ e.1.offs.map .int)))) l2 (by simp only [List.length_append, List.length_map]; omega)
    have x3 : Ext st (s2 ++ [.lst ((acc ++ e.1.offs.map .int) ++ e.2.offs.map .int)]) := (((h1.trans x1).app _).trans x2).app _
    obtain ⟨v1, v2⟩ := gcE_view x3 h1.len [A, some (.loc s2.length), some e.1.d, some e.2.d]
    have v3 := v2 1 _ rfl
    rw [at_last] at v3
    obtain ⟨s', p', q', f', r1, r2, r3⟩ := lre_loop (cl := cl) hs es st _ ((acc ++ e.1.offs.map .int) ++ e.2.offs.map .int) s2.length (some e.1.d) (some e.2.d) (fun t' h' => ht t' (List.mem_cons_of_mem _ h')) v1 v3 (by simp only [List.length_append, List.length_map]; omega)
    refine ⟨s', p', q', f', ?_, r2, by rw [ea]; simpa using r3⟩
    rw [← r1]
    simp only [List.map_cons]
    rw [for_cons _ _ _ _ _ _ _ (hs _)]
    (simp (config := {decide := true, maxSteps := 1000000}) (disch := omega) only [Df.fn, Nat.reduceAdd, Nat.reduceSub, Nat.reduceMul, Int.reduceToNat, Int.reduceAdd, Int.reduceSub, Int.reduceMul, Int.reduceNeg, Int.reduceLE, Int.reduceLT, at0, at1, at2, at3, Nat.zero_add, Nat.sub_self, List.map_cons, List.map_nil, List.length_cons, List.length_nil, List.replicate_succ, List.replicate_zero, List.cons_append, List.nil_append, List.append_nil, List.getElem?_cons_zero, List.getElem?_cons_succ, Option.join_some, List.set_cons_zero, List.set_cons_succ,
  onB_bl, onO_bl, bind_ok, out_ok, bind_ite, out_ite, seq_next, seq_ret, seq_ite, end_next, end_ret, end_ite, optO_some, optR_some, x_var, x_cst, x_b2, x_b1, x_sset, x_rg, x_and, x_or, x_ite, x_chain, x_tup, x_lst, x_idx, x_slc, x_call, x_isi, x_gin, x_gget, x_comp, x_nil, x_cons, x_asg, x_asgT, x_par, x_sub, x_app, x_ext, x_expr, x_ret, x_retN, x_ife, x_for, x_pass, x_end, x_seq,
  turn_next, turn_ret, turn_ite, pyEq_int, wipeD, setTgt, setEach,
  o_add_i, o_add_t, o_sub, o_mul_i, o_fdiv, o_mod, o_eq, o_ne, o_lt, o_le, o_gt, o_ge, o_mx, o_mn, o_neg, o_len_t, o_len_l, o_int_i, o_int_b, o_isN, o_notN, o_asI, o_isF, o_lnot, o_truth, o_tuple_t, o_tuple_l, o_list_t, o_idx_t, o_all_last, o_tuple_last, MP.isNon, Bool.not_true, Bool.not_false, List.length_append, List.append_assoc,
  truthOf, isTys, isTy, kindD, tyB, gc_self, mkT, mkL, lim, seqOf, Option.map_some, Nat.beq, Bool.or_false, Bool.or_true, decide_eq_true_eq, decide_true, decide_false, Bool.true_and, Bool.true_or, Bool.false_or, Bool.false_and, Bool.and_false, Bool.and_true, if_true, Bool.false_eq_true, if_false, ite_true, ite_false, lreBody, eqD, e1, add1])
    simp only [List.append_assoc] at e2 add2 ⊢
    (simp (config := {decide := true, maxSteps := 1000000}) (disch := omega) only [Df.fn, Nat.reduceAdd, Nat.reduceSub, Nat.reduceMul, Int.reduceToNat, Int.reduceAdd, Int.reduceSub, Int.reduceMul, Int.reduceNeg, Int.reduceLE, Int.reduceLT, at0, at1, at2, at3, Nat.zero_add, Nat.sub_self, List.map_cons, List.map_nil, List.length_cons, List.length_nil, List.replicate_succ, List.replicate_zero, List.cons_append, List.nil_append, List.append_nil, List.getElem?_cons_zero, List.getElem?_cons_succ, Option.join_some, List.set_cons_zero, List.set_cons_succ,
  onB_bl, onO_bl, bind_ok, out_ok, bind_ite, out_ite, seq_next, seq_ret, seq_ite, end_next, end_ret, end_ite, optO_some, optR_some, x_var, x_cst, x_b2, x_b1, x_sset, x_rg, x_and, x_or, x_ite, x_chain, x_tup, x_lst, x_idx, x_slc, x_call, x_isi, x_gin, x_gget, x_comp, x_nil, x_cons, x_asg, x_asgT, x_par, x_sub, x_app, x_ext, x_expr, x_ret, x_retN, x_ife, x_for, x_pass, x_end, x_seq,
  turn_next, turn_ret, turn_ite, pyEq_int, wipeD, setTgt, setEach,
  o_add_i, o_add_t, o_sub, o_mul_i, o_fdiv, o_mod, o_eq, o_ne, o_lt, o_le, o_gt, o_ge, o_mx, o_mn, o_neg, o_len_t, o_len_l, o_int_i, o_int_b, o_isN, o_notN, o_asI, o_isF, o_lnot, o_truth, o_tuple_t, o_tuple_l, o_list_t, o_idx_t, o_all_last, o_tuple_last, MP.isNon, Bool.not_true, Bool.not_false, List.length_append, List.append_assoc,
  truthOf, isTys, isTy, kindD, tyB, gc_self, mkT, mkL, lim, seqOf, Option.map_some, Nat.beq, Bool.or_false, Bool.or_true, decide_eq_true_eq, decide_true, decide_false, Bool.true_and, Bool.true_or, Bool.false_or, Bool.false_and, Bool.and_false, Bool.and_true, if_true, Bool.false_eq_true, if_false, ite_true, ite_false, e2, add2])
theorem o_mnl {s : Sto} {n : Nat} {i : Int} {is : List Int} (h : s[n]? = some (.lst ((i :: is).map .int))) : op1 .mnl (.loc n) s = .ok (.int (minI i is)) s := by
  show (match lstAt s n with
    | some xs => (match optAll toI xs with
      | some (i :: is) => R.ok (D.int (minI i is)) s
      | _ => .bad)
    | none => .bad) = _
  rw [lstAt_of h]
  simp only [toI_map (fun x => x), List.map_id']
theorem o_mxl {s : Sto} {n : Nat} {i : Int} {is : List Int} (h : s[n]? = some (.lst ((i :: is).map .int))) : op1 .mxl (.loc n) s = .ok (.int (maxI i is)) s := by
  show (match lstAt s n with
    | some xs => (match optAll toI xs with
      | some (i :: is) => R.ok (D.int (maxI i is)) s
      | _ => .bad)
    | none => .bad) = _
  rw [lstAt_of h]
  simp only [toI_map (fun x => x), List.map_id']
theorem aoffs_len {names : Nat} : ∀ (es : List (Tm × Tm)), (∀ p ∈ es, p.1.ok names 4 ∧ p.2.ok names 4) → (aoffs es).length ≤ 162 * es.length
  | [], _ => by simp [aoffs]
  | e :: es, h => by
    have h1 := h e (List.mem_cons_self ..)
    have l1 := offs_len 4 _ h1.1
    have l2 := offs_len 4 _ h1.2
    have ih := aoffs_len es fun p hp => h p (List.mem_cons_of_mem _ hp)
    have ea : aoffs (e :: es) = (e.1.offs ++ e.2.offs) ++ aoffs es := rfl
    rw [ea]
    simp only [List.length_append, List.length_cons]
    omega
theorem law_reach_ok : ∀ k, 6 ≤ k → ∀ (m : Ml) (st : Sto), m.ok → run tb k 35 [m.d] st = .ok (.tup [.int m.back, .int m.ahead]) st := lift fun k hk m st h => by
  rw [run_succ (f := d35.fn) rfl rfl]
  have l := aoffs_len m.eqs h.eq
  have := h.e3
  obtain ⟨s', p', q', f', r1, ⟨t, r2⟩, r3⟩ := lre_loop (cl := run tb k) (A := some m.d) (still := stillOf 0 (.tup (m.eqs.map eqD)) .non (st ++ [.lst [.int 0]])) (fun _ => rfl) m.eqs st (st ++ [.lst [.int 0]]) [.int 0] st.length none none (fun q hq => by
    obtain ⟨h1, h2⟩ := h.eq q hq
    exact ⟨law_offsets_ok 4 (by omega) k (by omega) q.1 h1, law_offsets_ok 4 (by omega) k (by omega) q.2 h2⟩) ⟨_, rfl⟩ (at_l _ _ _) (by simp; omega)
  have mn := o_mnl (i := 0) (is := aoffs m.eqs) (by simpa using r3)
  have mx := o_mxl (i := 0) (is := aoffs m.eqs) (by simpa using r3)
  rw [minI_bk] at mn
  rw [maxI_ah] at mx
  simp only [Ml.d] at r1
  subst r2
  ((simp (config := {decide := true, maxSteps := 1000000}) (disch := omega) only [Df.fn, Nat.reduceAdd, Nat.reduceSub, Nat.reduceMul, Int.reduceToNat, Int.reduceAdd, Int.reduceSub, Int.reduceMul, Int.reduceNeg, Int.reduceLE, Int.reduceLT, at0, at1, at2, at3, Nat.zero_add, Nat.sub_self, List.map_cons, List.map_nil, List.length_cons, List.length_nil, List.replicate_succ, List.replicate_zero, List.cons_append, List.nil_append, List.append_nil, List.getElem?_cons_zero, List.getElem?_cons_succ, Option.join_some, List.set_cons_zero, List.set_cons_succ,
  onB_bl, onO_bl, bind_ok, out_ok, bind_ite, out_ite, seq_next, seq_ret, seq_ite, end_next, end_ret, end_ite, optO_some, optR_some, x_var, x_cst, x_b2, x_b1, x_sset, x_rg, x_and, x_or, x_ite, x_chain, x_tup, x_lst, x_idx, x_slc, x_call, x_isi, x_gin, x_gget, x_comp, x_nil, x_cons, x_asg, x_asgT, x_par, x_sub, x_app, x_ext, x_expr, x_ret, x_retN, x_ife, x_for, x_pass, x_end, x_seq,
  turn_next, turn_ret, turn_ite, pyEq_int, wipeD, setTgt, setEach,
  o_add_i, o_add_t, o_sub, o_mul_i, o_fdiv, o_mod, o_eq, o_ne, o_lt, o_le, o_gt, o_ge, o_mx, o_mn, o_neg, o_len_t, o_len_l, o_int_i, o_int_b, o_isN, o_notN, o_asI, o_isF, o_lnot, o_truth, o_tuple_t, o_tuple_l, o_list_t, o_idx_t, o_all_last, o_tuple_last, MP.isNon, Bool.not_true, Bool.not_false, List.length_append, List.append_assoc,
  truthOf, isTys, isTy, kindD, tyB, gc_self, mkT, mkL, lim, seqOf, Option.map_some, Nat.beq, Bool.or_false, Bool.or_true, decide_eq_true_eq, decide_true, decide_false, Bool.true_and, Bool.true_or, Bool.false_or, Bool.false_and, Bool.and_false, Bool.and_true, if_true, Bool.false_eq_true, if_false, ite_true, ite_false, toB_map, toB, optAll, all_q, all_tt, List.all_cons, List.all_nil, id, gc_b, gc_n, gc_i, slc1, it_tup, List.drop_succ_cons, List.drop_zero, d35, Ml.d, MP.alloc, r1, mn, mx, Ml.back, Ml.ahead]))
  rw [gc_app _ _ (by rfl)]
  simp
end Lw
/-! ## KM8 -/
set_option Elab.async false
set_option linter.all false
set_option autoImplicit false
set_option maxRecDepth 100000
set_option maxHeartbeats 1000000
namespace Lw
open PySem PySem.Spec PyProof.Rows L2 MP
/-! ### alike -/
def Flat : Nat → D → Prop
  | _, .int _ => True
  | _, .bl _ => True
  | n + 1, .tup xs => xs.length ≤ 1000 ∧ ∀ x ∈ xs, Flat n x
  | _, _ => False
theorem mem_rangeD : ∀ (n : Nat) (lo : Int) (x : D), x ∈ rangeD lo n → ∃ i : Nat, i < n ∧ x = .int (lo + i)
  | 0, _, x, h => by simp [rangeD] at h
  | n + 1, lo, x, h => by
    simp only [rangeD, List.mem_cons] at h
    rcases h with rfl | h
    · exact ⟨0, by omega, by simp⟩
    · obtain ⟨i, hi, rfl⟩ := mem_rangeD n (lo + 1) x h
      exact ⟨i + 1, by omega, by congr 1; omega⟩
theorem it_rng (n : Nat) (y : D) (st : Sto) (h : n ≤ 1000000) : itE 1 (.ok (.int n) st) (fun st => .ok y st) = .ok (.int n, y, rangeD 0 n) st := by
  unfold itE
  simp only [R.bind, itemsOf]
  have e : (decide ((n : Int) ≤ 1000000) && decide (-1000000 ≤ (n : Int))) = true := by simp; omega
  rw [if_pos e]
  rfl
theorem comp_none {still : Sto → Bool} {set : D → Option MP.Env} {cond elt : MP.Env → Sto → R D} {n : Nat} {s0 : Sto} (st : Sto) (xs : List D) (hn : n = st.length) (h0 : s0 = st ++ [.lst []]) (hs : ∀ s : Sto, still s = true)
    (hx : ∀ x ∈ xs, ∃ env, set x = some env ∧ ∀ s : Sto, cond env s = .ok (.bl false) s) (hl : xs.length ≤ 1000000) :
    compL still set cond elt n xs s0 = .ok (.loc n) (st ++ [.lst []]) := by
  rw [h0, compL_pure hn (fun _ => false) id xs [] (fun acc => hs _) (fun x hm => by
    obtain ⟨env, h1, h2⟩ := hx x hm
    exact ⟨env, h1, fun acc => ⟨h2 _, fun z => by cases z⟩⟩) (by simpa using hl)]
  simp
theorem range_len : ∀ (n : Nat) (lo : Int), (rangeD lo n).length = n
  | 0, _ => rfl
  | n + 1, lo => by simp [rangeD, range_len n]
theorem atD_nat (xs : List D) (i : Nat) : atD xs (i : Int) = xs[i]? := by
  unfold atD
  rw [if_pos (by omega)]
  simp
theorem alike_ok : ∀ (n : Nat) (d : D), Flat n d → ∀ k, n + 1 ≤ k → ∀ st, run tb k 36 [d, d] st = .ok (.bl true) st
  | n, .int i, h, k, hk, st => by
    obtain ⟨k, rfl⟩ : ∃ j, k = j + 1 := ⟨k - 1, by omega⟩
    rw [run_succ (f := d36.fn) rfl rfl]
    ((simp (config := {decide := true, maxSteps := 1000000}) (disch := omega) only [Df.fn, Nat.reduceAdd, Nat.reduceSub, Nat.reduceMul, Int.reduceToNat, Int.reduceAdd, Int.reduceSub, Int.reduceMul, Int.reduceNeg, Int.reduceLE, Int.reduceLT, at0, at1, at2, at3, Nat.zero_add, Nat.sub_self, List.map_cons, List.map_nil, List.length_cons, List.length_nil, List.replicate_succ, List.replicate_zero, List.cons_append, List.nil_append, List.append_nil, List.getElem?_cons_zero, List.getElem?_cons_succ, Option.join_some, List.set_cons_zero, List.set_cons_succ,
  onB_bl, onO_bl, bind_ok, out_ok, bind_ite, out_ite, seq_next, seq_ret, seq_ite, end_next, end_ret, end_ite, optO_some, optR_some, x_var, x_cst, x_b2, x_b1, x_sset, x_rg, x_and, x_or, x_ite, x_chain, x_tup, x_lst, x_idx, x_slc, x_call, x_isi, x_gin, x_gget, x_comp, x_nil, x_cons, x_asg, x_asgT, x_par, x_sub, x_app, x_ext, x_expr, x_ret, x_retN, x_ife, x_for, x_pass, x_end, x_seq,
  turn_next, turn_ret, turn_ite, pyEq_int, wipeD, setTgt, setEach,
  o_add_i, o_add_t, o_sub, o_mul_i, o_fdiv, o_mod, o_eq, o_ne, o_lt, o_le, o_gt, o_ge, o_mx, o_mn, o_neg, o_len_t, o_len_l, o_int_i, o_int_b, o_isN, o_notN, o_asI, o_isF, o_lnot, o_truth, o_tuple_t, o_tuple_l, o_list_t, o_idx_t, o_all_last, o_tuple_last, MP.isNon, Bool.not_true, Bool.not_false, List.length_append, List.append_assoc,
  truthOf, isTys, isTy, kindD, tyB, gc_self, mkT, mkL, lim, seqOf, Option.map_some, Nat.beq, Bool.or_false, Bool.or_true, decide_eq_true_eq, decide_true, decide_false, Bool.true_and, Bool.true_or, Bool.false_or, Bool.false_and, Bool.and_false, Bool.and_true, if_true, Bool.false_eq_true, if_false, ite_true, ite_false, toB_map, toB, optAll, all_q, all_tt, List.all_cons, List.all_nil, id, gc_b, gc_n, gc_i, slc1, it_tup, List.drop_succ_cons, List.drop_zero, d36, pyEq_bl, beq_self_eq_true]))
  | n, .bl b, h, k, hk, st => by
    obtain ⟨k, rfl⟩ : ∃ j, k = j + 1 := ⟨k - 1, by omega⟩
    rw [run_succ (f := d36.fn) rfl rfl]
    ((simp (config := {decide := true, maxSteps := 1000000}) (disch := omega) only [Df.fn, Nat.reduceAdd, Nat.reduceSub, Nat.reduceMul, Int.reduceToNat, Int.reduceAdd, Int.reduceSub, Int.reduceMul, Int.reduceNeg, Int.reduceLE, Int.reduceLT, at0, at1, at2, at3, Nat.zero_add, Nat.sub_self, List.map_cons, List.map_nil, List.length_cons, List.length_nil, List.replicate_succ, List.replicate_zero, List.cons_append, List.nil_append, List.append_nil, List.getElem?_cons_zero, List.getElem?_cons_succ, Option.join_some, List.set_cons_zero, List.set_cons_succ,
  onB_bl, onO_bl, bind_ok, out_ok, bind_ite, out_ite, seq_next, seq_ret, seq_ite, end_next, end_ret, end_ite, optO_some, optR_some, x_var, x_cst, x_b2, x_b1, x_sset, x_rg, x_and, x_or, x_ite, x_chain, x_tup, x_lst, x_idx, x_slc, x_call, x_isi, x_gin, x_gget, x_comp, x_nil, x_cons, x_asg, x_asgT, x_par, x_sub, x_app, x_ext, x_expr, x_ret, x_retN, x_ife, x_for, x_pass, x_end, x_seq,
  turn_next, turn_ret, turn_ite, pyEq_int, wipeD, setTgt, setEach,
  o_add_i, o_add_t, o_sub, o_mul_i, o_fdiv, o_mod, o_eq, o_ne, o_lt, o_le, o_gt, o_ge, o_mx, o_mn, o_neg, o_len_t, o_len_l, o_int_i, o_int_b, o_isN, o_notN, o_asI, o_isF, o_lnot, o_truth, o_tuple_t, o_tuple_l, o_list_t, o_idx_t, o_all_last, o_tuple_last, MP.isNon, Bool.not_true, Bool.not_false, List.length_append, List.append_assoc,
  truthOf, isTys, isTy, kindD, tyB, gc_self, mkT, mkL, lim, seqOf, Option.map_some, Nat.beq, Bool.or_false, Bool.or_true, decide_eq_true_eq, decide_true, decide_false, Bool.true_and, Bool.true_or, Bool.false_or, Bool.false_and, Bool.and_false, Bool.and_true, if_true, Bool.false_eq_true, if_false, ite_true, ite_false, toB_map, toB, optAll, all_q, all_tt, List.all_cons, List.all_nil, id, gc_b, gc_n, gc_i, slc1, it_tup, List.drop_succ_cons, List.drop_zero, d36, pyEq_bl, beq_self_eq_true]))
  | 0, .tup xs, h, k, hk, st => by simp [Flat] at h
  | n + 1, .tup xs, h, k, hk, st => by
    obtain ⟨k, rfl⟩ : ∃ j, k = j + 1 := ⟨k - 1, by omega⟩
    rw [run_succ (f := d36.fn) rfl rfl]
    have h : xs.length ≤ 1000 ∧ ∀ x ∈ xs, Flat n x := h
    have it := it_rng xs.length .non st (by omega)
    ((simp (config := {decide := true, maxSteps := 1000000}) (disch := omega) only [Df.fn, Nat.reduceAdd, Nat.reduceSub, Nat.reduceMul, Int.reduceToNat, Int.reduceAdd, Int.reduceSub, Int.reduceMul, Int.reduceNeg, Int.reduceLE, Int.reduceLT, at0, at1, at2, at3, Nat.zero_add, Nat.sub_self, List.map_cons, List.map_nil, List.length_cons, List.length_nil, List.replicate_succ, List.replicate_zero, List.cons_append, List.nil_append, List.append_nil, List.getElem?_cons_zero, List.getElem?_cons_succ, Option.join_some, List.set_cons_zero, List.set_cons_succ,
  onB_bl, onO_bl, bind_ok, out_ok, bind_ite, out_ite, seq_next, seq_ret, seq_ite, end_next, end_ret, end_ite, optO_some, optR_some, x_var, x_cst, x_b2, x_b1, x_sset, x_rg, x_and, x_or, x_ite, x_chain, x_tup, x_lst, x_idx, x_slc, x_call, x_isi, x_gin, x_gget, x_comp, x_nil, x_cons, x_asg, x_asgT, x_par, x_sub, x_app, x_ext, x_expr, x_ret, x_retN, x_ife, x_for, x_pass, x_end, x_seq,
  turn_next, turn_ret, turn_ite, pyEq_int, wipeD, setTgt, setEach,
  o_add_i, o_add_t, o_sub, o_mul_i, o_fdiv, o_mod, o_eq, o_ne, o_lt, o_le, o_gt, o_ge, o_mx, o_mn, o_neg, o_len_t, o_len_l, o_int_i, o_int_b, o_isN, o_notN, o_asI, o_isF, o_lnot, o_truth, o_tuple_t, o_tuple_l, o_list_t, o_idx_t, o_all_last, o_tuple_last, MP.isNon, Bool.not_true, Bool.not_false, List.length_append, List.append_assoc,
  truthOf, isTys, isTy, kindD, tyB, gc_self, mkT, mkL, lim, seqOf, Option.map_some, Nat.beq, Bool.or_false, Bool.or_true, decide_eq_true_eq, decide_true, decide_false, Bool.true_and, Bool.true_or, Bool.false_or, Bool.false_and, Bool.and_false, Bool.and_true, if_true, Bool.false_eq_true, if_false, ite_true, ite_false, toB_map, toB, optAll, all_q, all_tt, List.all_cons, List.all_nil, id, gc_b, gc_n, gc_i, slc1, it_tup, List.drop_succ_cons, List.drop_zero, d36, pyEq_bl, beq_self_eq_true, it]))
    rw [comp_none st (rangeD 0 xs.length) ?_ ?_ ?_ ?_ ?_]
    · ((simp (config := {decide := true, maxSteps := 1000000}) (disch := omega) only [Df.fn, Nat.reduceAdd, Nat.reduceSub, Nat.reduceMul, Int.reduceToNat, Int.reduceAdd, Int.reduceSub, Int.reduceMul, Int.reduceNeg, Int.reduceLE, Int.reduceLT, at0, at1, at2, at3, Nat.zero_add, Nat.sub_self, List.map_cons, List.map_nil, List.length_cons, List.length_nil, List.replicate_succ, List.replicate_zero, List.cons_append, List.nil_append, List.append_nil, List.getElem?_cons_zero, List.getElem?_cons_succ, Option.join_some, List.set_cons_zero, List.set_cons_succ,
  onB_bl, onO_bl, bind_ok, out_ok, bind_ite, out_ite, seq_next, seq_ret, seq_ite, end_next, end_ret, end_ite, optO_some, optR_some, x_var, x_cst, x_b2, x_b1, x_sset, x_rg, x_and, x_or, x_ite, x_chain, x_tup, x_lst, x_idx, x_slc, x_call, x_isi, x_gin, x_gget, x_comp, x_nil, x_cons, x_asg, x_asgT, x_par, x_sub, x_app, x_ext, x_expr, x_ret, x_retN, x_ife, x_for, x_pass, x_end, x_seq,
  turn_next, turn_ret, turn_ite, pyEq_int, wipeD, setTgt, setEach,
  o_add_i, o_add_t, o_sub, o_mul_i, o_fdiv, o_mod, o_eq, o_ne, o_lt, o_le, o_gt, o_ge, o_mx, o_mn, o_neg, o_len_t, o_len_l, o_int_i, o_int_b, o_isN, o_notN, o_asI, o_isF, o_lnot, o_truth, o_tuple_t, o_tuple_l, o_list_t, o_idx_t, o_all_last, o_tuple_last, MP.isNon, Bool.not_true, Bool.not_false, List.length_append, List.append_assoc,
  truthOf, isTys, isTy, kindD, tyB, gc_self, mkT, mkL, lim, seqOf, Option.map_some, Nat.beq, Bool.or_false, Bool.or_true, decide_eq_true_eq, decide_true, decide_false, Bool.true_and, Bool.true_or, Bool.false_or, Bool.false_and, Bool.and_false, Bool.and_true, if_true, Bool.false_eq_true, if_false, ite_true, ite_false, toB_map, toB, optAll, all_q, all_tt, List.all_cons, List.all_nil, id, gc_b, gc_n, gc_i, slc1, it_tup, List.drop_succ_cons, List.drop_zero, MP.alloc]))
      have pe := pyEq_lists (xs := []) (lst_l st _ [.lst []]) (lst_l1 st (.lst []) [] []) (by simp)
      simp only [List.map_nil] at pe
      rw [pe]
      ((simp (config := {decide := true, maxSteps := 1000000}) (disch := omega) only [Df.fn, Nat.reduceAdd, Nat.reduceSub, Nat.reduceMul, Int.reduceToNat, Int.reduceAdd, Int.reduceSub, Int.reduceMul, Int.reduceNeg, Int.reduceLE, Int.reduceLT, at0, at1, at2, at3, Nat.zero_add, Nat.sub_self, List.map_cons, List.map_nil, List.length_cons, List.length_nil, List.replicate_succ, List.replicate_zero, List.cons_append, List.nil_append, List.append_nil, List.getElem?_cons_zero, List.getElem?_cons_succ, Option.join_some, List.set_cons_zero, List.set_cons_succ,
  onB_bl, onO_bl, bind_ok, out_ok, bind_ite, out_ite, seq_next, seq_ret, seq_ite, end_next, end_ret, end_ite, optO_some, optR_some, x_var, x_cst, x_b2, x_b1, x_sset, x_rg, x_and, x_or, x_ite, x_chain, x_tup, x_lst, x_idx, x_slc, x_call, x_isi, x_gin, x_gget, x_comp, x_nil, x_cons, x_asg, x_asgT, x_par, x_sub, x_app, x_ext, x_expr, x_ret, x_retN, x_ife, x_for, x_pass, x_end, x_seq,
  turn_next, turn_ret, turn_ite, pyEq_int, wipeD, setTgt, setEach,
  o_add_i, o_add_t, o_sub, o_mul_i, o_fdiv, o_mod, o_eq, o_ne, o_lt, o_le, o_gt, o_ge, o_mx, o_mn, o_neg, o_len_t, o_len_l, o_int_i, o_int_b, o_isN, o_notN, o_asI, o_isF, o_lnot, o_truth, o_tuple_t, o_tuple_l, o_list_t, o_idx_t, o_all_last, o_tuple_last, MP.isNon, Bool.not_true, Bool.not_false, List.length_append, List.append_assoc,
  truthOf, isTys, isTy, kindD, tyB, gc_self, mkT, mkL, lim, seqOf, Option.map_some, Nat.beq, Bool.or_false, Bool.or_true, decide_eq_true_eq, decide_true, decide_false, Bool.true_and, Bool.true_or, Bool.false_or, Bool.false_and, Bool.and_false, Bool.and_true, if_true, Bool.false_eq_true, if_false, ite_true, ite_false, toB_map, toB, optAll, all_q, all_tt, List.all_cons, List.all_nil, id, gc_b, gc_n, gc_i, slc1, it_tup, List.drop_succ_cons, List.drop_zero]))
    · rfl
    · rfl
    · exact fun _ => rfl
    · intro x hx
      obtain ⟨i, hi, rfl⟩ := mem_rangeD _ _ _ hx
      refine ⟨_, rfl, fun s => ?_⟩
      have e : xs[i]? = some xs[i] := List.getElem?_eq_getElem hi
      have e2 : atD xs (0 + (i : Int)) = some xs[i] := by rw [Int.zero_add, atD_nat]; exact e
      have al := fun s => alike_ok n xs[i] (h.2 _ (List.getElem_mem hi)) k (by omega) s
      (simp (config := {decide := true, maxSteps := 1000000}) (disch := omega) only [Df.fn, Nat.reduceAdd, Nat.reduceSub, Nat.reduceMul, Int.reduceToNat, Int.reduceAdd, Int.reduceSub, Int.reduceMul, Int.reduceNeg, Int.reduceLE, Int.reduceLT, at0, at1, at2, at3, Nat.zero_add, Nat.sub_self, List.map_cons, List.map_nil, List.length_cons, List.length_nil, List.replicate_succ, List.replicate_zero, List.cons_append, List.nil_append, List.append_nil, List.getElem?_cons_zero, List.getElem?_cons_succ, Option.join_some, List.set_cons_zero, List.set_cons_succ,
  onB_bl, onO_bl, bind_ok, out_ok, bind_ite, out_ite, seq_next, seq_ret, seq_ite, end_next, end_ret, end_ite, optO_some, optR_some, x_var, x_cst, x_b2, x_b1, x_sset, x_rg, x_and, x_or, x_ite, x_chain, x_tup, x_lst, x_idx, x_slc, x_call, x_isi, x_gin, x_gget, x_comp, x_nil, x_cons, x_asg, x_asgT, x_par, x_sub, x_app, x_ext, x_expr, x_ret, x_retN, x_ife, x_for, x_pass, x_end, x_seq,
  turn_next, turn_ret, turn_ite, pyEq_int, wipeD, setTgt, setEach,
  o_add_i, o_add_t, o_sub, o_mul_i, o_fdiv, o_mod, o_eq, o_ne, o_lt, o_le, o_gt, o_ge, o_mx, o_mn, o_neg, o_len_t, o_len_l, o_int_i, o_int_b, o_isN, o_notN, o_asI, o_isF, o_lnot, o_truth, o_tuple_t, o_tuple_l, o_list_t, o_idx_t, o_all_last, o_tuple_last, MP.isNon, Bool.not_true, Bool.not_false, List.length_append, List.append_assoc,
  truthOf, isTys, isTy, kindD, tyB, gc_self, mkT, mkL, lim, seqOf, Option.map_some, Nat.beq, Bool.or_false, Bool.or_true, decide_eq_true_eq, decide_true, decide_false, Bool.true_and, Bool.true_or, Bool.false_or, Bool.false_and, Bool.and_false, Bool.and_true, if_true, Bool.false_eq_true, if_false, ite_true, ite_false, e2, al])
    · rw [range_len]; omega
  | _, .non, h, _, _, _ => by simp [Flat] at h
  | _, .str _, h, _, _, _ => by simp [Flat] at h
  | _, .loc _, h, _, _, _ => by simp [Flat] at h
  | _, .fn _, h, _, _, _ => by simp [Flat] at h
/-! ### the row -/
structure RowS (ns : List Int) (st : Sto) : Prop where
  sc : st[0]? = some (.ro (ns.map .int))
  rw : ∃ p q r : Int, 0 ≤ p ∧ st[1]? = some (.lst [.loc 0, .int p, .int q, .int r])
/-- the row has changed -/
def Ch (st s : Sto) : Prop := ∃ p q r : Int, 0 ≤ p ∧ s = st.set 1 (.lst [.loc 0, .int p, .int q, .int r])
theorem RowS.two {ns : List Int} {st : Sto} (h : RowS ns st) : 1 < st.length := by
  obtain ⟨p, q, r, _, e⟩ := h.rw
  exact (List.getElem?_eq_some_iff.mp e).1
theorem RowS.refl {ns : List Int} {st : Sto} (h : RowS ns st) : Ch st st := by
  obtain ⟨p, q, r, h0, e⟩ := h.rw
  refine ⟨p, q, r, h0, ?_⟩
  apply List.ext_getElem?
  intro i
  rw [List.getElem?_set]
  split
  · rename_i z
    subst z
    rw [if_pos h.two, e]
  · rfl
theorem Ch.row {ns : List Int} {st s : Sto} (h : RowS ns st) (c : Ch st s) : RowS ns s := by
  obtain ⟨p, q, r, h0, rfl⟩ := c
  refine ⟨?_, p, q, r, h0, List.getElem?_set_self h.two⟩
  rw [List.getElem?_set_ne (by omega)]
  exact h.sc
theorem Ch.trans {a b c : Sto} (h : Ch a b) (k : Ch b c) : Ch a c := by
  obtain ⟨p, q, r, _, rfl⟩ := h
  obtain ⟨p', q', r', h0, rfl⟩ := k
  exact ⟨p', q', r', h0, by rw [List.set_set]⟩
theorem Ch.len {a b : Sto} (h : Ch a b) : b.length = a.length := by
  obtain ⟨p, q, r, _, rfl⟩ := h
  simp
theorem Ch.at {a b : Sto} (h : Ch a b) {n : Nat} (hn : n ≠ 1) : b[n]? = a[n]? := by
  obtain ⟨p, q, r, _, rfl⟩ := h
  rw [List.getElem?_set_ne (by omega)]
theorem keeps_ch {st : Sto} (h2 : 1 < st.length) {o : O} (hu : O.und st.length o = true) (t : Sto) : keepsOk st.length st (st.set 1 o ++ t) = true := by
  match st, h2 with
  | a :: b :: r, _ =>
    simp only [List.set_cons_succ, List.set_cons_zero, List.cons_append, keepsOk, O.eqb_refl, hu, Bool.or_true, Bool.true_or, Bool.true_and, keepsOk_app]
theorem gc_ch {st s : Sto} (h2 : 1 < st.length) (c : Ch st s) (t : Sto) {d : D} (hd : d.und st.length = true) : gc st (s ++ t) d = s := by
  obtain ⟨p, q, r, _, rfl⟩ := c
  have hu : O.und st.length (.lst [.loc 0, .int p, .int q, .int r]) = true := by
    simp only [O.und, D.unds, D.und, Bool.and_true]
    exact Nat.blt_eq.mpr (by omega)
  unfold gc
  rw [if_pos (by rw [hd, keeps_ch h2 hu]; rfl)]
  rw [List.take_left' (by simp)]
theorem gc_ch0 {st s : Sto} (h2 : 1 < st.length) (c : Ch st s) {d : D} (hd : d.und st.length = true) : gc st s d = s := by
  have := gc_ch h2 c [] hd
  rwa [List.append_nil] at this
theorem o_pow18 (s : Sto) : op2 .pow (.int 10) (.int 18) s = .ok (.int 1000000000000000000) s := rfl
theorem big48 : bigI 48271 = true := by decide
/-- the row with these in it -/
structure RowF (ns : List Int) (st : Sto) (S : Int → Int → Int → Sto) : Prop where
  eq : ∀ p q r, S p q r = st.set 1 (.lst [.loc 0, .int p, .int q, .int r])
  idx : ∀ p q r i, opIdx (.loc 1) (.int i) (S p q r) = optR (atD [.loc 0, .int p, .int q, .int r] i) fun d => .ok d (S p q r)
  sc : ∀ p q r i, opIdx (.loc 0) (.int i) (S p q r) = optR (atD (ns.map .int) i) fun d => .ok d (S p q r)
  len : ∀ p q r, lstAt (S p q r) 0 = some (ns.map .int)
  p1 : ∀ p q r v, MP.putAt (.loc 1) (.int 1) (.int v) (S p q r) = some (S v q r)
  p2 : ∀ p q r v, MP.putAt (.loc 1) (.int 2) (.int v) (S p q r) = some (S p v r)
  p3 : ∀ p q r v, MP.putAt (.loc 1) (.int 3) (.int v) (S p q r) = some (S p q v)
theorem rowF {ns : List Int} {st : Sto} (h : RowS ns st) : ∃ S, RowF ns st S := by
  have two := h.two
  refine ⟨fun p q r => st.set 1 (.lst [.loc 0, .int p, .int q, .int r]), fun _ _ _ => rfl, fun p q r i => ?_, fun p q r i => ?_, fun p q r => ?_, fun p q r v => ?_, fun p q r v => ?_, fun p q r v => ?_⟩
  · exact o_idx_l _ i _ (lstAt_of (List.getElem?_set_self two))
  · refine o_idx_l _ i _ ?_
    simp only [lstAt]
    rw [List.getElem?_set_ne (by omega), h.sc]
  · simp only [lstAt]
    rw [List.getElem?_set_ne (by omega), h.sc]
  · simp only [MP.putAt, List.getElem?_set_self two]
    simp [ixD, List.set_set]
  · simp only [MP.putAt, List.getElem?_set_self two]
    simp [ixD, List.set_set]
  · simp only [MP.putAt, List.getElem?_set_self two]
    simp [ixD, List.set_set]
theorem taken_ok {ns : List Int} (hn : ns.length ≤ 63) : ∀ k, 1 ≤ k → ∀ (many : Int) (st : Sto), 1 ≤ many → many ≤ 1000000 → RowS ns st → ∃ (v : Int) (s : Sto), run tb k 30 [.loc 1, .int many] st = .ok (.int v) s ∧ 0 ≤ v ∧ v < many ∧ Ch st s := lift fun k hk many st h1 h2 hr => by
  rw [run_succ (f := d30.fn) rfl rfl]
  obtain ⟨S, F⟩ := rowF hr
  obtain ⟨p, q, r, h0, hrow⟩ := hr.rw
  have est : S p q r = st := by
    rw [F.eq]
    apply List.ext_getElem?
    intro i
    rw [List.getElem?_set]
    split
    · rename_i z
      subst z
      rw [if_pos hr.two, hrow]
    · rfl
  have em : (0 < many) = True := eq_true (by omega)
  have ed : (many < 1073741824) = True := eq_true (by omega)
  have md := fun x : Int => (⟨Int.emod_nonneg x (by omega), Int.emod_lt_of_pos x (by omega)⟩ : 0 ≤ x % many ∧ x % many < many)
  have ch : ∀ p q r, 0 ≤ p → Ch st (S p q r) := fun p q r h => ⟨p, q, r, h, F.eq p q r⟩
  have gcS : ∀ p q r v, 0 ≤ p → gc (S p q r) (S p q r) (.int v) = S p q r := fun p q r v h => gc_self _ _
  have gcS : ∀ p q r v, 0 ≤ p → gc st (S p q r) (.int v) = S p q r := fun p q r v h => gc_ch0 hr.two (ch p q r h) rfl
  by_cases hr0 : 0 < r
  · refine ⟨r % many, S p q (r / many), ?_, (md r).1, (md r).2, ch _ _ _ h0⟩
    rw [← gcS p q (r / many) (r % many) h0]
    conv => lhs; rw [← est]
    (simp (config := {decide := true, maxSteps := 1000000}) (disch := omega) only [Df.fn, Nat.reduceAdd, Nat.reduceSub, Nat.reduceMul, Int.reduceToNat, Int.reduceAdd, Int.reduceSub, Int.reduceMul, Int.reduceNeg, Int.reduceLE, Int.reduceLT, at0, at1, at2, at3, Nat.zero_add, Nat.sub_self, List.map_cons, List.map_nil, List.length_cons, List.length_nil, List.replicate_succ, List.replicate_zero, List.cons_append, List.nil_append, List.append_nil, List.getElem?_cons_zero, List.getElem?_cons_succ, Option.join_some, List.set_cons_zero, List.set_cons_succ,
  onB_bl, onO_bl, bind_ok, out_ok, bind_ite, out_ite, seq_next, seq_ret, seq_ite, end_next, end_ret, end_ite, optO_some, optR_some, x_var, x_cst, x_b2, x_b1, x_sset, x_rg, x_and, x_or, x_ite, x_chain, x_tup, x_lst, x_idx, x_slc, x_call, x_isi, x_gin, x_gget, x_comp, x_nil, x_cons, x_asg, x_asgT, x_par, x_sub, x_app, x_ext, x_expr, x_ret, x_retN, x_ife, x_for, x_pass, x_end, x_seq,
  turn_next, turn_ret, turn_ite, pyEq_int, wipeD, setTgt, setEach,
  o_add_i, o_add_t, o_sub, o_mul_i, o_fdiv, o_mod, o_eq, o_ne, o_lt, o_le, o_gt, o_ge, o_mx, o_mn, o_neg, o_len_t, o_len_l, o_int_i, o_int_b, o_isN, o_notN, o_asI, o_isF, o_lnot, o_truth, o_tuple_t, o_tuple_l, o_list_t, o_idx_t, o_all_last, o_tuple_last, MP.isNon, Bool.not_true, Bool.not_false, List.length_append, List.append_assoc,
  truthOf, isTys, isTy, kindD, tyB, gc_self, mkT, mkL, lim, seqOf, Option.map_some, Nat.beq, Bool.or_false, Bool.or_true, decide_eq_true_eq, decide_true, decide_false, Bool.true_and, Bool.true_or, Bool.false_or, Bool.false_and, Bool.and_false, Bool.and_true, if_true, Bool.false_eq_true, if_false, ite_true, ite_false, d30, F.idx, F.p3, hr0, em, ed])
    rw [est]
  · by_cases hp : (ns.length : Int) < p + 1
    · refine ⟨(q * 48271 + 11) % 2147483647 / 7 % many, S (p + 1) ((q * 48271 + 11) % 2147483647) r, ?_, (md _).1, (md _).2, ch _ _ _ (by omega)⟩
      rw [← gcS (p + 1) ((q * 48271 + 11) % 2147483647) r ((q * 48271 + 11) % 2147483647 / 7 % many) (by omega)]
      conv => lhs; rw [← est]
      (simp (config := {decide := true, maxSteps := 1000000}) (disch := omega) only [Df.fn, Nat.reduceAdd, Nat.reduceSub, Nat.reduceMul, Int.reduceToNat, Int.reduceAdd, Int.reduceSub, Int.reduceMul, Int.reduceNeg, Int.reduceLE, Int.reduceLT, at0, at1, at2, at3, Nat.zero_add, Nat.sub_self, List.map_cons, List.map_nil, List.length_cons, List.length_nil, List.replicate_succ, List.replicate_zero, List.cons_append, List.nil_append, List.append_nil, List.getElem?_cons_zero, List.getElem?_cons_succ, Option.join_some, List.set_cons_zero, List.set_cons_succ,
  onB_bl, onO_bl, bind_ok, out_ok, bind_ite, out_ite, seq_next, seq_ret, seq_ite, end_next, end_ret, end_ite, optO_some, optR_some, x_var, x_cst, x_b2, x_b1, x_sset, x_rg, x_and, x_or, x_ite, x_chain, x_tup, x_lst, x_idx, x_slc, x_call, x_isi, x_gin, x_gget, x_comp, x_nil, x_cons, x_asg, x_asgT, x_par, x_sub, x_app, x_ext, x_expr, x_ret, x_retN, x_ife, x_for, x_pass, x_end, x_seq,
  turn_next, turn_ret, turn_ite, pyEq_int, wipeD, setTgt, setEach,
  o_add_i, o_add_t, o_sub, o_mul_i, o_fdiv, o_mod, o_eq, o_ne, o_lt, o_le, o_gt, o_ge, o_mx, o_mn, o_neg, o_len_t, o_len_l, o_int_i, o_int_b, o_isN, o_notN, o_asI, o_isF, o_lnot, o_truth, o_tuple_t, o_tuple_l, o_list_t, o_idx_t, o_all_last, o_tuple_last, MP.isNon, Bool.not_true, Bool.not_false, List.length_append, List.append_assoc,
  truthOf, isTys, isTy, kindD, tyB, gc_self, mkT, mkL, lim, seqOf, Option.map_some, Nat.beq, Bool.or_false, Bool.or_true, decide_eq_true_eq, decide_true, decide_false, Bool.true_and, Bool.true_or, Bool.false_or, Bool.false_and, Bool.and_false, Bool.and_true, if_true, Bool.false_eq_true, if_false, ite_true, ite_false, d30, F.idx, F.p1, F.p2, F.sc, F.len, hr0, em, ed, hp, big48, List.length_map])
      rw [est]
    · obtain ⟨c, hc⟩ : ∃ c, atD (ns.map D.int) (p + 1 - 1) = some (.int c) := by
        have e : p + 1 - 1 = ((p.toNat : Nat) : Int) := by omega
        rw [e, atD_nat, List.getElem?_map]
        have : p.toNat < ns.length := by omega
        exact ⟨ns[p.toNat], by rw [List.getElem?_eq_getElem this]; rfl⟩
      by_cases hb : 1000000000000000000 ≤ c
      · refine ⟨c % many, S (p + 1) ((q * 48271 + c + 11) % 2147483647) (c / many), ?_, (md _).1, (md _).2, ch _ _ _ (by omega)⟩
        rw [← gcS (p + 1) ((q * 48271 + c + 11) % 2147483647) (c / many) (c % many) (by omega)]
        conv => lhs; rw [← est]
        (simp (config := {decide := true, maxSteps := 1000000}) (disch := omega) only [Df.fn, Nat.reduceAdd, Nat.reduceSub, Nat.reduceMul, Int.reduceToNat, Int.reduceAdd, Int.reduceSub, Int.reduceMul, Int.reduceNeg, Int.reduceLE, Int.reduceLT, at0, at1, at2, at3, Nat.zero_add, Nat.sub_self, List.map_cons, List.map_nil, List.length_cons, List.length_nil, List.replicate_succ, List.replicate_zero, List.cons_append, List.nil_append, List.append_nil, List.getElem?_cons_zero, List.getElem?_cons_succ, Option.join_some, List.set_cons_zero, List.set_cons_succ,
  onB_bl, onO_bl, bind_ok, out_ok, bind_ite, out_ite, seq_next, seq_ret, seq_ite, end_next, end_ret, end_ite, optO_some, optR_some, x_var, x_cst, x_b2, x_b1, x_sset, x_rg, x_and, x_or, x_ite, x_chain, x_tup, x_lst, x_idx, x_slc, x_call, x_isi, x_gin, x_gget, x_comp, x_nil, x_cons, x_asg, x_asgT, x_par, x_sub, x_app, x_ext, x_expr, x_ret, x_retN, x_ife, x_for, x_pass, x_end, x_seq,
  turn_next, turn_ret, turn_ite, pyEq_int, wipeD, setTgt, setEach,
  o_add_i, o_add_t, o_sub, o_mul_i, o_fdiv, o_mod, o_eq, o_ne, o_lt, o_le, o_gt, o_ge, o_mx, o_mn, o_neg, o_len_t, o_len_l, o_int_i, o_int_b, o_isN, o_notN, o_asI, o_isF, o_lnot, o_truth, o_tuple_t, o_tuple_l, o_list_t, o_idx_t, o_all_last, o_tuple_last, MP.isNon, Bool.not_true, Bool.not_false, List.length_append, List.append_assoc,
  truthOf, isTys, isTy, kindD, tyB, gc_self, mkT, mkL, lim, seqOf, Option.map_some, Nat.beq, Bool.or_false, Bool.or_true, decide_eq_true_eq, decide_true, decide_false, Bool.true_and, Bool.true_or, Bool.false_or, Bool.false_and, Bool.and_false, Bool.and_true, if_true, Bool.false_eq_true, if_false, ite_true, ite_false, d30, F.idx, F.p1, F.p2, F.p3, F.sc, F.len, hr0, em, ed, hp, big48, List.length_map, hc, o_pow18, hb])
        rw [est]
      · refine ⟨c % many, S (p + 1) ((q * 48271 + c + 11) % 2147483647) r, ?_, (md _).1, (md _).2, ch _ _ _ (by omega)⟩
        rw [← gcS (p + 1) ((q * 48271 + c + 11) % 2147483647) r (c % many) (by omega)]
        conv => lhs; rw [← est]
        (simp (config := {decide := true, maxSteps := 1000000}) (disch := omega) only [Df.fn, Nat.reduceAdd, Nat.reduceSub, Nat.reduceMul, Int.reduceToNat, Int.reduceAdd, Int.reduceSub, Int.reduceMul, Int.reduceNeg, Int.reduceLE, Int.reduceLT, at0, at1, at2, at3, Nat.zero_add, Nat.sub_self, List.map_cons, List.map_nil, List.length_cons, List.length_nil, List.replicate_succ, List.replicate_zero, List.cons_append, List.nil_append, List.append_nil, List.getElem?_cons_zero, List.getElem?_cons_succ, Option.join_some, List.set_cons_zero, List.set_cons_succ,
  onB_bl, onO_bl, bind_ok, out_ok, bind_ite, out_ite, seq_next, seq_ret, seq_ite, end_next, end_ret, end_ite, optO_some, optR_some, x_var, x_cst, x_b2, x_b1, x_sset, x_rg, x_and, x_or, x_ite, x_chain, x_tup, x_lst, x_idx, x_slc, x_call, x_isi, x_gin, x_gget, x_comp, x_nil, x_cons, x_asg, x_asgT, x_par, x_sub, x_app, x_ext, x_expr, x_ret, x_retN, x_ife, x_for, x_pass, x_end, x_seq,
  turn_next, turn_ret, turn_ite, pyEq_int, wipeD, setTgt, setEach,
  o_add_i, o_add_t, o_sub, o_mul_i, o_fdiv, o_mod, o_eq, o_ne, o_lt, o_le, o_gt, o_ge, o_mx, o_mn, o_neg, o_len_t, o_len_l, o_int_i, o_int_b, o_isN, o_notN, o_asI, o_isF, o_lnot, o_truth, o_tuple_t, o_tuple_l, o_list_t, o_idx_t, o_all_last, o_tuple_last, MP.isNon, Bool.not_true, Bool.not_false, List.length_append, List.append_assoc,
  truthOf, isTys, isTy, kindD, tyB, gc_self, mkT, mkL, lim, seqOf, Option.map_some, Nat.beq, Bool.or_false, Bool.or_true, decide_eq_true_eq, decide_true, decide_false, Bool.true_and, Bool.true_or, Bool.false_or, Bool.false_and, Bool.and_false, Bool.and_true, if_true, Bool.false_eq_true, if_false, ite_true, ite_false, d30, F.idx, F.p1, F.p2, F.p3, F.sc, F.len, hr0, em, ed, hp, big48, List.length_map, hc, o_pow18, hb])
        rw [est]
end Lw
/-! ## KM9 -/
set_option Elab.async false
set_option linter.all false
set_option autoImplicit false
set_option maxRecDepth 100000
set_option maxHeartbeats 1000000
namespace Lw
open PySem PySem.Spec PyProof.Rows L2 MP
theorem gc_same {st s : Sto} (h : s.length = st.length) (d : D) : gc st s d = s := by
  unfold gc
  split
  · rw [← h]; simp
  · rfl
/-- the row has changed, things are new -/
def Chx (st s : Sto) : Prop := ∃ s0 t, Ch st s0 ∧ s = s0 ++ t
theorem Chx.of {st s : Sto} (h : Ch st s) : Chx st s := ⟨s, [], h, by simp⟩
theorem Chx.app {st s : Sto} (h : Chx st s) (u : Sto) : Chx st (s ++ u) := by
  obtain ⟨s0, t, h1, rfl⟩ := h
  exact ⟨s0, t ++ u, h1, by simp⟩
theorem Chx.row {ns : List Int} {st s : Sto} (h : RowS ns st) (c : Chx st s) : RowS ns s := by
  obtain ⟨s0, t, h1, rfl⟩ := c
  have h2 := h1.row h
  obtain ⟨p, q, r, h0, e⟩ := h2.rw
  exact ⟨by rw [List.getElem?_append_left (by have := h2.two; omega)]; exact h2.sc, p, q, r, h0, by rw [List.getElem?_append_left h2.two]; exact e⟩
theorem Chx.ch {ns : List Int} {st s s' : Sto} (h : RowS ns st) (c : Chx st s) (k : Ch s s') : Chx st s' := by
  obtain ⟨s0, t, h1, rfl⟩ := c
  obtain ⟨p, q, r, h0, rfl⟩ := k
  have two := (h1.row h).two
  exact ⟨s0.set 1 (.lst [.loc 0, .int p, .int q, .int r]), t, h1.trans ⟨p, q, r, h0, rfl⟩, by rw [List.set_append_left _ _ two]⟩
theorem Chx.len {st s : Sto} (c : Chx st s) : st.length ≤ s.length := by
  obtain ⟨s0, t, h1, rfl⟩ := c
  have := h1.len
  simp; omega
theorem Chx.set {st s : Sto} (c : Chx st s) {n : Nat} (hn : st.length ≤ n) (o : O) : Chx st (s.set n o) := by
  obtain ⟨s0, t, h1, rfl⟩ := c
  have := h1.len
  exact ⟨s0, t.set (n - s0.length) o, h1, by rw [List.set_append_right _ _ (by omega)]⟩
theorem Chx.pre {a b s : Sto} (h : Ch a b) (c : Chx b s) : Chx a s := by
  obtain ⟨s0, t, h1, e⟩ := c
  exact ⟨s0, t, h.trans h1, e⟩
/-- the end of a call -/
theorem Chx.end {ns : List Int} {st s : Sto} (h : RowS ns st) (c : Chx st s) {d : D} (hd : d.und st.length = true) : ∃ s0, gc st s d = s0 ∧ Ch st s0 := by
  obtain ⟨s0, t, h1, rfl⟩ := c
  exact ⟨s0, gc_ch h.two h1 t hd, h1⟩
theorem Chx.take {st s : Sto} (c : Chx st s) {n : Nat} (hn : st.length ≤ n) : Chx st (s.take n) := by
  obtain ⟨s0, t, h1, rfl⟩ := c
  have := h1.len
  exact ⟨s0, t.take (n - s0.length), h1, by rw [List.take_append, List.take_of_length_le (by omega)]⟩
theorem gcE_viewC {st s s2 : Sto} (h : Chx st s2) (hl : st.length ≤ s.length) (env : MP.Env) : Chx st (gcE s s2 env) ∧ ∀ i n : Nat, env[i]? = some (some (.loc n)) → (gcE s s2 env)[n]? = s2[n]? := by
  unfold gcE
  split
  · rename_i c
    simp only [Bool.and_eq_true] at c
    refine ⟨h.take hl, fun i n e => ?_⟩
    have := envUnd_loc c.1 e
    rw [List.getElem?_take, if_pos this]
  · exact ⟨h, fun _ _ _ => rfl⟩
theorem pick_ok {ns : List Int} (hn : ns.length ≤ 63) : ∀ k, 2 ≤ k → ∀ (n : Nat) (xs : List D) (st : Sto), RowS ns st → n ≠ 1 → st[n]? = some (.lst xs) → 1 ≤ xs.length → xs.length ≤ 1000000 →
    ∃ (x : D) (s : Sto), run tb k 31 [.loc 1, .loc n] st = .ok x s ∧ x ∈ xs ∧ Ch st s := lift fun k hk n xs st h hn1 hx h1 h2 => by
  rw [run_succ (f := d31.fn) rfl rfl]
  obtain ⟨v, s, e, v1, v2, c⟩ := taken_ok hn k (by omega) xs.length st (by omega) (by omega) h
  have hv : v.toNat < xs.length := by omega
  have hat : atD xs v = some xs[v.toNat] := by
    unfold atD
    rw [if_pos v1]
    exact List.getElem?_eq_getElem hv
  have ll := lstAt_of hx
  have ix := o_idx_l s v xs (lstAt_of (by rw [c.at hn1]; exact hx))
  refine ⟨xs[v.toNat], s, ?_, List.getElem_mem hv, c⟩
  (simp (config := {decide := true, maxSteps := 1000000}) (disch := omega) only [Df.fn, Nat.reduceAdd, Nat.reduceSub, Nat.reduceMul, Int.reduceToNat, Int.reduceAdd, Int.reduceSub, Int.reduceMul, Int.reduceNeg, Int.reduceLE, Int.reduceLT, at0, at1, at2, at3, Nat.zero_add, Nat.sub_self, List.map_cons, List.map_nil, List.length_cons, List.length_nil, List.replicate_succ, List.replicate_zero, List.cons_append, List.nil_append, List.append_nil, List.getElem?_cons_zero, List.getElem?_cons_succ, Option.join_some, List.set_cons_zero, List.set_cons_succ,
  onB_bl, onO_bl, bind_ok, out_ok, bind_ite, out_ite, seq_next, seq_ret, seq_ite, end_next, end_ret, end_ite, optO_some, optR_some, x_var, x_cst, x_b2, x_b1, x_sset, x_rg, x_and, x_or, x_ite, x_chain, x_tup, x_lst, x_idx, x_slc, x_call, x_isi, x_gin, x_gget, x_comp, x_nil, x_cons, x_asg, x_asgT, x_par, x_sub, x_app, x_ext, x_expr, x_ret, x_retN, x_ife, x_for, x_pass, x_end, x_seq,
  turn_next, turn_ret, turn_ite, pyEq_int, wipeD, setTgt, setEach,
  o_add_i, o_add_t, o_sub, o_mul_i, o_fdiv, o_mod, o_eq, o_ne, o_lt, o_le, o_gt, o_ge, o_mx, o_mn, o_neg, o_len_t, o_len_l, o_int_i, o_int_b, o_isN, o_notN, o_asI, o_isF, o_lnot, o_truth, o_tuple_t, o_tuple_l, o_list_t, o_idx_t, o_all_last, o_tuple_last, MP.isNon, Bool.not_true, Bool.not_false, List.length_append, List.append_assoc,
  truthOf, isTys, isTy, kindD, tyB, gc_self, mkT, mkL, lim, seqOf, Option.map_some, Nat.beq, Bool.or_false, Bool.or_true, decide_eq_true_eq, decide_true, decide_false, Bool.true_and, Bool.true_or, Bool.false_or, Bool.false_and, Bool.and_false, Bool.and_true, if_true, Bool.false_eq_true, if_false, ite_true, ite_false, d31, ll, e, ix, hat])
  rw [gc_same c.len]
/-- a row of parts that is made from the row -/
theorem comp_row {ns : List Int} {st : Sto} (hst : RowS ns st) {still : Sto → Bool} {set : D → Option MP.Env} {cl : Nat → List D → Sto → R D} {elt : MP.Env → Sto → R D} {n : Nat} (P : D → Prop) (hs : ∀ s, still s = true) (hn : st.length ≤ n) :
    ∀ (xs : List D) (s : Sto) (acc : List D), (∀ x ∈ xs, ∃ env, set x = some env ∧ ∀ s, Chx st s → n < s.length → ∃ y s', elt env s = .ok y s' ∧ P y ∧ Ch s s') → Chx st s → s[n]? = some (.lst acc) → acc.length + xs.length ≤ 1000000 →
    ∃ ys s', compL still set (evE cl (.cst (.bl true))) elt n xs s = .ok (.loc n) s' ∧ ys.length = xs.length ∧ (∀ y ∈ ys, P y) ∧ s'[n]? = some (.lst (acc ++ ys)) ∧ Chx st s'
  | [], s, acc, _, c, ha, _ => ⟨[], s, by unfold compL; rw [if_pos (hs _)], rfl, by simp, by simpa using ha, c⟩
  | x :: xs, s, acc, hx, c, ha, hl => by
    obtain ⟨env, h1, h2⟩ := hx x (List.mem_cons_self ..)
    have nl : n < s.length := (List.getElem?_eq_some_iff.mp ha).1
    obtain ⟨y, s', e, py, cy⟩ := h2 s c nl
    have two := hst.two
    have ha' : s'[n]? = some (.lst acc) := by rw [cy.at (by omega)]; exact ha
    have c' := c.ch hst cy
    obtain ⟨ys, s2, r1, r2, r3, r4, r5⟩ := comp_row hst P hs hn (cl := cl) (elt := elt) xs (s'.set n (.lst (acc ++ [y]))) (acc ++ [y]) (fun x' h' => hx x' (List.mem_cons_of_mem _ h')) (c'.set hn _)
      (List.getElem?_set_self (by rw [cy.len]; exact nl)) (by simp at hl ⊢; omega)
    refine ⟨y :: ys, s2, ?_, by simp [r2], fun z hz => ?_, by simpa using r4, r5⟩
    · rw [compL, if_pos (hs _)]
      simp only [h1, x_cst, gc_self, e, gc_same cy.len, ha']
      rw [if_pos (by unfold lim; simp at hl; omega), r1]
    · rcases List.mem_cons.mp hz with rfl | hz
      · exact py
      · exact r3 z hz
theorem term_ok {ns : List Int} (hn : ns.length ≤ 63) {names : Nat} (n1 : 1 ≤ names) (n3 : names ≤ 3) : ∀ (d : Nat), d ≤ 4 → ∀ k, d + 3 ≤ k → 1 ≤ d → ∀ st, RowS ns st → ∃ (t : Tm) (s : Sto), run tb k 32 [.loc 1, .int names, .int d] st = .ok t.d s ∧ t.ok names d ∧ Ch st s
  | 0, _, k, hk, h, st, hr => by omega
  | d + 1, hd, k, hk, _, st, hr => by
    obtain ⟨k, rfl⟩ : ∃ j, k = j + 1 := ⟨k - 1, by omega⟩
    rw [run_succ (f := d32.fn) rfl rfl]
    have ih := term_ok hn n1 n3 d (by omega) k (by omega)
    have e1 : ((d + 1 : Nat) : Int) - 1 = (d : Int) := by omega
    have many : ∃ m : Int, (m = 9 ∧ 1 ≤ d ∨ m = 3 ∧ d = 0) ∧ (if 1 < ((d + 1 : Nat) : Int) then (9 : Int) else 3) = m := by
      by_cases h : 1 < ((d + 1 : Nat) : Int)
      · exact ⟨9, .inl ⟨rfl, by omega⟩, if_pos h⟩
      · exact ⟨3, .inr ⟨rfl, by omega⟩, if_neg h⟩
    obtain ⟨m, hm, em⟩ := many
    have em2 : ∀ s : Sto, (if 1 < ((d + 1 : Nat) : Int) then (R.ok (D.int 9) s : R D) else .ok (.int 3) s) = .ok (.int m) s := by
      intro s
      rw [← em]
      split <;> rfl
    obtain ⟨v, s1, t1, v0, v1, c1⟩ := taken_ok hn k (by omega) m st (by omega) (by omega) hr
    have r1 := c1.row hr
    by_cases w0 : v = 0
    · subst w0
      obtain ⟨x, s2, p1, p2, p3⟩ := pick_ok hn k (by omega) s1.length [.int 0, .int 0, .int 1, .int (-1), .int 1, .int 2] (s1 ++ [.lst [.int 0, .int 0, .int 1, .int (-1), .int 1, .int 2]]) (Chx.row r1 ((Chx.of r1.refl).app _)) (by have := r1.two; omega) (at_l _ _ _) (by simp) (by simp)
      obtain ⟨o, rfl, ho⟩ : ∃ o, x = .int o ∧ -1 ≤ o ∧ o ≤ 2 := by
        simp only [List.mem_cons, List.not_mem_nil, or_false] at p2
        rcases p2 with rfl | rfl | rfl | rfl | rfl | rfl <;> exact ⟨_, rfl, by omega⟩
      obtain ⟨s0, g1, g2⟩ := Chx.end (d := (Tm.inp o).d) hr (((Chx.of c1).app [.lst [.int 0, .int 0, .int 1, .int (-1), .int 1, .int 2]]).ch hr p3) rfl
      refine ⟨.inp o, s0, ?_, ho, g2⟩
      rw [← g1]
      (simp (config := {decide := true, maxSteps := 1000000}) (disch := omega) only [Df.fn, Nat.reduceAdd, Nat.reduceSub, Nat.reduceMul, Int.reduceToNat, Int.reduceAdd, Int.reduceSub, Int.reduceMul, Int.reduceNeg, Int.reduceLE, Int.reduceLT, at0, at1, at2, at3, Nat.zero_add, Nat.sub_self, List.map_cons, List.map_nil, List.length_cons, List.length_nil, List.replicate_succ, List.replicate_zero, List.cons_append, List.nil_append, List.append_nil, List.getElem?_cons_zero, List.getElem?_cons_succ, Option.join_some, List.set_cons_zero, List.set_cons_succ,
  onB_bl, onO_bl, bind_ok, out_ok, bind_ite, out_ite, seq_next, seq_ret, seq_ite, end_next, end_ret, end_ite, optO_some, optR_some, x_var, x_cst, x_b2, x_b1, x_sset, x_rg, x_and, x_or, x_ite, x_chain, x_tup, x_lst, x_idx, x_slc, x_call, x_isi, x_gin, x_gget, x_comp, x_nil, x_cons, x_asg, x_asgT, x_par, x_sub, x_app, x_ext, x_expr, x_ret, x_retN, x_ife, x_for, x_pass, x_end, x_seq,
  turn_next, turn_ret, turn_ite, pyEq_int, wipeD, setTgt, setEach,
  o_add_i, o_add_t, o_sub, o_mul_i, o_fdiv, o_mod, o_eq, o_ne, o_lt, o_le, o_gt, o_ge, o_mx, o_mn, o_neg, o_len_t, o_len_l, o_int_i, o_int_b, o_isN, o_notN, o_asI, o_isF, o_lnot, o_truth, o_tuple_t, o_tuple_l, o_list_t, o_idx_t, o_all_last, o_tuple_last, MP.isNon, Bool.not_true, Bool.not_false, List.length_append, List.append_assoc,
  truthOf, isTys, isTy, kindD, tyB, gc_self, mkT, mkL, lim, seqOf, Option.map_some, Nat.beq, Bool.or_false, Bool.or_true, decide_eq_true_eq, decide_true, decide_false, Bool.true_and, Bool.true_or, Bool.false_or, Bool.false_and, Bool.and_false, Bool.and_true, if_true, Bool.false_eq_true, if_false, ite_true, ite_false, d32, em2, t1, MP.alloc, p1, Tm.d])
    · have w0 := eq_false w0
      by_cases w3 : v < 3
      · have w3 := eq_true w3
        obtain ⟨n, s2, t2, n0, n1', c2⟩ := taken_ok hn k (by omega) names s1 (by omega) (by omega) r1
        have r2 := c2.row r1
        obtain ⟨x, s3, p1, p2, p3⟩ := pick_ok hn k (by omega) s2.length [.int 0, .int 0, .int 1, .int 1, .int (-1), .int (-1)] (s2 ++ [.lst [.int 0, .int 0, .int 1, .int 1, .int (-1), .int (-1)]]) (Chx.row r2 ((Chx.of r2.refl).app _)) (by have := r2.two; omega) (at_l _ _ _) (by simp) (by simp)
        obtain ⟨o, rfl, ho⟩ : ∃ o, x = .int o ∧ -1 ≤ o ∧ o ≤ 2 := by
          simp only [List.mem_cons, List.not_mem_nil, or_false] at p2
          rcases p2 with rfl | rfl | rfl | rfl | rfl | rfl <;> exact ⟨_, rfl, by omega⟩
        obtain ⟨s0, g1, g2⟩ := Chx.end (d := (Tm.of n.toNat o).d) hr (((Chx.of (c1.trans c2)).app [.lst [.int 0, .int 0, .int 1, .int 1, .int (-1), .int (-1)]]).ch hr p3) rfl
        refine ⟨.of n.toNat o, s0, ?_, ⟨by omega, ho⟩, g2⟩
        rw [← g1]
        have en : ((n.toNat : Nat) : Int) = n := by omega
        (simp (config := {decide := true, maxSteps := 1000000}) (disch := omega) only [Df.fn, Nat.reduceAdd, Nat.reduceSub, Nat.reduceMul, Int.reduceToNat, Int.reduceAdd, Int.reduceSub, Int.reduceMul, Int.reduceNeg, Int.reduceLE, Int.reduceLT, at0, at1, at2, at3, Nat.zero_add, Nat.sub_self, List.map_cons, List.map_nil, List.length_cons, List.length_nil, List.replicate_succ, List.replicate_zero, List.cons_append, List.nil_append, List.append_nil, List.getElem?_cons_zero, List.getElem?_cons_succ, Option.join_some, List.set_cons_zero, List.set_cons_succ,
  onB_bl, onO_bl, bind_ok, out_ok, bind_ite, out_ite, seq_next, seq_ret, seq_ite, end_next, end_ret, end_ite, optO_some, optR_some, x_var, x_cst, x_b2, x_b1, x_sset, x_rg, x_and, x_or, x_ite, x_chain, x_tup, x_lst, x_idx, x_slc, x_call, x_isi, x_gin, x_gget, x_comp, x_nil, x_cons, x_asg, x_asgT, x_par, x_sub, x_app, x_ext, x_expr, x_ret, x_retN, x_ife, x_for, x_pass, x_end, x_seq,
  turn_next, turn_ret, turn_ite, pyEq_int, wipeD, setTgt, setEach,
  o_add_i, o_add_t, o_sub, o_mul_i, o_fdiv, o_mod, o_eq, o_ne, o_lt, o_le, o_gt, o_ge, o_mx, o_mn, o_neg, o_len_t, o_len_l, o_int_i, o_int_b, o_isN, o_notN, o_asI, o_isF, o_lnot, o_truth, o_tuple_t, o_tuple_l, o_list_t, o_idx_t, o_all_last, o_tuple_last, MP.isNon, Bool.not_true, Bool.not_false, List.length_append, List.append_assoc,
  truthOf, isTys, isTy, kindD, tyB, gc_self, mkT, mkL, lim, seqOf, Option.map_some, Nat.beq, Bool.or_false, Bool.or_true, decide_eq_true_eq, decide_true, decide_false, Bool.true_and, Bool.true_or, Bool.false_or, Bool.false_and, Bool.and_false, Bool.and_true, if_true, Bool.false_eq_true, if_false, ite_true, ite_false, d32, em2, t1, w0, w3, t2, MP.alloc, p1, Tm.d, en])
      · have w3 := eq_false w3
        by_cases w4 : v = 3
        · subst w4
          obtain ⟨n, s2, t2, n0, n1', c2⟩ := taken_ok hn k (by omega) 3 s1 (by omega) (by omega) r1
          refine ⟨.is n, s2, ?_, ⟨n0, by omega⟩, c1.trans c2⟩
          (simp (config := {decide := true, maxSteps := 1000000}) (disch := omega) only [Df.fn, Nat.reduceAdd, Nat.reduceSub, Nat.reduceMul, Int.reduceToNat, Int.reduceAdd, Int.reduceSub, Int.reduceMul, Int.reduceNeg, Int.reduceLE, Int.reduceLT, at0, at1, at2, at3, Nat.zero_add, Nat.sub_self, List.map_cons, List.map_nil, List.length_cons, List.length_nil, List.replicate_succ, List.replicate_zero, List.cons_append, List.nil_append, List.append_nil, List.getElem?_cons_zero, List.getElem?_cons_succ, Option.join_some, List.set_cons_zero, List.set_cons_succ,
  onB_bl, onO_bl, bind_ok, out_ok, bind_ite, out_ite, seq_next, seq_ret, seq_ite, end_next, end_ret, end_ite, optO_some, optR_some, x_var, x_cst, x_b2, x_b1, x_sset, x_rg, x_and, x_or, x_ite, x_chain, x_tup, x_lst, x_idx, x_slc, x_call, x_isi, x_gin, x_gget, x_comp, x_nil, x_cons, x_asg, x_asgT, x_par, x_sub, x_app, x_ext, x_expr, x_ret, x_retN, x_ife, x_for, x_pass, x_end, x_seq,
  turn_next, turn_ret, turn_ite, pyEq_int, wipeD, setTgt, setEach,
  o_add_i, o_add_t, o_sub, o_mul_i, o_fdiv, o_mod, o_eq, o_ne, o_lt, o_le, o_gt, o_ge, o_mx, o_mn, o_neg, o_len_t, o_len_l, o_int_i, o_int_b, o_isN, o_notN, o_asI, o_isF, o_lnot, o_truth, o_tuple_t, o_tuple_l, o_list_t, o_idx_t, o_all_last, o_tuple_last, MP.isNon, Bool.not_true, Bool.not_false, List.length_append, List.append_assoc,
  truthOf, isTys, isTy, kindD, tyB, gc_self, mkT, mkL, lim, seqOf, Option.map_some, Nat.beq, Bool.or_false, Bool.or_true, decide_eq_true_eq, decide_true, decide_false, Bool.true_and, Bool.true_or, Bool.false_or, Bool.false_and, Bool.and_false, Bool.and_true, if_true, Bool.false_eq_true, if_false, ite_true, ite_false, d32, em2, t1, t2, Tm.d])
          rw [gc_same (c1.trans c2).len]
        · have hd1 : 1 ≤ d := by
            simp only [eq_iff_iff, iff_false] at w3
            omega
          have w4 := eq_false w4
          by_cases w5 : v = 4
          · subst w5
            obtain ⟨t, s2, t2, tk, c2⟩ := ih hd1 s1 r1
            have r2 := c2.row r1
            obtain ⟨n, s3, t3, n0, n1', c3⟩ := taken_ok hn k (by omega) 2 s2 (by omega) (by omega) r2
            refine ⟨.rest t (2 + n), s3, ?_, ⟨tk, by omega, by omega⟩, (c1.trans c2).trans c3⟩
            (simp (config := {decide := true, maxSteps := 1000000}) (disch := omega) only [Df.fn, Nat.reduceAdd, Nat.reduceSub, Nat.reduceMul, Int.reduceToNat, Int.reduceAdd, Int.reduceSub, Int.reduceMul, Int.reduceNeg, Int.reduceLE, Int.reduceLT, at0, at1, at2, at3, Nat.zero_add, Nat.sub_self, List.map_cons, List.map_nil, List.length_cons, List.length_nil, List.replicate_succ, List.replicate_zero, List.cons_append, List.nil_append, List.append_nil, List.getElem?_cons_zero, List.getElem?_cons_succ, Option.join_some, List.set_cons_zero, List.set_cons_succ,
  onB_bl, onO_bl, bind_ok, out_ok, bind_ite, out_ite, seq_next, seq_ret, seq_ite, end_next, end_ret, end_ite, optO_some, optR_some, x_var, x_cst, x_b2, x_b1, x_sset, x_rg, x_and, x_or, x_ite, x_chain, x_tup, x_lst, x_idx, x_slc, x_call, x_isi, x_gin, x_gget, x_comp, x_nil, x_cons, x_asg, x_asgT, x_par, x_sub, x_app, x_ext, x_expr, x_ret, x_retN, x_ife, x_for, x_pass, x_end, x_seq,
  turn_next, turn_ret, turn_ite, pyEq_int, wipeD, setTgt, setEach,
  o_add_i, o_add_t, o_sub, o_mul_i, o_fdiv, o_mod, o_eq, o_ne, o_lt, o_le, o_gt, o_ge, o_mx, o_mn, o_neg, o_len_t, o_len_l, o_int_i, o_int_b, o_isN, o_notN, o_asI, o_isF, o_lnot, o_truth, o_tuple_t, o_tuple_l, o_list_t, o_idx_t, o_all_last, o_tuple_last, MP.isNon, Bool.not_true, Bool.not_false, List.length_append, List.append_assoc,
  truthOf, isTys, isTy, kindD, tyB, gc_self, mkT, mkL, lim, seqOf, Option.map_some, Nat.beq, Bool.or_false, Bool.or_true, decide_eq_true_eq, decide_true, decide_false, Bool.true_and, Bool.true_or, Bool.false_or, Bool.false_and, Bool.and_false, Bool.and_true, if_true, Bool.false_eq_true, if_false, ite_true, ite_false, d32, em2, t1, e1, t2, t3, Tm.d])
            rw [gc_same ((c1.trans c2).trans c3).len]
          · have w5 := eq_false w5
            by_cases w6 : v = 5
            · subst w6
              have it3 := it_rng 3 .non s1 (by omega)
              have it3 : itE 1 (.ok (.int 3) s1) (fun st => .ok .non st) = .ok (.int 3, .non, rangeD 0 3) s1 := it3
              obtain ⟨ys, s2, q1, q2, q3, q4, q5⟩ := comp_row r1 (fun y => ∃ t : Tm, y = t.d ∧ t.ok names d) (still := stillOf 1 (.int 3) .non s1) (fun _ => rfl) (Nat.le_refl _)
                (set := fun x => some [some (.loc 1), some (.int names), some (.int ((d + 1 : Nat) : Int)), some (.int 5), none, some x, none]) (cl := run tb k) (elt := evE (run tb k) (.call 32 [(.var 0), (.var 1), (.b2 .sub (.var 2) (.cst (.int 1)))] []))
                (rangeD 0 3) (s1 ++ [.lst []]) [] (fun x _ => ⟨_, rfl, fun s cs _ => by
                  obtain ⟨t, s', e, tk, c⟩ := ih hd1 s (cs.row r1)
                  exact ⟨t.d, s', by (simp (config := {decide := true, maxSteps := 1000000}) (disch := omega) only [Df.fn, Nat.reduceAdd, Nat.reduceSub, Nat.reduceMul, Int.reduceToNat, Int.reduceAdd, Int.reduceSub, Int.reduceMul, Int.reduceNeg, Int.reduceLE, Int.reduceLT, at0, at1, at2, at3, Nat.zero_add, Nat.sub_self, List.map_cons, List.map_nil, List.length_cons, List.length_nil, List.replicate_succ, List.replicate_zero, List.cons_append, List.nil_append, List.append_nil, List.getElem?_cons_zero, List.getElem?_cons_succ, Option.join_some, List.set_cons_zero, List.set_cons_succ,
  onB_bl, onO_bl, bind_ok, out_ok, bind_ite, out_ite, seq_next, seq_ret, seq_ite, end_next, end_ret, end_ite, optO_some, optR_some, x_var, x_cst, x_b2, x_b1, x_sset, x_rg, x_and, x_or, x_ite, x_chain, x_tup, x_lst, x_idx, x_slc, x_call, x_isi, x_gin, x_gget, x_comp, x_nil, x_cons, x_asg, x_asgT, x_par, x_sub, x_app, x_ext, x_expr, x_ret, x_retN, x_ife, x_for, x_pass, x_end, x_seq,
  turn_next, turn_ret, turn_ite, pyEq_int, wipeD, setTgt, setEach,
  o_add_i, o_add_t, o_sub, o_mul_i, o_fdiv, o_mod, o_eq, o_ne, o_lt, o_le, o_gt, o_ge, o_mx, o_mn, o_neg, o_len_t, o_len_l, o_int_i, o_int_b, o_isN, o_notN, o_asI, o_isF, o_lnot, o_truth, o_tuple_t, o_tuple_l, o_list_t, o_idx_t, o_all_last, o_tuple_last, MP.isNon, Bool.not_true, Bool.not_false, List.length_append, List.append_assoc,
  truthOf, isTys, isTy, kindD, tyB, gc_self, mkT, mkL, lim, seqOf, Option.map_some, Nat.beq, Bool.or_false, Bool.or_true, decide_eq_true_eq, decide_true, decide_false, Bool.true_and, Bool.true_or, Bool.false_or, Bool.false_and, Bool.and_false, Bool.and_true, if_true, Bool.false_eq_true, if_false, ite_true, ite_false, e1, e]), ⟨t, rfl, tk⟩, c⟩⟩) ((Chx.of r1.refl).app _) (at_l _ _ _) (by rw [range_len]; simp)
              simp only [List.nil_append] at q4
              obtain ⟨a, b, c, rfl⟩ : ∃ a b c, ys = [a, b, c] := by
                match ys, q2 with
                | [a, b, c], _ => exact ⟨a, b, c, rfl⟩
              obtain ⟨ta, rfl, ka⟩ := q3 a (by simp)
              obtain ⟨tb', rfl, kb⟩ := q3 b (by simp)
              obtain ⟨tc, rfl, kc⟩ := q3 c (by simp)
              have ix := fun i => o_idx_l s2 i _ (lstAt_of q4)
              obtain ⟨s0, g1, g2⟩ := Chx.end (d := (Tm.pick ta tb' tc).d) hr (Chx.pre c1 q5) (und_tm _ _)
              refine ⟨.pick ta tb' tc, s0, ?_, ⟨ka, kb, kc⟩, g2⟩
              rw [← g1]
              (simp (config := {decide := true, maxSteps := 1000000}) (disch := omega) only [Df.fn, Nat.reduceAdd, Nat.reduceSub, Nat.reduceMul, Int.reduceToNat, Int.reduceAdd, Int.reduceSub, Int.reduceMul, Int.reduceNeg, Int.reduceLE, Int.reduceLT, at0, at1, at2, at3, Nat.zero_add, Nat.sub_self, List.map_cons, List.map_nil, List.length_cons, List.length_nil, List.replicate_succ, List.replicate_zero, List.cons_append, List.nil_append, List.append_nil, List.getElem?_cons_zero, List.getElem?_cons_succ, Option.join_some, List.set_cons_zero, List.set_cons_succ,
  onB_bl, onO_bl, bind_ok, out_ok, bind_ite, out_ite, seq_next, seq_ret, seq_ite, end_next, end_ret, end_ite, optO_some, optR_some, x_var, x_cst, x_b2, x_b1, x_sset, x_rg, x_and, x_or, x_ite, x_chain, x_tup, x_lst, x_idx, x_slc, x_call, x_isi, x_gin, x_gget, x_comp, x_nil, x_cons, x_asg, x_asgT, x_par, x_sub, x_app, x_ext, x_expr, x_ret, x_retN, x_ife, x_for, x_pass, x_end, x_seq,
  turn_next, turn_ret, turn_ite, pyEq_int, wipeD, setTgt, setEach,
  o_add_i, o_add_t, o_sub, o_mul_i, o_fdiv, o_mod, o_eq, o_ne, o_lt, o_le, o_gt, o_ge, o_mx, o_mn, o_neg, o_len_t, o_len_l, o_int_i, o_int_b, o_isN, o_notN, o_asI, o_isF, o_lnot, o_truth, o_tuple_t, o_tuple_l, o_list_t, o_idx_t, o_all_last, o_tuple_last, MP.isNon, Bool.not_true, Bool.not_false, List.length_append, List.append_assoc,
  truthOf, isTys, isTy, kindD, tyB, gc_self, mkT, mkL, lim, seqOf, Option.map_some, Nat.beq, Bool.or_false, Bool.or_true, decide_eq_true_eq, decide_true, decide_false, Bool.true_and, Bool.true_or, Bool.false_or, Bool.false_and, Bool.and_false, Bool.and_true, if_true, Bool.false_eq_true, if_false, ite_true, ite_false, d32, em2, t1, it3, q1, ix, Tm.d])
            · have w6 := eq_false w6
              obtain ⟨x, s2, p1, p2, p3⟩ := pick_ok hn k (by omega) s1.length [.str "plus", .str "times", .str "same", .str "less", .str "plus", .str "same"] (s1 ++ [.lst [.str "plus", .str "times", .str "same", .str "less", .str "plus", .str "same"]]) (Chx.row r1 ((Chx.of r1.refl).app _)) (by have := r1.two; omega) (at_l _ _ _) (by simp) (by simp)
              obtain ⟨w, rfl⟩ : ∃ w : W2, x = .str w.s := by
                simp only [List.mem_cons, List.not_mem_nil, or_false] at p2
                rcases p2 with rfl | rfl | rfl | rfl | rfl | rfl
                · exact ⟨.plus, rfl⟩
                · exact ⟨.times, rfl⟩
                · exact ⟨.same, rfl⟩
                · exact ⟨.less, rfl⟩
                · exact ⟨.plus, rfl⟩
                · exact ⟨.same, rfl⟩
              have x2 : Chx st s2 := ((Chx.of c1).app [.lst [.str "plus", .str "times", .str "same", .str "less", .str "plus", .str "same"]]).ch hr p3
              obtain ⟨ta, s3, t2, ka, c2⟩ := ih hd1 s2 (x2.row hr)
              have x3 := x2.ch hr c2
              obtain ⟨tb', s4, t3, kb, c3⟩ := ih hd1 s3 (x3.row hr)
              have x4 := x3.ch hr c3
              obtain ⟨s0, g1, g2⟩ := Chx.end (d := (Tm.two w ta tb').d) hr x4 (und_tm _ _)
              refine ⟨.two w ta tb', s0, ?_, ⟨ka, kb⟩, g2⟩
              rw [← g1]
              (simp (config := {decide := true, maxSteps := 1000000}) (disch := omega) only [Df.fn, Nat.reduceAdd, Nat.reduceSub, Nat.reduceMul, Int.reduceToNat, Int.reduceAdd, Int.reduceSub, Int.reduceMul, Int.reduceNeg, Int.reduceLE, Int.reduceLT, at0, at1, at2, at3, Nat.zero_add, Nat.sub_self, List.map_cons, List.map_nil, List.length_cons, List.length_nil, List.replicate_succ, List.replicate_zero, List.cons_append, List.nil_append, List.append_nil, List.getElem?_cons_zero, List.getElem?_cons_succ, Option.join_some, List.set_cons_zero, List.set_cons_succ,
  onB_bl, onO_bl, bind_ok, out_ok, bind_ite, out_ite, seq_next, seq_ret, seq_ite, end_next, end_ret, end_ite, optO_some, optR_some, x_var, x_cst, x_b2, x_b1, x_sset, x_rg, x_and, x_or, x_ite, x_chain, x_tup, x_lst, x_idx, x_slc, x_call, x_isi, x_gin, x_gget, x_comp, x_nil, x_cons, x_asg, x_asgT, x_par, x_sub, x_app, x_ext, x_expr, x_ret, x_retN, x_ife, x_for, x_pass, x_end, x_seq,
  turn_next, turn_ret, turn_ite, pyEq_int, wipeD, setTgt, setEach,
  o_add_i, o_add_t, o_sub, o_mul_i, o_fdiv, o_mod, o_eq, o_ne, o_lt, o_le, o_gt, o_ge, o_mx, o_mn, o_neg, o_len_t, o_len_l, o_int_i, o_int_b, o_isN, o_notN, o_asI, o_isF, o_lnot, o_truth, o_tuple_t, o_tuple_l, o_list_t, o_idx_t, o_all_last, o_tuple_last, MP.isNon, Bool.not_true, Bool.not_false, List.length_append, List.append_assoc,
  truthOf, isTys, isTy, kindD, tyB, gc_self, mkT, mkL, lim, seqOf, Option.map_some, Nat.beq, Bool.or_false, Bool.or_true, decide_eq_true_eq, decide_true, decide_false, Bool.true_and, Bool.true_or, Bool.false_or, Bool.false_and, Bool.and_false, Bool.and_true, if_true, Bool.false_eq_true, if_false, ite_true, ite_false, d32, em2, t1, w0, w3, w4, w5, w6, MP.alloc, p1, e1, t2, t3, Tm.d])
end Lw
/-! ## KM10 -/
set_option Elab.async false
set_option linter.all false
set_option autoImplicit false
set_option maxRecDepth 100000
set_option maxHeartbeats 1000000
namespace Lw
open PySem PySem.Spec PyProof.Rows L2 MP
theorem evSs_app (cl : Nat → List D → Sto → R D) : ∀ (a b : List CS) (env : MP.Env) (st : Sto), evSs cl (a ++ b) env st = (evSs cl a env st).seq fun env st => evSs cl b env st
  | [], b, env, st => by rw [x_end]; rfl
  | s :: a, b, env, st => by
    rw [List.cons_append, x_seq, x_seq]
    cases evS cl s env st with
    | next e s' => exact evSs_app cl a b e s'
    | _ => rfl
abbrev mA : CS := .par 1 2 (.b2 .add (.cst (.int 1)) (.call 30 [(.var 0), (.cst (.int 3))] [])) (.b2 .add (.cst (.int 1)) (.call 30 [(.var 0), (.cst (.int 2))] []))
abbrev mB : CS := .asg 3 (.b1 .tuple (.comp [4] [4] true 1 (.var 2) (.cst .non) (.cst (.bl true)) (.tup [(.cst (.int 2)), (.call 30 [(.var 0), (.cst (.int 2))] [])])))
abbrev mC : CS := .ife (.and (.b2 .eq (.var 2) (.cst (.int 1))) (.b2 .eq (.call 30 [(.var 0), (.cst (.int 4))] []) (.cst (.int 0)))) [(.asg 3 (.tup [(.tup [(.cst (.int 3)), (.call 30 [(.var 0), (.cst (.int 3))] [])])]))] []
abbrev mD : CS := .asg 5 (.ite (.b2 .eq (.call 30 [(.var 0), (.cst (.int 2))] []) (.cst (.int 0))) (.rg false 1 (.var 2) (.cst .non)) (.tup [(.call 30 [(.var 0), (.var 2)] [])]))
abbrev mE : CS := .asg 6 (.lst [])
abbrev mFb : List CS := [(.asg 7 (.call 30 [(.var 0), (.cst (.int 6))] [])), (.asg 8 (.idx (.idx (.var 3) (.var 4)) (.cst (.int 0)))), (.ife (.b2 .gt (.var 7) (.cst (.int 0))) [(.app (.var 6) (.tup [(.tup [(.cst (.str "of")), (.var 4), (.cst (.int 0))]), (.tup [(.cst (.str "rest")), (.call 32 [(.var 0), (.var 2), (.cst (.int 3))] []), (.var 8)])]))] [])]
abbrev mF : CS := .for [4] true 1 (.var 2) (.cst .non) mFb
abbrev mG : CS := .ife (.b2 .eq (.call 30 [(.var 0), (.cst (.int 4))] []) (.cst (.int 0))) [(.app (.var 6) (.tup [(.call 32 [(.var 0), (.var 2), (.cst (.int 2))] []), (.call 32 [(.var 0), (.var 2), (.cst (.int 2))] [])]))] []
abbrev mH : CS := .ret (.tup [(.var 1), (.var 3), (.var 5), (.b1 .tuple (.var 6))])
theorem d33_body : d33.fn.body = [mA] ++ ([mB, mC] ++ ([mD] ++ ([mE] ++ ([mF] ++ ([mG] ++ [mH]))))) := rfl
def okN (p : Int × Int) : Prop := 2 ≤ p.1 ∧ p.1 ≤ 3 ∧ 0 ≤ p.2 ∧ p.2 < p.1
section
variable {ns : List Int} (hn : ns.length ≤ 63) {k : Nat} (hk : 8 ≤ k) {st : Sto} (hr : RowS ns st)
include hn hk hr
theorem stA {s : Sto} (c : Chx st s) : ∃ (l : Int) (many : Nat) (s' : Sto), evSs (run tb k) [mA] [some (.loc 1), none, none, none, none, none, none, none, none] s = .next [some (.loc 1), some (.int l), some (.int many), none, none, none, none, none, none] s' ∧
    1 ≤ l ∧ l ≤ 3 ∧ (many = 1 ∨ many = 2) ∧ Chx st s' := by
  obtain ⟨v, s1, t1, v0, v1, c1⟩ := taken_ok hn k (by omega) 3 s (by omega) (by omega) (c.row hr)
  have x1 := c.ch hr c1
  obtain ⟨w, s2, t2, w0, w1, c2⟩ := taken_ok hn k (by omega) 2 s1 (by omega) (by omega) (x1.row hr)
  refine ⟨1 + v, (1 + w).toNat, s2, ?_, by omega, by omega, by omega, x1.ch hr c2⟩
  have e : (((1 + w).toNat : Nat) : Int) = 1 + w := by omega
  (simp (config := {decide := true, maxSteps := 1000000}) (disch := omega) only [Df.fn, Nat.reduceAdd, Nat.reduceSub, Nat.reduceMul, Int.reduceToNat, Int.reduceAdd, Int.reduceSub, Int.reduceMul, Int.reduceNeg, Int.reduceLE, Int.reduceLT, at0, at1, at2, at3, Nat.zero_add, Nat.sub_self, List.map_cons, List.map_nil, List.length_cons, List.length_nil, List.replicate_succ, List.replicate_zero, List.cons_append, List.nil_append, List.append_nil, List.getElem?_cons_zero, List.getElem?_cons_succ, Option.join_some, List.set_cons_zero, List.set_cons_succ,
  onB_bl, onO_bl, bind_ok, out_ok, bind_ite, out_ite, seq_next, seq_ret, seq_ite, end_next, end_ret, end_ite, optO_some, optR_some, x_var, x_cst, x_b2, x_b1, x_sset, x_rg, x_and, x_or, x_ite, x_chain, x_tup, x_lst, x_idx, x_slc, x_call, x_isi, x_gin, x_gget, x_comp, x_nil, x_cons, x_asg, x_asgT, x_par, x_sub, x_app, x_ext, x_expr, x_ret, x_retN, x_ife, x_for, x_pass, x_end, x_seq,
  turn_next, turn_ret, turn_ite, pyEq_int, wipeD, setTgt, setEach,
  o_add_i, o_add_t, o_sub, o_mul_i, o_fdiv, o_mod, o_eq, o_ne, o_lt, o_le, o_gt, o_ge, o_mx, o_mn, o_neg, o_len_t, o_len_l, o_int_i, o_int_b, o_isN, o_notN, o_asI, o_isF, o_lnot, o_truth, o_tuple_t, o_tuple_l, o_list_t, o_idx_t, o_all_last, o_tuple_last, MP.isNon, Bool.not_true, Bool.not_false, List.length_append, List.append_assoc,
  truthOf, isTys, isTy, kindD, tyB, gc_self, mkT, mkL, lim, seqOf, Option.map_some, Nat.beq, Bool.or_false, Bool.or_true, decide_eq_true_eq, decide_true, decide_false, Bool.true_and, Bool.true_or, Bool.false_or, Bool.false_and, Bool.and_false, Bool.and_true, if_true, Bool.false_eq_true, if_false, ite_true, ite_false, mA, t1, t2, e])
theorem stBC {s : Sto} (c : Chx st s) {l : Int} {many : Nat} (hm : many = 1 ∨ many = 2) : ∃ (nm : List (Int × Int)) (s' : Sto), evSs (run tb k) [mB, mC] [some (.loc 1), some (.int l), some (.int many), none, none, none, none, none, none] s = .next [some (.loc 1), some (.int l), some (.int many), some (.tup (nm.map nmD)), none, none, none, none, none] s' ∧
    nm.length = many ∧ (∀ p ∈ nm, okN p) ∧ Chx st s' := by
  have it := it_rng many .non s (by omega)
  obtain ⟨ys, s2, q1, q2, q3, q4, q5⟩ := comp_row (c.row hr) (fun y => ∃ v : Int, y = nmD (2, v) ∧ 0 ≤ v ∧ v < 2) (still := stillOf 1 (.int many) .non s) (fun _ => rfl) (Nat.le_refl _)
    (set := fun x => some [some (.loc 1), some (.int l), some (.int many), none, some x, none, none, none, none]) (cl := run tb k) (elt := evE (run tb k) (.tup [(.cst (.int 2)), (.call 30 [(.var 0), (.cst (.int 2))] [])]))
    (rangeD 0 many) (s ++ [.lst []]) [] (fun x _ => ⟨_, rfl, fun s' cs _ => by
      obtain ⟨v, s', e, v0, v1, c⟩ := taken_ok hn k (by omega) 2 s' (by omega) (by omega) (cs.row (c.row hr))
      exact ⟨nmD (2, v), s', by (simp (config := {decide := true, maxSteps := 1000000}) (disch := omega) only [Df.fn, Nat.reduceAdd, Nat.reduceSub, Nat.reduceMul, Int.reduceToNat, Int.reduceAdd, Int.reduceSub, Int.reduceMul, Int.reduceNeg, Int.reduceLE, Int.reduceLT, at0, at1, at2, at3, Nat.zero_add, Nat.sub_self, List.map_cons, List.map_nil, List.length_cons, List.length_nil, List.replicate_succ, List.replicate_zero, List.cons_append, List.nil_append, List.append_nil, List.getElem?_cons_zero, List.getElem?_cons_succ, Option.join_some, List.set_cons_zero, List.set_cons_succ,
  onB_bl, onO_bl, bind_ok, out_ok, bind_ite, out_ite, seq_next, seq_ret, seq_ite, end_next, end_ret, end_ite, optO_some, optR_some, x_var, x_cst, x_b2, x_b1, x_sset, x_rg, x_and, x_or, x_ite, x_chain, x_tup, x_lst, x_idx, x_slc, x_call, x_isi, x_gin, x_gget, x_comp, x_nil, x_cons, x_asg, x_asgT, x_par, x_sub, x_app, x_ext, x_expr, x_ret, x_retN, x_ife, x_for, x_pass, x_end, x_seq,
  turn_next, turn_ret, turn_ite, pyEq_int, wipeD, setTgt, setEach,
  o_add_i, o_add_t, o_sub, o_mul_i, o_fdiv, o_mod, o_eq, o_ne, o_lt, o_le, o_gt, o_ge, o_mx, o_mn, o_neg, o_len_t, o_len_l, o_int_i, o_int_b, o_isN, o_notN, o_asI, o_isF, o_lnot, o_truth, o_tuple_t, o_tuple_l, o_list_t, o_idx_t, o_all_last, o_tuple_last, MP.isNon, Bool.not_true, Bool.not_false, List.length_append, List.append_assoc,
  truthOf, isTys, isTy, kindD, tyB, gc_self, mkT, mkL, lim, seqOf, Option.map_some, Nat.beq, Bool.or_false, Bool.or_true, decide_eq_true_eq, decide_true, decide_false, Bool.true_and, Bool.true_or, Bool.false_or, Bool.false_and, Bool.and_false, Bool.and_true, if_true, Bool.false_eq_true, if_false, ite_true, ite_false, e, nmD]), ⟨v, rfl, v0, v1⟩, c⟩⟩) ((Chx.of (c.row hr).refl).app _) (at_l _ _ _) (by rw [range_len]; simp; omega)
  simp only [List.nil_append] at q4
  rw [range_len] at q2
  have nms : ∀ ys : List D, (∀ y ∈ ys, ∃ v : Int, y = nmD (2, v) ∧ 0 ≤ v ∧ v < 2) → ∃ nm : List (Int × Int), ys = nm.map nmD ∧ ∀ p ∈ nm, okN p := by
    intro ys
    induction ys with
    | nil => intro _; exact ⟨[], rfl, by simp⟩
    | cons y ys ih =>
      intro h
      obtain ⟨v, rfl, v0, v1⟩ := h y (List.mem_cons_self ..)
      obtain ⟨nm, rfl, h2⟩ := ih fun z hz => h z (List.mem_cons_of_mem _ hz)
      refine ⟨(2, v) :: nm, rfl, fun p hp => ?_⟩
      rcases List.mem_cons.mp hp with rfl | hp
      · exact ⟨by show (2 : Int) ≤ 2; omega, by show (2 : Int) ≤ 3; omega, v0, v1⟩
      · exact h2 p hp
  obtain ⟨nm, rfl, hnm⟩ := nms ys q3
  have x2 : Chx st s2 := by
    obtain ⟨s0, t, h1, e⟩ := q5
    subst e
    have z := c.ch hr h1
    exact z.app t
  have lt := lstAt_of q4
  have ln : nm.length = many := by simpa using q2
  by_cases h1 : many = 1
  · have e1 : ((many : Int) = 1) = True := eq_true (by omega)
    obtain ⟨u, s3, t3, u0, u1, c3⟩ := taken_ok hn k (by omega) 4 s2 (by omega) (by omega) (x2.row hr)
    have x3 := x2.ch hr c3
    by_cases hu : u = 0
    · subst hu
      obtain ⟨f, s4, t4, f0, f1, c4⟩ := taken_ok hn k (by omega) 3 s3 (by omega) (by omega) (x3.row hr)
      refine ⟨[(3, f)], s4, ?_, by simp [h1], fun p hp => by simp at hp; subst hp; exact ⟨by show (2 : Int) ≤ 3; omega, by show (3 : Int) ≤ 3; omega, f0, f1⟩, x3.ch hr c4⟩
      (simp (config := {decide := true, maxSteps := 1000000}) (disch := omega) only [Df.fn, Nat.reduceAdd, Nat.reduceSub, Nat.reduceMul, Int.reduceToNat, Int.reduceAdd, Int.reduceSub, Int.reduceMul, Int.reduceNeg, Int.reduceLE, Int.reduceLT, at0, at1, at2, at3, Nat.zero_add, Nat.sub_self, List.map_cons, List.map_nil, List.length_cons, List.length_nil, List.replicate_succ, List.replicate_zero, List.cons_append, List.nil_append, List.append_nil, List.getElem?_cons_zero, List.getElem?_cons_succ, Option.join_some, List.set_cons_zero, List.set_cons_succ,
  onB_bl, onO_bl, bind_ok, out_ok, bind_ite, out_ite, seq_next, seq_ret, seq_ite, end_next, end_ret, end_ite, optO_some, optR_some, x_var, x_cst, x_b2, x_b1, x_sset, x_rg, x_and, x_or, x_ite, x_chain, x_tup, x_lst, x_idx, x_slc, x_call, x_isi, x_gin, x_gget, x_comp, x_nil, x_cons, x_asg, x_asgT, x_par, x_sub, x_app, x_ext, x_expr, x_ret, x_retN, x_ife, x_for, x_pass, x_end, x_seq,
  turn_next, turn_ret, turn_ite, pyEq_int, wipeD, setTgt, setEach,
  o_add_i, o_add_t, o_sub, o_mul_i, o_fdiv, o_mod, o_eq, o_ne, o_lt, o_le, o_gt, o_ge, o_mx, o_mn, o_neg, o_len_t, o_len_l, o_int_i, o_int_b, o_isN, o_notN, o_asI, o_isF, o_lnot, o_truth, o_tuple_t, o_tuple_l, o_list_t, o_idx_t, o_all_last, o_tuple_last, MP.isNon, Bool.not_true, Bool.not_false, List.length_append, List.append_assoc,
  truthOf, isTys, isTy, kindD, tyB, gc_self, mkT, mkL, lim, seqOf, Option.map_some, Nat.beq, Bool.or_false, Bool.or_true, decide_eq_true_eq, decide_true, decide_false, Bool.true_and, Bool.true_or, Bool.false_or, Bool.false_and, Bool.and_false, Bool.and_true, if_true, Bool.false_eq_true, if_false, ite_true, ite_false, mB, mC, it, q1, lt, e1, t3, t4, nmD])
    · have hu := eq_false hu
      refine ⟨nm, s3, ?_, ln, hnm, x3⟩
      (simp (config := {decide := true, maxSteps := 1000000}) (disch := omega) only [Df.fn, Nat.reduceAdd, Nat.reduceSub, Nat.reduceMul, Int.reduceToNat, Int.reduceAdd, Int.reduceSub, Int.reduceMul, Int.reduceNeg, Int.reduceLE, Int.reduceLT, at0, at1, at2, at3, Nat.zero_add, Nat.sub_self, List.map_cons, List.map_nil, List.length_cons, List.length_nil, List.replicate_succ, List.replicate_zero, List.cons_append, List.nil_append, List.append_nil, List.getElem?_cons_zero, List.getElem?_cons_succ, Option.join_some, List.set_cons_zero, List.set_cons_succ,
  onB_bl, onO_bl, bind_ok, out_ok, bind_ite, out_ite, seq_next, seq_ret, seq_ite, end_next, end_ret, end_ite, optO_some, optR_some, x_var, x_cst, x_b2, x_b1, x_sset, x_rg, x_and, x_or, x_ite, x_chain, x_tup, x_lst, x_idx, x_slc, x_call, x_isi, x_gin, x_gget, x_comp, x_nil, x_cons, x_asg, x_asgT, x_par, x_sub, x_app, x_ext, x_expr, x_ret, x_retN, x_ife, x_for, x_pass, x_end, x_seq,
  turn_next, turn_ret, turn_ite, pyEq_int, wipeD, setTgt, setEach,
  o_add_i, o_add_t, o_sub, o_mul_i, o_fdiv, o_mod, o_eq, o_ne, o_lt, o_le, o_gt, o_ge, o_mx, o_mn, o_neg, o_len_t, o_len_l, o_int_i, o_int_b, o_isN, o_notN, o_asI, o_isF, o_lnot, o_truth, o_tuple_t, o_tuple_l, o_list_t, o_idx_t, o_all_last, o_tuple_last, MP.isNon, Bool.not_true, Bool.not_false, List.length_append, List.append_assoc,
  truthOf, isTys, isTy, kindD, tyB, gc_self, mkT, mkL, lim, seqOf, Option.map_some, Nat.beq, Bool.or_false, Bool.or_true, decide_eq_true_eq, decide_true, decide_false, Bool.true_and, Bool.true_or, Bool.false_or, Bool.false_and, Bool.and_false, Bool.and_true, if_true, Bool.false_eq_true, if_false, ite_true, ite_false, mB, mC, it, q1, lt, e1, t3, hu])
  · have e1 : ((many : Int) = 1) = False := eq_false (by omega)
    refine ⟨nm, s2, ?_, ln, hnm, x2⟩
    (simp (config := {decide := true, maxSteps := 1000000}) (disch := omega) only [Df.fn, Nat.reduceAdd, Nat.reduceSub, Nat.reduceMul, Int.reduceToNat, Int.reduceAdd, Int.reduceSub, Int.reduceMul, Int.reduceNeg, Int.reduceLE, Int.reduceLT, at0, at1, at2, at3, Nat.zero_add, Nat.sub_self, List.map_cons, List.map_nil, List.length_cons, List.length_nil, List.replicate_succ, List.replicate_zero, List.cons_append, List.nil_append, List.append_nil, List.getElem?_cons_zero, List.getElem?_cons_succ, Option.join_some, List.set_cons_zero, List.set_cons_succ,
  onB_bl, onO_bl, bind_ok, out_ok, bind_ite, out_ite, seq_next, seq_ret, seq_ite, end_next, end_ret, end_ite, optO_some, optR_some, x_var, x_cst, x_b2, x_b1, x_sset, x_rg, x_and, x_or, x_ite, x_chain, x_tup, x_lst, x_idx, x_slc, x_call, x_isi, x_gin, x_gget, x_comp, x_nil, x_cons, x_asg, x_asgT, x_par, x_sub, x_app, x_ext, x_expr, x_ret, x_retN, x_ife, x_for, x_pass, x_end, x_seq,
  turn_next, turn_ret, turn_ite, pyEq_int, wipeD, setTgt, setEach,
  o_add_i, o_add_t, o_sub, o_mul_i, o_fdiv, o_mod, o_eq, o_ne, o_lt, o_le, o_gt, o_ge, o_mx, o_mn, o_neg, o_len_t, o_len_l, o_int_i, o_int_b, o_isN, o_notN, o_asI, o_isF, o_lnot, o_truth, o_tuple_t, o_tuple_l, o_list_t, o_idx_t, o_all_last, o_tuple_last, MP.isNon, Bool.not_true, Bool.not_false, List.length_append, List.append_assoc,
  truthOf, isTys, isTy, kindD, tyB, gc_self, mkT, mkL, lim, seqOf, Option.map_some, Nat.beq, Bool.or_false, Bool.or_true, decide_eq_true_eq, decide_true, decide_false, Bool.true_and, Bool.true_or, Bool.false_or, Bool.false_and, Bool.and_false, Bool.and_true, if_true, Bool.false_eq_true, if_false, ite_true, ite_false, mB, mC, it, q1, lt, e1])
theorem stD {s : Sto} (c : Chx st s) {l : Int} {many : Nat} (hm : many = 1 ∨ many = 2) (N : D) : ∃ (td : List Int) (s' : Sto), evSs (run tb k) [mD] [some (.loc 1), some (.int l), some (.int many), some N, none, none, none, none, none] s = .next [some (.loc 1), some (.int l), some (.int many), some N, none, some (.tup (td.map .int)), none, none, none] s' ∧
    (td = [0] ∨ (many = 2 ∧ (td = [1] ∨ td = [0, 1]))) ∧ Chx st s' := by
  obtain ⟨v, s1, t1, v0, v1, c1⟩ := taken_ok hn k (by omega) 2 s (by omega) (by omega) (c.row hr)
  have x1 := c.ch hr c1
  by_cases hv : v = 0
  · subst hv
    have rg : opRg false 1 (.int many) .non s1 = .ok (.tup (rangeD 0 many)) s1 := by
      unfold opRg
      rw [if_pos (by rfl)]
      simp only [itemsOf]
      have e : (decide ((many : Int) ≤ 1000000) && decide (-1000000 ≤ (many : Int))) = true := by simp; omega
      rw [if_pos e]
      exact mkT_ok s1 (by rw [range_len]; simp; omega)
    rcases hm with rfl | rfl
    · refine ⟨[0], s1, ?_, .inl rfl, x1⟩
      (simp (config := {decide := true, maxSteps := 1000000}) (disch := omega) only [Df.fn, Nat.reduceAdd, Nat.reduceSub, Nat.reduceMul, Int.reduceToNat, Int.reduceAdd, Int.reduceSub, Int.reduceMul, Int.reduceNeg, Int.reduceLE, Int.reduceLT, at0, at1, at2, at3, Nat.zero_add, Nat.sub_self, List.map_cons, List.map_nil, List.length_cons, List.length_nil, List.replicate_succ, List.replicate_zero, List.cons_append, List.nil_append, List.append_nil, List.getElem?_cons_zero, List.getElem?_cons_succ, Option.join_some, List.set_cons_zero, List.set_cons_succ,
  onB_bl, onO_bl, bind_ok, out_ok, bind_ite, out_ite, seq_next, seq_ret, seq_ite, end_next, end_ret, end_ite, optO_some, optR_some, x_var, x_cst, x_b2, x_b1, x_sset, x_rg, x_and, x_or, x_ite, x_chain, x_tup, x_lst, x_idx, x_slc, x_call, x_isi, x_gin, x_gget, x_comp, x_nil, x_cons, x_asg, x_asgT, x_par, x_sub, x_app, x_ext, x_expr, x_ret, x_retN, x_ife, x_for, x_pass, x_end, x_seq,
  turn_next, turn_ret, turn_ite, pyEq_int, wipeD, setTgt, setEach,
  o_add_i, o_add_t, o_sub, o_mul_i, o_fdiv, o_mod, o_eq, o_ne, o_lt, o_le, o_gt, o_ge, o_mx, o_mn, o_neg, o_len_t, o_len_l, o_int_i, o_int_b, o_isN, o_notN, o_asI, o_isF, o_lnot, o_truth, o_tuple_t, o_tuple_l, o_list_t, o_idx_t, o_all_last, o_tuple_last, MP.isNon, Bool.not_true, Bool.not_false, List.length_append, List.append_assoc,
  truthOf, isTys, isTy, kindD, tyB, gc_self, mkT, mkL, lim, seqOf, Option.map_some, Nat.beq, Bool.or_false, Bool.or_true, decide_eq_true_eq, decide_true, decide_false, Bool.true_and, Bool.true_or, Bool.false_or, Bool.false_and, Bool.and_false, Bool.and_true, if_true, Bool.false_eq_true, if_false, ite_true, ite_false, mD, t1, rg])
      rfl
    · refine ⟨[0, 1], s1, ?_, .inr ⟨rfl, .inr rfl⟩, x1⟩
      (simp (config := {decide := true, maxSteps := 1000000}) (disch := omega) only [Df.fn, Nat.reduceAdd, Nat.reduceSub, Nat.reduceMul, Int.reduceToNat, Int.reduceAdd, Int.reduceSub, Int.reduceMul, Int.reduceNeg, Int.reduceLE, Int.reduceLT, at0, at1, at2, at3, Nat.zero_add, Nat.sub_self, List.map_cons, List.map_nil, List.length_cons, List.length_nil, List.replicate_succ, List.replicate_zero, List.cons_append, List.nil_append, List.append_nil, List.getElem?_cons_zero, List.getElem?_cons_succ, Option.join_some, List.set_cons_zero, List.set_cons_succ,
  onB_bl, onO_bl, bind_ok, out_ok, bind_ite, out_ite, seq_next, seq_ret, seq_ite, end_next, end_ret, end_ite, optO_some, optR_some, x_var, x_cst, x_b2, x_b1, x_sset, x_rg, x_and, x_or, x_ite, x_chain, x_tup, x_lst, x_idx, x_slc, x_call, x_isi, x_gin, x_gget, x_comp, x_nil, x_cons, x_asg, x_asgT, x_par, x_sub, x_app, x_ext, x_expr, x_ret, x_retN, x_ife, x_for, x_pass, x_end, x_seq,
  turn_next, turn_ret, turn_ite, pyEq_int, wipeD, setTgt, setEach,
  o_add_i, o_add_t, o_sub, o_mul_i, o_fdiv, o_mod, o_eq, o_ne, o_lt, o_le, o_gt, o_ge, o_mx, o_mn, o_neg, o_len_t, o_len_l, o_int_i, o_int_b, o_isN, o_notN, o_asI, o_isF, o_lnot, o_truth, o_tuple_t, o_tuple_l, o_list_t, o_idx_t, o_all_last, o_tuple_last, MP.isNon, Bool.not_true, Bool.not_false, List.length_append, List.append_assoc,
  truthOf, isTys, isTy, kindD, tyB, gc_self, mkT, mkL, lim, seqOf, Option.map_some, Nat.beq, Bool.or_false, Bool.or_true, decide_eq_true_eq, decide_true, decide_false, Bool.true_and, Bool.true_or, Bool.false_or, Bool.false_and, Bool.and_false, Bool.and_true, if_true, Bool.false_eq_true, if_false, ite_true, ite_false, mD, t1, rg])
      rfl
  · have hv := eq_false hv
    obtain ⟨w, s2, t2, w0, w1, c2⟩ := taken_ok hn k (by omega) many s1 (by omega) (by omega) (x1.row hr)
    refine ⟨[w], s2, ?_, ?_, x1.ch hr c2⟩
    · (simp (config := {decide := true, maxSteps := 1000000}) (disch := omega) only [Df.fn, Nat.reduceAdd, Nat.reduceSub, Nat.reduceMul, Int.reduceToNat, Int.reduceAdd, Int.reduceSub, Int.reduceMul, Int.reduceNeg, Int.reduceLE, Int.reduceLT, at0, at1, at2, at3, Nat.zero_add, Nat.sub_self, List.map_cons, List.map_nil, List.length_cons, List.length_nil, List.replicate_succ, List.replicate_zero, List.cons_append, List.nil_append, List.append_nil, List.getElem?_cons_zero, List.getElem?_cons_succ, Option.join_some, List.set_cons_zero, List.set_cons_succ,
  onB_bl, onO_bl, bind_ok, out_ok, bind_ite, out_ite, seq_next, seq_ret, seq_ite, end_next, end_ret, end_ite, optO_some, optR_some, x_var, x_cst, x_b2, x_b1, x_sset, x_rg, x_and, x_or, x_ite, x_chain, x_tup, x_lst, x_idx, x_slc, x_call, x_isi, x_gin, x_gget, x_comp, x_nil, x_cons, x_asg, x_asgT, x_par, x_sub, x_app, x_ext, x_expr, x_ret, x_retN, x_ife, x_for, x_pass, x_end, x_seq,
  turn_next, turn_ret, turn_ite, pyEq_int, wipeD, setTgt, setEach,
  o_add_i, o_add_t, o_sub, o_mul_i, o_fdiv, o_mod, o_eq, o_ne, o_lt, o_le, o_gt, o_ge, o_mx, o_mn, o_neg, o_len_t, o_len_l, o_int_i, o_int_b, o_isN, o_notN, o_asI, o_isF, o_lnot, o_truth, o_tuple_t, o_tuple_l, o_list_t, o_idx_t, o_all_last, o_tuple_last, MP.isNon, Bool.not_true, Bool.not_false, List.length_append, List.append_assoc,
  truthOf, isTys, isTy, kindD, tyB, gc_self, mkT, mkL, lim, seqOf, Option.map_some, Nat.beq, Bool.or_false, Bool.or_true, decide_eq_true_eq, decide_true, decide_false, Bool.true_and, Bool.true_or, Bool.false_or, Bool.false_and, Bool.and_false, Bool.and_true, if_true, Bool.false_eq_true, if_false, ite_true, ite_false, mD, t1, hv, t2])
    · rcases hm with rfl | rfl
      · left; congr 1; omega
      · by_cases w = 0
        · left; congr 1
        · right; exact ⟨rfl, .inl (by congr 1; omega)⟩

theorem stF {nm : List (Int × Int)} (hnm : ∀ p ∈ nm, okN p) {many : Nat} (hm : many = 1 ∨ many = 2) (ln : nm.length = many) {f : Nat} (hf : st.length ≤ f) {still : Sto → Bool} (hs : ∀ s, still s = true) {L TD : Option D} : ∀ (n lo : Nat) (s : Sto) (es : List (Tm × Tm)) (a4 a7 a8 : Option D), lo + n = many → Chx st s → s[f]? = some (.lst (es.map eqD)) → es.length ≤ lo →
    (∀ p ∈ es, p.1.ok many 4 ∧ p.2.ok many 4) → ∃ (es' : List (Tm × Tm)) (s' : Sto) (b4 b7 b8 : Option D), forL still (setTgt true [4]) (evSs (run tb k) mFb) (rangeD (lo : Int) n) [some (.loc 1), L, some (.int many), some (.tup (nm.map nmD)), a4, TD, some (.loc f), a7, a8] s = .next [some (.loc 1), L, some (.int many), some (.tup (nm.map nmD)), b4, TD, some (.loc f), b7, b8] s' ∧
      es'.length ≤ many ∧ (∀ p ∈ es', p.1.ok many 4 ∧ p.2.ok many 4) ∧ Chx st s' ∧ s'[f]? = some (.lst (es'.map eqD))
  | 0, lo, s, es, a4, a7, a8, h, c, hl, he, ho => ⟨es, s, a4, a7, a8, for_nil _ _ _ _ _ (hs _), by omega, ho, c, hl⟩
  | n + 1, lo, s, es, a4, a7, a8, h, c, hl, he, ho => by
    have two := hr.two
    have fl : f < s.length := (List.getElem?_eq_some_iff.mp hl).1
    obtain ⟨w, s1, t1, w0, w1, c1⟩ := taken_ok hn k (by omega) 6 s (by omega) (by omega) (c.row hr)
    have x1 := c.ch hr c1
    have hl1 : s1[f]? = some (.lst (es.map eqD)) := by rw [c1.at (by omega)]; exact hl
    have hlo : lo < nm.length := by omega
    have hp := hnm _ (List.getElem_mem hlo)
    have at1 : atD (nm.map nmD) (lo : Int) = some (.tup [.int nm[lo].1, .int nm[lo].2]) := by
      rw [atD_nat, List.getElem?_map, List.getElem?_eq_getElem hlo]
      rfl
    have cast : ((lo : Int) + 1) = ((lo + 1 : Nat) : Int) := by omega
    have il : isLst s1 (.loc f) = true := by simp only [isLst, hl1]
    by_cases hw : 0 < w
    · obtain ⟨t, s2, t2, tk, c2⟩ := term_ok hn (names := many) (by omega) (by omega) 3 (by omega) k (by omega) (by omega) s1 (x1.row hr)
      have t2 : run tb k 32 [.loc 1, .int many, .int 3] s1 = .ok t.d s2 := t2
      have x2 := x1.ch hr c2
      have hl2 : s2[f]? = some (.lst (es.map eqD)) := by rw [c2.at (by omega)]; exact hl1
      have ne : eqD (Tm.of lo 0, Tm.rest t nm[lo].1) = .tup [.tup [.str "of", .int (lo : Int), .int 0], .tup [.str "rest", t.d, .int nm[lo].1]] := rfl
      have ap : appAt (.loc f) (.tup [.tup [.str "of", .int (lo : Int), .int 0], .tup [.str "rest", t.d, .int nm[lo].1]]) s2 = some (s2.set f (.lst ((es ++ [(Tm.of lo 0, Tm.rest t nm[lo].1)]).map eqD))) := by
        simp only [appAt, hl2]
        rw [if_pos (by simp [lim]; omega), List.map_append, ← ne]
        rfl
      have x3 : Chx st (s2.set f (.lst ((es ++ [(Tm.of lo 0, Tm.rest t nm[lo].1)]).map eqD))) := x2.set hf _
      obtain ⟨v1, v2⟩ := gcE_viewC x3 c.len [some (.loc 1), L, some (.int many), some (.tup (nm.map nmD)), some (.int lo), TD, some (.loc f), some (.int w), some (.int nm[lo].1)]
      have v3 := v2 6 f rfl
      have fl2 : f < s2.length := (List.getElem?_eq_some_iff.mp hl2).1
      rw [List.getElem?_set_self fl2] at v3
      obtain ⟨es', s', b4, b7, b8, r1, r2, r3, r4, r5⟩ := stF hnm hm ln hf hs n (lo + 1) _ (es ++ [(Tm.of lo 0, Tm.rest t nm[lo].1)]) (some (.int lo)) (some (.int w)) (some (.int nm[lo].1)) (by omega) v1 v3 (by simp; omega) (fun p hp' => by
        rcases List.mem_append.mp hp' with z | z
        · exact ho p z
        · simp at z
          subst z
          exact ⟨⟨by omega, by omega, by omega⟩, tk, hp.1, hp.2.1⟩)
      refine ⟨es', s', b4, b7, b8, ?_, r2, r3, r4, r5⟩
      rw [← r1]
      show forL _ _ _ (.int (lo : Int) :: rangeD ((lo : Int) + 1) n) _ _ = _
      rw [for_cons _ _ _ _ _ _ _ (hs _), cast]
      have hw := eq_true hw
      (simp (config := {decide := true, maxSteps := 1000000}) (disch := omega) only [Df.fn, Nat.reduceAdd, Nat.reduceSub, Nat.reduceMul, Int.reduceToNat, Int.reduceAdd, Int.reduceSub, Int.reduceMul, Int.reduceNeg, Int.reduceLE, Int.reduceLT, at0, at1, at2, at3, Nat.zero_add, Nat.sub_self, List.map_cons, List.map_nil, List.length_cons, List.length_nil, List.replicate_succ, List.replicate_zero, List.cons_append, List.nil_append, List.append_nil, List.getElem?_cons_zero, List.getElem?_cons_succ, Option.join_some, List.set_cons_zero, List.set_cons_succ,
  onB_bl, onO_bl, bind_ok, out_ok, bind_ite, out_ite, seq_next, seq_ret, seq_ite, end_next, end_ret, end_ite, optO_some, optR_some, x_var, x_cst, x_b2, x_b1, x_sset, x_rg, x_and, x_or, x_ite, x_chain, x_tup, x_lst, x_idx, x_slc, x_call, x_isi, x_gin, x_gget, x_comp, x_nil, x_cons, x_asg, x_asgT, x_par, x_sub, x_app, x_ext, x_expr, x_ret, x_retN, x_ife, x_for, x_pass, x_end, x_seq,
  turn_next, turn_ret, turn_ite, pyEq_int, wipeD, setTgt, setEach,
  o_add_i, o_add_t, o_sub, o_mul_i, o_fdiv, o_mod, o_eq, o_ne, o_lt, o_le, o_gt, o_ge, o_mx, o_mn, o_neg, o_len_t, o_len_l, o_int_i, o_int_b, o_isN, o_notN, o_asI, o_isF, o_lnot, o_truth, o_tuple_t, o_tuple_l, o_list_t, o_idx_t, o_all_last, o_tuple_last, MP.isNon, Bool.not_true, Bool.not_false, List.length_append, List.append_assoc,
  truthOf, isTys, isTy, kindD, tyB, gc_self, mkT, mkL, lim, seqOf, Option.map_some, Nat.beq, Bool.or_false, Bool.or_true, decide_eq_true_eq, decide_true, decide_false, Bool.true_and, Bool.true_or, Bool.false_or, Bool.false_and, Bool.and_false, Bool.and_true, if_true, Bool.false_eq_true, if_false, ite_true, ite_false, mFb, t1, at1, hw, il, t2, ap])
    · obtain ⟨v1, v2⟩ := gcE_viewC x1 c.len [some (.loc 1), L, some (.int many), some (.tup (nm.map nmD)), some (.int lo), TD, some (.loc f), some (.int w), some (.int nm[lo].1)]
      have v3 := v2 6 f rfl
      rw [hl1] at v3
      obtain ⟨es', s', b4, b7, b8, r1, r2, r3, r4, r5⟩ := stF hnm hm ln hf hs n (lo + 1) _ es (some (.int lo)) (some (.int w)) (some (.int nm[lo].1)) (by omega) v1 v3 (by omega) ho
      refine ⟨es', s', b4, b7, b8, ?_, r2, r3, r4, r5⟩
      rw [← r1]
      show forL _ _ _ (.int (lo : Int) :: rangeD ((lo : Int) + 1) n) _ _ = _
      rw [for_cons _ _ _ _ _ _ _ (hs _), cast]
      have hw := eq_false hw
      (simp (config := {decide := true, maxSteps := 1000000}) (disch := omega) only [Df.fn, Nat.reduceAdd, Nat.reduceSub, Nat.reduceMul, Int.reduceToNat, Int.reduceAdd, Int.reduceSub, Int.reduceMul, Int.reduceNeg, Int.reduceLE, Int.reduceLT, at0, at1, at2, at3, Nat.zero_add, Nat.sub_self, List.map_cons, List.map_nil, List.length_cons, List.length_nil, List.replicate_succ, List.replicate_zero, List.cons_append, List.nil_append, List.append_nil, List.getElem?_cons_zero, List.getElem?_cons_succ, Option.join_some, List.set_cons_zero, List.set_cons_succ,
  onB_bl, onO_bl, bind_ok, out_ok, bind_ite, out_ite, seq_next, seq_ret, seq_ite, end_next, end_ret, end_ite, optO_some, optR_some, x_var, x_cst, x_b2, x_b1, x_sset, x_rg, x_and, x_or, x_ite, x_chain, x_tup, x_lst, x_idx, x_slc, x_call, x_isi, x_gin, x_gget, x_comp, x_nil, x_cons, x_asg, x_asgT, x_par, x_sub, x_app, x_ext, x_expr, x_ret, x_retN, x_ife, x_for, x_pass, x_end, x_seq,
  turn_next, turn_ret, turn_ite, pyEq_int, wipeD, setTgt, setEach,
  o_add_i, o_add_t, o_sub, o_mul_i, o_fdiv, o_mod, o_eq, o_ne, o_lt, o_le, o_gt, o_ge, o_mx, o_mn, o_neg, o_len_t, o_len_l, o_int_i, o_int_b, o_isN, o_notN, o_asI, o_isF, o_lnot, o_truth, o_tuple_t, o_tuple_l, o_list_t, o_idx_t, o_all_last, o_tuple_last, MP.isNon, Bool.not_true, Bool.not_false, List.length_append, List.append_assoc,
  truthOf, isTys, isTy, kindD, tyB, gc_self, mkT, mkL, lim, seqOf, Option.map_some, Nat.beq, Bool.or_false, Bool.or_true, decide_eq_true_eq, decide_true, decide_false, Bool.true_and, Bool.true_or, Bool.false_or, Bool.false_and, Bool.and_false, Bool.and_true, if_true, Bool.false_eq_true, if_false, ite_true, ite_false, mFb, t1, at1, hw])
theorem stG {many : Nat} (hm : many = 1 ∨ many = 2) {s : Sto} (c : Chx st s) {f : Nat} (hf : st.length ≤ f) {es : List (Tm × Tm)} (hl : s[f]? = some (.lst (es.map eqD))) (he : es.length ≤ many) (ho : ∀ p ∈ es, p.1.ok many 4 ∧ p.2.ok many 4) (L N a4 TD a7 a8 : Option D) :
    ∃ (es' : List (Tm × Tm)) (s' : Sto), evSs (run tb k) [mG] [some (.loc 1), L, some (.int many), N, a4, TD, some (.loc f), a7, a8] s = .next [some (.loc 1), L, some (.int many), N, a4, TD, some (.loc f), a7, a8] s' ∧ es'.length ≤ 3 ∧ (∀ p ∈ es', p.1.ok many 4 ∧ p.2.ok many 4) ∧ Chx st s' ∧ s'[f]? = some (.lst (es'.map eqD)) := by
  have two := hr.two
  obtain ⟨w, s1, t1, w0, w1, c1⟩ := taken_ok hn k (by omega) 4 s (by omega) (by omega) (c.row hr)
  have x1 := c.ch hr c1
  have hl1 : s1[f]? = some (.lst (es.map eqD)) := by rw [c1.at (by omega)]; exact hl
  have il : isLst s1 (.loc f) = true := by simp only [isLst, hl1]
  by_cases hw : w = 0
  · subst hw
    obtain ⟨t, s2, t2, tk, c2⟩ := term_ok hn (names := many) (by omega) (by omega) 2 (by omega) k (by omega) (by omega) s1 (x1.row hr)
    have t2 : run tb k 32 [.loc 1, .int many, .int 2] s1 = .ok t.d s2 := t2
    have x2 := x1.ch hr c2
    obtain ⟨u, s3, t3, uk, c3⟩ := term_ok hn (names := many) (by omega) (by omega) 2 (by omega) k (by omega) (by omega) s2 (x2.row hr)
    have t3 : run tb k 32 [.loc 1, .int many, .int 2] s2 = .ok u.d s3 := t3
    have x3 := x2.ch hr c3
    have hl3 : s3[f]? = some (.lst (es.map eqD)) := by rw [c3.at (by omega), c2.at (by omega)]; exact hl1
    have fl3 : f < s3.length := (List.getElem?_eq_some_iff.mp hl3).1
    have ap : appAt (.loc f) (.tup [t.d, u.d]) s3 = some (s3.set f (.lst ((es ++ [(t, u)]).map eqD))) := by
      simp only [appAt, hl3]
      rw [if_pos (by simp [lim]; omega), List.map_append]
      rfl
    refine ⟨es ++ [(t, u)], _, ?_, by simp; omega, fun p hp => ?_, x3.set hf _, List.getElem?_set_self fl3⟩
    · (simp (config := {decide := true, maxSteps := 1000000}) (disch := omega) only [Df.fn, Nat.reduceAdd, Nat.reduceSub, Nat.reduceMul, Int.reduceToNat, Int.reduceAdd, Int.reduceSub, Int.reduceMul, Int.reduceNeg, Int.reduceLE, Int.reduceLT, at0, at1, at2, at3, Nat.zero_add, Nat.sub_self, List.map_cons, List.map_nil, List.length_cons, List.length_nil, List.replicate_succ, List.replicate_zero, List.cons_append, List.nil_append, List.append_nil, List.getElem?_cons_zero, List.getElem?_cons_succ, Option.join_some, List.set_cons_zero, List.set_cons_succ,
  onB_bl, onO_bl, bind_ok, out_ok, bind_ite, out_ite, seq_next, seq_ret, seq_ite, end_next, end_ret, end_ite, optO_some, optR_some, x_var, x_cst, x_b2, x_b1, x_sset, x_rg, x_and, x_or, x_ite, x_chain, x_tup, x_lst, x_idx, x_slc, x_call, x_isi, x_gin, x_gget, x_comp, x_nil, x_cons, x_asg, x_asgT, x_par, x_sub, x_app, x_ext, x_expr, x_ret, x_retN, x_ife, x_for, x_pass, x_end, x_seq,
  turn_next, turn_ret, turn_ite, pyEq_int, wipeD, setTgt, setEach,
  o_add_i, o_add_t, o_sub, o_mul_i, o_fdiv, o_mod, o_eq, o_ne, o_lt, o_le, o_gt, o_ge, o_mx, o_mn, o_neg, o_len_t, o_len_l, o_int_i, o_int_b, o_isN, o_notN, o_asI, o_isF, o_lnot, o_truth, o_tuple_t, o_tuple_l, o_list_t, o_idx_t, o_all_last, o_tuple_last, MP.isNon, Bool.not_true, Bool.not_false, List.length_append, List.append_assoc,
  truthOf, isTys, isTy, kindD, tyB, gc_self, mkT, mkL, lim, seqOf, Option.map_some, Nat.beq, Bool.or_false, Bool.or_true, decide_eq_true_eq, decide_true, decide_false, Bool.true_and, Bool.true_or, Bool.false_or, Bool.false_and, Bool.and_false, Bool.and_true, if_true, Bool.false_eq_true, if_false, ite_true, ite_false, mG, t1, il, t2, t3, ap])
    · rcases List.mem_append.mp hp with z | z
      · exact ho p z
      · simp at z
        subst z
        exact ⟨Tm.ok_up (Tm.ok_up tk), Tm.ok_up (Tm.ok_up uk)⟩
  · have hw := eq_false hw
    refine ⟨es, s1, ?_, by omega, ho, x1, hl1⟩
    (simp (config := {decide := true, maxSteps := 1000000}) (disch := omega) only [Df.fn, Nat.reduceAdd, Nat.reduceSub, Nat.reduceMul, Int.reduceToNat, Int.reduceAdd, Int.reduceSub, Int.reduceMul, Int.reduceNeg, Int.reduceLE, Int.reduceLT, at0, at1, at2, at3, Nat.zero_add, Nat.sub_self, List.map_cons, List.map_nil, List.length_cons, List.length_nil, List.replicate_succ, List.replicate_zero, List.cons_append, List.nil_append, List.append_nil, List.getElem?_cons_zero, List.getElem?_cons_succ, Option.join_some, List.set_cons_zero, List.set_cons_succ,
  onB_bl, onO_bl, bind_ok, out_ok, bind_ite, out_ite, seq_next, seq_ret, seq_ite, end_next, end_ret, end_ite, optO_some, optR_some, x_var, x_cst, x_b2, x_b1, x_sset, x_rg, x_and, x_or, x_ite, x_chain, x_tup, x_lst, x_idx, x_slc, x_call, x_isi, x_gin, x_gget, x_comp, x_nil, x_cons, x_asg, x_asgT, x_par, x_sub, x_app, x_ext, x_expr, x_ret, x_retN, x_ife, x_for, x_pass, x_end, x_seq,
  turn_next, turn_ret, turn_ite, pyEq_int, wipeD, setTgt, setEach,
  o_add_i, o_add_t, o_sub, o_mul_i, o_fdiv, o_mod, o_eq, o_ne, o_lt, o_le, o_gt, o_ge, o_mx, o_mn, o_neg, o_len_t, o_len_l, o_int_i, o_int_b, o_isN, o_notN, o_asI, o_isF, o_lnot, o_truth, o_tuple_t, o_tuple_l, o_list_t, o_idx_t, o_all_last, o_tuple_last, MP.isNon, Bool.not_true, Bool.not_false, List.length_append, List.append_assoc,
  truthOf, isTys, isTy, kindD, tyB, gc_self, mkT, mkL, lim, seqOf, Option.map_some, Nat.beq, Bool.or_false, Bool.or_true, decide_eq_true_eq, decide_true, decide_false, Bool.true_and, Bool.true_or, Bool.false_or, Bool.false_and, Bool.and_false, Bool.and_true, if_true, Bool.false_eq_true, if_false, ite_true, ite_false, mG, t1, hw])
theorem und_map {α : Type} (n : Nat) (g : α → D) (l : List α) (h : ∀ x ∈ l, (g x).und n = true) : D.unds n (l.map g) = true := by
  clear hn hk hr
  induction l with
  | nil => rfl
  | cons x l ih => simp [D.unds, h x (List.mem_cons_self ..), ih fun y hy => h y (List.mem_cons_of_mem _ hy)]
end
theorem und_mill (n : Nat) (m : Ml) : m.d.und n = true := by
  have um : ∀ {α : Type} (g : α → D) (l : List α) (h : ∀ x ∈ l, (g x).und n = true), D.unds n (l.map g) = true := by
    intro α g l h
    induction l with
    | nil => rfl
    | cons x l ih => simp [D.unds, h x (List.mem_cons_self ..), ih fun y hy => h y (List.mem_cons_of_mem _ hy)]
  simp only [Ml.d, Ml.nd, D.und, D.unds, Bool.and_true, Bool.true_and]
  rw [um nmD m.names (fun _ _ => rfl), um D.int m.told (fun _ _ => rfl), um eqD m.eqs (fun p _ => by simp [eqD, D.und, D.unds, und_tm])]
  rfl
theorem mill_ok {ns : List Int} (hn : ns.length ≤ 63) : ∀ k, 9 ≤ k → ∀ st, RowS ns st → ∃ (m : Ml) (s : Sto), run tb k 33 [.loc 1] st = .ok m.d s ∧ m.ok ∧ Ch st s := lift fun k hk st hr => by
  rw [run_succ (f := d33.fn) rfl rfl, d33_body]
  obtain ⟨l, many, s1, e1, l1, l3, hm, x1⟩ := stA hn hk hr (Chx.of hr.refl)
  obtain ⟨nm, s2, e2, ln, hnm, x2⟩ := stBC hn hk hr x1 (l := l) hm
  obtain ⟨td, s3, e3, htd, x3⟩ := stD hn hk hr x2 (l := l) hm (.tup (nm.map nmD))
  obtain ⟨es, s4, b4, b7, b8, e4, h1, h2, x4, h4⟩ := stF hn hk hr hnm hm ln (f := s3.length) x3.len (still := stillOf 1 (.int many) .non (s3 ++ [.lst []])) (fun _ => rfl) (L := some (.int l)) (TD := some (.tup (td.map .int))) many 0 (s3 ++ [.lst []]) [] none none none (by omega) (x3.app _) (at_l _ _ _) (by simp) (by simp)
  obtain ⟨es', s5, e5, h5, h6, x5, h7⟩ := stG hn hk hr hm x4 x3.len h4 h1 h2 (some (.int l)) (some (.tup (nm.map nmD))) b4 (some (.tup (td.map .int))) b7 b8
  obtain ⟨s0, g1, g2⟩ := Chx.end (d := (Ml.mk l nm td es').d) hr x5 (und_mill _ _)
  refine ⟨⟨l, nm, td, es'⟩, s0, ?_, ⟨l1, l3, by show 1 ≤ nm.length; omega, by show nm.length ≤ 2; omega, hnm, by show td = [0] ∨ (nm.length = 2 ∧ _); rw [ln]; exact htd, h5, by show ∀ p ∈ es', p.1.ok nm.length 4 ∧ p.2.ok nm.length 4; rw [ln]; exact h6⟩, g2⟩
  rw [← g1]
  have st0 : List.map some [D.loc 1] ++ List.replicate (d33.fn.ns - d33.fn.ps) none = [some (.loc 1), none, none, none, none, none, none, none, none] := rfl
  have it := it_rng many .non (s3 ++ [.lst []]) (by omega)
  rw [st0, evSs_app, e1, seq_next, evSs_app, e2, seq_next, evSs_app, e3, seq_next, evSs_app]
  have e6 : evSs (run tb k) [mE] [some (.loc 1), some (.int l), some (.int many), some (.tup (nm.map nmD)), none, some (.tup (td.map .int)), none, none, none] s3 = .next [some (.loc 1), some (.int l), some (.int many), some (.tup (nm.map nmD)), none, some (.tup (td.map .int)), some (.loc s3.length), none, none] (s3 ++ [.lst []]) := by
    (simp (config := {decide := true, maxSteps := 1000000}) (disch := omega) only [Df.fn, Nat.reduceAdd, Nat.reduceSub, Nat.reduceMul, Int.reduceToNat, Int.reduceAdd, Int.reduceSub, Int.reduceMul, Int.reduceNeg, Int.reduceLE, Int.reduceLT, at0, at1, at2, at3, Nat.zero_add, Nat.sub_self, List.map_cons, List.map_nil, List.length_cons, List.length_nil, List.replicate_succ, List.replicate_zero, List.cons_append, List.nil_append, List.append_nil, List.getElem?_cons_zero, List.getElem?_cons_succ, Option.join_some, List.set_cons_zero, List.set_cons_succ,
  onB_bl, onO_bl, bind_ok, out_ok, bind_ite, out_ite, seq_next, seq_ret, seq_ite, end_next, end_ret, end_ite, optO_some, optR_some, x_var, x_cst, x_b2, x_b1, x_sset, x_rg, x_and, x_or, x_ite, x_chain, x_tup, x_lst, x_idx, x_slc, x_call, x_isi, x_gin, x_gget, x_comp, x_nil, x_cons, x_asg, x_asgT, x_par, x_sub, x_app, x_ext, x_expr, x_ret, x_retN, x_ife, x_for, x_pass, x_end, x_seq,
  turn_next, turn_ret, turn_ite, pyEq_int, wipeD, setTgt, setEach,
  o_add_i, o_add_t, o_sub, o_mul_i, o_fdiv, o_mod, o_eq, o_ne, o_lt, o_le, o_gt, o_ge, o_mx, o_mn, o_neg, o_len_t, o_len_l, o_int_i, o_int_b, o_isN, o_notN, o_asI, o_isF, o_lnot, o_truth, o_tuple_t, o_tuple_l, o_list_t, o_idx_t, o_all_last, o_tuple_last, MP.isNon, Bool.not_true, Bool.not_false, List.length_append, List.append_assoc,
  truthOf, isTys, isTy, kindD, tyB, gc_self, mkT, mkL, lim, seqOf, Option.map_some, Nat.beq, Bool.or_false, Bool.or_true, decide_eq_true_eq, decide_true, decide_false, Bool.true_and, Bool.true_or, Bool.false_or, Bool.false_and, Bool.and_false, Bool.and_true, if_true, Bool.false_eq_true, if_false, ite_true, ite_false, mE, MP.alloc])
  rw [e6, seq_next, evSs_app]
  have e7 : evSs (run tb k) [mF] [some (.loc 1), some (.int l), some (.int many), some (.tup (nm.map nmD)), none, some (.tup (td.map .int)), some (.loc s3.length), none, none] (s3 ++ [.lst []]) = .next [some (.loc 1), some (.int l), some (.int many), some (.tup (nm.map nmD)), b4, some (.tup (td.map .int)), some (.loc s3.length), b7, b8] s4 := by
    have c0 : ((0 : Nat) : Int) = 0 := rfl
    rw [c0] at e4
    (simp (config := {decide := true, maxSteps := 1000000}) (disch := omega) only [Df.fn, Nat.reduceAdd, Nat.reduceSub, Nat.reduceMul, Int.reduceToNat, Int.reduceAdd, Int.reduceSub, Int.reduceMul, Int.reduceNeg, Int.reduceLE, Int.reduceLT, at0, at1, at2, at3, Nat.zero_add, Nat.sub_self, List.map_cons, List.map_nil, List.length_cons, List.length_nil, List.replicate_succ, List.replicate_zero, List.cons_append, List.nil_append, List.append_nil, List.getElem?_cons_zero, List.getElem?_cons_succ, Option.join_some, List.set_cons_zero, List.set_cons_succ,
  onB_bl, onO_bl, bind_ok, out_ok, bind_ite, out_ite, seq_next, seq_ret, seq_ite, end_next, end_ret, end_ite, optO_some, optR_some, x_var, x_cst, x_b2, x_b1, x_sset, x_rg, x_and, x_or, x_ite, x_chain, x_tup, x_lst, x_idx, x_slc, x_call, x_isi, x_gin, x_gget, x_comp, x_nil, x_cons, x_asg, x_asgT, x_par, x_sub, x_app, x_ext, x_expr, x_ret, x_retN, x_ife, x_for, x_pass, x_end, x_seq,
  turn_next, turn_ret, turn_ite, pyEq_int, wipeD, setTgt, setEach,
  o_add_i, o_add_t, o_sub, o_mul_i, o_fdiv, o_mod, o_eq, o_ne, o_lt, o_le, o_gt, o_ge, o_mx, o_mn, o_neg, o_len_t, o_len_l, o_int_i, o_int_b, o_isN, o_notN, o_asI, o_isF, o_lnot, o_truth, o_tuple_t, o_tuple_l, o_list_t, o_idx_t, o_all_last, o_tuple_last, MP.isNon, Bool.not_true, Bool.not_false, List.length_append, List.append_assoc,
  truthOf, isTys, isTy, kindD, tyB, gc_self, mkT, mkL, lim, seqOf, Option.map_some, Nat.beq, Bool.or_false, Bool.or_true, decide_eq_true_eq, decide_true, decide_false, Bool.true_and, Bool.true_or, Bool.false_or, Bool.false_and, Bool.and_false, Bool.and_true, if_true, Bool.false_eq_true, if_false, ite_true, ite_false, mF, it, e4])
  rw [e7, seq_next, evSs_app, e5, seq_next]
  have lt := lstAt_of h7
  (simp (config := {decide := true, maxSteps := 1000000}) (disch := omega) only [Df.fn, Nat.reduceAdd, Nat.reduceSub, Nat.reduceMul, Int.reduceToNat, Int.reduceAdd, Int.reduceSub, Int.reduceMul, Int.reduceNeg, Int.reduceLE, Int.reduceLT, at0, at1, at2, at3, Nat.zero_add, Nat.sub_self, List.map_cons, List.map_nil, List.length_cons, List.length_nil, List.replicate_succ, List.replicate_zero, List.cons_append, List.nil_append, List.append_nil, List.getElem?_cons_zero, List.getElem?_cons_succ, Option.join_some, List.set_cons_zero, List.set_cons_succ,
  onB_bl, onO_bl, bind_ok, out_ok, bind_ite, out_ite, seq_next, seq_ret, seq_ite, end_next, end_ret, end_ite, optO_some, optR_some, x_var, x_cst, x_b2, x_b1, x_sset, x_rg, x_and, x_or, x_ite, x_chain, x_tup, x_lst, x_idx, x_slc, x_call, x_isi, x_gin, x_gget, x_comp, x_nil, x_cons, x_asg, x_asgT, x_par, x_sub, x_app, x_ext, x_expr, x_ret, x_retN, x_ife, x_for, x_pass, x_end, x_seq,
  turn_next, turn_ret, turn_ite, pyEq_int, wipeD, setTgt, setEach,
  o_add_i, o_add_t, o_sub, o_mul_i, o_fdiv, o_mod, o_eq, o_ne, o_lt, o_le, o_gt, o_ge, o_mx, o_mn, o_neg, o_len_t, o_len_l, o_int_i, o_int_b, o_isN, o_notN, o_asI, o_isF, o_lnot, o_truth, o_tuple_t, o_tuple_l, o_list_t, o_idx_t, o_all_last, o_tuple_last, MP.isNon, Bool.not_true, Bool.not_false, List.length_append, List.append_assoc,
  truthOf, isTys, isTy, kindD, tyB, gc_self, mkT, mkL, lim, seqOf, Option.map_some, Nat.beq, Bool.or_false, Bool.or_true, decide_eq_true_eq, decide_true, decide_false, Bool.true_and, Bool.true_or, Bool.false_or, Bool.false_and, Bool.and_false, Bool.and_true, if_true, Bool.false_eq_true, if_false, ite_true, ite_false, mH, lt, Ml.d, Ml.nd])
end Lw
/-! ## KM11 -/
set_option Elab.async false
set_option linter.all false
set_option autoImplicit false
set_option maxRecDepth 100000
set_option maxHeartbeats 1000000
namespace Lw
open PySem PySem.Spec PyProof.Rows L2 MP
/-- the columns of the first names -/
def good (pre : List (Int × Int)) (r : List Int) : Prop := r.length = pre.length ∧ ∀ q ∈ pre.zip r, 0 ≤ q.2 ∧ q.2 < q.1.1
theorem good_snoc {pre : List (Int × Int)} {r : List Int} (h : good pre r) {p : Int × Int} {v : Int} (h0 : 0 ≤ v) (h1 : v < p.1) : good (pre ++ [p]) (r ++ [v]) := by
  refine ⟨by simp [h.1], fun q hq => ?_⟩
  rw [List.zip_append h.1.symm] at hq
  rcases List.mem_append.mp hq with z | z
  · exact h.2 q z
  · simp at z
    subst z
    exact ⟨h0, h1⟩
def goods (letter : Int) (pre : List (Int × Int)) (L : List (List Int)) : Prop := ∀ c ∈ L, ∃ r, c = letter :: r ∧ good pre r
theorem still_l {f : Nat} {xs : List D} {s s' : Sto} (h : lstAt s f = some xs) (h' : lstAt s' f = some xs) (y : D) : stillOf 0 (.loc f) y s s' = true := by
  simp only [stillOf, seqOf, h, seqStays, h', D.eqbs_refl]
theorem und_ints (n : Nat) : ∀ c : List Int, D.unds n (c.map .int) = true
  | [] => rfl
  | x :: c => by simp [D.unds, D.und, und_ints n c]
theorem und_cD (n : Nat) (c : List Int) : (cD c).und n = true := und_ints n c
def ext (c : List Int) (d : D) : D := match d with
  | .int v => cD (c ++ [v])
  | _ => .non
theorem ext_map (c : List Int) : ∀ (n : Nat) (lo : Nat), (rangeD (lo : Int) n).map (ext c) = ((List.range n).map fun i => c ++ [((lo + i : Nat) : Int)]).map cD
  | 0, lo => rfl
  | n + 1, lo => by
    rw [List.range_succ_eq_map]
    simp only [rangeD, List.map_cons, List.map_map]
    have := ext_map c n (lo + 1)
    rw [show (((lo + 1 : Nat)) : Int) = (lo : Int) + 1 from rfl] at this
    rw [this, List.map_map]
    congr 1
    · apply List.map_congr_left
      intro i _
      simp only [Function.comp]
      congr 4
      omega
abbrev cIn : List CS := [(.asg 5 (.b2 .add (.var 5) (.comp [7] [7] true 1 (.var 3) (.cst .non) (.cst (.bl true)) (.b2 .add (.var 6) (.tup [(.var 7)])))))]
abbrev cOut : List CS := [(.asg 5 (.lst [])), (.for [6] true 0 (.var 2) (.cst .non) cIn), (.asg 2 (.var 5))]
theorem cols_in {cl : Nat → List D → Sto → R D} {A0 A1 A4 A7 : Option D} {f : Nat} {base : Sto} {L0 : List D} (hL0 : lstAt base f = some L0) {v : Nat} (hv : v ≤ 3) {letter : Int} {pre : List (Int × Int)} {p : Int × Int} (hp : p.1 = v) :
    ∀ (L : List (List Int)) (s : Sto) (acc : List (List Int)) (g : Nat) (A6 : Option D), goods letter pre L → (∀ c ∈ L, c.length ≤ 100) → Ext base s → lstAt s f = some L0 → s[g]? = some (.lst (acc.map cD)) → goods letter (pre ++ [p]) acc → acc.length + 3 * L.length ≤ 100000 →
    ∃ (acc' : List (List Int)) (s' : Sto) (g' : Nat) (B6 B7 : Option D), forL (stillOf 0 (.loc f) .non base) (setTgt true [6]) (evSs cl cIn) (L.map cD) [A0, A1, some (.loc f), some (.int v), A4, some (.loc g), A6, A7] s = .next [A0, A1, some (.loc f), some (.int v), A4, some (.loc g'), B6, A7] s' ∧
      Ext base s' ∧ s'[g']? = some (.lst (acc'.map cD)) ∧ goods letter (pre ++ [p]) acc' ∧ acc'.length = acc.length + v * L.length
  | [], s, acc, g, A6, _, _, x, hf, hg, ha, _ => ⟨acc, s, g, A6, A7, for_nil _ _ _ _ _ (still_l hL0 hf _), x, hg, ha, by simp⟩
  | c :: L, s, acc, g, A6, hL, hlen, x, hf, hg, ha, hl => by
    have it := it_rng v .non s (by omega)
    have add := o_add_l (s := s ++ [.lst ((rangeD 0 v).map (ext c))]) (n := g) (m := s.length) (xs := acc.map cD) (ys := (rangeD 0 v).map (ext c)) (Ext.at ⟨_, rfl⟩ hg) at_last (by simp [range_len]; simp at hl; omega)
    have em := ext_map c v 0
    have x2 : Ext base (s ++ [.lst ((rangeD 0 v).map (ext c))] ++ [.lst (acc.map cD ++ (rangeD 0 v).map (ext c))]) := (x.app _).app _
    obtain ⟨v1, v2⟩ := gcE_view (s := s) x2 x.len [A0, A1, some (.loc f), some (.int v), A4, some (.loc (s ++ [O.lst ((rangeD 0 v).map (ext c))]).length), some (cD c), A7]
    have v3 := v2 2 f rfl
    have v4 := v2 5 _ rfl
    rw [at_last] at v4
    have xf : Ext s (s ++ [.lst ((rangeD 0 v).map (ext c))] ++ [.lst (acc.map cD ++ (rangeD 0 v).map (ext c))]) := ((Ext.refl s).app _).app _
    have v5 : lstAt (gcE s (s ++ [.lst ((rangeD 0 v).map (ext c))] ++ [.lst (acc.map cD ++ (rangeD 0 v).map (ext c))]) [A0, A1, some (.loc f), some (.int v), A4, some (.loc (s ++ [O.lst ((rangeD 0 v).map (ext c))]).length), some (cD c), A7]) f = some L0 := by
      unfold lstAt at hf ⊢
      rw [v3]
      split at hf
      · rename_i e; rw [xf.at e]; exact hf
      · rename_i e; rw [xf.at e]; exact hf
      · cases hf
    have hm : acc.map cD ++ (rangeD 0 v).map (ext c) = (acc ++ (List.range v).map fun i => c ++ [((0 + i : Nat) : Int)]).map cD := by
      rw [List.map_append, ← em]
      rfl
    have v4 := v4.trans (congrArg (fun z => some (O.lst z)) hm)
    obtain ⟨r, hc, hr⟩ := hL c (List.mem_cons_self ..)
    obtain ⟨acc', s', g', B6, B7, r1, r2, r3, r4, r5⟩ := cols_in hL0 hv hp L _ (acc ++ (List.range v).map fun i => c ++ [((0 + i : Nat) : Int)]) _ (some (cD c)) (cl := cl) (A0 := A0) (A1 := A1) (A4 := A4) (A7 := A7) (letter := letter) (pre := pre) (p := p)
      (fun c' h' => hL c' (List.mem_cons_of_mem _ h')) (fun c' h' => hlen c' (List.mem_cons_of_mem _ h')) v1 v5 v4 (fun c' h' => by
        rcases List.mem_append.mp h' with z | z
        · exact ha c' z
        · obtain ⟨i, hi, rfl⟩ := List.mem_map.mp z
          have := List.mem_range.mp hi
          exact ⟨r ++ [((0 + i : Nat) : Int)], by rw [hc]; rfl, good_snoc hr (by omega) (by rw [hp]; omega)⟩) (by simp at hl ⊢; omega)
    refine ⟨acc', s', g', B6, B7, ?_, r2, r3, r4, by rw [r5]; simp [Nat.mul_add]; omega⟩
    rw [← r1]
    simp only [List.map_cons]
    rw [for_cons _ _ _ _ _ _ _ (still_l hL0 hf _)]
    (simp (config := {decide := true, maxSteps := 1000000}) (disch := omega) only [Df.fn, Nat.reduceAdd, Nat.reduceSub, Nat.reduceMul, Int.reduceToNat, Int.reduceAdd, Int.reduceSub, Int.reduceMul, Int.reduceNeg, Int.reduceLE, Int.reduceLT, at0, at1, at2, at3, Nat.zero_add, Nat.sub_self, List.map_cons, List.map_nil, List.length_cons, List.length_nil, List.replicate_succ, List.replicate_zero, List.cons_append, List.nil_append, List.append_nil, List.getElem?_cons_zero, List.getElem?_cons_succ, Option.join_some, List.set_cons_zero, List.set_cons_succ,
  onB_bl, onO_bl, bind_ok, out_ok, bind_ite, out_ite, seq_next, seq_ret, seq_ite, end_next, end_ret, end_ite, optO_some, optR_some, x_var, x_cst, x_b2, x_b1, x_sset, x_rg, x_and, x_or, x_ite, x_chain, x_tup, x_lst, x_idx, x_slc, x_call, x_isi, x_gin, x_gget, x_comp, x_nil, x_cons, x_asg, x_asgT, x_par, x_sub, x_app, x_ext, x_expr, x_ret, x_retN, x_ife, x_for, x_pass, x_end, x_seq,
  turn_next, turn_ret, turn_ite, pyEq_int, wipeD, setTgt, setEach,
  o_add_i, o_add_t, o_sub, o_mul_i, o_fdiv, o_mod, o_eq, o_ne, o_lt, o_le, o_gt, o_ge, o_mx, o_mn, o_neg, o_len_t, o_len_l, o_int_i, o_int_b, o_isN, o_notN, o_asI, o_isF, o_lnot, o_truth, o_tuple_t, o_tuple_l, o_list_t, o_idx_t, o_all_last, o_tuple_last, MP.isNon, Bool.not_true, Bool.not_false, List.length_append, List.append_assoc,
  truthOf, isTys, isTy, kindD, tyB, gc_self, mkT, mkL, lim, seqOf, Option.map_some, Nat.beq, Bool.or_false, Bool.or_true, decide_eq_true_eq, decide_true, decide_false, Bool.true_and, Bool.true_or, Bool.false_or, Bool.false_and, Bool.and_false, Bool.and_true, if_true, Bool.false_eq_true, if_false, ite_true, ite_false, cIn, it])
    rw [comp_at s (ext c) (rangeD 0 v) ?_ ?_ ?_ ?_ ?_]
    · (simp (config := {decide := true, maxSteps := 1000000}) (disch := omega) only [Df.fn, Nat.reduceAdd, Nat.reduceSub, Nat.reduceMul, Int.reduceToNat, Int.reduceAdd, Int.reduceSub, Int.reduceMul, Int.reduceNeg, Int.reduceLE, Int.reduceLT, at0, at1, at2, at3, Nat.zero_add, Nat.sub_self, List.map_cons, List.map_nil, List.length_cons, List.length_nil, List.replicate_succ, List.replicate_zero, List.cons_append, List.nil_append, List.append_nil, List.getElem?_cons_zero, List.getElem?_cons_succ, Option.join_some, List.set_cons_zero, List.set_cons_succ,
  onB_bl, onO_bl, bind_ok, out_ok, bind_ite, out_ite, seq_next, seq_ret, seq_ite, end_next, end_ret, end_ite, optO_some, optR_some, x_var, x_cst, x_b2, x_b1, x_sset, x_rg, x_and, x_or, x_ite, x_chain, x_tup, x_lst, x_idx, x_slc, x_call, x_isi, x_gin, x_gget, x_comp, x_nil, x_cons, x_asg, x_asgT, x_par, x_sub, x_app, x_ext, x_expr, x_ret, x_retN, x_ife, x_for, x_pass, x_end, x_seq,
  turn_next, turn_ret, turn_ite, pyEq_int, wipeD, setTgt, setEach,
  o_add_i, o_add_t, o_sub, o_mul_i, o_fdiv, o_mod, o_eq, o_ne, o_lt, o_le, o_gt, o_ge, o_mx, o_mn, o_neg, o_len_t, o_len_l, o_int_i, o_int_b, o_isN, o_notN, o_asI, o_isF, o_lnot, o_truth, o_tuple_t, o_tuple_l, o_list_t, o_idx_t, o_all_last, o_tuple_last, MP.isNon, Bool.not_true, Bool.not_false, List.length_append, List.append_assoc,
  truthOf, isTys, isTy, kindD, tyB, gc_self, mkT, mkL, lim, seqOf, Option.map_some, Nat.beq, Bool.or_false, Bool.or_true, decide_eq_true_eq, decide_true, decide_false, Bool.true_and, Bool.true_or, Bool.false_or, Bool.false_and, Bool.and_false, Bool.and_true, if_true, Bool.false_eq_true, if_false, ite_true, ite_false])
      rw [add]
      (simp (config := {decide := true, maxSteps := 1000000}) (disch := omega) only [Df.fn, Nat.reduceAdd, Nat.reduceSub, Nat.reduceMul, Int.reduceToNat, Int.reduceAdd, Int.reduceSub, Int.reduceMul, Int.reduceNeg, Int.reduceLE, Int.reduceLT, at0, at1, at2, at3, Nat.zero_add, Nat.sub_self, List.map_cons, List.map_nil, List.length_cons, List.length_nil, List.replicate_succ, List.replicate_zero, List.cons_append, List.nil_append, List.append_nil, List.getElem?_cons_zero, List.getElem?_cons_succ, Option.join_some, List.set_cons_zero, List.set_cons_succ,
  onB_bl, onO_bl, bind_ok, out_ok, bind_ite, out_ite, seq_next, seq_ret, seq_ite, end_next, end_ret, end_ite, optO_some, optR_some, x_var, x_cst, x_b2, x_b1, x_sset, x_rg, x_and, x_or, x_ite, x_chain, x_tup, x_lst, x_idx, x_slc, x_call, x_isi, x_gin, x_gget, x_comp, x_nil, x_cons, x_asg, x_asgT, x_par, x_sub, x_app, x_ext, x_expr, x_ret, x_retN, x_ife, x_for, x_pass, x_end, x_seq,
  turn_next, turn_ret, turn_ite, pyEq_int, wipeD, setTgt, setEach,
  o_add_i, o_add_t, o_sub, o_mul_i, o_fdiv, o_mod, o_eq, o_ne, o_lt, o_le, o_gt, o_ge, o_mx, o_mn, o_neg, o_len_t, o_len_l, o_int_i, o_int_b, o_isN, o_notN, o_asI, o_isF, o_lnot, o_truth, o_tuple_t, o_tuple_l, o_list_t, o_idx_t, o_all_last, o_tuple_last, MP.isNon, Bool.not_true, Bool.not_false, List.length_append, List.append_assoc,
  truthOf, isTys, isTy, kindD, tyB, gc_self, mkT, mkL, lim, seqOf, Option.map_some, Nat.beq, Bool.or_false, Bool.or_true, decide_eq_true_eq, decide_true, decide_false, Bool.true_and, Bool.true_or, Bool.false_or, Bool.false_and, Bool.and_false, Bool.and_true, if_true, Bool.false_eq_true, if_false, ite_true, ite_false])
    · rfl
    · rfl
    · exact fun _ => rfl
    · intro x hx
      obtain ⟨i, hi, rfl⟩ := mem_rangeD _ _ _ hx
      refine ⟨_, rfl, fun s => ⟨und_cD _ _, [], ?_⟩⟩
      have lc := hlen c (List.mem_cons_self ..)
      have l1 : ((c.map D.int).length + 1 ≤ 1000000) = True := eq_true (by simp; omega)
      (simp (config := {decide := true, maxSteps := 1000000}) (disch := omega) only [Df.fn, Nat.reduceAdd, Nat.reduceSub, Nat.reduceMul, Int.reduceToNat, Int.reduceAdd, Int.reduceSub, Int.reduceMul, Int.reduceNeg, Int.reduceLE, Int.reduceLT, at0, at1, at2, at3, Nat.zero_add, Nat.sub_self, List.map_cons, List.map_nil, List.length_cons, List.length_nil, List.replicate_succ, List.replicate_zero, List.cons_append, List.nil_append, List.append_nil, List.getElem?_cons_zero, List.getElem?_cons_succ, Option.join_some, List.set_cons_zero, List.set_cons_succ,
  onB_bl, onO_bl, bind_ok, out_ok, bind_ite, out_ite, seq_next, seq_ret, seq_ite, end_next, end_ret, end_ite, optO_some, optR_some, x_var, x_cst, x_b2, x_b1, x_sset, x_rg, x_and, x_or, x_ite, x_chain, x_tup, x_lst, x_idx, x_slc, x_call, x_isi, x_gin, x_gget, x_comp, x_nil, x_cons, x_asg, x_asgT, x_par, x_sub, x_app, x_ext, x_expr, x_ret, x_retN, x_ife, x_for, x_pass, x_end, x_seq,
  turn_next, turn_ret, turn_ite, pyEq_int, wipeD, setTgt, setEach,
  o_add_i, o_add_t, o_sub, o_mul_i, o_fdiv, o_mod, o_eq, o_ne, o_lt, o_le, o_gt, o_ge, o_mx, o_mn, o_neg, o_len_t, o_len_l, o_int_i, o_int_b, o_isN, o_notN, o_asI, o_isF, o_lnot, o_truth, o_tuple_t, o_tuple_l, o_list_t, o_idx_t, o_all_last, o_tuple_last, MP.isNon, Bool.not_true, Bool.not_false, List.length_append, List.append_assoc,
  truthOf, isTys, isTy, kindD, tyB, gc_self, mkT, mkL, lim, seqOf, Option.map_some, Nat.beq, Bool.or_false, Bool.or_true, decide_eq_true_eq, decide_true, decide_false, Bool.true_and, Bool.true_or, Bool.false_or, Bool.false_and, Bool.and_false, Bool.and_true, if_true, Bool.false_eq_true, if_false, ite_true, ite_false, cD, ext, l1, List.map_append])
    · rw [range_len]; omega

theorem cols_out {cl : Nat → List D → Sto → R D} {A0 : Option D} {letter : Int} {still : Sto → Bool} (hs : ∀ s, still s = true) : ∀ (rest pre : List (Int × Int)) (st s : Sto) (L : List (List Int)) (f : Nat) (A3 A4 A5 A6 : Option D),
    (∀ p ∈ rest, 2 ≤ p.1 ∧ p.1 ≤ 3) → goods letter pre L → pre.length + rest.length ≤ 50 → L ≠ [] → L.length * 3 ^ rest.length ≤ 1000 → Ext st s → s[f]? = some (.lst (L.map cD)) →
    ∃ (L' : List (List Int)) (s' : Sto) (f' : Nat) (B3 B4 B5 B6 : Option D), forL still (setTgt false [3, 4]) (evSs cl cOut) (rest.map nmD) [A0, some (.int letter), some (.loc f), A3, A4, A5, A6, none] s = .next [A0, some (.int letter), some (.loc f'), B3, B4, B5, B6, none] s' ∧
      Ext st s' ∧ s'[f']? = some (.lst (L'.map cD)) ∧ goods letter (pre ++ rest) L' ∧ L' ≠ [] ∧ L'.length ≤ 1000
  | [], pre, st, s, L, f, A3, A4, A5, A6, _, hg, _, hne, hl, x, hf => ⟨L, s, f, A3, A4, A5, A6, for_nil _ _ _ _ _ (hs _), x, hf, by simpa using hg, hne, by simpa using hl⟩
  | p :: rest, pre, st, s, L, f, A3, A4, A5, A6, hp, hg, hpl, hne, hl, x, hf => by
    obtain ⟨p2, p3⟩ := hp p (List.mem_cons_self ..)
    have pw : 3 ^ (p :: rest).length = 3 ^ rest.length * 3 := by simp [Nat.pow_succ]
    have one : 1 ≤ 3 ^ rest.length := Nat.one_le_pow _ _ (by omega)
    rw [pw] at hl
    have hl1 : L.length * 3 ≤ 1000 := by
      have : L.length * 3 * 1 ≤ L.length * (3 ^ rest.length * 3) := by
        rw [Nat.mul_assoc]
        exact Nat.mul_le_mul_left _ (by omega)
      omega
    have xf : (s ++ [O.lst []])[f]? = some (.lst (L.map cD)) := Ext.at ⟨_, rfl⟩ hf
    have lt := lstAt_of xf
    obtain ⟨acc, s2, g, B6, B7, r1, r2, r3, r4, r5⟩ := cols_in (cl := cl) (A0 := A0) (A1 := some (.int letter)) (A4 := some (.int p.2)) (A7 := none) (f := f) lt (v := p.1.toNat) (by omega) (letter := letter) (pre := pre) (p := p) (by omega) L (s ++ [.lst []]) [] s.length A6 hg
      (fun c hc => by
        obtain ⟨r, rfl, hr⟩ := hg c hc
        have := hr.1
        simp
        omega) (Ext.refl _) lt at_last (fun c hc => by simp at hc) (by simp; omega)
    have ep : ((p.1.toNat : Nat) : Int) = p.1 := by omega
    rw [ep] at r1
    have x2 : Ext st s2 := (x.app _).trans r2
    obtain ⟨v1, v2⟩ := gcE_view (s := s) x2 x.len [A0, some (.int letter), some (.loc g), some (.int p.1), some (.int p.2), some (.loc g), B6, none]
    have v3 := v2 2 g rfl
    rw [r3] at v3
    obtain ⟨L', s', f', C3, C4, C5, C6, q1, q2, q3, q4, q5, q6⟩ := cols_out hs (cl := cl) (A0 := A0) (letter := letter) rest (pre ++ [p]) st _ acc g (some (.int p.1)) (some (.int p.2)) (some (.loc g)) B6 (fun q hq => hp q (List.mem_cons_of_mem _ hq)) r4 (by simp at hpl ⊢; omega) (by
        intro z
        have h1 : 0 < L.length := List.length_pos_iff.mpr hne
        have h2 : 0 < p.1.toNat * L.length := Nat.mul_pos (by omega) h1
        rw [z, List.length_nil] at r5
        omega) (by
        rw [r5]
        have h1 : p.1.toNat * L.length ≤ 3 * L.length := Nat.mul_le_mul_right _ (by omega)
        have h2 : ([] : List (List Int)).length + p.1.toNat * L.length ≤ L.length * 3 := by simp; omega
        have h3 := Nat.mul_le_mul_right (3 ^ rest.length) h2
        have h4 : L.length * 3 * 3 ^ rest.length = L.length * (3 ^ rest.length * 3) := by rw [Nat.mul_assoc, Nat.mul_comm 3]
        omega) v1 v3
    refine ⟨L', s', f', C3, C4, C5, C6, ?_, q2, q3, by simpa using q4, q5, q6⟩
    rw [← q1]
    simp only [List.map_cons]
    rw [for_cons _ _ _ _ _ _ _ (hs _)]
    have it := it_loc lt .non
    (simp (config := {decide := true, maxSteps := 1000000}) (disch := omega) only [Df.fn, Nat.reduceAdd, Nat.reduceSub, Nat.reduceMul, Int.reduceToNat, Int.reduceAdd, Int.reduceSub, Int.reduceMul, Int.reduceNeg, Int.reduceLE, Int.reduceLT, at0, at1, at2, at3, Nat.zero_add, Nat.sub_self, List.map_cons, List.map_nil, List.length_cons, List.length_nil, List.replicate_succ, List.replicate_zero, List.cons_append, List.nil_append, List.append_nil, List.getElem?_cons_zero, List.getElem?_cons_succ, Option.join_some, List.set_cons_zero, List.set_cons_succ,
  onB_bl, onO_bl, bind_ok, out_ok, bind_ite, out_ite, seq_next, seq_ret, seq_ite, end_next, end_ret, end_ite, optO_some, optR_some, x_var, x_cst, x_b2, x_b1, x_sset, x_rg, x_and, x_or, x_ite, x_chain, x_tup, x_lst, x_idx, x_slc, x_call, x_isi, x_gin, x_gget, x_comp, x_nil, x_cons, x_asg, x_asgT, x_par, x_sub, x_app, x_ext, x_expr, x_ret, x_retN, x_ife, x_for, x_pass, x_end, x_seq,
  turn_next, turn_ret, turn_ite, pyEq_int, wipeD, setTgt, setEach,
  o_add_i, o_add_t, o_sub, o_mul_i, o_fdiv, o_mod, o_eq, o_ne, o_lt, o_le, o_gt, o_ge, o_mx, o_mn, o_neg, o_len_t, o_len_l, o_int_i, o_int_b, o_isN, o_notN, o_asI, o_isF, o_lnot, o_truth, o_tuple_t, o_tuple_l, o_list_t, o_idx_t, o_all_last, o_tuple_last, MP.isNon, Bool.not_true, Bool.not_false, List.length_append, List.append_assoc,
  truthOf, isTys, isTy, kindD, tyB, gc_self, mkT, mkL, lim, seqOf, Option.map_some, Nat.beq, Bool.or_false, Bool.or_true, decide_eq_true_eq, decide_true, decide_false, Bool.true_and, Bool.true_or, Bool.false_or, Bool.false_and, Bool.and_false, Bool.and_true, if_true, Bool.false_eq_true, if_false, ite_true, ite_false, cOut, nmD, MP.alloc, it, r1])
theorem law_columns_ok : ∀ k, 1 ≤ k → ∀ (m : Ml) (letter : Int) (st : Sto), m.ok → 0 ≤ letter → letter < m.letters → ∃ (L : List (List Int)) (n : Nat) (s : Sto), run tb k 37 [m.d, .int letter] st = .ok (.loc n) s ∧ Ext st s ∧ s[n]? = some (.lst (L.map cD)) ∧ (∀ c ∈ L, m.col c) ∧ L ≠ [] ∧ L.length ≤ 1000 := lift fun k hk m letter st h h0 h1 => by
  rw [run_succ (f := d37.fn) rfl rfl]
  have n2 := h.n2
  have pw : 3 ^ m.names.length ≤ 3 ^ 2 := Nat.pow_le_pow_right (by omega) n2
  obtain ⟨L, s, n, B3, B4, B5, B6, r1, r2, r3, r4, r5, r6⟩ := cols_out (cl := run tb k) (A0 := some m.d) (letter := letter) (still := stillOf 0 (.tup (m.names.map nmD)) .non (st ++ [.lst [cD [letter]]])) (fun _ => rfl) m.names [] st (st ++ [.lst [cD [letter]]]) [[letter]] st.length none none none none
    (fun p hp => ⟨(h.nm p hp).1, (h.nm p hp).2.1⟩) (fun c hc => by simp at hc; exact ⟨[], hc, rfl, by simp⟩) (by simp; omega) (by simp) (by simp; omega) ⟨_, rfl⟩ at_last
  simp only [Ml.d, Ml.nd, cD, List.map_cons, List.map_nil] at r1
  obtain ⟨n', s', e1, e2, e3⟩ := rl_gc r2 r3
  refine ⟨L, n', s', ?_, e2, e3, fun c hc => ?_, r5, r6⟩
  · rw [← e1]
    ((simp (config := {decide := true, maxSteps := 1000000}) (disch := omega) only [Df.fn, Nat.reduceAdd, Nat.reduceSub, Nat.reduceMul, Int.reduceToNat, Int.reduceAdd, Int.reduceSub, Int.reduceMul, Int.reduceNeg, Int.reduceLE, Int.reduceLT, at0, at1, at2, at3, Nat.zero_add, Nat.sub_self, List.map_cons, List.map_nil, List.length_cons, List.length_nil, List.replicate_succ, List.replicate_zero, List.cons_append, List.nil_append, List.append_nil, List.getElem?_cons_zero, List.getElem?_cons_succ, Option.join_some, List.set_cons_zero, List.set_cons_succ,
  onB_bl, onO_bl, bind_ok, out_ok, bind_ite, out_ite, seq_next, seq_ret, seq_ite, end_next, end_ret, end_ite, optO_some, optR_some, x_var, x_cst, x_b2, x_b1, x_sset, x_rg, x_and, x_or, x_ite, x_chain, x_tup, x_lst, x_idx, x_slc, x_call, x_isi, x_gin, x_gget, x_comp, x_nil, x_cons, x_asg, x_asgT, x_par, x_sub, x_app, x_ext, x_expr, x_ret, x_retN, x_ife, x_for, x_pass, x_end, x_seq,
  turn_next, turn_ret, turn_ite, pyEq_int, wipeD, setTgt, setEach,
  o_add_i, o_add_t, o_sub, o_mul_i, o_fdiv, o_mod, o_eq, o_ne, o_lt, o_le, o_gt, o_ge, o_mx, o_mn, o_neg, o_len_t, o_len_l, o_int_i, o_int_b, o_isN, o_notN, o_asI, o_isF, o_lnot, o_truth, o_tuple_t, o_tuple_l, o_list_t, o_idx_t, o_all_last, o_tuple_last, MP.isNon, Bool.not_true, Bool.not_false, List.length_append, List.append_assoc,
  truthOf, isTys, isTy, kindD, tyB, gc_self, mkT, mkL, lim, seqOf, Option.map_some, Nat.beq, Bool.or_false, Bool.or_true, decide_eq_true_eq, decide_true, decide_false, Bool.true_and, Bool.true_or, Bool.false_or, Bool.false_and, Bool.and_false, Bool.and_true, if_true, Bool.false_eq_true, if_false, ite_true, ite_false, toB_map, toB, optAll, all_q, all_tt, List.all_cons, List.all_nil, id, gc_b, gc_n, gc_i, slc1, it_tup, List.drop_succ_cons, List.drop_zero, d37, Ml.d, Ml.nd, MP.alloc, r1]))
  · obtain ⟨r, rfl, hr⟩ := r4 c hc
    have := hr.1
    exact ⟨by simp at this ⊢; exact this, letter, r, rfl, h0, h1, by simpa using hr.2⟩
end Lw
/-! ## KM12 -/
set_option Elab.async false
set_option linter.all false
set_option autoImplicit false
set_option maxRecDepth 100000
set_option maxHeartbeats 1000000
namespace Lw
open PySem PySem.Spec PyProof.Rows L2 MP
/-! ### what stands where -/
def bef (m : Ml) : List Int := 0 :: m.names.map (·.2)
theorem bef_col {m : Ml} (h : m.ok) : m.col (bef m) := by
  refine ⟨by simp [bef], 0, _, rfl, Int.le_refl _, by have := h.l1; omega, fun q hq => ?_⟩
  have : ∀ l : List (Int × Int), (∀ p ∈ l, 2 ≤ p.1 ∧ p.1 ≤ 3 ∧ 0 ≤ p.2 ∧ p.2 < p.1) → ∀ q ∈ l.zip (l.map (·.2)), 0 ≤ q.2 ∧ q.2 < q.1.1 := by
    intro l
    induction l with
    | nil => intro _ q hq; simp at hq
    | cons p l ih =>
      intro h q hq
      simp only [List.map_cons, List.zip_cons_cons, List.mem_cons] at hq
      rcases hq with rfl | hq
      · exact (h p (List.mem_cons_self ..)).2.2
      · exact ih (fun p' h' => h p' (List.mem_cons_of_mem _ h')) q hq
  exact this m.names h.nm q hq
theorem col_val {m : Ml} (h : m.ok) {c : List Int} (hc : m.col c) : ∀ j : Nat, j ≤ m.names.length → ∃ x, c[j]? = some x ∧ 0 ≤ x ∧ x ≤ 2 := by
  obtain ⟨a, r, rfl, a0, a1, hr⟩ := hc.l0
  have hl := hc.len
  have := h.l3
  intro j hj
  cases j with
  | zero => exact ⟨a, rfl, a0, by omega⟩
  | succ j =>
    simp only [List.length_cons] at hl
    have jr : j < r.length := by omega
    have jn : j < m.names.length := by omega
    refine ⟨r[j], by simp [List.getElem?_eq_getElem jr], ?_⟩
    have hz : (m.names[j], r[j]) ∈ m.names.zip r := by
      have hlz : j < (m.names.zip r).length := by simp; omega
      have := List.getElem_mem hlz
      simpa using this
    have h1 := hr _ hz
    have h2 := h.nm _ (List.getElem_mem jn)
    simp only at h1
    omega
/-- the values of a column -/
def val (c : List Int) (j : Nat) : Int := (c[j]?).getD 0
theorem at_val {m : Ml} (h : m.ok) {c : List Int} (hc : m.col c) (j : Nat) (hj : j ≤ m.names.length) : atD (c.map D.int) (j : Int) = some (.int (val c j)) ∧ 0 ≤ val c j ∧ val c j ≤ 2 := by
  obtain ⟨x, e, h0, h2⟩ := col_val h hc j hj
  have ev : val c j = x := by unfold val; rw [e]; rfl
  rw [ev, atD_nat, List.getElem?_map, e]
  exact ⟨rfl, h0, h2⟩
theorem sees_of {m : Ml} (h : m.ok) {cs : List (List Int)} {at_ o : Int} {look : Int → Nat → Int} {c : List Int} (h0 : 0 ≤ at_ + o) (hc : cs[(at_ + o).toNat]? = some c) (hcol : m.col c) (hl : ∀ j, look o j = val c j) : sees cs at_ m.names.length look o ∧ ∀ j ≤ m.names.length, 0 ≤ look o j ∧ look o j ≤ 2 := by
  refine ⟨⟨c, ?_, fun j hj => ?_⟩, fun j hj => ?_⟩
  · unfold atD
    rw [if_pos h0, List.getElem?_map, hc]
    rfl
  · rw [hl]; exact (at_val h hcol j hj).1
  · rw [hl]; exact (at_val h hcol j hj).2
theorem lsees_of {m : Ml} (h : m.ok) {cs : List (List Int)} {tick o : Int} {look : Int → Nat → Int} {c : List Int} (hc : 0 ≤ tick + o → cs[(tick + o).toNat]? = some c) (hb : tick + o < 0 → c = bef m) (hcol : m.col c) (hl : ∀ j, look o j = val c j) : lsees m cs tick look o ∧ ∀ j ≤ m.names.length, 0 ≤ look o j ∧ look o j ≤ 2 := by
  refine ⟨⟨fun h0 => (sees_of h h0 (hc h0) hcol hl).1, fun h0 j hj => ?_⟩, fun j hj => by rw [hl]; exact (at_val h hcol j hj).2⟩
  have e : (D.int 0 :: m.names.map fun p => D.int p.2) = (bef m).map D.int := by simp [bef]
  rw [e, hl, hb h0]
  exact (at_val h (bef_col h) j hj).1
theorem ev_congr {names : Nat} {l1 l2 : Int → Nat → Int} : ∀ (d : Nat) (t : Tm), t.ok names d → (∀ o ∈ t.offs, ∀ j ≤ names, l1 o j = l2 o j) → t.ev l1 = t.ev l2
  | 0, t, h, _ => h.elim
  | d + 1, t, h, hl => by
    cases t with
    | inp o => exact hl o (by simp [Tm.offs]) 0 (by omega)
    | of n o => exact hl o (by simp [Tm.offs]) (n + 1) (by have := h.1; omega)
    | is v => rfl
    | rest t m => simp only [Tm.ev]; rw [ev_congr d t h.1 hl]
    | pick a b c =>
      simp only [Tm.ev]
      rw [ev_congr d a h.1 fun o ho => hl o (by simp [Tm.offs, ho]), ev_congr d b h.2.1 fun o ho => hl o (by simp [Tm.offs, ho]), ev_congr d c h.2.2 fun o ho => hl o (by simp [Tm.offs, ho])]
    | two w a b =>
      simp only [Tm.ev]
      rw [ev_congr d a h.1 fun o ho => hl o (by simp [Tm.offs, ho]), ev_congr d b h.2 fun o ho => hl o (by simp [Tm.offs, ho])]
theorem all_mem {α : Type} {f g : α → Bool} : ∀ {l : List α}, (∀ x ∈ l, f x = g x) → l.all f = l.all g
  | [], _ => rfl
  | x :: l, h => by rw [List.all_cons, List.all_cons, h x (List.mem_cons_self ..), all_mem fun y hy => h y (List.mem_cons_of_mem _ hy)]
/-- whether the equations hold at a tick, the columns being c -/
def Hd (m : Ml) (c : Int → List Int) (tick : Int) : Bool := m.eqs.all fun p => decide (p.1.ev (fun o j => val (c (tick + o)) j) = p.2.ev (fun o j => val (c (tick + o)) j))
theorem mem_offs {m : Ml} {p : Tm × Tm} (hp : p ∈ m.eqs) {o : Int} (ho : o ∈ p.1.offs ∨ o ∈ p.2.offs) : o ∈ aoffs m.eqs := by
  unfold aoffs
  rw [List.mem_flatMap]
  exact ⟨p, hp, List.mem_append.mpr ho⟩
theorem offs_bd {m : Ml} {o : Int} (ho : o ∈ aoffs m.eqs) : -m.back ≤ o ∧ o ≤ m.ahead := by
  have h1 := (bkF_ge (aoffs m.eqs) 0).2 o ho
  have h2 := (ahF_ge (aoffs m.eqs) 0).2 o ho
  unfold Ml.back Ml.ahead
  omega
theorem ok_offs {names : Nat} : ∀ (d : Nat) (t : Tm), t.ok names d → ∀ o ∈ t.offs, -1 ≤ o ∧ o ≤ 2
  | 0, t, h, _, _ => h.elim
  | d + 1, t, h, o, ho => by
    cases t with
    | inp o' => simp [Tm.offs] at ho; subst ho; exact h
    | of n o' => simp [Tm.offs] at ho; subst ho; exact ⟨h.2.1, h.2.2⟩
    | is v => simp [Tm.offs] at ho
    | rest t m => exact ok_offs d t h.1 o ho
    | pick a b c =>
      simp only [Tm.offs, List.mem_append] at ho
      rcases ho with z | z | z
      · exact ok_offs d a h.1 o z
      · exact ok_offs d b h.2.1 o z
      · exact ok_offs d c h.2.2 o z
    | two w a b =>
      simp only [Tm.offs, List.mem_append] at ho
      rcases ho with z | z
      · exact ok_offs d a h.1 o z
      · exact ok_offs d b h.2 o z
theorem back_bd {m : Ml} (h : m.ok) : 0 ≤ m.back ∧ m.back ≤ 1 ∧ 0 ≤ m.ahead ∧ m.ahead ≤ 2 := by
  have key : ∀ o ∈ aoffs m.eqs, -1 ≤ o ∧ o ≤ 2 := by
    intro o ho
    unfold aoffs at ho
    rw [List.mem_flatMap] at ho
    obtain ⟨p, hp, hz⟩ := ho
    rcases List.mem_append.mp hz with z | z
    · exact ok_offs 4 _ (h.eq p hp).1 o z
    · exact ok_offs 4 _ (h.eq p hp).2 o z
  refine ⟨(bkF_ge (aoffs m.eqs) 0).1, bkF_le _ _ (by omega) (fun o ho => by have := key o ho; omega), (ahF_ge (aoffs m.eqs) 0).1, ahF_le _ _ (by omega) (fun o ho => (key o ho).2)⟩
theorem Hd_congr {m : Ml} (h : m.ok) {c1 c2 : Int → List Int} {t1 t2 : Int} (hc : ∀ o, -m.back ≤ o → o ≤ m.ahead → c1 (t1 + o) = c2 (t2 + o)) : Hd m c1 t1 = Hd m c2 t2 := by
  unfold Hd
  have : ∀ p ∈ m.eqs, (decide (p.1.ev (fun o j => val (c1 (t1 + o)) j) = p.2.ev (fun o j => val (c1 (t1 + o)) j))) = decide (p.1.ev (fun o j => val (c2 (t2 + o)) j) = p.2.ev (fun o j => val (c2 (t2 + o)) j)) := by
    intro p hp
    have e1 := ev_congr (l1 := fun o j => val (c1 (t1 + o)) j) (l2 := fun o j => val (c2 (t2 + o)) j) 4 p.1 (h.eq p hp).1 (fun o ho j _ => by
      have := offs_bd (mem_offs hp (.inl ho))
      show val _ _ = val _ _
      rw [hc o this.1 this.2])
    have e2 := ev_congr (l1 := fun o j => val (c1 (t1 + o)) j) (l2 := fun o j => val (c2 (t2 + o)) j) 4 p.2 (h.eq p hp).2 (fun o ho j _ => by
      have := offs_bd (mem_offs hp (.inr ho))
      show val _ _ = val _ _
      rw [hc o this.1 this.2])
    rw [e1, e2]
  exact all_mem this
/-- the law's equations, over columns of a list -/
theorem law_holds_at {m : Ml} (h : m.ok) {cs : List (List Int)} {c : Int → List Int} {tick : Int} (hc : ∀ p, tick - m.back ≤ p → p ≤ tick + m.ahead → (0 ≤ p → cs[p.toNat]? = some (c p)) ∧ (p < 0 → c p = bef m) ∧ m.col (c p)) :
    ∀ k, 6 ≤ k → ∀ st, run tb k 39 [m.d, colsD cs, .int tick] st = .ok (.bl (Hd m c tick)) st := fun k hk st =>
  law_holds_ok h k hk st fun p hp o ho => by
    have b := offs_bd (mem_offs hp ho)
    obtain ⟨h1, h2, h3⟩ := hc (tick + o) (by omega) (by omega)
    exact lsees_of h h1 h2 h3 fun j => rfl
theorem all_hold_at {m : Ml} (h : m.ok) {cs : List (List Int)} {c : Int → List Int} {tick at_ : Int} (hc : ∀ p, tick - m.back ≤ p → p ≤ tick + m.ahead → 0 ≤ p + (at_ - tick) ∧ cs[(p + (at_ - tick)).toNat]? = some (c p) ∧ m.col (c p)) :
    ∀ k, 9 ≤ k → ∀ st, run tb k 11 [.tup (m.eqs.map eqD), colsD cs, .int at_] st = .ok (.bl (Hd m c tick)) st := fun k hk st =>
  all_hold_ok (names := m.names.length) k hk m.eqs st fun p hp => ⟨h.eq p hp, fun o ho => by
    have b := offs_bd (mem_offs hp ho)
    obtain ⟨h1, h2, h3⟩ := hc (tick + o) (by omega) (by omega)
    have e : tick + o + (at_ - tick) = at_ + o := by omega
    rw [e] at h1 h2
    exact sees_of h h1 h2 h3 fun j => rfl⟩
end Lw
/-! ## KM13 -/
set_option Elab.async false
set_option linter.all false
set_option autoImplicit false
set_option maxRecDepth 100000
set_option maxHeartbeats 1000000
namespace Lw
open PySem PySem.Spec PyProof.Rows L2 MP
theorem und_tup (n : Nat) (xs : List D) (h : D.unds n xs = true) : (D.tup xs).und n = true := h
theorem und_cols (n : Nat) : ∀ cs : List (List Int), D.unds n (cs.map cD) = true
  | [] => rfl
  | c :: cs => by simp [D.unds, und_cD, und_cols n cs]
theorem und_seconds (n : Nat) : ∀ l : List (Int × Int), D.unds n (l.map fun p => D.int p.2) = true
  | [] => rfl
  | x :: l => by simp [D.unds, D.und, und_seconds n l]
theorem column_before_ok : ∀ k, 1 ≤ k → ∀ (m : Ml) (st : Sto), m.ok → run tb k 26 [m.d] st = .ok (cD (bef m)) st := lift fun k hk m st h => by
  rw [run_succ (f := d26.fn) rfl rfl]
  have n2 := h.n2
  have hl : ((m.names.map fun p => D.int p.2).length + 1 ≤ 1000000) = True := eq_true (by simp; omega)
  ((simp (config := {decide := true, maxSteps := 1000000}) (disch := omega) only [Df.fn, Nat.reduceAdd, Nat.reduceSub, Nat.reduceMul, Int.reduceToNat, Int.reduceAdd, Int.reduceSub, Int.reduceMul, Int.reduceNeg, Int.reduceLE, Int.reduceLT, at0, at1, at2, at3, Nat.zero_add, Nat.sub_self, List.map_cons, List.map_nil, List.length_cons, List.length_nil, List.replicate_succ, List.replicate_zero, List.cons_append, List.nil_append, List.append_nil, List.getElem?_cons_zero, List.getElem?_cons_succ, Option.join_some, List.set_cons_zero, List.set_cons_succ,
  onB_bl, onO_bl, bind_ok, out_ok, bind_ite, out_ite, seq_next, seq_ret, seq_ite, end_next, end_ret, end_ite, optO_some, optR_some, x_var, x_cst, x_b2, x_b1, x_sset, x_rg, x_and, x_or, x_ite, x_chain, x_tup, x_lst, x_idx, x_slc, x_call, x_isi, x_gin, x_gget, x_comp, x_nil, x_cons, x_asg, x_asgT, x_par, x_sub, x_app, x_ext, x_expr, x_ret, x_retN, x_ife, x_for, x_pass, x_end, x_seq,
  turn_next, turn_ret, turn_ite, pyEq_int, wipeD, setTgt, setEach,
  o_add_i, o_add_t, o_sub, o_mul_i, o_fdiv, o_mod, o_eq, o_ne, o_lt, o_le, o_gt, o_ge, o_mx, o_mn, o_neg, o_len_t, o_len_l, o_int_i, o_int_b, o_isN, o_notN, o_asI, o_isF, o_lnot, o_truth, o_tuple_t, o_tuple_l, o_list_t, o_idx_t, o_all_last, o_tuple_last, MP.isNon, Bool.not_true, Bool.not_false, List.length_append, List.append_assoc,
  truthOf, isTys, isTy, kindD, tyB, gc_self, mkT, mkL, lim, seqOf, Option.map_some, Nat.beq, Bool.or_false, Bool.or_true, decide_eq_true_eq, decide_true, decide_false, Bool.true_and, Bool.true_or, Bool.false_or, Bool.false_and, Bool.and_false, Bool.and_true, if_true, Bool.false_eq_true, if_false, ite_true, ite_false, toB_map, toB, optAll, all_q, all_tt, List.all_cons, List.all_nil, id, gc_b, gc_n, gc_i, slc1, it_tup, List.drop_succ_cons, List.drop_zero, d26, Ml.d, Ml.nd]))
  rw [comp_at st snd (m.names.map nmD) ?_ ?_ ?_ ?_ ?_]
  · rw [snd_map]
    ((simp (config := {decide := true, maxSteps := 1000000}) (disch := omega) only [Df.fn, Nat.reduceAdd, Nat.reduceSub, Nat.reduceMul, Int.reduceToNat, Int.reduceAdd, Int.reduceSub, Int.reduceMul, Int.reduceNeg, Int.reduceLE, Int.reduceLT, at0, at1, at2, at3, Nat.zero_add, Nat.sub_self, List.map_cons, List.map_nil, List.length_cons, List.length_nil, List.replicate_succ, List.replicate_zero, List.cons_append, List.nil_append, List.append_nil, List.getElem?_cons_zero, List.getElem?_cons_succ, Option.join_some, List.set_cons_zero, List.set_cons_succ,
  onB_bl, onO_bl, bind_ok, out_ok, bind_ite, out_ite, seq_next, seq_ret, seq_ite, end_next, end_ret, end_ite, optO_some, optR_some, x_var, x_cst, x_b2, x_b1, x_sset, x_rg, x_and, x_or, x_ite, x_chain, x_tup, x_lst, x_idx, x_slc, x_call, x_isi, x_gin, x_gget, x_comp, x_nil, x_cons, x_asg, x_asgT, x_par, x_sub, x_app, x_ext, x_expr, x_ret, x_retN, x_ife, x_for, x_pass, x_end, x_seq,
  turn_next, turn_ret, turn_ite, pyEq_int, wipeD, setTgt, setEach,
  o_add_i, o_add_t, o_sub, o_mul_i, o_fdiv, o_mod, o_eq, o_ne, o_lt, o_le, o_gt, o_ge, o_mx, o_mn, o_neg, o_len_t, o_len_l, o_int_i, o_int_b, o_isN, o_notN, o_asI, o_isF, o_lnot, o_truth, o_tuple_t, o_tuple_l, o_list_t, o_idx_t, o_all_last, o_tuple_last, MP.isNon, Bool.not_true, Bool.not_false, List.length_append, List.append_assoc,
  truthOf, isTys, isTy, kindD, tyB, gc_self, mkT, mkL, lim, seqOf, Option.map_some, Nat.beq, Bool.or_false, Bool.or_true, decide_eq_true_eq, decide_true, decide_false, Bool.true_and, Bool.true_or, Bool.false_or, Bool.false_and, Bool.and_false, Bool.and_true, if_true, Bool.false_eq_true, if_false, ite_true, ite_false, toB_map, toB, optAll, all_q, all_tt, List.all_cons, List.all_nil, id, gc_b, gc_n, gc_i, slc1, it_tup, List.drop_succ_cons, List.drop_zero, hl, lst_l]))
    rw [gc_app _ _ (by simp only [D.und, D.unds, Bool.true_and]; exact und_seconds _ _)]
    simp [cD, bef]
  · rfl
  · rfl
  · exact fun _ => rfl
  · intro x hx
    obtain ⟨p, hp, rfl⟩ := List.mem_map.mp hx
    refine ⟨_, rfl, fun s => ⟨rfl, [], ?_⟩⟩
    (simp (config := {decide := true, maxSteps := 1000000}) (disch := omega) only [Df.fn, Nat.reduceAdd, Nat.reduceSub, Nat.reduceMul, Int.reduceToNat, Int.reduceAdd, Int.reduceSub, Int.reduceMul, Int.reduceNeg, Int.reduceLE, Int.reduceLT, at0, at1, at2, at3, Nat.zero_add, Nat.sub_self, List.map_cons, List.map_nil, List.length_cons, List.length_nil, List.replicate_succ, List.replicate_zero, List.cons_append, List.nil_append, List.append_nil, List.getElem?_cons_zero, List.getElem?_cons_succ, Option.join_some, List.set_cons_zero, List.set_cons_succ,
  onB_bl, onO_bl, bind_ok, out_ok, bind_ite, out_ite, seq_next, seq_ret, seq_ite, end_next, end_ret, end_ite, optO_some, optR_some, x_var, x_cst, x_b2, x_b1, x_sset, x_rg, x_and, x_or, x_ite, x_chain, x_tup, x_lst, x_idx, x_slc, x_call, x_isi, x_gin, x_gget, x_comp, x_nil, x_cons, x_asg, x_asgT, x_par, x_sub, x_app, x_ext, x_expr, x_ret, x_retN, x_ife, x_for, x_pass, x_end, x_seq,
  turn_next, turn_ret, turn_ite, pyEq_int, wipeD, setTgt, setEach,
  o_add_i, o_add_t, o_sub, o_mul_i, o_fdiv, o_mod, o_eq, o_ne, o_lt, o_le, o_gt, o_ge, o_mx, o_mn, o_neg, o_len_t, o_len_l, o_int_i, o_int_b, o_isN, o_notN, o_asI, o_isF, o_lnot, o_truth, o_tuple_t, o_tuple_l, o_list_t, o_idx_t, o_all_last, o_tuple_last, MP.isNon, Bool.not_true, Bool.not_false, List.length_append, List.append_assoc,
  truthOf, isTys, isTy, kindD, tyB, gc_self, mkT, mkL, lim, seqOf, Option.map_some, Nat.beq, Bool.or_false, Bool.or_true, decide_eq_true_eq, decide_true, decide_false, Bool.true_and, Bool.true_or, Bool.false_or, Bool.false_and, Bool.and_false, Bool.and_true, if_true, Bool.false_eq_true, if_false, ite_true, ite_false, nmD, snd])
  · simp; omega
theorem reps_one {α : Type} (x : α) : ∀ n : Nat, reps [x] n = List.replicate n x
  | 0 => rfl
  | n + 1 => by simp [reps, reps_one x n, List.replicate_succ]
theorem before_ok : ∀ k, 2 ≤ k → ∀ (m : Ml) (j : Int) (st : Sto), m.ok → 0 ≤ j → j ≤ 1000 → run tb k 27 [m.d, .int j] st = .ok (colsD (List.replicate j.toNat (bef m))) st := lift fun k hk m j st h h0 h1 => by
  rw [run_succ (f := d27.fn) rfl rfl]
  have c := fun st => column_before_ok k (by omega) m st h
  have mul : op2 .mul (.tup [cD (bef m)]) (.int j) st = .ok (colsD (List.replicate j.toNat (bef m))) st := by
    rw [o_mul_t]
    simp only [opMul]
    have e : (decide ([cD (bef m)].length ≤ 1000) && (decide (j ≤ 1000) && decide (-1000 ≤ j))) = true := by simp; omega
    rw [if_pos (by simpa using e), reps_one]
    simp [colsD]
  ((simp (config := {decide := true, maxSteps := 1000000}) (disch := omega) only [Df.fn, Nat.reduceAdd, Nat.reduceSub, Nat.reduceMul, Int.reduceToNat, Int.reduceAdd, Int.reduceSub, Int.reduceMul, Int.reduceNeg, Int.reduceLE, Int.reduceLT, at0, at1, at2, at3, Nat.zero_add, Nat.sub_self, List.map_cons, List.map_nil, List.length_cons, List.length_nil, List.replicate_succ, List.replicate_zero, List.cons_append, List.nil_append, List.append_nil, List.getElem?_cons_zero, List.getElem?_cons_succ, Option.join_some, List.set_cons_zero, List.set_cons_succ,
  onB_bl, onO_bl, bind_ok, out_ok, bind_ite, out_ite, seq_next, seq_ret, seq_ite, end_next, end_ret, end_ite, optO_some, optR_some, x_var, x_cst, x_b2, x_b1, x_sset, x_rg, x_and, x_or, x_ite, x_chain, x_tup, x_lst, x_idx, x_slc, x_call, x_isi, x_gin, x_gget, x_comp, x_nil, x_cons, x_asg, x_asgT, x_par, x_sub, x_app, x_ext, x_expr, x_ret, x_retN, x_ife, x_for, x_pass, x_end, x_seq,
  turn_next, turn_ret, turn_ite, pyEq_int, wipeD, setTgt, setEach,
  o_add_i, o_add_t, o_sub, o_mul_i, o_fdiv, o_mod, o_eq, o_ne, o_lt, o_le, o_gt, o_ge, o_mx, o_mn, o_neg, o_len_t, o_len_l, o_int_i, o_int_b, o_isN, o_notN, o_asI, o_isF, o_lnot, o_truth, o_tuple_t, o_tuple_l, o_list_t, o_idx_t, o_all_last, o_tuple_last, MP.isNon, Bool.not_true, Bool.not_false, List.length_append, List.append_assoc,
  truthOf, isTys, isTy, kindD, tyB, gc_self, mkT, mkL, lim, seqOf, Option.map_some, Nat.beq, Bool.or_false, Bool.or_true, decide_eq_true_eq, decide_true, decide_false, Bool.true_and, Bool.true_or, Bool.false_or, Bool.false_and, Bool.and_false, Bool.and_true, if_true, Bool.false_eq_true, if_false, ite_true, ite_false, toB_map, toB, optAll, all_q, all_tt, List.all_cons, List.all_nil, id, gc_b, gc_n, gc_i, slc1, it_tup, List.drop_succ_cons, List.drop_zero, d27, c, mul]))
/-- what a column tells -/
def tellD (m : Ml) (c : List Int) : D := .tup (m.told.map fun i => .int (val c (i.toNat + 1)))
theorem told_rng {m : Ml} (h : m.ok) : ∀ i ∈ m.told, 0 ≤ i ∧ i < m.names.length := by
  have h1 := h.n1
  rcases h.td with e | ⟨e0, e | e⟩ <;> (rw [e]; simp; omega)
theorem told_len {m : Ml} (h : m.ok) : m.told.length ≤ 2 := by
  rcases h.td with e | ⟨e0, e | e⟩ <;> (rw [e]; simp)
def tell1 (c : List Int) (d : D) : D := match d with
  | .int i => .int (val c (i.toNat + 1))
  | _ => .non
theorem tell_map (c : List Int) (l : List Int) : (l.map D.int).map (tell1 c) = l.map fun i => .int (val c (i.toNat + 1)) := by simp [tell1]
theorem und_told (n : Nat) (c : List Int) (l : List Int) : D.unds n (l.map fun i => D.int (val c (i.toNat + 1))) = true := by
  induction l with
  | nil => rfl
  | cons x l ih => simp [D.unds, D.und, ih]
theorem told_by_ok : ∀ k, 1 ≤ k → ∀ (m : Ml) (c : List Int) (st : Sto), m.ok → m.col c → run tb k 28 [m.d, cD c] st = .ok (tellD m c) st := lift fun k hk m c st h hc => by
  rw [run_succ (f := d28.fn) rfl rfl]
  ((simp (config := {decide := true, maxSteps := 1000000}) (disch := omega) only [Df.fn, Nat.reduceAdd, Nat.reduceSub, Nat.reduceMul, Int.reduceToNat, Int.reduceAdd, Int.reduceSub, Int.reduceMul, Int.reduceNeg, Int.reduceLE, Int.reduceLT, at0, at1, at2, at3, Nat.zero_add, Nat.sub_self, List.map_cons, List.map_nil, List.length_cons, List.length_nil, List.replicate_succ, List.replicate_zero, List.cons_append, List.nil_append, List.append_nil, List.getElem?_cons_zero, List.getElem?_cons_succ, Option.join_some, List.set_cons_zero, List.set_cons_succ,
  onB_bl, onO_bl, bind_ok, out_ok, bind_ite, out_ite, seq_next, seq_ret, seq_ite, end_next, end_ret, end_ite, optO_some, optR_some, x_var, x_cst, x_b2, x_b1, x_sset, x_rg, x_and, x_or, x_ite, x_chain, x_tup, x_lst, x_idx, x_slc, x_call, x_isi, x_gin, x_gget, x_comp, x_nil, x_cons, x_asg, x_asgT, x_par, x_sub, x_app, x_ext, x_expr, x_ret, x_retN, x_ife, x_for, x_pass, x_end, x_seq,
  turn_next, turn_ret, turn_ite, pyEq_int, wipeD, setTgt, setEach,
  o_add_i, o_add_t, o_sub, o_mul_i, o_fdiv, o_mod, o_eq, o_ne, o_lt, o_le, o_gt, o_ge, o_mx, o_mn, o_neg, o_len_t, o_len_l, o_int_i, o_int_b, o_isN, o_notN, o_asI, o_isF, o_lnot, o_truth, o_tuple_t, o_tuple_l, o_list_t, o_idx_t, o_all_last, o_tuple_last, MP.isNon, Bool.not_true, Bool.not_false, List.length_append, List.append_assoc,
  truthOf, isTys, isTy, kindD, tyB, gc_self, mkT, mkL, lim, seqOf, Option.map_some, Nat.beq, Bool.or_false, Bool.or_true, decide_eq_true_eq, decide_true, decide_false, Bool.true_and, Bool.true_or, Bool.false_or, Bool.false_and, Bool.and_false, Bool.and_true, if_true, Bool.false_eq_true, if_false, ite_true, ite_false, toB_map, toB, optAll, all_q, all_tt, List.all_cons, List.all_nil, id, gc_b, gc_n, gc_i, slc1, it_tup, List.drop_succ_cons, List.drop_zero, d28, Ml.d, Ml.nd]))
  rw [comp_at st (tell1 c) (m.told.map .int) ?_ ?_ ?_ ?_ ?_]
  · rw [tell_map]
    ((simp (config := {decide := true, maxSteps := 1000000}) (disch := omega) only [Df.fn, Nat.reduceAdd, Nat.reduceSub, Nat.reduceMul, Int.reduceToNat, Int.reduceAdd, Int.reduceSub, Int.reduceMul, Int.reduceNeg, Int.reduceLE, Int.reduceLT, at0, at1, at2, at3, Nat.zero_add, Nat.sub_self, List.map_cons, List.map_nil, List.length_cons, List.length_nil, List.replicate_succ, List.replicate_zero, List.cons_append, List.nil_append, List.append_nil, List.getElem?_cons_zero, List.getElem?_cons_succ, Option.join_some, List.set_cons_zero, List.set_cons_succ,
  onB_bl, onO_bl, bind_ok, out_ok, bind_ite, out_ite, seq_next, seq_ret, seq_ite, end_next, end_ret, end_ite, optO_some, optR_some, x_var, x_cst, x_b2, x_b1, x_sset, x_rg, x_and, x_or, x_ite, x_chain, x_tup, x_lst, x_idx, x_slc, x_call, x_isi, x_gin, x_gget, x_comp, x_nil, x_cons, x_asg, x_asgT, x_par, x_sub, x_app, x_ext, x_expr, x_ret, x_retN, x_ife, x_for, x_pass, x_end, x_seq,
  turn_next, turn_ret, turn_ite, pyEq_int, wipeD, setTgt, setEach,
  o_add_i, o_add_t, o_sub, o_mul_i, o_fdiv, o_mod, o_eq, o_ne, o_lt, o_le, o_gt, o_ge, o_mx, o_mn, o_neg, o_len_t, o_len_l, o_int_i, o_int_b, o_isN, o_notN, o_asI, o_isF, o_lnot, o_truth, o_tuple_t, o_tuple_l, o_list_t, o_idx_t, o_all_last, o_tuple_last, MP.isNon, Bool.not_true, Bool.not_false, List.length_append, List.append_assoc,
  truthOf, isTys, isTy, kindD, tyB, gc_self, mkT, mkL, lim, seqOf, Option.map_some, Nat.beq, Bool.or_false, Bool.or_true, decide_eq_true_eq, decide_true, decide_false, Bool.true_and, Bool.true_or, Bool.false_or, Bool.false_and, Bool.and_false, Bool.and_true, if_true, Bool.false_eq_true, if_false, ite_true, ite_false, toB_map, toB, optAll, all_q, all_tt, List.all_cons, List.all_nil, id, gc_b, gc_n, gc_i, slc1, it_tup, List.drop_succ_cons, List.drop_zero, lst_l]))
    rw [gc_app _ _ (und_tup _ _ (und_told _ _ _))]
    rfl
  · rfl
  · rfl
  · exact fun _ => rfl
  · intro x hx
    obtain ⟨i, hi, rfl⟩ := List.mem_map.mp hx
    have b := told_rng h i hi
    refine ⟨_, rfl, fun s => ⟨rfl, [], ?_⟩⟩
    have a := (at_val h hc (i.toNat + 1) (by omega)).1
    have e : ((i.toNat + 1 : Nat) : Int) = i + 1 := by omega
    rw [e] at a
    (simp (config := {decide := true, maxSteps := 1000000}) (disch := omega) only [Df.fn, Nat.reduceAdd, Nat.reduceSub, Nat.reduceMul, Int.reduceToNat, Int.reduceAdd, Int.reduceSub, Int.reduceMul, Int.reduceNeg, Int.reduceLE, Int.reduceLT, at0, at1, at2, at3, Nat.zero_add, Nat.sub_self, List.map_cons, List.map_nil, List.length_cons, List.length_nil, List.replicate_succ, List.replicate_zero, List.cons_append, List.nil_append, List.append_nil, List.getElem?_cons_zero, List.getElem?_cons_succ, Option.join_some, List.set_cons_zero, List.set_cons_succ,
  onB_bl, onO_bl, bind_ok, out_ok, bind_ite, out_ite, seq_next, seq_ret, seq_ite, end_next, end_ret, end_ite, optO_some, optR_some, x_var, x_cst, x_b2, x_b1, x_sset, x_rg, x_and, x_or, x_ite, x_chain, x_tup, x_lst, x_idx, x_slc, x_call, x_isi, x_gin, x_gget, x_comp, x_nil, x_cons, x_asg, x_asgT, x_par, x_sub, x_app, x_ext, x_expr, x_ret, x_retN, x_ife, x_for, x_pass, x_end, x_seq,
  turn_next, turn_ret, turn_ite, pyEq_int, wipeD, setTgt, setEach,
  o_add_i, o_add_t, o_sub, o_mul_i, o_fdiv, o_mod, o_eq, o_ne, o_lt, o_le, o_gt, o_ge, o_mx, o_mn, o_neg, o_len_t, o_len_l, o_int_i, o_int_b, o_isN, o_notN, o_asI, o_isF, o_lnot, o_truth, o_tuple_t, o_tuple_l, o_list_t, o_idx_t, o_all_last, o_tuple_last, MP.isNon, Bool.not_true, Bool.not_false, List.length_append, List.append_assoc,
  truthOf, isTys, isTy, kindD, tyB, gc_self, mkT, mkL, lim, seqOf, Option.map_some, Nat.beq, Bool.or_false, Bool.or_true, decide_eq_true_eq, decide_true, decide_false, Bool.true_and, Bool.true_or, Bool.false_or, Bool.false_and, Bool.and_false, Bool.and_true, if_true, Bool.false_eq_true, if_false, ite_true, ite_false, cD, tell1, a])
  · have := told_len h
    simp
    omega
def tells1 (m : Ml) (d : D) : D := match d with
  | .tup xs => .tup (m.told.map fun i => (xs[i.toNat + 1]?).getD .non)
  | _ => .non
theorem tells1_eq {m : Ml} (h : m.ok) {c : List Int} (hc : m.col c) : tells1 m (cD c) = tellD m c := by
  show D.tup _ = D.tup _
  congr 1
  apply List.map_congr_left
  intro i hi
  have b := told_rng h i hi
  obtain ⟨x, e, _⟩ := col_val h hc (i.toNat + 1) (by omega)
  unfold val
  rw [List.getElem?_map, e]
  rfl
theorem tells_map {m : Ml} (h : m.ok) {cs : List (List Int)} (hc : ∀ c ∈ cs, m.col c) : (cs.map cD).map (tells1 m) = cs.map (tellD m) := by
  rw [List.map_map]
  apply List.map_congr_left
  intro c h'
  exact tells1_eq h (hc c h')
theorem und_tells (n : Nat) (m : Ml) (cs : List (List Int)) : D.unds n (cs.map (tellD m)) = true := by
  induction cs with
  | nil => rfl
  | cons c cs ih => simp [D.unds, D.und, tellD, und_told, ih]
theorem tells_ok : ∀ k, 15 ≤ k → ∀ (m : Ml) (cs : List (List Int)) (st : Sto), m.ok → cs.length ≤ 200 → (∀ c ∈ cs, m.col c) → run tb k 24 [m.d, colsD cs] st = .ok (.tup (cs.map (tellD m))) st := lift fun k hk m cs st h hl hc => by
  rw [run_succ (f := d24.fn) rfl rfl]
  have c1 := fun st => check_mill_ok k (by omega) m st h
  have c2 := fun st => check_columns_ok k (by omega) m cs st h hl hc
  simp only [colsD] at c2
  ((simp (config := {decide := true, maxSteps := 1000000}) (disch := omega) only [Df.fn, Nat.reduceAdd, Nat.reduceSub, Nat.reduceMul, Int.reduceToNat, Int.reduceAdd, Int.reduceSub, Int.reduceMul, Int.reduceNeg, Int.reduceLE, Int.reduceLT, at0, at1, at2, at3, Nat.zero_add, Nat.sub_self, List.map_cons, List.map_nil, List.length_cons, List.length_nil, List.replicate_succ, List.replicate_zero, List.cons_append, List.nil_append, List.append_nil, List.getElem?_cons_zero, List.getElem?_cons_succ, Option.join_some, List.set_cons_zero, List.set_cons_succ,
  onB_bl, onO_bl, bind_ok, out_ok, bind_ite, out_ite, seq_next, seq_ret, seq_ite, end_next, end_ret, end_ite, optO_some, optR_some, x_var, x_cst, x_b2, x_b1, x_sset, x_rg, x_and, x_or, x_ite, x_chain, x_tup, x_lst, x_idx, x_slc, x_call, x_isi, x_gin, x_gget, x_comp, x_nil, x_cons, x_asg, x_asgT, x_par, x_sub, x_app, x_ext, x_expr, x_ret, x_retN, x_ife, x_for, x_pass, x_end, x_seq,
  turn_next, turn_ret, turn_ite, pyEq_int, wipeD, setTgt, setEach,
  o_add_i, o_add_t, o_sub, o_mul_i, o_fdiv, o_mod, o_eq, o_ne, o_lt, o_le, o_gt, o_ge, o_mx, o_mn, o_neg, o_len_t, o_len_l, o_int_i, o_int_b, o_isN, o_notN, o_asI, o_isF, o_lnot, o_truth, o_tuple_t, o_tuple_l, o_list_t, o_idx_t, o_all_last, o_tuple_last, MP.isNon, Bool.not_true, Bool.not_false, List.length_append, List.append_assoc,
  truthOf, isTys, isTy, kindD, tyB, gc_self, mkT, mkL, lim, seqOf, Option.map_some, Nat.beq, Bool.or_false, Bool.or_true, decide_eq_true_eq, decide_true, decide_false, Bool.true_and, Bool.true_or, Bool.false_or, Bool.false_and, Bool.and_false, Bool.and_true, if_true, Bool.false_eq_true, if_false, ite_true, ite_false, toB_map, toB, optAll, all_q, all_tt, List.all_cons, List.all_nil, id, gc_b, gc_n, gc_i, slc1, it_tup, List.drop_succ_cons, List.drop_zero, d24, colsD, c1, c2]))
  rw [comp_at st (tells1 m) (cs.map cD) ?_ ?_ ?_ ?_ ?_]
  · rw [tells_map h hc]
    ((simp (config := {decide := true, maxSteps := 1000000}) (disch := omega) only [Df.fn, Nat.reduceAdd, Nat.reduceSub, Nat.reduceMul, Int.reduceToNat, Int.reduceAdd, Int.reduceSub, Int.reduceMul, Int.reduceNeg, Int.reduceLE, Int.reduceLT, at0, at1, at2, at3, Nat.zero_add, Nat.sub_self, List.map_cons, List.map_nil, List.length_cons, List.length_nil, List.replicate_succ, List.replicate_zero, List.cons_append, List.nil_append, List.append_nil, List.getElem?_cons_zero, List.getElem?_cons_succ, Option.join_some, List.set_cons_zero, List.set_cons_succ,
  onB_bl, onO_bl, bind_ok, out_ok, bind_ite, out_ite, seq_next, seq_ret, seq_ite, end_next, end_ret, end_ite, optO_some, optR_some, x_var, x_cst, x_b2, x_b1, x_sset, x_rg, x_and, x_or, x_ite, x_chain, x_tup, x_lst, x_idx, x_slc, x_call, x_isi, x_gin, x_gget, x_comp, x_nil, x_cons, x_asg, x_asgT, x_par, x_sub, x_app, x_ext, x_expr, x_ret, x_retN, x_ife, x_for, x_pass, x_end, x_seq,
  turn_next, turn_ret, turn_ite, pyEq_int, wipeD, setTgt, setEach,
  o_add_i, o_add_t, o_sub, o_mul_i, o_fdiv, o_mod, o_eq, o_ne, o_lt, o_le, o_gt, o_ge, o_mx, o_mn, o_neg, o_len_t, o_len_l, o_int_i, o_int_b, o_isN, o_notN, o_asI, o_isF, o_lnot, o_truth, o_tuple_t, o_tuple_l, o_list_t, o_idx_t, o_all_last, o_tuple_last, MP.isNon, Bool.not_true, Bool.not_false, List.length_append, List.append_assoc,
  truthOf, isTys, isTy, kindD, tyB, gc_self, mkT, mkL, lim, seqOf, Option.map_some, Nat.beq, Bool.or_false, Bool.or_true, decide_eq_true_eq, decide_true, decide_false, Bool.true_and, Bool.true_or, Bool.false_or, Bool.false_and, Bool.and_false, Bool.and_true, if_true, Bool.false_eq_true, if_false, ite_true, ite_false, toB_map, toB, optAll, all_q, all_tt, List.all_cons, List.all_nil, id, gc_b, gc_n, gc_i, slc1, it_tup, List.drop_succ_cons, List.drop_zero, lst_l]))
    rw [gc_app _ _ (und_tup _ _ (und_tells _ _ _))]
  · rfl
  · rfl
  · exact fun _ => rfl
  · intro x hx
    obtain ⟨c, h', rfl⟩ := List.mem_map.mp hx
    have t := fun st => told_by_ok k (by omega) m c st h (hc c h')
    refine ⟨_, rfl, fun s => ⟨by rw [tells1_eq h (hc c h')]; exact und_told _ _ _, [], ?_⟩⟩
    rw [tells1_eq h (hc c h')]
    (simp (config := {decide := true, maxSteps := 1000000}) (disch := omega) only [Df.fn, Nat.reduceAdd, Nat.reduceSub, Nat.reduceMul, Int.reduceToNat, Int.reduceAdd, Int.reduceSub, Int.reduceMul, Int.reduceNeg, Int.reduceLE, Int.reduceLT, at0, at1, at2, at3, Nat.zero_add, Nat.sub_self, List.map_cons, List.map_nil, List.length_cons, List.length_nil, List.replicate_succ, List.replicate_zero, List.cons_append, List.nil_append, List.append_nil, List.getElem?_cons_zero, List.getElem?_cons_succ, Option.join_some, List.set_cons_zero, List.set_cons_succ,
  onB_bl, onO_bl, bind_ok, out_ok, bind_ite, out_ite, seq_next, seq_ret, seq_ite, end_next, end_ret, end_ite, optO_some, optR_some, x_var, x_cst, x_b2, x_b1, x_sset, x_rg, x_and, x_or, x_ite, x_chain, x_tup, x_lst, x_idx, x_slc, x_call, x_isi, x_gin, x_gget, x_comp, x_nil, x_cons, x_asg, x_asgT, x_par, x_sub, x_app, x_ext, x_expr, x_ret, x_retN, x_ife, x_for, x_pass, x_end, x_seq,
  turn_next, turn_ret, turn_ite, pyEq_int, wipeD, setTgt, setEach,
  o_add_i, o_add_t, o_sub, o_mul_i, o_fdiv, o_mod, o_eq, o_ne, o_lt, o_le, o_gt, o_ge, o_mx, o_mn, o_neg, o_len_t, o_len_l, o_int_i, o_int_b, o_isN, o_notN, o_asI, o_isF, o_lnot, o_truth, o_tuple_t, o_tuple_l, o_list_t, o_idx_t, o_all_last, o_tuple_last, MP.isNon, Bool.not_true, Bool.not_false, List.length_append, List.append_assoc,
  truthOf, isTys, isTy, kindD, tyB, gc_self, mkT, mkL, lim, seqOf, Option.map_some, Nat.beq, Bool.or_false, Bool.or_true, decide_eq_true_eq, decide_true, decide_false, Bool.true_and, Bool.true_or, Bool.false_or, Bool.false_and, Bool.and_false, Bool.and_true, if_true, Bool.false_eq_true, if_false, ite_true, ite_false, t])
  · simp; omega
/-- the columns of a list, and those before tick 0 -/
def colL (m : Ml) (cs : List (List Int)) (p : Int) : List Int := if 0 ≤ p then (cs[p.toNat]?).getD (bef m) else bef m
theorem colL_col {m : Ml} (h : m.ok) {cs : List (List Int)} (hc : ∀ c ∈ cs, m.col c) (p : Int) : m.col (colL m cs p) := by
  unfold colL
  split
  · cases e : cs[p.toNat]? with
    | none => exact bef_col h
    | some c => exact hc c (List.mem_of_getElem? e)
  · exact bef_col h
theorem colL_at {m : Ml} {cs : List (List Int)} {p : Int} (h0 : 0 ≤ p) (h1 : p < cs.length) : cs[p.toNat]? = some (colL m cs p) := by
  unfold colL
  rw [if_pos h0]
  have : p.toNat < cs.length := by omega
  rw [List.getElem?_eq_getElem this]
  rfl
/-- behind as many columns before tick 0 -/
theorem pre_at {m : Ml} {cs : List (List Int)} {b p : Int} (hb : 0 ≤ b) (h0 : -b ≤ p) (h1 : p < cs.length) : 0 ≤ p + b ∧ (List.replicate b.toNat (bef m) ++ cs)[(p + b).toNat]? = some (colL m cs p) := by
  refine ⟨by omega, ?_⟩
  by_cases hp : 0 ≤ p
  · rw [List.getElem?_append_right (by simp; omega)]
    have e : (p + b).toNat - (List.replicate b.toNat (bef m)).length = p.toNat := by simp; omega
    rw [e]
    exact colL_at hp h1
  · rw [List.getElem?_append_left (by simp; omega), List.getElem?_replicate, if_pos (by omega)]
    unfold colL
    rw [if_neg hp]
theorem check_tick_ok : ∀ k, 8 ≤ k → ∀ (m : Ml) (cs : List (List Int)) (tick : Int) (st : Sto), m.ok → 0 ≤ tick → tick + m.ahead < cs.length → run tb k 45 [m.d, colsD cs, .int tick] st = .ok .non st := lift fun k hk m cs tick st h h0 h1 => by
  rw [run_succ (f := d45.fn) rfl rfl]
  have c3 := fun st => looks_ok k (by omega) m.names.length m.eqs st h.eq
  have e1 : (0 ≤ tick) = True := eq_true h0
  have e3 : (tick ≤ (cs.length : Int) - 1 - m.ahead) = True := eq_true (by omega)
  simp only [Ml.ahead] at e3
  ((simp (config := {decide := true, maxSteps := 1000000}) (disch := omega) only [Df.fn, Nat.reduceAdd, Nat.reduceSub, Nat.reduceMul, Int.reduceToNat, Int.reduceAdd, Int.reduceSub, Int.reduceMul, Int.reduceNeg, Int.reduceLE, Int.reduceLT, at0, at1, at2, at3, Nat.zero_add, Nat.sub_self, List.map_cons, List.map_nil, List.length_cons, List.length_nil, List.replicate_succ, List.replicate_zero, List.cons_append, List.nil_append, List.append_nil, List.getElem?_cons_zero, List.getElem?_cons_succ, Option.join_some, List.set_cons_zero, List.set_cons_succ,
  onB_bl, onO_bl, bind_ok, out_ok, bind_ite, out_ite, seq_next, seq_ret, seq_ite, end_next, end_ret, end_ite, optO_some, optR_some, x_var, x_cst, x_b2, x_b1, x_sset, x_rg, x_and, x_or, x_ite, x_chain, x_tup, x_lst, x_idx, x_slc, x_call, x_isi, x_gin, x_gget, x_comp, x_nil, x_cons, x_asg, x_asgT, x_par, x_sub, x_app, x_ext, x_expr, x_ret, x_retN, x_ife, x_for, x_pass, x_end, x_seq,
  turn_next, turn_ret, turn_ite, pyEq_int, wipeD, setTgt, setEach,
  o_add_i, o_add_t, o_sub, o_mul_i, o_fdiv, o_mod, o_eq, o_ne, o_lt, o_le, o_gt, o_ge, o_mx, o_mn, o_neg, o_len_t, o_len_l, o_int_i, o_int_b, o_isN, o_notN, o_asI, o_isF, o_lnot, o_truth, o_tuple_t, o_tuple_l, o_list_t, o_idx_t, o_all_last, o_tuple_last, MP.isNon, Bool.not_true, Bool.not_false, List.length_append, List.append_assoc,
  truthOf, isTys, isTy, kindD, tyB, gc_self, mkT, mkL, lim, seqOf, Option.map_some, Nat.beq, Bool.or_false, Bool.or_true, decide_eq_true_eq, decide_true, decide_false, Bool.true_and, Bool.true_or, Bool.false_or, Bool.false_and, Bool.and_false, Bool.and_true, if_true, Bool.false_eq_true, if_false, ite_true, ite_false, toB_map, toB, optAll, all_q, all_tt, List.all_cons, List.all_nil, id, gc_b, gc_n, gc_i, slc1, it_tup, List.drop_succ_cons, List.drop_zero, d45, colsD, Ml.d, Ml.nd, c3, is_within_ok k (by omega) _ _ _ _ (kno_int _ _), wiD, List.length_map, e1, e3]))
theorem with_before_ok : ∀ k, 8 ≤ k → ∀ (m : Ml) (cs : List (List Int)) (st : Sto), m.ok → cs.length ≤ 100000 → run tb k 46 [m.d, colsD cs] st = .ok (colsD (List.replicate m.back.toNat (bef m) ++ cs)) st := lift fun k hk m cs st h hl => by
  rw [run_succ (f := d46.fn) rfl rfl]
  have bb := back_bd h
  have c3 := fun st => looks_ok k (by omega) m.names.length m.eqs st h.eq
  have c4 := fun st => before_ok k (by omega) m m.back st h bb.1 (by omega)
  have e2 : ((List.replicate m.back.toNat (bef m)).length + cs.length ≤ 1000000) = True := eq_true (by simp; omega)
  simp only [Ml.back] at c4 e2
  simp only [colsD, Ml.d, Ml.nd, Ml.back] at c3 c4
  ((simp (config := {decide := true, maxSteps := 1000000}) (disch := omega) only [Df.fn, Nat.reduceAdd, Nat.reduceSub, Nat.reduceMul, Int.reduceToNat, Int.reduceAdd, Int.reduceSub, Int.reduceMul, Int.reduceNeg, Int.reduceLE, Int.reduceLT, at0, at1, at2, at3, Nat.zero_add, Nat.sub_self, List.map_cons, List.map_nil, List.length_cons, List.length_nil, List.replicate_succ, List.replicate_zero, List.cons_append, List.nil_append, List.append_nil, List.getElem?_cons_zero, List.getElem?_cons_succ, Option.join_some, List.set_cons_zero, List.set_cons_succ,
  onB_bl, onO_bl, bind_ok, out_ok, bind_ite, out_ite, seq_next, seq_ret, seq_ite, end_next, end_ret, end_ite, optO_some, optR_some, x_var, x_cst, x_b2, x_b1, x_sset, x_rg, x_and, x_or, x_ite, x_chain, x_tup, x_lst, x_idx, x_slc, x_call, x_isi, x_gin, x_gget, x_comp, x_nil, x_cons, x_asg, x_asgT, x_par, x_sub, x_app, x_ext, x_expr, x_ret, x_retN, x_ife, x_for, x_pass, x_end, x_seq,
  turn_next, turn_ret, turn_ite, pyEq_int, wipeD, setTgt, setEach,
  o_add_i, o_add_t, o_sub, o_mul_i, o_fdiv, o_mod, o_eq, o_ne, o_lt, o_le, o_gt, o_ge, o_mx, o_mn, o_neg, o_len_t, o_len_l, o_int_i, o_int_b, o_isN, o_notN, o_asI, o_isF, o_lnot, o_truth, o_tuple_t, o_tuple_l, o_list_t, o_idx_t, o_all_last, o_tuple_last, MP.isNon, Bool.not_true, Bool.not_false, List.length_append, List.append_assoc,
  truthOf, isTys, isTy, kindD, tyB, gc_self, mkT, mkL, lim, seqOf, Option.map_some, Nat.beq, Bool.or_false, Bool.or_true, decide_eq_true_eq, decide_true, decide_false, Bool.true_and, Bool.true_or, Bool.false_or, Bool.false_and, Bool.and_false, Bool.and_true, if_true, Bool.false_eq_true, if_false, ite_true, ite_false, toB_map, toB, optAll, all_q, all_tt, List.all_cons, List.all_nil, id, gc_b, gc_n, gc_i, slc1, it_tup, List.drop_succ_cons, List.drop_zero, d46, colsD, Ml.d, Ml.nd, Ml.back, c3, c4, List.length_map, List.map_append, e2]))
theorem holds_ok : ∀ k, 16 ≤ k → ∀ (m : Ml) (cs : List (List Int)) (tick : Int) (st : Sto), m.ok → cs.length ≤ 200 → (∀ c ∈ cs, m.col c) → 0 ≤ tick → tick + m.ahead < cs.length → run tb k 23 [m.d, colsD cs, .int tick] st = .ok (.bl (Hd m (colL m cs) tick)) st := lift fun k hk m cs tick st h hl hc h0 h1 => by
  rw [run_succ (f := d23.fn) rfl rfl]
  have bb := back_bd h
  have c1 := fun st => check_mill_ok k (by omega) m st h
  have c2 := fun st => check_columns_ok k (by omega) m cs st h hl hc
  have c3 := fun st => looks_ok k (by omega) m.names.length m.eqs st h.eq
  have c4 := fun st => with_before_ok k (by omega) m cs st h (by omega)
  have c6 := fun st => check_tick_ok k (by omega) m cs tick st h h0 h1
  have c5 := fun st => all_hold_at h (cs := List.replicate m.back.toNat (bef m) ++ cs) (c := colL m cs) (tick := tick) (at_ := tick + m.back) (fun p p0 p1 => by
    have e : tick + m.back - tick = m.back := by omega
    rw [e]
    obtain ⟨q1, q2⟩ := pre_at (m := m) (cs := cs) (b := m.back) (p := p) bb.1 (by omega) (by omega)
    exact ⟨q1, q2, colL_col h hc p⟩) k (by omega) st
  simp only [Ml.d, Ml.nd, Ml.back] at c1 c2 c3 c4 c5 c6
  ((simp (config := {decide := true, maxSteps := 1000000}) (disch := omega) only [Df.fn, Nat.reduceAdd, Nat.reduceSub, Nat.reduceMul, Int.reduceToNat, Int.reduceAdd, Int.reduceSub, Int.reduceMul, Int.reduceNeg, Int.reduceLE, Int.reduceLT, at0, at1, at2, at3, Nat.zero_add, Nat.sub_self, List.map_cons, List.map_nil, List.length_cons, List.length_nil, List.replicate_succ, List.replicate_zero, List.cons_append, List.nil_append, List.append_nil, List.getElem?_cons_zero, List.getElem?_cons_succ, Option.join_some, List.set_cons_zero, List.set_cons_succ,
  onB_bl, onO_bl, bind_ok, out_ok, bind_ite, out_ite, seq_next, seq_ret, seq_ite, end_next, end_ret, end_ite, optO_some, optR_some, x_var, x_cst, x_b2, x_b1, x_sset, x_rg, x_and, x_or, x_ite, x_chain, x_tup, x_lst, x_idx, x_slc, x_call, x_isi, x_gin, x_gget, x_comp, x_nil, x_cons, x_asg, x_asgT, x_par, x_sub, x_app, x_ext, x_expr, x_ret, x_retN, x_ife, x_for, x_pass, x_end, x_seq,
  turn_next, turn_ret, turn_ite, pyEq_int, wipeD, setTgt, setEach,
  o_add_i, o_add_t, o_sub, o_mul_i, o_fdiv, o_mod, o_eq, o_ne, o_lt, o_le, o_gt, o_ge, o_mx, o_mn, o_neg, o_len_t, o_len_l, o_int_i, o_int_b, o_isN, o_notN, o_asI, o_isF, o_lnot, o_truth, o_tuple_t, o_tuple_l, o_list_t, o_idx_t, o_all_last, o_tuple_last, MP.isNon, Bool.not_true, Bool.not_false, List.length_append, List.append_assoc,
  truthOf, isTys, isTy, kindD, tyB, gc_self, mkT, mkL, lim, seqOf, Option.map_some, Nat.beq, Bool.or_false, Bool.or_true, decide_eq_true_eq, decide_true, decide_false, Bool.true_and, Bool.true_or, Bool.false_or, Bool.false_and, Bool.and_false, Bool.and_true, if_true, Bool.false_eq_true, if_false, ite_true, ite_false, toB_map, toB, optAll, all_q, all_tt, List.all_cons, List.all_nil, id, gc_b, gc_n, gc_i, slc1, it_tup, List.drop_succ_cons, List.drop_zero, d23, Ml.d, Ml.nd, c1, c2, c3, c4, c5, c6]))
end Lw
/-! ## KM14 -/
set_option Elab.async false
set_option linter.all false
set_option autoImplicit false
set_option maxRecDepth 100000
set_option maxHeartbeats 1000000
namespace Lw
open PySem PySem.Spec PyProof.Rows L2 MP
theorem reps_map {α β : Type} (f : α → β) (l : List α) : ∀ n : Nat, reps (l.map f) n = (reps l n).map f
  | 0 => rfl
  | n + 1 => by simp [reps, reps_map f l n]
theorem reps_len {α : Type} (l : List α) : ∀ n : Nat, (reps l n).length = l.length * n
  | 0 => rfl
  | n + 1 => by simp [reps, reps_len l n, Nat.mul_succ]; omega
theorem reps_get {α : Type} (l : List α) : ∀ (n i : Nat), i < l.length * n → (reps l n)[i]? = l[i % l.length]?
  | 0, i, h => by simp at h
  | n + 1, i, h => by
    simp only [reps]
    by_cases c : i < l.length
    · rw [List.getElem?_append_left c, Nat.mod_eq_of_lt c]
    · rw [List.getElem?_append_right (by omega), reps_get l n (i - l.length) (by rw [Nat.mul_succ] at h; omega), Nat.mod_eq_sub_mod (by omega : l.length ≤ i)]
/-- the columns of a loop behind a stem -/
def las (m : Ml) (stem loop : List (List Int)) (p : Int) : List Int := if p < 0 then bef m else if p.toNat < stem.length then (stem[p.toNat]?).getD (bef m) else (loop[(p.toNat - stem.length) % loop.length]?).getD (bef m)
theorem las_col {m : Ml} (h : m.ok) {stem loop : List (List Int)} (hs : ∀ c ∈ stem, m.col c) (hl : ∀ c ∈ loop, m.col c) (p : Int) : m.col (las m stem loop p) := by
  unfold las
  split
  · exact bef_col h
  · split
    · cases e : stem[p.toNat]? with
      | none => exact bef_col h
      | some c => exact hs c (List.mem_of_getElem? e)
    · cases e : loop[(p.toNat - stem.length) % loop.length]? with
      | none => exact bef_col h
      | some c => exact hl c (List.mem_of_getElem? e)
theorem las_at {m : Ml} {stem loop : List (List Int)} {n : Nat} {p : Int} (h0 : 0 ≤ p) (h1 : p < (stem.length + loop.length * n : Nat)) : (stem ++ reps loop n)[p.toNat]? = some (las m stem loop p) := by
  unfold las
  rw [if_neg (by omega)]
  by_cases c : p.toNat < stem.length
  · rw [if_pos c, List.getElem?_append_left c, List.getElem?_eq_getElem c]
    rfl
  · rw [if_neg c, List.getElem?_append_right (by omega), reps_get _ _ _ (by omega)]
    have hl : 0 < loop.length := by
      rcases Nat.eq_zero_or_pos loop.length with z | z
      · rw [z] at h1
        simp at h1
        omega
      · exact z
    have := Nat.mod_lt (p.toNat - stem.length) hl
    rw [List.getElem?_eq_getElem this]
    rfl
theorem las_per {m : Ml} {stem loop : List (List Int)} {p : Int} (hl : 1 ≤ loop.length) (h : (stem.length : Int) ≤ p) : las m stem loop (p + loop.length) = las m stem loop p := by
  unfold las
  rw [if_neg (by omega), if_neg (by omega), if_neg (by omega), if_neg (by omega)]
  have e : (p + (loop.length : Int)).toNat - stem.length = p.toNat - stem.length + loop.length := by omega
  rw [e, Nat.add_mod_right]
theorem Hd_per {m : Ml} (h : m.ok) {stem loop : List (List Int)} {t : Int} (hl : 1 ≤ loop.length) (ht : (stem.length : Int) + m.back ≤ t) : Hd m (las m stem loop) (t + loop.length) = Hd m (las m stem loop) t := by
  refine Hd_congr h fun o h1 h2 => ?_
  have e : t + (loop.length : Int) + o = (t + o) + loop.length := by omega
  rw [e]
  exact las_per hl (by omega)
/-- the ticks that are looked at are enough -/
theorem all_ticks {m : Ml} (h : m.ok) {stem loop : List (List Int)} (hl : 1 ≤ loop.length) {a b : Nat} (ha : (a : Int) = stem.length + m.back + loop.length) (hab : a ≤ b) :
    ((List.range a).all fun t => Hd m (las m stem loop) t) = ((List.range b).all fun t => Hd m (las m stem loop) t) := by
  rw [Bool.eq_iff_iff]
  simp only [List.all_eq_true, List.mem_range]
  have bb := back_bd h
  refine ⟨fun g => ?_, fun g t ht => g t (by omega)⟩
  intro t
  induction t using Nat.strongRecOn with
  | ind t ih =>
    intro ht
    by_cases c : t < a
    · exact g t c
    · have := ih (t - loop.length) (by omega) (by omega)
      have e := Hd_per h (stem := stem) (loop := loop) (t := ((t - loop.length : Nat) : Int)) hl (by omega)
      have e2 : ((t - loop.length : Nat) : Int) + loop.length = t := by omega
      rw [e2] at e
      rw [e]
      exact this
theorem slc0 (xs : List D) (n : Nat) (st : Sto) : opSlc (.tup xs) .non (.int n) st = .ok (.tup (xs.take n)) st := by
  unfold opSlc
  simp only [seqOf, bnd]
  rw [if_neg (by omega)]
  simp only [MP.cutD, List.drop_zero, Nat.sub_zero, Int.toNat_natCast]
  congr 2
  rw [List.take_eq_take_iff]
  omega
theorem unrolled_ok : ∀ k, 1 ≤ k → ∀ (stem loop : List (List Int)) (many : Nat) (st : Sto), 1 ≤ loop.length → loop.length ≤ 200 → stem.length ≤ 200 → many ≤ 500 → ∃ n : Nat, many ≤ stem.length + loop.length * n ∧ run tb k 29 [colsD stem, colsD loop, .int many] st = .ok (colsD ((stem ++ reps loop n).take many)) st := lift fun k hk stem loop many st h1 h2 h3 h4 => by
  refine ⟨many / loop.length + 1, ?_, ?_⟩
  · have := Nat.div_add_mod many loop.length
    have := Nat.mod_lt many (show 0 < loop.length by omega)
    rw [Nat.mul_succ]
    omega
  rw [run_succ (f := d29.fn) rfl rfl]
  have dl : many / loop.length ≤ many := Nat.div_le_self _ _
  have c1 : ((0 : Int) < (loop.length : Int)) = True := eq_true (by omega)
  have c2 : ((loop.length : Int) < 1073741824) = True := eq_true (by omega)
  have c3 : (many : Int) / (loop.length : Int) + 1 = ((many / loop.length + 1 : Nat) : Int) := by
    rw [Int.natCast_add, Int.natCast_ediv]
    rfl
  have mul : op2 .mul (.tup (loop.map cD)) (.int ((many / loop.length + 1 : Nat) : Int)) st = .ok (.tup ((reps loop (many / loop.length + 1)).map cD)) st := by
    rw [o_mul_t]
    simp only [opMul]
    have e : ((loop.map cD).length ≤ 1000 && (decide (((many / loop.length + 1 : Nat) : Int) ≤ 1000) && decide (-1000 ≤ ((many / loop.length + 1 : Nat) : Int)))) = true := by
      have ne : many / loop.length + 1 ≤ 501 := by omega
      generalize many / loop.length + 1 = n at ne
      simp
      omega
    rw [if_pos (by simpa using e), ← reps_map]
    rfl
  have lm : loop.length * (many / loop.length + 1) ≤ 200 * 501 := Nat.mul_le_mul h2 (by omega)
  have c4 : ((stem.length + (reps loop (many / loop.length + 1)).length) ≤ 1000000) = True := eq_true (by rw [reps_len]; omega)
  ((simp (config := {decide := true, maxSteps := 1000000}) (disch := omega) only [Df.fn, Nat.reduceAdd, Nat.reduceSub, Nat.reduceMul, Int.reduceToNat, Int.reduceAdd, Int.reduceSub, Int.reduceMul, Int.reduceNeg, Int.reduceLE, Int.reduceLT, at0, at1, at2, at3, Nat.zero_add, Nat.sub_self, List.map_cons, List.map_nil, List.length_cons, List.length_nil, List.replicate_succ, List.replicate_zero, List.cons_append, List.nil_append, List.append_nil, List.getElem?_cons_zero, List.getElem?_cons_succ, Option.join_some, List.set_cons_zero, List.set_cons_succ,
  onB_bl, onO_bl, bind_ok, out_ok, bind_ite, out_ite, seq_next, seq_ret, seq_ite, end_next, end_ret, end_ite, optO_some, optR_some, x_var, x_cst, x_b2, x_b1, x_sset, x_rg, x_and, x_or, x_ite, x_chain, x_tup, x_lst, x_idx, x_slc, x_call, x_isi, x_gin, x_gget, x_comp, x_nil, x_cons, x_asg, x_asgT, x_par, x_sub, x_app, x_ext, x_expr, x_ret, x_retN, x_ife, x_for, x_pass, x_end, x_seq,
  turn_next, turn_ret, turn_ite, pyEq_int, wipeD, setTgt, setEach,
  o_add_i, o_add_t, o_sub, o_mul_i, o_fdiv, o_mod, o_eq, o_ne, o_lt, o_le, o_gt, o_ge, o_mx, o_mn, o_neg, o_len_t, o_len_l, o_int_i, o_int_b, o_isN, o_notN, o_asI, o_isF, o_lnot, o_truth, o_tuple_t, o_tuple_l, o_list_t, o_idx_t, o_all_last, o_tuple_last, MP.isNon, Bool.not_true, Bool.not_false, List.length_append, List.append_assoc,
  truthOf, isTys, isTy, kindD, tyB, gc_self, mkT, mkL, lim, seqOf, Option.map_some, Nat.beq, Bool.or_false, Bool.or_true, decide_eq_true_eq, decide_true, decide_false, Bool.true_and, Bool.true_or, Bool.false_or, Bool.false_and, Bool.and_false, Bool.and_true, if_true, Bool.false_eq_true, if_false, ite_true, ite_false, toB_map, toB, optAll, all_q, all_tt, List.all_cons, List.all_nil, id, gc_b, gc_n, gc_i, slc1, it_tup, List.drop_succ_cons, List.drop_zero, d29, colsD, List.length_map, c1, c2, c3, mul, c4, slc0]))
  rw [List.map_take, List.map_append]
theorem looping_ok : ∀ k, 6 ≤ k → ∀ (m : Ml) (stem loop : List (List Int)) (st : Sto), m.ok → (∀ c ∈ stem, m.col c) → (∀ c ∈ loop, m.col c) → 1 ≤ loop.length → stem.length + loop.length ≤ 200 → run tb k 20 [m.d, .tup [colsD stem, colsD loop]] st = .ok (.bl true) st := lift fun k hk m stem loop st h hs hl h1 h2 => by
  rw [run_succ (f := d20.fn) rfl rfl]
  have a1 := fun st => are_columns_ok k (by omega) m stem st h (by omega) hs
  have a2 := fun st => are_columns_ok k (by omega) m loop st h (by omega) hl
  have c1 : ((0 : Int) < (loop.length : Int)) = True := eq_true (by omega)
  have c2 : ((stem.length : Int) + (loop.length : Int) ≤ 200) = True := eq_true (by omega)
  simp only [colsD, Ml.d, Ml.nd] at a1 a2
  ((simp (config := {decide := true, maxSteps := 1000000}) (disch := omega) only [Df.fn, Nat.reduceAdd, Nat.reduceSub, Nat.reduceMul, Int.reduceToNat, Int.reduceAdd, Int.reduceSub, Int.reduceMul, Int.reduceNeg, Int.reduceLE, Int.reduceLT, at0, at1, at2, at3, Nat.zero_add, Nat.sub_self, List.map_cons, List.map_nil, List.length_cons, List.length_nil, List.replicate_succ, List.replicate_zero, List.cons_append, List.nil_append, List.append_nil, List.getElem?_cons_zero, List.getElem?_cons_succ, Option.join_some, List.set_cons_zero, List.set_cons_succ,
  onB_bl, onO_bl, bind_ok, out_ok, bind_ite, out_ite, seq_next, seq_ret, seq_ite, end_next, end_ret, end_ite, optO_some, optR_some, x_var, x_cst, x_b2, x_b1, x_sset, x_rg, x_and, x_or, x_ite, x_chain, x_tup, x_lst, x_idx, x_slc, x_call, x_isi, x_gin, x_gget, x_comp, x_nil, x_cons, x_asg, x_asgT, x_par, x_sub, x_app, x_ext, x_expr, x_ret, x_retN, x_ife, x_for, x_pass, x_end, x_seq,
  turn_next, turn_ret, turn_ite, pyEq_int, wipeD, setTgt, setEach,
  o_add_i, o_add_t, o_sub, o_mul_i, o_fdiv, o_mod, o_eq, o_ne, o_lt, o_le, o_gt, o_ge, o_mx, o_mn, o_neg, o_len_t, o_len_l, o_int_i, o_int_b, o_isN, o_notN, o_asI, o_isF, o_lnot, o_truth, o_tuple_t, o_tuple_l, o_list_t, o_idx_t, o_all_last, o_tuple_last, MP.isNon, Bool.not_true, Bool.not_false, List.length_append, List.append_assoc,
  truthOf, isTys, isTy, kindD, tyB, gc_self, mkT, mkL, lim, seqOf, Option.map_some, Nat.beq, Bool.or_false, Bool.or_true, decide_eq_true_eq, decide_true, decide_false, Bool.true_and, Bool.true_or, Bool.false_or, Bool.false_and, Bool.and_false, Bool.and_true, if_true, Bool.false_eq_true, if_false, ite_true, ite_false, toB_map, toB, optAll, all_q, all_tt, List.all_cons, List.all_nil, id, gc_b, gc_n, gc_i, slc1, it_tup, List.drop_succ_cons, List.drop_zero, d20, colsD, Ml.d, Ml.nd, is_tuple_ok k (by omega) _ _ _ _ (kno_tup _ _), tuD, a1, a2, List.length_map, c1, c2]))
abbrev hiBody : List CS := [(.ife (.b1 .lnot (.b1 .truth (.call 11 [(.idx (.var 0) (.cst (.int 3))), (.var 7), (.b2 .add (.var 8) (.var 4))] []))) [(.ret (.cst (.bl false)))] [])]
theorem hist_loop {cl : Nat → List D → Sto → R D} {still : Sto → Bool} (hs : ∀ s, still s = true) {m : Ml} {b : Int} {C : D} {A1 A2 A3 A5 A6 : Option D} {q : Nat → Bool} {st : Sto} : ∀ (n lo : Nat) (A8 : Option D), (∀ i, i < n → cl 11 [.tup (m.eqs.map eqD), C, .int (((lo + i : Nat) : Int) + b)] st = .ok (.bl (q (lo + i))) st) →
    (((List.range n).all fun i => q (lo + i)) = true ∧ ∃ B8, forL still (setTgt true [8]) (evSs cl hiBody) (rangeD (lo : Int) n) [some m.d, A1, A2, A3, some (.int b), A5, A6, some C, A8] st = .next [some m.d, A1, A2, A3, some (.int b), A5, A6, some C, B8] st) ∨
    (((List.range n).all fun i => q (lo + i)) = false ∧ forL still (setTgt true [8]) (evSs cl hiBody) (rangeD (lo : Int) n) [some m.d, A1, A2, A3, some (.int b), A5, A6, some C, A8] st = .ret (.bl false) st)
  | 0, lo, A8, _ => .inl ⟨rfl, A8, for_nil _ _ _ _ _ (hs _)⟩
  | n + 1, lo, A8, h => by
    have h0 := h 0 (by omega)
    simp only [Nat.add_zero] at h0
    have cast : ((lo : Int) + 1) = ((lo + 1 : Nat) : Int) := by omega
    have hrec := hist_loop hs (m := m) (b := b) (C := C) (A1 := A1) (A2 := A2) (A3 := A3) (A5 := A5) (A6 := A6) (q := q) (st := st) (cl := cl) n (lo + 1) (some (.int lo)) (fun i hi => by
      have := h (i + 1) (by omega)
      rw [show lo + (i + 1) = lo + 1 + i by omega] at this
      exact this)
    have al : ((List.range (n + 1)).all fun i => q (lo + i)) = (q lo && (List.range n).all fun i => q (lo + 1 + i)) := by
      rw [List.range_succ_eq_map, List.all_cons, List.all_map]
      congr 1
      refine all_mem fun i _ => ?_
      simp only [Function.comp]
      congr 1
      omega
    rw [al]
    show (_ ∧ ∃ B8, forL _ _ _ (.int (lo : Int) :: rangeD ((lo : Int) + 1) n) _ _ = _) ∨ (_ ∧ forL _ _ _ (.int (lo : Int) :: rangeD ((lo : Int) + 1) n) _ _ = _)
    rw [for_cons _ _ _ _ _ _ _ (hs _), cast]
    cases hq : q lo with
    | true =>
      rw [hq] at h0
      rcases hrec with ⟨r1, B8, r2⟩ | ⟨r1, r2⟩
      · refine .inl ⟨by rw [r1]; rfl, B8, ?_⟩
        rw [← r2]
        simp only [Ml.d, Ml.nd]
        (simp (config := {decide := true, maxSteps := 1000000}) (disch := omega) only [Df.fn, Nat.reduceAdd, Nat.reduceSub, Nat.reduceMul, Int.reduceToNat, Int.reduceAdd, Int.reduceSub, Int.reduceMul, Int.reduceNeg, Int.reduceLE, Int.reduceLT, at0, at1, at2, at3, Nat.zero_add, Nat.sub_self, List.map_cons, List.map_nil, List.length_cons, List.length_nil, List.replicate_succ, List.replicate_zero, List.cons_append, List.nil_append, List.append_nil, List.getElem?_cons_zero, List.getElem?_cons_succ, Option.join_some, List.set_cons_zero, List.set_cons_succ,
  onB_bl, onO_bl, bind_ok, out_ok, bind_ite, out_ite, seq_next, seq_ret, seq_ite, end_next, end_ret, end_ite, optO_some, optR_some, x_var, x_cst, x_b2, x_b1, x_sset, x_rg, x_and, x_or, x_ite, x_chain, x_tup, x_lst, x_idx, x_slc, x_call, x_isi, x_gin, x_gget, x_comp, x_nil, x_cons, x_asg, x_asgT, x_par, x_sub, x_app, x_ext, x_expr, x_ret, x_retN, x_ife, x_for, x_pass, x_end, x_seq,
  turn_next, turn_ret, turn_ite, pyEq_int, wipeD, setTgt, setEach,
  o_add_i, o_add_t, o_sub, o_mul_i, o_fdiv, o_mod, o_eq, o_ne, o_lt, o_le, o_gt, o_ge, o_mx, o_mn, o_neg, o_len_t, o_len_l, o_int_i, o_int_b, o_isN, o_notN, o_asI, o_isF, o_lnot, o_truth, o_tuple_t, o_tuple_l, o_list_t, o_idx_t, o_all_last, o_tuple_last, MP.isNon, Bool.not_true, Bool.not_false, List.length_append, List.append_assoc,
  truthOf, isTys, isTy, kindD, tyB, gc_self, mkT, mkL, lim, seqOf, Option.map_some, Nat.beq, Bool.or_false, Bool.or_true, decide_eq_true_eq, decide_true, decide_false, Bool.true_and, Bool.true_or, Bool.false_or, Bool.false_and, Bool.and_false, Bool.and_true, if_true, Bool.false_eq_true, if_false, ite_true, ite_false, hiBody, h0, gcE_self])
      · refine .inr ⟨by rw [r1]; rfl, ?_⟩
        rw [← r2]
        simp only [Ml.d, Ml.nd]
        (simp (config := {decide := true, maxSteps := 1000000}) (disch := omega) only [Df.fn, Nat.reduceAdd, Nat.reduceSub, Nat.reduceMul, Int.reduceToNat, Int.reduceAdd, Int.reduceSub, Int.reduceMul, Int.reduceNeg, Int.reduceLE, Int.reduceLT, at0, at1, at2, at3, Nat.zero_add, Nat.sub_self, List.map_cons, List.map_nil, List.length_cons, List.length_nil, List.replicate_succ, List.replicate_zero, List.cons_append, List.nil_append, List.append_nil, List.getElem?_cons_zero, List.getElem?_cons_succ, Option.join_some, List.set_cons_zero, List.set_cons_succ,
  onB_bl, onO_bl, bind_ok, out_ok, bind_ite, out_ite, seq_next, seq_ret, seq_ite, end_next, end_ret, end_ite, optO_some, optR_some, x_var, x_cst, x_b2, x_b1, x_sset, x_rg, x_and, x_or, x_ite, x_chain, x_tup, x_lst, x_idx, x_slc, x_call, x_isi, x_gin, x_gget, x_comp, x_nil, x_cons, x_asg, x_asgT, x_par, x_sub, x_app, x_ext, x_expr, x_ret, x_retN, x_ife, x_for, x_pass, x_end, x_seq,
  turn_next, turn_ret, turn_ite, pyEq_int, wipeD, setTgt, setEach,
  o_add_i, o_add_t, o_sub, o_mul_i, o_fdiv, o_mod, o_eq, o_ne, o_lt, o_le, o_gt, o_ge, o_mx, o_mn, o_neg, o_len_t, o_len_l, o_int_i, o_int_b, o_isN, o_notN, o_asI, o_isF, o_lnot, o_truth, o_tuple_t, o_tuple_l, o_list_t, o_idx_t, o_all_last, o_tuple_last, MP.isNon, Bool.not_true, Bool.not_false, List.length_append, List.append_assoc,
  truthOf, isTys, isTy, kindD, tyB, gc_self, mkT, mkL, lim, seqOf, Option.map_some, Nat.beq, Bool.or_false, Bool.or_true, decide_eq_true_eq, decide_true, decide_false, Bool.true_and, Bool.true_or, Bool.false_or, Bool.false_and, Bool.and_false, Bool.and_true, if_true, Bool.false_eq_true, if_false, ite_true, ite_false, hiBody, h0, gcE_self])
    | false =>
      rw [hq] at h0
      refine .inr ⟨rfl, ?_⟩
      simp only [Ml.d, Ml.nd]
      (simp (config := {decide := true, maxSteps := 1000000}) (disch := omega) only [Df.fn, Nat.reduceAdd, Nat.reduceSub, Nat.reduceMul, Int.reduceToNat, Int.reduceAdd, Int.reduceSub, Int.reduceMul, Int.reduceNeg, Int.reduceLE, Int.reduceLT, at0, at1, at2, at3, Nat.zero_add, Nat.sub_self, List.map_cons, List.map_nil, List.length_cons, List.length_nil, List.replicate_succ, List.replicate_zero, List.cons_append, List.nil_append, List.append_nil, List.getElem?_cons_zero, List.getElem?_cons_succ, Option.join_some, List.set_cons_zero, List.set_cons_succ,
  onB_bl, onO_bl, bind_ok, out_ok, bind_ite, out_ite, seq_next, seq_ret, seq_ite, end_next, end_ret, end_ite, optO_some, optR_some, x_var, x_cst, x_b2, x_b1, x_sset, x_rg, x_and, x_or, x_ite, x_chain, x_tup, x_lst, x_idx, x_slc, x_call, x_isi, x_gin, x_gget, x_comp, x_nil, x_cons, x_asg, x_asgT, x_par, x_sub, x_app, x_ext, x_expr, x_ret, x_retN, x_ife, x_for, x_pass, x_end, x_seq,
  turn_next, turn_ret, turn_ite, pyEq_int, wipeD, setTgt, setEach,
  o_add_i, o_add_t, o_sub, o_mul_i, o_fdiv, o_mod, o_eq, o_ne, o_lt, o_le, o_gt, o_ge, o_mx, o_mn, o_neg, o_len_t, o_len_l, o_int_i, o_int_b, o_isN, o_notN, o_asI, o_isF, o_lnot, o_truth, o_tuple_t, o_tuple_l, o_list_t, o_idx_t, o_all_last, o_tuple_last, MP.isNon, Bool.not_true, Bool.not_false, List.length_append, List.append_assoc,
  truthOf, isTys, isTy, kindD, tyB, gc_self, mkT, mkL, lim, seqOf, Option.map_some, Nat.beq, Bool.or_false, Bool.or_true, decide_eq_true_eq, decide_true, decide_false, Bool.true_and, Bool.true_or, Bool.false_or, Bool.false_and, Bool.and_false, Bool.and_true, if_true, Bool.false_eq_true, if_false, ite_true, ite_false, hiBody, h0, gcE_self])
end Lw
/-! ## KM15 -/
set_option Elab.async false
set_option linter.all false
set_option autoImplicit false
set_option maxRecDepth 100000
set_option maxHeartbeats 1000000
namespace Lw
open PySem PySem.Spec PyProof.Rows L2 MP
theorem is_history_ok : ∀ k, 16 ≤ k → ∀ (m : Ml) (stem loop : List (List Int)) (st : Sto) (T : Nat), m.ok → (∀ c ∈ stem, m.col c) → (∀ c ∈ loop, m.col c) → 1 ≤ loop.length → stem.length + loop.length ≤ 200 → (T : Int) = stem.length + m.back + loop.length →
    run tb k 25 [m.d, .tup [colsD stem, colsD loop]] st = .ok (.bl ((List.range T).all fun t => Hd m (las m stem loop) t)) st := lift fun k hk m stem loop st T h hs hl h1 h2 hT => by
  rw [run_succ (f := d25.fn) rfl rfl]
  have bb := back_bd h
  have c1 := fun st => check_mill_ok k (by omega) m st h
  have c2 := fun st => looping_ok k (by omega) m stem loop st h hs hl h1 h2
  have c3 := fun st => looks_ok k (by omega) m.names.length m.eqs st h.eq
  obtain ⟨n, n1, c5⟩ := unrolled_ok k (by omega) stem loop (T + m.ahead.toNat) st h1 (by omega) (by omega) (by omega)
  have eT : ((T + m.ahead.toNat : Nat) : Int) = (T : Int) + m.ahead := by omega
  rw [eT] at c5
  have len : ((stem ++ reps loop n).take (T + m.ahead.toNat)).length = T + m.ahead.toNat := by
    rw [List.length_take, List.length_append, reps_len]
    omega
  have c4 := fun st => with_before_ok k (by omega) m ((stem ++ reps loop n).take (T + m.ahead.toNat)) st h (by rw [len]; omega)
  have c6 : ∀ i, i < T → run tb k 11 [.tup (m.eqs.map eqD), colsD (List.replicate m.back.toNat (bef m) ++ (stem ++ reps loop n).take (T + m.ahead.toNat)), .int (((0 + i : Nat) : Int) + m.back)] st = .ok (.bl (Hd m (las m stem loop) ((0 + i : Nat) : Int))) st := fun i hi =>
    all_hold_at h (tick := ((0 + i : Nat) : Int)) (at_ := ((0 + i : Nat) : Int) + m.back) (c := las m stem loop) (fun p p0 p1 => by
      have e : ((0 + i : Nat) : Int) + m.back - ((0 + i : Nat) : Int) = m.back := by omega
      rw [e]
      refine ⟨by omega, ?_, las_col h hs hl p⟩
      by_cases hp : 0 ≤ p
      · rw [List.getElem?_append_right (by simp; omega)]
        have e2 : (p + m.back).toNat - (List.replicate m.back.toNat (bef m)).length = p.toNat := by simp; omega
        rw [e2, List.getElem?_take, if_pos (by omega)]
        exact las_at hp (by omega)
      · rw [List.getElem?_append_left (by simp; omega), List.getElem?_replicate, if_pos (by omega)]
        unfold las
        rw [if_pos (by omega)]) k (by omega) st
  have it := it_rng T .non st (by omega)
  have e1 : (stem.length : Int) + m.back + loop.length = T := hT.symm
  have e2 : ((List.replicate m.back.toNat (bef m)).length + ((stem ++ reps loop n).take (T + m.ahead.toNat)).length ≤ 1000000) = True := eq_true (by rw [len]; simp; omega)
  have lp := hist_loop (cl := run tb k) (still := stillOf 1 (.int T) .non st) (fun _ => rfl) (m := m) (b := m.back) (C := colsD (List.replicate m.back.toNat (bef m) ++ (stem ++ reps loop n).take (T + m.ahead.toNat)))
    (A1 := some (.tup [colsD stem, colsD loop])) (A2 := some (colsD stem)) (A3 := some (colsD loop)) (A5 := some (.int m.ahead)) (A6 := some (.int T)) (q := fun i => Hd m (las m stem loop) (i : Int)) (st := st) T 0 none c6
  have all0 : ((List.range T).all fun i => Hd m (las m stem loop) ((0 + i : Nat) : Int)) = (List.range T).all fun t => Hd m (las m stem loop) (t : Int) := all_mem fun i _ => by rw [Nat.zero_add]
  have c0 : ((0 : Nat) : Int) = 0 := rfl
  simp only [all0, c0] at lp
  have d1 : m.d = .tup [.int m.letters, .tup (m.names.map nmD), .tup (m.told.map .int), .tup (m.eqs.map eqD)] := rfl
  have cols2 : ∀ a b : List (List Int), colsD (a ++ b) = .tup (a.map cD ++ b.map cD) := fun a b => by simp [colsD]
  rw [cols2] at lp
  simp only [cols2] at c4
  rw [d1] at c1 c2 c4 lp ⊢
  have bk : bkF 0 (aoffs m.eqs) = m.back := rfl
  have ah : ahF 0 (aoffs m.eqs) = m.ahead := rfl
  simp only [bk, ah] at c3
  have b27 : ∀ xs, colsD xs = .tup (xs.map cD) := fun _ => rfl
  simp only [b27] at c2 c4 c5 lp ⊢
  rcases lp with ⟨r1, B8, r2⟩ | ⟨r1, r2⟩
  · rw [r1]
    ((simp (config := {decide := true, maxSteps := 1000000}) (disch := omega) only [Df.fn, Nat.reduceAdd, Nat.reduceSub, Nat.reduceMul, Int.reduceToNat, Int.reduceAdd, Int.reduceSub, Int.reduceMul, Int.reduceNeg, Int.reduceLE, Int.reduceLT, at0, at1, at2, at3, Nat.zero_add, Nat.sub_self, List.map_cons, List.map_nil, List.length_cons, List.length_nil, List.replicate_succ, List.replicate_zero, List.cons_append, List.nil_append, List.append_nil, List.getElem?_cons_zero, List.getElem?_cons_succ, Option.join_some, List.set_cons_zero, List.set_cons_succ,
  onB_bl, onO_bl, bind_ok, out_ok, bind_ite, out_ite, seq_next, seq_ret, seq_ite, end_next, end_ret, end_ite, optO_some, optR_some, x_var, x_cst, x_b2, x_b1, x_sset, x_rg, x_and, x_or, x_ite, x_chain, x_tup, x_lst, x_idx, x_slc, x_call, x_isi, x_gin, x_gget, x_comp, x_nil, x_cons, x_asg, x_asgT, x_par, x_sub, x_app, x_ext, x_expr, x_ret, x_retN, x_ife, x_for, x_pass, x_end, x_seq,
  turn_next, turn_ret, turn_ite, pyEq_int, wipeD, setTgt, setEach,
  o_add_i, o_add_t, o_sub, o_mul_i, o_fdiv, o_mod, o_eq, o_ne, o_lt, o_le, o_gt, o_ge, o_mx, o_mn, o_neg, o_len_t, o_len_l, o_int_i, o_int_b, o_isN, o_notN, o_asI, o_isF, o_lnot, o_truth, o_tuple_t, o_tuple_l, o_list_t, o_idx_t, o_all_last, o_tuple_last, MP.isNon, Bool.not_true, Bool.not_false, List.length_append, List.append_assoc,
  truthOf, isTys, isTy, kindD, tyB, gc_self, mkT, mkL, lim, seqOf, Option.map_some, Nat.beq, Bool.or_false, Bool.or_true, decide_eq_true_eq, decide_true, decide_false, Bool.true_and, Bool.true_or, Bool.false_or, Bool.false_and, Bool.and_false, Bool.and_true, if_true, Bool.false_eq_true, if_false, ite_true, ite_false, toB_map, toB, optAll, all_q, all_tt, List.all_cons, List.all_nil, id, gc_b, gc_n, gc_i, slc1, it_tup, List.drop_succ_cons, List.drop_zero, d25, c1, c2, c3, c4, c5, List.length_map, e1, e2, it, r2]))
  · rw [r1]
    ((simp (config := {decide := true, maxSteps := 1000000}) (disch := omega) only [Df.fn, Nat.reduceAdd, Nat.reduceSub, Nat.reduceMul, Int.reduceToNat, Int.reduceAdd, Int.reduceSub, Int.reduceMul, Int.reduceNeg, Int.reduceLE, Int.reduceLT, at0, at1, at2, at3, Nat.zero_add, Nat.sub_self, List.map_cons, List.map_nil, List.length_cons, List.length_nil, List.replicate_succ, List.replicate_zero, List.cons_append, List.nil_append, List.append_nil, List.getElem?_cons_zero, List.getElem?_cons_succ, Option.join_some, List.set_cons_zero, List.set_cons_succ,
  onB_bl, onO_bl, bind_ok, out_ok, bind_ite, out_ite, seq_next, seq_ret, seq_ite, end_next, end_ret, end_ite, optO_some, optR_some, x_var, x_cst, x_b2, x_b1, x_sset, x_rg, x_and, x_or, x_ite, x_chain, x_tup, x_lst, x_idx, x_slc, x_call, x_isi, x_gin, x_gget, x_comp, x_nil, x_cons, x_asg, x_asgT, x_par, x_sub, x_app, x_ext, x_expr, x_ret, x_retN, x_ife, x_for, x_pass, x_end, x_seq,
  turn_next, turn_ret, turn_ite, pyEq_int, wipeD, setTgt, setEach,
  o_add_i, o_add_t, o_sub, o_mul_i, o_fdiv, o_mod, o_eq, o_ne, o_lt, o_le, o_gt, o_ge, o_mx, o_mn, o_neg, o_len_t, o_len_l, o_int_i, o_int_b, o_isN, o_notN, o_asI, o_isF, o_lnot, o_truth, o_tuple_t, o_tuple_l, o_list_t, o_idx_t, o_all_last, o_tuple_last, MP.isNon, Bool.not_true, Bool.not_false, List.length_append, List.append_assoc,
  truthOf, isTys, isTy, kindD, tyB, gc_self, mkT, mkL, lim, seqOf, Option.map_some, Nat.beq, Bool.or_false, Bool.or_true, decide_eq_true_eq, decide_true, decide_false, Bool.true_and, Bool.true_or, Bool.false_or, Bool.false_and, Bool.and_false, Bool.and_true, if_true, Bool.false_eq_true, if_false, ite_true, ite_false, toB_map, toB, optAll, all_q, all_tt, List.all_cons, List.all_nil, id, gc_b, gc_n, gc_i, slc1, it_tup, List.drop_succ_cons, List.drop_zero, d25, c1, c2, c3, c4, c5, List.length_map, e1, e2, it, r2]))
theorem not_history : ∀ k, 16 ≤ k → ∀ (m : Ml) (v : D) (st : Sto), m.ok → (∀ k', 15 ≤ k' → run tb k' 20 [m.d, v] st = .ok (.bl false) st) → run tb k 25 [m.d, v] st = .ok (.bl false) st := lift fun k hk m v st h hv => by
  rw [run_succ (f := d25.fn) rfl rfl]
  have c1 := fun st => check_mill_ok k (by omega) m st h
  have c2 := hv k hk
  have d1 : m.d = .tup [.int m.letters, .tup (m.names.map nmD), .tup (m.told.map .int), .tup (m.eqs.map eqD)] := rfl
  rw [d1] at c1 c2 ⊢
  ((simp (config := {decide := true, maxSteps := 1000000}) (disch := omega) only [Df.fn, Nat.reduceAdd, Nat.reduceSub, Nat.reduceMul, Int.reduceToNat, Int.reduceAdd, Int.reduceSub, Int.reduceMul, Int.reduceNeg, Int.reduceLE, Int.reduceLT, at0, at1, at2, at3, Nat.zero_add, Nat.sub_self, List.map_cons, List.map_nil, List.length_cons, List.length_nil, List.replicate_succ, List.replicate_zero, List.cons_append, List.nil_append, List.append_nil, List.getElem?_cons_zero, List.getElem?_cons_succ, Option.join_some, List.set_cons_zero, List.set_cons_succ,
  onB_bl, onO_bl, bind_ok, out_ok, bind_ite, out_ite, seq_next, seq_ret, seq_ite, end_next, end_ret, end_ite, optO_some, optR_some, x_var, x_cst, x_b2, x_b1, x_sset, x_rg, x_and, x_or, x_ite, x_chain, x_tup, x_lst, x_idx, x_slc, x_call, x_isi, x_gin, x_gget, x_comp, x_nil, x_cons, x_asg, x_asgT, x_par, x_sub, x_app, x_ext, x_expr, x_ret, x_retN, x_ife, x_for, x_pass, x_end, x_seq,
  turn_next, turn_ret, turn_ite, pyEq_int, wipeD, setTgt, setEach,
  o_add_i, o_add_t, o_sub, o_mul_i, o_fdiv, o_mod, o_eq, o_ne, o_lt, o_le, o_gt, o_ge, o_mx, o_mn, o_neg, o_len_t, o_len_l, o_int_i, o_int_b, o_isN, o_notN, o_asI, o_isF, o_lnot, o_truth, o_tuple_t, o_tuple_l, o_list_t, o_idx_t, o_all_last, o_tuple_last, MP.isNon, Bool.not_true, Bool.not_false, List.length_append, List.append_assoc,
  truthOf, isTys, isTy, kindD, tyB, gc_self, mkT, mkL, lim, seqOf, Option.map_some, Nat.beq, Bool.or_false, Bool.or_true, decide_eq_true_eq, decide_true, decide_false, Bool.true_and, Bool.true_or, Bool.false_or, Bool.false_and, Bool.and_false, Bool.and_true, if_true, Bool.false_eq_true, if_false, ite_true, ite_false, toB_map, toB, optAll, all_q, all_tt, List.all_cons, List.all_nil, id, gc_b, gc_n, gc_i, slc1, it_tup, List.drop_succ_cons, List.drop_zero, d25, c1, c2]))
theorem no_pair (m : Ml) (v : D) (st : Sto) (hk : kno st v) (ht : tuD 2 2 v = false) : ∀ k', 15 ≤ k' → run tb k' 20 [m.d, v] st = .ok (.bl false) st := lift fun k _ => by
  rw [run_succ (f := d20.fn) rfl rfl]
  ((simp (config := {decide := true, maxSteps := 1000000}) (disch := omega) only [Df.fn, Nat.reduceAdd, Nat.reduceSub, Nat.reduceMul, Int.reduceToNat, Int.reduceAdd, Int.reduceSub, Int.reduceMul, Int.reduceNeg, Int.reduceLE, Int.reduceLT, at0, at1, at2, at3, Nat.zero_add, Nat.sub_self, List.map_cons, List.map_nil, List.length_cons, List.length_nil, List.replicate_succ, List.replicate_zero, List.cons_append, List.nil_append, List.append_nil, List.getElem?_cons_zero, List.getElem?_cons_succ, Option.join_some, List.set_cons_zero, List.set_cons_succ,
  onB_bl, onO_bl, bind_ok, out_ok, bind_ite, out_ite, seq_next, seq_ret, seq_ite, end_next, end_ret, end_ite, optO_some, optR_some, x_var, x_cst, x_b2, x_b1, x_sset, x_rg, x_and, x_or, x_ite, x_chain, x_tup, x_lst, x_idx, x_slc, x_call, x_isi, x_gin, x_gget, x_comp, x_nil, x_cons, x_asg, x_asgT, x_par, x_sub, x_app, x_ext, x_expr, x_ret, x_retN, x_ife, x_for, x_pass, x_end, x_seq,
  turn_next, turn_ret, turn_ite, pyEq_int, wipeD, setTgt, setEach,
  o_add_i, o_add_t, o_sub, o_mul_i, o_fdiv, o_mod, o_eq, o_ne, o_lt, o_le, o_gt, o_ge, o_mx, o_mn, o_neg, o_len_t, o_len_l, o_int_i, o_int_b, o_isN, o_notN, o_asI, o_isF, o_lnot, o_truth, o_tuple_t, o_tuple_l, o_list_t, o_idx_t, o_all_last, o_tuple_last, MP.isNon, Bool.not_true, Bool.not_false, List.length_append, List.append_assoc,
  truthOf, isTys, isTy, kindD, tyB, gc_self, mkT, mkL, lim, seqOf, Option.map_some, Nat.beq, Bool.or_false, Bool.or_true, decide_eq_true_eq, decide_true, decide_false, Bool.true_and, Bool.true_or, Bool.false_or, Bool.false_and, Bool.and_false, Bool.and_true, if_true, Bool.false_eq_true, if_false, ite_true, ite_false, toB_map, toB, optAll, all_q, all_tt, List.all_cons, List.all_nil, id, gc_b, gc_n, gc_i, slc1, it_tup, List.drop_succ_cons, List.drop_zero, d20, is_tuple_ok k (by omega) _ _ _ _ hk, ht]))
theorem no_first (m : Ml) (a b : D) (st : Sto) (q : Bool) (ha : ∀ k', 14 ≤ k' → run tb k' 19 [m.d, a] st = .ok (.bl q) st) (hb : q = true → ∀ k', 14 ≤ k' → run tb k' 19 [m.d, b] st = .ok (.bl false) st) : ∀ k', 15 ≤ k' → run tb k' 20 [m.d, .tup [a, b]] st = .ok (.bl false) st := lift fun k hk => by
  rw [run_succ (f := d20.fn) rfl rfl]
  have h1 := ha k hk
  cases q with
  | false => ((simp (config := {decide := true, maxSteps := 1000000}) (disch := omega) only [Df.fn, Nat.reduceAdd, Nat.reduceSub, Nat.reduceMul, Int.reduceToNat, Int.reduceAdd, Int.reduceSub, Int.reduceMul, Int.reduceNeg, Int.reduceLE, Int.reduceLT, at0, at1, at2, at3, Nat.zero_add, Nat.sub_self, List.map_cons, List.map_nil, List.length_cons, List.length_nil, List.replicate_succ, List.replicate_zero, List.cons_append, List.nil_append, List.append_nil, List.getElem?_cons_zero, List.getElem?_cons_succ, Option.join_some, List.set_cons_zero, List.set_cons_succ,
  onB_bl, onO_bl, bind_ok, out_ok, bind_ite, out_ite, seq_next, seq_ret, seq_ite, end_next, end_ret, end_ite, optO_some, optR_some, x_var, x_cst, x_b2, x_b1, x_sset, x_rg, x_and, x_or, x_ite, x_chain, x_tup, x_lst, x_idx, x_slc, x_call, x_isi, x_gin, x_gget, x_comp, x_nil, x_cons, x_asg, x_asgT, x_par, x_sub, x_app, x_ext, x_expr, x_ret, x_retN, x_ife, x_for, x_pass, x_end, x_seq,
  turn_next, turn_ret, turn_ite, pyEq_int, wipeD, setTgt, setEach,
  o_add_i, o_add_t, o_sub, o_mul_i, o_fdiv, o_mod, o_eq, o_ne, o_lt, o_le, o_gt, o_ge, o_mx, o_mn, o_neg, o_len_t, o_len_l, o_int_i, o_int_b, o_isN, o_notN, o_asI, o_isF, o_lnot, o_truth, o_tuple_t, o_tuple_l, o_list_t, o_idx_t, o_all_last, o_tuple_last, MP.isNon, Bool.not_true, Bool.not_false, List.length_append, List.append_assoc,
  truthOf, isTys, isTy, kindD, tyB, gc_self, mkT, mkL, lim, seqOf, Option.map_some, Nat.beq, Bool.or_false, Bool.or_true, decide_eq_true_eq, decide_true, decide_false, Bool.true_and, Bool.true_or, Bool.false_or, Bool.false_and, Bool.and_false, Bool.and_true, if_true, Bool.false_eq_true, if_false, ite_true, ite_false, toB_map, toB, optAll, all_q, all_tt, List.all_cons, List.all_nil, id, gc_b, gc_n, gc_i, slc1, it_tup, List.drop_succ_cons, List.drop_zero, d20, is_tuple_ok k (by omega) _ _ _ _ (kno_tup _ _), tuD, h1]))
  | true =>
    have h2 := hb rfl k hk
    ((simp (config := {decide := true, maxSteps := 1000000}) (disch := omega) only [Df.fn, Nat.reduceAdd, Nat.reduceSub, Nat.reduceMul, Int.reduceToNat, Int.reduceAdd, Int.reduceSub, Int.reduceMul, Int.reduceNeg, Int.reduceLE, Int.reduceLT, at0, at1, at2, at3, Nat.zero_add, Nat.sub_self, List.map_cons, List.map_nil, List.length_cons, List.length_nil, List.replicate_succ, List.replicate_zero, List.cons_append, List.nil_append, List.append_nil, List.getElem?_cons_zero, List.getElem?_cons_succ, Option.join_some, List.set_cons_zero, List.set_cons_succ,
  onB_bl, onO_bl, bind_ok, out_ok, bind_ite, out_ite, seq_next, seq_ret, seq_ite, end_next, end_ret, end_ite, optO_some, optR_some, x_var, x_cst, x_b2, x_b1, x_sset, x_rg, x_and, x_or, x_ite, x_chain, x_tup, x_lst, x_idx, x_slc, x_call, x_isi, x_gin, x_gget, x_comp, x_nil, x_cons, x_asg, x_asgT, x_par, x_sub, x_app, x_ext, x_expr, x_ret, x_retN, x_ife, x_for, x_pass, x_end, x_seq,
  turn_next, turn_ret, turn_ite, pyEq_int, wipeD, setTgt, setEach,
  o_add_i, o_add_t, o_sub, o_mul_i, o_fdiv, o_mod, o_eq, o_ne, o_lt, o_le, o_gt, o_ge, o_mx, o_mn, o_neg, o_len_t, o_len_l, o_int_i, o_int_b, o_isN, o_notN, o_asI, o_isF, o_lnot, o_truth, o_tuple_t, o_tuple_l, o_list_t, o_idx_t, o_all_last, o_tuple_last, MP.isNon, Bool.not_true, Bool.not_false, List.length_append, List.append_assoc,
  truthOf, isTys, isTy, kindD, tyB, gc_self, mkT, mkL, lim, seqOf, Option.map_some, Nat.beq, Bool.or_false, Bool.or_true, decide_eq_true_eq, decide_true, decide_false, Bool.true_and, Bool.true_or, Bool.false_or, Bool.false_and, Bool.and_false, Bool.and_true, if_true, Bool.false_eq_true, if_false, ite_true, ite_false, toB_map, toB, optAll, all_q, all_tt, List.all_cons, List.all_nil, id, gc_b, gc_n, gc_i, slc1, it_tup, List.drop_succ_cons, List.drop_zero, d20, is_tuple_ok k (by omega) _ _ _ _ (kno_tup _ _), tuD, h1, h2]))
theorem no_loop (m : Ml) (a : D) (st : Sto) (ha : ∀ k', 14 ≤ k' → run tb k' 19 [m.d, a] st = .ok (.bl true) st) : ∀ k', 15 ≤ k' → run tb k' 20 [m.d, .tup [a, .tup []]] st = .ok (.bl false) st := lift fun k hk => by
  rw [run_succ (f := d20.fn) rfl rfl]
  have h1 := ha k hk
  have h2 := are_columns_q k (by omega) m [] (fun _ => true) st (by simp) (by simp)
  simp only [List.all_nil] at h2
  ((simp (config := {decide := true, maxSteps := 1000000}) (disch := omega) only [Df.fn, Nat.reduceAdd, Nat.reduceSub, Nat.reduceMul, Int.reduceToNat, Int.reduceAdd, Int.reduceSub, Int.reduceMul, Int.reduceNeg, Int.reduceLE, Int.reduceLT, at0, at1, at2, at3, Nat.zero_add, Nat.sub_self, List.map_cons, List.map_nil, List.length_cons, List.length_nil, List.replicate_succ, List.replicate_zero, List.cons_append, List.nil_append, List.append_nil, List.getElem?_cons_zero, List.getElem?_cons_succ, Option.join_some, List.set_cons_zero, List.set_cons_succ,
  onB_bl, onO_bl, bind_ok, out_ok, bind_ite, out_ite, seq_next, seq_ret, seq_ite, end_next, end_ret, end_ite, optO_some, optR_some, x_var, x_cst, x_b2, x_b1, x_sset, x_rg, x_and, x_or, x_ite, x_chain, x_tup, x_lst, x_idx, x_slc, x_call, x_isi, x_gin, x_gget, x_comp, x_nil, x_cons, x_asg, x_asgT, x_par, x_sub, x_app, x_ext, x_expr, x_ret, x_retN, x_ife, x_for, x_pass, x_end, x_seq,
  turn_next, turn_ret, turn_ite, pyEq_int, wipeD, setTgt, setEach,
  o_add_i, o_add_t, o_sub, o_mul_i, o_fdiv, o_mod, o_eq, o_ne, o_lt, o_le, o_gt, o_ge, o_mx, o_mn, o_neg, o_len_t, o_len_l, o_int_i, o_int_b, o_isN, o_notN, o_asI, o_isF, o_lnot, o_truth, o_tuple_t, o_tuple_l, o_list_t, o_idx_t, o_all_last, o_tuple_last, MP.isNon, Bool.not_true, Bool.not_false, List.length_append, List.append_assoc,
  truthOf, isTys, isTy, kindD, tyB, gc_self, mkT, mkL, lim, seqOf, Option.map_some, Nat.beq, Bool.or_false, Bool.or_true, decide_eq_true_eq, decide_true, decide_false, Bool.true_and, Bool.true_or, Bool.false_or, Bool.false_and, Bool.and_false, Bool.and_true, if_true, Bool.false_eq_true, if_false, ite_true, ite_false, toB_map, toB, optAll, all_q, all_tt, List.all_cons, List.all_nil, id, gc_b, gc_n, gc_i, slc1, it_tup, List.drop_succ_cons, List.drop_zero, d20, is_tuple_ok k (by omega) _ _ _ _ (kno_tup _ _), tuD, h1, h2]))
theorem cols_loc (m : Ml) (v : D) (st : Sto) (hk : kno st v) (ht : tuD 0 200 v = false) : ∀ k', 14 ≤ k' → run tb k' 19 [m.d, v] st = .ok (.bl false) st := lift fun k _ => by
  rw [run_succ (f := d19.fn) rfl rfl]
  ((simp (config := {decide := true, maxSteps := 1000000}) (disch := omega) only [Df.fn, Nat.reduceAdd, Nat.reduceSub, Nat.reduceMul, Int.reduceToNat, Int.reduceAdd, Int.reduceSub, Int.reduceMul, Int.reduceNeg, Int.reduceLE, Int.reduceLT, at0, at1, at2, at3, Nat.zero_add, Nat.sub_self, List.map_cons, List.map_nil, List.length_cons, List.length_nil, List.replicate_succ, List.replicate_zero, List.cons_append, List.nil_append, List.append_nil, List.getElem?_cons_zero, List.getElem?_cons_succ, Option.join_some, List.set_cons_zero, List.set_cons_succ,
  onB_bl, onO_bl, bind_ok, out_ok, bind_ite, out_ite, seq_next, seq_ret, seq_ite, end_next, end_ret, end_ite, optO_some, optR_some, x_var, x_cst, x_b2, x_b1, x_sset, x_rg, x_and, x_or, x_ite, x_chain, x_tup, x_lst, x_idx, x_slc, x_call, x_isi, x_gin, x_gget, x_comp, x_nil, x_cons, x_asg, x_asgT, x_par, x_sub, x_app, x_ext, x_expr, x_ret, x_retN, x_ife, x_for, x_pass, x_end, x_seq,
  turn_next, turn_ret, turn_ite, pyEq_int, wipeD, setTgt, setEach,
  o_add_i, o_add_t, o_sub, o_mul_i, o_fdiv, o_mod, o_eq, o_ne, o_lt, o_le, o_gt, o_ge, o_mx, o_mn, o_neg, o_len_t, o_len_l, o_int_i, o_int_b, o_isN, o_notN, o_asI, o_isF, o_lnot, o_truth, o_tuple_t, o_tuple_l, o_list_t, o_idx_t, o_all_last, o_tuple_last, MP.isNon, Bool.not_true, Bool.not_false, List.length_append, List.append_assoc,
  truthOf, isTys, isTy, kindD, tyB, gc_self, mkT, mkL, lim, seqOf, Option.map_some, Nat.beq, Bool.or_false, Bool.or_true, decide_eq_true_eq, decide_true, decide_false, Bool.true_and, Bool.true_or, Bool.false_or, Bool.false_and, Bool.and_false, Bool.and_true, if_true, Bool.false_eq_true, if_false, ite_true, ite_false, toB_map, toB, optAll, all_q, all_tt, List.all_cons, List.all_nil, id, gc_b, gc_n, gc_i, slc1, it_tup, List.drop_succ_cons, List.drop_zero, d19, is_tuple_ok k (by omega) _ _ _ _ hk, ht]))
end Lw
/-! ## KM16 -/
set_option Elab.async false
set_option linter.all false
set_option autoImplicit false
set_option maxRecDepth 100000
set_option maxHeartbeats 1000000
namespace Lw
open PySem PySem.Spec PyProof.Rows L2 MP
theorem Chx.at {st s : Sto} (c : Chx st s) {n : Nat} {o : O} (hn : n ≠ 1) (h : st[n]? = some o) : s[n]? = some o := by
  obtain ⟨s0, t, h1, rfl⟩ := c
  have hl : n < s0.length := by rw [h1.len]; exact (List.getElem?_eq_some_iff.mp h).1
  rw [List.getElem?_append_left hl, h1.at hn]
  exact h
abbrev lEvery : List CS := [(.asg 5 (.b2 .add (.var 5) (.call 37 [(.var 2), (.var 6)] [])))]
theorem every_loop {k : Nat} (hk : 1 ≤ k) {m : Ml} (hm : m.ok) {base : Sto} {still : Sto → Bool} (hs : ∀ s, still s = true) {A0 A1 A3 A4 A7 A8 A9 A10 A11 A12 A13 A14 A15 A16 A17 : Option D} : ∀ (n lo : Nat) (s : Sto) (e : Nat) (L : List (List Int)) (A6 : Option D), (lo : Int) + n = m.letters → Chx base s → s[e]? = some (.lst (L.map cD)) → (∀ c ∈ L, m.col c) → L.length ≤ 1000 * lo → (n = 0 → L ≠ []) →
    ∃ (s' : Sto) (e' : Nat) (L' : List (List Int)) (B6 : Option D), forL still (setTgt true [6]) (evSs (run tb k) lEvery) (rangeD (lo : Int) n) [A0, A1, some m.d, A3, A4, some (.loc e), A6, A7, A8, A9, A10, A11, A12, A13, A14, A15, A16, A17] s = .next [A0, A1, some m.d, A3, A4, some (.loc e'), B6, A7, A8, A9, A10, A11, A12, A13, A14, A15, A16, A17] s' ∧
      Chx base s' ∧ s'[e']? = some (.lst (L'.map cD)) ∧ (∀ c ∈ L', m.col c) ∧ L' ≠ [] ∧ L'.length ≤ 3000
  | 0, lo, s, e, L, A6, hlo, x, he, hc, hl, hne => ⟨s, e, L, A6, for_nil _ _ _ _ _ (hs _), x, he, hc, hne rfl, by have := hm.l3; omega⟩
  | n + 1, lo, s, e, L, A6, hlo, x, he, hc, hl, _ => by
    have l3 := hm.l3
    obtain ⟨K, n1, s1, e1, x1, h1, k1, k2, k3⟩ := law_columns_ok k hk m lo s hm (by omega) (by omega)
    have add := o_add_l (x1.at he) h1 (by simp only [List.length_append, List.length_map]; omega)
    rw [← List.map_append] at add
    have x2 : Chx base (s1 ++ [.lst ((L ++ K).map cD)]) := by
      obtain ⟨t, rfl⟩ := x1
      exact (x.app _).app _
    obtain ⟨v1, v2⟩ := gcE_viewC x2 x.len [A0, A1, some m.d, A3, A4, some (.loc s1.length), some (.int lo), A7, A8, A9, A10, A11, A12, A13, A14, A15, A16, A17]
    have v3 := v2 5 _ rfl
    rw [at_last] at v3
    have cast : ((lo : Int) + 1) = ((lo + 1 : Nat) : Int) := by omega
    obtain ⟨s', e', L', B6, r1, r2, r3, r4, r5, r6⟩ := every_loop hk hm hs (base := base) (A0 := A0) (A1 := A1) (A3 := A3) (A4 := A4) (A7 := A7) (A8 := A8) (A9 := A9) (A10 := A10) (A11 := A11) (A12 := A12) (A13 := A13) (A14 := A14) (A15 := A15) (A16 := A16) (A17 := A17) n (lo + 1) _ s1.length (L ++ K) (some (.int lo)) (by omega) v1 v3 (fun c h' => by
      rcases List.mem_append.mp h' with z | z
      · exact hc c z
      · exact k1 c z) (by simp only [List.length_append]; omega) (fun _ => by simp [k2])
    refine ⟨s', e', L', B6, ?_, r2, r3, r4, r5, r6⟩
    rw [← r1]
    show forL _ _ _ (.int (lo : Int) :: rangeD ((lo : Int) + 1) n) _ _ = _
    rw [for_cons _ _ _ _ _ _ _ (hs _), cast]
    (simp (config := {decide := true, maxSteps := 1000000}) (disch := omega) only [Df.fn, Nat.reduceAdd, Nat.reduceSub, Nat.reduceMul, Int.reduceToNat, Int.reduceAdd, Int.reduceSub, Int.reduceMul, Int.reduceNeg, Int.reduceLE, Int.reduceLT, at0, at1, at2, at3, Nat.zero_add, Nat.sub_self, List.map_cons, List.map_nil, List.length_cons, List.length_nil, List.replicate_succ, List.replicate_zero, List.cons_append, List.nil_append, List.append_nil, List.getElem?_cons_zero, List.getElem?_cons_succ, Option.join_some, List.set_cons_zero, List.set_cons_succ,
  onB_bl, onO_bl, bind_ok, out_ok, bind_ite, out_ite, seq_next, seq_ret, seq_ite, end_next, end_ret, end_ite, optO_some, optR_some, x_var, x_cst, x_b2, x_b1, x_sset, x_rg, x_and, x_or, x_ite, x_chain, x_tup, x_lst, x_idx, x_slc, x_call, x_isi, x_gin, x_gget, x_comp, x_nil, x_cons, x_asg, x_asgT, x_par, x_sub, x_app, x_ext, x_expr, x_ret, x_retN, x_ife, x_for, x_pass, x_end, x_seq,
  turn_next, turn_ret, turn_ite, pyEq_int, wipeD, setTgt, setEach,
  o_add_i, o_add_t, o_sub, o_mul_i, o_fdiv, o_mod, o_eq, o_ne, o_lt, o_le, o_gt, o_ge, o_mx, o_mn, o_neg, o_len_t, o_len_l, o_int_i, o_int_b, o_isN, o_notN, o_asI, o_isF, o_lnot, o_truth, o_tuple_t, o_tuple_l, o_list_t, o_idx_t, o_all_last, o_tuple_last, MP.isNon, Bool.not_true, Bool.not_false, List.length_append, List.append_assoc,
  truthOf, isTys, isTy, kindD, tyB, gc_self, mkT, mkL, lim, seqOf, Option.map_some, Nat.beq, Bool.or_false, Bool.or_true, decide_eq_true_eq, decide_true, decide_false, Bool.true_and, Bool.true_or, Bool.false_or, Bool.false_and, Bool.and_false, Bool.and_true, if_true, Bool.false_eq_true, if_false, ite_true, ite_false, lEvery, e1, add])
section
variable {ns : List Int} (hn : ns.length ≤ 63) {k : Nat} (hk : 20 ≤ k) {base : Sto} (hb : RowS ns base) {m : Ml} (hm : m.ok)
include hn hk hb hm
abbrev t1 : CS := (.asg 8 (.b1 .tuple (.comp [9] [9] true 1 (.b2 .add (.b2 .add (.var 4) (.cst (.int 1))) (.call 30 [(.var 1), (.cst (.int 5))] [])) (.cst .non) (.cst (.bl true)) (.call 31 [(.var 1), (.var 5)] []))))
theorem turn1 {s : Sto} (x : Chx base s) {e : Nat} (e1 : e ≠ 1) {L : List (List Int)} (he : s[e]? = some (.lst (L.map cD))) (hc : ∀ c ∈ L, m.col c) (hne : L ≠ []) (hl : L.length ≤ 3000) {A0 A2 A3 A6 A7 A8 A9 A10 A11 A12 A13 A14 A15 A16 A17 : Option D} :
    ∃ (cs : List (List Int)) (s' : Sto), evSs (run tb k) [t1] [A0, some (.loc 1), A2, A3, some (.int m.ahead), some (.loc e), A6, A7, A8, A9, A10, A11, A12, A13, A14, A15, A16, A17] s = .next [A0, some (.loc 1), A2, A3, some (.int m.ahead), some (.loc e), A6, A7, some (colsD cs), A9, A10, A11, A12, A13, A14, A15, A16, A17] s' ∧
      (∀ c ∈ cs, m.col c) ∧ m.ahead + 1 ≤ cs.length ∧ cs.length ≤ 7 ∧ Chx base s' ∧ s'[e]? = some (.lst (L.map cD)) := by
  have bb := back_bd hm
  obtain ⟨w, s1, w1, w2, w3, c1⟩ := taken_ok hn k (by omega) 5 s (by omega) (by omega) (x.row hb)
  have x1 := x.ch hb c1
  have r1 := x1.row hb
  have he1 : s1[e]? = some (.lst (L.map cD)) := by rw [c1.at e1]; exact he
  obtain ⟨N, hN⟩ : ∃ N : Nat, (N : Int) = m.ahead + 1 + w := ⟨(m.ahead + 1 + w).toNat, by omega⟩
  have it := it_rng N .non s1 (by omega)
  rw [hN] at it
  obtain ⟨ys, s2, q1, q2, q3, q4, q5⟩ := comp_row r1 (fun y => ∃ c : List Int, y = cD c ∧ m.col c) (still := stillOf 1 (.int (m.ahead + 1 + w)) .non s1) (fun _ => rfl) (Nat.le_refl _)
    (set := fun y => some [A0, some (.loc 1), A2, A3, some (.int m.ahead), some (.loc e), A6, A7, A8, some y, A10, A11, A12, A13, A14, A15, A16, A17]) (cl := run tb k) (elt := evE (run tb k) (.call 31 [(.var 1), (.var 5)] []))
    (rangeD 0 N) (s1 ++ [.lst []]) [] (fun y _ => ⟨_, rfl, fun s' cs _ => by
      obtain ⟨z, s3, p1, p2, p3⟩ := pick_ok hn k (by omega) e (L.map cD) s' (cs.row r1) e1 (cs.at e1 he1) (by simp; exact List.length_pos_iff.mpr hne) (by simp; omega)
      obtain ⟨c, hc', rfl⟩ := List.mem_map.mp p2
      exact ⟨cD c, s3, by (simp (config := {decide := true, maxSteps := 1000000}) (disch := omega) only [Df.fn, Nat.reduceAdd, Nat.reduceSub, Nat.reduceMul, Int.reduceToNat, Int.reduceAdd, Int.reduceSub, Int.reduceMul, Int.reduceNeg, Int.reduceLE, Int.reduceLT, at0, at1, at2, at3, Nat.zero_add, Nat.sub_self, List.map_cons, List.map_nil, List.length_cons, List.length_nil, List.replicate_succ, List.replicate_zero, List.cons_append, List.nil_append, List.append_nil, List.getElem?_cons_zero, List.getElem?_cons_succ, Option.join_some, List.set_cons_zero, List.set_cons_succ,
  onB_bl, onO_bl, bind_ok, out_ok, bind_ite, out_ite, seq_next, seq_ret, seq_ite, end_next, end_ret, end_ite, optO_some, optR_some, x_var, x_cst, x_b2, x_b1, x_sset, x_rg, x_and, x_or, x_ite, x_chain, x_tup, x_lst, x_idx, x_slc, x_call, x_isi, x_gin, x_gget, x_comp, x_nil, x_cons, x_asg, x_asgT, x_par, x_sub, x_app, x_ext, x_expr, x_ret, x_retN, x_ife, x_for, x_pass, x_end, x_seq,
  turn_next, turn_ret, turn_ite, pyEq_int, wipeD, setTgt, setEach,
  o_add_i, o_add_t, o_sub, o_mul_i, o_fdiv, o_mod, o_eq, o_ne, o_lt, o_le, o_gt, o_ge, o_mx, o_mn, o_neg, o_len_t, o_len_l, o_int_i, o_int_b, o_isN, o_notN, o_asI, o_isF, o_lnot, o_truth, o_tuple_t, o_tuple_l, o_list_t, o_idx_t, o_all_last, o_tuple_last, MP.isNon, Bool.not_true, Bool.not_false, List.length_append, List.append_assoc,
  truthOf, isTys, isTy, kindD, tyB, gc_self, mkT, mkL, lim, seqOf, Option.map_some, Nat.beq, Bool.or_false, Bool.or_true, decide_eq_true_eq, decide_true, decide_false, Bool.true_and, Bool.true_or, Bool.false_or, Bool.false_and, Bool.and_false, Bool.and_true, if_true, Bool.false_eq_true, if_false, ite_true, ite_false, p1]), ⟨c, rfl, hc c hc'⟩, p3⟩⟩) ((Chx.of r1.refl).app _) at_last (by rw [range_len]; simp; omega)
  simp only [List.nil_append] at q4
  rw [range_len] at q2
  have all : ∀ ys : List D, (∀ y ∈ ys, ∃ c : List Int, y = cD c ∧ m.col c) → ∃ cs : List (List Int), ys = cs.map cD ∧ ∀ c ∈ cs, m.col c := by
    intro ys
    induction ys with
    | nil => intro _; exact ⟨[], rfl, by simp⟩
    | cons y ys ih =>
      intro h
      obtain ⟨c, rfl, hc⟩ := h y (List.mem_cons_self ..)
      obtain ⟨cs, rfl, h2⟩ := ih fun z hz => h z (List.mem_cons_of_mem _ hz)
      refine ⟨c :: cs, rfl, fun z hz => ?_⟩
      rcases List.mem_cons.mp hz with rfl | hz
      · exact hc
      · exact h2 z hz
  obtain ⟨cs, rfl, hcs⟩ := all ys q3
  have lt := lstAt_of q4
  have x2 : Chx base s2 := by
    obtain ⟨s0, t, h1, h2⟩ := q5
    subst h2
    exact (x1.ch hb h1).app t
  simp only [List.length_map] at q2
  refine ⟨cs, s2, ?_, hcs, by omega, by omega, x2, q5.at e1 he1⟩
  (simp (config := {decide := true, maxSteps := 1000000}) (disch := omega) only [Df.fn, Nat.reduceAdd, Nat.reduceSub, Nat.reduceMul, Int.reduceToNat, Int.reduceAdd, Int.reduceSub, Int.reduceMul, Int.reduceNeg, Int.reduceLE, Int.reduceLT, at0, at1, at2, at3, Nat.zero_add, Nat.sub_self, List.map_cons, List.map_nil, List.length_cons, List.length_nil, List.replicate_succ, List.replicate_zero, List.cons_append, List.nil_append, List.append_nil, List.getElem?_cons_zero, List.getElem?_cons_succ, Option.join_some, List.set_cons_zero, List.set_cons_succ,
  onB_bl, onO_bl, bind_ok, out_ok, bind_ite, out_ite, seq_next, seq_ret, seq_ite, end_next, end_ret, end_ite, optO_some, optR_some, x_var, x_cst, x_b2, x_b1, x_sset, x_rg, x_and, x_or, x_ite, x_chain, x_tup, x_lst, x_idx, x_slc, x_call, x_isi, x_gin, x_gget, x_comp, x_nil, x_cons, x_asg, x_asgT, x_par, x_sub, x_app, x_ext, x_expr, x_ret, x_retN, x_ife, x_for, x_pass, x_end, x_seq,
  turn_next, turn_ret, turn_ite, pyEq_int, wipeD, setTgt, setEach,
  o_add_i, o_add_t, o_sub, o_mul_i, o_fdiv, o_mod, o_eq, o_ne, o_lt, o_le, o_gt, o_ge, o_mx, o_mn, o_neg, o_len_t, o_len_l, o_int_i, o_int_b, o_isN, o_notN, o_asI, o_isF, o_lnot, o_truth, o_tuple_t, o_tuple_l, o_list_t, o_idx_t, o_all_last, o_tuple_last, MP.isNon, Bool.not_true, Bool.not_false, List.length_append, List.append_assoc,
  truthOf, isTys, isTy, kindD, tyB, gc_self, mkT, mkL, lim, seqOf, Option.map_some, Nat.beq, Bool.or_false, Bool.or_true, decide_eq_true_eq, decide_true, decide_false, Bool.true_and, Bool.true_or, Bool.false_or, Bool.false_and, Bool.and_false, Bool.and_true, if_true, Bool.false_eq_true, if_false, ite_true, ite_false, t1, w1, it, q1, lt, colsD])
end
end Lw
/-! ## KM17 -/
set_option Elab.async false
set_option linter.all false
set_option autoImplicit false
set_option maxRecDepth 100000
set_option maxHeartbeats 1000000
namespace Lw
open PySem PySem.Spec PyProof.Rows L2 MP
section
variable {k : Nat} (hk : 20 ≤ k) {m : Ml} (hm : m.ok)
include hk hm
abbrev b2 : List CS := [(.ife (.b1 .lnot (.b1 .truth (.call 36 [(.call 23 [(.var 2), (.var 8), (.var 9)] []), (.call 39 [(.var 2), (.var 8), (.var 9)] [])] []))) [(.ret (.cst (.bl false)))] [])]
abbrev t2 : CS := (.for [9] true 1 (.b2 .sub (.b1 .len (.var 8)) (.var 4)) (.cst .non) b2)
theorem loop2 {cs : List (List Int)} (hc : ∀ c ∈ cs, m.col c) (hl : cs.length ≤ 200) {still : Sto → Bool} (hs : ∀ s, still s = true) {s : Sto} {A0 A1 A3 A4 A5 A6 A7 A10 A11 A12 A13 A14 A15 A16 A17 : Option D} : ∀ (n lo : Nat) (A9 : Option D), (lo : Int) + n + m.ahead ≤ cs.length →
    ∃ B9, forL still (setTgt true [9]) (evSs (run tb k) b2) (rangeD (lo : Int) n) [A0, A1, some m.d, A3, A4, A5, A6, A7, some (colsD cs), A9, A10, A11, A12, A13, A14, A15, A16, A17] s = .next [A0, A1, some m.d, A3, A4, A5, A6, A7, some (colsD cs), B9, A10, A11, A12, A13, A14, A15, A16, A17] s
  | 0, lo, A9, _ => ⟨A9, for_nil _ _ _ _ _ (hs _)⟩
  | n + 1, lo, A9, h => by
    have bb := back_bd hm
    obtain ⟨B9, r⟩ := loop2 hc hl hs (s := s) (A0 := A0) (A1 := A1) (A3 := A3) (A4 := A4) (A5 := A5) (A6 := A6) (A7 := A7) (A10 := A10) (A11 := A11) (A12 := A12) (A13 := A13) (A14 := A14) (A15 := A15) (A16 := A16) (A17 := A17) n (lo + 1) (some (.int lo)) (by omega)
    have cast : ((lo : Int) + 1) = ((lo + 1 : Nat) : Int) := by omega
    have h1 := fun s => holds_ok k (by omega) m cs lo s hm hl hc (by omega) (by omega)
    have h2 := fun s => law_holds_at hm (cs := cs) (c := colL m cs) (tick := lo) (fun p p0 p1 => ⟨fun z => colL_at z (by omega), fun z => by unfold colL; rw [if_neg (by omega)], colL_col hm hc p⟩) k (by omega) s
    have h3 := fun s => alike_ok 0 (.bl (Hd m (colL m cs) lo)) trivial k (by omega) s
    refine ⟨B9, ?_⟩
    rw [← r]
    show forL _ _ _ (.int (lo : Int) :: rangeD ((lo : Int) + 1) n) _ _ = _
    rw [for_cons _ _ _ _ _ _ _ (hs _), cast]
    (simp (config := {decide := true, maxSteps := 1000000}) (disch := omega) only [Df.fn, Nat.reduceAdd, Nat.reduceSub, Nat.reduceMul, Int.reduceToNat, Int.reduceAdd, Int.reduceSub, Int.reduceMul, Int.reduceNeg, Int.reduceLE, Int.reduceLT, at0, at1, at2, at3, Nat.zero_add, Nat.sub_self, List.map_cons, List.map_nil, List.length_cons, List.length_nil, List.replicate_succ, List.replicate_zero, List.cons_append, List.nil_append, List.append_nil, List.getElem?_cons_zero, List.getElem?_cons_succ, Option.join_some, List.set_cons_zero, List.set_cons_succ,
  onB_bl, onO_bl, bind_ok, out_ok, bind_ite, out_ite, seq_next, seq_ret, seq_ite, end_next, end_ret, end_ite, optO_some, optR_some, x_var, x_cst, x_b2, x_b1, x_sset, x_rg, x_and, x_or, x_ite, x_chain, x_tup, x_lst, x_idx, x_slc, x_call, x_isi, x_gin, x_gget, x_comp, x_nil, x_cons, x_asg, x_asgT, x_par, x_sub, x_app, x_ext, x_expr, x_ret, x_retN, x_ife, x_for, x_pass, x_end, x_seq,
  turn_next, turn_ret, turn_ite, pyEq_int, wipeD, setTgt, setEach,
  o_add_i, o_add_t, o_sub, o_mul_i, o_fdiv, o_mod, o_eq, o_ne, o_lt, o_le, o_gt, o_ge, o_mx, o_mn, o_neg, o_len_t, o_len_l, o_int_i, o_int_b, o_isN, o_notN, o_asI, o_isF, o_lnot, o_truth, o_tuple_t, o_tuple_l, o_list_t, o_idx_t, o_all_last, o_tuple_last, MP.isNon, Bool.not_true, Bool.not_false, List.length_append, List.append_assoc,
  truthOf, isTys, isTy, kindD, tyB, gc_self, mkT, mkL, lim, seqOf, Option.map_some, Nat.beq, Bool.or_false, Bool.or_true, decide_eq_true_eq, decide_true, decide_false, Bool.true_and, Bool.true_or, Bool.false_or, Bool.false_and, Bool.and_false, Bool.and_true, if_true, Bool.false_eq_true, if_false, ite_true, ite_false, b2, h1, h2, h3, gcE_self])
theorem turn2 {cs : List (List Int)} (hc : ∀ c ∈ cs, m.col c) (hl : cs.length ≤ 200) (hl2 : m.ahead ≤ cs.length) {s : Sto} {A0 A1 A3 A5 A6 A7 A9 A10 A11 A12 A13 A14 A15 A16 A17 : Option D} :
    ∃ B9, evSs (run tb k) [t2] [A0, A1, some m.d, A3, some (.int m.ahead), A5, A6, A7, some (colsD cs), A9, A10, A11, A12, A13, A14, A15, A16, A17] s = .next [A0, A1, some m.d, A3, some (.int m.ahead), A5, A6, A7, some (colsD cs), B9, A10, A11, A12, A13, A14, A15, A16, A17] s := by
  obtain ⟨N, hN⟩ : ∃ N : Nat, (N : Int) = cs.length - m.ahead := ⟨(cs.length - m.ahead).toNat, by omega⟩
  have bb := back_bd hm
  have it := it_rng N .non s (by omega)
  rw [hN] at it
  obtain ⟨B9, r⟩ := loop2 hk hm hc hl (still := stillOf 1 (.int (cs.length - m.ahead)) .non s) (fun _ => rfl) (s := s) (A0 := A0) (A1 := A1) (A3 := A3) (A4 := some (.int m.ahead)) (A5 := A5) (A6 := A6) (A7 := A7) (A10 := A10) (A11 := A11) (A12 := A12) (A13 := A13) (A14 := A14) (A15 := A15) (A16 := A16) (A17 := A17) N 0 A9 (by omega)
  have c0 : ((0 : Nat) : Int) = 0 := rfl
  rw [c0] at r
  refine ⟨B9, ?_⟩
  simp only [colsD] at r ⊢
  (simp (config := {decide := true, maxSteps := 1000000}) (disch := omega) only [Df.fn, Nat.reduceAdd, Nat.reduceSub, Nat.reduceMul, Int.reduceToNat, Int.reduceAdd, Int.reduceSub, Int.reduceMul, Int.reduceNeg, Int.reduceLE, Int.reduceLT, at0, at1, at2, at3, Nat.zero_add, Nat.sub_self, List.map_cons, List.map_nil, List.length_cons, List.length_nil, List.replicate_succ, List.replicate_zero, List.cons_append, List.nil_append, List.append_nil, List.getElem?_cons_zero, List.getElem?_cons_succ, Option.join_some, List.set_cons_zero, List.set_cons_succ,
  onB_bl, onO_bl, bind_ok, out_ok, bind_ite, out_ite, seq_next, seq_ret, seq_ite, end_next, end_ret, end_ite, optO_some, optR_some, x_var, x_cst, x_b2, x_b1, x_sset, x_rg, x_and, x_or, x_ite, x_chain, x_tup, x_lst, x_idx, x_slc, x_call, x_isi, x_gin, x_gget, x_comp, x_nil, x_cons, x_asg, x_asgT, x_par, x_sub, x_app, x_ext, x_expr, x_ret, x_retN, x_ife, x_for, x_pass, x_end, x_seq,
  turn_next, turn_ret, turn_ite, pyEq_int, wipeD, setTgt, setEach,
  o_add_i, o_add_t, o_sub, o_mul_i, o_fdiv, o_mod, o_eq, o_ne, o_lt, o_le, o_gt, o_ge, o_mx, o_mn, o_neg, o_len_t, o_len_l, o_int_i, o_int_b, o_isN, o_notN, o_asI, o_isF, o_lnot, o_truth, o_tuple_t, o_tuple_l, o_list_t, o_idx_t, o_all_last, o_tuple_last, MP.isNon, Bool.not_true, Bool.not_false, List.length_append, List.append_assoc,
  truthOf, isTys, isTy, kindD, tyB, gc_self, mkT, mkL, lim, seqOf, Option.map_some, Nat.beq, Bool.or_false, Bool.or_true, decide_eq_true_eq, decide_true, decide_false, Bool.true_and, Bool.true_or, Bool.false_or, Bool.false_and, Bool.and_false, Bool.and_true, if_true, Bool.false_eq_true, if_false, ite_true, ite_false, t2, List.length_map, it, r])
abbrev t3 : CS := (.asg 10 (.b1 .tuple (.comp [12] [12] true 0 (.var 8) (.cst .non) (.cst (.bl true)) (.b1 .tuple (.comp [11] [11] true 0 (.idx (.var 2) (.cst (.int 2))) (.cst .non) (.cst (.bl true)) (.idx (.var 12) (.b2 .add (.cst (.int 1)) (.var 11))))))))
theorem inner3 {c : List Int} (hc : m.col c) {s : Sto} {A0 A1 A3 A4 A5 A6 A7 A8 A9 A10 A11 A13 A14 A15 A16 A17 : Option D} :
    ∃ t, evE (run tb k) (.b1 .tuple (.comp [11] [11] true 0 (.idx (.var 2) (.cst (.int 2))) (.cst .non) (.cst (.bl true)) (.idx (.var 12) (.b2 .add (.cst (.int 1)) (.var 11))))) [A0, A1, some m.d, A3, A4, A5, A6, A7, A8, A9, A10, A11, some (cD c), A13, A14, A15, A16, A17] s = .ok (tellD m c) (s ++ t) := by
  refine ⟨[.lst ((m.told.map D.int).map (tell1 c))], ?_⟩
  simp only [Ml.d]
  (simp (config := {decide := true, maxSteps := 1000000}) (disch := omega) only [Df.fn, Nat.reduceAdd, Nat.reduceSub, Nat.reduceMul, Int.reduceToNat, Int.reduceAdd, Int.reduceSub, Int.reduceMul, Int.reduceNeg, Int.reduceLE, Int.reduceLT, at0, at1, at2, at3, Nat.zero_add, Nat.sub_self, List.map_cons, List.map_nil, List.length_cons, List.length_nil, List.replicate_succ, List.replicate_zero, List.cons_append, List.nil_append, List.append_nil, List.getElem?_cons_zero, List.getElem?_cons_succ, Option.join_some, List.set_cons_zero, List.set_cons_succ,
  onB_bl, onO_bl, bind_ok, out_ok, bind_ite, out_ite, seq_next, seq_ret, seq_ite, end_next, end_ret, end_ite, optO_some, optR_some, x_var, x_cst, x_b2, x_b1, x_sset, x_rg, x_and, x_or, x_ite, x_chain, x_tup, x_lst, x_idx, x_slc, x_call, x_isi, x_gin, x_gget, x_comp, x_nil, x_cons, x_asg, x_asgT, x_par, x_sub, x_app, x_ext, x_expr, x_ret, x_retN, x_ife, x_for, x_pass, x_end, x_seq,
  turn_next, turn_ret, turn_ite, pyEq_int, wipeD, setTgt, setEach,
  o_add_i, o_add_t, o_sub, o_mul_i, o_fdiv, o_mod, o_eq, o_ne, o_lt, o_le, o_gt, o_ge, o_mx, o_mn, o_neg, o_len_t, o_len_l, o_int_i, o_int_b, o_isN, o_notN, o_asI, o_isF, o_lnot, o_truth, o_tuple_t, o_tuple_l, o_list_t, o_idx_t, o_all_last, o_tuple_last, MP.isNon, Bool.not_true, Bool.not_false, List.length_append, List.append_assoc,
  truthOf, isTys, isTy, kindD, tyB, gc_self, mkT, mkL, lim, seqOf, Option.map_some, Nat.beq, Bool.or_false, Bool.or_true, decide_eq_true_eq, decide_true, decide_false, Bool.true_and, Bool.true_or, Bool.false_or, Bool.false_and, Bool.and_false, Bool.and_true, if_true, Bool.false_eq_true, if_false, ite_true, ite_false, it_tup])
  rw [comp_at s (tell1 c) (m.told.map .int) ?_ ?_ ?_ ?_ ?_]
  · (simp (config := {decide := true, maxSteps := 1000000}) (disch := omega) only [Df.fn, Nat.reduceAdd, Nat.reduceSub, Nat.reduceMul, Int.reduceToNat, Int.reduceAdd, Int.reduceSub, Int.reduceMul, Int.reduceNeg, Int.reduceLE, Int.reduceLT, at0, at1, at2, at3, Nat.zero_add, Nat.sub_self, List.map_cons, List.map_nil, List.length_cons, List.length_nil, List.replicate_succ, List.replicate_zero, List.cons_append, List.nil_append, List.append_nil, List.getElem?_cons_zero, List.getElem?_cons_succ, Option.join_some, List.set_cons_zero, List.set_cons_succ,
  onB_bl, onO_bl, bind_ok, out_ok, bind_ite, out_ite, seq_next, seq_ret, seq_ite, end_next, end_ret, end_ite, optO_some, optR_some, x_var, x_cst, x_b2, x_b1, x_sset, x_rg, x_and, x_or, x_ite, x_chain, x_tup, x_lst, x_idx, x_slc, x_call, x_isi, x_gin, x_gget, x_comp, x_nil, x_cons, x_asg, x_asgT, x_par, x_sub, x_app, x_ext, x_expr, x_ret, x_retN, x_ife, x_for, x_pass, x_end, x_seq,
  turn_next, turn_ret, turn_ite, pyEq_int, wipeD, setTgt, setEach,
  o_add_i, o_add_t, o_sub, o_mul_i, o_fdiv, o_mod, o_eq, o_ne, o_lt, o_le, o_gt, o_ge, o_mx, o_mn, o_neg, o_len_t, o_len_l, o_int_i, o_int_b, o_isN, o_notN, o_asI, o_isF, o_lnot, o_truth, o_tuple_t, o_tuple_l, o_list_t, o_idx_t, o_all_last, o_tuple_last, MP.isNon, Bool.not_true, Bool.not_false, List.length_append, List.append_assoc,
  truthOf, isTys, isTy, kindD, tyB, gc_self, mkT, mkL, lim, seqOf, Option.map_some, Nat.beq, Bool.or_false, Bool.or_true, decide_eq_true_eq, decide_true, decide_false, Bool.true_and, Bool.true_or, Bool.false_or, Bool.false_and, Bool.and_false, Bool.and_true, if_true, Bool.false_eq_true, if_false, ite_true, ite_false, lst_l])
    rw [tell_map]
    rfl
  · rfl
  · rfl
  · exact fun _ => rfl
  · intro x hx
    obtain ⟨i, hi, rfl⟩ := List.mem_map.mp hx
    have b := told_rng hm i hi
    refine ⟨_, rfl, fun s => ⟨rfl, [], ?_⟩⟩
    have a := (at_val hm hc (i.toNat + 1) (by omega)).1
    have e : ((i.toNat + 1 : Nat) : Int) = 1 + i := by omega
    rw [e] at a
    (simp (config := {decide := true, maxSteps := 1000000}) (disch := omega) only [Df.fn, Nat.reduceAdd, Nat.reduceSub, Nat.reduceMul, Int.reduceToNat, Int.reduceAdd, Int.reduceSub, Int.reduceMul, Int.reduceNeg, Int.reduceLE, Int.reduceLT, at0, at1, at2, at3, Nat.zero_add, Nat.sub_self, List.map_cons, List.map_nil, List.length_cons, List.length_nil, List.replicate_succ, List.replicate_zero, List.cons_append, List.nil_append, List.append_nil, List.getElem?_cons_zero, List.getElem?_cons_succ, Option.join_some, List.set_cons_zero, List.set_cons_succ,
  onB_bl, onO_bl, bind_ok, out_ok, bind_ite, out_ite, seq_next, seq_ret, seq_ite, end_next, end_ret, end_ite, optO_some, optR_some, x_var, x_cst, x_b2, x_b1, x_sset, x_rg, x_and, x_or, x_ite, x_chain, x_tup, x_lst, x_idx, x_slc, x_call, x_isi, x_gin, x_gget, x_comp, x_nil, x_cons, x_asg, x_asgT, x_par, x_sub, x_app, x_ext, x_expr, x_ret, x_retN, x_ife, x_for, x_pass, x_end, x_seq,
  turn_next, turn_ret, turn_ite, pyEq_int, wipeD, setTgt, setEach,
  o_add_i, o_add_t, o_sub, o_mul_i, o_fdiv, o_mod, o_eq, o_ne, o_lt, o_le, o_gt, o_ge, o_mx, o_mn, o_neg, o_len_t, o_len_l, o_int_i, o_int_b, o_isN, o_notN, o_asI, o_isF, o_lnot, o_truth, o_tuple_t, o_tuple_l, o_list_t, o_idx_t, o_all_last, o_tuple_last, MP.isNon, Bool.not_true, Bool.not_false, List.length_append, List.append_assoc,
  truthOf, isTys, isTy, kindD, tyB, gc_self, mkT, mkL, lim, seqOf, Option.map_some, Nat.beq, Bool.or_false, Bool.or_true, decide_eq_true_eq, decide_true, decide_false, Bool.true_and, Bool.true_or, Bool.false_or, Bool.false_and, Bool.and_false, Bool.and_true, if_true, Bool.false_eq_true, if_false, ite_true, ite_false, cD, tell1, a])
  · have := told_len hm
    simp
    omega
theorem turn3 {cs : List (List Int)} (hc : ∀ c ∈ cs, m.col c) (hl : cs.length ≤ 200) {s : Sto} {A0 A1 A3 A4 A5 A6 A7 A9 A10 A11 A12 A13 A14 A15 A16 A17 : Option D} :
    ∃ t, evSs (run tb k) [t3] [A0, A1, some m.d, A3, A4, A5, A6, A7, some (colsD cs), A9, A10, A11, A12, A13, A14, A15, A16, A17] s = .next [A0, A1, some m.d, A3, A4, A5, A6, A7, some (colsD cs), A9, some (.tup (cs.map (tellD m))), A11, A12, A13, A14, A15, A16, A17] (s ++ t) := by
  refine ⟨[.lst ((cs.map cD).map (tells1 m))], ?_⟩
  simp only [colsD]
  (simp (config := {decide := true, maxSteps := 1000000}) (disch := omega) only [Df.fn, Nat.reduceAdd, Nat.reduceSub, Nat.reduceMul, Int.reduceToNat, Int.reduceAdd, Int.reduceSub, Int.reduceMul, Int.reduceNeg, Int.reduceLE, Int.reduceLT, at0, at1, at2, at3, Nat.zero_add, Nat.sub_self, List.map_cons, List.map_nil, List.length_cons, List.length_nil, List.replicate_succ, List.replicate_zero, List.cons_append, List.nil_append, List.append_nil, List.getElem?_cons_zero, List.getElem?_cons_succ, Option.join_some, List.set_cons_zero, List.set_cons_succ,
  onB_bl, onO_bl, bind_ok, out_ok, bind_ite, out_ite, seq_next, seq_ret, seq_ite, end_next, end_ret, end_ite, optO_some, optR_some, x_var, x_cst, x_b2, x_b1, x_sset, x_rg, x_and, x_or, x_ite, x_chain, x_tup, x_lst, x_idx, x_slc, x_call, x_isi, x_gin, x_gget, x_comp, x_nil, x_cons, x_asg, x_asgT, x_par, x_sub, x_app, x_ext, x_expr, x_ret, x_retN, x_ife, x_for, x_pass, x_end, x_seq,
  turn_next, turn_ret, turn_ite, pyEq_int, wipeD, setTgt, setEach,
  o_add_i, o_add_t, o_sub, o_mul_i, o_fdiv, o_mod, o_eq, o_ne, o_lt, o_le, o_gt, o_ge, o_mx, o_mn, o_neg, o_len_t, o_len_l, o_int_i, o_int_b, o_isN, o_notN, o_asI, o_isF, o_lnot, o_truth, o_tuple_t, o_tuple_l, o_list_t, o_idx_t, o_all_last, o_tuple_last, MP.isNon, Bool.not_true, Bool.not_false, List.length_append, List.append_assoc,
  truthOf, isTys, isTy, kindD, tyB, gc_self, mkT, mkL, lim, seqOf, Option.map_some, Nat.beq, Bool.or_false, Bool.or_true, decide_eq_true_eq, decide_true, decide_false, Bool.true_and, Bool.true_or, Bool.false_or, Bool.false_and, Bool.and_false, Bool.and_true, if_true, Bool.false_eq_true, if_false, ite_true, ite_false, t3, it_tup])
  rw [comp_at s (tells1 m) (cs.map cD) ?_ ?_ ?_ ?_ ?_]
  · rw [tells_map hm hc]
    (simp (config := {decide := true, maxSteps := 1000000}) (disch := omega) only [Df.fn, Nat.reduceAdd, Nat.reduceSub, Nat.reduceMul, Int.reduceToNat, Int.reduceAdd, Int.reduceSub, Int.reduceMul, Int.reduceNeg, Int.reduceLE, Int.reduceLT, at0, at1, at2, at3, Nat.zero_add, Nat.sub_self, List.map_cons, List.map_nil, List.length_cons, List.length_nil, List.replicate_succ, List.replicate_zero, List.cons_append, List.nil_append, List.append_nil, List.getElem?_cons_zero, List.getElem?_cons_succ, Option.join_some, List.set_cons_zero, List.set_cons_succ,
  onB_bl, onO_bl, bind_ok, out_ok, bind_ite, out_ite, seq_next, seq_ret, seq_ite, end_next, end_ret, end_ite, optO_some, optR_some, x_var, x_cst, x_b2, x_b1, x_sset, x_rg, x_and, x_or, x_ite, x_chain, x_tup, x_lst, x_idx, x_slc, x_call, x_isi, x_gin, x_gget, x_comp, x_nil, x_cons, x_asg, x_asgT, x_par, x_sub, x_app, x_ext, x_expr, x_ret, x_retN, x_ife, x_for, x_pass, x_end, x_seq,
  turn_next, turn_ret, turn_ite, pyEq_int, wipeD, setTgt, setEach,
  o_add_i, o_add_t, o_sub, o_mul_i, o_fdiv, o_mod, o_eq, o_ne, o_lt, o_le, o_gt, o_ge, o_mx, o_mn, o_neg, o_len_t, o_len_l, o_int_i, o_int_b, o_isN, o_notN, o_asI, o_isF, o_lnot, o_truth, o_tuple_t, o_tuple_l, o_list_t, o_idx_t, o_all_last, o_tuple_last, MP.isNon, Bool.not_true, Bool.not_false, List.length_append, List.append_assoc,
  truthOf, isTys, isTy, kindD, tyB, gc_self, mkT, mkL, lim, seqOf, Option.map_some, Nat.beq, Bool.or_false, Bool.or_true, decide_eq_true_eq, decide_true, decide_false, Bool.true_and, Bool.true_or, Bool.false_or, Bool.false_and, Bool.and_false, Bool.and_true, if_true, Bool.false_eq_true, if_false, ite_true, ite_false, lst_l])
  · rfl
  · rfl
  · exact fun _ => rfl
  · intro x hx
    obtain ⟨c, h', rfl⟩ := List.mem_map.mp hx
    refine ⟨_, rfl, fun s => ⟨by rw [tells1_eq hm (hc c h')]; exact und_told _ _ _, ?_⟩⟩
    rw [tells1_eq hm (hc c h')]
    exact inner3 hk hm (hc c h')
  · simp; omega
abbrev t4 : CS := (.ife (.b1 .lnot (.b1 .truth (.call 36 [(.call 24 [(.var 2), (.var 8)] []), (.var 10)] []))) [(.ret (.cst (.bl false)))] [])
theorem turn4 {cs : List (List Int)} (hc : ∀ c ∈ cs, m.col c) (hl : cs.length ≤ 200) {s : Sto} {A0 A1 A3 A4 A5 A6 A7 A9 A11 A12 A13 A14 A15 A16 A17 : Option D} :
    evSs (run tb k) [t4] [A0, A1, some m.d, A3, A4, A5, A6, A7, some (colsD cs), A9, some (.tup (cs.map (tellD m))), A11, A12, A13, A14, A15, A16, A17] s = .next [A0, A1, some m.d, A3, A4, A5, A6, A7, some (colsD cs), A9, some (.tup (cs.map (tellD m))), A11, A12, A13, A14, A15, A16, A17] s := by
  have h1 := fun s => tells_ok k (by omega) m cs s hm hl hc
  have h2 := fun s => alike_ok 2 (.tup (cs.map (tellD m))) ⟨by simp; omega, fun x hx => by
    obtain ⟨c, _, rfl⟩ := List.mem_map.mp hx
    refine ⟨by have := told_len hm; simp; omega, fun y hy => ?_⟩
    obtain ⟨i, _, rfl⟩ := List.mem_map.mp hy
    trivial⟩ k (by omega) s
  (simp (config := {decide := true, maxSteps := 1000000}) (disch := omega) only [Df.fn, Nat.reduceAdd, Nat.reduceSub, Nat.reduceMul, Int.reduceToNat, Int.reduceAdd, Int.reduceSub, Int.reduceMul, Int.reduceNeg, Int.reduceLE, Int.reduceLT, at0, at1, at2, at3, Nat.zero_add, Nat.sub_self, List.map_cons, List.map_nil, List.length_cons, List.length_nil, List.replicate_succ, List.replicate_zero, List.cons_append, List.nil_append, List.append_nil, List.getElem?_cons_zero, List.getElem?_cons_succ, Option.join_some, List.set_cons_zero, List.set_cons_succ,
  onB_bl, onO_bl, bind_ok, out_ok, bind_ite, out_ite, seq_next, seq_ret, seq_ite, end_next, end_ret, end_ite, optO_some, optR_some, x_var, x_cst, x_b2, x_b1, x_sset, x_rg, x_and, x_or, x_ite, x_chain, x_tup, x_lst, x_idx, x_slc, x_call, x_isi, x_gin, x_gget, x_comp, x_nil, x_cons, x_asg, x_asgT, x_par, x_sub, x_app, x_ext, x_expr, x_ret, x_retN, x_ife, x_for, x_pass, x_end, x_seq,
  turn_next, turn_ret, turn_ite, pyEq_int, wipeD, setTgt, setEach,
  o_add_i, o_add_t, o_sub, o_mul_i, o_fdiv, o_mod, o_eq, o_ne, o_lt, o_le, o_gt, o_ge, o_mx, o_mn, o_neg, o_len_t, o_len_l, o_int_i, o_int_b, o_isN, o_notN, o_asI, o_isF, o_lnot, o_truth, o_tuple_t, o_tuple_l, o_list_t, o_idx_t, o_all_last, o_tuple_last, MP.isNon, Bool.not_true, Bool.not_false, List.length_append, List.append_assoc,
  truthOf, isTys, isTy, kindD, tyB, gc_self, mkT, mkL, lim, seqOf, Option.map_some, Nat.beq, Bool.or_false, Bool.or_true, decide_eq_true_eq, decide_true, decide_false, Bool.true_and, Bool.true_or, Bool.false_or, Bool.false_and, Bool.and_false, Bool.and_true, if_true, Bool.false_eq_true, if_false, ite_true, ite_false, t4, h1, h2])
abbrev t6 : CS := (.asg 15 (.b2 .add (.var 13) (.b2 .mul (.var 14) (.b2 .add (.cst (.int 8)) (.b2 .mul (.cst (.int 2)) (.var 4))))))
theorem turn6 {stem loop : List (List Int)} (hs : stem.length ≤ 100) (hl : loop.length ≤ 100) {s : Sto} {A0 A1 A2 A3 A5 A6 A7 A8 A9 A10 A11 A12 A15 A16 A17 : Option D} :
    evSs (run tb k) [t6] [A0, A1, A2, A3, some (.int m.ahead), A5, A6, A7, A8, A9, A10, A11, A12, some (colsD stem), some (colsD loop), A15, A16, A17] s = .next [A0, A1, A2, A3, some (.int m.ahead), A5, A6, A7, A8, A9, A10, A11, A12, some (colsD stem), some (colsD loop), some (colsD (stem ++ reps loop (8 + 2 * m.ahead).toNat)), A16, A17] s := by
  have bb := back_bd hm
  have e1 : (bigI 2 || bigI m.ahead) = true := by rw [show bigI 2 = true by decide]; rfl
  have mul : op2 .mul (.tup (loop.map cD)) (.int (8 + 2 * m.ahead)) s = .ok (.tup ((reps loop (8 + 2 * m.ahead).toNat).map cD)) s := by
    rw [o_mul_t]
    simp only [opMul]
    have e : ((loop.map cD).length ≤ 1000 && (decide (8 + 2 * m.ahead ≤ 1000) && decide (-1000 ≤ 8 + 2 * m.ahead))) = true := by simp; omega
    rw [if_pos (by simpa using e), reps_map]
  have lm : loop.length * (8 + 2 * m.ahead).toNat ≤ 100 * 12 := Nat.mul_le_mul hl (by omega)
  have c4 : ((stem.length + (reps loop (8 + 2 * m.ahead).toNat).length) ≤ 1000000) = True := eq_true (by rw [reps_len]; omega)
  simp only [colsD]
  (simp (config := {decide := true, maxSteps := 1000000}) (disch := omega) only [Df.fn, Nat.reduceAdd, Nat.reduceSub, Nat.reduceMul, Int.reduceToNat, Int.reduceAdd, Int.reduceSub, Int.reduceMul, Int.reduceNeg, Int.reduceLE, Int.reduceLT, at0, at1, at2, at3, Nat.zero_add, Nat.sub_self, List.map_cons, List.map_nil, List.length_cons, List.length_nil, List.replicate_succ, List.replicate_zero, List.cons_append, List.nil_append, List.append_nil, List.getElem?_cons_zero, List.getElem?_cons_succ, Option.join_some, List.set_cons_zero, List.set_cons_succ,
  onB_bl, onO_bl, bind_ok, out_ok, bind_ite, out_ite, seq_next, seq_ret, seq_ite, end_next, end_ret, end_ite, optO_some, optR_some, x_var, x_cst, x_b2, x_b1, x_sset, x_rg, x_and, x_or, x_ite, x_chain, x_tup, x_lst, x_idx, x_slc, x_call, x_isi, x_gin, x_gget, x_comp, x_nil, x_cons, x_asg, x_asgT, x_par, x_sub, x_app, x_ext, x_expr, x_ret, x_retN, x_ife, x_for, x_pass, x_end, x_seq,
  turn_next, turn_ret, turn_ite, pyEq_int, wipeD, setTgt, setEach,
  o_add_i, o_add_t, o_sub, o_mul_i, o_fdiv, o_mod, o_eq, o_ne, o_lt, o_le, o_gt, o_ge, o_mx, o_mn, o_neg, o_len_t, o_len_l, o_int_i, o_int_b, o_isN, o_notN, o_asI, o_isF, o_lnot, o_truth, o_tuple_t, o_tuple_l, o_list_t, o_idx_t, o_all_last, o_tuple_last, MP.isNon, Bool.not_true, Bool.not_false, List.length_append, List.append_assoc,
  truthOf, isTys, isTy, kindD, tyB, gc_self, mkT, mkL, lim, seqOf, Option.map_some, Nat.beq, Bool.or_false, Bool.or_true, decide_eq_true_eq, decide_true, decide_false, Bool.true_and, Bool.true_or, Bool.false_or, Bool.false_and, Bool.and_false, Bool.and_true, if_true, Bool.false_eq_true, if_false, ite_true, ite_false, t6, e1, mul, List.length_map, c4])
  simp
end
end Lw
/-! ## KM18 -/
set_option Elab.async false
set_option linter.all false
set_option autoImplicit false
set_option maxRecDepth 100000
set_option maxHeartbeats 1000000
namespace Lw
open PySem PySem.Spec PyProof.Rows L2 MP
theorem pyEq_empty {st : Sto} {a b : Nat} {xs : List Int} (ha : lstAt st a = some (xs.map .int)) (hb : lstAt st b = some []) : pyEq st (.loc a) (.loc b) = some xs.isEmpty := by
  unfold pyEq
  have t : ∀ (n : Nat) (ys : List Int), lstAt st n = some (ys.map .int) → toP st 20 (.loc n) = some (.list (ys.map .int)) := by
    intro n ys hn
    unfold toP
    rw [hn]
    have : optAll (toP st 19) (ys.map .int) = some (ys.map .int) := by
      clear ha hb hn
      induction ys with
      | nil => rfl
      | cons x ys ih => simp [optAll, toP, ih]
    simp only [this, Option.map_some]
  have sh : ∀ ys : List Int, SeqAt.shaped (.list (ys.map .int)) = true := by
    intro ys
    have a : ∀ ys : List Int, PyData.canLayAll0 (ys.map .int) = true ∧ PyData.depthAll (ys.map .int) ≤ 1 := by
      intro ys
      induction ys with
      | nil => exact ⟨rfl, by simp [PyData.depthAll]⟩
      | cons x xs ih =>
        obtain ⟨i1, i2⟩ := ih
        exact ⟨by simp [PyData.canLayAll0, PyData.canLay0, i1], by simp [PyData.depthAll, PyData.depth, i2]⟩
    obtain ⟨a1, a2⟩ := a ys
    unfold SeqAt.shaped PyData.canLay0
    rw [a1]
    simp [PyData.depth]
    try omega
  rw [t a xs ha, t b [] (by simpa using hb)]
  simp only
  rw [if_pos (by rw [sh xs, sh []]; rfl)]
  cases xs <;> simp [PyData.eqv, PyData.eqvAll]
theorem filter_rng {p : D → Bool} {q : Nat → Bool} : ∀ (n lo : Nat), (∀ i, i < n → p (.int ((lo + i : Nat) : Int)) = !q (lo + i)) → ((rangeD (lo : Int) n).filter p).map id = (((List.range n).filter fun i => !q (lo + i)).map fun i => ((lo + i : Nat) : Int)).map D.int
  | 0, lo, _ => rfl
  | n + 1, lo, h => by
    have h0 := h 0 (by omega)
    simp only [Nat.add_zero] at h0
    have ih := filter_rng (p := p) (q := q) n (lo + 1) (fun i hi => by
      have := h (i + 1) (by omega)
      rw [show lo + (i + 1) = lo + 1 + i by omega] at this
      exact this)
    have cast : ((lo + 1 : Nat) : Int) = (lo : Int) + 1 := rfl
    rw [cast] at ih
    rw [List.range_succ_eq_map]
    simp only [rangeD, List.filter_cons, h0, List.filter_map, List.map_map]
    have e : ((fun i => !q (lo + i)) ∘ Nat.succ) = fun i => !q (lo + 1 + i) := by
      funext i
      simp only [Function.comp]
      congr 2
      omega
    rw [e]
    have e2 : (D.int ∘ (fun i : Nat => ((lo + i : Nat) : Int))) ∘ Nat.succ = D.int ∘ fun i : Nat => ((lo + 1 + i : Nat) : Int) := by
      funext i
      simp only [Function.comp]
      congr 2
      omega
    cases hq : q lo <;> simp only [Nat.add_zero, hq, Bool.not_true, Bool.not_false, if_true, Bool.false_eq_true, if_false, List.map_cons, List.map_map, e2] <;> simp [ih, List.map_map, Function.comp_def]
theorem empty_filter {α : Type} (q : α → Bool) : ∀ l : List α, (l.filter fun x => !q x).isEmpty = l.all q
  | [] => rfl
  | x :: l => by
    rw [List.filter_cons, List.all_cons, ← empty_filter q l]
    cases q x <;> simp
section
variable {ns : List Int} (hn : ns.length ≤ 63) {k : Nat} (hk : 20 ≤ k) {base : Sto} (hb : RowS ns base) {m : Ml} (hm : m.ok)
include hn hk hb hm
abbrev t5 : CS := (.par 13 14 (.slc (.var 8) (.cst .non) (.b1 .asI (.call 30 [(.var 1), (.cst (.int 3))] []))) (.slc (.var 8) (.cst .non) (.b1 .asI (.b2 .add (.cst (.int 1)) (.call 30 [(.var 1), (.cst (.int 2))] [])))))
theorem turn5 {s : Sto} (x : Chx base s) {cs : List (List Int)} (hc : ∀ c ∈ cs, m.col c) (h1 : 1 ≤ cs.length) {A0 A2 A3 A4 A5 A6 A7 A9 A10 A11 A12 A13 A14 A15 A16 A17 : Option D} :
    ∃ (stem loop : List (List Int)) (s' : Sto), evSs (run tb k) [t5] [A0, some (.loc 1), A2, A3, A4, A5, A6, A7, some (colsD cs), A9, A10, A11, A12, A13, A14, A15, A16, A17] s = .next [A0, some (.loc 1), A2, A3, A4, A5, A6, A7, some (colsD cs), A9, A10, A11, A12, some (colsD stem), some (colsD loop), A15, A16, A17] s' ∧
      (∀ c ∈ stem, m.col c) ∧ (∀ c ∈ loop, m.col c) ∧ stem.length ≤ 2 ∧ 1 ≤ loop.length ∧ loop.length ≤ 2 ∧ Chx base s' ∧ ∀ n, n ≠ 1 → s'[n]? = s[n]? := by
  obtain ⟨a, s1, a1, a2, a3, c1⟩ := taken_ok hn k (by omega) 3 s (by omega) (by omega) (x.row hb)
  have x1 := x.ch hb c1
  obtain ⟨b, s2, b1, b2, b3, c2⟩ := taken_ok hn k (by omega) 2 s1 (by omega) (by omega) (x1.row hb)
  have x2 := x1.ch hb c2
  refine ⟨cs.take a.toNat, cs.take (1 + b).toNat, s2, ?_, fun c h => hc c (List.mem_of_mem_take h), fun c h => hc c (List.mem_of_mem_take h), by simp; omega, by simp; omega, by simp; omega, x2, fun n hn1 => by rw [c2.at hn1, c1.at hn1]⟩
  have ea : ((a.toNat : Nat) : Int) = a := by omega
  have eb : (((1 + b).toNat : Nat) : Int) = 1 + b := by omega
  have sa := fun s => slc0 (cs.map cD) a.toNat s
  have sb := fun s => slc0 (cs.map cD) (1 + b).toNat s
  rw [ea] at sa
  rw [eb] at sb
  simp only [colsD]
  (simp (config := {decide := true, maxSteps := 1000000}) (disch := omega) only [Df.fn, Nat.reduceAdd, Nat.reduceSub, Nat.reduceMul, Int.reduceToNat, Int.reduceAdd, Int.reduceSub, Int.reduceMul, Int.reduceNeg, Int.reduceLE, Int.reduceLT, at0, at1, at2, at3, Nat.zero_add, Nat.sub_self, List.map_cons, List.map_nil, List.length_cons, List.length_nil, List.replicate_succ, List.replicate_zero, List.cons_append, List.nil_append, List.append_nil, List.getElem?_cons_zero, List.getElem?_cons_succ, Option.join_some, List.set_cons_zero, List.set_cons_succ,
  onB_bl, onO_bl, bind_ok, out_ok, bind_ite, out_ite, seq_next, seq_ret, seq_ite, end_next, end_ret, end_ite, optO_some, optR_some, x_var, x_cst, x_b2, x_b1, x_sset, x_rg, x_and, x_or, x_ite, x_chain, x_tup, x_lst, x_idx, x_slc, x_call, x_isi, x_gin, x_gget, x_comp, x_nil, x_cons, x_asg, x_asgT, x_par, x_sub, x_app, x_ext, x_expr, x_ret, x_retN, x_ife, x_for, x_pass, x_end, x_seq,
  turn_next, turn_ret, turn_ite, pyEq_int, wipeD, setTgt, setEach,
  o_add_i, o_add_t, o_sub, o_mul_i, o_fdiv, o_mod, o_eq, o_ne, o_lt, o_le, o_gt, o_ge, o_mx, o_mn, o_neg, o_len_t, o_len_l, o_int_i, o_int_b, o_isN, o_notN, o_asI, o_isF, o_lnot, o_truth, o_tuple_t, o_tuple_l, o_list_t, o_idx_t, o_all_last, o_tuple_last, MP.isNon, Bool.not_true, Bool.not_false, List.length_append, List.append_assoc,
  truthOf, isTys, isTy, kindD, tyB, gc_self, mkT, mkL, lim, seqOf, Option.map_some, Nat.beq, Bool.or_false, Bool.or_true, decide_eq_true_eq, decide_true, decide_false, Bool.true_and, Bool.true_or, Bool.false_or, Bool.false_and, Bool.and_false, Bool.and_true, if_true, Bool.false_eq_true, if_false, ite_true, ite_false, t5, a1, b1, sa, sb])
  simp [List.map_take]
omit hn hb in
abbrev t7 : CS := (.asg 16 (.b2 .eq (.comp [9] [9] true 1 (.b2 .add (.b2 .add (.b1 .len (.var 13)) (.b1 .len (.var 14))) (.cst (.int 4))) (.cst .non) (.b1 .lnot (.b1 .truth (.call 39 [(.var 2), (.var 15), (.var 9)] []))) (.var 9)) (.lst [])))
omit hn hb in
theorem turn7 {stem loop : List (List Int)} (hs : ∀ c ∈ stem, m.col c) (hl : ∀ c ∈ loop, m.col c) (s2 : stem.length ≤ 2) (l1 : 1 ≤ loop.length) (l2 : loop.length ≤ 2) {s : Sto} {A0 A1 A3 A4 A5 A6 A7 A8 A9 A10 A11 A12 A16 A17 : Option D} :
    ∃ t, evSs (run tb k) [t7] [A0, A1, some m.d, A3, A4, A5, A6, A7, A8, A9, A10, A11, A12, some (colsD stem), some (colsD loop), some (colsD (stem ++ reps loop (8 + 2 * m.ahead).toNat)), A16, A17] s =
      .next [A0, A1, some m.d, A3, A4, A5, A6, A7, A8, A9, A10, A11, A12, some (colsD stem), some (colsD loop), some (colsD (stem ++ reps loop (8 + 2 * m.ahead).toNat)), some (.bl ((List.range (stem.length + loop.length + 4)).all fun t => Hd m (las m stem loop) t)), A17] (s ++ t) := by
  have bb := back_bd hm
  have it := it_rng (stem.length + loop.length + 4) .non s (by omega)
  have eN : ((stem.length + loop.length + 4 : Nat) : Int) = (stem.length : Int) + loop.length + 4 := by omega
  rw [eN] at it
  have cond : ∀ i, i < stem.length + loop.length + 4 → ∀ s, run tb k 39 [m.d, colsD (stem ++ reps loop (8 + 2 * m.ahead).toNat), .int ((0 + i : Nat) : Int)] s = .ok (.bl (Hd m (las m stem loop) ((0 + i : Nat) : Int))) s := fun i hi s =>
    law_holds_at hm (fun p p0 p1 => ⟨fun z => las_at z (by
      obtain ⟨A, hA⟩ : ∃ A : Nat, (A : Int) = m.ahead := ⟨m.ahead.toNat, by omega⟩
      have nn : (8 + 2 * m.ahead).toNat = 8 + 2 * A := by omega
      rw [nn, Nat.mul_add]
      have h1 : 1 * (2 * A) ≤ loop.length * (2 * A) := Nat.mul_le_mul_right _ l1
      generalize loop.length * (2 * A) = z at h1 ⊢
      omega), fun z => by unfold las; rw [if_pos z], las_col hm hs hl p⟩) k (by omega) s
  have fr := filter_rng (p := fun d => match d with
    | .int i => !(Hd m (las m stem loop) i)
    | _ => false) (q := fun i => Hd m (las m stem loop) (i : Int)) (stem.length + loop.length + 4) 0 (fun i _ => rfl)
  have c0 : ((0 : Nat) : Int) = 0 := rfl
  rw [c0] at fr
  have em := empty_filter (fun i : Nat => Hd m (las m stem loop) ((0 + i : Nat) : Int)) (List.range (stem.length + loop.length + 4))
  refine ⟨[.lst ((((List.range (stem.length + loop.length + 4)).filter fun i => !Hd m (las m stem loop) ((0 + i : Nat) : Int)).map fun i => ((0 + i : Nat) : Int)).map D.int), .lst []], ?_⟩
  simp only [colsD] at cond ⊢
  (simp (config := {decide := true, maxSteps := 1000000}) (disch := omega) only [Df.fn, Nat.reduceAdd, Nat.reduceSub, Nat.reduceMul, Int.reduceToNat, Int.reduceAdd, Int.reduceSub, Int.reduceMul, Int.reduceNeg, Int.reduceLE, Int.reduceLT, at0, at1, at2, at3, Nat.zero_add, Nat.sub_self, List.map_cons, List.map_nil, List.length_cons, List.length_nil, List.replicate_succ, List.replicate_zero, List.cons_append, List.nil_append, List.append_nil, List.getElem?_cons_zero, List.getElem?_cons_succ, Option.join_some, List.set_cons_zero, List.set_cons_succ,
  onB_bl, onO_bl, bind_ok, out_ok, bind_ite, out_ite, seq_next, seq_ret, seq_ite, end_next, end_ret, end_ite, optO_some, optR_some, x_var, x_cst, x_b2, x_b1, x_sset, x_rg, x_and, x_or, x_ite, x_chain, x_tup, x_lst, x_idx, x_slc, x_call, x_isi, x_gin, x_gget, x_comp, x_nil, x_cons, x_asg, x_asgT, x_par, x_sub, x_app, x_ext, x_expr, x_ret, x_retN, x_ife, x_for, x_pass, x_end, x_seq,
  turn_next, turn_ret, turn_ite, pyEq_int, wipeD, setTgt, setEach,
  o_add_i, o_add_t, o_sub, o_mul_i, o_fdiv, o_mod, o_eq, o_ne, o_lt, o_le, o_gt, o_ge, o_mx, o_mn, o_neg, o_len_t, o_len_l, o_int_i, o_int_b, o_isN, o_notN, o_asI, o_isF, o_lnot, o_truth, o_tuple_t, o_tuple_l, o_list_t, o_idx_t, o_all_last, o_tuple_last, MP.isNon, Bool.not_true, Bool.not_false, List.length_append, List.append_assoc,
  truthOf, isTys, isTy, kindD, tyB, gc_self, mkT, mkL, lim, seqOf, Option.map_some, Nat.beq, Bool.or_false, Bool.or_true, decide_eq_true_eq, decide_true, decide_false, Bool.true_and, Bool.true_or, Bool.false_or, Bool.false_and, Bool.and_false, Bool.and_true, if_true, Bool.false_eq_true, if_false, ite_true, ite_false, t7, List.length_map, it])
  rw [compL_pure rfl (fun d => match d with
    | .int i => !(Hd m (las m stem loop) i)
    | _ => false) id (rangeD 0 (stem.length + loop.length + 4)) [] ?_ ?_ ?_]
  · rw [fr]
    (simp (config := {decide := true, maxSteps := 1000000}) (disch := omega) only [Df.fn, Nat.reduceAdd, Nat.reduceSub, Nat.reduceMul, Int.reduceToNat, Int.reduceAdd, Int.reduceSub, Int.reduceMul, Int.reduceNeg, Int.reduceLE, Int.reduceLT, at0, at1, at2, at3, Nat.zero_add, Nat.sub_self, List.map_cons, List.map_nil, List.length_cons, List.length_nil, List.replicate_succ, List.replicate_zero, List.cons_append, List.nil_append, List.append_nil, List.getElem?_cons_zero, List.getElem?_cons_succ, Option.join_some, List.set_cons_zero, List.set_cons_succ,
  onB_bl, onO_bl, bind_ok, out_ok, bind_ite, out_ite, seq_next, seq_ret, seq_ite, end_next, end_ret, end_ite, optO_some, optR_some, x_var, x_cst, x_b2, x_b1, x_sset, x_rg, x_and, x_or, x_ite, x_chain, x_tup, x_lst, x_idx, x_slc, x_call, x_isi, x_gin, x_gget, x_comp, x_nil, x_cons, x_asg, x_asgT, x_par, x_sub, x_app, x_ext, x_expr, x_ret, x_retN, x_ife, x_for, x_pass, x_end, x_seq,
  turn_next, turn_ret, turn_ite, pyEq_int, wipeD, setTgt, setEach,
  o_add_i, o_add_t, o_sub, o_mul_i, o_fdiv, o_mod, o_eq, o_ne, o_lt, o_le, o_gt, o_ge, o_mx, o_mn, o_neg, o_len_t, o_len_l, o_int_i, o_int_b, o_isN, o_notN, o_asI, o_isF, o_lnot, o_truth, o_tuple_t, o_tuple_l, o_list_t, o_idx_t, o_all_last, o_tuple_last, MP.isNon, Bool.not_true, Bool.not_false, List.length_append, List.append_assoc,
  truthOf, isTys, isTy, kindD, tyB, gc_self, mkT, mkL, lim, seqOf, Option.map_some, Nat.beq, Bool.or_false, Bool.or_true, decide_eq_true_eq, decide_true, decide_false, Bool.true_and, Bool.true_or, Bool.false_or, Bool.false_and, Bool.and_false, Bool.and_true, if_true, Bool.false_eq_true, if_false, ite_true, ite_false, MP.alloc])
    rw [pyEq_empty (lst_l s _ [.lst []]) (lst_l1 s _ [] [])]
    (simp (config := {decide := true, maxSteps := 1000000}) (disch := omega) only [Df.fn, Nat.reduceAdd, Nat.reduceSub, Nat.reduceMul, Int.reduceToNat, Int.reduceAdd, Int.reduceSub, Int.reduceMul, Int.reduceNeg, Int.reduceLE, Int.reduceLT, at0, at1, at2, at3, Nat.zero_add, Nat.sub_self, List.map_cons, List.map_nil, List.length_cons, List.length_nil, List.replicate_succ, List.replicate_zero, List.cons_append, List.nil_append, List.append_nil, List.getElem?_cons_zero, List.getElem?_cons_succ, Option.join_some, List.set_cons_zero, List.set_cons_succ,
  onB_bl, onO_bl, bind_ok, out_ok, bind_ite, out_ite, seq_next, seq_ret, seq_ite, end_next, end_ret, end_ite, optO_some, optR_some, x_var, x_cst, x_b2, x_b1, x_sset, x_rg, x_and, x_or, x_ite, x_chain, x_tup, x_lst, x_idx, x_slc, x_call, x_isi, x_gin, x_gget, x_comp, x_nil, x_cons, x_asg, x_asgT, x_par, x_sub, x_app, x_ext, x_expr, x_ret, x_retN, x_ife, x_for, x_pass, x_end, x_seq,
  turn_next, turn_ret, turn_ite, pyEq_int, wipeD, setTgt, setEach,
  o_add_i, o_add_t, o_sub, o_mul_i, o_fdiv, o_mod, o_eq, o_ne, o_lt, o_le, o_gt, o_ge, o_mx, o_mn, o_neg, o_len_t, o_len_l, o_int_i, o_int_b, o_isN, o_notN, o_asI, o_isF, o_lnot, o_truth, o_tuple_t, o_tuple_l, o_list_t, o_idx_t, o_all_last, o_tuple_last, MP.isNon, Bool.not_true, Bool.not_false, List.length_append, List.append_assoc,
  truthOf, isTys, isTy, kindD, tyB, gc_self, mkT, mkL, lim, seqOf, Option.map_some, Nat.beq, Bool.or_false, Bool.or_true, decide_eq_true_eq, decide_true, decide_false, Bool.true_and, Bool.true_or, Bool.false_or, Bool.false_and, Bool.and_false, Bool.and_true, if_true, Bool.false_eq_true, if_false, ite_true, ite_false])
    simp only [Nat.zero_add] at em
    rw [List.isEmpty_map, em]
  · exact fun acc => rfl
  · intro x hx
    obtain ⟨i, hi, rfl⟩ := mem_rangeD _ _ _ hx
    have e0 : (0 : Int) + (i : Int) = ((0 + i : Nat) : Int) := by omega
    have cd := cond i hi
    simp only [Nat.zero_add] at cd
    refine ⟨_, rfl, fun acc => ⟨?_, fun _ => ⟨rfl, [], ?_⟩⟩⟩
    · rw [e0]
      (simp (config := {decide := true, maxSteps := 1000000}) (disch := omega) only [Df.fn, Nat.reduceAdd, Nat.reduceSub, Nat.reduceMul, Int.reduceToNat, Int.reduceAdd, Int.reduceSub, Int.reduceMul, Int.reduceNeg, Int.reduceLE, Int.reduceLT, at0, at1, at2, at3, Nat.zero_add, Nat.sub_self, List.map_cons, List.map_nil, List.length_cons, List.length_nil, List.replicate_succ, List.replicate_zero, List.cons_append, List.nil_append, List.append_nil, List.getElem?_cons_zero, List.getElem?_cons_succ, Option.join_some, List.set_cons_zero, List.set_cons_succ,
  onB_bl, onO_bl, bind_ok, out_ok, bind_ite, out_ite, seq_next, seq_ret, seq_ite, end_next, end_ret, end_ite, optO_some, optR_some, x_var, x_cst, x_b2, x_b1, x_sset, x_rg, x_and, x_or, x_ite, x_chain, x_tup, x_lst, x_idx, x_slc, x_call, x_isi, x_gin, x_gget, x_comp, x_nil, x_cons, x_asg, x_asgT, x_par, x_sub, x_app, x_ext, x_expr, x_ret, x_retN, x_ife, x_for, x_pass, x_end, x_seq,
  turn_next, turn_ret, turn_ite, pyEq_int, wipeD, setTgt, setEach,
  o_add_i, o_add_t, o_sub, o_mul_i, o_fdiv, o_mod, o_eq, o_ne, o_lt, o_le, o_gt, o_ge, o_mx, o_mn, o_neg, o_len_t, o_len_l, o_int_i, o_int_b, o_isN, o_notN, o_asI, o_isF, o_lnot, o_truth, o_tuple_t, o_tuple_l, o_list_t, o_idx_t, o_all_last, o_tuple_last, MP.isNon, Bool.not_true, Bool.not_false, List.length_append, List.append_assoc,
  truthOf, isTys, isTy, kindD, tyB, gc_self, mkT, mkL, lim, seqOf, Option.map_some, Nat.beq, Bool.or_false, Bool.or_true, decide_eq_true_eq, decide_true, decide_false, Bool.true_and, Bool.true_or, Bool.false_or, Bool.false_and, Bool.and_false, Bool.and_true, if_true, Bool.false_eq_true, if_false, ite_true, ite_false, cd])
    · (simp (config := {decide := true, maxSteps := 1000000}) (disch := omega) only [Df.fn, Nat.reduceAdd, Nat.reduceSub, Nat.reduceMul, Int.reduceToNat, Int.reduceAdd, Int.reduceSub, Int.reduceMul, Int.reduceNeg, Int.reduceLE, Int.reduceLT, at0, at1, at2, at3, Nat.zero_add, Nat.sub_self, List.map_cons, List.map_nil, List.length_cons, List.length_nil, List.replicate_succ, List.replicate_zero, List.cons_append, List.nil_append, List.append_nil, List.getElem?_cons_zero, List.getElem?_cons_succ, Option.join_some, List.set_cons_zero, List.set_cons_succ,
  onB_bl, onO_bl, bind_ok, out_ok, bind_ite, out_ite, seq_next, seq_ret, seq_ite, end_next, end_ret, end_ite, optO_some, optR_some, x_var, x_cst, x_b2, x_b1, x_sset, x_rg, x_and, x_or, x_ite, x_chain, x_tup, x_lst, x_idx, x_slc, x_call, x_isi, x_gin, x_gget, x_comp, x_nil, x_cons, x_asg, x_asgT, x_par, x_sub, x_app, x_ext, x_expr, x_ret, x_retN, x_ife, x_for, x_pass, x_end, x_seq,
  turn_next, turn_ret, turn_ite, pyEq_int, wipeD, setTgt, setEach,
  o_add_i, o_add_t, o_sub, o_mul_i, o_fdiv, o_mod, o_eq, o_ne, o_lt, o_le, o_gt, o_ge, o_mx, o_mn, o_neg, o_len_t, o_len_l, o_int_i, o_int_b, o_isN, o_notN, o_asI, o_isF, o_lnot, o_truth, o_tuple_t, o_tuple_l, o_list_t, o_idx_t, o_all_last, o_tuple_last, MP.isNon, Bool.not_true, Bool.not_false, List.length_append, List.append_assoc,
  truthOf, isTys, isTy, kindD, tyB, gc_self, mkT, mkL, lim, seqOf, Option.map_some, Nat.beq, Bool.or_false, Bool.or_true, decide_eq_true_eq, decide_true, decide_false, Bool.true_and, Bool.true_or, Bool.false_or, Bool.false_and, Bool.and_false, Bool.and_true, if_true, Bool.false_eq_true, if_false, ite_true, ite_false, id])
  · rw [range_len]; simp; omega
abbrev t8 : CS := (.ife (.b1 .lnot (.b1 .truth (.call 36 [(.call 25 [(.var 2), (.tup [(.var 13), (.var 14)])] []), (.var 16)] []))) [(.ret (.cst (.bl false)))] [])
omit hn hb in
theorem turn8 {stem loop : List (List Int)} (hs : ∀ c ∈ stem, m.col c) (hl : ∀ c ∈ loop, m.col c) (s2 : stem.length ≤ 2) (l1 : 1 ≤ loop.length) (l2 : loop.length ≤ 2) {s : Sto} {A0 A1 A3 A4 A5 A6 A7 A8 A9 A10 A11 A12 A15 A17 : Option D} :
    evSs (run tb k) [t8] [A0, A1, some m.d, A3, A4, A5, A6, A7, A8, A9, A10, A11, A12, some (colsD stem), some (colsD loop), A15, some (.bl ((List.range (stem.length + loop.length + 4)).all fun t => Hd m (las m stem loop) t)), A17] s =
      .next [A0, A1, some m.d, A3, A4, A5, A6, A7, A8, A9, A10, A11, A12, some (colsD stem), some (colsD loop), A15, some (.bl ((List.range (stem.length + loop.length + 4)).all fun t => Hd m (las m stem loop) t)), A17] s := by
  have bb := back_bd hm
  obtain ⟨T, hT⟩ : ∃ T : Nat, (T : Int) = stem.length + m.back + loop.length := ⟨(stem.length + m.back + loop.length).toNat, by omega⟩
  have h1 := fun s => is_history_ok k (by omega) m stem loop s T hm hs hl l1 (by omega) hT
  have h2 := all_ticks hm (stem := stem) (loop := loop) l1 (a := T) (b := stem.length + loop.length + 4) hT (by omega)
  have h3 := fun s => alike_ok 0 (.bl ((List.range (stem.length + loop.length + 4)).all fun t => Hd m (las m stem loop) t)) trivial k (by omega) s
  rw [h2] at h1
  (simp (config := {decide := true, maxSteps := 1000000}) (disch := omega) only [Df.fn, Nat.reduceAdd, Nat.reduceSub, Nat.reduceMul, Int.reduceToNat, Int.reduceAdd, Int.reduceSub, Int.reduceMul, Int.reduceNeg, Int.reduceLE, Int.reduceLT, at0, at1, at2, at3, Nat.zero_add, Nat.sub_self, List.map_cons, List.map_nil, List.length_cons, List.length_nil, List.replicate_succ, List.replicate_zero, List.cons_append, List.nil_append, List.append_nil, List.getElem?_cons_zero, List.getElem?_cons_succ, Option.join_some, List.set_cons_zero, List.set_cons_succ,
  onB_bl, onO_bl, bind_ok, out_ok, bind_ite, out_ite, seq_next, seq_ret, seq_ite, end_next, end_ret, end_ite, optO_some, optR_some, x_var, x_cst, x_b2, x_b1, x_sset, x_rg, x_and, x_or, x_ite, x_chain, x_tup, x_lst, x_idx, x_slc, x_call, x_isi, x_gin, x_gget, x_comp, x_nil, x_cons, x_asg, x_asgT, x_par, x_sub, x_app, x_ext, x_expr, x_ret, x_retN, x_ife, x_for, x_pass, x_end, x_seq,
  turn_next, turn_ret, turn_ite, pyEq_int, wipeD, setTgt, setEach,
  o_add_i, o_add_t, o_sub, o_mul_i, o_fdiv, o_mod, o_eq, o_ne, o_lt, o_le, o_gt, o_ge, o_mx, o_mn, o_neg, o_len_t, o_len_l, o_int_i, o_int_b, o_isN, o_notN, o_asI, o_isF, o_lnot, o_truth, o_tuple_t, o_tuple_l, o_list_t, o_idx_t, o_all_last, o_tuple_last, MP.isNon, Bool.not_true, Bool.not_false, List.length_append, List.append_assoc,
  truthOf, isTys, isTy, kindD, tyB, gc_self, mkT, mkL, lim, seqOf, Option.map_some, Nat.beq, Bool.or_false, Bool.or_true, decide_eq_true_eq, decide_true, decide_false, Bool.true_and, Bool.true_or, Bool.false_or, Bool.false_and, Bool.and_false, Bool.and_true, if_true, Bool.false_eq_true, if_false, ite_true, ite_false, t8, h1, h3])
end
end Lw
/-! ## KM19 -/
set_option Elab.async false
set_option linter.all false
set_option autoImplicit false
set_option maxRecDepth 100000
set_option maxHeartbeats 1000000
namespace Lw
open PySem PySem.Spec PyProof.Rows L2 MP
abbrev tBody : List CS := [t1, t2, t3, t4, t5, t6, t7, t8]
theorem tBody_eq : tBody = [t1] ++ ([t2] ++ ([t3] ++ ([t4] ++ ([t5] ++ ([t6] ++ ([t7] ++ [t8])))))) := rfl
section
variable {ns : List Int} (hn : ns.length ≤ 63) {k : Nat} (hk : 20 ≤ k) {base : Sto} (hb : RowS ns base) {m : Ml} (hm : m.ok)
include hn hk hb hm
/-- a stem and a loop that are good -/
def pairOk (m : Ml) (stem loop : List (List Int)) : Prop := (∀ c ∈ stem, m.col c) ∧ (∀ c ∈ loop, m.col c) ∧ stem.length ≤ 2 ∧ 1 ≤ loop.length ∧ loop.length ≤ 2
theorem turn {s : Sto} (x : Chx base s) {e : Nat} (e1 : e ≠ 1) {L : List (List Int)} (he : s[e]? = some (.lst (L.map cD))) (hc : ∀ c ∈ L, m.col c) (hne : L ≠ []) (hl : L.length ≤ 3000) {A0 A3 A6 A7 A8 A9 A10 A11 A12 A13 A14 A15 A16 A17 : Option D} :
    ∃ (s' : Sto) (B8 B9 B10 B15 B16 : Option D) (stem loop : List (List Int)), evSs (run tb k) tBody [A0, some (.loc 1), some m.d, A3, some (.int m.ahead), some (.loc e), A6, A7, A8, A9, A10, A11, A12, A13, A14, A15, A16, A17] s =
      .next [A0, some (.loc 1), some m.d, A3, some (.int m.ahead), some (.loc e), A6, A7, B8, B9, B10, A11, A12, some (colsD stem), some (colsD loop), B15, B16, A17] s' ∧ pairOk m stem loop ∧ Chx base s' ∧ s'[e]? = some (.lst (L.map cD)) := by
  have bb := back_bd hm
  obtain ⟨cs, s1, r1, c1, n1, n2, x1, h1⟩ := turn1 hn hk hb hm x e1 he hc hne hl (A0 := A0) (A2 := some m.d) (A3 := A3) (A6 := A6) (A7 := A7) (A8 := A8) (A9 := A9) (A10 := A10) (A11 := A11) (A12 := A12) (A13 := A13) (A14 := A14) (A15 := A15) (A16 := A16) (A17 := A17)
  obtain ⟨B9, r2⟩ := turn2 hk hm c1 (by omega) (by omega) (s := s1) (A0 := A0) (A1 := some (.loc 1)) (A3 := A3) (A5 := some (.loc e)) (A6 := A6) (A7 := A7) (A9 := A9) (A10 := A10) (A11 := A11) (A12 := A12) (A13 := A13) (A14 := A14) (A15 := A15) (A16 := A16) (A17 := A17)
  obtain ⟨u3, r3⟩ := turn3 hk hm c1 (by omega) (s := s1) (A0 := A0) (A1 := some (.loc 1)) (A3 := A3) (A4 := some (.int m.ahead)) (A5 := some (.loc e)) (A6 := A6) (A7 := A7) (A9 := B9) (A10 := A10) (A11 := A11) (A12 := A12) (A13 := A13) (A14 := A14) (A15 := A15) (A16 := A16) (A17 := A17)
  have r4 := turn4 hk hm c1 (by omega) (s := s1 ++ u3) (A0 := A0) (A1 := some (.loc 1)) (A3 := A3) (A4 := some (.int m.ahead)) (A5 := some (.loc e)) (A6 := A6) (A7 := A7) (A9 := B9) (A11 := A11) (A12 := A12) (A13 := A13) (A14 := A14) (A15 := A15) (A16 := A16) (A17 := A17)
  obtain ⟨stem, loop, s5, r5, p1, p2, p3, p4, p5, x5, h5⟩ := turn5 hn hk hb hm (x1.app u3) c1 (by omega) (A0 := A0) (A2 := some m.d) (A3 := A3) (A4 := some (.int m.ahead)) (A5 := some (.loc e)) (A6 := A6) (A7 := A7) (A9 := B9) (A10 := some (.tup (cs.map (tellD m)))) (A11 := A11) (A12 := A12) (A13 := A13) (A14 := A14) (A15 := A15) (A16 := A16) (A17 := A17)
  have r6 := turn6 hk hm (stem := stem) (loop := loop) (by omega) (by omega) (s := s5) (A0 := A0) (A1 := some (.loc 1)) (A2 := some m.d) (A3 := A3) (A5 := some (.loc e)) (A6 := A6) (A7 := A7) (A8 := some (colsD cs)) (A9 := B9) (A10 := some (.tup (cs.map (tellD m)))) (A11 := A11) (A12 := A12) (A15 := A15) (A16 := A16) (A17 := A17)
  obtain ⟨u7, r7⟩ := turn7 hk hm p1 p2 p3 p4 p5 (s := s5) (A0 := A0) (A1 := some (.loc 1)) (A3 := A3) (A4 := some (.int m.ahead)) (A5 := some (.loc e)) (A6 := A6) (A7 := A7) (A8 := some (colsD cs)) (A9 := B9) (A10 := some (.tup (cs.map (tellD m)))) (A11 := A11) (A12 := A12) (A16 := A16) (A17 := A17)
  have r8 := turn8 hk hm p1 p2 p3 p4 p5 (s := s5 ++ u7) (A0 := A0) (A1 := some (.loc 1)) (A3 := A3) (A4 := some (.int m.ahead)) (A5 := some (.loc e)) (A6 := A6) (A7 := A7) (A8 := some (colsD cs)) (A9 := B9) (A10 := some (.tup (cs.map (tellD m)))) (A11 := A11) (A12 := A12) (A15 := some (colsD (stem ++ reps loop (8 + 2 * m.ahead).toNat))) (A17 := A17)
  have h5e : s5[e]? = some (.lst (L.map cD)) := by rw [h5 e e1]; exact Ext.at ⟨u3, rfl⟩ h1
  refine ⟨s5 ++ u7, some (colsD cs), B9, some (.tup (cs.map (tellD m))), some (colsD (stem ++ reps loop (8 + 2 * m.ahead).toNat)), some (.bl ((List.range (stem.length + loop.length + 4)).all fun t => Hd m (las m stem loop) t)), stem, loop, ?_, ⟨p1, p2, p3, p4, p5⟩, x5.app u7, Ext.at ⟨u7, rfl⟩ h5e⟩
  rw [tBody_eq, evSs_app, r1, seq_next, evSs_app, r2, seq_next, evSs_app, r3, seq_next, evSs_app, r4, seq_next, evSs_app, r5, seq_next, evSs_app, r6, seq_next, evSs_app, r7, seq_next, r8]
theorem turns {e : Nat} (e1 : e ≠ 1) {L : List (List Int)} (hc : ∀ c ∈ L, m.col c) (hne : L ≠ []) (hl : L.length ≤ 3000) {still : Sto → Bool} (hs : ∀ s, still s = true) {A0 A3 A6 A11 A12 A17 : Option D} : ∀ (n lo : Nat) (s : Sto) (A7 A8 A9 A10 A13 A14 A15 A16 : Option D), Chx base s → s[e]? = some (.lst (L.map cD)) →
    (n = 0 → ∃ stem loop, A13 = some (colsD stem) ∧ A14 = some (colsD loop) ∧ pairOk m stem loop) →
    ∃ (s' : Sto) (B7 B8 B9 B10 B15 B16 : Option D) (stem loop : List (List Int)), forL still (setTgt true [7]) (evSs (run tb k) tBody) (rangeD (lo : Int) n) [A0, some (.loc 1), some m.d, A3, some (.int m.ahead), some (.loc e), A6, A7, A8, A9, A10, A11, A12, A13, A14, A15, A16, A17] s =
      .next [A0, some (.loc 1), some m.d, A3, some (.int m.ahead), some (.loc e), A6, B7, B8, B9, B10, A11, A12, some (colsD stem), some (colsD loop), B15, B16, A17] s' ∧ pairOk m stem loop ∧ Chx base s'
  | 0, lo, s, A7, A8, A9, A10, A13, A14, A15, A16, x, he, h0 => by
    obtain ⟨stem, loop, rfl, rfl, p⟩ := h0 rfl
    exact ⟨s, A7, A8, A9, A10, A15, A16, stem, loop, for_nil _ _ _ _ _ (hs _), p, x⟩
  | n + 1, lo, s, A7, A8, A9, A10, A13, A14, A15, A16, x, he, _ => by
    obtain ⟨s1, B8, B9, B10, B15, B16, stem, loop, r1, p, x1, h1⟩ := turn hn hk hb hm x e1 he hc hne hl (A0 := A0) (A3 := A3) (A6 := A6) (A7 := some (.int lo)) (A8 := A8) (A9 := A9) (A10 := A10) (A11 := A11) (A12 := A12) (A13 := A13) (A14 := A14) (A15 := A15) (A16 := A16) (A17 := A17)
    obtain ⟨v1, v2⟩ := gcE_viewC x1 x.len [A0, some (.loc 1), some m.d, A3, some (.int m.ahead), some (.loc e), A6, some (.int lo), B8, B9, B10, A11, A12, some (colsD stem), some (colsD loop), B15, B16, A17]
    have v3 := v2 5 e rfl
    rw [h1] at v3
    have cast : ((lo : Int) + 1) = ((lo + 1 : Nat) : Int) := by omega
    obtain ⟨s', C7, C8, C9, C10, C15, C16, stem', loop', q1, q2, q3⟩ := turns e1 hc hne hl hs n (lo + 1) _ (some (.int lo)) B8 B9 B10 (some (colsD stem)) (some (colsD loop)) B15 B16 v1 v3 (fun _ => ⟨stem, loop, rfl, rfl, p⟩)
    refine ⟨s', C7, C8, C9, C10, C15, C16, stem', loop', ?_, q2, q3⟩
    rw [← q1]
    show forL _ _ _ (.int (lo : Int) :: rangeD ((lo : Int) + 1) n) _ _ = _
    rw [for_cons _ _ _ _ _ _ _ (hs _), cast]
    have st : setTgt true [7] (.int (lo : Int)) [A0, some (.loc 1), some m.d, A3, some (.int m.ahead), some (.loc e), A6, A7, A8, A9, A10, A11, A12, A13, A14, A15, A16, A17] = some [A0, some (.loc 1), some m.d, A3, some (.int m.ahead), some (.loc e), A6, some (.int lo), A8, A9, A10, A11, A12, A13, A14, A15, A16, A17] := rfl
    rw [st, optO_some, r1, turn_next]
end
end Lw
/-! ## KM20 -/
set_option Elab.async false
set_option linter.all false
set_option autoImplicit false
set_option maxRecDepth 100000
set_option maxHeartbeats 1000000
namespace Lw
open PySem PySem.Spec PyProof.Rows L2 MP
abbrev w0 : CS := (.asg 1 (.lst [(.var 0), (.cst (.int 0)), (.cst (.int 4001)), (.cst (.int 0))]))
abbrev w1 : CS := (.asg 2 (.call 33 [(.var 1)] []))
abbrev w2 : CS := (.asgT [3, 4] (.call 35 [(.var 2)] []))
abbrev w3 : CS := (.ife (.b1 .lnot (.b1 .truth (.call 36 [(.call 22 [(.var 2)] []), (.tup [(.var 3), (.var 4)])] []))) [(.ret (.cst (.bl false)))] [])
abbrev w4 : CS := (.asg 5 (.lst []))
abbrev w5 : CS := (.for [6] true 1 (.idx (.var 2) (.cst (.int 0))) (.cst .non) lEvery)
abbrev w6 : CS := (.for [7] true 1 (.cst (.int 3)) (.cst .non) tBody)
abbrev w7 : CS := (.asg 17 (.lst [(.cst (.non)), (.tup [(.var 13)]), (.tup [(.var 13), (.tup [])]), (.lst [(.var 13), (.var 14)]), (.tup [(.var 13), (.b1 .list (.var 14))]), (.dct [] []), (.tup [(.var 13), (.var 14), (.tup [])]), (.tup [(.var 13), (.tup [(.cst (.non))])])]))
abbrev w8 : CS := (.app (.var 17) (.tup [(.tup []), (.tup [(.tup [(.cst (.int 9)), (.cst (.int 9))])])]))
abbrev w9 : CS := (.ret (.b1 .isF (.call 25 [(.var 2), (.call 31 [(.var 1), (.var 17)] [])] [])))
theorem d40_body : d40.fn.body = [w0] ++ ([w1] ++ ([w2] ++ ([w3] ++ ([w4] ++ ([w5] ++ ([w6] ++ ([w7] ++ ([w8] ++ [w9])))))))) := rfl
theorem dct0 (cl : Nat → List D → Sto → R D) (env : MP.Env) (st : Sto) : evE cl (.dct [] []) env st = .ok (.loc st.length) (st ++ [.dct []]) := by
  rw [x_dct cl [] [] env st [] (by rw [x_nil]) (by rfl)]
  rfl
/-- the odd ones -/
def odds (stem loop : List (List Int)) (n : Nat) : List D := [.non, .tup [colsD stem], .tup [colsD stem, .tup []], .loc n, .tup [colsD stem, .loc (n + 1)], .loc (n + 2), .tup [colsD stem, colsD loop, .tup []], .tup [colsD stem, .tup [.non]], .tup [.tup [], .tup [.tup [.int 9, .int 9]]]]
theorem kno_loc {s : Sto} {n : Nat} (h : n < s.length) : kno s (.loc n) := ⟨kindO s[n], by simp only [kindD]; rw [List.getElem?_eq_getElem h]; rfl⟩
theorem odd_no {m : Ml} (hm : m.ok) {stem loop : List (List Int)} (p : pairOk m stem loop) {n : Nat} {s : Sto} (hs : n + 2 < s.length) {x : D} (hx : x ∈ odds stem loop n) : ∀ k, 16 ≤ k → run tb k 25 [m.d, x] s = .ok (.bl false) s := by
  intro k hk
  obtain ⟨p1, p2, p3, p4, p5⟩ := p
  refine not_history k hk m x s hm ?_
  have cs : ∀ k', 14 ≤ k' → run tb k' 19 [m.d, colsD stem] s = .ok (.bl true) s := fun k' h => are_columns_ok k' (by omega) m stem s hm (by omega) p1
  simp only [odds, List.mem_cons, List.not_mem_nil, or_false] at hx
  rcases hx with rfl | rfl | rfl | rfl | rfl | rfl | rfl | rfl | rfl
  · exact no_pair m _ s ⟨_, rfl⟩ rfl
  · exact no_pair m _ s (kno_tup _ _) rfl
  · exact no_loop m _ s cs
  · exact no_pair m _ s (kno_loc (by omega)) rfl
  · exact no_first m _ _ s true cs fun _ => cols_loc m _ s (kno_loc (by omega)) rfl
  · exact no_pair m _ s (kno_loc (by omega)) rfl
  · exact no_pair m _ s (kno_tup _ _) rfl
  · refine no_first m _ _ s true cs fun _ k' h => ?_
    have := are_columns_q k' (by omega) m [.non] (fun _ => false) s (by simp) (fun y hy s => by simp at hy; subst hy; exact is_column_none _ (by omega) m s)
    simpa using this
  · refine no_first m _ _ s true (fun k' h => ?_) fun _ k' h => ?_
    · have := are_columns_q k' (by omega) m [] (fun _ => true) s (by simp) (by simp)
      simpa using this
    · have := are_columns_q k' (by omega) m [.tup [.int 9, .int 9]] (fun _ => false) s (by simp) (fun y hy s => by simp at hy; subst hy; exact is_column_99 _ (by omega) m s hm)
      simpa using this
theorem law_ok {ns : List Int} (hn : ns.length ≤ 63) : ∃ st, run tb 40 40 [.loc 0] [.ro (ns.map .int)] = .ok (.bl true) st := by
  rw [run_succ (k := 39) (f := d40.fn) rfl rfl, d40_body]
  have st0 : List.map some [D.loc 0] ++ List.replicate (d40.fn.ns - d40.fn.ps) none = [some (.loc 0), none, none, none, none, none, none, none, none, none, none, none, none, none, none, none, none, none] := rfl
  rw [st0]
  generalize hbase : ([.ro (ns.map .int), .lst [.loc 0, .int 0, .int 4001, .int 0]] : Sto) = base
  have hb : RowS ns base := by
    subst hbase
    exact ⟨rfl, 0, 4001, 0, Int.le_refl _, rfl⟩
  have e0 : evSs (run tb 39) [w0] [some (.loc 0), none, none, none, none, none, none, none, none, none, none, none, none, none, none, none, none, none] [.ro (ns.map .int)] = .next [some (.loc 0), some (.loc 1), none, none, none, none, none, none, none, none, none, none, none, none, none, none, none, none] base := by
    subst hbase
    (simp (config := {decide := true, maxSteps := 1000000}) (disch := omega) only [Df.fn, Nat.reduceAdd, Nat.reduceSub, Nat.reduceMul, Int.reduceToNat, Int.reduceAdd, Int.reduceSub, Int.reduceMul, Int.reduceNeg, Int.reduceLE, Int.reduceLT, at0, at1, at2, at3, Nat.zero_add, Nat.sub_self, List.map_cons, List.map_nil, List.length_cons, List.length_nil, List.replicate_succ, List.replicate_zero, List.cons_append, List.nil_append, List.append_nil, List.getElem?_cons_zero, List.getElem?_cons_succ, Option.join_some, List.set_cons_zero, List.set_cons_succ,
  onB_bl, onO_bl, bind_ok, out_ok, bind_ite, out_ite, seq_next, seq_ret, seq_ite, end_next, end_ret, end_ite, optO_some, optR_some, x_var, x_cst, x_b2, x_b1, x_sset, x_rg, x_and, x_or, x_ite, x_chain, x_tup, x_lst, x_idx, x_slc, x_call, x_isi, x_gin, x_gget, x_comp, x_nil, x_cons, x_asg, x_asgT, x_par, x_sub, x_app, x_ext, x_expr, x_ret, x_retN, x_ife, x_for, x_pass, x_end, x_seq,
  turn_next, turn_ret, turn_ite, pyEq_int, wipeD, setTgt, setEach,
  o_add_i, o_add_t, o_sub, o_mul_i, o_fdiv, o_mod, o_eq, o_ne, o_lt, o_le, o_gt, o_ge, o_mx, o_mn, o_neg, o_len_t, o_len_l, o_int_i, o_int_b, o_isN, o_notN, o_asI, o_isF, o_lnot, o_truth, o_tuple_t, o_tuple_l, o_list_t, o_idx_t, o_all_last, o_tuple_last, MP.isNon, Bool.not_true, Bool.not_false, List.length_append, List.append_assoc,
  truthOf, isTys, isTy, kindD, tyB, gc_self, mkT, mkL, lim, seqOf, Option.map_some, Nat.beq, Bool.or_false, Bool.or_true, decide_eq_true_eq, decide_true, decide_false, Bool.true_and, Bool.true_or, Bool.false_or, Bool.false_and, Bool.and_false, Bool.and_true, if_true, Bool.false_eq_true, if_false, ite_true, ite_false, w0, MP.alloc])
  rw [evSs_app, e0, seq_next]
  obtain ⟨m, s1, h1, hm, c1⟩ := mill_ok hn 39 (by omega) base hb
  have x1 : Chx base s1 := Chx.of c1
  have bb := back_bd hm
  have h2 := fun s => law_reach_ok 39 (by omega) m s hm
  have h3 := fun s => reach_ok 39 (by omega) m s hm
  have h4 := fun s => alike_ok 1 (.tup [.int m.back, .int m.ahead]) ⟨by simp, fun x hx => by
    simp at hx
    rcases hx with rfl | rfl <;> trivial⟩ 39 (by omega) s
  have e1 : evSs (run tb 39) [w1] [some (.loc 0), some (.loc 1), none, none, none, none, none, none, none, none, none, none, none, none, none, none, none, none] base = .next [some (.loc 0), some (.loc 1), some m.d, none, none, none, none, none, none, none, none, none, none, none, none, none, none, none] s1 := by
    (simp (config := {decide := true, maxSteps := 1000000}) (disch := omega) only [Df.fn, Nat.reduceAdd, Nat.reduceSub, Nat.reduceMul, Int.reduceToNat, Int.reduceAdd, Int.reduceSub, Int.reduceMul, Int.reduceNeg, Int.reduceLE, Int.reduceLT, at0, at1, at2, at3, Nat.zero_add, Nat.sub_self, List.map_cons, List.map_nil, List.length_cons, List.length_nil, List.replicate_succ, List.replicate_zero, List.cons_append, List.nil_append, List.append_nil, List.getElem?_cons_zero, List.getElem?_cons_succ, Option.join_some, List.set_cons_zero, List.set_cons_succ,
  onB_bl, onO_bl, bind_ok, out_ok, bind_ite, out_ite, seq_next, seq_ret, seq_ite, end_next, end_ret, end_ite, optO_some, optR_some, x_var, x_cst, x_b2, x_b1, x_sset, x_rg, x_and, x_or, x_ite, x_chain, x_tup, x_lst, x_idx, x_slc, x_call, x_isi, x_gin, x_gget, x_comp, x_nil, x_cons, x_asg, x_asgT, x_par, x_sub, x_app, x_ext, x_expr, x_ret, x_retN, x_ife, x_for, x_pass, x_end, x_seq,
  turn_next, turn_ret, turn_ite, pyEq_int, wipeD, setTgt, setEach,
  o_add_i, o_add_t, o_sub, o_mul_i, o_fdiv, o_mod, o_eq, o_ne, o_lt, o_le, o_gt, o_ge, o_mx, o_mn, o_neg, o_len_t, o_len_l, o_int_i, o_int_b, o_isN, o_notN, o_asI, o_isF, o_lnot, o_truth, o_tuple_t, o_tuple_l, o_list_t, o_idx_t, o_all_last, o_tuple_last, MP.isNon, Bool.not_true, Bool.not_false, List.length_append, List.append_assoc,
  truthOf, isTys, isTy, kindD, tyB, gc_self, mkT, mkL, lim, seqOf, Option.map_some, Nat.beq, Bool.or_false, Bool.or_true, decide_eq_true_eq, decide_true, decide_false, Bool.true_and, Bool.true_or, Bool.false_or, Bool.false_and, Bool.and_false, Bool.and_true, if_true, Bool.false_eq_true, if_false, ite_true, ite_false, w1, h1])
  have e2 : evSs (run tb 39) [w2] [some (.loc 0), some (.loc 1), some m.d, none, none, none, none, none, none, none, none, none, none, none, none, none, none, none] s1 = .next [some (.loc 0), some (.loc 1), some m.d, some (.int m.back), some (.int m.ahead), none, none, none, none, none, none, none, none, none, none, none, none, none] s1 := by
    (simp (config := {decide := true, maxSteps := 1000000}) (disch := omega) only [Df.fn, Nat.reduceAdd, Nat.reduceSub, Nat.reduceMul, Int.reduceToNat, Int.reduceAdd, Int.reduceSub, Int.reduceMul, Int.reduceNeg, Int.reduceLE, Int.reduceLT, at0, at1, at2, at3, Nat.zero_add, Nat.sub_self, List.map_cons, List.map_nil, List.length_cons, List.length_nil, List.replicate_succ, List.replicate_zero, List.cons_append, List.nil_append, List.append_nil, List.getElem?_cons_zero, List.getElem?_cons_succ, Option.join_some, List.set_cons_zero, List.set_cons_succ,
  onB_bl, onO_bl, bind_ok, out_ok, bind_ite, out_ite, seq_next, seq_ret, seq_ite, end_next, end_ret, end_ite, optO_some, optR_some, x_var, x_cst, x_b2, x_b1, x_sset, x_rg, x_and, x_or, x_ite, x_chain, x_tup, x_lst, x_idx, x_slc, x_call, x_isi, x_gin, x_gget, x_comp, x_nil, x_cons, x_asg, x_asgT, x_par, x_sub, x_app, x_ext, x_expr, x_ret, x_retN, x_ife, x_for, x_pass, x_end, x_seq,
  turn_next, turn_ret, turn_ite, pyEq_int, wipeD, setTgt, setEach,
  o_add_i, o_add_t, o_sub, o_mul_i, o_fdiv, o_mod, o_eq, o_ne, o_lt, o_le, o_gt, o_ge, o_mx, o_mn, o_neg, o_len_t, o_len_l, o_int_i, o_int_b, o_isN, o_notN, o_asI, o_isF, o_lnot, o_truth, o_tuple_t, o_tuple_l, o_list_t, o_idx_t, o_all_last, o_tuple_last, MP.isNon, Bool.not_true, Bool.not_false, List.length_append, List.append_assoc,
  truthOf, isTys, isTy, kindD, tyB, gc_self, mkT, mkL, lim, seqOf, Option.map_some, Nat.beq, Bool.or_false, Bool.or_true, decide_eq_true_eq, decide_true, decide_false, Bool.true_and, Bool.true_or, Bool.false_or, Bool.false_and, Bool.and_false, Bool.and_true, if_true, Bool.false_eq_true, if_false, ite_true, ite_false, w2, h2])
  have e3 : evSs (run tb 39) [w3] [some (.loc 0), some (.loc 1), some m.d, some (.int m.back), some (.int m.ahead), none, none, none, none, none, none, none, none, none, none, none, none, none] s1 = .next [some (.loc 0), some (.loc 1), some m.d, some (.int m.back), some (.int m.ahead), none, none, none, none, none, none, none, none, none, none, none, none, none] s1 := by
    (simp (config := {decide := true, maxSteps := 1000000}) (disch := omega) only [Df.fn, Nat.reduceAdd, Nat.reduceSub, Nat.reduceMul, Int.reduceToNat, Int.reduceAdd, Int.reduceSub, Int.reduceMul, Int.reduceNeg, Int.reduceLE, Int.reduceLT, at0, at1, at2, at3, Nat.zero_add, Nat.sub_self, List.map_cons, List.map_nil, List.length_cons, List.length_nil, List.replicate_succ, List.replicate_zero, List.cons_append, List.nil_append, List.append_nil, List.getElem?_cons_zero, List.getElem?_cons_succ, Option.join_some, List.set_cons_zero, List.set_cons_succ,
  onB_bl, onO_bl, bind_ok, out_ok, bind_ite, out_ite, seq_next, seq_ret, seq_ite, end_next, end_ret, end_ite, optO_some, optR_some, x_var, x_cst, x_b2, x_b1, x_sset, x_rg, x_and, x_or, x_ite, x_chain, x_tup, x_lst, x_idx, x_slc, x_call, x_isi, x_gin, x_gget, x_comp, x_nil, x_cons, x_asg, x_asgT, x_par, x_sub, x_app, x_ext, x_expr, x_ret, x_retN, x_ife, x_for, x_pass, x_end, x_seq,
  turn_next, turn_ret, turn_ite, pyEq_int, wipeD, setTgt, setEach,
  o_add_i, o_add_t, o_sub, o_mul_i, o_fdiv, o_mod, o_eq, o_ne, o_lt, o_le, o_gt, o_ge, o_mx, o_mn, o_neg, o_len_t, o_len_l, o_int_i, o_int_b, o_isN, o_notN, o_asI, o_isF, o_lnot, o_truth, o_tuple_t, o_tuple_l, o_list_t, o_idx_t, o_all_last, o_tuple_last, MP.isNon, Bool.not_true, Bool.not_false, List.length_append, List.append_assoc,
  truthOf, isTys, isTy, kindD, tyB, gc_self, mkT, mkL, lim, seqOf, Option.map_some, Nat.beq, Bool.or_false, Bool.or_true, decide_eq_true_eq, decide_true, decide_false, Bool.true_and, Bool.true_or, Bool.false_or, Bool.false_and, Bool.and_false, Bool.and_true, if_true, Bool.false_eq_true, if_false, ite_true, ite_false, w3, h3, h4])
  have e4 : evSs (run tb 39) [w4] [some (.loc 0), some (.loc 1), some m.d, some (.int m.back), some (.int m.ahead), none, none, none, none, none, none, none, none, none, none, none, none, none] s1 = .next [some (.loc 0), some (.loc 1), some m.d, some (.int m.back), some (.int m.ahead), some (.loc s1.length), none, none, none, none, none, none, none, none, none, none, none, none] (s1 ++ [.lst []]) := by
    (simp (config := {decide := true, maxSteps := 1000000}) (disch := omega) only [Df.fn, Nat.reduceAdd, Nat.reduceSub, Nat.reduceMul, Int.reduceToNat, Int.reduceAdd, Int.reduceSub, Int.reduceMul, Int.reduceNeg, Int.reduceLE, Int.reduceLT, at0, at1, at2, at3, Nat.zero_add, Nat.sub_self, List.map_cons, List.map_nil, List.length_cons, List.length_nil, List.replicate_succ, List.replicate_zero, List.cons_append, List.nil_append, List.append_nil, List.getElem?_cons_zero, List.getElem?_cons_succ, Option.join_some, List.set_cons_zero, List.set_cons_succ,
  onB_bl, onO_bl, bind_ok, out_ok, bind_ite, out_ite, seq_next, seq_ret, seq_ite, end_next, end_ret, end_ite, optO_some, optR_some, x_var, x_cst, x_b2, x_b1, x_sset, x_rg, x_and, x_or, x_ite, x_chain, x_tup, x_lst, x_idx, x_slc, x_call, x_isi, x_gin, x_gget, x_comp, x_nil, x_cons, x_asg, x_asgT, x_par, x_sub, x_app, x_ext, x_expr, x_ret, x_retN, x_ife, x_for, x_pass, x_end, x_seq,
  turn_next, turn_ret, turn_ite, pyEq_int, wipeD, setTgt, setEach,
  o_add_i, o_add_t, o_sub, o_mul_i, o_fdiv, o_mod, o_eq, o_ne, o_lt, o_le, o_gt, o_ge, o_mx, o_mn, o_neg, o_len_t, o_len_l, o_int_i, o_int_b, o_isN, o_notN, o_asI, o_isF, o_lnot, o_truth, o_tuple_t, o_tuple_l, o_list_t, o_idx_t, o_all_last, o_tuple_last, MP.isNon, Bool.not_true, Bool.not_false, List.length_append, List.append_assoc,
  truthOf, isTys, isTy, kindD, tyB, gc_self, mkT, mkL, lim, seqOf, Option.map_some, Nat.beq, Bool.or_false, Bool.or_true, decide_eq_true_eq, decide_true, decide_false, Bool.true_and, Bool.true_or, Bool.false_or, Bool.false_and, Bool.and_false, Bool.and_true, if_true, Bool.false_eq_true, if_false, ite_true, ite_false, w4, MP.alloc])
  rw [evSs_app, e1, seq_next, evSs_app, e2, seq_next, evSs_app, e3, seq_next, evSs_app, e4, seq_next, evSs_app]
  obtain ⟨N, hN⟩ : ∃ N : Nat, (N : Int) = m.letters := ⟨m.letters.toNat, by have := hm.l1; omega⟩
  have hl3 := hm.l3
  have hl1 := hm.l1
  obtain ⟨s2, e, L, B6, r5, x2, he, hL, hne, hlen⟩ := every_loop (k := 39) (by omega) hm (base := base) (still := stillOf 1 (.int m.letters) .non (s1 ++ [.lst []])) (fun _ => rfl) (A0 := some (.loc 0)) (A1 := some (.loc 1)) (A3 := some (.int m.back)) (A4 := some (.int m.ahead)) (A7 := none) (A8 := none) (A9 := none) (A10 := none) (A11 := none) (A12 := none) (A13 := none) (A14 := none) (A15 := none) (A16 := none) (A17 := none)
    N 0 (s1 ++ [.lst []]) s1.length [] none (by omega) (x1.app _) at_last (by simp) (by simp) (by omega)
  have c0 : ((0 : Nat) : Int) = 0 := rfl
  rw [c0] at r5
  have it5 := it_rng N .non (s1 ++ [.lst []]) (by omega)
  rw [hN] at it5
  have e5 : evSs (run tb 39) [w5] [some (.loc 0), some (.loc 1), some m.d, some (.int m.back), some (.int m.ahead), some (.loc s1.length), none, none, none, none, none, none, none, none, none, none, none, none] (s1 ++ [.lst []]) = .next [some (.loc 0), some (.loc 1), some m.d, some (.int m.back), some (.int m.ahead), some (.loc e), B6, none, none, none, none, none, none, none, none, none, none, none] s2 := by
    simp only [Ml.d] at r5 ⊢
    (simp (config := {decide := true, maxSteps := 1000000}) (disch := omega) only [Df.fn, Nat.reduceAdd, Nat.reduceSub, Nat.reduceMul, Int.reduceToNat, Int.reduceAdd, Int.reduceSub, Int.reduceMul, Int.reduceNeg, Int.reduceLE, Int.reduceLT, at0, at1, at2, at3, Nat.zero_add, Nat.sub_self, List.map_cons, List.map_nil, List.length_cons, List.length_nil, List.replicate_succ, List.replicate_zero, List.cons_append, List.nil_append, List.append_nil, List.getElem?_cons_zero, List.getElem?_cons_succ, Option.join_some, List.set_cons_zero, List.set_cons_succ,
  onB_bl, onO_bl, bind_ok, out_ok, bind_ite, out_ite, seq_next, seq_ret, seq_ite, end_next, end_ret, end_ite, optO_some, optR_some, x_var, x_cst, x_b2, x_b1, x_sset, x_rg, x_and, x_or, x_ite, x_chain, x_tup, x_lst, x_idx, x_slc, x_call, x_isi, x_gin, x_gget, x_comp, x_nil, x_cons, x_asg, x_asgT, x_par, x_sub, x_app, x_ext, x_expr, x_ret, x_retN, x_ife, x_for, x_pass, x_end, x_seq,
  turn_next, turn_ret, turn_ite, pyEq_int, wipeD, setTgt, setEach,
  o_add_i, o_add_t, o_sub, o_mul_i, o_fdiv, o_mod, o_eq, o_ne, o_lt, o_le, o_gt, o_ge, o_mx, o_mn, o_neg, o_len_t, o_len_l, o_int_i, o_int_b, o_isN, o_notN, o_asI, o_isF, o_lnot, o_truth, o_tuple_t, o_tuple_l, o_list_t, o_idx_t, o_all_last, o_tuple_last, MP.isNon, Bool.not_true, Bool.not_false, List.length_append, List.append_assoc,
  truthOf, isTys, isTy, kindD, tyB, gc_self, mkT, mkL, lim, seqOf, Option.map_some, Nat.beq, Bool.or_false, Bool.or_true, decide_eq_true_eq, decide_true, decide_false, Bool.true_and, Bool.true_or, Bool.false_or, Bool.false_and, Bool.and_false, Bool.and_true, if_true, Bool.false_eq_true, if_false, ite_true, ite_false, w5, it5, r5])
  rw [e5, seq_next, evSs_app]
  have ne1 : e ≠ 1 := by
    intro z
    subst z
    obtain ⟨p, q, r, _, hr⟩ := (x2.row hb).rw
    rw [hr] at he
    have := O.lst.inj (Option.some.inj he)
    cases L with
    | nil => exact hne rfl
    | cons c L => simp [cD] at this
  obtain ⟨s3, C7, C8, C9, C10, C15, C16, stem, loop, r6, pk, x3⟩ := turns hn (k := 39) (by omega) hb hm ne1 hL hne hlen (still := stillOf 1 (.int 3) .non s2) (fun _ => rfl) (A0 := some (.loc 0)) (A3 := some (.int m.back)) (A6 := B6) (A11 := none) (A12 := none) (A17 := none) 3 0 s2 none none none none none none none none x2 he (by omega)
  rw [c0] at r6
  have it6 : itE 1 (.ok (.int 3) s2) (fun st => .ok .non st) = .ok (.int 3, .non, rangeD 0 3) s2 := it_rng 3 .non s2 (by omega)
  have e6 : evSs (run tb 39) [w6] [some (.loc 0), some (.loc 1), some m.d, some (.int m.back), some (.int m.ahead), some (.loc e), B6, none, none, none, none, none, none, none, none, none, none, none] s2 = .next [some (.loc 0), some (.loc 1), some m.d, some (.int m.back), some (.int m.ahead), some (.loc e), B6, C7, C8, C9, C10, none, none, some (colsD stem), some (colsD loop), C15, C16, none] s3 := by
    (simp (config := {decide := true, maxSteps := 1000000}) (disch := omega) only [Df.fn, Nat.reduceAdd, Nat.reduceSub, Nat.reduceMul, Int.reduceToNat, Int.reduceAdd, Int.reduceSub, Int.reduceMul, Int.reduceNeg, Int.reduceLE, Int.reduceLT, at0, at1, at2, at3, Nat.zero_add, Nat.sub_self, List.map_cons, List.map_nil, List.length_cons, List.length_nil, List.replicate_succ, List.replicate_zero, List.cons_append, List.nil_append, List.append_nil, List.getElem?_cons_zero, List.getElem?_cons_succ, Option.join_some, List.set_cons_zero, List.set_cons_succ,
  onB_bl, onO_bl, bind_ok, out_ok, bind_ite, out_ite, seq_next, seq_ret, seq_ite, end_next, end_ret, end_ite, optO_some, optR_some, x_var, x_cst, x_b2, x_b1, x_sset, x_rg, x_and, x_or, x_ite, x_chain, x_tup, x_lst, x_idx, x_slc, x_call, x_isi, x_gin, x_gget, x_comp, x_nil, x_cons, x_asg, x_asgT, x_par, x_sub, x_app, x_ext, x_expr, x_ret, x_retN, x_ife, x_for, x_pass, x_end, x_seq,
  turn_next, turn_ret, turn_ite, pyEq_int, wipeD, setTgt, setEach,
  o_add_i, o_add_t, o_sub, o_mul_i, o_fdiv, o_mod, o_eq, o_ne, o_lt, o_le, o_gt, o_ge, o_mx, o_mn, o_neg, o_len_t, o_len_l, o_int_i, o_int_b, o_isN, o_notN, o_asI, o_isF, o_lnot, o_truth, o_tuple_t, o_tuple_l, o_list_t, o_idx_t, o_all_last, o_tuple_last, MP.isNon, Bool.not_true, Bool.not_false, List.length_append, List.append_assoc,
  truthOf, isTys, isTy, kindD, tyB, gc_self, mkT, mkL, lim, seqOf, Option.map_some, Nat.beq, Bool.or_false, Bool.or_true, decide_eq_true_eq, decide_true, decide_false, Bool.true_and, Bool.true_or, Bool.false_or, Bool.false_and, Bool.and_false, Bool.and_true, if_true, Bool.false_eq_true, if_false, ite_true, ite_false, w6, it6, r6])
  rw [e6, seq_next, evSs_app]
  have e7 : evSs (run tb 39) [w7, w8] [some (.loc 0), some (.loc 1), some m.d, some (.int m.back), some (.int m.ahead), some (.loc e), B6, C7, C8, C9, C10, none, none, some (colsD stem), some (colsD loop), C15, C16, none] s3 = .next [some (.loc 0), some (.loc 1), some m.d, some (.int m.back), some (.int m.ahead), some (.loc e), B6, C7, C8, C9, C10, none, none, some (colsD stem), some (colsD loop), C15, C16, some (.loc (s3.length + 3))] (s3 ++ [.lst [colsD stem, colsD loop], .lst (loop.map cD), .dct [], .lst (odds stem loop s3.length)]) := by
    simp only [colsD]
    have il : isLst (s3 ++ [O.lst [.tup (stem.map cD), .tup (loop.map cD)], .lst (loop.map cD), .dct [], .lst [.non, .tup [.tup (stem.map cD)], .tup [.tup (stem.map cD), .tup []], .loc s3.length, .tup [.tup (stem.map cD), .loc (s3.length + 1)], .loc (s3.length + 2), .tup [.tup (stem.map cD), .tup (loop.map cD), .tup []], .tup [.tup (stem.map cD), .tup [.non]]]]) (.loc (s3.length + 3)) = true := by
      unfold isLst
      simp only
      rw [List.getElem?_append_right (by omega)]
      simp
    have ap : appAt (.loc (s3.length + 3)) (.tup [.tup [], .tup [.tup [.int 9, .int 9]]]) (s3 ++ [O.lst [.tup (stem.map cD), .tup (loop.map cD)], .lst (loop.map cD), .dct [], .lst [.non, .tup [.tup (stem.map cD)], .tup [.tup (stem.map cD), .tup []], .loc s3.length, .tup [.tup (stem.map cD), .loc (s3.length + 1)], .loc (s3.length + 2), .tup [.tup (stem.map cD), .tup (loop.map cD), .tup []], .tup [.tup (stem.map cD), .tup [.non]]]]) = some (s3 ++ [O.lst [.tup (stem.map cD), .tup (loop.map cD)], .lst (loop.map cD), .dct [], .lst (odds stem loop s3.length)]) := by
      unfold appAt
      simp only
      rw [List.getElem?_append_right (by omega)]
      simp only [Nat.add_sub_cancel_left, List.getElem?_cons_succ, List.getElem?_cons_zero]
      rw [if_pos (by simp [lim]), List.set_append_right _ _ (by omega)]
      simp only [Nat.add_sub_cancel_left, List.set_cons_succ, List.set_cons_zero]
      rfl
    (simp (config := {decide := true, maxSteps := 1000000}) (disch := omega) only [Df.fn, Nat.reduceAdd, Nat.reduceSub, Nat.reduceMul, Int.reduceToNat, Int.reduceAdd, Int.reduceSub, Int.reduceMul, Int.reduceNeg, Int.reduceLE, Int.reduceLT, at0, at1, at2, at3, Nat.zero_add, Nat.sub_self, List.map_cons, List.map_nil, List.length_cons, List.length_nil, List.replicate_succ, List.replicate_zero, List.cons_append, List.nil_append, List.append_nil, List.getElem?_cons_zero, List.getElem?_cons_succ, Option.join_some, List.set_cons_zero, List.set_cons_succ,
  onB_bl, onO_bl, bind_ok, out_ok, bind_ite, out_ite, seq_next, seq_ret, seq_ite, end_next, end_ret, end_ite, optO_some, optR_some, x_var, x_cst, x_b2, x_b1, x_sset, x_rg, x_and, x_or, x_ite, x_chain, x_tup, x_lst, x_idx, x_slc, x_call, x_isi, x_gin, x_gget, x_comp, x_nil, x_cons, x_asg, x_asgT, x_par, x_sub, x_app, x_ext, x_expr, x_ret, x_retN, x_ife, x_for, x_pass, x_end, x_seq,
  turn_next, turn_ret, turn_ite, pyEq_int, wipeD, setTgt, setEach,
  o_add_i, o_add_t, o_sub, o_mul_i, o_fdiv, o_mod, o_eq, o_ne, o_lt, o_le, o_gt, o_ge, o_mx, o_mn, o_neg, o_len_t, o_len_l, o_int_i, o_int_b, o_isN, o_notN, o_asI, o_isF, o_lnot, o_truth, o_tuple_t, o_tuple_l, o_list_t, o_idx_t, o_all_last, o_tuple_last, MP.isNon, Bool.not_true, Bool.not_false, List.length_append, List.append_assoc,
  truthOf, isTys, isTy, kindD, tyB, gc_self, mkT, mkL, lim, seqOf, Option.map_some, Nat.beq, Bool.or_false, Bool.or_true, decide_eq_true_eq, decide_true, decide_false, Bool.true_and, Bool.true_or, Bool.false_or, Bool.false_and, Bool.and_false, Bool.and_true, if_true, Bool.false_eq_true, if_false, ite_true, ite_false, w7, w8, MP.alloc, dct0, il, ap])
  have e78 : ([w7] ++ ([w8] ++ [w9]) : List CS) = [w7, w8] ++ [w9] := rfl
  rw [← evSs_app, e78, evSs_app, e7, seq_next]
  have x4 : Chx base (s3 ++ [.lst [colsD stem, colsD loop], .lst (loop.map cD), .dct [], .lst (odds stem loop s3.length)]) := x3.app _
  have two := hb.two
  have l3 := x3.len
  obtain ⟨x, s5, p1, p2, p3⟩ := pick_ok hn 39 (by omega) (s3.length + 3) (odds stem loop s3.length) _ (x4.row hb) (by omega) (by rw [List.getElem?_append_right (by omega)]; simp) (by simp [odds]) (by simp [odds])
  have no := odd_no hm pk (n := s3.length) (s := s5) (by rw [p3.len]; simp) p2 39 (by omega)
  refine ⟨MP.gc [.ro (ns.map .int)] s5 (.bl true), ?_⟩
  (simp (config := {decide := true, maxSteps := 1000000}) (disch := omega) only [Df.fn, Nat.reduceAdd, Nat.reduceSub, Nat.reduceMul, Int.reduceToNat, Int.reduceAdd, Int.reduceSub, Int.reduceMul, Int.reduceNeg, Int.reduceLE, Int.reduceLT, at0, at1, at2, at3, Nat.zero_add, Nat.sub_self, List.map_cons, List.map_nil, List.length_cons, List.length_nil, List.replicate_succ, List.replicate_zero, List.cons_append, List.nil_append, List.append_nil, List.getElem?_cons_zero, List.getElem?_cons_succ, Option.join_some, List.set_cons_zero, List.set_cons_succ,
  onB_bl, onO_bl, bind_ok, out_ok, bind_ite, out_ite, seq_next, seq_ret, seq_ite, end_next, end_ret, end_ite, optO_some, optR_some, x_var, x_cst, x_b2, x_b1, x_sset, x_rg, x_and, x_or, x_ite, x_chain, x_tup, x_lst, x_idx, x_slc, x_call, x_isi, x_gin, x_gget, x_comp, x_nil, x_cons, x_asg, x_asgT, x_par, x_sub, x_app, x_ext, x_expr, x_ret, x_retN, x_ife, x_for, x_pass, x_end, x_seq,
  turn_next, turn_ret, turn_ite, pyEq_int, wipeD, setTgt, setEach,
  o_add_i, o_add_t, o_sub, o_mul_i, o_fdiv, o_mod, o_eq, o_ne, o_lt, o_le, o_gt, o_ge, o_mx, o_mn, o_neg, o_len_t, o_len_l, o_int_i, o_int_b, o_isN, o_notN, o_asI, o_isF, o_lnot, o_truth, o_tuple_t, o_tuple_l, o_list_t, o_idx_t, o_all_last, o_tuple_last, MP.isNon, Bool.not_true, Bool.not_false, List.length_append, List.append_assoc,
  truthOf, isTys, isTy, kindD, tyB, gc_self, mkT, mkL, lim, seqOf, Option.map_some, Nat.beq, Bool.or_false, Bool.or_true, decide_eq_true_eq, decide_true, decide_false, Bool.true_and, Bool.true_or, Bool.false_or, Bool.false_and, Bool.and_false, Bool.and_true, if_true, Bool.false_eq_true, if_false, ite_true, ite_false, w9, p1, no])
end Lw
/-! ## LwE -/
set_option Elab.async false
set_option linter.all false
set_option maxRecDepth 100000
set_option maxHeartbeats 0
namespace Lw
open PySem PySem.Spec PyProof.Rows L2 MP
/-! ### the head -/
abbrev Rw : PySem.W.OpenRow := PySem.W.OpenLaw.row PySem.Challenge.rw_merelylate_k01_whole_mills
abbrev hk : PySem.W.Hook := He.hookX 4 (faOf T Ds) (Ds.map Df.he) (tsOf T) [] (exOf T)
def ob (s : PySem.W.SharedT) : He.AlX := He.obsX 4 (faOf T Ds) (Ds.map Df.he) (tsOf T) [] (exOf T) (HandSHeadRun.getT s)
theorem ob_eq (s : PySem.W.SharedT) : ob s = hk.obs s.abs := He.obsX_eq (HandSHeadRun.getT_eq s)
def loose : List PySem.Str := ([("MillError" : PySem.Str), ("BadMill" : PySem.Str), ("BadColumns" : PySem.Str), ("BadTick" : PySem.Str), ("is_within" : PySem.Str), ("is_tuple" : PySem.Str), ("is_ascending" : PySem.Str), ("MOST_DEEP" : PySem.Str), ("MOST_EQUATIONS" : PySem.Str), ("FARTHEST" : PySem.Str)] : List PySem.Str) ++ ([("INNER" : PySem.Str), ("is_term" : PySem.Str), ("is_single" : PySem.Str), ("is_offset" : PySem.Str), ("are_equations" : PySem.Str), ("is_equation" : PySem.Str), ("offsets" : PySem.Str), ("looks" : PySem.Str), ("worth" : PySem.Str), ("worth_of_two" : PySem.Str)] : List PySem.Str) ++ ([("first_failing" : PySem.Str), ("all_hold" : PySem.Str), ("is_held" : PySem.Str), ("MOST_LETTERS" : PySem.Str), ("MOST_NAMES" : PySem.Str), ("MOST_COLUMNS" : PySem.Str), ("check_mill" : PySem.Str), ("wrong_part" : PySem.Str), ("are_names" : PySem.Str), ("is_name" : PySem.Str)] : List PySem.Str) ++ ([("are_told" : PySem.Str), ("are_numbers" : PySem.Str), ("is_letter" : PySem.Str), ("is_column" : PySem.Str), ("are_columns" : PySem.Str), ("is_looping_pair" : PySem.Str), ("check_columns" : PySem.Str), ("reach" : PySem.Str), ("holds" : PySem.Str), ("check_tick" : PySem.Str)] : List PySem.Str) ++ ([("tells" : PySem.Str), ("is_history" : PySem.Str), ("column_before" : PySem.Str), ("before_tick_0" : PySem.Str), ("with_before" : PySem.Str), ("told_by" : PySem.Str), ("unrolled" : PySem.Str), ("_law_taken" : PySem.Str), ("_law_pick" : PySem.Str), ("_law_term" : PySem.Str)] : List PySem.Str) ++ ([("_law_mill" : PySem.Str), ("_law_offsets" : PySem.Str), ("_law_reach" : PySem.Str), ("_law_alike" : PySem.Str), ("_law_columns" : PySem.Str), ("_law_worth" : PySem.Str), ("_law_holds" : PySem.Str)] : List PySem.Str)
abbrev HeadEq (w : World) : Prop := HandSHeadRun.RunEq Rw (PySem.W.view Rw.prog [63]) hk ob 4000 loose w
theorem runF (w : World) : HeadEq (w.withFollow "special-get-raises" false) := by
  intro os
  kernel_rfl
theorem runT (w : World) : HeadEq (w.withFollow "special-get-raises" true) := by
  intro os
  kernel_rfl
theorem runH (w : World) : HeadEq w := PySem.W.byRow2 "special-get-raises" (P := HeadEq) runF runT w
/-! ### the arguments -/
theorem a0 : ArgsOk d0 := .inl ⟨rfl, fun _ _ _ _ _ _ us hl => match us, hl with | [_, _, _], _ => rfl⟩
theorem a1 : ArgsOk d1 := .inl ⟨rfl, fun _ _ _ _ _ _ us hl => match us, hl with | [_, _, _], _ => rfl⟩
theorem a2 : ArgsOk d2 := .inr ⟨by decide, by decide, by decide, fun j hj => match j, hj with
  | 0, _ => fun T kV doc pm an cdv ct us its hu hi => match us, its, hu, hi with | [_, _], [_], _, _ => ⟨_, rfl, rfl⟩
  | 1, _ => fun T kV doc pm an cdv ct us its hu hi => match us, its, hu, hi with | [_, _, _], [_], _, _ => ⟨_, rfl, rfl⟩
  | _ + 2, h => absurd h (by simp [d2])⟩
theorem a3 : ArgsOk d3 := .inl ⟨rfl, fun _ _ _ _ _ _ us hl => match us, hl with | [_, _], _ => rfl⟩
theorem a4 : ArgsOk d4 := .inl ⟨rfl, fun _ _ _ _ _ _ us hl => match us, hl with | [_], _ => rfl⟩
theorem a5 : ArgsOk d5 := .inl ⟨rfl, fun _ _ _ _ _ _ us hl => match us, hl with | [_, _], _ => rfl⟩
theorem a6 : ArgsOk d6 := .inl ⟨rfl, fun _ _ _ _ _ _ us hl => match us, hl with | [_, _], _ => rfl⟩
theorem a7 : ArgsOk d7 := .inl ⟨rfl, fun _ _ _ _ _ _ us hl => match us, hl with | [_], _ => rfl⟩
theorem a8 : ArgsOk d8 := .inl ⟨rfl, fun _ _ _ _ _ _ us hl => match us, hl with | [_], _ => rfl⟩
theorem a9 : ArgsOk d9 := .inl ⟨rfl, fun _ _ _ _ _ _ us hl => match us, hl with | [_, _, _], _ => rfl⟩
theorem a10 : ArgsOk d10 := .inl ⟨rfl, fun _ _ _ _ _ _ us hl => match us, hl with | [_, _, _], _ => rfl⟩
theorem a11 : ArgsOk d11 := .inl ⟨rfl, fun _ _ _ _ _ _ us hl => match us, hl with | [_, _, _], _ => rfl⟩
theorem a12 : ArgsOk d12 := .inl ⟨rfl, fun _ _ _ _ _ _ us hl => match us, hl with | [_], _ => rfl⟩
theorem a13 : ArgsOk d13 := .inl ⟨rfl, fun _ _ _ _ _ _ us hl => match us, hl with | [_], _ => rfl⟩
theorem a14 : ArgsOk d14 := .inl ⟨rfl, fun _ _ _ _ _ _ us hl => match us, hl with | [_], _ => rfl⟩
theorem a15 : ArgsOk d15 := .inl ⟨rfl, fun _ _ _ _ _ _ us hl => match us, hl with | [_], _ => rfl⟩
theorem a16 : ArgsOk d16 := .inl ⟨rfl, fun _ _ _ _ _ _ us hl => match us, hl with | [_, _], _ => rfl⟩
theorem a17 : ArgsOk d17 := .inl ⟨rfl, fun _ _ _ _ _ _ us hl => match us, hl with | [_, _], _ => rfl⟩
theorem a18 : ArgsOk d18 := .inl ⟨rfl, fun _ _ _ _ _ _ us hl => match us, hl with | [_, _], _ => rfl⟩
theorem a19 : ArgsOk d19 := .inl ⟨rfl, fun _ _ _ _ _ _ us hl => match us, hl with | [_, _], _ => rfl⟩
theorem a20 : ArgsOk d20 := .inl ⟨rfl, fun _ _ _ _ _ _ us hl => match us, hl with | [_, _], _ => rfl⟩
theorem a21 : ArgsOk d21 := .inl ⟨rfl, fun _ _ _ _ _ _ us hl => match us, hl with | [_, _], _ => rfl⟩
theorem a22 : ArgsOk d22 := .inl ⟨rfl, fun _ _ _ _ _ _ us hl => match us, hl with | [_], _ => rfl⟩
theorem a23 : ArgsOk d23 := .inl ⟨rfl, fun _ _ _ _ _ _ us hl => match us, hl with | [_, _, _], _ => rfl⟩
theorem a24 : ArgsOk d24 := .inl ⟨rfl, fun _ _ _ _ _ _ us hl => match us, hl with | [_, _], _ => rfl⟩
theorem a25 : ArgsOk d25 := .inl ⟨rfl, fun _ _ _ _ _ _ us hl => match us, hl with | [_, _], _ => rfl⟩
theorem a26 : ArgsOk d26 := .inl ⟨rfl, fun _ _ _ _ _ _ us hl => match us, hl with | [_], _ => rfl⟩
theorem a27 : ArgsOk d27 := .inl ⟨rfl, fun _ _ _ _ _ _ us hl => match us, hl with | [_, _], _ => rfl⟩
theorem a28 : ArgsOk d28 := .inl ⟨rfl, fun _ _ _ _ _ _ us hl => match us, hl with | [_, _], _ => rfl⟩
theorem a29 : ArgsOk d29 := .inl ⟨rfl, fun _ _ _ _ _ _ us hl => match us, hl with | [_, _, _], _ => rfl⟩
theorem a30 : ArgsOk d30 := .inl ⟨rfl, fun _ _ _ _ _ _ us hl => match us, hl with | [_, _], _ => rfl⟩
theorem a31 : ArgsOk d31 := .inl ⟨rfl, fun _ _ _ _ _ _ us hl => match us, hl with | [_, _], _ => rfl⟩
theorem a32 : ArgsOk d32 := .inl ⟨rfl, fun _ _ _ _ _ _ us hl => match us, hl with | [_, _, _], _ => rfl⟩
theorem a33 : ArgsOk d33 := .inl ⟨rfl, fun _ _ _ _ _ _ us hl => match us, hl with | [_], _ => rfl⟩
theorem a34 : ArgsOk d34 := .inl ⟨rfl, fun _ _ _ _ _ _ us hl => match us, hl with | [_], _ => rfl⟩
theorem a35 : ArgsOk d35 := .inl ⟨rfl, fun _ _ _ _ _ _ us hl => match us, hl with | [_], _ => rfl⟩
theorem a36 : ArgsOk d36 := .inl ⟨rfl, fun _ _ _ _ _ _ us hl => match us, hl with | [_, _], _ => rfl⟩
theorem a37 : ArgsOk d37 := .inl ⟨rfl, fun _ _ _ _ _ _ us hl => match us, hl with | [_, _], _ => rfl⟩
theorem a38 : ArgsOk d38 := .inl ⟨rfl, fun _ _ _ _ _ _ us hl => match us, hl with | [_, _, _, _], _ => rfl⟩
theorem a39 : ArgsOk d39 := .inl ⟨rfl, fun _ _ _ _ _ _ us hl => match us, hl with | [_, _, _], _ => rfl⟩
theorem a40 : ArgsOk d40 := .inl ⟨rfl, fun _ _ _ _ _ _ us hl => match us, hl with | [_], _ => rfl⟩
theorem a41 : ArgsOk d41 := .inl ⟨rfl, fun _ _ _ _ _ _ us hl => match us, hl with | [_], _ => rfl⟩
theorem a42 : ArgsOk d42 := .inl ⟨rfl, fun _ _ _ _ _ _ us hl => match us, hl with | [_, _, _], _ => rfl⟩
theorem a43 : ArgsOk d43 := .inl ⟨rfl, fun _ _ _ _ _ _ us hl => match us, hl with | [_, _, _], _ => rfl⟩
theorem a44 : ArgsOk d44 := .inl ⟨rfl, fun _ _ _ _ _ _ us hl => match us, hl with | [_, _], _ => rfl⟩
theorem a45 : ArgsOk d45 := .inl ⟨rfl, fun _ _ _ _ _ _ us hl => match us, hl with | [_, _, _], _ => rfl⟩
theorem a46 : ArgsOk d46 := .inl ⟨rfl, fun _ _ _ _ _ _ us hl => match us, hl with | [_, _], _ => rfl⟩
theorem args : AllArgs Ds := ⟨a0, a1, a2, a3, a4, a5, a6, a7, a8, a9, a10, a11, a12, a13, a14, a15, a16, a17, a18, a19, a20, a21, a22, a23, a24, a25, a26, a27, a28, a29, a30, a31, a32, a33, a34, a35, a36, a37, a38, a39, a40, a41, a42, a43, a44, a45, a46, trivial⟩
theorem checked : Ds.all (Df.ck T) = true := by decide +kernel
end Lw
open PySem PySem.W PySem.Calls PyProof.Rows MP in
theorem Lw.holds (pure_ : ∀ ns : List Int, ns.length ≤ 63 → ∃ st, run Lw.tb 40 40 [.loc 0] [.ro (ns.map .int)] = .ok (.bl true) st) : PySem.Challenge.rw_merelylate_k01_whole_mills.Holds := by
  w_on; o_law
  refine HandSHeadRun.head_any (r := OpenLaw.row PySem.Challenge.rw_merelylate_k01_whole_mills) (q := view (OpenLaw.row PySem.Challenge.rw_merelylate_k01_whole_mills).prog [63]) (H := Lw.hk) (ob := Lw.ob) (M := 4000) (loose := Lw.loose) (d := HandSHeadRun.topDef (OpenLaw.row PySem.Challenge.rw_merelylate_k01_whole_mills).prog 63) (kwd := []) Lw.ob_eq
    (by kernel_rfl) (fun s => by kernel_rfl) Lw.runH (by kernel_rfl) (by kernel_rfl) (by kernel_rfl) (by rfl) (by first | assumption | decide +kernel) (by decide +kernel) ⟨rfl, rfl, rfl, rfl, rfl, by decide +kernel⟩ ?hw ?hc
  case hw => w_witness2
  case hc =>
    refine L2.walk_ofE (l := PySem.Challenge.rw_merelylate_k01_whole_mills) (n := 63) (k := 40) (x := "script") (CX := L2.CX0) rfl (by decide) (by kernel_rfl) ⟨rfl, by decide, by decide⟩ ?F (fun _ _ _ _ z => z)
    intro w mg fa h Y G hmg0
    obtain ⟨K, KX, c⟩ := Y
    have hmg : mg ("law" : PySem.Str) = some (.ref fa) := by
      have e : (HandSHeadRun.topDef (OpenLaw.row PySem.Challenge.rw_merelylate_k01_whole_mills).prog 63).name = ("law" : PySem.Str) := by kernel_rfl
      rw [← e]
      exact hmg0
    have pk := pg_of (T := Lw.T) (Ds := Lw.Ds) rfl Lw.checked Lw.args KX G c
    obtain ⟨f, fd, dvs, m1, m2, F, B⟩ := pk.defs 40 Lw.d40 rfl
    obtain ⟨fd2, F2⟩ := c.t.d.defs (d := Lw.d40.he) (List.mem_map.mpr ⟨Lw.d40, List.mem_of_getElem? (i := 40) rfl, rfl⟩)
    have e1 := hmg.symm.trans m1
    cases e1
    have e2 : He.ga K Lw.d40.nm = fa := by
      have e3 : (some (He.ga K Lw.d40.nm)) = some fa := m2
      exact Option.some.inj e3
    have F3 : FnD K Lw.d40 [] fa fd2 := by
      rw [← e2]
      exact F2
    refine ⟨K, fd2, spOf K (fun g => (Lw.Ds[g]?).map fun d => He.ga K d.nm) (run Lw.tb 40) 40, KX, fun s v => ?_, fun H a ns hl hO hS => sp_law hS hO (pure_ ns hl), fun base _ _ => prog_ok _ pk base 40 40 Lw.d40 rfl fa fd2 [] F3⟩
    have b := L2.FunD.bindsA (ps := ["script"]) F3 fun _ _ _ _ _ _ us hl => match us, hl with | [_], _ => rfl
    exact b s [v] rfl
theorem PySem.Challenge.cw_merelylate_k01_whole_mills_holds : PySem.Challenge.rw_merelylate_k01_whole_mills.Holds := by
  exact Lw.holds fun ns hn => Lw.law_ok hn
