import PyProof.Rows.All
import Wide.All
import OpenK.AllK
import Wide.FinOn
import HandS.Lambda
import HandS.ForMost
import HandS.Wide
import HandS.TupAny
import HandS.TupMul
import HandS.Conv
import HandS.Iter
import KE.GoesEnum
import HandS.EndTab
import HandS.More
import HandS.Style
import HandS.SetFor
import HandS.SortInts
import KE.KTupSum
import KE.KIndexOf
import PyProof.TupleOfSeq
import KE.SortKeyHeap
import HandS.Strs
import KE.KLam
import PyProof.P3Eq
import PyProof.Rows.ReprShort
import KE.KNestM
import PySem.Challenge.RW_floorkeepers_k11_least_tight_words
set_option Elab.async false
set_option linter.all false
set_option maxRecDepth 100000
namespace DL
open PySem
/-- the name that the code objects of the table at an address bear -/
def nameAt (_ : Addr) : Str := "_law_first_known.<locals>.<lambda>"
end DL
namespace DL
open PySem PySem.Spec PyProof.Rows L2

/-! ### tuples that are known to have no dict: their object is told -/
def PlainT (o : Obj) : Prop := o.cls = .type "tuple" ∧ o.dict = none
def NewT (H : Hp) (Q : VK) (ys : List V) : Prop := ∀ (p : Addr) (o : Obj), H p = none → PlainT o → Q (.ref p) (upd H p (.frz o (.tup ys)))
section
variable {X : Cx} {pins : List (Addr × Obj)} {s : Shared} {σ : L2.St} {H : Hp} {Q : VK} {ys : List V}
/-- a new tuple at the heap's end -/
theorem new_tup {us : List Value} (I : Inv X pins σ H s) (r : Vals ys us) (hz : ys.length ≤ sizeLine) (q : NewT H Q ys) {t' : Nat} :
    EP X pins σ Q (.ref s.heap.objs.size) { s with heap := s.heap.push { cls := .type "tuple", data := .seq us.toArray }, toks := t' } :=
  ⟨.ref s.heap.objs.size, _, I.laid (t' := t') (o := .frz { cls := .type "tuple", data := .seq us.toArray } (.tup ys)) (fun b u e => Heap.get?_push_of_some _ e) (Nat.le_refl _)
    ⟨Heap.get?_push_size _ rfl, hz, us, r, ⟨_, Heap.get?_push_size _ rfl, rfl, _, rfl⟩⟩, rfl, q _ _ (I.hok.fresh (Nat.le_refl _)) ⟨rfl, rfl⟩⟩
end
section
variable {X : Cx}
def rCatF (K : PySem.W.Frag) : R2 := fun x y H Q => ∃ a b xs ys, x = .ref a ∧ y = .ref b ∧ SqT K H a xs ∧ SqT K H b ys ∧ xs.length + ys.length ≤ sizeLine ∧
  (xs = [] → Q (.ref b) H) ∧ (xs ≠ [] → ys = [] → Q (.ref a) H) ∧ (xs ≠ [] → ys ≠ [] → NewT H Q (xs ++ ys))
theorem op_catF : OpR X (binaryOp .Add) (rCatF X.K) := by
  intro pins s σ H x y v u Q I rx ry ⟨a, b, xs, ys, e1, e2, ha, hb, hz, q0, q1, q2⟩
  subst e1 e2
  cases rx
  cases ry
  obtain ⟨us, ra, pa, _⟩ := I.tuple ha
  obtain ⟨ws, rb, pb, _⟩ := I.tuple hb
  by_cases hx : xs = []
  · subst hx
    cases ra
    exact cat_tup0 pa pb ⟨.ref b, H, I, rfl, q0 rfl⟩
  · exact HT.cat_tup pa pb (fun z => hx (ra.nil_iff.mp z)) (fun z => ⟨.ref a, H, I, rfl, q1 hx (rb.nil_iff.mp z)⟩)
      (fun z => new_tup I (ra.append rb) (by rw [List.length_append]; exact hz) (q2 hx fun w => z (rb.nil_iff.mpr w)) (t' := s.toks)) (by rw [← ra.length, ← rb.length]; exact hz)
def rSlF (K : PySem.W.Frag) : V → Option Int → Option Int → Hp → VK → Prop := fun x lo hi H Q => ∃ a xs, x = .ref a ∧ SqT K H a xs ∧
  (HT.sIx xs.length 0 lo = 0 ∧ HT.sIx xs.length xs.length hi = xs.length → Q (.ref a) H) ∧ (¬ (HT.sIx xs.length 0 lo = 0 ∧ HT.sIx xs.length xs.length hi = xs.length) → NewT H Q (cutV xs lo hi))
theorem sl_tupF : SlR X (rSlF X.K) := by
  intro pins s σ H x v vl vu lo hi sl Q I rx hs pl pu ⟨a, xs, e1, hx, q1, q2⟩
  subst e1
  cases rx
  obtain ⟨us, ra, pa, hz⟩ := I.tuple hx
  have hn : us.toArray.size = xs.length := by rw [List.size_toArray, ra.length]
  refine ⟨"tuple", _, PyProof.Rows.slot_tuple_getitem.lookup, pa.typeIs, ?_⟩
  by_cases hw : HT.sIx xs.length 0 lo = 0 ∧ HT.sIx xs.length xs.length hi = xs.length
  · exact getItem_tuple_whole pa hs pl pu (by rw [hn]; exact hw) ⟨.ref a, H, I, rfl, q1 hw⟩
  · refine HT.getItem_tuple_cut pa hs pl pu (by rw [hn]; exact hw) ?_ (by rw [hn]; exact hz)
    rw [hn]
    exact new_tup I ((ra.drop (HT.sIx xs.length 0 lo)).take (HT.sIx xs.length xs.length hi - HT.sIx xs.length 0 lo)) (Nat.le_trans (cutV_length xs lo hi) hz) (q2 hw) (t' := s.toks)
theorem call_tupleF : CallR X (.type "tuple") (fun xs H Q => ∃ p ys, xs = [.ref p] ∧ ((SqL X.K H p ys ∧ NewT H Q ys) ∨ (SqT X.K H p ys ∧ Q (.ref p) H))) := by
  intro pins s σ H xs us Q I r ⟨p, ys, e1, h⟩
  subst e1
  rw [Vals.ref1 r]
  rcases h with ⟨hq, q⟩ | ⟨hq, q⟩
  · obtain ⟨ws, rw', pw, hz⟩ := I.list hq
    have hn := rw'.length
    exact call_tuple_list pw.isList (fun h' kp => new_tup (I.kept (t' := s.toks) kp) rw' hz q (t' := s.toks)) (by rw [List.size_toArray]; omega)
  · obtain ⟨ws, rw', pw, hz⟩ := I.tuple hq
    exact call_tuple_same pw ⟨.ref p, H, I, rfl, q⟩
def tTupF (t : TA) : TE := fun σ H Q => t σ H fun xs H1 => xs.length ≤ sizeLine ∧ NewT H1 Q xs
theorem pe_tupF {es : List Expr} {t : TA} {pos : Pos} {x1} (h : PA X es t) : PE X (.Tuple es x1 pos) (tTupF t) :=
  ⟨fun pins s σ H Q I hq => wpAny_Tuple_spliced (thn (h.run pos pins s σ H _ I hq) fun us s1 ⟨xs, H1, I1, r, z, q⟩ => ⟨by rw [← r.length]; exact z, new_tup I1 r z q (t' := s1.toks)⟩)⟩
def tTupRgF (te : L2.St → Hp → (Int → Int → Hp → Prop) → Prop) : TE := fun σ H Q => te σ H fun a b H1 => RgOk a b ∧ NewT H1 Q (rgV a b)
theorem pe_tupRgF {e : Expr} {te : L2.St → Hp → (Int → Int → Hp → Prop) → Prop} {p pos : Pos} (hc : X.calm = true) (hg : Gl X "tuple") (hm : X.mg "tuple" = none) (he : PRg X e te) (na : starEach [e] X.env = (false, eval e X.env) :: starEach [] X.env := by rfl) : PE X (.Call (.Name "tuple" p) [e] [] pos) (tTupRgF te) := by
  refine ⟨fun pins s σ H Q I h => Call_ (ld_blt I hg hm boot_tuple (PyProof.Rows.callWith_type1 (args_cons (thn (he pins s σ H _ I h) fun x s1 ⟨r, a, b, t, u, v, H1, ex, hr, I1, ok, q⟩ => args_nil ?_) na) na))⟩
  subst ex
  obtain ⟨b1, b2, b3, b4, b5⟩ := ok
  refine call_tuple_range (n := (b - a).toNat) (I1.ok.hd hc) hr (small_one b1 b2 b3 b4) (rangeSize_nat a b) b5 fun h' tk acc hk hi => ?_
  have I2 : Inv X pins σ H1 { s1 with heap := h', toks := tk } := I1.kept hk
  have := new_tup I2 (vals_rg hi) (by rw [rgV_length, sizeLine_eq]; omega) q (t' := tk)
  rw [Array.toArray_toList] at this
  exact this
def rRepF (K : PySem.W.Frag) : R2 := fun x y H Q => ∃ l k xs, x = .ref l ∧ y = .int k ∧ SqT K H l xs ∧ xs ≠ [] ∧ 2 ≤ k ∧ k ≤ 1000 ∧ xs.length ≤ 1000 ∧ NewT H Q (List.replicate k.toNat xs).flatten
theorem op_repF : OpR X (binaryOp .Mult) (rRepF X.K) := by
  intro pins s σ H x y v u Q I rx ry ⟨l, k, xs, e1, e2, hT, hne, h1, h2, hz, q⟩
  subst e1 e2
  cases rx
  obtain ⟨t, rfl⟩ := ry
  obtain ⟨us, ra, ⟨ob, ho, hc, n, hd⟩, hs⟩ := I.tuple hT
  obtain ⟨cls, dd, data, sl⟩ := ob
  have hc' : cls = .type "tuple" := hc
  have hd' : data = .seq us.toArray n := hd
  subst hc' hd'
  have hl : us.length = xs.length := ra.length.symm
  have hsz : us.toArray.size = xs.length := by rw [List.size_toArray, hl]
  have hi : us.toArray.isEmpty = false := by
    cases us with
    | nil => exact absurd (List.eq_nil_of_length_eq_zero hl.symm) hne
    | cons a b => rfl
  have a0 : k.toNat * xs.length ≤ 1000 * 1000 := Nat.mul_le_mul (by omega) hz
  have a1 : ((xs.length : Nat) : Int) * k ≤ 1000 * k := Int.mul_le_mul_of_nonneg_right (by omega) (by omega)
  have hm : ((us.toArray.size : Nat) : Int) * k ≤ 1000000 := by rw [hsz]; omega
  have flen : (List.replicate k.toNat us).flatten.length ≤ sizeLine := by rw [PyProof.Rows.lm_len_rep_flat, hl, sizeLine_eq]; omega
  have c0 : (decide (k < -(2 ^ 63)) || decide (k ≥ 2 ^ 63)) = false := by simp only [Bool.or_eq_false_iff, decide_eq_false_iff_not]; omega
  have c1 : (us.toArray.isEmpty || k == 1) = false := by
    rw [hi]
    exact beq_eq_false_iff_ne.mpr (by omega)
  have c2 : (decide (k ≤ 0) || us.toArray.isEmpty) = false := by rw [hi, Bool.or_false, decide_eq_false (by omega)]
  have c4 : Builtin.Tuple.tupleTooMany (((us.toArray.size : Nat) : Int) * k) = false := decide_eq_false (by rw [sizeLine_eq]; omega)
  refine wpAny_binaryOp_repeat_ref (T := "tuple") (U := "int") (by decide) ⟨_, ho, rfl⟩ (fun s' => typeIs_int s' k t) noFill_tuple_mul F.fills_int_mul F.slot_int_rmul repeat_tuple F.slot_int_index.lookup
    (call_meets F.slot_int_rmul (typeIs_int s k t) F.entry_int_rmul (F.args_int_rmul_2 _ _) (int_rmul_tuple k t l us.toArray n dd sl) ⟨ho, rfl, ⟨_, ho, rfl⟩,
      call_meets F.slot_tuple_mul ⟨_, ho, rfl⟩ F.entry_tuple_mul (F.args_tuple_mul_2 _ _) (tuple_mulW l us.toArray n dd sl k t c0 c1 c2 (by omega) c4 (by rw [size_rep, List.size_toArray]; exact flen)) ⟨ho, ?_⟩⟩)
  rw [size_rep]
  exact new_tup I (ra.rep k.toNat) (by rw [PyProof.Rows.lm_len_rep_flat, sizeLine_eq]; omega) q (t' := s.toks)
end
end DL
/-! enumerate(v), zip(v, w) where each of v, w is a list or a tuple -/
namespace ZE
open PySem PySem.Spec PyProof.Rows L2

/-! ### enumerate(v) of one argument -/
section
variable {prog : Program} {w : World} {A : Around} {E : Value → Shared → Prop} {s : Shared}
set_option maxHeartbeats 1000000 in
theorem new_enum1 {v : Value} {ob : Obj} {C : Heap → Prop} (B : Begins v ob C) :
    Meets (Builtin.«enumerate.__new__» ⟨[.type "enumerate", v], []⟩) (fun _ R t => C t.heap ∧
      R (.ok (.ret (.ref (t.heap.push ob).objs.size))) { t with heap := (t.heap.push ob).push { cls := .type "enumerate", data := .fields #[.none, .bool false, .ref t.heap.objs.size, rawInt 0, .none, .none] } }) :=
  .of_wp fun pr wo A R t h => by
    obtain ⟨hp, gg, dd, tt, oo⟩ := t
    obtain ⟨hC, h⟩ := h
    have hsub := sub_enumerate
    have it : ∀ {A' : Around} {E' : Value → Shared → Prop} {Q' : Value → Shared → Prop}, Q' (.ref hp.objs.size) ⟨hp.push ob, gg, dd, tt, oo⟩ → wpAny (model pr wo) A' (pyIter v) Q' E' ⟨hp, gg, dd, tt, oo⟩ :=
      fun q => B.iter pr wo _ _ ⟨hp, gg, dd, tt, oo⟩ _ hC q
    wp_walk using it
    refine wpAny_stack_any fun _ => wpAny_pure ?_
    split
    · rename_i cc _ _ _ _ _
      cases (cc == Value.type "enumerate") <;> (wp_walk using it; exact ⟨_, rfl, h⟩)
    · wp_walk using it
      exact ⟨_, rfl, h⟩
theorem enum1 {v : Value} {ob : Obj} {C : Heap → Prop} {Q : Value → Shared → Prop} (B : Begins v ob C) (hC : C s.heap)
    (h : ∀ g, IsEnum g (s.heap.objs.size + 1) s.heap.objs.size 0 .none → g.get? s.heap.objs.size = some ob → (∀ b o, s.heap.get? b = some o → g.get? b = some o) → Q (.ref (s.heap.objs.size + 1)) { s with heap := g }) :
    wpAny (model prog w) A (call (.type "enumerate") [v]) Q E s := by
  refine callType_new F.called_enumerate (by decide) (F.typeCall_enumerate_1 _) (F.newCall_enumerate_1 _) (fun z => F.args_object_init_2 z _) F.entry_enumerate_new (new_enum1 B) ⟨hC, ?_⟩
  have e1 : (s.heap.push ob).objs.size = s.heap.objs.size + 1 := Heap.size_push ..
  show _ ∧ _
  rw [e1]
  have e2 := Heap.get?_push_size (s.heap.push ob) (o := { cls := .type "enumerate", data := .fields #[.none, .bool false, .ref s.heap.objs.size, rawInt 0, .none, .none] }) rfl
  rw [e1] at e2
  exact ⟨⟨_, e2, rfl⟩, h _ e2 (Heap.get?_push_of_some _ (Heap.get?_push_size _ B.free)) fun b o z => Heap.get?_push_of_some _ (Heap.get?_push_of_some _ z)⟩
end

/-! ### a list or a tuple -/
def SqB (K : PySem.W.Frag) (b : Bool) (H : Hp) (a : Addr) (xs : List V) : Prop := match b with
  | true => SqL K H a xs
  | false => SqT K H a xs
def ItB (b : Bool) (h : Heap) (it l : Addr) (i : Nat) : Prop := match b with
  | true => h.IsListIter it l i
  | false => h.IsTupleIter it l i
def IsB (b : Bool) (h : Heap) (l : Addr) (its : Array Value) : Prop := match b with
  | true => h.IsList l its
  | false => h.IsTuple l its
def obB (b : Bool) (l : Addr) : Obj := match b with
  | true => { cls := .type "list_iterator", data := .fields #[.ref l, .int 0 0] }
  | false => { cls := .type "tuple_iterator", data := .fields #[.ref l, .int 0 0] }
theorem beginsB (b : Bool) (l : Addr) (its : Array Value) : Begins (.ref l) (obB b l) fun h => IsB b h l its := by
  cases b
  · exact begins_tuple l its
  · exact begins_list l its
theorem drawsB {P : Program} {w : World} {A : Around} (b : Bool) (hh : A.handled = none) (it l : Addr) (hne : l ≠ it) (its : Array Value) :
    Draws P w A it [it, l] its.size (fun i v => its[i]? = some v) (fun i h => ItB b h it l i ∧ IsB b h l its) := by
  cases b
  · exact Draws.tuple hh it l hne its
  · exact Draws.list hh it l hne its
theorem ItB.at {b : Bool} {h h' : Heap} {it l : Addr} {i : Nat} (x : ItB b h it l i) (k : ∀ o, h.get? it = some o → h'.get? it = some o) : ItB b h' it l i := by
  cases b
  · exact Heap.IsTupleIter.at x k
  · exact Heap.IsListIter.at x k
theorem ItB.obj {b : Bool} {h : Heap} {it l : Addr} {i : Nat} (x : ItB b h it l i) : ∃ o, h.get? it = some o ∧ ∀ v, o.data ≠ .cell v := by
  cases b
  · obtain ⟨o, e, _, d⟩ := x
    exact ⟨o, e, fun v q => by rw [d] at q; cases q⟩
  · obtain ⟨o, e, _, d⟩ := x
    exact ⟨o, e, fun v q => by rw [d] at q; cases q⟩
theorem itB_new {b : Bool} {h : Heap} {it l : Addr} (e : h.get? it = some (obB b l)) : ItB b h it l 0 := by
  cases b
  · exact ⟨_, e, rfl, rfl⟩
  · exact ⟨_, e, rfl, rfl⟩
section
variable {X : Cx} {pins : List (Addr × Obj)} {σ : L2.St} {H : Hp} {s : Shared}
theorem seqB {b : Bool} {a : Addr} {xs : List V} (I : Inv X pins σ H s) (h : SqB X.K b H a xs) : ∃ its : List Value, Vals xs its ∧ IsB b s.heap a its.toArray ∧ a < s.heap.objs.size := by
  cases b
  · obtain ⟨its, rv, p, _⟩ := I.tuple h
    obtain ⟨o, e, _⟩ := id p
    exact ⟨its, rv, p, Heap.lt_size e⟩
  · obtain ⟨its, rv, p, _⟩ := I.list h
    exact ⟨its, rv, p.isList, p.lt⟩
theorem seqB_inj {b : Bool} {a : Addr} {xs ys : List V} (I : Inv X pins σ H s) (h : SqB X.K b H a xs) (h2 : SqB X.K b H a ys) : xs = ys := by
  cases b
  · exact I.tuple_inj h h2
  · exact I.list_inj h h2
end

/-! ### enumerate -/
def IteB (K : PySem.W.Frag) (b : Bool) (a : Addr) : It :=
  ⟨fun i H => ∃ (xs : List V) (x : V), SqB K b H a xs ∧ xs[i]? = some x,
    fun i H v H' => ∃ T x o, v = .ref T ∧ H T = none ∧ DL.PlainT o ∧ H' = upd H T (.frz o (.tup [.int (i : Nat), x])) ∧ ∀ xs, SqB K b H a xs → xs[i]? = some x,
    fun i H => ∃ xs : List V, SqB K b H a xs ∧ xs.length = i⟩
theorem turnE {P : Program} {w : World} {K : PySem.W.Frag} {elts : List Expr} {kk : Nat} {tp : Pos} (b : Bool) (a e it : Addr) (hea : e ≠ a) (hia : a ≠ it) :
    Turn P w K (.Tuple elts kk tp) (IteB K b a) [e, it] e (fun i h => (∃ old, IsEnum h e it ((i : Nat) : Int) old) ∧ ItB b h it a i ∧ e ≠ it) where
  mem := List.mem_cons_self ..
  obj := fun i h st c hc => by
    obtain ⟨⟨old, he⟩, hi, _⟩ := st
    rcases List.mem_cons.mp hc with z | z
    · subst z
      exact ⟨_, he, fun v q => nomatch q⟩
    · rw [show c = it by simpa using z]
      exact hi.obj
  keep := fun i h h' ⟨⟨old, he⟩, hi, hne⟩ k => ⟨⟨old, k e (by simp) _ he⟩, hi.at fun o q => k it (by simp) o q, hne⟩
  item := by
    intro X eP ew eK hc i pins s σ H E I hf st hg
    subst eP ew eK
    obtain ⟨⟨old, he⟩, hi, hne⟩ := st
    obtain ⟨xs, x, hq, hx⟩ := hg
    obtain ⟨its, rv, p, hal⟩ := seqB I hq
    obtain ⟨u, hu, ru⟩ := rv.get hx
    have lt : i < its.toArray.size := by
      have := (List.getElem?_eq_some_iff.mp hu).1
      simpa using this
    have hel : e < s.heap.objs.size := Heap.lt_size he
    have hil : it < s.heap.objs.size := by
      obtain ⟨o, q, _⟩ := hi.obj
      exact Heap.lt_size q
    refine wpAny_pyNext_enum_itemD (drawsB (A := X.A.in1) b (I.ok.hd hc) it a hia its.toArray) he ⟨hi, p⟩ lt hne (by simp [hne, hea]) fun x1 g tk hx1 ho st1 hT hsz kp => ?_
    have ex : x1 = u := by
      have : some u = some x1 := by rw [← hu]; simpa using hx1
      exact (Option.some.inj this).symm
    subst ex
    refine ⟨_, rfl, wpAny_letOwnedTupleGo_enum (s := { s with heap := g, toks := tk + 1 }) ho fun g2 he2 sb => ?_⟩
    have hT2 : g2.get? s.heap.objs.size = some { cls := .type "tuple", data := .seq #[.int i tk, x1] } := (sb.2 _ (Nat.ne_of_gt hel)).trans hT
    have nw : ObjOk X.prog X.w (upd H s.heap.objs.size (.frz { cls := .type "tuple", data := .seq #[.int i tk, x1] } (.tup [.int (i : Nat), x]))) g2 s.heap.objs.size (.frz { cls := .type "tuple", data := .seq #[.int i tk, x1] } (.tup [.int (i : Nat), x])) := by
      refine ⟨hT2, by show 2 ≤ sizeLine; decide, [.int i tk, x1], ?_, ⟨_, hT2, rfl, _, rfl⟩⟩
      exact .cons ⟨_, rfl⟩ (.cons ru .nil)
    have I1 : Inv X pins σ (upd H s.heap.objs.size (.frz { cls := .type "tuple", data := .seq #[.int i tk, x1] } (.tup [.int (i : Nat), x]))) { s with heap := g2, toks := tk + 1 } :=
      I.turnedNew (ch := [e, it]) (fun c o hb q => (sb.2 c fun z => hb (by simp [z])).trans (kp c o (fun z => hb (by simp [z])) (fun z => hb (by simp [z])) q)) hf (Nat.le_refl _) nw
    refine ⟨.ref s.heap.objs.size, _, I1, rfl, ⟨_, x, _, rfl, I.hok.fresh (Nat.le_refl _), ⟨rfl, rfl⟩, rfl, fun ys hy => by rw [seqB_inj I hy hq]; exact hx⟩, ⟨⟨x1, ?_⟩, st1.1.at fun o q => (sb.2 it hne.symm).trans q, hne⟩, fun c hc => ?_⟩
    · have e1 : ((i + 1 : Nat) : Int) = (i : Int) + 1 := by omega
      rw [e1]
      exact he2
    · have : c < s.heap.objs.size := by
        rcases List.mem_cons.mp hc with z | z
        · rw [z]; exact hel
        · rw [show c = it by simpa using z]; exact hil
      rw [upd_ne (Nat.ne_of_lt this)]
      exact (hf c hc).1
  done := by
    intro X eP ew eK hc i pins s σ H E I hf st hg
    subst eP ew eK
    obtain ⟨⟨old, he⟩, hi, hne⟩ := st
    obtain ⟨xs, hq, hx⟩ := hg
    obtain ⟨its, rv, p, _⟩ := seqB I hq
    obtain ⟨f0, f1, f2, f3, f4, f5⟩ := hf it (by simp)
    have hl : its.toArray.size = i := by rw [List.size_toArray, ← rv.length, hx]
    exact wpAny_pyNext_enum_endD (drawsB (A := X.A.in1) b (I.ok.hd hc) it a hia its.toArray) he (by rw [hl]; exact ⟨hi, p⟩) fun g eb => ⟨rfl, I.turned (t' := s.toks) (fun c o hb q => eb c o hb q) f0 f1 f3 f4 f5⟩
  self := fun A i s Q E st h => by
    obtain ⟨⟨_, he⟩, _⟩ := st
    exact wpAny_pyIter_enum he h
def iEnumB (K : PySem.W.Frag) (ta : TA) : TI := fun σ H R => ta σ H fun vs H1 => ∃ b a xs, vs = [.ref a] ∧ SqB K b H1 a xs ∧ R (IteB K b a) H1
theorem pi_enumB {X : Cx} {e : Expr} {ta : TA} {p pos tp : Pos} {elts : List Expr} {kk : Nat} (hg : Gl X "enumerate") (hm : X.mg "enumerate" = none) (ha : PA X [e] ta) (hs : starEach [e] X.env = [(false, eval e X.env)] := by rfl) :
    PI X (.Tuple elts kk tp) (.Call (.Name "enumerate" p) [e] [] pos) (iEnumB X.K ta) := by
  constructor
  intro pins s σ H R I h
  refine Call_ (ld_blt I hg hm boot_enumerate (PyProof.Rows.callWith_type1 (thn (ha.run pos pins s σ H _ I h) fun us s1 q => ?_) hs rfl))
  obtain ⟨vs, H1, I1, r1, b, a, xs, rfl, hq, k⟩ := q
  cases r1 with
  | cons r rr =>
    cases rr
    cases r
    obtain ⟨its, rv, p', al⟩ := seqB I1 hq
    refine enum1 (beginsB b a its.toArray) p' fun g he hi kp => wpAny_pyIter_enum he ?_
    have I2 : Inv X pins σ H1 { s1 with heap := g } := I1.kept (t' := s1.toks) kp
    refine ⟨s1.heap.objs.size + 1, [s1.heap.objs.size + 1, s1.heap.objs.size], _, _, H1, rfl, I2, turnE b a (s1.heap.objs.size + 1) s1.heap.objs.size (Nat.ne_of_gt (Nat.lt_succ_of_lt al)) (Nat.ne_of_lt al), ⟨⟨.none, he⟩, itB_new hi, Nat.succ_ne_self _⟩, fun c hc => ?_, k⟩
    have hle : s1.heap.objs.size ≤ c := by
      rcases List.mem_cons.mp hc with z | z
      · exact Nat.le_of_lt (Nat.lt_of_lt_of_eq (Nat.lt_succ_self _) z.symm)
      · exact Nat.le_of_eq (List.mem_singleton.mp z).symm
    exact I1.fpOk hle (I1.hok.fresh hle)

/-! ### zip -/
def ItzB (K : PySem.W.Frag) (b1 b2 : Bool) (a1 a2 : Addr) : It :=
  ⟨fun i H => ∃ (xs ys : List V) (x y : V), SqB K b1 H a1 xs ∧ SqB K b2 H a2 ys ∧ xs[i]? = some x ∧ ys[i]? = some y,
    fun i H v H' => ∃ T x y o, v = .ref T ∧ H T = none ∧ DL.PlainT o ∧ H' = upd H T (.frz o (.tup [x, y])) ∧ (∀ xs, SqB K b1 H a1 xs → xs[i]? = some x) ∧ ∀ ys, SqB K b2 H a2 ys → ys[i]? = some y,
    fun i H => ∃ xs ys : List V, SqB K b1 H a1 xs ∧ SqB K b2 H a2 ys ∧ i ≤ xs.length ∧ i ≤ ys.length ∧ (i = xs.length ∨ i = ys.length)⟩
theorem sep5 {n a1 a2 : Nat} (h1 : a1 < n) (h2 : a2 < n) : ZipSep2 (n + 4) (n + 2) (n + 3) n (n + 1) [n, a1] [n + 1, a2] := by
  constructor <;> first
    | (show ¬ @Eq Nat _ _; omega)
    | (show ¬ @Membership.mem Nat (List Nat) _ _ _; simp; omega)
    | (show @Membership.mem Nat (List Nat) _ _ _; simp)
theorem mem5 {n c : Nat} (h : c ∈ [n + 4, n + 2, n + 3, n, n + 1]) : n ≤ c := by
  simp only [List.mem_cons, List.not_mem_nil, or_false] at h
  omega
theorem turnZ {P : Program} {w : World} {K : PySem.W.Frag} {elts : List Expr} {kk : Nat} {tp : Pos} (b1 b2 : Bool) {a1 a2 z TI TO i1 i2 : Addr} (S : ZipSep2 z TI TO i1 i2 [i1, a1] [i2, a2]) (n1 : a1 ≠ i1) (n2 : a2 ≠ i2) :
    Turn P w K (.Tuple elts kk tp) (ItzB K b1 b2 a1 a2) [z, TI, TO, i1, i2] z (fun i h => IsZip h z TI TO .none ∧ IsTupOf2 h TI (.ref i1) (.ref i2) ∧ (∃ x y, IsTupOf2 h TO x y) ∧ ItB b1 h i1 a1 i ∧ ItB b2 h i2 a2 i) where
  mem := List.mem_cons_self ..
  obj := fun i h st c hc => by
    obtain ⟨hz, hTI, ⟨x, y, hTO⟩, h1, h2⟩ := st
    simp only [List.mem_cons, List.not_mem_nil, or_false] at hc
    rcases hc with q | q | q | q | q
    · subst q; exact ⟨_, hz, fun v q => nomatch q⟩
    · subst q; exact ⟨_, hTI, fun v q => nomatch q⟩
    · subst q; exact ⟨_, hTO, fun v q => nomatch q⟩
    · subst q; exact h1.obj
    · subst q; exact h2.obj
  keep := fun i h h' ⟨hz, hTI, ⟨x, y, hTO⟩, h1, h2⟩ k => ⟨k z (by simp) _ hz, k TI (by simp) _ hTI, ⟨x, y, k TO (by simp) _ hTO⟩, h1.at fun o q => k i1 (by simp) o q, h2.at fun o q => k i2 (by simp) o q⟩
  item := by
    intro X eP ew eK hc i pins s σ H E I hf st hg
    subst eP ew eK
    obtain ⟨hz, hTI, ⟨x0, y0, hTO⟩, h1, h2⟩ := st
    obtain ⟨xs, ys, x, y, hqx, hqy, hx, hy⟩ := hg
    obtain ⟨its, rv, p, _⟩ := seqB I hqx
    obtain ⟨its2, rv2, p2, _⟩ := seqB I hqy
    obtain ⟨u, hu, ru⟩ := rv.get hx
    obtain ⟨u2, hu2, ru2⟩ := rv2.get hy
    have l1 : i < its.toArray.size := by simpa using (List.getElem?_eq_some_iff.mp hu).1
    have l2 : i < its2.toArray.size := by simpa using (List.getElem?_eq_some_iff.mp hu2).1
    have hzl : z < s.heap.objs.size := Heap.lt_size hz
    have m1 : i1 < s.heap.objs.size := by
      obtain ⟨o, q, _⟩ := h1.obj
      exact Heap.lt_size q
    have m2 : i2 < s.heap.objs.size := by
      obtain ⟨o, q, _⟩ := h2.obj
      exact Heap.lt_size q
    refine wpAny_pyNext_zipD2_item S (drawsB (A := X.A.in1) b1 (I.ok.hd hc) i1 a1 n1 its.toArray) (drawsB (A := X.A.in1) b2 (I.ok.hd hc) i2 a2 n2 its2.toArray) hz hTI hTO ⟨h1, p⟩ ⟨h2, p2⟩ l1 l2
      fun x1 x2 g tk e1 e2 z' TO' st1 st2 hT hsz kp => ?_
    have ex1 : x1 = u := (Option.some.inj (show some u = some x1 by rw [← hu]; simpa using e1)).symm
    have ex2 : x2 = u2 := (Option.some.inj (show some u2 = some x2 by rw [← hu2]; simpa using e2)).symm
    subst ex1 ex2
    refine ⟨_, rfl, wpAny_letOwnedTupleGo_zip (s := { s with heap := g, toks := tk }) z' fun g2 z2 sb => ?_⟩
    have hT2 : g2.get? s.heap.objs.size = some { cls := .type "tuple", data := .seq #[x1, x2] } := (sb.2 _ (Nat.ne_of_gt hzl)).trans hT
    have nw : ObjOk X.prog X.w (upd H s.heap.objs.size (.frz { cls := .type "tuple", data := .seq #[x1, x2] } (.tup [x, y]))) g2 s.heap.objs.size (.frz { cls := .type "tuple", data := .seq #[x1, x2] } (.tup [x, y])) := by
      refine ⟨hT2, by show 2 ≤ sizeLine; decide, [x1, x2], ?_, ⟨_, hT2, rfl, _, rfl⟩⟩
      exact .cons ru (.cons ru2 .nil)
    have I1 : Inv X pins σ (upd H s.heap.objs.size (.frz { cls := .type "tuple", data := .seq #[x1, x2] } (.tup [x, y]))) { s with heap := g2, toks := tk } :=
      I.turnedNew (t' := tk) (ch := [z, TI, TO, i1, i2]) (fun c o hb q => (sb.2 c fun q' => hb (by simp [q'])).trans (kp c o (fun q' => hb (by simp [q'])) (fun q' => hb (by simp [q'])) (fun q' => hb (by simp [q'])) (fun q' => hb (by simp [q'])) q)) hf (Nat.le_refl _) nw
    refine ⟨.ref s.heap.objs.size, _, I1, rfl, ⟨_, x, y, _, rfl, I.hok.fresh (Nat.le_refl _), ⟨rfl, rfl⟩, rfl, fun l hl => by rw [seqB_inj I hl hqx]; exact hx, fun l hl => by rw [seqB_inj I hl hqy]; exact hy⟩, ⟨z2, ?_, ⟨x1, x2, ?_⟩, ?_, ?_⟩, fun c hcm => ?_⟩
    · exact (sb.2 _ S.TIz).trans (kp _ _ S.TIz S.TITO S.TIi1 S.TIi2 hTI)
    · exact (sb.2 _ S.TOz).trans TO'
    · exact st1.1.at fun o q => (sb.2 _ S.zi1.symm).trans q
    · exact st2.1.at fun o q => (sb.2 _ S.zi2.symm).trans q
    · have : c < s.heap.objs.size := by
        have hcm' := hcm
        simp only [List.mem_cons, List.not_mem_nil, or_false] at hcm'
        rcases hcm' with q | q | q | q | q
        · rw [q]; exact hzl
        · rw [q]; exact Heap.lt_size hTI
        · rw [q]; exact Heap.lt_size hTO
        · rw [q]; exact m1
        · rw [q]; exact m2
      rw [upd_ne (Nat.ne_of_lt this)]
      exact (hf c hcm).1
  done := by
    intro X eP ew eK hc i pins s σ H E I hf st hg
    subst eP ew eK
    obtain ⟨hz, hTI, ⟨x0, y0, hTO⟩, h1, h2⟩ := st
    obtain ⟨xs, ys, hqx, hqy, hl1, hl2, hend⟩ := hg
    obtain ⟨its, rv, p, _⟩ := seqB I hqx
    obtain ⟨its2, rv2, p2, _⟩ := seqB I hqy
    have s1 : its.toArray.size = xs.length := by rw [List.size_toArray, ← rv.length]
    have s2 : its2.toArray.size = ys.length := by rw [List.size_toArray, ← rv2.length]
    exact wpAny_pyNext_zipD2_end S (drawsB (A := X.A.in1) b1 (I.ok.hd hc) i1 a1 n1 its.toArray) (drawsB (A := X.A.in1) b2 (I.ok.hd hc) i2 a2 n2 its2.toArray) hz hTI hTO ⟨h1, p⟩ ⟨h2, p2⟩ (by rw [s1]; exact hl1) (by rw [s2]; exact hl2) (by rw [s1, s2]; exact hend)
      fun g tk kp => ⟨rfl, I.turnedL (t' := tk) (ch := [z, TI, TO, i1, i2]) (fun c o hb q => kp c o (fun q' => hb (by simp [q'])) (fun q' => hb (by simp [q'])) (fun q' => hb (by simp [q'])) (fun q' => hb (by simp [q'])) q) hf⟩
  self := fun A i s Q E st h => wpAny_pyIter_zip st.1 h
def iZipB (K : PySem.W.Frag) (ta : TA) : TI := fun σ H R => ta σ H fun vs H1 => ∃ b1 b2 a1 a2 xs ys, vs = [.ref a1, .ref a2] ∧ SqB K b1 H1 a1 xs ∧ SqB K b2 H1 a2 ys ∧ R (ItzB K b1 b2 a1 a2) H1
theorem pi_zipB {X : Cx} {e e2 : Expr} {ta : TA} {p pos tp : Pos} {elts : List Expr} {kk : Nat} (hg : Gl X "zip") (hm : X.mg "zip" = none) (ha : PA X [e, e2] ta)
    (hs : starEach [e, e2] X.env = (false, eval e X.env) :: starEach [e2] X.env := by rfl) (hpl : (backTo pos (starEach [e2] X.env)).any (·.1) = false := by rfl) :
    PI X (.Tuple elts kk tp) (.Call (.Name "zip" p) [e, e2] [] pos) (iZipB X.K ta) := by
  constructor
  intro pins s σ H R I h
  refine Call_ (ld_blt I hg hm PyProof.Rows.boot_zip (PyProof.Rows.callWith_type1 (thn (ha.run pos pins s σ H _ I h) fun us s1 q => ?_) hs hpl))
  obtain ⟨vs, H1, I1, r1, b1, b2, a1, a2, xs, ys, rfl, hqx, hqy, k⟩ := q
  cases r1 with
  | cons r rr =>
    cases rr with
    | cons r' rr =>
      cases rr
      cases r
      cases r'
      obtain ⟨its, rv, p1, la⟩ := seqB I1 hqx
      obtain ⟨its2, rv2, p2, lb⟩ := seqB I1 hqy
      refine zip_begins2 (beginsB b1 a1 its.toArray) (beginsB b2 a2 its2.toArray) p1 p2 fun g hz hTI hTO h1 h2 hsz kp => wpAny_pyIter_zip hz ?_
      have I2 : Inv X pins σ H1 { s1 with heap := g } := I1.kept (t' := s1.toks) kp
      have S : ZipSep2 (s1.heap.objs.size + 4) (s1.heap.objs.size + 2) (s1.heap.objs.size + 3) s1.heap.objs.size (s1.heap.objs.size + 1) [s1.heap.objs.size, a1] [s1.heap.objs.size + 1, a2] := sep5 la lb
      refine ⟨s1.heap.objs.size + 4, [s1.heap.objs.size + 4, s1.heap.objs.size + 2, s1.heap.objs.size + 3, s1.heap.objs.size, s1.heap.objs.size + 1], _, _, H1, rfl, I2, turnZ b1 b2 S (Nat.ne_of_lt la) (Nat.ne_of_lt (Nat.lt_succ_of_lt lb)), ⟨hz, hTI, ⟨_, _, hTO⟩, itB_new h1, itB_new h2⟩, fun c hcm => ?_, k⟩
      have hle : s1.heap.objs.size ≤ c := mem5 hcm
      exact I1.fpOk hle (I1.hok.fresh hle)
end ZE
namespace DL
open PySem PySem.Spec PyProof.Rows L2 LamX

abbrev TL := List Addr
/-- tables whose code objects bear their names -/
def Tabs (T : TL) (H : Hp) : Prop := ∀ P ∈ T, TabS H P (nameAt P)
theorem Tabs.ext {T : TL} {H H' : Hp} (t : Tabs T H) (e : ∀ b o, H b = some o → H' b = some o) : Tabs T H' := fun p hp => (t p hp).ext e
/-- the frozen part of the heap, and the tables of code objects -/
structure Fg where
  K : PySem.W.Frag
  T : TL
instance : Coe Fg PySem.W.Frag := ⟨Fg.K⟩
@[reducible] def _root_.L2.Cx.D (X : Cx) (T : TL) : Fg := ⟨X.K, T⟩
def TupD (H : Hp) (a : Addr) (xs : List V) : Prop := ∃ o, H a = some (.frz o (.tup xs)) ∧ PlainT o
theorem TupD.sq {K : PySem.W.Frag} {H : Hp} {a : Addr} {xs : List V} (h : TupD H a xs) : SqT K H a xs := by
  obtain ⟨o, h, _⟩ := h
  exact .inl (.inr ⟨o, h⟩)

def keyD : Key → PyData
  | .inl i => .int i
  | .inr x => .str x

mutual
/-- v is the data d in the heap H; no list or dict of it stands in W -/
inductive Dq (K : Fg) (H : Hp) (W : List Addr) : V → PyData → Prop
  | non : Dq K H W .non .none
  | bl (b : Bool) : Dq K H W (.bl b) (.bool b)
  | int (i : Int) : Dq K H W (.int i) (.int i)
  | str (x : Str) : Dq K H W (.str x) (.str x)
  | lst {a : Addr} {xs : List V} {ds : List PyData} : a ∉ W → H a = some (.lst xs) → DqA K H W xs ds → Dq K H W (.ref a) (.list ds)
  | tup {a : Addr} {xs : List V} {ds : List PyData} : TupD H a xs → DqA K H W xs ds → Dq K H W (.ref a) (.tuple ds)
  | dic {a : Addr} {kvs : List (Key × V)} {ds : List (PyData × PyData)} : a ∉ W → H a = some (.dK kvs) → DqK K H W kvs ds → Dq K H W (.ref a) (.dict ds)
inductive DqA (K : Fg) (H : Hp) (W : List Addr) : List V → List PyData → Prop
  | nil : DqA K H W [] []
  | cons {v : V} {d : PyData} {vs : List V} {ds : List PyData} : Dq K H W v d → DqA K H W vs ds → DqA K H W (v :: vs) (d :: ds)
inductive DqK (K : Fg) (H : Hp) (W : List Addr) : List (Key × V) → List (PyData × PyData) → Prop
  | nil : DqK K H W [] []
  | cons {k : Key} {v : V} {d : PyData} {vs : List (Key × V)} {ds : List (PyData × PyData)} : Dq K H W v d → DqK K H W vs ds → DqK K H W ((k, v) :: vs) ((keyD k, d) :: ds)
end

/-- what stands at the addresses outside M stays -/
structure Keep (M : List Addr) (H H' : Hp) : Prop where
  old : ∀ b o, H b = some o → b ∉ M → (∀ ps, o ≠ .tbl ps) → H' b = some o
  tab : ∀ T, Tabs T H → Tabs T H'
  nn : ∀ a, H a ≠ none → H' a ≠ none
theorem Keep.at {M : List Addr} {H H' : Hp} (k : Keep M H H') {b : Addr} {o : HO} (e : H b = some o) (hb : b ∉ M) (ho : ∀ ps, o ≠ .tbl ps := by intro _ z; cases z) : H' b = some o := k.old b o e hb ho
theorem TabS.extB {H H' : Hp} {P : Addr} {q : Str} (t : TabS H P q) (e : ∀ b o, H b = some o → ((∃ ps, o = .tbl ps) ∨ ∃ c q, o = CodeO c q) → H' b = some o) : TabS H' P q := by
  obtain ⟨ps, h1, h2, h3⟩ := t
  refine ⟨ps, e _ _ h1 (.inl ⟨_, rfl⟩), h2, fun pos cv hc => ?_⟩
  obtain ⟨c, e1, e2⟩ := h3 pos cv hc
  exact ⟨c, e1, e _ _ e2 (.inr ⟨_, _, rfl⟩)⟩
def Lists (H : Hp) (M : List Addr) : Prop := ∀ a ∈ M, ∃ vs, H a = some (.lst vs)

theorem Rd.ne_none {H : Hp} {a : Addr} {u : HO} (h : Rd H a u) : H a ≠ none := by
  rcases h with h | ⟨o, h⟩ <;> rw [h] <;> exact fun e => nomatch e
theorem Rd.keep {H H' : Hp} {M : List Addr} {a : Addr} {u : HO} (hu : ∀ ps, u ≠ .tbl ps) (k : Keep M H H') (ha : a ∉ M) (h : Rd H a u) : Rd H' a u := by
  rcases h with h | ⟨o, h⟩
  · exact .inl (k.old _ _ h ha hu)
  · exact .inr ⟨o, k.at h ha⟩
theorem TupD.keep {H H' : Hp} {M : List Addr} (hM : Lists H M) (k : Keep M H H') {a : Addr} {xs : List V} (h : TupD H a xs) : TupD H' a xs := by
  obtain ⟨o, h, p⟩ := h
  refine ⟨o, k.at h fun hm => ?_, p⟩
  obtain ⟨vs, e⟩ := hM a hm
  rw [h] at e; cases e
theorem SqT.keep {K : PySem.W.Frag} {H H' : Hp} {M : List Addr} (hM : Lists H M) (k : Keep M H H') {a : Addr} {xs : List V} (h : SqT K H a xs) : SqT K H' a xs := by
  rcases h with (h | ⟨o, h⟩) | h
  · refine .inl (.inl (k.at h fun hm => ?_))
    obtain ⟨vs, e⟩ := hM a hm
    rw [h] at e; cases e
  · refine .inl (.inr ⟨o, k.at h fun hm => ?_⟩)
    obtain ⟨vs, e⟩ := hM a hm
    rw [h] at e; cases e
  · exact .inr h

section
variable {K : Fg} {H H' : Hp} {W W' M : List Addr}
mutual
/-- the heap turns outside of what is read; other addresses are shut out -/
theorem Dq.move (hM : Lists H M) (hW : ∀ a ∈ M, a ∈ W) (k : Keep M H H') (hw : ∀ a ∈ W', a ∈ W ∨ H a = none) : ∀ {v : V} {d : PyData}, Dq K H W v d → Dq K H' W' v d
  | _, _, .non => .non
  | _, _, .bl b => .bl b
  | _, _, .int i => .int i
  | _, _, .str x => .str x
  | _, _, .lst h1 h2 h3 => .lst (fun hm => (hw _ hm).elim h1 (fun e => by rw [h2] at e; cases e)) (k.at h2 fun hm => h1 (hW _ hm)) (DqA.move hM hW k hw h3)
  | _, _, .tup h2 h3 => .tup (TupD.keep hM k h2) (DqA.move hM hW k hw h3)
  | _, _, .dic h1 h2 h3 => .dic (fun hm => (hw _ hm).elim h1 (fun e => by rw [h2] at e; cases e)) (k.at h2 fun hm => h1 (hW _ hm)) (DqK.move hM hW k hw h3)
theorem DqA.move (hM : Lists H M) (hW : ∀ a ∈ M, a ∈ W) (k : Keep M H H') (hw : ∀ a ∈ W', a ∈ W ∨ H a = none) : ∀ {v : List V} {d : List PyData}, DqA K H W v d → DqA K H' W' v d
  | _, _, .nil => .nil
  | _, _, .cons h1 h2 => .cons (Dq.move hM hW k hw h1) (DqA.move hM hW k hw h2)
theorem DqK.move (hM : Lists H M) (hW : ∀ a ∈ M, a ∈ W) (k : Keep M H H') (hw : ∀ a ∈ W', a ∈ W ∨ H a = none) : ∀ {v : List (Key × V)} {d : List (PyData × PyData)}, DqK K H W v d → DqK K H' W' v d
  | _, _, .nil => .nil
  | _, _, .cons h1 h2 => .cons (Dq.move hM hW k hw h1) (DqK.move hM hW k hw h2)
end
theorem keep_refl : Keep M H H := ⟨fun _ _ h _ _ => h, fun _ h => h, fun _ h => h⟩
theorem lists_nil : Lists H [] := fun _ h => nomatch h
theorem Dq.sub (hw : ∀ a ∈ W', a ∈ W) {v : V} {d : PyData} (h : Dq K H W v d) : Dq K H W' v d := h.move (M := []) lists_nil (fun _ z => nomatch z) keep_refl fun a z => .inl (hw a z)
theorem DqA.sub (hw : ∀ a ∈ W', a ∈ W) {v : List V} {d : List PyData} (h : DqA K H W v d) : DqA K H W' v d := h.move (M := []) lists_nil (fun _ z => nomatch z) keep_refl fun a z => .inl (hw a z)
theorem Dq.subN (hw : ∀ a ∈ W', a ∈ W ∨ H a = none) {v : V} {d : PyData} (h : Dq K H W v d) : Dq K H W' v d := h.move (M := []) lists_nil (fun _ z => nomatch z) keep_refl hw
theorem DqA.subN (hw : ∀ a ∈ W', a ∈ W ∨ H a = none) {v : List V} {d : List PyData} (h : DqA K H W v d) : DqA K H W' v d := h.move (M := []) lists_nil (fun _ z => nomatch z) keep_refl hw
theorem DqA.length : ∀ {vs : List V} {ds : List PyData}, DqA K H W vs ds → vs.length = ds.length
  | _, _, .nil => rfl
  | _, _, .cons _ h => by rw [List.length_cons, List.length_cons, h.length]
theorem DqA.append : ∀ {vs ws : List V} {ds es : List PyData}, DqA K H W vs ds → DqA K H W ws es → DqA K H W (vs ++ ws) (ds ++ es)
  | _, _, _, _, .nil, h => h
  | _, _, _, _, .cons h1 h2, h => .cons h1 (h2.append h)
theorem DqA.get : ∀ {vs : List V} {ds : List PyData} {i : Nat} {d : PyData}, DqA K H W vs ds → ds[i]? = some d → ∃ v, vs[i]? = some v ∧ Dq K H W v d
  | _, _, _, _, .nil, e => by simp at e
  | _, _, 0, _, .cons h1 h2, e => by
    simp at e; subst e
    exact ⟨_, rfl, h1⟩
  | _, _, i + 1, _, .cons h1 h2, e => by
    obtain ⟨v, e1, h⟩ := DqA.get (i := i) h2 (by simpa using e)
    exact ⟨v, by simpa using e1, h⟩
theorem DqA.getV : ∀ {vs : List V} {ds : List PyData} {i : Nat} {v : V}, DqA K H W vs ds → vs[i]? = some v → ∃ d, ds[i]? = some d ∧ Dq K H W v d
  | _, _, _, _, .nil, e => by simp at e
  | _, _, 0, _, .cons h1 h2, e => by
    simp at e; subst e
    exact ⟨_, rfl, h1⟩
  | _, _, i + 1, _, .cons h1 h2, e => by
    obtain ⟨v, e1, h⟩ := DqA.getV (i := i) h2 (by simpa using e)
    exact ⟨v, by simpa using e1, h⟩
theorem DqA.take : ∀ {vs : List V} {ds : List PyData} (n : Nat), DqA K H W vs ds → DqA K H W (vs.take n) (ds.take n)
  | _, _, 0, _ => .nil
  | _, _, _ + 1, .nil => .nil
  | _, _, n + 1, .cons h1 h2 => .cons h1 (DqA.take n h2)
theorem DqA.drop : ∀ {vs : List V} {ds : List PyData} (n : Nat), DqA K H W vs ds → DqA K H W (vs.drop n) (ds.drop n)
  | _, _, 0, h => h
  | _, _, _ + 1, .nil => .nil
  | _, _, n + 1, .cons h1 h2 => DqA.drop n h2
theorem DqA.set {v : V} {d : PyData} (h : Dq K H W v d) : ∀ {vs : List V} {ds : List PyData} (n : Nat), DqA K H W vs ds → DqA K H W (vs.set n v) (ds.set n d)
  | _, _, _, .nil => .nil
  | _, _, 0, .cons h1 h2 => .cons h h2
  | _, _, n + 1, .cons h1 h2 => .cons h1 (DqA.set h n h2)
theorem DqA.ints : ∀ {vs : List V} {ns : List Int}, DqA K H W vs (ns.map .int) → vs = ns.map V.int
  | _, [], h => by cases h; rfl
  | _, n :: ns, h => by
    cases h with
    | cons h1 h2 =>
      cases h1
      rw [DqA.ints h2]; rfl
theorem DqA.of_ints : ∀ (ns : List Int), DqA K H W (ns.map V.int) (ns.map .int)
  | [] => .nil
  | n :: ns => .cons (.int n) (DqA.of_ints ns)
end

/-! ### the state -/
/-- a slot: nothing known; closed data; an open list of this frame; an open list handed in -/
inductive Cell where
  | no | cl (d : PyData) | op (ds : List PyData) | pm (ds : List PyData)
def Cell.isOpen : Cell → Bool
  | .op _ | .pm _ => true
  | _ => false
def CellOk (K : Fg) (P B L : List Addr) (H : Hp) (o : Option (Option V)) : Cell → Prop
  | .no => True
  | .cl d => ∃ v, o = some (some v) ∧ Dq K H (P ++ B ++ L) v d
  | .op ds => ∃ a vs, o = some (some (.ref a)) ∧ a ∈ L ∧ H a = some (.lst vs) ∧ DqA K H (P ++ B ++ L) vs ds
  | .pm ds => ∃ a vs, o = some (some (.ref a)) ∧ a ∈ B ∧ H a = some (.lst vs) ∧ DqA K H (P ++ B ++ L) vs ds
abbrev Env := List Cell
structure Rep (K : Fg) (P B L : List Addr) (σ : L2.St) (ρ : DL.Env) (H : Hp) : Prop where
  len : σ.length = ρ.length
  wl : Lists H (P ++ B ++ L)
  nd : (∀ a ∈ P, a ∉ B ∧ a ∉ L) ∧ ∀ a ∈ B, a ∉ L
  ok : ∀ i, CellOk K P B L H σ[i]? (ρ.getD i .no)
  inj : ∀ i j (a : Addr), i ≠ j → (ρ.getD i .no).isOpen = true → (ρ.getD j .no).isOpen = true → σ[i]? = some (some (V.ref a)) → σ[j]? = some (some (V.ref a)) → False
  tabs : Tabs K.T H
structure Step (B L : List Addr) (H : Hp) (L' : List Addr) (H' : Hp) : Prop where
  keep : Keep (B ++ L) H H'
  lsub : ∀ a ∈ L', a ∈ L ∨ H a = none
  ne : ∀ a, H a ≠ none → H' a ≠ none
theorem Step.refl {B L : List Addr} {H : Hp} : Step B L H L H := ⟨keep_refl, fun _ h => .inl h, fun _ h => h⟩
theorem Step.trans {B L L1 L2 : List Addr} {H H1 H2 : Hp} (a : Step B L H L1 H1) (b : Step B L1 H1 L2 H2) : Step B L H L2 H2 where
  keep := by
    refine ⟨fun c o e hm ho => ?_, fun T t => b.keep.tab T (a.keep.tab T t), fun c h => b.ne c (a.ne c h)⟩
    refine b.keep.old c o (a.keep.old c o e hm ho) (fun hm' => hm ?_) ho
    rcases List.mem_append.mp hm' with h | h
    · exact List.mem_append_left _ h
    · rcases a.lsub c h with h | h
      · exact List.mem_append_right _ h
      · rw [e] at h; cases h
  lsub := fun c hc => by
    rcases b.lsub c hc with h | h
    · exact a.lsub c h
    · right
      cases e : H c with
      | none => rfl
      | some o => exact absurd h (a.ne c (by rw [e]; exact fun z => nomatch z))
  ne := fun c h => b.ne c (a.ne c h)
theorem Step.of_same {B L : List Addr} {H H' : Hp} (k : Keep [] H H') : Step B L H L H' := ⟨⟨fun b o e _ ho => k.old b o e (fun z => nomatch z) ho, k.tab, k.nn⟩, fun _ h => .inl h, k.nn⟩
theorem Keep.mono {M M' : List Addr} {H H' : Hp} (k : Keep M H H') (h : ∀ a ∈ M, a ∈ M') : Keep M' H H' := ⟨fun b o e hm ho => k.old b o e (fun z => hm (h b z)) ho, k.tab, k.nn⟩
theorem Keep.new {H : Hp} {p : Addr} {o : HO} (hp : H p = none) : Keep [] H (upd H p o) := ⟨fun b u e _ _ => by
  rw [upd_ne (ne_of_none e hp)]; exact e, fun T t => t.ext fun b u e => by
  rw [upd_ne (ne_of_none e hp)]; exact e, fun b h => by
  by_cases q : b = p
  · subst q; exact absurd hp h
  · rw [upd_ne q]; exact h⟩
theorem Keep.tr {H H1 H2 : Hp} (a : Keep [] H H1) (b : Keep [] H1 H2) : Keep [] H H2 := ⟨fun c o e z ho => b.old c o (a.old c o e z ho) z ho, fun T t => b.tab T (a.tab T t), fun c h => b.nn c (a.nn c h)⟩

section
variable {K : Fg} {P B L E : List Addr} {σ : L2.St} {ρ : DL.Env} {H H' : Hp}
theorem mem3 {a : Addr} {P B L : List Addr} : a ∈ P ++ B ++ L ↔ a ∈ P ∨ a ∈ B ∨ a ∈ L := by
  rw [List.mem_append, List.mem_append, or_assoc]
/-- the heap grows; new lists are shut out -/
theorem Rep.move (R : Rep K P B L σ ρ H) (k : Keep [] H H') (he : ∀ a ∈ E, H a = none ∧ ∃ vs, H' a = some (.lst vs)) : Rep K (E ++ P) B L σ ρ H' := by
  have hw : ∀ a ∈ (E ++ P) ++ B ++ L, a ∈ P ++ B ++ L ∨ H a = none := fun a h => by
    rcases mem3.mp h with h | h | h
    · rcases List.mem_append.mp h with h | h
      · exact .inr (he a h).1
      · exact .inl (mem3.mpr (.inl h))
    · exact .inl (mem3.mpr (.inr (.inl h)))
    · exact .inl (mem3.mpr (.inr (.inr h)))
  have mv : ∀ {v : V} {d : PyData}, Dq K H (P ++ B ++ L) v d → Dq K H' ((E ++ P) ++ B ++ L) v d := fun h => h.move lists_nil (fun _ z => nomatch z) k hw
  have mvA : ∀ {v : List V} {d : List PyData}, DqA K H (P ++ B ++ L) v d → DqA K H' ((E ++ P) ++ B ++ L) v d := fun h => h.move lists_nil (fun _ z => nomatch z) k hw
  have ne : ∀ a, a ∈ E → a ∉ P ++ B ++ L := fun a h hm => by
    obtain ⟨vs, e⟩ := R.wl a hm
    rw [(he a h).1] at e; cases e
  refine ⟨R.len, fun a h => ?_, ⟨fun a h => ?_, R.nd.2⟩, fun i => ?_, R.inj, k.tab _ R.tabs⟩
  · rcases mem3.mp h with h | h | h
    · rcases List.mem_append.mp h with h | h
      · exact (he a h).2
      · obtain ⟨vs, e⟩ := R.wl a (mem3.mpr (.inl h))
        exact ⟨vs, k.at e (fun z => nomatch z)⟩
    · obtain ⟨vs, e⟩ := R.wl a (mem3.mpr (.inr (.inl h)))
      exact ⟨vs, k.at e (fun z => nomatch z)⟩
    · obtain ⟨vs, e⟩ := R.wl a (mem3.mpr (.inr (.inr h)))
      exact ⟨vs, k.at e (fun z => nomatch z)⟩
  · rcases List.mem_append.mp h with h | h
    · exact ⟨fun z => ne a h (mem3.mpr (.inr (.inl z))), fun z => ne a h (mem3.mpr (.inr (.inr z)))⟩
    · exact R.nd.1 a h
  · have q := R.ok i
    revert q
    generalize ρ.getD i .no = c
    intro q
    cases c with
    | no => trivial
    | cl d => obtain ⟨v, e, h⟩ := q; exact ⟨v, e, mv h⟩
    | op ds => obtain ⟨a, vs, e, hm, hh, h⟩ := q; exact ⟨a, vs, e, hm, k.at hh (fun z => nomatch z), mvA h⟩
    | pm ds => obtain ⟨a, vs, e, hm, hh, h⟩ := q; exact ⟨a, vs, e, hm, k.at hh (fun z => nomatch z), mvA h⟩
theorem Rep.same (R : Rep K P B L σ ρ H) (k : Keep [] H H') : Rep K P B L σ ρ H' := R.move (E := []) k (fun _ z => nomatch z)
theorem Rep.drop (R : Rep K (E ++ P) B L σ ρ H) : Rep K P B L σ ρ H := by
  have hs : ∀ a ∈ P ++ B ++ L, a ∈ (E ++ P) ++ B ++ L := fun a h => by
    rcases mem3.mp h with h | h | h
    · exact mem3.mpr (.inl (List.mem_append_right _ h))
    · exact mem3.mpr (.inr (.inl h))
    · exact mem3.mpr (.inr (.inr h))
  refine ⟨R.len, fun a h => R.wl a (hs a h), ⟨fun a h => R.nd.1 a (List.mem_append_right _ h), R.nd.2⟩, fun i => ?_, R.inj, R.tabs⟩
  have q := R.ok i
  revert q
  generalize ρ.getD i .no = c
  intro q
  cases c with
  | no => trivial
  | cl d => obtain ⟨v, e, h⟩ := q; exact ⟨v, e, h.sub hs⟩
  | op ds => obtain ⟨a, vs, e, hm, hh, h⟩ := q; exact ⟨a, vs, e, hm, hh, h.sub hs⟩
  | pm ds => obtain ⟨a, vs, e, hm, hh, h⟩ := q; exact ⟨a, vs, e, hm, hh, h.sub hs⟩
theorem Rep.lb (R : Rep K P B L σ ρ H) : Lists H B := fun a h => R.wl a (mem3.mpr (.inr (.inl h)))
theorem Rep.lbl (R : Rep K P B L σ ρ H) : Lists H (B ++ L) := fun a h => R.wl a (mem3.mpr (.inr (List.mem_append.mp h)))
/-- closed data across a step -/
theorem Dq.step {L' : List Addr} (R : Rep K P B L σ ρ H) (s : Step B L H L' H') {v : V} {d : PyData} (h : Dq K H (P ++ B ++ L) v d) : Dq K H' (P ++ B ++ L') v d :=
  h.move R.lbl (fun a z => mem3.mpr (.inr (List.mem_append.mp z))) s.keep fun a z => by
    rcases mem3.mp z with z | z | z
    · exact .inl (mem3.mpr (.inl z))
    · exact .inl (mem3.mpr (.inr (.inl z)))
    · exact (s.lsub a z).imp (fun z => mem3.mpr (.inr (.inr z))) id
theorem DqA.step {L' : List Addr} (R : Rep K P B L σ ρ H) (s : Step B L H L' H') {v : List V} {d : List PyData} (h : DqA K H (P ++ B ++ L) v d) : DqA K H' (P ++ B ++ L') v d :=
  h.move R.lbl (fun a z => mem3.mpr (.inr (List.mem_append.mp z))) s.keep fun a z => by
    rcases mem3.mp z with z | z | z
    · exact .inl (mem3.mpr (.inl z))
    · exact .inl (mem3.mpr (.inr (.inl z)))
    · exact (s.lsub a z).imp (fun z => mem3.mpr (.inr (.inr z))) id
end

/-! ### values -/
/-- closed data; a list made just now, held by nobody; the open list of a slot -/
inductive Val where
  | cl (d : PyData) | own (ds : List PyData) | sl (i : Nat)
def VR (K : Fg) (E P B L : List Addr) (σ : L2.St) (H : Hp) (x : V) : Val → Prop
  | .cl d => Dq K H (E ++ P ++ B ++ L) x d
  | .own ds => ∃ a vs, x = V.ref a ∧ a ∈ E ∧ a ∉ P ∧ H a = some (.lst vs) ∧ DqA K H (E ++ P ++ B ++ L) vs ds
  | .sl i => σ[i]? = some (some x)
theorem app_assoc3 (E P B L : List Addr) : E ++ P ++ B ++ L = E ++ (P ++ B ++ L) := by simp
theorem mem4 {a : Addr} {E P B L : List Addr} : a ∈ E ++ P ++ B ++ L ↔ a ∈ E ∨ a ∈ P ∨ a ∈ B ∨ a ∈ L := by
  rw [app_assoc3, List.mem_append, mem3]
structure Post (K : Fg) (P B L : List Addr) (σ : L2.St) (H : Hp) (E : List Addr) (ρ' : DL.Env) (H' : Hp) (L' E' : List Addr) : Prop where
  rep : Rep K (E' ++ P) B L' σ ρ' H'
  step : Step B L H L' H'
  esub : ∀ a ∈ E', a ∈ E ∨ H a = none
section
variable {K : Fg} {P B L L' La Lb E E' E1 E2 : List Addr} {σ : L2.St} {ρ ρ' ρ1 ρ2 : DL.Env} {H H' H1 H2 : Hp} {x : V} {r : Val}
/-- what was reckoned first, behind what was reckoned then -/
theorem VR.later (R : Rep K (E1 ++ P) B La σ ρ1 H1) (p : Post K (E1 ++ P) B La σ H1 [] ρ2 H2 Lb E2) (h : VR K E1 P B La σ H1 x r) : VR K (E2 ++ E1) P B Lb σ H2 x r := by
  have hw : ∀ a ∈ (E2 ++ E1) ++ P ++ B ++ Lb, a ∈ E1 ++ P ++ B ++ La ∨ H1 a = none := fun a z => by
    rcases mem4.mp z with z | z | z | z
    · rcases List.mem_append.mp z with z | z
      · exact (p.esub a z).elim (fun q => nomatch q) .inr
      · exact .inl (mem4.mpr (.inl z))
    · exact .inl (mem4.mpr (.inr (.inl z)))
    · exact .inl (mem4.mpr (.inr (.inr (.inl z))))
    · exact (p.step.lsub a z).imp (fun q => mem4.mpr (.inr (.inr (.inr q)))) id
  have hM : ∀ a ∈ B ++ La, a ∈ E1 ++ P ++ B ++ La := fun a z => mem4.mpr (.inr (.inr (List.mem_append.mp z)))
  cases r with
  | cl d => exact Dq.move R.lbl hM p.step.keep hw h
  | own ds =>
    obtain ⟨a, vs, e, hm, hp, hh, h⟩ := h
    refine ⟨a, vs, e, List.mem_append_right _ hm, hp, p.step.keep.at hh fun z => ?_, DqA.move R.lbl hM p.step.keep hw h⟩
    have q := R.nd.1 a (List.mem_append_left _ hm)
    exact (List.mem_append.mp z).elim q.1 q.2
  | sl i => exact h
/-- what was reckoned last -/
theorem VR.last (R : Rep K (E1 ++ P) B La σ ρ1 H1) (h : VR K E2 (E1 ++ P) B Lb σ H2 x r) : VR K (E2 ++ E1) P B Lb σ H2 x r := by
  have ee : E2 ++ (E1 ++ P) ++ B ++ Lb = (E2 ++ E1) ++ P ++ B ++ Lb := by simp
  cases r with
  | cl d => exact (show Dq K H2 _ x d from ee ▸ (show Dq K H2 (E2 ++ (E1 ++ P) ++ B ++ Lb) x d from h))
  | own ds =>
    obtain ⟨a, vs, e, hm, hp, hh, h⟩ := h
    exact ⟨a, vs, e, List.mem_append_left _ hm, fun z => hp (List.mem_append_right _ z), hh, ee ▸ h⟩
  | sl i => exact h
theorem Post.two (p1 : Post K P B L σ H [] ρ1 H1 La E1) (p2 : Post K (E1 ++ P) B La σ H1 [] ρ2 H2 Lb E2) : Post K P B L σ H [] ρ2 H2 Lb (E2 ++ E1) where
  rep := by
    have ee : (E2 ++ E1) ++ P = E2 ++ (E1 ++ P) := by simp
    rw [ee]; exact p2.rep
  step := p1.step.trans p2.step
  esub := fun a h => by
    rcases List.mem_append.mp h with h | h
    · rcases p2.esub a h with h | h
      · exact nomatch h
      · right
        cases e : H a with
        | none => rfl
        | some o => exact absurd h (p1.step.ne a (by rw [e]; exact fun z => nomatch z))
    · exact p1.esub a h
theorem Post.then (p1 : Post K P B L σ H E ρ1 H1 La E1) (p2 : Post K P B La σ H1 E1 ρ2 H2 Lb E2) : Post K P B L σ H E ρ2 H2 Lb E2 where
  rep := p2.rep
  step := p1.step.trans p2.step
  esub := fun a h => by
    rcases p2.esub a h with h | h
    · exact p1.esub a h
    · right
      cases e : H a with
      | none => rfl
      | some o => exact absurd h (p1.step.ne a (by rw [e]; exact fun z => nomatch z))
end
end DL
namespace DL
open PySem PySem.Spec PyProof.Rows L2

abbrev ED := DL.Env → Option (Val × DL.Env)
abbrev AD := DL.Env → Option (List Val × DL.Env)
abbrev TD := DL.Env → Option (Bool × DL.Env)

/-! ### readings -/
def Cont (K : Fg) (P B L : List Addr) (σ : L2.St) (H : Hp) (E : List Addr) (ρ' : DL.Env) (r : Val) (Q : VK) : Prop :=
  ∀ x' H' L' E', Post K P B L σ H E ρ' H' L' E' → VR K E' P B L' σ H' x' r → Q x' H'
def RD (K : Fg) (f : ED) : TE := fun σ H Q => ∃ P B L ρ r ρ', Rep K P B L σ ρ H ∧ f ρ = some (r, ρ') ∧ Cont K P B L σ H [] ρ' r Q
def RT (K : Fg) (f : TD) : TT := fun σ H Q => ∃ P B L ρ b ρ', Rep K P B L σ ρ H ∧ f ρ = some (b, ρ') ∧ ∀ H' L' E', Post K P B L σ H [] ρ' H' L' E' → Q b H'
def Val.isOwn : Val → Bool
  | .own _ => true
  | _ => false
inductive VRs (K : Fg) (E P B L : List Addr) (σ : L2.St) (H : Hp) : List V → List Val → Prop
  | nil : VRs K E P B L σ H [] []
  | cons {x : V} {r : Val} {xs : List V} {rs : List Val} : VR K E P B L σ H x r → (r.isOwn = true → ∀ p ∈ xs.zip rs, p.2.isOwn = true → p.1 ≠ x) → VRs K E P B L σ H xs rs → VRs K E P B L σ H (x :: xs) (r :: rs)
def RA (K : Fg) (f : AD) : TA := fun σ H Q => ∃ P B L ρ rs ρ', Rep K P B L σ ρ H ∧ f ρ = some (rs, ρ') ∧ ∀ xs H' L' E', Post K P B L σ H [] ρ' H' L' E' → VRs K E' P B L' σ H' xs rs → Q xs H'

theorem _root_.L2.PE.imp {X : Cx} {e : Expr} {t t' : TE} (p : PE X e t) (h : ∀ σ H Q, t' σ H Q → t σ H Q) : PE X e t' := ⟨fun pins s σ H Q I q => p.run pins s σ H Q I (h σ H Q q)⟩
theorem _root_.L2.PT.imp {X : Cx} {e : Expr} {t t' : TT} (p : PT X e t) (h : ∀ σ H Q, t' σ H Q → t σ H Q) : PT X e t' := ⟨fun pins s σ H Q I q => p.run pins s σ H Q I (h σ H Q q)⟩
theorem _root_.L2.PA.imp {X : Cx} {e : List Expr} {t t' : TA} (p : PA X e t) (h : ∀ σ H Q, t' σ H Q → t σ H Q) : PA X e t' := ⟨fun pos pins s σ H Q I q => p.run pos pins s σ H Q I (h σ H Q q)⟩
theorem _root_.L2.PS.imp {X : Cx} {e : Stmt} {t t' : TS} (p : PS X e t) (h : ∀ D σ H, t' D σ H → t D σ H) : PS X e t' := ⟨fun pins s σ H Q I q => p.run pins s σ H Q I (h Q σ H q)⟩
theorem _root_.L2.PSs.imp {X : Cx} {e : List Stmt} {t t' : TS} (p : PSs X e t) (h : ∀ D σ H, t' D σ H → t D σ H) : PSs X e t' := ⟨fun pins s σ H Q I q => p.run pins s σ H Q I (h Q σ H q)⟩

section
variable {K : Fg} {P B L E : List Addr} {σ : L2.St} {ρ ρ' : DL.Env} {H : Hp} {x : V} {r : Val} {Q : VK}
theorem Post.refl (R : Rep K (E ++ P) B L σ ρ H) : Post K P B L σ H E ρ H L E := ⟨R, Step.refl, fun _ h => .inl h⟩
theorem Post.same {H' : Hp} (R : Rep K (E ++ P) B L σ ρ H) (k : Keep [] H H') : Post K P B L σ H E ρ H' L E := ⟨R.same k, Step.of_same k, fun _ h => .inl h⟩
theorem VR.same {H' : Hp} (k : Keep [] H H') (h : VR K E P B L σ H x r) : VR K E P B L σ H' x r := by
  cases r with
  | cl d => exact Dq.move lists_nil (fun _ z => nomatch z) k (fun _ z => .inl z) h
  | own ds => obtain ⟨a, vs, e, h1, h2, h3, h4⟩ := h; exact ⟨a, vs, e, h1, h2, k.at h3 (fun z => nomatch z), DqA.move lists_nil (fun _ z => nomatch z) k (fun _ z => .inl z) h4⟩
  | sl i => exact h
/-- an answer without a new object -/
theorem Cont.here (c : Cont K P B L σ H E ρ r Q) (R : Rep K (E ++ P) B L σ ρ H) (v : VR K E P B L σ H x r) : Q x H := c x H L E (.refl R) v
theorem Cont.tup {vs : List V} {ds : List PyData} {p : Addr} (c : Cont K P B L σ H E ρ (.cl (.tuple ds)) Q) (R : Rep K (E ++ P) B L σ ρ H) (h : DqA K H (E ++ P ++ B ++ L) vs ds) {ob : Obj} (hp : H p = none) (po : PlainT ob) : Q (.ref p) (upd H p (.frz ob (.tup vs))) := by
  refine c _ _ L E (.same R (Keep.new hp)) ?_
  exact Dq.tup ⟨ob, upd_same, po⟩ (DqA.move lists_nil (fun _ z => nomatch z) (Keep.new hp) (fun _ z => .inl z) h)
theorem Cont.lst {vs : List V} {ds : List PyData} {p : Addr} (c : Cont K P B L σ H E ρ (.own ds) Q) (R : Rep K (E ++ P) B L σ ρ H) (h : DqA K H (E ++ P ++ B ++ L) vs ds) (hp : H p = none) : Q (.ref p) (upd H p (.lst vs)) := by
  have q : Rep K ([p] ++ (E ++ P)) B L σ ρ (upd H p (.lst vs)) := R.move (Keep.new hp) fun a z => by
    have e : a = p := by simpa using z
    subst e
    exact ⟨hp, vs, upd_same⟩
  refine c _ _ L (p :: E) ⟨q, .of_same (Keep.new hp), fun a z => (List.mem_cons.mp z).elim (fun e => .inr (e ▸ hp)) .inl⟩ ?_
  refine ⟨p, vs, rfl, List.mem_cons_self, fun z => ?_, upd_same, ?_⟩
  · obtain ⟨us, e⟩ := R.wl p (mem3.mpr (.inl (List.mem_append_right _ z)))
    rw [hp] at e; cases e
  · refine DqA.move lists_nil (fun _ z => nomatch z) (Keep.new hp) (fun a z => ?_) h
    rcases List.mem_cons.mp (show a ∈ p :: (E ++ P ++ B ++ L) from z) with z | z
    · exact .inr (z ▸ hp)
    · exact .inl z
end

/-! ### what a value is -/
def seqOf (ρ : DL.Env) : Val → Option (Bool × List PyData)
  | .cl (.list ds) => some (true, ds)
  | .cl (.tuple ds) => some (false, ds)
  | .cl _ => none
  | .own ds => some (true, ds)
  | .sl i => match ρ.getD i .no with
    | .op ds => some (true, ds)
    | .pm ds => some (true, ds)
    | .cl (.list ds) => some (true, ds)
    | _ => none
def datOf (ρ : DL.Env) : Val → Option PyData
  | .cl d => some d
  | .own ds => some (.list ds)
  | .sl i => match ρ.getD i .no with
    | .op ds => some (.list ds)
    | .pm ds => some (.list ds)
    | .cl d => some d
    | _ => none
section
variable {K : Fg} {P B L E : List Addr} {σ : L2.St} {ρ ρ' : DL.Env} {H : Hp} {x : V} {r : Val}
theorem VR.list {ds : List PyData} (R : Rep K (E ++ P) B L σ ρ H) (v : VR K E P B L σ H x r) (e : seqOf ρ r = some (true, ds)) :
    ∃ a vs, x = V.ref a ∧ H a = some (.lst vs) ∧ DqA K H (E ++ P ++ B ++ L) vs ds := by
  cases r with
  | cl d =>
    cases d <;> simp [seqOf] at e
    subst e
    cases v with
    | lst h1 h2 h3 => exact ⟨_, _, rfl, h2, h3⟩
  | own es =>
    simp only [seqOf] at e
    cases e
    obtain ⟨a, vs, e1, _, _, h1, h2⟩ := v
    exact ⟨a, vs, e1, h1, h2⟩
  | sl i =>
    have q := R.ok i
    simp only [seqOf] at e
    revert q e
    generalize ρ.getD i .no = c
    intro e q
    cases c with
    | no => cases e
    | op es =>
      cases e
      obtain ⟨a, vs, e1, _, h1, h2⟩ := q
      have e2 : some (some x) = some (some (V.ref a)) := (show σ[i]? = _ from v).symm.trans e1
      cases e2
      exact ⟨a, vs, rfl, h1, h2⟩
    | pm es =>
      cases e
      obtain ⟨a, vs, e1, _, h1, h2⟩ := q
      have e2 : some (some x) = some (some (V.ref a)) := (show σ[i]? = _ from v).symm.trans e1
      cases e2
      exact ⟨a, vs, rfl, h1, h2⟩
    | cl d =>
      cases d <;> simp at e
      subst e
      obtain ⟨y, e1, h1⟩ := q
      have e2 : some (some x) = some (some y) := (show σ[i]? = _ from v).symm.trans e1
      cases e2
      cases h1 with
      | lst h1 h2 h3 => exact ⟨_, _, rfl, h2, h3⟩
theorem VR.tuple {ds : List PyData} (v : VR K E P B L σ H x r) (e : seqOf ρ r = some (false, ds)) :
    ∃ a vs, x = V.ref a ∧ TupD H a vs ∧ DqA K H (E ++ P ++ B ++ L) vs ds := by
  cases r with
  | cl d =>
    cases d <;> simp [seqOf] at e
    subst e
    cases v with
    | tup h2 h3 => exact ⟨_, _, rfl, h2, h3⟩
  | own es => simp [seqOf] at e
  | sl i =>
    simp only [seqOf] at e
    revert e
    generalize ρ.getD i .no = c
    intro e
    cases c with
    | cl d => cases d <;> simp at e
    | _ => simp at e
theorem VR.dat {d : PyData} (R : Rep K (E ++ P) B L σ ρ H) (v : VR K E P B L σ H x r) (e : datOf ρ r = some d) : Dq K H [] x d := by
  have nil : ∀ {W : List Addr} {v : V} {d : PyData}, Dq K H W v d → Dq K H [] v d := fun h => h.sub (W' := []) fun a z => absurd z List.not_mem_nil
  have nilA : ∀ {W : List Addr} {v : List V} {d : List PyData}, DqA K H W v d → DqA K H [] v d := fun h => h.sub (W' := []) fun a z => absurd z List.not_mem_nil
  cases r with
  | cl d => cases e; exact nil v
  | own es =>
    cases e
    obtain ⟨a, vs, e1, _, _, h1, h2⟩ := v
    subst e1
    exact .lst (fun z => nomatch z) h1 (nilA h2)
  | sl i =>
    have q := R.ok i
    simp only [datOf] at e
    revert q e
    generalize ρ.getD i .no = c
    intro e q
    cases c with
    | no => cases e
    | op es =>
      cases e
      obtain ⟨a, vs, e1, _, h1, h2⟩ := q
      have e2 : some (some x) = some (some (V.ref a)) := (show σ[i]? = _ from v).symm.trans e1
      cases e2
      exact .lst (fun z => nomatch z) h1 (nilA h2)
    | pm es =>
      cases e
      obtain ⟨a, vs, e1, _, h1, h2⟩ := q
      have e2 : some (some x) = some (some (V.ref a)) := (show σ[i]? = _ from v).symm.trans e1
      cases e2
      exact .lst (fun z => nomatch z) h1 (nilA h2)
    | cl d =>
      cases e
      obtain ⟨y, e1, h1⟩ := q
      have e2 : some (some x) = some (some y) := (show σ[i]? = _ from v).symm.trans e1
      cases e2
      exact nil h1
theorem VR.int {i : Int} (v : VR K E P B L σ H x (.cl (.int i))) : x = V.int i := by
  have h : Dq K H _ x (.int i) := v
  cases h; rfl
theorem VR.bl {b : Bool} (v : VR K E P B L σ H x (.cl (.bool b))) : x = V.bl b := by
  have h : Dq K H _ x (.bool b) := v
  cases h; rfl
theorem VR.str {b : Str} (v : VR K E P B L σ H x (.cl (.str b))) : x = V.str b := by
  have h : Dq K H _ x (.str b) := v
  cases h; rfl
theorem VR.non (v : VR K E P B L σ H x (.cl .none)) : x = V.non := by
  have h : Dq K H _ x .none := v
  cases h; rfl
end

/-! ### the store of a value for good -/
def psV (ρ : DL.Env) : Val → Option (PyData × DL.Env)
  | .cl d => some (d, ρ)
  | .own ds => some (.list ds, ρ)
  | .sl i => match ρ.getD i .no with
    | .op ds => some (.list ds, ρ.set i (.cl (.list ds)))
    | .cl d => some (d, ρ)
    | _ => none
section
variable {K : Fg} {P B L E : List Addr} {σ : L2.St} {ρ ρ' : DL.Env} {H : Hp} {x : V} {r : Val}
def less (l : List Addr) (a : Addr) : List Addr := l.filter fun b => decide (b ≠ a)
theorem mem_less {l : List Addr} {a b : Addr} : b ∈ less l a ↔ b ∈ l ∧ b ≠ a := by simp [less]
theorem less_notin {l : List Addr} {a : Addr} (h : a ∉ l) : less l a = l := by
  refine List.filter_eq_self.mpr fun b hb => ?_
  simp only [decide_eq_true_eq]
  intro e; subst e; exact h hb
/-- what the store leaves -/
structure Psd (K : Fg) (E P B L : List Addr) (σ : L2.St) (H : Hp) (x : V) (d : PyData) (ρ' : DL.Env) (E' L' : List Addr) : Prop where
  rep : Rep K (E' ++ P) B L' σ ρ' H
  dq : Dq K H (E' ++ P ++ B ++ L') x d
  es : ∀ a ∈ E', a ∈ E
  ls : ∀ a ∈ L', a ∈ L
theorem Rep.lessE (R : Rep K (E ++ P) B L σ ρ H) (E' : List Addr) (hs : ∀ a ∈ E', a ∈ E) : Rep K (E' ++ P) B L σ ρ H := by
  have hw : ∀ a ∈ (E' ++ P) ++ B ++ L, a ∈ (E ++ P) ++ B ++ L := fun a z => by
    rcases mem4.mp z with z | z | z | z
    · exact mem4.mpr (.inl (hs a z))
    · exact mem4.mpr (.inr (.inl z))
    · exact mem4.mpr (.inr (.inr (.inl z)))
    · exact mem4.mpr (.inr (.inr (.inr z)))
  refine ⟨R.len, fun a h => R.wl a (hw a h), ⟨fun a h => R.nd.1 a ?_, R.nd.2⟩, fun i => ?_, R.inj, R.tabs⟩
  · rcases List.mem_append.mp h with h | h
    · exact List.mem_append_left _ (hs a h)
    · exact List.mem_append_right _ h
  · have q := R.ok i
    revert q
    generalize ρ.getD i .no = c
    intro q
    cases c with
    | no => trivial
    | cl d => obtain ⟨v, e, h⟩ := q; exact ⟨v, e, h.sub hw⟩
    | op ds => obtain ⟨a, vs, e, hm, hh, h⟩ := q; exact ⟨a, vs, e, hm, hh, h.sub hw⟩
    | pm ds => obtain ⟨a, vs, e, hm, hh, h⟩ := q; exact ⟨a, vs, e, hm, hh, h.sub hw⟩
theorem getD_set (ρ : DL.Env) (i j : Nat) (c : Cell) : (ρ.set i c).getD j .no = if i = j ∧ i < ρ.length then c else ρ.getD j .no := by
  rw [List.getD_eq_getElem?_getD, List.getD_eq_getElem?_getD, List.getElem?_set]
  by_cases h : i = j
  · subst h
    by_cases h2 : i < ρ.length
    · simp [h2]
    · simp [h2]
  · simp [h]
theorem psd_of {d : PyData} (R : Rep K (E ++ P) B L σ ρ H) (v : VR K E P B L σ H x r) (e : psV ρ r = some (d, ρ')) :
    ∃ E' L', Psd K E P B L σ H x d ρ' E' L' ∧ ∀ y s, VR K E P B L σ H y s → (r.isOwn = true → s.isOwn = true → y ≠ x) → VR K E' P B L' σ H y s := by
  cases r with
  | cl d' =>
    cases e
    exact ⟨E, L, ⟨R, v, fun _ z => z, fun _ z => z⟩, fun y s h _ => h⟩
  | own ds =>
    cases e
    obtain ⟨a, vs, rfl, hm, hp, hh, h⟩ := v
    have hw : ∀ b ∈ less E a ++ P ++ B ++ L, b ∈ E ++ P ++ B ++ L := fun b z => by
      rcases mem4.mp z with z | z | z | z
      · exact mem4.mpr (.inl (mem_less.mp z).1)
      · exact mem4.mpr (.inr (.inl z))
      · exact mem4.mpr (.inr (.inr (.inl z)))
      · exact mem4.mpr (.inr (.inr (.inr z)))
    have nd := R.nd.1 a (List.mem_append_left _ hm)
    refine ⟨less E a, L, ⟨R.lessE _ fun b z => (mem_less.mp z).1, .lst (fun z => ?_) hh (h.sub hw), fun b z => (mem_less.mp z).1, fun _ z => z⟩, fun y s q hn => ?_⟩
    · rcases mem4.mp z with z | z | z | z
      · exact (mem_less.mp z).2 rfl
      · exact hp z
      · exact nd.1 z
      · exact nd.2 z
    · cases s with
      | cl d => exact Dq.sub hw q
      | own es =>
        obtain ⟨b, us, e1, h1, h2, h3, h4⟩ := q
        exact ⟨b, us, e1, mem_less.mpr ⟨h1, fun z => hn rfl rfl (by rw [e1, z])⟩, h2, h3, h4.sub hw⟩
      | sl i => exact q
  | sl i =>
    have q := R.ok i
    simp only [psV] at e
    have hi : ∀ ds, ρ.getD i .no = .op ds → i < ρ.length := fun ds z => by
      by_cases h : i < ρ.length
      · exact h
      · rw [List.getD_eq_getElem?_getD, List.getElem?_eq_none (Nat.le_of_not_lt h)] at z
        cases z
    revert q e
    generalize hc : ρ.getD i .no = c
    intro e q
    cases c with
    | no => cases e
    | pm es => cases e
    | cl d' =>
      cases e
      obtain ⟨y, e1, h1⟩ := q
      have e2 : some (some x) = some (some y) := (show σ[i]? = _ from v).symm.trans e1
      cases e2
      exact ⟨E, L, ⟨R, h1, fun _ z => z, fun _ z => z⟩, fun y s h _ => h⟩
    | op es =>
      cases e
      have hil := hi es hc
      obtain ⟨a, vs, e1, hm, hh, h⟩ := q
      have e2 : some (some x) = some (some (V.ref a)) := (show σ[i]? = _ from v).symm.trans e1
      cases e2
      have hw : ∀ b ∈ E ++ P ++ B ++ less L a, b ∈ E ++ P ++ B ++ L := fun b z => by
        rcases mem4.mp z with z | z | z | z
        · exact mem4.mpr (.inl z)
        · exact mem4.mpr (.inr (.inl z))
        · exact mem4.mpr (.inr (.inr (.inl z)))
        · exact mem4.mpr (.inr (.inr (.inr (mem_less.mp z).1)))
      have hd : Dq K H (E ++ P ++ B ++ less L a) (V.ref a) (.list es) := .lst (fun z => by
        rcases mem4.mp z with z | z | z | z
        · exact (R.nd.1 a (List.mem_append_left _ z)).2 hm
        · exact (R.nd.1 a (List.mem_append_right _ z)).2 hm
        · exact R.nd.2 a z hm
        · exact (mem_less.mp z).2 rfl) hh (h.sub hw)
      refine ⟨E, less L a, ⟨⟨by rw [List.length_set]; exact R.len, fun b z => R.wl b (hw b z), ⟨fun b z => ⟨(R.nd.1 b z).1, fun y => (R.nd.1 b z).2 (mem_less.mp y).1⟩, fun b z y => R.nd.2 b z (mem_less.mp y).1⟩, fun j => ?_, fun j k b hjk h1 h2 => ?_, R.tabs⟩, hd, fun _ z => z, fun b z => (mem_less.mp z).1⟩, fun y s q _ => ?_⟩
      · rw [getD_set]
        by_cases hj : i = j
        · subst hj
          rw [if_pos ⟨rfl, hil⟩]
          exact ⟨_, e1, hd⟩
        · rw [if_neg fun z => hj z.1]
          have q := R.ok j
          have inj := R.inj i j a hj (by rw [hc]; rfl)
          revert q inj
          generalize ρ.getD j .no = c
          intro q inj
          cases c with
          | no => trivial
          | cl d => obtain ⟨v, e, h⟩ := q; exact ⟨v, e, h.sub hw⟩
          | op ds =>
            obtain ⟨b, us, e3, h1, h2, h3⟩ := q
            exact ⟨b, us, e3, mem_less.mpr ⟨h1, fun z => inj rfl e1 (z ▸ e3)⟩, h2, h3.sub hw⟩
          | pm ds => obtain ⟨b, us, e3, h1, h2, h3⟩ := q; exact ⟨b, us, e3, h1, h2, h3.sub hw⟩
      · have t : ∀ m, ((ρ.set i (.cl (.list es))).getD m .no).isOpen = true → (ρ.getD m .no).isOpen = true := fun m z => by
          rw [getD_set] at z
          by_cases hm : i = m ∧ i < ρ.length
          · rw [if_pos hm] at z; cases z
          · rwa [if_neg hm] at z
        exact R.inj j k b hjk (t j h1) (t k h2)
      · cases s with
        | cl d => exact Dq.sub hw q
        | own fs => obtain ⟨b, us, e3, h1, h2, h3, h4⟩ := q; exact ⟨b, us, e3, h1, h2, h3, h4.sub hw⟩
        | sl j => exact q
end
end DL
namespace DL
open PySem PySem.Spec PyProof.Rows L2

/-! ### combinators -/
def varD (i : Nat) : ED := fun ρ => match ρ.getD i .no with
  | .no => none
  | .cl d => some (.cl d, ρ)
  | .op _ => some (.sl i, ρ)
  | .pm _ => some (.sl i, ρ)
def conD (d : PyData) : ED := fun ρ => some (.cl d, ρ)
def unD (f : ED) (g : DL.Env → Val → Option (Val × DL.Env)) : ED := fun ρ => (f ρ).bind fun p => g p.2 p.1
def binD (f1 f2 : ED) (g : DL.Env → Val → Val → Option (Val × DL.Env)) : ED := fun ρ => (f1 ρ).bind fun p => (f2 p.2).bind fun q => g q.2 p.1 q.1
def anil : AD := fun ρ => some ([], ρ)
def acons (f : ED) (t : AD) : AD := fun ρ => (f ρ).bind fun p => (t p.2).bind fun q => some (p.1 :: q.1, q.2)
def callD (t : AD) (g : DL.Env → List Val → Option (Val × DL.Env)) : ED := fun ρ => (t ρ).bind fun p => g p.2 p.1
def testD (f : ED) : TD := fun ρ => (f ρ).bind fun p => match p.1 with
  | .cl (.bool b) => some (b, p.2)
  | _ => none
def notT (f : TD) : TD := fun ρ => (f ρ).bind fun p => some (!p.1, p.2)
def andT (f g : TD) : TD := fun ρ => (f ρ).bind fun p => if p.1 = true then g p.2 else some (false, p.2)
def orT (f g : TD) : TD := fun ρ => (f ρ).bind fun p => if p.1 = true then some (true, p.2) else g p.2
def iteD (c : TD) (a b : ED) : ED := fun ρ => (c ρ).bind fun p => if p.1 = true then a p.2 else b p.2
def blD (f : TD) : ED := fun ρ => (f ρ).bind fun p => some (.cl (.bool p.1), p.2)

def Loc1 (K : Fg) (R : V → Hp → VK → Prop) (g : DL.Env → Val → Option (Val × DL.Env)) : Prop :=
  ∀ {E P B L : List Addr} {σ : L2.St} {ρ ρ' : DL.Env} {H : Hp} {x : V} {r1 r : Val} {Q : VK}, Rep K (E ++ P) B L σ ρ H → VR K E P B L σ H x r1 → g ρ r1 = some (r, ρ') → Cont K P B L σ H E ρ' r Q → R x H Q
def Loc2 (K : Fg) (R : R2) (g : DL.Env → Val → Val → Option (Val × DL.Env)) : Prop :=
  ∀ {E P B L : List Addr} {σ : L2.St} {ρ ρ' : DL.Env} {H : Hp} {x y : V} {r1 r2 r : Val} {Q : VK}, Rep K (E ++ P) B L σ ρ H → VR K E P B L σ H x r1 → VR K E P B L σ H y r2 → g ρ r1 r2 = some (r, ρ') → Cont K P B L σ H E ρ' r Q → R x y H Q
def LocN (K : Fg) (R : List V → Hp → VK → Prop) (g : DL.Env → List Val → Option (Val × DL.Env)) : Prop :=
  ∀ {E P B L : List Addr} {σ : L2.St} {ρ ρ' : DL.Env} {H : Hp} {xs : List V} {rs : List Val} {r : Val} {Q : VK}, Rep K (E ++ P) B L σ ρ H → VRs K E P B L σ H xs rs → g ρ rs = some (r, ρ') → Cont K P B L σ H E ρ' r Q → R xs H Q

theorem Cont.after {K : Fg} {P B L La E Ea : List Addr} {σ : L2.St} {H Ha : Hp} {ρa ρ' : DL.Env} {r : Val} {Q : VK} (c : Cont K P B L σ H E ρ' r Q) (p : Post K P B L σ H E ρa Ha La Ea) : Cont K P B La σ Ha Ea ρ' r Q :=
  fun x' H' L' E' p' v' => c x' H' L' E' (p.then p') v'

section
variable {K : Fg} {σ : L2.St} {H : Hp} {Q : VK} {f f1 f2 : ED} {t : AD} {c c1 c2 : TD}
theorem rd_un {R : V → Hp → VK → Prop} {g : DL.Env → Val → Option (Val × DL.Env)} (loc : Loc1 K R g) (h : RD K (unD f g) σ H Q) : tUn R (RD K f) σ H Q := by
  obtain ⟨P, B, L, ρ, r, ρ', R0, e, k⟩ := h
  obtain ⟨⟨r1, ρ1⟩, e1, e2⟩ := Option.bind_eq_some_iff.mp e
  exact ⟨P, B, L, ρ, r1, ρ1, R0, e1, fun x H1 L1 E1 p1 v1 => loc p1.rep v1 e2 (k.after p1)⟩
theorem rd_bin {R : R2} {g : DL.Env → Val → Val → Option (Val × DL.Env)} (loc : Loc2 K R g) (h : RD K (binD f1 f2 g) σ H Q) : tOp R (RD K f1) (RD K f2) σ H Q := by
  obtain ⟨P, B, L, ρ, r, ρ', R0, e, k⟩ := h
  obtain ⟨⟨r1, ρ1⟩, e1, e⟩ := Option.bind_eq_some_iff.mp e
  obtain ⟨⟨r2, ρ2⟩, e2, e⟩ := Option.bind_eq_some_iff.mp e
  refine ⟨P, B, L, ρ, r1, ρ1, R0, e1, fun x H1 La Ea p1 v1 => ⟨Ea ++ P, B, La, ρ1, r2, ρ2, p1.rep, e2, fun y H2 Lb Eb p2 v2 => ?_⟩⟩
  have p := p1.two p2
  exact loc p.rep (v1.later p1.rep p2) (v2.last p1.rep) e (k.after p)
theorem rd_nil {Q : List V → Hp → Prop} (h : RA K anil σ H Q) : tNil σ H Q := by
  obtain ⟨P, B, L, ρ, rs, ρ', R0, e, k⟩ := h
  cases e
  exact k [] H L [] (.refl R0) .nil
theorem vrs_later {P B La Lb Ea Eb : List Addr} {ρa ρb : DL.Env} {Ha Hb : Hp} {x : V} {r : Val} {xs : List V} {rs : List Val} (R : Rep K (Ea ++ P) B La σ ρa Ha) (p : Post K (Ea ++ P) B La σ Ha [] ρb Hb Lb Eb)
    (v : VR K Ea P B La σ Ha x r) (vs : VRs K Eb (Ea ++ P) B Lb σ Hb xs rs) : VRs K (Eb ++ Ea) P B Lb σ Hb (x :: xs) (r :: rs) := by
  refine .cons (v.later R p) (fun ho => ?_) ?_
  · -- own ones of the tail are younger
    have hx : ∃ a, x = V.ref a ∧ a ∈ Ea ++ P := by
      cases r with
      | own ds => obtain ⟨a, _, e, h1, _⟩ := v; exact ⟨a, e, List.mem_append_left _ h1⟩
      | _ => cases ho
    obtain ⟨a, rfl, ha⟩ := hx
    clear v ho
    induction vs with
    | nil => intro q z; exact absurd z List.not_mem_nil
    | @cons y s ys ss w d _ ih =>
      intro q z hq
      rcases List.mem_cons.mp (show q ∈ (y, s) :: ys.zip ss from z) with e | z
      · subst e
        cases s with
        | own ds =>
          obtain ⟨b, _, e, _, h2, _⟩ := w
          intro e2
          rw [show y = V.ref b from e] at e2
          cases e2
          exact h2 ha
        | _ => cases hq
      · exact ih q z hq
  · clear v
    induction vs with
    | nil => exact .nil
    | cons w d _ ih => exact .cons (w.last R) d ih
theorem rd_cons {Q : List V → Hp → Prop} (h : RA K (acons f t) σ H Q) : tCons (RD K f) (RA K t) σ H Q := by
  obtain ⟨P, B, L, ρ, rs, ρ', R0, e, k⟩ := h
  obtain ⟨⟨r1, ρ1⟩, e1, e⟩ := Option.bind_eq_some_iff.mp e
  obtain ⟨⟨r2, ρ2⟩, e2, e⟩ := Option.bind_eq_some_iff.mp e
  cases e
  refine ⟨P, B, L, ρ, r1, ρ1, R0, e1, fun x H1 La Ea p1 v1 => ⟨Ea ++ P, B, La, ρ1, r2, ρ2, p1.rep, e2, fun ys H2 Lb Eb p2 v2 => ?_⟩⟩
  exact k _ _ _ _ (p1.two p2) (vrs_later p1.rep p2 v1 v2)
theorem rd_call {R : List V → Hp → VK → Prop} {g : DL.Env → List Val → Option (Val × DL.Env)} (loc : LocN K R g) (h : RD K (callD t g) σ H Q) : tCB R (RA K t) σ H Q := by
  obtain ⟨P, B, L, ρ, r, ρ', R0, e, k⟩ := h
  obtain ⟨⟨r1, ρ1⟩, e1, e2⟩ := Option.bind_eq_some_iff.mp e
  exact ⟨P, B, L, ρ, r1, ρ1, R0, e1, fun x H1 L1 E1 p1 v1 => loc p1.rep v1 e2 (k.after p1)⟩
/-! tests -/
theorem rt_test {Q : Bool → Hp → Prop} (h : RT K (testD f) σ H Q) : RD K f σ H fun x H1 => ∃ k, x = .bl k ∧ Q k H1 := by
  obtain ⟨P, B, L, ρ, b, ρ', R0, e, k⟩ := h
  obtain ⟨⟨r1, ρ1⟩, e1, e2⟩ := Option.bind_eq_some_iff.mp e
  refine ⟨P, B, L, ρ, r1, ρ1, R0, e1, fun x H1 La Ea p1 v1 => ?_⟩
  cases r1 with
  | cl d =>
    cases d <;> simp at e2
    obtain ⟨e3, e4⟩ := e2
    subst e3; subst e4
    exact ⟨_, v1.bl, k _ _ _ p1⟩
  | own ds => simp at e2
  | sl i => simp at e2
theorem rt_not {Q : Bool → Hp → Prop} (h : RT K (notT c) σ H Q) : tNot (RT K c) σ H Q := by
  obtain ⟨P, B, L, ρ, b, ρ', R0, e, k⟩ := h
  obtain ⟨⟨r1, ρ1⟩, e1, e2⟩ := Option.bind_eq_some_iff.mp e
  cases e2
  exact ⟨P, B, L, ρ, r1, ρ1, R0, e1, fun H1 La Ea p1 => k _ _ _ p1⟩
theorem two_rt {P B L La Ea : List Addr} {ρ1 : DL.Env} {H1 : Hp} {b : Bool} {ρ' : DL.Env} {Q : Bool → Hp → Prop} (p1 : Post K P B L σ H [] ρ1 H1 La Ea) (k : ∀ H' L' E', Post K P B L σ H [] ρ' H' L' E' → Q b H') (e : c ρ1 = some (b, ρ')) : RT K c σ H1 Q :=
  ⟨Ea ++ P, B, La, ρ1, b, ρ', p1.rep, e, fun H' L' E' p' => k _ _ _ (p1.two p')⟩
theorem rt_and {Q : Bool → Hp → Prop} (h : RT K (andT c1 c2) σ H Q) : tAnd (RT K c1) (RT K c2) σ H Q := by
  obtain ⟨P, B, L, ρ, b, ρ', R0, e, k⟩ := h
  obtain ⟨⟨r1, ρ1⟩, e1, e2⟩ := Option.bind_eq_some_iff.mp e
  refine ⟨P, B, L, ρ, r1, ρ1, R0, e1, fun H1 La Ea p1 => ?_⟩
  cases r1 with
  | true => rw [if_pos rfl]; exact two_rt p1 k (by simpa using e2)
  | false =>
    have e3 : false = b ∧ ρ1 = ρ' := by simpa using e2
    obtain ⟨rfl, rfl⟩ := e3
    rw [if_neg Bool.false_ne_true]
    exact k _ _ _ p1
theorem rt_or {Q : Bool → Hp → Prop} (h : RT K (orT c1 c2) σ H Q) : tOr (RT K c1) (RT K c2) σ H Q := by
  obtain ⟨P, B, L, ρ, b, ρ', R0, e, k⟩ := h
  obtain ⟨⟨r1, ρ1⟩, e1, e2⟩ := Option.bind_eq_some_iff.mp e
  refine ⟨P, B, L, ρ, r1, ρ1, R0, e1, fun H1 La Ea p1 => ?_⟩
  cases r1 with
  | false => rw [if_neg Bool.false_ne_true]; exact two_rt p1 k (by simpa using e2)
  | true =>
    have e3 : true = b ∧ ρ1 = ρ' := by simpa using e2
    obtain ⟨rfl, rfl⟩ := e3
    rw [if_pos rfl]
    exact k _ _ _ p1
theorem vr_last0 {P B L Ea Eb : List Addr} {La : List Addr} {x : V} {r : Val} {ρa : DL.Env} {Ha Hb : Hp} (R : Rep K (Ea ++ P) B La σ ρa Ha) (v : VR K Eb (Ea ++ P) B L σ Hb x r) : VR K (Eb ++ Ea) P B L σ Hb x r := v.last R
theorem two_rd {P B L La Ea : List Addr} {ρ1 : DL.Env} {H1 : Hp} {r : Val} {ρ' : DL.Env} {Q : VK} (p1 : Post K P B L σ H [] ρ1 H1 La Ea) (k : Cont K P B L σ H [] ρ' r Q) (e : f ρ1 = some (r, ρ')) : RD K f σ H1 Q :=
  ⟨Ea ++ P, B, La, ρ1, r, ρ', p1.rep, e, fun x' H' L' E' p' v' => k _ _ _ _ (p1.two p') (v'.last p1.rep)⟩
theorem rd_ite (h : RD K (iteD c f1 f2) σ H Q) : tIf (RT K c) (RD K f1) (RD K f2) σ H Q := by
  obtain ⟨P, B, L, ρ, b, ρ', R0, e, k⟩ := h
  obtain ⟨⟨r1, ρ1⟩, e1, e2⟩ := Option.bind_eq_some_iff.mp e
  refine ⟨P, B, L, ρ, r1, ρ1, R0, e1, fun H1 La Ea p1 => ?_⟩
  cases r1 with
  | true => rw [if_pos rfl]; exact two_rd p1 k (by simpa using e2)
  | false => rw [if_neg Bool.false_ne_true]; exact two_rd p1 k (by simpa using e2)
end

/-! ### rules of expressions -/
section
variable {X : Cx} {tl : TL} {a b c : Expr} {es : List Expr} {f f1 f2 f3 : ED} {t : AD} {q q1 q2 : TD} {pos : Pos}
theorem d_var (i : Nat) {x : Str} {pos : Pos} (hN : X.N[i]? = some x := by rfl) (hv : Vis X.env.scope x := by first | exact Or.inl rfl | exact Or.inr (Or.inl rfl) | exact Or.inr (Or.inr rfl)) (hd : (x == ("__debug__" : Str)) = false := by decide)
    (hcd : (x == ("__classdict__" : Str)) = false := by decide) : PE X (.Name x pos) (RD (X.D tl) (varD i)) :=
  (pe_var hN hv hd hcd).imp fun σ H Q h => by
    obtain ⟨P, B, L, ρ, r, ρ', R0, e, k⟩ := h
    have q := R0.ok i
    unfold varD at e
    revert e q
    generalize hc : ρ.getD i .no = c
    intro e q
    cases c with
    | no => cases e
    | cl d =>
      cases e
      obtain ⟨v, e1, h1⟩ := q
      exact ⟨v, e1, k _ _ L [] (.refl R0) h1⟩
    | op ds =>
      cases e
      obtain ⟨a, vs, e1, _⟩ := q
      exact ⟨_, e1, k _ _ L [] (.refl R0) e1⟩
    | pm ds =>
      cases e
      obtain ⟨a, vs, e1, _⟩ := q
      exact ⟨_, e1, k _ _ L [] (.refl R0) e1⟩
theorem con_imp {d : PyData} {v : V} (hd : ∀ {H W}, Dq (X.D tl) H W v d) {σ : L2.St} {H : Hp} {Q : VK} (h : RD (X.D tl) (conD d) σ H Q) : tC v σ H Q := by
  obtain ⟨P, B, L, ρ, r, ρ', R0, e, k⟩ := h
  cases e
  exact k _ _ L [] (.refl R0) hd
theorem d_int {i j pos} : PE X (.Constant (.int i) j pos) (RD (X.D tl) (conD (.int i))) := pe_int.imp fun _ _ _ h => con_imp (.int i) h
theorem d_bl {b j pos} : PE X (.Constant (.bool b) j pos) (RD (X.D tl) (conD (.bool b))) := pe_bl.imp fun _ _ _ h => con_imp (.bl b) h
theorem d_non {j pos} : PE X (.Constant .none j pos) (RD (X.D tl) (conD .none)) := pe_non.imp fun _ _ _ h => con_imp .non h
theorem d_str {x j pos} : PE X (.Constant (.str x) j pos) (RD (X.D tl) (conD (.str x))) := pe_str.imp fun _ _ _ h => con_imp (.str x) h
theorem d_bin {op : Operator} {R : R2} {g} (ho : OpR X (binaryOp op) R) (loc : Loc2 (X.D tl) R g) (ha : PE X a (RD (X.D tl) f1)) (hb : PE X b (RD (X.D tl) f2)) : PE X (.BinOp a op b pos) (RD (X.D tl) (binD f1 f2 g)) :=
  (pe_op ho ha hb).imp fun _ _ _ h => rd_bin loc h
theorem d_un {op : UnaryOp} {R : V → Hp → VK → Prop} {g} (ho : UnR X (unaryOp op) R) (loc : Loc1 (X.D tl) R g) (ha : PE X a (RD (X.D tl) f)) : PE X (.UnaryOp op a pos) (RD (X.D tl) (unD f g)) :=
  (pe_un ho ha).imp fun _ _ _ h => rd_un loc h
theorem d_ix {R : R2} {g} (hr : IxR X R) (loc : Loc2 (X.D tl) R g) (ha : PE X a (RD (X.D tl) f1)) (hb : PE X b (RD (X.D tl) f2)) (hs : PlainIx b) : PE X (.Subscript a b pos) (RD (X.D tl) (binD f1 f2 g)) :=
  (pe_ix hr ha hb hs).imp fun _ _ _ h => rd_bin loc h
theorem d_cmp {op : CmpOp} {R : R2} {g} (ho : OpR X (compareOp op) R) (loc : Loc2 (X.D tl) R g) (ha : PE X a (RD (X.D tl) f1)) (hb : PE X b (RD (X.D tl) f2)) (hm : behindInMarks op b = false) : PE X (.Compare a [op] [b] pos) (RD (X.D tl) (binD f1 f2 g)) :=
  (pe_cmpR ho ha hb hm).imp fun _ _ _ h => rd_bin loc h
theorem t_cmp {op : CmpOp} {R : R2} {g} (ho : OpR X (compareOp op) R) (loc : Loc2 (X.D tl) R g) (ha : PE X a (RD (X.D tl) f1)) (hb : PE X b (RD (X.D tl) f2)) (hm : behindInMarks op b = false) : PT X (.Compare a [op] [b] pos) (RT (X.D tl) (testD (binD f1 f2 g))) :=
  (pt_cmpR ho ha hb hm).imp fun _ _ _ h => rd_bin loc (rt_test h)
theorem t_val (h : PE X a (RD (X.D tl) f)) (he : ∀ whole, isTrue a X.env whole = (do let v ← whole; standAt a.pos; holding [v] (truthy v)) := by intro _; rfl) : PT X a (RT (X.D tl) (testD f)) :=
  (pt_val h he).imp fun _ _ _ h => rt_test h
theorem t_not (h : PT X a (RT (X.D tl) q)) : PT X (.UnaryOp .Not a pos) (RT (X.D tl) (notT q)) := (pt_not h).imp fun _ _ _ h => rt_not h
theorem t_and1 (h : PT X a (RT (X.D tl) q)) : PW X (.BoolOp .And [a] pos) (RT (X.D tl) q) := pw_and1 h
theorem t_or1 (h : PT X a (RT (X.D tl) q)) : PW X (.BoolOp .Or [a] pos) (RT (X.D tl) q) := pw_or1 h
theorem _root_.L2.PW.imp {X : Cx} {e : Expr} {t t' : TT} (p : PW X e t) (h : ∀ σ H Q, t' σ H Q → t σ H Q) : PW X e t' := ⟨fun wh pins s σ H Q I q => p.run wh pins s σ H Q I (h σ H Q q)⟩
theorem t_and {rest : List Expr} (ha : PT X a (RT (X.D tl) q1)) (hb : PW X (.BoolOp .And (b :: rest) pos) (RT (X.D tl) q2)) : PW X (.BoolOp .And (a :: b :: rest) pos) (RT (X.D tl) (andT q1 q2)) := (pw_and ha hb).imp fun _ _ _ h => rt_and h
theorem t_or {rest : List Expr} (ha : PT X a (RT (X.D tl) q1)) (hb : PW X (.BoolOp .Or (b :: rest) pos) (RT (X.D tl) q2)) : PW X (.BoolOp .Or (a :: b :: rest) pos) (RT (X.D tl) (orT q1 q2)) := (pw_or ha hb).imp fun _ _ _ h => rt_or h
theorem d_ite (hc : PT X c (RT (X.D tl) q)) (ha : PE X a (RD (X.D tl) f1)) (hb : PE X b (RD (X.D tl) f2)) : PE X (.IfExp c a b pos) (RD (X.D tl) (iteD q f1 f2)) := (pe_ifExp hc ha hb).imp fun _ _ _ h => rd_ite h
theorem a_nil : PA X [] (RA (X.D tl) anil) := pa_nil.imp fun _ _ _ h => rd_nil h
theorem a_cons (ha : PE X a (RD (X.D tl) f)) (ht : PA X es (RA (X.D tl) t)) (hs : starEach (a :: es) X.env = (false, eval a X.env) :: starEach es X.env := by rfl) : PA X (a :: es) (RA (X.D tl) (acons f t)) :=
  (pa_cons ha ht hs).imp fun _ _ _ h => rd_cons h
theorem d_callB {x : Str} {p : Pos} {id : String} {R} {g} (hc : CallR X (.builtin id) R) (loc : LocN (X.D tl) R g) (hg : Gl X x) (hm : X.mg x = none) (hv : bootBuiltins x = some (.builtin id)) (ha : PA X (a :: es) (RA (X.D tl) t)) (hn : x ≠ "__name__" := by decide) (hdb : (x == ("__debug__" : Str)) = false := by decide)
    (he : starEach (a :: es) X.env = (false, eval a X.env) :: starEach es X.env := by rfl) (hpl : (backTo pos (starEach es X.env)).any (·.1) = false := by rfl) : PE X (.Call (.Name x p) (a :: es) [] pos) (RD (X.D tl) (callD t g)) :=
  (pe_callB hc hg hm hv ha hn hdb he hpl).imp fun _ _ _ h => rd_call loc h
theorem d_callTy {x : Str} {p : Pos} {id : String} {R} {g} (hc : CallR X (.type id) R) (loc : LocN (X.D tl) R g) (hg : Gl X x) (hm : X.mg x = none) (hv : bootBuiltins x = some (.type id)) (ha : PA X (a :: es) (RA (X.D tl) t)) (hn : x ≠ "__name__" := by decide) (hdb : (x == ("__debug__" : Str)) = false := by decide)
    (he : starEach (a :: es) X.env = (false, eval a X.env) :: starEach es X.env := by rfl) (hpl : (backTo pos (starEach es X.env)).any (·.1) = false := by rfl) : PE X (.Call (.Name x p) (a :: es) [] pos) (RD (X.D tl) (callD t g)) :=
  (pe_callTy hc hg hm hv ha hn hdb he hpl).imp fun _ _ _ h => rd_call loc h
end
end DL
noncomputable section
namespace DL
open PySem PySem.Spec PyProof.Rows L2

theorem lim_ex : ∃ n : Nat, n = 1000000 := ⟨_, rfl⟩
/-- a line that nothing reckons with -/
def lim : Nat := Classical.choose lim_ex
theorem lim_eq : lim = 1000000 := Classical.choose_spec lim_ex
theorem lim_line : lim ≤ sizeLine := by rw [sizeLine_eq, lim_eq]; decide

/-! ### ints -/
def intG (h : Int → Int → Option PyData) : DL.Env → Val → Val → Option (Val × DL.Env) := fun ρ a b => match a, b with
  | .cl (.int i), .cl (.int j) => (h i j).map fun d => (.cl d, ρ)
  | _, _ => none
theorem loc_int {K : Fg} {R : R2} {h : Int → Int → Option PyData} (hr : ∀ i j d, h i j = some d → ∃ v, (∀ {H W}, Dq K H W v d) ∧ ∀ (H : Hp) (Q : VK), Q v H → R (.int i) (.int j) H Q) : Loc2 K R (intG h) := by
  intro E P B L σ ρ ρ' H x y r1 r2 r Q R0 v1 v2 e c
  cases r1 with
  | cl d1 =>
    cases d1 <;> try (simp [intG] at e)
    cases r2 with
    | cl d2 =>
      cases d2 <;> try (simp [intG] at e)
      obtain ⟨d, e1, e2, e3⟩ := e
      subst e2; subst e3
      obtain ⟨v, hv, hq⟩ := hr _ _ _ e1
      rw [v1.int, v2.int]
      exact hq H Q (c.here R0 hv)
    | _ => simp [intG] at e
  | _ => simp [intG] at e
abbrev i2i (g : Int → Int → Int) : Int → Int → Option PyData := fun i j => some (.int (g i j))
abbrev i2b (g : Int → Int → Bool) : Int → Int → Option PyData := fun i j => some (.bool (g i j))
theorem loc_i2i {K : Fg} {g : Int → Int → Int} : Loc2 K (rI0 fun i j => .int (g i j)) (intG (i2i g)) := loc_int fun i j d e => by
  cases e
  exact ⟨.int (g i j), .int _, fun H Q q => ⟨i, j, rfl, rfl, q⟩⟩
theorem loc_i2b {K : Fg} {g : Int → Int → Bool} : Loc2 K (rI0 fun i j => .bl (g i j)) (intG (i2b g)) := loc_int fun i j d e => by
  cases e
  exact ⟨.bl (g i j), .bl _, fun H Q q => ⟨i, j, rfl, rfl, q⟩⟩
def modG (i j : Int) : Option PyData := if 0 < j then some (.int (i % j)) else none
def fdivG (i j : Int) : Option PyData := if 0 < j ∧ j.natAbs.log2 < 9000 then some (.int (i / j)) else none
def powG (i j : Int) : Option PyData := if 0 ≤ j ∧ j ≤ 1000 ∧ i.natAbs < 2 ^ 64 then some (.int (i ^ j.toNat)) else none
theorem loc_mod {K : Fg} : Loc2 K (rI (fun _ j => 0 < j) fun i j => .int (i % j)) (intG modG) := loc_int fun i j d e => by
  unfold modG at e
  split at e
  · cases e
    rename_i h
    exact ⟨.int _, .int _, fun H Q q => ⟨i, j, rfl, rfl, h, q⟩⟩
  · cases e
theorem loc_fdiv {K : Fg} : Loc2 K (rI CDivW fun i j => .int (i / j)) (intG fdivG) := loc_int fun i j d e => by
  unfold fdivG at e
  split at e
  · cases e
    rename_i h
    exact ⟨.int _, .int _, fun H Q q => ⟨i, j, rfl, rfl, h, q⟩⟩
  · cases e
theorem loc_pow {K : Fg} : Loc2 K (rI CPow fun i j => .int (i ^ j.toNat)) (intG powG) := loc_int fun i j d e => by
  unfold powG at e
  split at e
  · cases e
    rename_i h
    exact ⟨.int _, .int _, fun H Q q => ⟨i, j, rfl, rfl, ⟨h.1, by have := h.2.1; omega, h.2.2⟩, q⟩⟩
  · cases e
def negG : DL.Env → Val → Option (Val × DL.Env) := fun ρ a => match a with
  | .cl (.int i) => some (.cl (.int (-i)), ρ)
  | _ => none
theorem loc_neg {K : Fg} : Loc1 K (rU fun i => .int (-i)) negG := by
  intro E P B L σ ρ ρ' H x r1 r Q R0 v1 e c
  unfold negG at e
  split at e
  · cases e
    exact ⟨_, v1.int, c.here R0 (show VR K E P B L σ H _ (.cl (.int _)) from Dq.int _)⟩
  · cases e

/-! ### + and * -/
def addG : DL.Env → Val → Val → Option (Val × DL.Env) := fun ρ a b => match a, b with
  | .cl (.int i), .cl (.int j) => some (.cl (.int (i + j)), ρ)
  | .cl (.str i), .cl (.str j) => if i.length + j.length ≤ lim then some (.cl (.str (i ++ j)), ρ) else none
  | _, _ => match seqOf ρ a, seqOf ρ b with
    | some (true, ds), some (true, es) => if ds.length + es.length ≤ lim then some (.own (ds ++ es), ρ) else none
    | some (false, ds), some (false, es) => if ds.length + es.length ≤ lim then some (.cl (.tuple (ds ++ es)), ρ) else none
    | _, _ => none
def rAddAll (K : Fg) : R2 := fun x y H Q => (rI0 fun i j => .int (i + j)) x y H Q ∨ (∃ i j, x = .str i ∧ y = .str j ∧ i.length + j.length ≤ sizeLine ∧ Q (.str (i ++ j)) H) ∨ rCat x y H Q ∨ rCatF K x y H Q
theorem op_addAll {X : Cx} {tl : TL} : OpR X (binaryOp .Add) (rAddAll (X.D tl)) := op_add.or (op_add_str.or (op_cat.or op_catF))
theorem loc_seqAdd {K : Fg} {E P B L : List Addr} {σ : L2.St} {ρ ρ' : DL.Env} {H : Hp} {x y : V} {r1 r2 r : Val} {Q : VK} (R0 : Rep K (E ++ P) B L σ ρ H) (v1 : VR K E P B L σ H x r1) (v2 : VR K E P B L σ H y r2)
    (e : (match seqOf ρ r1, seqOf ρ r2 with
    | some (true, ds), some (true, es) => if ds.length + es.length ≤ lim then some (Val.own (ds ++ es), ρ) else none
    | some (false, ds), some (false, es) => if ds.length + es.length ≤ lim then some (Val.cl (.tuple (ds ++ es)), ρ) else none
    | _, _ => none) = some (r, ρ')) (c : Cont K P B L σ H E ρ' r Q) : rAddAll K x y H Q := by
  have ll := lim_line
  split at e
  · rename_i ds es e1 e2
    split at e
    · rename_i hz
      cases e
      obtain ⟨a, vs, rfl, h1, d1⟩ := v1.list R0 e1
      obtain ⟨b, ws, rfl, h2, d2⟩ := v2.list R0 e2
      refine .inr (.inr (.inl ⟨a, b, vs, ws, rfl, rfl, h1, h2, ?_, fun p hp => c.lst R0 (d1.append d2) hp⟩))
      rw [d1.length, d2.length]; omega
    · cases e
  · rename_i ds es e1 e2
    split at e
    · rename_i hz
      cases e
      obtain ⟨a, vs, rfl, h1, d1⟩ := v1.tuple e1
      obtain ⟨b, ws, rfl, h2, d2⟩ := v2.tuple e2
      have l1 := d1.length
      have l2 := d2.length
      refine .inr (.inr (.inr ⟨a, b, vs, ws, rfl, rfl, h1.sq, h2.sq, by omega, fun q => ?_, fun q1 q2 => ?_, fun _ _ p ob hp po => c.tup R0 (d1.append d2) hp po⟩))
      · subst q
        cases d1
        exact c.here R0 (show VR K E P B L σ H _ (.cl (.tuple ([] ++ es))) from .tup h2 d2)
      · subst q2
        cases d2
        rw [List.append_nil] at c
        exact c.here R0 (show VR K E P B L σ H _ (.cl (.tuple ds)) from .tup h1 d1)
    · cases e
  · cases e
theorem loc_add {K : Fg} : Loc2 K (rAddAll K) addG := by
  intro E P B L σ ρ ρ' H x y r1 r2 r Q R0 v1 v2 e c
  have ll := lim_line
  unfold addG at e
  split at e
  · cases e
    exact .inl ⟨_, _, v1.int, v2.int, c.here R0 (show VR K E P B L σ H _ (.cl (.int _)) from Dq.int _)⟩
  · split at e
    · cases e
      exact .inr (.inl ⟨_, _, v1.str, v2.str, by omega, c.here R0 (show VR K E P B L σ H _ (.cl (.str _)) from Dq.str _)⟩)
    · cases e
  · exact loc_seqAdd R0 v1 v2 e c

/-! ### places, slices, lengths -/
def ixG : DL.Env → Val → Val → Option (Val × DL.Env) := fun ρ a b => match seqOf ρ a, b with
  | some (_, ds), .cl (.int i) => (atI ds i).map fun d => (.cl d, ρ)
  | _, _ => none
theorem atI_dq {K : Fg} {H : Hp} {W : List Addr} {vs : List V} {ds : List PyData} {i : Int} {d : PyData} (h : DqA K H W vs ds) (e : atI ds i = some d) : ∃ v, atI vs i = some v ∧ Dq K H W v d := by
  unfold atI at e ⊢
  rw [h.length]
  obtain ⟨j, e1, e2⟩ := Option.bind_eq_some_iff.mp e
  obtain ⟨v, e3, hv⟩ := h.get e2
  exact ⟨v, by rw [e1]; exact e3, hv⟩
theorem loc_ix {K : Fg} : Loc2 K (fun x y H Q => rIxL K x y H Q ∨ rIxT K x y H Q) ixG := by
  intro E P B L σ ρ ρ' H x y r1 r2 r Q R0 v1 v2 e c
  unfold ixG at e
  split at e
  · rename_i k ds i e1
    obtain ⟨d, e2, e3⟩ := Option.map_eq_some_iff.mp e
    cases e3
    cases k with
    | true =>
      obtain ⟨a, vs, rfl, h1, d1⟩ := v1.list R0 e1
      obtain ⟨v, e4, hv⟩ := atI_dq d1 e2
      exact .inl ⟨a, vs, i, v, rfl, v2.int, .of h1, e4, c.here R0 (show VR K E P B L σ H _ (.cl d) from hv)⟩
    | false =>
      obtain ⟨a, vs, rfl, h1, d1⟩ := v1.tuple e1
      obtain ⟨v, e4, hv⟩ := atI_dq d1 e2
      exact .inr ⟨a, vs, i, v, rfl, v2.int, h1.sq, e4, c.here R0 (show VR K E P B L σ H _ (.cl d) from hv)⟩
  · cases e
theorem ix_both {X : Cx} {tl : TL} : IxR X (fun x y H Q => rIxL (X.D tl) x y H Q ∨ rIxT (X.D tl) x y H Q) := ix_list.or ix_tup

abbrev PD := DL.Env → Option (Option Int × DL.Env)
def noP : PD := fun ρ => some (none, ρ)
def aP (f : ED) : PD := fun ρ => (f ρ).bind fun p => match p.1 with
  | .cl (.int i) => some (some i, p.2)
  | _ => none
def RO (K : Fg) (f : PD) : TO := fun σ H Q => ∃ P B L ρ b ρ', Rep K P B L σ ρ H ∧ f ρ = some (b, ρ') ∧ ∀ H' L' E', Post K P B L σ H [] ρ' H' L' E' → Q b H'
def sliceD (f : ED) (lo hi : PD) (g : DL.Env → Val → Option Int → Option Int → Option (Val × DL.Env)) : ED := fun ρ => (f ρ).bind fun p => (lo p.2).bind fun q => (hi q.2).bind fun s => g s.2 p.1 q.1 s.1
def cutD (ds : List PyData) (lo hi : Option Int) : List PyData := (ds.drop (HT.sIx ds.length 0 lo)).take (HT.sIx ds.length ds.length hi - HT.sIx ds.length 0 lo)
theorem cut_dq {K : Fg} {H : Hp} {W : List Addr} {vs : List V} {ds : List PyData} (h : DqA K H W vs ds) (lo hi : Option Int) : DqA K H W (cutV vs lo hi) (cutD ds lo hi) := by
  unfold cutV cutD
  rw [h.length]
  exact (h.drop _).take _
def cutG : DL.Env → Val → Option Int → Option Int → Option (Val × DL.Env) := fun ρ a lo hi => match seqOf ρ a with
  | some (true, ds) => some (.own (cutD ds lo hi), ρ)
  | some (false, ds) => some (.cl (.tuple (cutD ds lo hi)), ρ)
  | none => none
theorem _root_.L2.PO.imp {X : Cx} {e : Option Expr} {t t' : TO} (p : PO X e t) (h : ∀ σ H Q, t' σ H Q → t σ H Q) : PO X e t' := ⟨fun pins s σ H Q I q => p.run pins s σ H Q I (h σ H Q q)⟩
section
variable {X : Cx} {tl : TL} {a b c : Expr} {f : ED} {lo hi : PD} {pos p2 : Pos} {el eh : Option Expr}
theorem o_none : PO X none (RO (X.D tl) noP) := po_none.imp fun σ H Q h => by
  obtain ⟨P, B, L, ρ, b, ρ', R0, e, k⟩ := h
  cases e
  exact k H L [] (.refl R0)
theorem o_some (h : PE X a (RD (X.D tl) f)) : PO X (some a) (RO (X.D tl) (aP f)) := (po_some h).imp fun σ H Q h => by
  obtain ⟨P, B, L, ρ, b, ρ', R0, e, k⟩ := h
  obtain ⟨⟨r1, ρ1⟩, e1, e2⟩ := Option.bind_eq_some_iff.mp e
  refine ⟨P, B, L, ρ, r1, ρ1, R0, e1, fun x H1 La Ea p1 v1 => ?_⟩
  cases r1 with
  | cl d =>
    cases d <;> simp at e2
    obtain ⟨e3, e4⟩ := e2
    subst e3; subst e4
    exact ⟨_, v1.int, k _ _ _ p1⟩
  | own ds => simp at e2
  | sl i => simp at e2
theorem d_slice (he : PE X a (RD (X.D tl) f)) (hl : PO X el (RO (X.D tl) lo)) (hu : PO X eh (RO (X.D tl) hi)) : PE X (.Subscript a (.Slice el eh none p2) pos) (RD (X.D tl) (sliceD f lo hi cutG)) :=
  (pe_slice (sl_list.or sl_tupF) he hl hu).imp fun σ H Q h => by
    obtain ⟨P, B, L, ρ, r, ρ', R0, e, k⟩ := h
    obtain ⟨⟨r1, ρ1⟩, e1, e⟩ := Option.bind_eq_some_iff.mp e
    obtain ⟨⟨o1, ρ2⟩, e2, e⟩ := Option.bind_eq_some_iff.mp e
    obtain ⟨⟨o2, ρ3⟩, e3, e⟩ := Option.bind_eq_some_iff.mp e
    refine ⟨P, B, L, ρ, r1, ρ1, R0, e1, fun x H1 La Ea p1 v1 => ⟨Ea ++ P, B, La, ρ1, o1, ρ2, p1.rep, e2, fun H2 Lb Eb p2 => ?_⟩⟩
    have p12 := p1.two p2
    have v2 := v1.later p1.rep p2
    refine ⟨(Eb ++ Ea) ++ P, B, Lb, ρ2, o2, ρ3, p12.rep, e3, fun H3 Lc Ec p3 => ?_⟩
    have p := p12.two p3
    have v := v2.later p12.rep p3
    have k := k.after p
    simp only [cutG] at e
    split at e
    · rename_i ds e4
      cases e
      obtain ⟨a, vs, rfl, h1, d1⟩ := v.list p.rep e4
      exact .inl ⟨a, vs, rfl, .of h1, fun q hq => k.lst p.rep (cut_dq d1 _ _) hq⟩
    · rename_i ds e4
      cases e
      obtain ⟨a, vs, rfl, h1, d1⟩ := v.tuple e4
      refine .inr ⟨a, vs, rfl, h1.sq, fun hw => ?_, fun _ q ob hq po => k.tup p.rep (cut_dq d1 _ _) hq po⟩
      have ec : cutD ds o1 o2 = ds := by
        unfold cutD
        rw [← d1.length, hw.1, hw.2, List.drop_zero, d1.length]
        simp
      rw [ec] at k
      exact k.here p.rep (show VR (X.D tl) _ _ _ _ _ _ _ (.cl (.tuple ds)) from .tup h1 d1)
    · cases e
end
/-- a call of one argument -/
def oneG (g : DL.Env → Val → Option (Val × DL.Env)) : DL.Env → List Val → Option (Val × DL.Env) := fun ρ rs => match rs with
  | [a] => g ρ a
  | _ => none
def twoG (g : DL.Env → Val → Val → Option (Val × DL.Env)) : DL.Env → List Val → Option (Val × DL.Env) := fun ρ rs => match rs with
  | [a, b] => g ρ a b
  | _ => none
theorem loc_one {K : Fg} {R : V → Hp → VK → Prop} {g} (h : Loc1 K R g) : LocN K (fun xs H Q => ∃ x, xs = [x] ∧ R x H Q) (oneG g) := by
  intro E P B L σ ρ ρ' H xs rs r Q R0 v e c
  cases v with
  | nil => cases e
  | @cons x r1 xs rs v1 d vs =>
    cases vs with
    | nil => exact ⟨x, rfl, h R0 v1 e c⟩
    | cons _ _ _ => cases e
theorem loc_two {K : Fg} {R : R2} {g} (h : Loc2 K R g) : LocN K (fun xs H Q => ∃ x y, xs = [x, y] ∧ R x y H Q) (twoG g) := by
  intro E P B L σ ρ ρ' H xs rs r Q R0 v e c
  cases v with
  | nil => cases e
  | @cons x r1 xs rs v1 d vs =>
    cases vs with
    | nil => cases e
    | @cons y r2 xs rs v2 d2 vs =>
      cases vs with
      | nil => exact ⟨x, y, rfl, h R0 v1 v2 e c⟩
      | cons _ _ _ => cases e
theorem _root_.L2.CallR.imp {X : Cx} {f : Value} {r r' : List V → Hp → VK → Prop} (h : CallR X f r) (hi : ∀ xs H Q, r' xs H Q → r xs H Q) : CallR X f r' := fun pins s σ H xs us Q I rv q => h pins s σ H xs us Q I rv (hi xs H Q q)
def lenG : DL.Env → Val → Option (Val × DL.Env) := fun ρ a => match a with
  | .cl (.str z) => if z.length ≤ lim then some (.cl (.int z.length), ρ) else none
  | _ => (seqOf ρ a).map fun p => (.cl (.int p.2.length), ρ)
theorem loc_len {K : Fg} : Loc1 K (fun x H Q => ∃ n, LenV K x H n ∧ Q (.int n) H) lenG := by
  intro E P B L σ ρ ρ' H x r1 r Q R0 v1 e c
  have ll := lim_line
  unfold lenG at e
  split at e
  · split at e
    · cases e
      rename_i z hz
      rw [v1.str]
      exact ⟨_, ⟨by omega, rfl⟩, c.here R0 (show VR K E P B L σ H _ (.cl (.int _)) from Dq.int _)⟩
    · cases e
  · obtain ⟨⟨k, ds⟩, e1, e2⟩ := Option.map_eq_some_iff.mp e
    cases e2
    cases k with
    | true =>
      obtain ⟨a, vs, rfl, h1, d1⟩ := v1.list R0 e1
      refine ⟨vs.length, .inl ⟨vs, .of h1, rfl⟩, ?_⟩
      rw [d1.length]
      exact c.here R0 (show VR K E P B L σ H _ (.cl (.int _)) from Dq.int _)
    | false =>
      obtain ⟨a, vs, rfl, h1, d1⟩ := v1.tuple e1
      refine ⟨vs.length, .inr ⟨vs, h1.sq, rfl⟩, ?_⟩
      rw [d1.length]
      exact c.here R0 (show VR K E P B L σ H _ (.cl (.int _)) from Dq.int _)
theorem c_len {X : Cx} {tl : TL} : CallR X (.builtin "len") (fun xs H Q => ∃ x, xs = [x] ∧ ∃ n, LenV (X.D tl) x H n ∧ Q (.int n) H) := call_len.imp fun xs H Q ⟨x, e, n, h, q⟩ => ⟨x, n, e, h, q⟩
/-! abs, int, max, min -/
def absG : DL.Env → Val → Option (Val × DL.Env) := fun ρ a => match a with
  | .cl (.int i) => some (.cl (.int (if i < 0 then -i else i)), ρ)
  | _ => none
theorem loc_abs {K : Fg} : Loc1 K (fun x H Q => ∃ i, x = .int i ∧ Q (.int (if i < 0 then -i else i)) H) absG := by
  intro E P B L σ ρ ρ' H x r1 r Q R0 v1 e c
  unfold absG at e
  split at e
  · cases e
    exact ⟨_, v1.int, c.here R0 (show VR K E P B L σ H _ (.cl (.int _)) from Dq.int _)⟩
  · cases e
theorem c_abs {X : Cx} : CallR X (.builtin "abs") (fun xs H Q => ∃ x, xs = [x] ∧ ∃ i, x = .int i ∧ Q (.int (if i < 0 then -i else i)) H) := call_abs.imp fun xs H Q ⟨x, e, i, h, q⟩ => ⟨i, by rw [e, h], q⟩
def intTG : DL.Env → Val → Option (Val × DL.Env) := fun ρ a => match a with
  | .cl (.int i) => some (.cl (.int i), ρ)
  | .cl (.bool b) => some (.cl (.int (if b then 1 else 0)), ρ)
  | _ => none
theorem loc_intT {K : Fg} : Loc1 K (fun x H Q => (∃ i, x = .int i ∧ Q (.int i) H) ∨ ∃ k, x = .bl k ∧ Q (.int (if k then 1 else 0)) H) intTG := by
  intro E P B L σ ρ ρ' H x r1 r Q R0 v1 e c
  unfold intTG at e
  split at e
  · cases e
    exact .inl ⟨_, v1.int, c.here R0 (show VR K E P B L σ H _ (.cl (.int _)) from Dq.int _)⟩
  · cases e
    exact .inr ⟨_, v1.bl, c.here R0 (show VR K E P B L σ H _ (.cl (.int _)) from Dq.int _)⟩
  · cases e
theorem c_intT {X : Cx} : CallR X (.type "int") (fun xs H Q => ∃ x, xs = [x] ∧ ((∃ i, x = .int i ∧ Q (.int i) H) ∨ ∃ k, x = .bl k ∧ Q (.int (if k then 1 else 0)) H)) := call_int1.imp fun xs H Q ⟨x, e, h⟩ => by
  rcases h with ⟨i, h, q⟩ | ⟨i, h, q⟩
  · exact .inl ⟨i, by rw [e, h], q⟩
  · exact .inr ⟨i, by rw [e, h], q⟩
theorem c_max2 {X : Cx} (hc : X.calm = true) : CallR X (.builtin "max") (fun xs H Q => ∃ x y, xs = [x, y] ∧ (rI0 fun i j => .int (if j > i then j else i)) x y H Q) := (call_max2 hc).imp fun xs H Q ⟨x, y, e, i, j, h1, h2, q⟩ => ⟨i, j, by rw [e, h1, h2], q⟩
theorem c_min2 {X : Cx} (hc : X.calm = true) : CallR X (.builtin "min") (fun xs H Q => ∃ x y, xs = [x, y] ∧ (rI0 fun i j => .int (if j < i then j else i)) x y H Q) := (call_min2 hc).imp fun xs H Q ⟨x, y, e, i, j, h1, h2, q⟩ => ⟨i, j, by rw [e, h1, h2], q⟩
def max2G : DL.Env → List Val → Option (Val × DL.Env) := twoG (intG (i2i fun i j => if j > i then j else i))
def min2G : DL.Env → List Val → Option (Val × DL.Env) := twoG (intG (i2i fun i j => if j < i then j else i))
theorem loc_max2 {K : Fg} : LocN K (fun xs H Q => ∃ x y, xs = [x, y] ∧ (rI0 fun i j => .int (if j > i then j else i)) x y H Q) max2G := loc_two loc_i2i
theorem loc_min2 {K : Fg} : LocN K (fun xs H Q => ∃ x y, xs = [x, y] ∧ (rI0 fun i j => .int (if j < i then j else i)) x y H Q) min2G := loc_two loc_i2i
/-! list(x), tuple(x) -/
def listG : DL.Env → Val → Option (Val × DL.Env) := fun ρ a => (seqOf ρ a).map fun p => (.own p.2, ρ)
def tupleG : DL.Env → Val → Option (Val × DL.Env) := fun ρ a => (seqOf ρ a).map fun p => (.cl (.tuple p.2), ρ)
theorem loc_list {K : Fg} : Loc1 K (fun x H Q => ∃ p ys, x = .ref p ∧ (SqL K H p ys ∨ SqT K H p ys) ∧ ∀ l, H l = none → Q (.ref l) (upd H l (.lst ys))) listG := by
  intro E P B L σ ρ ρ' H x r1 r Q R0 v1 e c
  unfold listG at e
  obtain ⟨⟨k, ds⟩, e1, e2⟩ := Option.map_eq_some_iff.mp e
  cases e2
  cases k with
  | true =>
    obtain ⟨a, vs, rfl, h1, d1⟩ := v1.list R0 e1
    exact ⟨a, vs, rfl, .inl (.of h1), fun l hl => c.lst R0 d1 hl⟩
  | false =>
    obtain ⟨a, vs, rfl, h1, d1⟩ := v1.tuple e1
    exact ⟨a, vs, rfl, .inr h1.sq, fun l hl => c.lst R0 d1 hl⟩
theorem loc_tuple {K : Fg} : Loc1 K (fun x H Q => ∃ p ys, x = .ref p ∧ ((SqL K H p ys ∧ NewT H Q ys) ∨ (SqT K H p ys ∧ Q (.ref p) H))) tupleG := by
  intro E P B L σ ρ ρ' H x r1 r Q R0 v1 e c
  unfold tupleG at e
  obtain ⟨⟨k, ds⟩, e1, e2⟩ := Option.map_eq_some_iff.mp e
  cases e2
  cases k with
  | true =>
    obtain ⟨a, vs, rfl, h1, d1⟩ := v1.list R0 e1
    exact ⟨a, vs, rfl, .inl ⟨.of h1, fun l ob hl po => c.tup R0 d1 hl po⟩⟩
  | false =>
    obtain ⟨a, vs, rfl, h1, d1⟩ := v1.tuple e1
    exact ⟨a, vs, rfl, .inr ⟨TupD.sq h1, c.here R0 (show VR K E P B L σ H _ (.cl (.tuple ds)) from .tup h1 d1)⟩⟩
theorem c_list {X : Cx} {tl : TL} : CallR X (.type "list") (fun xs H Q => ∃ x, xs = [x] ∧ ∃ p ys, x = .ref p ∧ (SqL (X.D tl) H p ys ∨ SqT (X.D tl) H p ys) ∧ ∀ l, H l = none → Q (.ref l) (upd H l (.lst ys))) := call_list_of.imp fun xs H Q ⟨x, e, p, ys, h, q⟩ => ⟨p, ys, by rw [e, h], q⟩
theorem c_tuple {X : Cx} {tl : TL} : CallR X (.type "tuple") (fun xs H Q => ∃ x, xs = [x] ∧ ∃ p ys, x = .ref p ∧ ((SqL (X.D tl) H p ys ∧ NewT H Q ys) ∨ (SqT (X.D tl) H p ys ∧ Q (.ref p) H))) := call_tupleF.imp fun xs H Q ⟨x, e, p, ys, h, q⟩ => ⟨p, ys, by rw [e, h], q⟩

/-! ### displays -/
def psAll (ρ : DL.Env) : List Val → Option (List PyData × DL.Env)
  | [] => some ([], ρ)
  | r :: rs => (psV ρ r).bind fun p => (psAll p.2 rs).bind fun q => some (p.1 :: q.1, q.2)
theorem vrs_psd {K : Fg} {E P B L E' L' : List Addr} {σ : L2.St} {H : Hp} {x : V} {r : Val} {xs : List V} {rs : List Val}
    (h : ∀ y s, VR K E P B L σ H y s → (r.isOwn = true → s.isOwn = true → y ≠ x) → VR K E' P B L' σ H y s) (hd : r.isOwn = true → ∀ p ∈ xs.zip rs, p.2.isOwn = true → p.1 ≠ x) (vs : VRs K E P B L σ H xs rs) : VRs K E' P B L' σ H xs rs := by
  induction vs with
  | nil => exact .nil
  | @cons y s ys ss w d _ ih => exact .cons (h y s w fun h1 h2 => hd h1 (y, s) (List.mem_cons_self ..) h2) d (ih fun h1 p hp h2 => hd h1 p (List.mem_cons_of_mem _ hp) h2)
theorem psAll_of {K : Fg} {P B : List Addr} {σ : L2.St} {H : Hp} : ∀ {E L : List Addr} {ρ ρ' : DL.Env} {xs : List V} {rs : List Val} {ds : List PyData}, Rep K (E ++ P) B L σ ρ H → VRs K E P B L σ H xs rs → psAll ρ rs = some (ds, ρ') →
    ∃ E' L', Rep K (E' ++ P) B L' σ ρ' H ∧ DqA K H (E' ++ P ++ B ++ L') xs ds ∧ (∀ a ∈ E', a ∈ E) ∧ ∀ a ∈ L', a ∈ L := by
  intro E L ρ ρ' xs rs
  induction rs generalizing E L ρ xs with
  | nil =>
    intro ds R v e
    cases v
    cases e
    exact ⟨E, L, R, .nil, fun _ z => z, fun _ z => z⟩
  | cons r rs ih =>
    intro ds R v e
    cases v with
    | cons v1 d vs =>
      obtain ⟨⟨d1, ρ1⟩, e1, e⟩ := Option.bind_eq_some_iff.mp e
      obtain ⟨⟨ds2, ρ2⟩, e2, e⟩ := Option.bind_eq_some_iff.mp e
      cases e
      obtain ⟨E1, La, p1, h1⟩ := psd_of R v1 e1
      obtain ⟨E2, Lb, R2, dq, es, ls⟩ := ih p1.rep (vrs_psd h1 d vs) e2
      refine ⟨E2, Lb, R2, .cons (p1.dq.sub fun a z => ?_) dq, fun a z => p1.es a (es a z), fun a z => p1.ls a (ls a z)⟩
      rcases mem4.mp z with z | z | z | z
      · exact mem4.mpr (.inl (es a z))
      · exact mem4.mpr (.inr (.inl z))
      · exact mem4.mpr (.inr (.inr (.inl z)))
      · exact mem4.mpr (.inr (.inr (.inr (ls a z))))
theorem Post.less {K : Fg} {E P B L E' L' : List Addr} {σ : L2.St} {ρ' : DL.Env} {H : Hp} (R : Rep K (E' ++ P) B L' σ ρ' H) (es : ∀ a ∈ E', a ∈ E) (ls : ∀ a ∈ L', a ∈ L) : Post K P B L σ H E ρ' H L' E' :=
  ⟨R, ⟨keep_refl, fun a z => .inl (ls a z), fun _ h => h⟩, fun a z => .inl (es a z)⟩
def tupD (t : AD) : ED := callD t fun ρ rs => (psAll ρ rs).bind fun p => if p.1.length ≤ lim then some (.cl (.tuple p.1), p.2) else none
def lstD (t : AD) : ED := callD t fun ρ rs => (psAll ρ rs).bind fun p => if p.1.length ≤ lim then some (.own p.1, p.2) else none
section
variable {X : Cx} {tl : TL} {es : List Expr} {t : AD} {pos : Pos}
theorem disp_core {σ : L2.St} {H : Hp} {Q : VK} {f : List PyData → Val} {New : Hp → VK → List V → Prop} (hf : ∀ {P B L E : List Addr} {ρ : DL.Env} {H : Hp} {vs : List V} {ds : List PyData}, Rep (X.D tl) (E ++ P) B L σ ρ H → DqA (X.D tl) H (E ++ P ++ B ++ L) vs ds → Cont (X.D tl) P B L σ H E ρ (f ds) Q → New H Q vs)
    (h : RD (X.D tl) (callD t fun ρ rs => (psAll ρ rs).bind fun p => if p.1.length ≤ lim then some (f p.1, p.2) else none) σ H Q) : RA (X.D tl) t σ H fun xs H1 => xs.length ≤ sizeLine ∧ New H1 Q xs := by
  have ll := lim_line
  obtain ⟨P, B, L, ρ, r, ρ', R0, e, k⟩ := h
  obtain ⟨⟨r1, ρ1⟩, e1, e⟩ := Option.bind_eq_some_iff.mp e
  obtain ⟨⟨ds, ρ2⟩, e2, e⟩ := Option.bind_eq_some_iff.mp e
  simp only at e
  split at e
  · rename_i hz
    cases e
    refine ⟨P, B, L, ρ, r1, ρ1, R0, e1, fun xs H1 La Ea p1 v1 => ?_⟩
    obtain ⟨E', L', R', dq, es, ls⟩ := psAll_of p1.rep v1 e2
    have p2 := Post.less (K := (X.D tl)) R' es ls
    have hz' : ds.length ≤ lim := hz
    refine ⟨by rw [dq.length]; omega, hf R' dq (k.after (p1.then p2))⟩
  · cases e
theorem d_tup {x1} (h : PA X es (RA (X.D tl) t)) : PE X (.Tuple es x1 pos) (RD (X.D tl) (tupD t)) := (pe_tupF h).imp fun σ H Q h => (disp_core (New := fun H Q xs => NewT H Q xs) (f := fun ds => .cl (.tuple ds)) (fun R d c p ob hp po => c.tup R d hp po) h)
theorem d_lst (h : PA X es (RA (X.D tl) t)) : PE X (.List es pos) (RD (X.D tl) (lstD t)) := (pe_lst h).imp fun σ H Q h => disp_core (New := fun H Q xs => ∀ p, H p = none → Q (.ref p) (upd H p (.lst xs))) (f := fun ds => .own ds) (fun R d c p hp => c.lst R d hp) h
end
end DL
end
noncomputable section
namespace DL
open PySem PySem.Spec PyProof.Rows L2

/-! ### statements -/
inductive Out where
  | nx (ρ : DL.Env) | ct (ρ : DL.Env) | bk (ρ : DL.Env) | rt (r : Val) (ρ : DL.Env)
abbrev SD := DL.Env → Option Out
def OutOk (K : Fg) (P B L : List Addr) (H : Hp) (D : Ends) : Out → Prop
  | .nx ρ' => ∀ σ' H' L', Rep K P B L' σ' ρ' H' → Step B L H L' H' → D.nx σ' H'
  | .ct ρ' => ∀ σ' H' L', Rep K P B L' σ' ρ' H' → Step B L H L' H' → D.ct σ' H'
  | .bk ρ' => ∀ σ' H' L', Rep K P B L' σ' ρ' H' → Step B L H L' H' → D.bk σ' H'
  | .rt r ρ' => ∀ σ' x H' L' E', Rep K (E' ++ P) B L' σ' ρ' H' → Step B L H L' H' → (∀ a ∈ E', H a = none) → VR K E' P B L' σ' H' x r → D.rt x H'
def RS (K : Fg) (g : SD) : TS := fun D σ H => ∃ P B L ρ o, Rep K P B L σ ρ H ∧ g ρ = some o ∧ OutOk K P B L H D o
theorem OutOk.after {K : Fg} {P B L La : List Addr} {H Ha : Hp} {D : Ends} {o : Out} (h : OutOk K P B L H D o) (s : Step B L H La Ha) : OutOk K P B La Ha D o := by
  cases o with
  | nx ρ => exact fun σ' H' L' R q => h σ' H' L' R (s.trans q)
  | ct ρ => exact fun σ' H' L' R q => h σ' H' L' R (s.trans q)
  | bk ρ => exact fun σ' H' L' R q => h σ' H' L' R (s.trans q)
  | rt r ρ => exact fun σ' x H' L' E' R q f v => h σ' x H' L' E' R (s.trans q) (fun a ha => by
      cases e : H a with
      | none => rfl
      | some u => exact absurd (f a ha) (s.ne a (by rw [e]; exact fun z => nomatch z))) v
def nilS : SD := fun ρ => some (.nx ρ)
def seqS (g h : SD) : SD := fun ρ => (g ρ).bind fun o => match o with
  | .nx ρ' => h ρ'
  | o => some o
def ifS (c : TD) (g h : SD) : SD := fun ρ => (c ρ).bind fun p => if p.1 = true then g p.2 else h p.2
def retS (f : ED) : SD := fun ρ => (f ρ).bind fun p => some (.rt p.1 p.2)
def retN : SD := fun ρ => some (.rt (.cl .none) ρ)
def dropS (f : ED) : SD := fun ρ => (f ρ).bind fun p => some (.nx p.2)
def ctS : SD := fun ρ => some (.ct ρ)
def bkS : SD := fun ρ => some (.bk ρ)
/-- a value comes to slot i -/
def stV (ρ : DL.Env) (i : Nat) (r : Val) : Option DL.Env := match r with
  | .own ds => some (ρ.set i (.op ds))
  | r => (psV ρ r).map fun p => p.2.set i (.cl p.1)
def setS (i : Nat) (f : ED) : SD := fun ρ => (f ρ).bind fun p => (stV p.2 i p.1).map .nx
def stAll (ρ : DL.Env) : List Nat → List Val → Option DL.Env
  | [], [] => some ρ
  | i :: is, r :: rs => (stV ρ i r).bind fun ρ' => stAll ρ' is rs
  | _, _ => none
def setT (is : List Nat) (t : AD) : SD := fun ρ => (t ρ).bind fun p => (stAll p.2 is p.1).map .nx
def augS (i : Nat) (f : ED) (g : Int → Int → Int) : SD := fun ρ => match ρ.getD i .no with
  | .cl (.int a) => (f ρ).bind fun p => match p.1 with
    | .cl (.int b) => some (.nx (p.2.set i (.cl (.int (g a b)))))
    | _ => none
  | _ => none

section
variable {K : Fg} {P B L E : List Addr} {σ : L2.St} {ρ ρ' : DL.Env} {H : Hp} {x : V} {r : Val}
theorem getS_set (σ : L2.St) (i j : Nat) (x : Option V) : (σ.set i x)[j]? = if i = j ∧ i < σ.length then some x else σ[j]? := by
  rw [List.getElem?_set]
  by_cases h : i = j
  · subst h
    by_cases h2 : i < σ.length
    · simp [h2]
    · simp [h2]
  · simp [h]
/-- closed data into a slot -/
theorem Rep.setCl {d : PyData} (R : Rep K P B L σ ρ H) (i : Nat) (h : Dq K H (P ++ B ++ L) x d) : Rep K P B L (σ.set i (some x)) (ρ.set i (.cl d)) H := by
  refine ⟨by rw [List.length_set, List.length_set]; exact R.len, R.wl, R.nd, fun j => ?_, fun j k a hjk h1 h2 e1 e2 => ?_, R.tabs⟩
  · rw [getD_set, getS_set, R.len]
    by_cases hj : i = j ∧ i < ρ.length
    · rw [if_pos hj, if_pos hj]
      exact ⟨x, rfl, h⟩
    · rw [if_neg hj, if_neg hj]
      exact R.ok j
  · rw [getD_set] at h1 h2
    rw [getS_set, R.len] at e1 e2
    by_cases hj : i = j ∧ i < ρ.length
    · rw [if_pos hj] at h1; cases h1
    · by_cases hk : i = k ∧ i < ρ.length
      · rw [if_pos hk] at h2; cases h2
      · rw [if_neg hj] at h1 e1
        rw [if_neg hk] at h2 e2
        exact R.inj j k a hjk h1 h2 e1 e2
/-- a new list into a slot -/
theorem Rep.setOp {ds : List PyData} {vs : List V} {a : Addr} (R : Rep K ([a] ++ P) B L σ ρ H) (ha : a ∉ P) (i : Nat) (hh : H a = some (.lst vs)) (h : DqA K H ([a] ++ P ++ B ++ L) vs ds) : Rep K P B (a :: L) (σ.set i (some (.ref a))) (ρ.set i (.op ds)) H := by
  have hw : ∀ b ∈ P ++ B ++ (a :: L), b ∈ ([a] ++ P) ++ B ++ L := fun b z => by
    rcases mem3.mp z with z | z | z
    · exact mem4.mpr (.inr (.inl z))
    · exact mem4.mpr (.inr (.inr (.inl z)))
    · rcases List.mem_cons.mp z with z | z
      · exact mem4.mpr (.inl (by simp [z]))
      · exact mem4.mpr (.inr (.inr (.inr z)))
  have hn := R.nd.1 a (by simp)
  -- no open slot holds a
  have ns : ∀ j b, (ρ.getD j .no).isOpen = true → σ[j]? = some (some (V.ref b)) → b ≠ a := fun j b ho e => by
    have q := R.ok j
    revert q ho
    generalize ρ.getD j .no = c
    intro ho q z
    subst z
    cases c with
    | op ds => obtain ⟨a', vs', e1, h1, _⟩ := q; rw [e] at e1; cases e1; exact hn.2 h1
    | pm ds => obtain ⟨a', vs', e1, h1, _⟩ := q; rw [e] at e1; cases e1; exact hn.1 h1
    | _ => cases ho
  refine ⟨by rw [List.length_set, List.length_set]; exact R.len, fun b z => R.wl b (hw b z), ⟨fun b z => ?_, fun b z y => ?_⟩, fun j => ?_, fun j k b hjk h1 h2 e1 e2 => ?_, R.tabs⟩
  · have q := R.nd.1 b (List.mem_append_right _ z)
    exact ⟨q.1, fun y => (List.mem_cons.mp y).elim (fun y => ha (y ▸ z)) q.2⟩
  · exact (List.mem_cons.mp y).elim (fun y => hn.1 (y ▸ z)) (R.nd.2 b z)
  · rw [getD_set, getS_set, R.len]
    by_cases hj : i = j ∧ i < ρ.length
    · rw [if_pos hj, if_pos hj]
      exact ⟨a, vs, rfl, List.mem_cons_self .., hh, h.sub hw⟩
    · rw [if_neg hj, if_neg hj]
      have q := R.ok j
      revert q
      generalize ρ.getD j .no = c
      intro q
      cases c with
      | no => trivial
      | cl d => obtain ⟨v, e, h⟩ := q; exact ⟨v, e, h.sub hw⟩
      | op ds => obtain ⟨b, vs, e, hm, hh, h⟩ := q; exact ⟨b, vs, e, List.mem_cons_of_mem _ hm, hh, h.sub hw⟩
      | pm ds => obtain ⟨b, vs, e, hm, hh, h⟩ := q; exact ⟨b, vs, e, hm, hh, h.sub hw⟩
  · rw [getD_set] at h1 h2
    rw [getS_set, R.len] at e1 e2
    by_cases hj : i = j ∧ i < ρ.length
    · rw [if_pos hj] at e1; cases e1
      by_cases hk : i = k ∧ i < ρ.length
      · exact hjk (hj.1.symm.trans hk.1)
      · rw [if_neg hk] at h2 e2
        exact ns k _ h2 e2 rfl
    · rw [if_neg hj] at h1 e1
      by_cases hk : i = k ∧ i < ρ.length
      · rw [if_pos hk] at e2; cases e2
        exact ns j _ h1 e1 rfl
      · rw [if_neg hk] at h2 e2
        exact R.inj j k b hjk h1 h2 e1 e2
/-- what a store leaves: the rest of the values as they were, but to what E', L' became -/
theorem stV_of {i : Nat} (R : Rep K (E ++ P) B L σ ρ H) (v : VR K E P B L σ H x r) (e : stV ρ i r = some ρ') :
    ∃ E' L', Rep K (E' ++ P) B L' (σ.set i (some x)) ρ' H ∧ (∀ a ∈ E', a ∈ E) ∧ (∀ a ∈ L', a ∈ L ∨ a ∈ E) ∧
      ∀ y s, VR K E P B L σ H y s → (∀ j, s ≠ .sl j) → (r.isOwn = true → s.isOwn = true → y ≠ x) → VR K E' P B L' (σ.set i (some x)) H y s := by
  by_cases ho : r.isOwn = true
  · cases r with
    | own ds =>
      cases e
      obtain ⟨a, vs, rfl, hm, hp, hh, h⟩ := v
      have hw : ∀ b ∈ [a] ++ (less E a ++ P) ++ B ++ L, b ∈ E ++ P ++ B ++ L := fun b z => by
        rcases mem4.mp z with z | z | z | z
        · exact mem4.mpr (.inl (by simpa using (show b = a by simpa using z) ▸ hm))
        · rcases List.mem_append.mp z with z | z
          · exact mem4.mpr (.inl (mem_less.mp z).1)
          · exact mem4.mpr (.inr (.inl z))
        · exact mem4.mpr (.inr (.inr (.inl z)))
        · exact mem4.mpr (.inr (.inr (.inr z)))
      have R1 : Rep K ([a] ++ (less E a ++ P)) B L σ ρ H := by
        have q := R.lessE (P := P) (a :: less E a) fun b z => by
          rcases List.mem_cons.mp z with z | z
          · exact z ▸ hm
          · exact (mem_less.mp z).1
        simpa using q
      refine ⟨less E a, a :: L, R1.setOp (fun z => ?_) i hh (h.sub hw), fun b z => (mem_less.mp z).1, fun b z => ?_, fun y s q hs hn => ?_⟩
      · rcases List.mem_append.mp z with z | z
        · exact (mem_less.mp z).2 rfl
        · exact hp z
      · rcases List.mem_cons.mp z with z | z
        · exact .inr (z ▸ hm)
        · exact .inl z
      · have hw2 : ∀ b ∈ less E a ++ P ++ B ++ (a :: L), b ∈ E ++ P ++ B ++ L := fun b z => by
          rcases mem4.mp z with z | z | z | z
          · exact mem4.mpr (.inl (mem_less.mp z).1)
          · exact mem4.mpr (.inr (.inl z))
          · exact mem4.mpr (.inr (.inr (.inl z)))
          · rcases List.mem_cons.mp z with z | z
            · exact mem4.mpr (.inl (z ▸ hm))
            · exact mem4.mpr (.inr (.inr (.inr z)))
        cases s with
        | cl d => exact Dq.sub hw2 q
        | own es => obtain ⟨b, us, e1, h1, h2, h3, h4⟩ := q; exact ⟨b, us, e1, mem_less.mpr ⟨h1, fun z => hn rfl rfl (by rw [e1, z])⟩, h2, h3, h4.sub hw2⟩
        | sl j => exact absurd rfl (hs j)
    | _ => cases ho
  · have e' : ((psV ρ r).map fun p => p.2.set i (.cl p.1)) = some ρ' := by
      cases r with
      | own ds => exact absurd rfl ho
      | _ => exact e
    obtain ⟨⟨d, ρ1⟩, e1, e2⟩ := Option.map_eq_some_iff.mp e'
    subst e2
    obtain ⟨E', L', p, hv⟩ := psd_of R v e1
    refine ⟨E', L', p.rep.setCl i p.dq, p.es, fun a z => .inl (p.ls a z), fun y s q hs hn => ?_⟩
    have q' := hv y s q hn
    cases s with
    | cl d => exact q'
    | own es => exact q'
    | sl j => exact absurd rfl (hs j)
theorem stAll_of : ∀ {is : List Nat} {rs : List Val} {E L : List Addr} {σ : L2.St} {ρ ρ' : DL.Env} {xs : List V}, Rep K (E ++ P) B L σ ρ H → VRs K E P B L σ H xs rs → (∀ r ∈ rs, ∀ j, r ≠ .sl j) → stAll ρ is rs = some ρ' →
    ∃ E' L', Rep K (E' ++ P) B L' ((is.zip xs).foldl (fun s p => s.set p.1 (some p.2)) σ) ρ' H ∧ (∀ a ∈ E', a ∈ E) ∧ (∀ a ∈ L', a ∈ L ∨ a ∈ E) ∧ is.length = xs.length
  | [], [], E, L, σ, ρ, ρ', xs, R, v, _, e => by
    cases v
    cases e
    exact ⟨E, L, R, fun _ z => z, fun _ z => .inl z, rfl⟩
  | i :: is, r :: rs, E, L, σ, ρ, ρ', xs, R, v, hs, e => by
    cases v with
    | @cons x r xs rs v1 d vs =>
      obtain ⟨ρ1, e1, e2⟩ := Option.bind_eq_some_iff.mp e
      obtain ⟨E1, La, R1, h1, h2, hv⟩ := stV_of R v1 e1
      have vs' : VRs K E1 P B La (σ.set i (some x)) H xs rs := by
        have hs' : ∀ r ∈ rs, ∀ j, r ≠ .sl j := fun r hr => hs r (List.mem_cons_of_mem _ hr)
        clear e e2 hs
        induction vs with
        | nil => exact .nil
        | @cons y s ys ss w d2 _ ih =>
          exact .cons (hv y s w (hs' s (List.mem_cons_self ..)) fun q1 q2 => d q1 (y, s) (List.mem_cons_self ..) q2) d2 (ih (fun q p hp q2 => d q p (List.mem_cons_of_mem _ hp) q2) fun r hr => hs' r (List.mem_cons_of_mem _ hr))
      obtain ⟨E2, Lb, R2, g1, g2, g3⟩ := stAll_of R1 vs' (fun r hr => hs r (List.mem_cons_of_mem _ hr)) e2
      refine ⟨E2, Lb, R2, fun a z => h1 a (g1 a z), fun a z => ?_, by rw [List.length_cons, List.length_cons, g3]⟩
      rcases g2 a z with z | z
      · exact h2 a z
      · exact .inr (h1 a z)
  | [], _ :: _, _, _, _, _, _, _, _, _, _, e => by cases e
  | _ :: _, [], _, _, _, _, _, _, _, _, _, e => by cases e
end

section
variable {K : Fg} {D : Ends} {σ : L2.St} {H : Hp} {f : ED} {t : AD} {c : TD} {g h : SD}
theorem rs_nil (h : RS K nilS D σ H) : tNext D σ H := by
  obtain ⟨P, B, L, ρ, o, R, e, k⟩ := h
  cases e
  exact k σ H L R .refl
theorem rs_seq (hh : RS K (seqS g h) D σ H) : tSeq (RS K g) (RS K h) D σ H := by
  obtain ⟨P, B, L, ρ, o, R, e, k⟩ := hh
  obtain ⟨o1, e1, e2⟩ := Option.bind_eq_some_iff.mp e
  refine ⟨P, B, L, ρ, o1, R, e1, ?_⟩
  cases o1 with
  | nx ρ1 => exact fun σ' H' L' R' s' => ⟨P, B, L', ρ1, o, R', e2, k.after s'⟩
  | ct ρ1 => cases e2; exact k
  | bk ρ1 => cases e2; exact k
  | rt r ρ1 => cases e2; exact k
theorem Post.toStep {P B L L' E' : List Addr} {ρ' : DL.Env} {H' : Hp} (p : Post K P B L σ H [] ρ' H' L' E') : Rep K P B L' σ ρ' H' := p.rep.drop
theorem rs_if (hh : RS K (ifS c g h) D σ H) : tIfS (RT K c) (RS K g) (RS K h) D σ H := by
  obtain ⟨P, B, L, ρ, o, R, e, k⟩ := hh
  obtain ⟨⟨b, ρ1⟩, e1, e2⟩ := Option.bind_eq_some_iff.mp e
  refine ⟨P, B, L, ρ, b, ρ1, R, e1, fun H1 La Ea p1 => ?_⟩
  cases b with
  | true => rw [if_pos rfl]; exact ⟨P, B, La, ρ1, o, p1.toStep, by simpa using e2, k.after p1.step⟩
  | false => rw [if_neg Bool.false_ne_true]; exact ⟨P, B, La, ρ1, o, p1.toStep, by simpa using e2, k.after p1.step⟩
theorem rs_ret (hh : RS K (retS f) D σ H) : tRet (RD K f) D σ H := by
  obtain ⟨P, B, L, ρ, o, R, e, k⟩ := hh
  obtain ⟨⟨r, ρ1⟩, e1, e2⟩ := Option.bind_eq_some_iff.mp e
  cases e2
  exact ⟨P, B, L, ρ, r, ρ1, R, e1, fun x H' L' E' p v => k σ x H' L' E' p.rep p.step (fun a z => (p.esub a z).elim (fun q => nomatch q) id) v⟩
theorem rs_retN (hh : RS K retN D σ H) : tRetN D σ H := by
  obtain ⟨P, B, L, ρ, o, R, e, k⟩ := hh
  cases e
  exact k σ .non H L [] R .refl (fun _ z => nomatch z) (show VR K _ _ _ _ _ _ _ (.cl .none) from Dq.non)
theorem rs_drop (hh : RS K (dropS f) D σ H) : tDrop (RD K f) D σ H := by
  obtain ⟨P, B, L, ρ, o, R, e, k⟩ := hh
  obtain ⟨⟨r, ρ1⟩, e1, e2⟩ := Option.bind_eq_some_iff.mp e
  cases e2
  exact ⟨P, B, L, ρ, r, ρ1, R, e1, fun x H' L' E' p v => k σ H' L' p.toStep p.step⟩
theorem rs_ct (hh : RS K ctS D σ H) : tCont D σ H := by
  obtain ⟨P, B, L, ρ, o, R, e, k⟩ := hh
  cases e
  exact k σ H L R .refl
theorem rs_bk (hh : RS K bkS D σ H) : tBreak D σ H := by
  obtain ⟨P, B, L, ρ, o, R, e, k⟩ := hh
  cases e
  exact k σ H L R .refl
theorem step_more {B L L1 L2 E : List Addr} {H H1 : Hp} (s : Step B L H L1 H1) (he : ∀ a ∈ E, a ∈ ([] : List Addr) ∨ H a = none) (hl : ∀ a ∈ L2, a ∈ L1 ∨ a ∈ E) : Step B L H L2 H1 :=
  ⟨s.keep, fun a z => (hl a z).elim (s.lsub a) fun z => (he a z).elim (fun q => nomatch q) .inr, s.ne⟩
theorem rs_set {i : Nat} (hh : RS K (setS i f) D σ H) : tAsg (RD K f) (gName i) D σ H := by
  obtain ⟨P, B, L, ρ, o, R, e, k⟩ := hh
  obtain ⟨⟨r, ρ1⟩, e1, e2⟩ := Option.bind_eq_some_iff.mp e
  obtain ⟨ρ2, e3, e4⟩ := Option.map_eq_some_iff.mp e2
  subst e4
  refine ⟨P, B, L, ρ, r, ρ1, R, e1, fun x H' L' E' p v => ?_⟩
  obtain ⟨E2, Lb, R2, h1, h2, _⟩ := stV_of p.rep v e3
  exact k _ H' Lb R2.drop (step_more p.step p.esub h2)
theorem rs_aug {i : Nat} {w : Int → Int → Int} (hh : RS K (augS i f w) D σ H) : tAug i (RD K f) (ipI w) D σ H := by
  obtain ⟨P, B, L, ρ, o, R, e, k⟩ := hh
  have q := R.ok i
  unfold augS at e
  revert q e
  generalize ρ.getD i .no = c
  intro e q
  cases c with
  | cl d =>
    cases d with
    | int a =>
      obtain ⟨v0, e0, h0⟩ := q
      cases h0
      obtain ⟨⟨r, ρ1⟩, e1, e2⟩ := Option.bind_eq_some_iff.mp e
      refine ⟨.int a, e0, P, B, L, ρ, r, ρ1, R, e1, fun x H' L' E' p v => ?_⟩
      cases r with
      | cl d2 =>
        cases d2 <;> simp at e2
        subst e2
        exact ⟨a, _, rfl, v.int, k _ H' L' (p.toStep.setCl i (.int _)) p.step⟩
      | _ => simp at e2
    | _ => simp at e
  | _ => simp at e
end

section
variable {X : Cx} {tl : TL} {st : Stmt} {rest : List Stmt} {a b c : Expr} {f : ED} {t : AD} {q : TD} {g h : SD} {pos : Pos}
theorem s_nil : PSs X [] (RS (X.D tl) nilS) := pss_nil.imp fun _ _ _ h => rs_nil h
theorem s_cons (h1 : PS X st (RS (X.D tl) g)) (h2 : PSs X rest (RS (X.D tl) h)) : PSs X (st :: rest) (RS (X.D tl) (seqS g h)) := (pss_cons h1 h2).imp fun _ _ _ h => rs_seq h
theorem s_one (h1 : PS X st (RS (X.D tl) g)) : PSs X [st] (RS (X.D tl) g) := pss_one h1
theorem s_if {x y : List Stmt} (hc : PT X c (RT (X.D tl) q)) (h1 : PSs X x (RS (X.D tl) g)) (h2 : PSs X y (RS (X.D tl) h)) : PS X (.If c x y pos) (RS (X.D tl) (ifS q g h)) := (ps_if hc h1 h2).imp fun _ _ _ h => rs_if h
theorem s_ret (h : PE X a (RD (X.D tl) f)) : PS X (.Return (some a) pos) (RS (X.D tl) (retS f)) := (ps_ret h).imp fun _ _ _ h => rs_ret h
theorem s_retN : PS X (.Return none pos) (RS (X.D tl) retN) := ps_retN.imp fun _ _ _ h => rs_retN h
theorem s_expr (h : PE X a (RD (X.D tl) f)) (hs : swapsWith a none pos.line X.env = pure false := by rfl) : PS X (.Expr a pos) (RS (X.D tl) (dropS f)) := (ps_expr h hs).imp fun _ _ _ h => rs_drop h
theorem s_doc {x j pos pos'} : PS X (.Expr (.Constant (.str x) j pos) pos') (RS (X.D tl) nilS) := ps_doc.imp fun _ _ _ h => rs_nil h
theorem s_pass : PS X (.Pass pos) (RS (X.D tl) nilS) := ps_pass.imp fun _ _ _ h => rs_nil h
theorem s_cont : PS X (.Continue pos) (RS (X.D tl) ctS) := ps_continue.imp fun _ _ _ h => rs_ct h
theorem s_brk : PS X (.Break pos) (RS (X.D tl) bkS) := ps_break.imp fun _ _ _ h => rs_bk h
theorem s_set (i : Nat) {x : Str} {pos' : Pos} (he : PE X a (RD (X.D tl) f)) (hN : X.N.Nodup) (hi : X.N[i]? = some x := by rfl) (hx : Loc X.env.scope x := by first | exact Or.inl rfl | exact Or.inr rfl) (hs : swapsWith a (some (.Name x pos')) pos.line X.env = pure false := by rfl) (hf : X.fn x = true ∨ X.env.scope.names.lookup x = some .local := by first | exact .inl rfl | exact .inr rfl) :
    PS X (.Assign [.Name x pos'] a pos) (RS (X.D tl) (setS i f)) := (ps_set hN hi hx he hs hf).imp fun _ _ _ h => rs_set h
theorem s_aug (i : Nat) {x : Str} {op : Operator} {w : Int → Int → Int} {pos' : Pos} (ho : PIp X op (ipI w)) (he : PE X a (RD (X.D tl) f)) (hN : X.N.Nodup) (hi : X.N[i]? = some x := by rfl) (hx : Loc X.env.scope x := by first | exact Or.inl rfl | exact Or.inr rfl) (hf : X.fn x = true ∨ X.env.scope.names.lookup x = some .local := by first | exact .inl rfl | exact .inr rfl) :
    PS X (.AugAssign (.Name x pos') op a pos) (RS (X.D tl) (augS i f w)) := (ps_aug hN hi hx he ho hf).imp fun _ _ _ h => rs_aug h
end
end DL
end
noncomputable section
namespace DL
open PySem PySem.Spec PyProof.Rows L2

/-! ### a list changed where it stands -/
def opAt (ρ : DL.Env) (j : Nat) : Option (Bool × List PyData) := match ρ.getD j .no with
  | .op ds => some (true, ds)
  | .pm ds => some (false, ds)
  | _ => none
def opSet (ρ : DL.Env) (j : Nat) (k : Bool) (ds : List PyData) : DL.Env := ρ.set j (if k = true then .op ds else .pm ds)
section
variable {K : Fg} {P B L E : List Addr} {σ : L2.St} {ρ ρ' : DL.Env} {H : Hp} {x : V} {r : Val}
theorem opAt_of {j : Nat} {k : Bool} {ds : List PyData} (R : Rep K P B L σ ρ H) (e : opAt ρ j = some (k, ds)) :
    ∃ a vs, σ[j]? = some (some (V.ref a)) ∧ a ∈ B ++ L ∧ (if k = true then a ∈ L else a ∈ B) ∧ H a = some (.lst vs) ∧ DqA K H (P ++ B ++ L) vs ds ∧ j < ρ.length := by
  have q := R.ok j
  have hj : ρ.getD j .no ≠ .no → j < ρ.length := fun z => by
    by_cases h : j < ρ.length
    · exact h
    · rw [List.getD_eq_getElem?_getD, List.getElem?_eq_none (Nat.le_of_not_lt h)] at z
      exact absurd rfl z
  unfold opAt at e
  revert q e hj
  generalize ρ.getD j .no = c
  intro e q hj
  cases c with
  | op es =>
    cases e
    obtain ⟨a, vs, e1, h1, h2, h3⟩ := q
    exact ⟨a, vs, e1, List.mem_append_right _ h1, h1, h2, h3, hj (fun z => nomatch z)⟩
  | pm es =>
    cases e
    obtain ⟨a, vs, e1, h1, h2, h3⟩ := q
    exact ⟨a, vs, e1, List.mem_append_left _ h1, h1, h2, h3, hj (fun z => nomatch z)⟩
  | _ => cases e
theorem opAt_open {j : Nat} {k : Bool} {ds : List PyData} (e : opAt ρ j = some (k, ds)) : (ρ.getD j .no).isOpen = true := by
  unfold opAt at e
  revert e
  generalize ρ.getD j .no = c
  intro e
  cases c with
  | op es => rfl
  | pm es => rfl
  | _ => cases e
theorem keep_wr {a : Addr} {o : HO} {us : List V} (hh : H a = some (.lst us)) : Keep [a] H (upd H a o) := ⟨fun b u e hb _ => by
  rw [upd_ne (by simpa using hb)]; exact e, fun T t p hp => TabS.extB (t p hp) fun b u e z => by
  have hb : b ≠ a := fun q => by
    subst q
    rw [hh] at e
    cases e
    rcases z with ⟨ps, z⟩ | ⟨c, q, z⟩
    · cases z
    · unfold LamX.CodeO at z; cases z
  rw [upd_ne hb]; exact e, fun b h => by
  by_cases q : b = a
  · rw [q, upd_same]; exact fun z => nomatch z
  · rw [upd_ne q]; exact h⟩
/-- the list of slot j is written -/
theorem Rep.write {j : Nat} {k : Bool} {ds ds' : List PyData} {a : Addr} {vs' : List V} (R : Rep K P B L σ ρ H) (e : opAt ρ j = some (k, ds)) (ea : σ[j]? = some (some (V.ref a))) (d : DqA K H (P ++ B ++ L) vs' ds') :
    Rep K P B L σ (opSet ρ j k ds') (upd H a (.lst vs')) ∧ Step B L H L (upd H a (.lst vs')) ∧ ∀ {E' P' : List Addr} {y : V} {s : Val}, P = E' ++ P' → VR K E' P' B L σ H y s → VR K E' P' B L σ (upd H a (.lst vs')) y s := by
  obtain ⟨a', vs, e1, hm, hk, hh, dq, hj⟩ := opAt_of R e
  rw [ea] at e1
  cases e1
  have hop := opAt_open e
  have hP : ∀ b ∈ P, b ≠ a := fun b hb z => by
    have q := R.nd.1 b hb
    rcases List.mem_append.mp hm with y | y
    · exact q.1 (z ▸ y)
    · exact q.2 (z ▸ y)
  have hW : a ∈ P ++ B ++ L := mem3.mpr (.inr (List.mem_append.mp hm))
  have hl : Lists H [a] := fun b z => ⟨vs, by rw [show b = a by simpa using z]; exact hh⟩
  have hs : ∀ b ∈ [a], b ∈ P ++ B ++ L := fun b z => (show b = a by simpa using z) ▸ hW
  have mv : ∀ {v : V} {d : PyData}, Dq K H (P ++ B ++ L) v d → Dq K (upd H a (.lst vs')) (P ++ B ++ L) v d := fun h => h.move hl hs (keep_wr hh) fun b z => .inl z
  have mvA : ∀ {v : List V} {d : List PyData}, DqA K H (P ++ B ++ L) v d → DqA K (upd H a (.lst vs')) (P ++ B ++ L) v d := fun h => h.move hl hs (keep_wr hh) fun b z => .inl z
  refine ⟨⟨by rw [opSet, List.length_set]; exact R.len, fun b hb => ?_, R.nd, fun i => ?_, fun i i2 b hi h1 h2 => ?_, (keep_wr hh).tab _ R.tabs⟩, ⟨(keep_wr hh).mono fun b z => (show b = a by simpa using z) ▸ hm, fun b z => .inl z, fun b z => ?_⟩, fun {E' P' y s} eP v => ?_⟩
  · by_cases z : b = a
    · exact ⟨vs', by rw [z]; exact upd_same⟩
    · obtain ⟨us, q⟩ := R.wl b hb
      exact ⟨us, by rw [upd_ne z]; exact q⟩
  · unfold opSet
    rw [getD_set]
    by_cases hi : j = i
    · subst hi
      rw [if_pos ⟨rfl, hj⟩]
      cases k with
      | true => exact ⟨a, vs', ea, hk, upd_same, mvA d⟩
      | false => exact ⟨a, vs', ea, hk, upd_same, mvA d⟩
    · rw [if_neg fun z => hi z.1]
      have q := R.ok i
      have inj := R.inj j i a hi hop
      revert q inj
      generalize ρ.getD i .no = c
      intro q inj
      cases c with
      | no => trivial
      | cl d => obtain ⟨v, e2, h⟩ := q; exact ⟨v, e2, mv h⟩
      | op fs =>
        obtain ⟨b, us, e2, h1, h2, h3⟩ := q
        exact ⟨b, us, e2, h1, by rw [upd_ne fun z => inj rfl ea (by rw [← z]; exact e2)]; exact h2, mvA h3⟩
      | pm fs =>
        obtain ⟨b, us, e2, h1, h2, h3⟩ := q
        exact ⟨b, us, e2, h1, by rw [upd_ne fun z => inj rfl ea (by rw [← z]; exact e2)]; exact h2, mvA h3⟩
  · have t : ∀ m, ((opSet ρ j k ds').getD m .no).isOpen = true → (ρ.getD m .no).isOpen = true := fun m z => by
      unfold opSet at z
      rw [getD_set] at z
      by_cases hm : j = m ∧ j < ρ.length
      · rw [← hm.1]; exact hop
      · rwa [if_neg hm] at z
    exact R.inj i i2 b hi (t i h1) (t i2 h2)
  · by_cases q : b = a
    · rw [q, upd_same]; exact fun y => nomatch y
    · rw [upd_ne q]; exact z
  · subst eP
    cases s with
    | cl d => exact mv v
    | own es =>
      obtain ⟨b, us, e1, h1, h2, h3, h4⟩ := v
      exact ⟨b, us, e1, h1, h2, by rw [upd_ne (hP b (List.mem_append_left _ h1))]; exact h3, mvA h4⟩
    | sl i => exact v
end

/-- x.m(..) for a list in slot j: what it does to the list, what it answers -/
abbrev MG := DL.Env → List PyData → List Val → Option (Val × List PyData × DL.Env)
def metD (j : Nat) (t : AD) (g : MG) : ED := fun ρ => match opAt ρ j with
  | none => none
  | some _ => (t ρ).bind fun p => match opAt p.2 j with
    | some (_, ds) => (g p.2 ds p.1).bind fun q => match opAt q.2.2 j with
      | some (k, _) => some (q.1, opSet q.2.2 j k q.2.1)
      | none => none
    | none => none
def appG : MG := fun ρ ds rs => match rs with
  | [r] => (psV ρ r).bind fun p => if ds.length < lim then some (.cl .none, ds ++ [p.1], p.2) else none
  | _ => none
def insG : MG := fun ρ ds rs => match rs with
  | [.cl (.int i), r] => (psV ρ r).bind fun p => if ds.length < lim ∧ 0 ≤ i ∧ i ≤ lim then some (.cl .none, ds.take i.toNat ++ [p.1] ++ ds.drop i.toNat, p.2) else none
  | _ => none
def popG : MG := fun ρ ds rs => match rs, ds[ds.length - 1]? with
  | [], some d => some (.cl d, ds.dropLast, ρ)
  | _, _ => none
def popAtG : MG := fun ρ ds rs => match rs with
  | [.cl (.int i)] => (ixN ds.length i).bind fun k => (ds[k]?).map fun d => (.cl d, ds.eraseIdx k, ρ)
  | _ => none
def clrG : MG := fun ρ ds rs => match rs with
  | [] => some (.cl .none, [], ρ)
  | _ => none
def extG : MG := fun ρ ds rs => match rs with
  | [r] => match seqOf ρ r with
    | some (true, es) => if ds.length + es.length ≤ lim then some (.cl .none, ds ++ es, ρ) else none
    | _ => none
  | _ => none
/-- what a list's method asks of its rule -/
def LocM (K : Fg) (R : V → List V → Hp → VK → Prop) (g : MG) : Prop :=
  ∀ {E P B L : List Addr} {σ : L2.St} {ρ ρ' : DL.Env} {H : Hp} {l : Addr} {us : List V} {ds ds' : List PyData} {xs : List V} {rs : List Val} {r : Val}, Rep K (E ++ P) B L σ ρ H → VRs K E P B L σ H xs rs → H l = some (.lst us) → DqA K H (E ++ P ++ B ++ L) us ds → g ρ ds rs = some (r, ds', ρ') →
    ∃ us' y E' L', Rep K (E' ++ P) B L' σ ρ' H ∧ (∀ a ∈ E', a ∈ E) ∧ (∀ a ∈ L', a ∈ L) ∧ DqA K H (E' ++ P ++ B ++ L') us' ds' ∧ VR K E' P B L' σ H y r ∧ ∀ Q : VK, Q y (upd H l (.lst us')) → R (.ref l) xs H Q
section
variable {X : Cx} {tl : TL} {x : Str} {a : Expr} {es : List Expr} {t : AD} {pos apos cpos : Pos}
theorem met_core {j : Nat} {R : V → List V → Hp → VK → Prop} {g : MG} (loc : LocM (X.D tl) R g) {P B L La Ea : List Addr} {ρ1 ρ' : DL.Env} {σ : L2.St} {H H1 : Hp} {Q : VK} {rs : List Val} {r : Val} {xs : List V} {l : Addr} {us0 : List V}
    (el : σ[j]? = some (some (V.ref l))) (p1 : Post (X.D tl) P B L σ H [] ρ1 H1 La Ea) (v1 : VRs (X.D tl) Ea P B La σ H1 xs rs) (k : Cont (X.D tl) P B L σ H [] ρ' r Q)
    (e : (match opAt ρ1 j with
    | some (_, ds) => (g ρ1 ds rs).bind fun q => match opAt q.2.2 j with
      | some (k, _) => some (q.1, opSet q.2.2 j k q.2.1)
      | none => none
    | none => none) = some (r, ρ')) : R (.ref l) xs H1 Q := by
  split at e
  · rename_i kk ds e2
    obtain ⟨⟨r', ds', ρ2⟩, e3, e⟩ := Option.bind_eq_some_iff.mp e
    simp only at e
    split at e
    · rename_i k2 ds2 e4
      cases e
      obtain ⟨l', us, el', _, _, hl, dq, _⟩ := opAt_of p1.rep e2
      rw [el] at el'
      cases el'
      obtain ⟨us', y, E', L', R', es', ls', d', vy, hr⟩ := loc p1.rep v1 hl dq e3
      obtain ⟨R2, s2, hv⟩ := R'.write e4 el d'
      refine hr Q (k _ _ L' E' ⟨R2, (p1.step.trans (Post.less (K := (X.D tl)) R' es' ls').step).trans s2, fun a z => p1.esub a (es' a z)⟩ (hv rfl vy))
    · cases e
  · cases e
theorem met_imp {j : Nat} {R : V → List V → Hp → VK → Prop} {g : MG} (loc : LocM (X.D tl) R g) {σ : L2.St} {H : Hp} {Q : VK} (h : RD (X.D tl) (metD j t g) σ H Q) : tBM (X.D tl) "list" R (tVar j) (RA (X.D tl) t) σ H Q := by
  obtain ⟨P, B, L, ρ, r, ρ', R0, e, k⟩ := h
  unfold metD at e
  split at e
  · cases e
  · rename_i p0 e0
    obtain ⟨k0, ds0⟩ := p0
    obtain ⟨⟨rs, ρ1⟩, e1, e⟩ := Option.bind_eq_some_iff.mp e
    obtain ⟨l, us0, el, _, _, hl0, _, _⟩ := opAt_of R0 e0
    exact ⟨.ref l, el, .inl ⟨rfl, us0, .of hl0⟩, P, B, L, ρ, rs, ρ1, R0, e1, fun xs H1 La Ea p1 v1 => met_core loc el p1 v1 k e (us0 := us0)⟩
theorem met_imp0 {j : Nat} {R : V → List V → Hp → VK → Prop} {g : MG} (loc : LocM (X.D tl) R g) {σ : L2.St} {H : Hp} {Q : VK} (h : RD (X.D tl) (metD j anil g) σ H Q) : tBM0 (X.D tl) "list" R (tVar j) σ H Q := by
  obtain ⟨P, B, L, ρ, r, ρ', R0, e, k⟩ := h
  unfold metD at e
  split at e
  · cases e
  · rename_i p0 e0
    obtain ⟨k0, ds0⟩ := p0
    obtain ⟨⟨rs, ρ1⟩, e1, e⟩ := Option.bind_eq_some_iff.mp e
    cases e1
    obtain ⟨l, us0, el, _, _, hl0, _, _⟩ := opAt_of R0 e0
    exact ⟨.ref l, el, .inl ⟨rfl, us0, .of hl0⟩, met_core loc el (.refl R0) .nil k e (us0 := us0)⟩
theorem vrs_one {K : Fg} {E P B L : List Addr} {σ : L2.St} {H : Hp} {xs : List V} {r : Val} (v : VRs K E P B L σ H xs [r]) : ∃ x, xs = [x] ∧ VR K E P B L σ H x r := by
  cases v with
  | cons v1 _ vs =>
    cases vs
    exact ⟨_, rfl, v1⟩
theorem locM_app {K : Fg} : LocM K rAppend appG := by
  intro E P B L σ ρ ρ' H l us ds ds' xs rs r R v hl dq e
  have ll := lim_line
  unfold appG at e
  split at e
  · rename_i r1
    obtain ⟨⟨d, ρ1⟩, e1, e⟩ := Option.bind_eq_some_iff.mp e
    simp only at e
    split at e
    · rename_i hz
      cases e
      obtain ⟨x, rfl, v1⟩ := vrs_one v
      obtain ⟨E', L', p, _⟩ := psd_of R v1 e1
      refine ⟨us ++ [x], .non, E', L', p.rep, p.es, p.ls, (DqA.sub (fun b z => ?_) dq).append (.cons p.dq .nil), Dq.non, fun Q q => ⟨l, us, x, rfl, rfl, hl, ?_, q⟩⟩
      · rcases mem4.mp z with z | z | z | z
        · exact mem4.mpr (.inl (p.es b z))
        · exact mem4.mpr (.inr (.inl z))
        · exact mem4.mpr (.inr (.inr (.inl z)))
        · exact mem4.mpr (.inr (.inr (.inr (p.ls b z))))
      · rw [dq.length]; omega
    · cases e
  · cases e
theorem locM_ins {K : Fg} : LocM K (fun x vs H Q => ∃ (l : Addr) (xs : List V) (i : Int) (y : V), x = .ref l ∧ vs = [.int i, y] ∧ H l = some (.lst xs) ∧ xs.length < sizeLine ∧ 0 ≤ i ∧ i < 2 ^ 63 ∧ Q .non (upd H l (.lst (xs.take i.toNat ++ [y] ++ xs.drop i.toNat)))) insG := by
  intro E P B L σ ρ ρ' H l us ds ds' xs rs r R v hl dq e
  have ll := lim_line
  unfold insG at e
  split at e
  · rename_i i r1
    obtain ⟨⟨d, ρ1⟩, e1, e⟩ := Option.bind_eq_some_iff.mp e
    simp only at e
    split at e
    · rename_i hz
      cases e
      cases v with
      | cons v0 _ v =>
        obtain ⟨x, rfl, v1⟩ := vrs_one v
        obtain ⟨E', L', p, _⟩ := psd_of R v1 e1
        have hs : ∀ b ∈ E' ++ P ++ B ++ L', b ∈ E ++ P ++ B ++ L := fun b z => by
          rcases mem4.mp z with z | z | z | z
          · exact mem4.mpr (.inl (p.es b z))
          · exact mem4.mpr (.inr (.inl z))
          · exact mem4.mpr (.inr (.inr (.inl z)))
          · exact mem4.mpr (.inr (.inr (.inr (p.ls b z))))
        have dq' := DqA.sub hs dq
        rw [v0.int]
        have hl2 : (lim : Int) < 2 ^ 63 := by rw [lim_eq]; decide
        refine ⟨us.take i.toNat ++ [x] ++ us.drop i.toNat, .non, E', L', p.rep, p.es, p.ls, ((dq'.take _).append (.cons p.dq .nil)).append (dq'.drop _), Dq.non, fun Q q => ⟨l, us, i, x, rfl, rfl, hl, ?_, hz.2.1, by have := hz.2.2; omega, q⟩⟩
        rw [dq.length]; have := hz.1; omega
    · cases e
  · cases e
theorem DqA.dropLast {K : Fg} {H : Hp} {W : List Addr} {vs : List V} {ds : List PyData} (h : DqA K H W vs ds) : DqA K H W vs.dropLast ds.dropLast := by
  rw [List.dropLast_eq_take, List.dropLast_eq_take, h.length]
  exact h.take _
theorem locM_pop {K : Fg} : LocM K rPop popG := by
  intro E P B L σ ρ ρ' H l us ds ds' xs rs r R v hl dq e
  unfold popG at e
  split at e
  · rename_i d e1
    cases e
    cases v
    obtain ⟨y, ey, hy⟩ := dq.get e1
    refine ⟨us.dropLast, y, E, L, R, fun _ z => z, fun _ z => z, dq.dropLast, hy, fun Q q => ⟨l, us, y, rfl, rfl, hl, by rw [dq.length]; exact ey, q⟩⟩
  · cases e
theorem DqA.eraseIdx {K : Fg} {H : Hp} {W : List Addr} : ∀ {vs : List V} {ds : List PyData} (i : Nat), DqA K H W vs ds → DqA K H W (vs.eraseIdx i) (ds.eraseIdx i)
  | _, _, _, .nil => .nil
  | _, _, 0, .cons _ h => h
  | _, _, i + 1, .cons h1 h2 => .cons h1 (DqA.eraseIdx i h2)
theorem locM_clr {K : Fg} : LocM K rClear clrG := by
  intro E P B L σ ρ ρ' H l us ds ds' xs rs r R v hl dq e
  unfold clrG at e
  split at e
  · cases e
    cases v
    exact ⟨[], .non, E, L, R, fun _ z => z, fun _ z => z, .nil, Dq.non, fun Q q => ⟨l, us, rfl, rfl, hl, q⟩⟩
  · cases e
theorem locM_ext {K : Fg} : LocM K rExtend extG := by
  intro E P B L σ ρ ρ' H l us ds ds' xs rs r R v hl dq e
  have ll := lim_line
  unfold extG at e
  split at e
  · rename_i r1
    split at e
    · rename_i es e1
      split at e
      · rename_i hz
        cases e
        obtain ⟨x, rfl, v1⟩ := vrs_one v
        obtain ⟨b, ws, rfl, h2, d2⟩ := v1.list R e1
        refine ⟨us ++ ws, .non, E, L, R, fun _ z => z, fun _ z => z, dq.append d2, Dq.non, fun Q q => ⟨l, b, us, ws, rfl, rfl, hl, h2, ?_, q⟩⟩
        rw [dq.length, d2.length]; omega
      · cases e
    · cases e
  · cases e
/-! rules -/
theorem d_met {T id : String} {name : Str} (j : Nat) {R : V → List V → Hp → VK → Prop} {g : MG} {px : Pos} (slot : Slot "list" name id) (hty : typeOf (.builtin id) = pure (.type "method_descriptor")) (hm : MtR X id R) (loc : LocM (X.D tl) R g) (ha : PA X (a :: es) (RA (X.D tl) t))
    (hN : X.N[j]? = some x := by rfl) (hv : Vis X.env.scope x := by first | exact Or.inl rfl | exact Or.inr (Or.inl rfl) | exact Or.inr (Or.inr rfl)) (hd : (x == ("__debug__" : Str)) = false := by decide) (hcd : (x == ("__classdict__" : Str)) = false := by decide)
    (hbase : attributeBase (.Name x px) name X.env (eval (.Name x px) X.env) = eval (.Name x px) X.env := by rfl)
    (hfew : ((backTo cpos (starEach (a :: es) X.env)).all (fun x => !x.1) && (backToKw cpos (keywordEach [] X.env)).all (fun x => x.1.isSome) && decide ((a :: es).length + ([] : List Keyword).length + (if ([] : List Keyword).isEmpty then 0 else 1) < 30)) = true := by rfl)
    (hline : (apos.endLine == cpos.line) = true := by rfl) (hs : starEach (a :: es) X.env = (false, eval a X.env) :: starEach es X.env := by rfl) (hplain : (backTo cpos (starEach es X.env)).any (·.1) = false := by rfl) :
    PE X (.Call (.Attribute (.Name x px) name apos) (a :: es) [] cpos) (RD (X.D tl) (metD j t g)) :=
  (pe_bm PySem.F.plainAttrs_list slot hty hm (pe_var hN hv hd hcd) ha hbase hfew hline hs hplain).imp fun _ _ _ h => met_imp loc h
theorem d_met0 {id : String} {name : Str} (j : Nat) {R : V → List V → Hp → VK → Prop} {g : MG} {px : Pos} (slot : Slot "list" name id) (hty : typeOf (.builtin id) = pure (.type "method_descriptor")) (hm : MtR X id R) (loc : LocM (X.D tl) R g)
    (hN : X.N[j]? = some x := by rfl) (hv : Vis X.env.scope x := by first | exact Or.inl rfl | exact Or.inr (Or.inl rfl) | exact Or.inr (Or.inr rfl)) (hd : (x == ("__debug__" : Str)) = false := by decide) (hcd : (x == ("__classdict__" : Str)) = false := by decide)
    (hbase : attributeBase (.Name x px) name X.env (eval (.Name x px) X.env) = eval (.Name x px) X.env := by rfl) (hline : (apos.endLine == cpos.line) = true := by rfl) :
    PE X (.Call (.Attribute (.Name x px) name apos) [] [] cpos) (RD (X.D tl) (metD j anil g)) :=
  (pe_bm0 PySem.F.plainAttrs_list slot hty hm (pe_var hN hv hd hcd) hbase hline).imp fun _ _ _ h => met_imp0 loc h
end

/-! ### stores by place -/
def setIx (j : Nat) (fi f : ED) : SD := fun ρ => (f ρ).bind fun p => (opAt p.2 j).bind fun _ => (fi p.2).bind fun q => match q.1 with
  | .cl (.int i) => (psV q.2 p.1).bind fun s => match opAt s.2 j with
    | some (k, ds) => (ixN ds.length i).bind fun m => some (.nx (opSet s.2 j k (ds.set m s.1)))
    | none => none
  | _ => none
def augIx (j : Nat) (fi f : ED) (g : Int → Int → Int) : SD := fun ρ => (opAt ρ j).bind fun _ => (fi ρ).bind fun q => match q.1 with
  | .cl (.int i) => match opAt q.2 j with
    | some (_, ds0) => match atI ds0 i with
      | some (.int b) => (f q.2).bind fun p => match p.1 with
        | .cl (.int c) => match opAt p.2 j with
          | some (k, ds) => (ixN ds.length i).bind fun m => some (.nx (opSet p.2 j k (ds.set m (.int (g b c)))))
          | none => none
        | _ => none
      | _ => none
    | none => none
  | _ => none
section
variable {X : Cx} {tl : TL} {x : Str} {a b : Expr} {fi f : ED} {pos : Pos}
theorem get_list : PGet X (rIxL (X.D tl)) := by
  intro pins s σ H o i ov iv Q I ro ri h
  obtain ⟨p, xs, k, z, rfl, rfl, hq, he, q⟩ := h
  cases ro
  obtain ⟨t, rfl⟩ := ri
  obtain ⟨its, r, pl, hz⟩ := I.list hq
  obtain ⟨j, h1, h2, h3, h4, h5⟩ := atI_get he
  obtain ⟨w, ew, rw'⟩ := r.get h2
  have hl := r.length
  have hn := line63
  have fin : EP X pins σ Q w s := ⟨z, H, I, rw', q⟩
  by_cases h0 : 0 ≤ k
  · have hj : k.toNat = j := by
      have := h1
      rw [seqIndex_of h0 h5] at this
      exact Option.some.inj this
    refine wpAny_getItem_list pl.isList h0 (by omega) (x := w) (by rw [hj]; simpa using ew) fin
  · have hj : (k + (its.toArray.size : Int)).toNat = j := by
      have := h1
      rw [seqIndex_neg (by omega) h4] at this
      rw [List.size_toArray, ← hl]
      exact Option.some.inj this
    exact wpAny_getItem_list_neg pl.isList (by omega) (by rw [List.size_toArray] <;> omega) (by omega) (x := w) (by rw [hj]; simpa using ew) fin
theorem ix_imp {j : Nat} {D : Ends} {σ : L2.St} {H : Hp} (h : RS (X.D tl) (setIx j fi f) D σ H) : tAsg (RD (X.D tl) f) (gSub (tVar j) (RD (X.D tl) fi) rSetL) D σ H := by
  obtain ⟨P, B, L, ρ, o, R0, e, k⟩ := h
  obtain ⟨⟨r, ρ1⟩, e1, e⟩ := Option.bind_eq_some_iff.mp e
  obtain ⟨⟨k0, ds0⟩, e0, e⟩ := Option.bind_eq_some_iff.mp e
  obtain ⟨⟨ri, ρ2⟩, e2, e⟩ := Option.bind_eq_some_iff.mp e
  simp only at e
  split at e
  · rename_i i
    obtain ⟨⟨d, ρ3⟩, e3, e⟩ := Option.bind_eq_some_iff.mp e
    simp only at e
    split at e
    · rename_i kk ds e4
      obtain ⟨m, e5, e⟩ := Option.bind_eq_some_iff.mp e
      cases e
      refine ⟨P, B, L, ρ, r, ρ1, R0, e1, fun v H1 La Ea p1 v1 => ?_⟩
      obtain ⟨l, us0, el, _⟩ := opAt_of p1.rep e0
      refine ⟨V.ref l, el, Ea ++ P, B, La, ρ1, _, ρ2, p1.rep, e2, fun iv H2 Lb Eb p2 v2 => ?_⟩
      have p := p1.two p2
      obtain ⟨E', L', q, _⟩ := psd_of p.rep (v1.later p1.rep p2) e3
      obtain ⟨l', us, el', _, _, hl, dq, _⟩ := opAt_of q.rep e4
      rw [el] at el'
      cases el'
      obtain ⟨R2, s2, _⟩ := q.rep.write e4 el (dq.set q.dq m)
      refine ⟨l, us, i, m, rfl, v2.int, hl, by rw [dq.length]; exact e5, k σ _ L' R2.drop ((p.step.trans (Post.less (K := (X.D tl)) q.rep q.es q.ls).step).trans s2)⟩
    · cases e
  · cases e
theorem s_setIx (j : Nat) {px : Pos} {y : Pos} (he : PE X a (RD (X.D tl) f)) (hi : PE X b (RD (X.D tl) fi))
    (hN : X.N[j]? = some x := by rfl) (hv : Vis X.env.scope x := by first | exact Or.inl rfl | exact Or.inr (Or.inl rfl) | exact Or.inr (Or.inr rfl)) (hd : (x == ("__debug__" : Str)) = false := by decide) (hcd : (x == ("__classdict__" : Str)) = false := by decide)
    (ha : ∀ v, assign (.Subscript (.Name x px) b y) X.env v = (do
      let ov ← holding [v] (eval (.Name x px) X.env)
      let iv ← holding [v, ov] (eval b X.env)
      standAt y
      holding [v, ov, iv] (setItem ov iv v)
      release [v, ov, iv] []) := by intro _; rfl)
    (hs : swapsWithSole [.Subscript (.Name x px) b y] a pos.line X.env = pure false := by rfl) (hw : swappedStores [.Subscript (.Name x px) b y] a X.env = pure none := by rfl)
    (h1 : (assignEach [.Subscript (.Name x px) b y] X.env).map (·.2) = [assign (.Subscript (.Name x px) b y) X.env] := by rfl) :
    PS X (.Assign [.Subscript (.Name x px) b y] a pos) (RS (X.D tl) (setIx j fi f)) :=
  (ps_asg he (pg_sub (pe_var hN hv hd hcd) hi set_list ha) hs hw h1).imp fun _ _ _ h => ix_imp h
theorem aug_imp {j : Nat} {w : Int → Int → Int} {D : Ends} {σ : L2.St} {H : Hp} (h : RS (X.D tl) (augIx j fi f w) D σ H) : tAugS (tVar j) (RD (X.D tl) fi) (RD (X.D tl) f) (rIxL (X.D tl)) (ipI w) rSetL D σ H := by
  obtain ⟨P, B, L, ρ, o, R0, e, k⟩ := h
  obtain ⟨⟨k0, ds00⟩, e0, e⟩ := Option.bind_eq_some_iff.mp e
  obtain ⟨⟨ri, ρ1⟩, e1, e⟩ := Option.bind_eq_some_iff.mp e
  simp only at e
  split at e
  · rename_i i
    split at e
    · rename_i kx ds0 e2
      split at e
      · rename_i b e3
        obtain ⟨⟨r, ρ2⟩, e4, e⟩ := Option.bind_eq_some_iff.mp e
        simp only at e
        split at e
        · rename_i c
          split at e
          · rename_i kk ds e5
            obtain ⟨m, e6, e⟩ := Option.bind_eq_some_iff.mp e
            cases e
            obtain ⟨l, us0, el, _⟩ := opAt_of R0 e0
            refine ⟨V.ref l, el, P, B, L, ρ, _, ρ1, R0, e1, fun iv H1 La Ea p1 v1 => ?_⟩
            obtain ⟨l', us1, el', _, _, hl1, dq1, _⟩ := opAt_of p1.rep e2
            rw [el] at el'
            cases el'
            obtain ⟨z, ez, hz⟩ := atI_dq dq1 e3
            cases hz
            refine ⟨l, us1, i, .int b, rfl, v1.int, .of hl1, ez, Ea ++ P, B, La, ρ1, _, ρ2, p1.rep, e4, fun cv H2 Lb Eb p2 v2 => ?_⟩
            have p := p1.two p2
            obtain ⟨l', us, el', _, _, hl, dq, _⟩ := opAt_of p.rep e5
            rw [el] at el'
            cases el'
            obtain ⟨R2, s2, _⟩ := p.rep.write e5 el (dq.set (.int (w b c)) m)
            refine ⟨b, c, rfl, v2.int, l, us, i, m, rfl, v1.int, hl, by rw [dq.length]; exact e6, k σ _ Lb R2.drop (p.step.trans s2)⟩
          · cases e
        · cases e
      · cases e
    · cases e
  · cases e
theorem s_augIx (j : Nat) {op : Operator} {w : Int → Int → Int} {px y : Pos} (hp : PIp X op (ipI w)) (hi : PE X b (RD (X.D tl) fi)) (he : PE X a (RD (X.D tl) f))
    (hN : X.N[j]? = some x := by rfl) (hv : Vis X.env.scope x := by first | exact Or.inl rfl | exact Or.inr (Or.inl rfl) | exact Or.inr (Or.inr rfl)) (hd : (x == ("__debug__" : Str)) = false := by decide) (hcd : (x == ("__classdict__" : Str)) = false := by decide)
    (ha : ∀ ov iv new, augStore b ov iv new = (do holding [new, ov, iv] (setItem ov iv new); release [new, ov, iv] []; pure .next) := by intros; rfl) :
    PS X (.AugAssign (.Subscript (.Name x px) b y) op a pos) (RS (X.D tl) (augIx j fi f w)) :=
  (ps_augS (pe_var hN hv hd hcd) hi get_list he hp set_list ha).imp fun _ _ _ h => aug_imp h
end
end DL
end
noncomputable section
namespace DL
open PySem PySem.Spec PyProof.Rows L2

/-! ### targets -/
abbrev GD := DL.Env → PyData → Option DL.Env
def nameT (i : Nat) : GD := fun ρ d => some (ρ.set i (.cl d))
def setCls (ρ : DL.Env) (is : List Nat) (ds : List PyData) : DL.Env := (is.zip ds).foldl (fun ρ p => ρ.set p.1 (.cl p.2)) ρ
def tupT (is : List Nat) : GD := fun ρ d => match d with
  | .tuple ds => if ds.length = is.length then some (setCls ρ is ds) else none
  | _ => none
def RG (K : Fg) (is : List Nat) (tg : GD) : TG := fun v σ H Q => ∃ P B L ρ d ρ', Rep K P B L σ ρ H ∧ Dq K H (P ++ B ++ L) v d ∧ tg ρ d = some ρ' ∧ ∀ σ' : L2.St, σ'.length = σ.length → (∀ k, k ∉ is → σ'[k]? = σ[k]?) → Rep K P B L σ' ρ' H → Q σ' H
theorem _root_.L2.PG.imp {X : Cx} {e : Expr} {t t' : TG} (p : PG X e t) (h : ∀ v σ H Q, t' v σ H Q → t v σ H Q) : PG X e t' := ⟨fun pins s σ H v u Q I r q => p.run pins s σ H v u Q I r (h v σ H Q q)⟩
def gsOf : List Nat → TGs
  | [] => gNil
  | i :: is => gCons (gName i) (gsOf is)
theorem gs_run {Q : L2.St → Hp → Prop} {H : Hp} : ∀ (is : List Nat) (xs : List V) (σ : L2.St), is.length = xs.length → Q ((is.zip xs).foldl (fun s p => s.set p.1 (some p.2)) σ) H → gsOf is xs σ H Q
  | [], [], σ, _, q => ⟨rfl, q⟩
  | i :: is, x :: xs, σ, hl, q => ⟨x, xs, rfl, gs_run is xs (σ.set i (some x)) (by simpa using hl) q⟩
  | [], _ :: _, _, hl, _ => by simp at hl
  | _ :: _, [], _, hl, _ => by simp at hl
theorem setCls_of {K : Fg} {P B L : List Addr} {H : Hp} : ∀ {is : List Nat} {xs : List V} {ds : List PyData} {σ : L2.St} {ρ : DL.Env}, Rep K P B L σ ρ H → DqA K H (P ++ B ++ L) xs ds → is.length = ds.length →
    Rep K P B L ((is.zip xs).foldl (fun s p => s.set p.1 (some p.2)) σ) (setCls ρ is ds) H ∧ ((is.zip xs).foldl (fun s p => s.set p.1 (some p.2)) σ).length = σ.length ∧ ∀ k, k ∉ is → ((is.zip xs).foldl (fun (s : L2.St) p => s.set p.1 (some p.2)) σ)[k]? = σ[k]?
  | [], _, _, σ, ρ, R, _, _ => ⟨R, rfl, fun _ _ => rfl⟩
  | i :: is, _, _, σ, ρ, R, .cons (v := x) (vs := xs) (d := d) (ds := ds) h1 h2, hl => by
    obtain ⟨a, b, c⟩ := setCls_of (is := is) (R.setCl i h1) h2 (by simpa using hl)
    refine ⟨a, by rw [← b.trans (List.length_set ..)]; rfl, fun k hk => ?_⟩
    have hk' : k ≠ i ∧ k ∉ is := by simpa [not_or] using hk
    show (List.foldl (fun (s : L2.St) p => s.set p.1 (some p.2)) (σ.set i (some x)) (is.zip xs))[k]? = σ[k]?
    rw [c k hk'.2, List.getElem?_set_ne (Ne.symm hk'.1)]
  | _ :: _, _, _, _, _, _, .nil, hl => by simp at hl
section
variable {X : Cx} {tl : TL} {pos : Pos}
theorem g_name (i : Nat) {x : Str} (hN : X.N.Nodup) (hi : X.N[i]? = some x := by rfl) (hx : Loc X.env.scope x := by first | exact Or.inl rfl | exact Or.inr rfl) (hf : X.fn x = true ∨ X.env.scope.names.lookup x = some .local := by first | exact .inl rfl | exact .inr rfl) : PG X (.Name x pos) (RG (X.D tl) [i] (nameT i)) :=
  (pg_name hN hi hx hf).imp fun v σ H Q h => by
    obtain ⟨P, B, L, ρ, d, ρ', R, dq, e, k⟩ := h
    cases e
    refine k _ (by rw [List.length_set]) (fun j hj => ?_) (R.setCl i dq)
    rw [List.getElem?_set_ne (by intro z; exact hj (by simp [z]))]
theorem g_tup {es : List Expr} {is : List Nat} {kk n : Nat} (hc : X.calm = true) (h : PGs X es (gsOf is)) (hl : is.length = n) (hn : (assignEach es X.env).length = n := by rfl) (hst : (assignEach es X.env).findIdx? (·.1) = none := by rfl) : PG X (.Tuple es kk pos) (RG (X.D tl) is (tupT is)) :=
  (pg_tup hc h hn hst).imp fun v σ H Q h => by
    obtain ⟨P, B, L, ρ, d, ρ', R, dq, e, k⟩ := h
    unfold tupT at e
    split at e
    · rename_i ds
      split at e
      · rename_i hz
        cases e
        cases dq with
        | tup h1 h2 =>
          rename_i a xs
          obtain ⟨q1, q2, q3⟩ := setCls_of R h2 hz.symm
          refine ⟨a, xs, rfl, h1.sq, by rw [h2.length, hz, hl], gs_run is xs σ (by rw [h2.length, hz]) (k _ q2 q3 q1)⟩
      · cases e
    · cases e
end

/-! ### a, b = e; a, b = e1, e2 -/
def unpS (tg : GD) (f : ED) : SD := fun ρ => (f ρ).bind fun p => (psV p.2 p.1).bind fun q => (tg q.2 q.1).map .nx
def notSl : Val → Bool
  | .sl _ => false
  | _ => true
def parS (is : List Nat) (t : AD) : SD := fun ρ => (t ρ).bind fun p => if p.1.all notSl = true ∧ p.1.length ≤ lim then (stAll p.2 is p.1).map .nx else none
section
variable {X : Cx} {tl : TL} {a : Expr} {es : List Expr} {f : ED} {t : AD} {pos : Pos}
theorem unp_imp {is : List Nat} {tg : GD} {D : Ends} {σ : L2.St} {H : Hp} (h : RS (X.D tl) (unpS tg f) D σ H) : tAsg (RD (X.D tl) f) (RG (X.D tl) is tg) D σ H := by
  obtain ⟨P, B, L, ρ, o, R0, e, k⟩ := h
  obtain ⟨⟨r, ρ1⟩, e1, e⟩ := Option.bind_eq_some_iff.mp e
  obtain ⟨⟨d, ρ2⟩, e2, e⟩ := Option.bind_eq_some_iff.mp e
  obtain ⟨ρ3, e3, e4⟩ := Option.map_eq_some_iff.mp e
  subst e4
  refine ⟨P, B, L, ρ, r, ρ1, R0, e1, fun x H1 La Ea p1 v1 => ?_⟩
  obtain ⟨E', L', q, _⟩ := psd_of p1.rep v1 e2
  refine ⟨E' ++ P, B, L', ρ2, d, ρ3, q.rep, q.dq, e3, fun σ' _ _ R' => k σ' H1 L' R'.drop (p1.step.trans (Post.less (K := (X.D tl)) q.rep q.es q.ls).step)⟩
theorem s_unp {tgE : Expr} {is : List Nat} {tg : GD} (he : PE X a (RD (X.D tl) f)) (hg : PG X tgE (RG (X.D tl) is tg)) (hs : swapsWithSole [tgE] a pos.line X.env = pure false := by rfl) (hw : swappedStores [tgE] a X.env = pure none := by rfl)
    (h1 : (assignEach [tgE] X.env).map (·.2) = [assign tgE X.env] := by rfl) : PS X (.Assign [tgE] a pos) (RS (X.D tl) (unpS tg f)) :=
  (ps_asg he hg hs hw h1).imp fun _ _ _ h => unp_imp h
theorem sl_all {rs : List Val} (h : rs.all notSl = true) : ∀ r ∈ rs, ∀ j, r ≠ .sl j := fun r hr j e => by
  have := List.all_eq_true.mp h r hr
  rw [e] at this
  cases this
theorem par_core {is : List Nat} {D : Ends} {σ : L2.St} {H : Hp} (h : RS (X.D tl) (parS is t) D σ H) : RA (X.D tl) t σ H fun xs H1 => is.length = xs.length ∧ xs.length ≤ sizeLine ∧ ∀ H2, Keep [] H1 H2 → D.nx ((is.zip xs).foldl (fun s p => s.set p.1 (some p.2)) σ) H2 := by
  have ll := lim_line
  obtain ⟨P, B, L, ρ, o, R0, e, k⟩ := h
  obtain ⟨⟨rs, ρ1⟩, e1, e⟩ := Option.bind_eq_some_iff.mp e
  simp only at e
  split at e
  · rename_i hz
    obtain ⟨ρ2, e2, e3⟩ := Option.map_eq_some_iff.mp e
    subst e3
    refine ⟨P, B, L, ρ, rs, ρ1, R0, e1, fun xs H1 La Ea p1 v1 => ?_⟩
    have hlen : xs.length = rs.length := by
      clear e1 e2 hz e k
      induction v1 with
      | nil => rfl
      | cons _ _ _ ih => rw [List.length_cons, List.length_cons, ih]
    obtain ⟨E2, Lb, R2, h1, h2, h3⟩ := stAll_of p1.rep v1 (sl_all hz.1) e2
    refine ⟨h3, by rw [hlen]; have := hz.2; omega, fun H2 kp => ?_⟩
    exact k _ H2 Lb (R2.drop.same kp) ((step_more (L := L) p1.step p1.esub h2).trans (Step.of_same kp))
  · cases e
/-- by way of the tuple -/
theorem s_par {ts : List Expr} {is : List Nat} {n kt k2 : Nat} {pt pt2 : Pos} (hc : X.calm = true) (ha : PA X es (RA (X.D tl) t)) (h : PGs X ts (gsOf is)) (hl : is.length = n) (hn : (assignEach ts X.env).length = n := by rfl) (hst : (assignEach ts X.env).findIdx? (·.1) = none := by rfl)
    (hs : swapsWithSole [.Tuple ts kt pt] (.Tuple es k2 pt2) pos.line X.env = pure false := by rfl) (hw : swappedStores [.Tuple ts kt pt] (.Tuple es k2 pt2) X.env = pure none := by rfl)
    (h1 : (assignEach [.Tuple ts kt pt] X.env).map (·.2) = [assign (.Tuple ts kt pt) X.env] := by rfl) : PS X (.Assign [.Tuple ts kt pt] (.Tuple es k2 pt2) pos) (RS (X.D tl) (parS is t)) :=
  (ps_asg (pe_tup ha) (pg_tup hc h hn hst) hs hw h1).imp fun D σ H h => by
    obtain ⟨P, B, L, ρ, rs, ρ', R0, e, k⟩ := par_core h
    refine ⟨P, B, L, ρ, rs, ρ', R0, e, fun xs H' L' E' p v => ?_⟩
    obtain ⟨q1, q2, q3⟩ := k xs H' L' E' p v
    refine ⟨q2, fun p hp => ⟨p, xs, rfl, .inl (.inl upd_same), by rw [← q1, hl], gs_run is xs σ q1 (q3 _ (Keep.new hp))⟩⟩
/-- two plain names, stored from the right -/
theorem s_par2 {i j : Nat} {x y : Str} {u v : Expr} {px py pt : Pos} {kt k2 : Nat} {pt2 : Pos} (hc : X.calm = true) (hij : i ≠ j) (hN : X.N.Nodup) (ha : PA X [u, v] (RA (X.D tl) t)) (hi : X.N[i]? = some x := by rfl) (hj : X.N[j]? = some y := by rfl)
    (hx : X.env.scope.names.lookup x = some .local := by rfl) (hy : X.env.scope.names.lookup y = some .local := by rfl)
    (hw : swappedStores [.Tuple [.Name x px, .Name y py] kt pt] (.Tuple [u, v] k2 pt2) X.env = pure (some [x, y]) := by rfl)
    (hs : swapsWithSole [.Tuple [.Name x px, .Name y py] kt pt] (.Tuple [u, v] k2 pt2) pos.line X.env = pure false := by rfl) :
    PS X (.Assign [.Tuple [.Name x px, .Name y py] kt pt] (.Tuple [u, v] k2 pt2) pos) (RS (X.D tl) (parS [i, j] t)) :=
  (ps_par hc hN hi hj hij hx hy ha hw hs).imp fun D σ H h => by
    obtain ⟨P, B, L, ρ, rs, ρ', R0, e, k⟩ := par_core h
    refine ⟨P, B, L, ρ, rs, ρ', R0, e, fun xs H' L' E' p v => ?_⟩
    obtain ⟨q1, q2, q3⟩ := k xs H' L' E' p v
    match xs, q1 with
    | [v1, v2], _ => exact ⟨v1, v2, rfl, q3 H' keep_refl⟩
end

/-! ### loops -/
def loopD (tg : GD) (body : SD) : List PyData → DL.Env → Option Out
  | [], ρ => some (.nx ρ)
  | d :: ds, ρ => (tg ρ d).bind fun ρ1 => (body ρ1).bind fun o => match o with
    | .nx ρ2 => loopD tg body ds ρ2
    | .ct ρ2 => loopD tg body ds ρ2
    | .bk ρ2 => some (.nx ρ2)
    | .rt r ρ2 => some (.rt r ρ2)
abbrev ID := DL.Env → Option (List PyData × DL.Env)
def forS (fi : ID) (tg : GD) (body : SD) : SD := fun ρ => (fi ρ).bind fun p => loopD tg body p.1 p.2
def Walks (K : Fg) (P B L : List Addr) (H : Hp) (J : It) (ds : List PyData) : Prop :=
  ∀ H2 L2 E, Step B L H L2 H2 → (∀ a ∈ E, H a = none) → (∀ i d, ds[i]? = some d → J.go i H2 ∧ ∀ x H3, J.yld i H2 x H3 → Keep [] H2 H3 ∧ Dq K H3 (E ++ P ++ B ++ L2) x d) ∧ J.stop ds.length H2
/-- the same, where lists that are shut out may change, too -/
def WalksA (K : Fg) (P B L : List Addr) (H : Hp) (J : It) (ds : List PyData) : Prop :=
  ∀ H2 L2 E, Step (P ++ B) L H L2 H2 → (∀ a ∈ E, H a = none) → (∀ i d, ds[i]? = some d → J.go i H2 ∧ ∀ x H3, J.yld i H2 x H3 → Keep [] H2 H3 ∧ Dq K H3 (E ++ P ++ B ++ L2) x d) ∧ J.stop ds.length H2
theorem Step.wide {P B L L' : List Addr} {H H' : Hp} (s : Step B L H L' H') : Step (P ++ B) L H L' H' := ⟨s.keep.mono fun a z => (List.mem_append.mp z).elim (fun z => List.mem_append_left _ (List.mem_append_right _ z)) fun z => List.mem_append_right _ z, s.lsub, s.ne⟩
theorem WalksA.walks {K : Fg} {P B L : List Addr} {H : Hp} {J : It} {ds : List PyData} (w : WalksA K P B L H J ds) : Walks K P B L H J ds := fun H2 L2 E s he => w H2 L2 E s.wide he
def RI (K : Fg) (fi : ID) : TI := fun σ H R => ∃ P B L ρ ds ρ', Rep K P B L σ ρ H ∧ fi ρ = some (ds, ρ') ∧ ∀ J H' L' E', Post K P B L σ H [] ρ' H' L' E' → WalksA K (E' ++ P) B L' H' J ds → R J H'
theorem _root_.L2.PI.imp {X : Cx} {tg e : Expr} {t t' : TI} (p : PI X tg e t) (h : ∀ σ H Q, t' σ H Q → t σ H Q) : PI X tg e t' := ⟨fun pins s σ H Q I q => p.run pins s σ H Q I (h σ H Q q)⟩
theorem _root_.L2.PI.or {X : Cx} {tg e : Expr} {t t' : TI} (p : PI X tg e t) (p' : PI X tg e t') : PI X tg e (fun σ H R => t σ H R ∨ t' σ H R) := ⟨fun pins s σ H Q I q => q.elim (p.run pins s σ H Q I) (p'.run pins s σ H Q I)⟩
section
variable {X : Cx} {tl : TL} {tgE iter : Expr} {body : List Stmt} {fi : ID} {tg : GD} {is : List Nat} {g : SD} {c : Expr} {q : TD} {pos : Pos}
theorem drop_cons {α : Type} {l : List α} {i : Nat} {d : α} (h : l[i]? = some d) : l.drop i = d :: l.drop (i + 1) := by
  obtain ⟨h1, h2⟩ := List.getElem?_eq_some_iff.mp h
  rw [← h2]
  exact List.drop_eq_getElem_cons h1
theorem hmem (E5 Ea P B L5 : List Addr) : ∀ a ∈ E5 ++ P ++ B ++ L5, a ∈ E5 ++ (Ea ++ P) ++ B ++ L5 := fun a z => by
  rcases mem4.mp z with z | z | z | z
  · exact mem4.mpr (.inl z)
  · exact mem4.mpr (.inr (.inl (List.mem_append_right _ z)))
  · exact mem4.mpr (.inr (.inr (.inl z)))
  · exact mem4.mpr (.inr (.inr (.inr z)))
theorem _root_.DL.Rep.weakP {K : Fg} {P P' B L : List Addr} {σ : L2.St} {ρ : DL.Env} {H : Hp} (R : Rep K P B L σ ρ H) (hp : ∀ a ∈ P', a ∈ P) : Rep K P' B L σ ρ H := by
  have hs : ∀ a ∈ P' ++ B ++ L, a ∈ P ++ B ++ L := fun a z => by
    rcases mem3.mp z with z | z | z
    · exact mem3.mpr (.inl (hp a z))
    · exact mem3.mpr (.inr (.inl z))
    · exact mem3.mpr (.inr (.inr z))
  refine ⟨R.len, fun a z => R.wl a (hs a z), ⟨fun a z => R.nd.1 a (hp a z), R.nd.2⟩, fun i => ?_, R.inj, R.tabs⟩
  have h0 := R.ok i
  revert h0
  generalize ρ.getD i .no = cc
  intro h0
  cases cc with
  | no => trivial
  | cl d => obtain ⟨v, e, h⟩ := h0; exact ⟨v, e, h.sub hs⟩
  | op ds => obtain ⟨a, vs, e, hm, hh, h⟩ := h0; exact ⟨a, vs, e, hm, hh, h.sub hs⟩
  | pm ds => obtain ⟨a, vs, e, hm, hh, h⟩ := h0; exact ⟨a, vs, e, hm, hh, h.sub hs⟩
theorem for_imp {D : Ends} {σ : L2.St} {H : Hp} (h : RS (X.D tl) (forS fi tg g) D σ H) : tFor (RI (X.D tl) fi) (RG (X.D tl) is tg) (RS (X.D tl) g) D σ H := by
  obtain ⟨P, B, L, ρ, o, R0, e, k⟩ := h
  obtain ⟨⟨ds, ρ1⟩, e1, e2⟩ := Option.bind_eq_some_iff.mp e
  refine ⟨P, B, L, ρ, ds, ρ1, R0, e1, fun J H1 La Ea p1 wk => ?_⟩
  refine ⟨fun i m σ H => m = ds.length - i ∧ i ≤ ds.length ∧ ∃ L ρ, Rep (X.D tl) (Ea ++ P) B L σ ρ H ∧ Step B La H1 L H ∧ loopD tg g (ds.drop i) ρ = some o, ⟨ds.length, by simp, Nat.zero_le _, La, ρ1, p1.rep, .refl, by simpa using e2⟩, ?_⟩
  rintro i m σ' H' ⟨rfl, hi, L', ρ', R', s', e'⟩
  obtain ⟨wgo, wst⟩ := wk.walks H' L' [] s' (fun _ z => nomatch z)
  cases hd : ds[i]? with
  | none =>
    have hz : i = ds.length := by
      have := List.getElem?_eq_none_iff.mp hd
      omega
    subst hz
    rw [List.drop_length] at e'
    cases e'
    exact .inl ⟨wst, k σ' H' L' R'.drop (p1.step.trans s')⟩
  | some d =>
    have hlt := (List.getElem?_eq_some_iff.mp hd).1
    obtain ⟨gg, gy⟩ := wgo i d hd
    rw [drop_cons hd] at e'
    obtain ⟨ρ2, e3, e4⟩ := Option.bind_eq_some_iff.mp e'
    obtain ⟨o2, e5, e6⟩ := Option.bind_eq_some_iff.mp e4
    refine .inr ⟨gg, fun σ2 H2 => ∃ L ρ, Rep (X.D tl) (Ea ++ P) B L σ2 ρ H2 ∧ Step B La H1 L H2 ∧ loopD tg g (ds.drop (i + 1)) ρ = some o, fun σ2 H2 hn => ⟨ds.length - (i + 1), by omega, rfl, hlt, hn⟩, fun x H3 hy => ?_⟩
    obtain ⟨kp, dq⟩ := gy x H3 hy
    have R3 : Rep (X.D tl) (Ea ++ P) B L' σ' ρ' H3 := R'.same kp
    have s3 : Step B La H1 L' H3 := s'.trans (Step.of_same kp)
    refine ⟨Ea ++ P, B, L', ρ', d, ρ2, R3, (show Dq (X.D tl) H3 ((Ea ++ P) ++ B ++ L') x d from dq), e3, fun σ4 _ _ R4 => ⟨Ea ++ P, B, L', ρ2, o2, R4, e5, ?_⟩⟩
    cases o2 with
    | nx ρ5 => exact fun σ5 H5 L5 R5 s5 => ⟨L5, ρ5, R5, s3.trans s5, e6⟩
    | ct ρ5 => exact fun σ5 H5 L5 R5 s5 => ⟨L5, ρ5, R5, s3.trans s5, e6⟩
    | bk ρ5 =>
      cases e6
      exact fun σ5 H5 L5 R5 s5 => k σ5 H5 L5 R5.drop (p1.step.trans (s3.trans s5))
    | rt r ρ5 =>
      cases e6
      refine fun σ5 x5 H5 L5 E5 R5 s5 f5 v5 => k σ5 x5 H5 L5 E5 ?_ (p1.step.trans (s3.trans s5)) (fun a ha => ?_) ?_
      · exact R5.weakP fun a z => (List.mem_append.mp z).elim (fun z => List.mem_append_left _ z) fun z => List.mem_append_right _ (List.mem_append_right _ z)
      · cases eh : H a with
        | none => rfl
        | some u => exact absurd (f5 a ha) ((p1.step.trans s3).ne a (by rw [eh]; exact fun z => nomatch z))
      · cases r with
        | cl d => exact Dq.sub (hmem E5 Ea P B L5) (show Dq (X.D tl) H5 (E5 ++ (Ea ++ P) ++ B ++ L5) x5 d from v5)
        | own fs =>
          obtain ⟨a, us, e1, h1, h2, h3, h4⟩ := v5
          exact ⟨a, us, e1, h1, fun z => h2 (List.mem_append_right _ z), h3, h4.sub (hmem E5 Ea P B L5)⟩
        | sl j => exact v5
theorem s_for (hp : PassesOwn (model X.prog X.w) X.A X.env X.xe) (hc : X.calm = true) (hi : PI X tgE iter (RI (X.D tl) fi)) (hg : PG X tgE (RG (X.D tl) is tg)) (hb : PSs X body (RS (X.D tl) g)) (hs : ∀ x, foldedSetIterable iter X.env x = pure x := by intro _; rfl) :
    PS X (.For tgE iter body [] pos) (RS (X.D tl) (forS fi tg g)) := (ps_for hp hc hi hg hb hs).imp fun _ _ _ h => for_imp h
def whileD (c : TD) (body : SD) : Nat → DL.Env → Option Out
  | 0, _ => none
  | n + 1, ρ => (c ρ).bind fun p => if p.1 = true then (body p.2).bind fun o => match o with
      | .nx ρ2 => whileD c body n ρ2
      | .ct ρ2 => whileD c body n ρ2
      | .bk ρ2 => some (.nx ρ2)
      | .rt r ρ2 => some (.rt r ρ2)
    else some (.nx p.2)
def whileS (n : Nat) (c : TD) (body : SD) : SD := fun ρ => whileD c body n ρ
theorem while_imp {n : Nat} {D : Ends} {σ : L2.St} {H : Hp} (h : RS (X.D tl) (whileS n q g) D σ H) : tWhile (RT (X.D tl) q) (RS (X.D tl) g) D σ H := by
  obtain ⟨P, B, L, ρ, o, R0, e, k⟩ := h
  refine ⟨fun m σ H' => ∃ La ρ, Rep (X.D tl) P B La σ ρ H' ∧ Step B L H La H' ∧ whileD q g m ρ = some o, ⟨n, L, ρ, R0, .refl, e⟩, ?_⟩
  rintro m σ1 H1 ⟨La, ρ1, R1, s1, e1⟩
  cases m with
  | zero => cases e1
  | succ m =>
    obtain ⟨⟨b, ρ2⟩, e2, e3⟩ := Option.bind_eq_some_iff.mp e1
    refine ⟨P, B, La, ρ1, b, ρ2, R1, e2, fun H2 Lb Eb p2 => ?_⟩
    cases b with
    | false =>
      have e4 : o = .nx ρ2 := (Option.some.inj (by simpa using e3)).symm
      subst e4
      rw [if_neg Bool.false_ne_true]
      exact k σ1 H2 Lb p2.toStep (s1.trans p2.step)
    | true =>
      rw [if_pos rfl]
      simp only [if_true] at e3
      obtain ⟨o2, e4, e5⟩ := Option.bind_eq_some_iff.mp e3
      refine ⟨fun σ3 H3 => ∃ Lc ρ3, Rep (X.D tl) P B Lc σ3 ρ3 H3 ∧ Step B L H Lc H3 ∧ whileD q g m ρ3 = some o, fun σ3 H3 hn => ⟨m, Nat.lt_succ_self _, hn⟩, P, B, Lb, ρ2, o2, p2.toStep, e4, ?_⟩
      cases o2 with
      | nx ρ5 => exact fun σ5 H5 L5 R5 s5 => ⟨L5, ρ5, R5, s1.trans (p2.step.trans s5), e5⟩
      | ct ρ5 => exact fun σ5 H5 L5 R5 s5 => ⟨L5, ρ5, R5, s1.trans (p2.step.trans s5), e5⟩
      | bk ρ5 =>
        cases e5
        exact fun σ5 H5 L5 R5 s5 => k σ5 H5 L5 R5 (s1.trans (p2.step.trans s5))
      | rt r ρ5 =>
        cases e5
        exact OutOk.after k (s1.trans p2.step)
theorem s_while (n : Nat) (hp : PassesOwn (model X.prog X.w) X.A X.env X.xe) (hc : PT X c (RT (X.D tl) q)) (hb : PSs X body (RS (X.D tl) g)) : PS X (.While c body [] pos) (RS (X.D tl) (whileS n q g)) := (ps_while hp hc hb).imp fun _ _ _ h => while_imp h
end
end DL
end
noncomputable section
namespace DL
open PySem PySem.Spec PyProof.Rows L2

/-! ### what is walked -/
def seqI (f : ED) : ID := fun ρ => (f ρ).bind fun p => (psV p.2 p.1).bind fun q => match q.1 with
  | .list ds => some (ds, q.2)
  | .tuple ds => some (ds, q.2)
  | _ => none
def rngD (a : Int) (n : Nat) (c : Int) : List PyData := (List.range n).map fun (k : Nat) => .int (a + k * c)
def rng1I (t : AD) : ID := fun ρ => (t ρ).bind fun p => match p.1 with
  | [.cl (.int j)] => if -lim ≤ j ∧ j ≤ lim then some (rngD 0 j.toNat 1, p.2) else none
  | _ => none
def rng2I (t : AD) : ID := fun ρ => (t ρ).bind fun p => match p.1 with
  | [.cl (.int i), .cl (.int j)] => if (-lim ≤ i ∧ i ≤ lim) ∧ -lim ≤ j ∧ j ≤ lim then some (rngD i (j - i).toNat 1, p.2) else none
  | _ => none
def rng3I (t : AD) : ID := fun ρ => (t ρ).bind fun p => match p.1 with
  | [.cl (.int i), .cl (.int j), .cl (.int c)] => if ((-lim ≤ i ∧ i ≤ lim) ∧ -lim ≤ j ∧ j ≤ lim) ∧ c = -1 then some (rngD i (i - j).toNat (-1), p.2) else none
  | _ => none
section
variable {X : Cx} {tl : TL} {tgE a b c : Expr} {f : ED} {t : AD} {pos p : Pos}
theorem Dq.stepE {K : Fg} {P B L L' E : List Addr} {σ : L2.St} {ρ : DL.Env} {H H' : Hp} (R : Rep K P B L σ ρ H) (s : Step B L H L' H') (he : ∀ a ∈ E, H a = none) {v : V} {d : PyData} (h : Dq K H (P ++ B ++ L) v d) : Dq K H' (E ++ P ++ B ++ L') v d :=
  h.move R.lbl (fun a z => mem3.mpr (.inr (List.mem_append.mp z))) s.keep fun a z => by
    rcases mem4.mp z with z | z | z | z
    · exact .inr (he a z)
    · exact .inl (mem3.mpr (.inl z))
    · exact .inl (mem3.mpr (.inr (.inl z)))
    · exact (s.lsub a z).imp (fun z => mem3.mpr (.inr (.inr z))) id
theorem Dq.stepA {K : Fg} {P B L L' E : List Addr} {σ : L2.St} {ρ : DL.Env} {H H' : Hp} (R : Rep K P B L σ ρ H) (s : Step (P ++ B) L H L' H') (he : ∀ a ∈ E, H a = none) {v : V} {d : PyData} (h : Dq K H (P ++ B ++ L) v d) : Dq K H' (E ++ P ++ B ++ L') v d :=
  h.move R.wl (fun a z => z) s.keep fun a z => by
    rcases mem4.mp z with z | z | z | z
    · exact .inr (he a z)
    · exact .inl (mem3.mpr (.inl z))
    · exact .inl (mem3.mpr (.inr (.inl z)))
    · exact (s.lsub a z).imp (fun z => mem3.mpr (.inr (.inr z))) id
theorem walks_l {K : Fg} {P B L : List Addr} {σ : L2.St} {ρ : DL.Env} {H : Hp} {l : Addr} {ds : List PyData} (R : Rep K P B L σ ρ H) (d : Dq K H (P ++ B ++ L) (.ref l) (.list ds)) : WalksA K P B L H (Itl K l) ds := fun H2 L2 E s he => by
  have d2 := Dq.stepA R s he d
  cases d2 with
  | lst h1 h2 h3 =>
    rename_i xs
    refine ⟨fun i d hd => ?_, ⟨xs, .of h2, Nat.le_of_eq h3.length⟩⟩
    obtain ⟨v, hv, dv⟩ := h3.get hd
    refine ⟨⟨xs, v, .of h2, hv⟩, fun x H3 hy => ?_⟩
    obtain ⟨rfl, hx⟩ := hy
    have := hx xs (.of h2)
    rw [hv] at this
    cases this
    exact ⟨keep_refl, dv⟩
theorem walks_t {K : Fg} {P B L : List Addr} {σ : L2.St} {ρ : DL.Env} {H : Hp} {l : Addr} {ds : List PyData} (R : Rep K P B L σ ρ H) (d : Dq K H (P ++ B ++ L) (.ref l) (.tuple ds)) : WalksA K P B L H (Itt K l) ds := fun H2 L2 E s he => by
  have d2 := Dq.stepA R s he d
  cases d2 with
  | tup h2 h3 =>
    rename_i xs
    refine ⟨fun i d hd => ?_, ⟨xs, h2.sq, Nat.le_of_eq h3.length⟩⟩
    obtain ⟨v, hv, dv⟩ := h3.get hd
    refine ⟨⟨xs, v, h2.sq, hv⟩, fun x H3 hy => ?_⟩
    obtain ⟨rfl, hx⟩ := hy
    have := hx xs h2.sq
    rw [hv] at this
    cases this
    exact ⟨keep_refl, dv⟩
theorem dq_list {K : Fg} {H : Hp} {W : List Addr} {x : V} {ds : List PyData} (d : Dq K H W x (.list ds)) : ∃ a xs, x = V.ref a ∧ SqL K H a xs := by
  cases d with
  | lst h1 h2 h3 => exact ⟨_, _, rfl, .of h2⟩
theorem dq_tup {K : Fg} {H : Hp} {W : List Addr} {x : V} {ds : List PyData} (d : Dq K H W x (.tuple ds)) : ∃ a xs, x = V.ref a ∧ SqT K H a xs := by
  cases d with
  | tup h2 h3 => exact ⟨_, _, rfl, h2.sq⟩
theorem i_seq (h : PE X a (RD (X.D tl) f)) : PI X tgE a (RI (X.D tl) (seqI f)) := ((pi_list h).or (pi_tup h)).imp fun σ H R h => by
  obtain ⟨P, B, L, ρ, ds, ρ', R0, e, k⟩ := h
  obtain ⟨⟨r, ρ1⟩, e1, e⟩ := Option.bind_eq_some_iff.mp e
  obtain ⟨⟨d, ρ2⟩, e2, e⟩ := Option.bind_eq_some_iff.mp e
  have go : ∀ {x : V} {H1 : Hp} {La Ea : List Addr}, Post (X.D tl) P B L σ H [] ρ1 H1 La Ea → VR (X.D tl) Ea P B La σ H1 x r → ∃ E' L', Post (X.D tl) P B L σ H [] ρ2 H1 L' E' ∧ Dq (X.D tl) H1 (E' ++ P ++ B ++ L') x d := fun {x H1 La Ea} p1 v1 => by
    obtain ⟨E', L', q, _⟩ := psd_of p1.rep v1 e2
    exact ⟨E', L', p1.then (Post.less q.rep q.es q.ls), q.dq⟩
  simp only at e
  split at e
  · cases e
    refine .inl ⟨P, B, L, ρ, r, ρ1, R0, e1, fun x H1 La Ea p1 v1 => ?_⟩
    obtain ⟨E', L', p2, dq⟩ := go p1 v1
    obtain ⟨l, xs, rfl, hq⟩ := dq_list dq
    exact ⟨l, rfl, ⟨xs, hq⟩, k _ _ _ _ p2 (walks_l p2.rep dq)⟩
  · cases e
    refine .inr ⟨P, B, L, ρ, r, ρ1, R0, e1, fun x H1 La Ea p1 v1 => ?_⟩
    obtain ⟨E', L', p2, dq⟩ := go p1 v1
    obtain ⟨l, xs, rfl, hq⟩ := dq_tup dq
    exact ⟨l, rfl, ⟨xs, hq⟩, k _ _ _ _ p2 (walks_t p2.rep dq)⟩
  · cases e
theorem rng_get {a : Int} {n : Nat} {c : Int} {i : Nat} {d : PyData} (h : (rngD a n c)[i]? = some d) : i < n ∧ d = .int (a + i * c) := by
  unfold rngD at h
  rw [List.getElem?_map] at h
  obtain ⟨k, h1, h2⟩ := Option.map_eq_some_iff.mp h
  obtain ⟨h3, h4⟩ := List.getElem?_eq_some_iff.mp h1
  rw [List.getElem_range] at h4
  rw [List.length_range] at h3
  subst h4
  exact ⟨h3, h2.symm⟩
theorem rng_len (a : Int) (n : Nat) (c : Int) : (rngD a n c).length = n := by unfold rngD; rw [List.length_map, List.length_range]
theorem walks_r {K : Fg} {P B L : List Addr} {H : Hp} {a : Int} {n : Nat} : WalksA K P B L H (Itr a n) (rngD a n 1) := fun H2 L2 E s he => by
  refine ⟨fun i d hd => ?_, by rw [rng_len]; exact Nat.le_refl _⟩
  obtain ⟨h1, rfl⟩ := rng_get hd
  refine ⟨h1, fun x H3 hy => ?_⟩
  obtain ⟨rfl, rfl⟩ := hy
  rw [Int.mul_one]
  exact ⟨keep_refl, .int _⟩
theorem walks_c {K : Fg} {P B L : List Addr} {H : Hp} {a c : Int} {n : Nat} : WalksA K P B L H (Itc a c n) (rngD a n c) := fun H2 L2 E s he => by
  refine ⟨fun i d hd => ?_, by rw [rng_len]; exact Nat.le_refl _⟩
  obtain ⟨h1, rfl⟩ := rng_get hd
  refine ⟨h1, fun x H3 hy => ?_⟩
  obtain ⟨rfl, rfl⟩ := hy
  exact ⟨keep_refl, .int _⟩
theorem lim62 : (lim : Int) < 2 ^ 62 := by rw [lim_eq]; decide
theorem i_rng1 (hg : Gl X "range") (hm : X.mg "range" = none) (ha : PA X [a] (RA (X.D tl) t)) (hs : starEach [a] X.env = [(false, eval a X.env)] := by rfl) : PI X tgE (.Call (.Name "range" p) [a] [] pos) (RI (X.D tl) (rng1I t)) := (pi_range1 hg hm ha hs).imp fun σ H R h => by
  have hl := lim62
  obtain ⟨P, B, L, ρ, ds, ρ', R0, e, k⟩ := h
  obtain ⟨⟨rs, ρ1⟩, e1, e⟩ := Option.bind_eq_some_iff.mp e
  simp only at e
  split at e
  · rename_i j
    split at e
    · rename_i hz
      cases e
      refine ⟨P, B, L, ρ, _, _, R0, e1, fun xs H1 La Ea p1 v1 => ?_⟩
      obtain ⟨x, rfl, v⟩ := vrs_one v1
      exact ⟨j, by rw [v.int], by omega, by omega, k _ _ _ _ p1 walks_r⟩
    · cases e
  · cases e
theorem i_rng2 (hg : Gl X "range") (hm : X.mg "range" = none) (ha : PA X [a, b] (RA (X.D tl) t)) (hs : starEach [a, b] X.env = [(false, eval a X.env), (false, eval b X.env)] := by rfl) (hs2 : starEach [b] X.env = [(false, eval b X.env)] := by rfl) :
    PI X tgE (.Call (.Name "range" p) [a, b] [] pos) (RI (X.D tl) (rng2I t)) := (pi_range2 hg hm ha hs hs2).imp fun σ H R h => by
  have hl := lim62
  obtain ⟨P, B, L, ρ, ds, ρ', R0, e, k⟩ := h
  obtain ⟨⟨rs, ρ1⟩, e1, e⟩ := Option.bind_eq_some_iff.mp e
  simp only at e
  split at e
  · rename_i i j
    split at e
    · rename_i hz
      cases e
      refine ⟨P, B, L, ρ, _, _, R0, e1, fun xs H1 La Ea p1 v1 => ?_⟩
      cases v1 with
      | cons w1 _ v1 =>
        obtain ⟨x, rfl, v⟩ := vrs_one v1
        exact ⟨i, j, by rw [v.int, w1.int], by omega, k _ _ _ _ p1 walks_r⟩
    · cases e
  · cases e
theorem i_rng3 (hg : Gl X "range") (hm : X.mg "range" = none) (ha : PA X [a, b, c] (RA (X.D tl) t)) (hs : starEach [a, b, c] X.env = (false, eval a X.env) :: starEach [b, c] X.env := by rfl) (hpl : (backTo pos (starEach [b, c] X.env)).any (·.1) = false := by rfl) :
    PI X tgE (.Call (.Name "range" p) [a, b, c] [] pos) (RI (X.D tl) (rng3I t)) := (pi_range3 hg hm ha hs hpl).imp fun σ H R h => by
  have hl := lim62
  obtain ⟨P, B, L, ρ, ds, ρ', R0, e, k⟩ := h
  obtain ⟨⟨rs, ρ1⟩, e1, e⟩ := Option.bind_eq_some_iff.mp e
  simp only at e
  split at e
  · rename_i i j c
    split at e
    · rename_i hz
      cases e
      obtain ⟨hz, rfl⟩ := hz
      refine ⟨P, B, L, ρ, _, _, R0, e1, fun xs H1 La Ea p1 v1 => ?_⟩
      cases v1 with
      | cons w1 _ v1 =>
        cases v1 with
        | cons w2 _ v1 =>
          obtain ⟨x, rfl, v⟩ := vrs_one v1
          exact ⟨i, j, -1, _, by rw [v.int, w1.int, w2.int], RgC.neg (by omega) (by omega) (by omega) (by omega), k _ _ _ _ p1 walks_c⟩
    · cases e
  · cases e
end

/-! ### comprehensions -/
def wipeE (ρ : DL.Env) : List Nat → DL.Env
  | [] => ρ
  | v :: vs => (wipeE ρ vs).set v .no
def restE (ρ ρ0 : DL.Env) : List Nat → DL.Env
  | [] => ρ
  | v :: vs => (restE ρ ρ0 vs).set v (ρ0.getD v .no)
def lcLoop (own : List Nat) (tg : GD) (tt : TD) (te : ED) : List PyData → List PyData → DL.Env → Option (List PyData × DL.Env)
  | acc, [], ρ => some (acc, ρ)
  | acc, d :: ds, ρ => (tg ρ d).bind fun ρ1 => (tt ρ1).bind fun p => if p.1 = true then (te p.2).bind fun q => (psV q.2 q.1).bind fun s =>
      if acc.length < lim then lcLoop own tg tt te (acc ++ [s.1]) ds (wipeE s.2 own) else none
    else lcLoop own tg tt te acc ds (wipeE p.2 own)
def lcD (own : List Nat) (fi : ID) (tg : GD) (tt : TD) (te : ED) : ED := fun ρ => (fi ρ).bind fun p => if own.all (fun i => !(p.2.getD i .no).isOpen) = true then
    (lcLoop own tg tt te [] p.1 (wipeE p.2 own)).bind fun q => some (.own q.1, restE q.2 p.2 own)
  else none
def yesT : TD := fun ρ => some (true, ρ)
section
variable {K : Fg} {P B L E : List Addr} {σ : L2.St} {ρ ρ' ρ0 : DL.Env} {H : Hp}
theorem Rep.setNo (R : Rep K P B L σ ρ H) (i : Nat) (x : Option V) : Rep K P B L (σ.set i x) (ρ.set i .no) H := by
  refine ⟨by rw [List.length_set, List.length_set]; exact R.len, R.wl, R.nd, fun j => ?_, fun j k a hjk h1 h2 e1 e2 => ?_, R.tabs⟩
  · rw [getD_set, getS_set, R.len]
    by_cases hj : i = j ∧ i < ρ.length
    · rw [if_pos hj, if_pos hj]; trivial
    · rw [if_neg hj, if_neg hj]; exact R.ok j
  · rw [getD_set] at h1 h2
    rw [getS_set, R.len] at e1 e2
    by_cases hj : i = j ∧ i < ρ.length
    · rw [if_pos hj] at h1; cases h1
    · by_cases hk : i = k ∧ i < ρ.length
      · rw [if_pos hk] at h2; cases h2
      · rw [if_neg hj] at h1 e1
        rw [if_neg hk] at h2 e2
        exact R.inj j k a hjk h1 h2 e1 e2
theorem Rep.wipe (R : Rep K P B L σ ρ H) : ∀ vs : List Nat, Rep K P B L (L2.wipe σ vs) (wipeE ρ vs) H
  | [] => R
  | v :: vs => (Rep.wipe R vs).setNo v none
theorem wipe_other {σ : L2.St} : ∀ {vs : List Nat} {k : Nat}, k ∉ vs → (L2.wipe σ vs)[k]? = σ[k]?
  | [], _, _ => rfl
  | v :: vs, k, h => by
    have h' : k ≠ v ∧ k ∉ vs := by simpa [not_or] using h
    unfold L2.wipe
    rw [List.getElem?_set_ne (Ne.symm h'.1), wipe_other h'.2]
theorem wipe_in {σ : L2.St} : ∀ {vs : List Nat} {k : Nat}, k ∈ vs → (L2.wipe σ vs)[k]? = if k < σ.length then some none else none
  | v :: vs, k, h => by
    unfold L2.wipe
    by_cases e : v = k
    · subst e
      rw [List.getElem?_set, wipe_length]
      simp
    · have h' : k ∈ vs := (List.mem_cons.mp h).resolve_left (Ne.symm e)
      rw [List.getElem?_set_ne e, wipe_in h']
theorem wipe_eq {σ σ2 : L2.St} {vs : List Nat} (hl : σ2.length = σ.length) (h : ∀ k, k ∉ vs → σ2[k]? = (L2.wipe σ vs)[k]?) : L2.wipe σ2 vs = L2.wipe σ vs := by
  refine List.ext_getElem? fun k => ?_
  by_cases hk : k ∈ vs
  · rw [wipe_in hk, wipe_in hk, hl]
  · rw [wipe_other hk, h k hk]
/-- the slots of the block come back -/
theorem rest_of {L1 : List Addr} {H1 : Hp} {vs0 : List Nat} (R0 : Rep K P B L σ ρ0 H) (s : Step B L H L1 H1) (he : ∀ a ∈ E, H a = none) (hno : ∀ i ∈ vs0, (ρ0.getD i .no).isOpen = false) : ∀ (vs : List Nat), (∀ i ∈ vs, i ∈ vs0) →
    ∀ {τ : L2.St} {ρ1 : DL.Env}, Rep K (E ++ P) B L1 τ ρ1 H1 → τ.length = σ.length → (∀ k, k ∉ vs → τ[k]? = σ[k]?) → Rep K (E ++ P) B L1 σ (restE ρ1 ρ0 vs) H1 := by
  intro vs hvs τ ρ1 R1 hl hk
  -- slot by slot
  have key : ∀ (us : List Nat), (∀ i ∈ us, i ∈ vs0) → ∃ τ' : L2.St, Rep K (E ++ P) B L1 τ' (restE ρ1 ρ0 us) H1 ∧ τ'.length = σ.length ∧ (∀ k, k ∈ us → τ'[k]? = σ[k]?) ∧ ∀ k, k ∉ us → τ'[k]? = τ[k]? := by
    intro us
    induction us with
    | nil => exact fun _ => ⟨τ, R1, hl, fun _ z => absurd z List.not_mem_nil, fun _ _ => rfl⟩
    | cons v us ih =>
      intro hu
      obtain ⟨τ', R', l', a', b'⟩ := ih fun i hi => hu i (List.mem_cons_of_mem _ hi)
      have hv := hno v (hu v (List.mem_cons_self ..))
      have q := R0.ok v
      unfold restE
      refine ⟨τ'.set v (σ[v]?.getD none), ?_, by rw [List.length_set, l'], fun k hk => ?_, fun k hk => ?_⟩
      · revert hv q
        generalize ρ0.getD v .no = c
        intro hv q
        cases c with
        | no => exact R'.setNo v _
        | cl d =>
          obtain ⟨x, ex, dx⟩ := q
          rw [ex]
          exact R'.setCl v (Dq.stepE R0 s he dx)
        | op ds => cases hv
        | pm ds => cases hv
      · by_cases e : v = k
        · subst e
          by_cases hlt : v < σ.length
          · rw [List.getElem?_set_self (by rw [l']; exact hlt), List.getElem?_eq_getElem hlt]; rfl
          · rw [List.getElem?_eq_none (by rw [List.length_set, l']; omega), List.getElem?_eq_none (by omega)]
        · rw [List.getElem?_set_ne e]
          exact a' k ((List.mem_cons.mp hk).resolve_left (Ne.symm e))
      · have h' : k ≠ v ∧ k ∉ us := by simpa [not_or] using hk
        rw [List.getElem?_set_ne (Ne.symm h'.1), b' k h'.2]
  obtain ⟨τ', R', l', a', b'⟩ := key vs hvs
  have e : τ' = σ := List.ext_getElem? fun k => by
    by_cases h : k ∈ vs
    · exact a' k h
    · rw [b' k h, hk k h]
  rw [e] at R'
  exact R'
/-- the new list of a comprehension, shut out, is written -/
theorem writeP {D : Addr} {acc' : List V} (R : Rep K P B L σ ρ H) (hD : D ∈ P) : Rep K P B L σ ρ (upd H D (.lst acc')) ∧ ∀ {vs : List V} {ds : List PyData}, DqA K H (P ++ B ++ L) vs ds → DqA K (upd H D (.lst acc')) (P ++ B ++ L) vs ds := by
  have hl : Lists H [D] := fun b z => by
    rw [show b = D by simpa using z]
    exact R.wl D (mem3.mpr (.inl hD))
  have hs : ∀ b ∈ [D], b ∈ P ++ B ++ L := fun b z => (show b = D by simpa using z) ▸ mem3.mpr (.inl hD)
  obtain ⟨us0, hh⟩ := R.wl D (mem3.mpr (.inl hD))
  have mv : ∀ {v : V} {d : PyData}, Dq K H (P ++ B ++ L) v d → Dq K (upd H D (.lst acc')) (P ++ B ++ L) v d := fun h => h.move hl hs (keep_wr hh) fun b z => .inl z
  have mvA : ∀ {v : List V} {d : List PyData}, DqA K H (P ++ B ++ L) v d → DqA K (upd H D (.lst acc')) (P ++ B ++ L) v d := fun h => h.move hl hs (keep_wr hh) fun b z => .inl z
  refine ⟨⟨R.len, fun b hb => ?_, R.nd, fun i => ?_, R.inj, (keep_wr hh).tab _ R.tabs⟩, mvA⟩
  · by_cases z : b = D
    · exact ⟨acc', by rw [z]; exact upd_same⟩
    · obtain ⟨us, q⟩ := R.wl b hb
      exact ⟨us, by rw [upd_ne z]; exact q⟩
  · have q := R.ok i
    have nd := R.nd.1 D hD
    revert q
    generalize ρ.getD i .no = c
    intro q
    cases c with
    | no => trivial
    | cl d => obtain ⟨v, e2, h⟩ := q; exact ⟨v, e2, mv h⟩
    | op fs =>
      obtain ⟨b, us, e2, h1, h2, h3⟩ := q
      exact ⟨b, us, e2, h1, by rw [upd_ne fun z => nd.2 (by rw [← z]; exact h1)]; exact h2, mvA h3⟩
    | pm fs =>
      obtain ⟨b, us, e2, h1, h2, h3⟩ := q
      exact ⟨b, us, e2, h1, by rw [upd_ne fun z => nd.1 (by rw [← z]; exact h1)]; exact h2, mvA h3⟩
end

section
variable {K : Fg} {P B L E : List Addr} {σ : L2.St} {ρ ρ' ρ0 : DL.Env} {H : Hp}
theorem step_new {L' : List Addr} {H' : Hp} {D : Addr} {o : HO} (s : Step B L H L' H') (hD : H D = none) {us : List V} (hl : H' D = some (.lst us)) : Step B L H L' (upd H' D o) :=
  ⟨⟨fun b u e hb ho => by rw [upd_ne (ne_of_none e hD)]; exact s.keep.old b u e hb ho, fun T t => (keep_wr hl).tab T (s.keep.tab T t), fun b h => (keep_wr hl).nn b (s.ne b h)⟩, s.lsub, fun a h z => by
    by_cases q : a = D
    · subst q; exact h hD
    · rw [upd_ne q] at z; exact s.ne a h z⟩
theorem lc_tail {own is : List Nat} {tg : GD} {tt : TD} {te : ED} (hin : ∀ i ∈ is, i ∈ own) {Q : VK} {P B L : List Addr} {ρ ρ1 ρ2 : DL.Env} {ds es : List PyData} (R0 : Rep K P B L σ ρ H) (hno : own.all (fun i => !(ρ1.getD i .no).isOpen) = true)
    (e2 : lcLoop own tg tt te [] ds (wipeE ρ1 own) = some (es, ρ2)) (k : Cont K P B L σ H [] (restE ρ2 ρ1 own) (.own es) Q) (J : It) (H1 : Hp) (La Ea : List Addr) (p1 : Post K P B L σ H [] ρ1 H1 La Ea) (wk : Walks K (Ea ++ P) B La H1 J ds) :
    tLc (fun _ _ R => R J H1) (RG K is tg) (RT K tt) (RD K te) own σ H Q := by
  have ll := lim_line
  intro D hD
  have R1 : Rep K ([D] ++ (Ea ++ P)) B La σ ρ1 (upd H1 D (.lst [])) := p1.rep.move (Keep.new hD) fun a z => by
    rw [show a = D by simpa using z]
    exact ⟨hD, [], upd_same⟩
  have hDD : D ∈ [D] ++ (Ea ++ P) := by simp
  have fD : ∀ a ∈ [D], H1 a = none := fun a z => by rw [show a = D by simpa using z]; exact hD
  refine ⟨fun i m H => m = ds.length - i ∧ i ≤ ds.length ∧ ∃ Lc ρc acc fs, Rep K ([D] ++ (Ea ++ P)) B Lc (L2.wipe σ own) ρc H ∧ Step B La H1 Lc H ∧ H D = some (.lst acc) ∧ DqA K H ([D] ++ (Ea ++ P) ++ B ++ Lc) acc fs ∧ lcLoop own tg tt te fs (ds.drop i) ρc = some (es, ρ2),
    ⟨ds.length, by simp, Nat.zero_le _, La, wipeE ρ1 own, [], [], R1.wipe own, Step.of_same (Keep.new hD), upd_same, .nil, by simpa using e2⟩, ?_⟩
  rintro i m H' ⟨rfl, hi, Lc, ρc, acc, fs, Rc, sc, hacc, dacc, ec⟩
  obtain ⟨wgo, wst⟩ := wk H' Lc [D] sc fD
  cases hd : ds[i]? with
  | none =>
    have hz : i = ds.length := by
      have := List.getElem?_eq_none_iff.mp hd
      omega
    subst hz
    rw [List.drop_length] at ec
    cases ec
    refine .inl ⟨wst, k _ _ Lc (D :: Ea) ⟨?_, p1.step.trans sc, fun a z => ?_⟩ ⟨D, acc, rfl, List.mem_cons_self .., fun z => ?_, hacc, ?_⟩⟩
    · have q := rest_of (E := [D]) p1.rep sc fD (vs0 := own) (fun i hi => by
        have := List.all_eq_true.mp hno i hi
        simpa using this) own (fun _ z => z) Rc (wipe_length σ own) (fun k hk => wipe_other hk)
      simpa using q
    · rcases List.mem_cons.mp z with z | z
      · right
        cases eh : H a with
        | none => rfl
        | some u => exact absurd (z ▸ hD) (p1.step.ne a (by rw [eh]; exact fun z => nomatch z))
      · exact p1.esub a z
    · obtain ⟨vs, q⟩ := R0.wl D (mem3.mpr (.inl z))
      exact absurd hD (p1.step.ne D (by rw [q]; exact fun z => nomatch z))
    · have ee : [D] ++ (Ea ++ P) ++ B ++ Lc = (D :: Ea) ++ P ++ B ++ Lc := by simp
      rw [ee] at dacc
      exact dacc
  | some d =>
    have hlt := (List.getElem?_eq_some_iff.mp hd).1
    obtain ⟨gg, gy⟩ := wgo i d hd
    rw [drop_cons hd] at ec
    obtain ⟨ρ3, e3, ec⟩ := Option.bind_eq_some_iff.mp ec
    obtain ⟨⟨b, ρ4⟩, e4, ec⟩ := Option.bind_eq_some_iff.mp ec
    refine .inr ⟨gg, fun H' => ∃ Lc ρc acc fs, Rep K ([D] ++ (Ea ++ P)) B Lc (L2.wipe σ own) ρc H' ∧ Step B La H1 Lc H' ∧ H' D = some (.lst acc) ∧ DqA K H' ([D] ++ (Ea ++ P) ++ B ++ Lc) acc fs ∧ lcLoop own tg tt te fs (ds.drop (i + 1)) ρc = some (es, ρ2),
      fun H2 hn => ⟨ds.length - (i + 1), by omega, rfl, hlt, hn⟩, fun x H3 hy => ?_⟩
    obtain ⟨kp, dq⟩ := gy x H3 hy
    have R3 := Rc.same kp
    have s3 : Step B La H1 Lc H3 := sc.trans (Step.of_same kp)
    have hD3 : H3 D = some (.lst acc) := kp.at hacc (fun z => nomatch z)
    have d3 : DqA K H3 ([D] ++ (Ea ++ P) ++ B ++ Lc) acc fs := DqA.move lists_nil (fun _ z => nomatch z) kp (fun _ z => .inl z) dacc
    refine ⟨[D] ++ (Ea ++ P), B, Lc, ρc, d, ρ3, R3, dq, e3, fun σ2 hl hk R4 => ?_⟩
    have hw : L2.wipe σ2 own = L2.wipe σ own := wipe_eq (hl.trans (wipe_length σ own)) fun j hj => hk j fun z => hj (hin j z)
    refine ⟨hw, [D] ++ (Ea ++ P), B, Lc, ρ3, b, ρ4, R4, e4, fun H4 L4 E4 p4 => ?_⟩
    have s4 := s3.trans p4.step
    have nd := R3.nd.1 D hDD
    have nBL : ∀ {L'' : List Addr}, (∀ a ∈ L'', a ∈ Lc ∨ H3 a = none) → D ∉ B ++ L'' := fun {L''} hs z => by
      rcases List.mem_append.mp z with z | z
      · exact nd.1 z
      · rcases hs D z with z | z
        · exact nd.2 z
        · rw [hD3] at z; cases z
    have hD4 : H4 D = some (.lst acc) := p4.step.keep.at hD3 (nBL fun a z => .inl z)
    have d4 : DqA K H4 ([D] ++ (Ea ++ P) ++ B ++ L4) acc fs := DqA.step R3 p4.step d3
    cases b with
    | false =>
      simp only [Bool.false_eq_true, if_false] at ec
      have R5 := (p4.rep.drop).wipe own
      rw [hw] at R5
      exact iteF ⟨L4, _, acc, fs, R5, s4, hD4, d4, ec⟩
    | true =>
      refine iteT ?_
      simp only [if_true] at ec
      obtain ⟨⟨r5, ρ5⟩, e5, ec⟩ := Option.bind_eq_some_iff.mp ec
      obtain ⟨⟨d6, ρ6⟩, e6, ec⟩ := Option.bind_eq_some_iff.mp ec
      simp only at ec
      split at ec
      · rename_i hz
        refine ⟨[D] ++ (Ea ++ P), B, L4, ρ4, r5, ρ5, p4.toStep, e5, fun y H5 L5 E5 p5 v5 => ?_⟩
        obtain ⟨E6, L6, q6, _⟩ := psd_of p5.rep v5 e6
        have s5 := s4.trans p5.step
        have hD5 : H5 D = some (.lst acc) := p5.step.keep.at hD4 (nBL p4.step.lsub)
        have d5 : DqA K H5 ([D] ++ (Ea ++ P) ++ B ++ L5) acc fs := DqA.step p4.toStep p5.step d4
        have hs6 : ∀ a ∈ [D] ++ (Ea ++ P) ++ B ++ L6, a ∈ [D] ++ (Ea ++ P) ++ B ++ L5 := fun a z => by
          rcases mem4.mp z with z | z | z | z
          · exact mem4.mpr (.inl z)
          · exact mem4.mpr (.inr (.inl z))
          · exact mem4.mpr (.inr (.inr (.inl z)))
          · exact mem4.mpr (.inr (.inr (.inr (q6.ls a z))))
        have dy : Dq K H5 ([D] ++ (Ea ++ P) ++ B ++ L6) y d6 := q6.dq.sub fun a z => by
          rw [show E6 ++ ([D] ++ (Ea ++ P)) ++ B ++ L6 = E6 ++ (([D] ++ (Ea ++ P)) ++ B ++ L6) by simp]
          exact List.mem_append_right _ z
        obtain ⟨R7, mv⟩ := writeP (acc' := acc ++ [y]) (q6.rep.drop) hDD
        have R8 := R7.wipe own
        rw [hw] at R8
        refine ⟨acc, hD5, by rw [d5.length]; omega, L6, _, acc ++ [y], fs ++ [d6], R8, step_new (s5.trans (Post.less (K := K) q6.rep q6.es q6.ls).step) hD hD5, upd_same, mv ((d5.sub hs6).append (.cons dy .nil)), ec⟩
      · cases ec
theorem lc_imp {own is : List Nat} {fi : ID} {tg : GD} {tt : TD} {te : ED} (hin : ∀ i ∈ is, i ∈ own) {Q : VK} (h : RD K (lcD own fi tg tt te) σ H Q) : tLc (RI K fi) (RG K is tg) (RT K tt) (RD K te) own σ H Q := by
  have ll := lim_line
  obtain ⟨P, B, L, ρ, r, ρ', R0, e, k⟩ := h
  obtain ⟨⟨ds, ρ1⟩, e1, e⟩ := Option.bind_eq_some_iff.mp e
  simp only at e
  split at e
  · rename_i hno
    obtain ⟨⟨es, ρ2⟩, e2, e⟩ := Option.bind_eq_some_iff.mp e
    cases e
    exact ⟨P, B, L, ρ, ds, ρ1, R0, e1, fun J H1 La Ea p1 wk => lc_tail hin R0 hno e2 k J H1 La Ea p1 wk.walks⟩
  · cases e

end
section
variable {X : Cx} {tl : TL} {elt tgE iter : Expr} {ifs : List Expr} {scope : Scope} {own : List (Str × Nat)} {pos : Pos} {fi : ID} {tg : GD} {tt : TD} {te : ED} {is : List Nat}
theorem i_yes : PTs X [] (RT (X.D tl) yesT) := ⟨fun pins s σ H Q I h => pts_nil.run pins s σ H Q I (by
  obtain ⟨P, B, L, ρ, b, ρ', R0, e, k⟩ := h
  cases e
  exact k _ _ [] (.refl R0))⟩
theorem i_one {c : Expr} {q : TD} (h : PT X c (RT (X.D tl) q)) : PTs X [c] (RT (X.D tl) q) := pts_one h
theorem d_lc (hc : X.calm = true) (hN : X.N.Nodup) (hi : PI X tgE iter (RI (X.D tl) fi)) (ok : BlkOk X.N X.env.scope scope own) (hin : ∀ i ∈ is, i ∈ own.map (·.2))
    (hg : ∀ (s : Shared) (H : Hp) (C : Addr) (cl : List (Str × Addr)) (fp : List Addr), PG (X.blk s H scope (compEnvC scope cl C X.env) fp) tgE (RG (X.D tl) is tg)) (ht : ∀ (s : Shared) (H : Hp) (C : Addr) (cl : List (Str × Addr)) (fp : List Addr), PTs (X.blk s H scope (compEnvC scope cl C X.env) fp) ifs (RT (X.D tl) tt))
    (he : ∀ (s : Shared) (H : Hp) (C : Addr) (cl : List (Str × Addr)) (fp : List Addr), PE (X.blk s H scope (compEnvC scope cl C X.env) fp) elt (RD (X.D tl) te)) (hs : ∀ x, foldedSetIterable iter X.env x = pure x := by intro _; rfl) :
    PE X (.ListComp elt [⟨tgE, iter, ifs, 0⟩] scope pos) (RD (X.D tl) (lcD (own.map (·.2)) fi tg tt te)) :=
  (pe_lc hc hN hi ok hg ht he hs).imp fun _ _ _ h => lc_imp hin h
theorem s_setLc (i : Nat) {y : Str} {py spos : Pos} (hc : X.calm = true) (hN : X.N.Nodup) (hsw : swapsWith (.ListComp elt [⟨tgE, iter, ifs, 0⟩] scope pos) (some (.Name y py)) spos.line X.env = pure true) (hi : PI X tgE iter (RI (X.D tl) fi)) (ok : BlkOk X.N X.env.scope scope own) (hin : ∀ i ∈ is, i ∈ own.map (·.2))
    (hg : ∀ (s : Shared) (H : Hp) (C : Addr) (cl : List (Str × Addr)) (fp : List Addr), PG (X.blk s H scope (compEnvC scope cl C X.env) fp) tgE (RG (X.D tl) is tg)) (ht : ∀ (s : Shared) (H : Hp) (C : Addr) (cl : List (Str × Addr)) (fp : List Addr), PTs (X.blk s H scope (compEnvC scope cl C X.env) fp) ifs (RT (X.D tl) tt))
    (he : ∀ (s : Shared) (H : Hp) (C : Addr) (cl : List (Str × Addr)) (fp : List Addr), PE (X.blk s H scope (compEnvC scope cl C X.env) fp) elt (RD (X.D tl) te)) (hs : ∀ x, foldedSetIterable iter X.env x = pure x := by intro _; rfl)
    (hy : X.N[i]? = some y := by rfl) (hyl : X.env.scope.names.lookup y = some .local := by rfl) :
    PS X (.Assign [.Name y py] (.ListComp elt [⟨tgE, iter, ifs, 0⟩] scope pos) spos) (RS (X.D tl) (setS i (lcD (own.map (·.2)) fi tg tt te))) :=
  (ps_setLc hc hN hy hyl hsw hi ok hg ht he hs).imp fun D σ H h => by
    obtain ⟨P, B, L, ρ, o, R, e, k⟩ := h
    obtain ⟨⟨r, ρ1⟩, e1, e2⟩ := Option.bind_eq_some_iff.mp e
    obtain ⟨ρ2, e3, e4⟩ := Option.map_eq_some_iff.mp e2
    subst e4
    refine lc_imp hin ⟨P, B, L, ρ, r, ρ1, R, e1, fun x H' L' E' p v => ?_⟩
    obtain ⟨E2, Lb, R2, h1, h2, _⟩ := stV_of p.rep v e3
    exact k _ H' Lb R2.drop (step_more p.step p.esub h2)
end
end DL
end
noncomputable section
namespace DL
open PySem PySem.Spec PyProof.Rows L2

/-! ### defs, with no repr under way around -/
structure FnG (P : Program) (w : World) (K : PySem.W.Frag) (mg : Str → Option Value) (base : Heap) (CX : CXT) (k : Nat) (f : Addr) (fd : FuncData) (ps : List Str) (sp : Sp) : Prop where
  len : ∀ vs H Q E, sp vs H Q E → vs.length = ps.length
  go : ∀ (A : Around) (outer : List PySem.Env) (s : Shared) (H : Hp) (args : Args) (us : List Value) (vs : List V) (Q : VK) (E : XK), A.guards = some [] → Room k A → Env0 P w K mg base A outer s H → BindsTo s fd args (ps.zip us) → Vals vs us → sp vs H Q E →
    codeAny (model P w) A (.call (.ref f) args) (CR CX outer P w H s Q E) s
section
variable {P : Program} {w : World} {K : PySem.W.Frag} {mg : Str → Option Value} {base : Heap} {CX : CXT}
theorem FnG.up {j k : Nat} {f : Addr} {fd : FuncData} {ps : List Str} {sp : Sp} (F : FnG P w K mg base CX j f fd ps sp) (h : j ≤ k) : FnG P w K mg base CX k f fd ps sp :=
  ⟨F.len, fun A outer s H args us vs Q E hA hr => F.go A outer s H args us vs Q E hA (hr.mono h)⟩
theorem FnG.weak {k : Nat} {f : Addr} {fd : FuncData} {ps : List Str} {sp sp' : Sp} (F : FnG P w K mg base CX k f fd ps sp) (h : ∀ vs H Q E, sp' vs H Q E → sp vs H Q E) : FnG P w K mg base CX k f fd ps sp' :=
  ⟨fun vs H Q E q => F.len vs H Q E (h _ _ _ _ q), fun A outer s H args us vs Q E hA hr he hb hv hs => F.go A outer s H args us vs Q E hA hr he hb hv (h _ _ _ _ hs)⟩
/-- a body's reading keeps the promise -/
theorem FnG.body {x qual : Str} {st : Stmt} {f : Addr} {fd : FuncData} {N ps : List Str} {k : Nat} {sp : Sp} (F : Fun K x qual st f fd) (S : FnScope N ps (defScope st)) (len : ∀ vs H Q E, sp vs H Q E → vs.length = ps.length)
    (hb : ∀ (cdv : Value) (A : Around) (outer : List PySem.Env) (s : Shared) (H : Hp) (vs : List V) (Q : VK) (E : XK), fd.code = cdv → (A.deeper (envOfC qual (defScope st) s.heap.objs.size f cdv)).guards = some [] → Room k (A.deeper (envOfC qual (defScope st) s.heap.objs.size f cdv)) → sp vs H Q E →
      ∃ t, PSs (cxOf CX P w K mg base N qual (defScope st) f cdv A outer s H E) (defBody st) t ∧ t { nx := fun _ H' => Q .non H', rt := Q } (start N vs) H) : FnG P w K mg base CX (k + 1) f fd ps sp := by
  obtain ⟨oc, od, kV, doc, pm, an, cdv, ct, osl, rfl, lk, hcd⟩ := F.ex
  refine ⟨len, ?_⟩
  intro A outer s H args us vs Q E hA hr e0 hbind rv hsp
  have eqLen := len _ _ _ _ hsp
  have stay : ∀ b o, base.get? b = some o → s.heap.get? b = some o := fun b o e => (e0.bs b o e).1
  have inK : K.In s.heap := e0.mod.kin.keeps stay
  have noLim : s.heap.NoLimit := e0.mod.nolimit.keeps stay
  have params : ∀ y ∈ ps.zip us, (defScope st).names.lookup y.1 = some .local ∨ ((defScope st).names.lookup y.1 = some .cell ∧ ((cellsFrom (s.heap.objs.size + 1) (defScope st).names []).lookup y.1).isSome = true) := by
    intro y hy
    rcases S.par y.1 (List.of_mem_zip (a := y.1) (b := y.2) hy).1 with q | q
    · exact Or.inl q
    · exact Or.inr ⟨q, PySem.W.cellsFrom_some _ _ _ (Or.inl q)⟩
  apply codeAny_call_function hr.depth (inK _ _ lk) rfl S.co S.gen rfl (PySem.W.codeRec_of inK hcd)
  apply hbind
  apply wpAny_newFunctionEnv_cells S.kind params
  intro env henv s1 ic
  subst henv
  refine ⟨noLim.keeps ic.toInCall.keep, ?_⟩
  apply codeAny_func
  obtain ⟨t, ht, hq⟩ := hb cdv A outer s H vs Q E rfl hA (hr.deeper _) hsp
  have I := inv_start (CX := CX) (P := P) (w := w) (mg := mg) (base := base) (E := E) S hr.hd e0 eqLen rv ic
  refine wpAny_mono (ht.run [] s1 (start N vs) H _ I hq) (fun fl s' hs => ?_) (fun _ _ hs => hs)
  cases fl with
  | ret u =>
    rcases hs with ⟨v, _, H', J, rv', q⟩
    exact ⟨v, H', J.os, J.bare, J.base, J.hok, rv', q⟩
  | next =>
    rcases hs with ⟨_, H', J, q⟩
    exact ⟨V.non, H', J.os, J.bare, J.base, J.hok, rfl, q⟩
  | brk =>
    rcases hs with ⟨_, _, _, q⟩
    exact q.elim
  | cont =>
    rcases hs with ⟨_, _, _, q⟩
    exact q.elim
end
section
variable {X : Cx} {CX : CXT} {k : Nat} {f : Addr} {fd : FuncData} {ps : List Str} {sp : Sp} {E : XK} {x : Str} {p pos : Pos} {e : Expr} {es : List Expr} {t : TA}
theorem g_call (F : FnG X.prog X.w X.K X.mg X.base CX k f fd ps sp) (hA : X.A.guards = some []) (hr : Room k X.A) (hg : Gl X x) (hm : X.mg x = some (.ref f)) (hk : PySem.W.keepIn X.K (.ref f) = true) (hb : Binds X.K fd ps []) (hx : Passes CX X E) (ha : PA X (e :: es) t)
    (hdb : (x == ("__debug__" : Str)) = false := by decide) (he : starEach (e :: es) X.env = (false, eval e X.env) :: starEach es X.env := by rfl) (hpl : (backTo pos (starEach es X.env)).any (·.1) = false := by rfl) :
    PE X (.Call (.Name x p) (e :: es) [] pos) (fun σ H Q => t σ H fun vs H1 => sp vs H1 Q E) := by
  constructor
  intro pins s σ H Q I h
  apply wpAny_Call_Name_kw
  apply ld_glob I hg hm _ hdb
  apply PySem.W.callWith_K (h₀ := X.base) I.ok.mod.kin hk _ he hpl
  refine thn (ha.run pos pins s σ H _ I h) fun us s1 hq => ?_
  rcases hq with ⟨vs, H1, I1, r, q⟩
  refine ⟨I1.kIn, ?_⟩
  have lenU : us.length = ps.length := by rw [← r.length]; exact F.len _ _ _ _ q
  have bnd := hb s1 us I1.kIn (by rw [List.append_nil]; exact lenU)
  rw [List.append_nil] at bnd
  apply wpAny_call
  refine codeAny_mono (F.go X.A X.stack s1 H1 ⟨us, []⟩ us vs Q E hA hr I1.env0 bnd r q) ?_
  intro res s' hres
  cases res with
  | error e => exact hx pins σ H1 s1 e s' I1 hres
  | ok fl =>
    cases fl with
    | ret u => exact I1.after hres
    | next => exact hres.elim
    | brk => exact hres.elim
    | cont => exact hres.elim
end

end DL
end
noncomputable section
namespace DL
open PySem PySem.Spec PyProof.Rows L2

/-! ### promises by data -/
def flatV' : Val → Bool
  | .cl .none | .cl (.bool _) | .cl (.int _) | .cl (.str _) => true
  | _ => false
def RRes (K : Fg) (P : List Addr) (H H' : Hp) (E : List Addr) (x : V) : Val → Prop
  | .cl d => E = [] ∧ Dq K H' P x d
  | .own ds => ∃ a vs, E = [a] ∧ x = V.ref a ∧ H a = none ∧ H' a = some (.lst vs) ∧ DqA K H' (a :: P) vs ds
  | .sl _ => False
abbrev FP := List PyData → Option Val
abbrev FM := List PyData → List PyData → Option (Val × List PyData)
def spP (K : Fg) (n : Nat) (F : FP) : Sp := fun vs H Q _ => vs.length = n ∧ ∃ P ds r, (Lists H P ∧ DL.Tabs K.T H) ∧ DqA K H P vs ds ∧ F ds = some r ∧ ∀ x H' E, Keep [] H H' → RRes K P H H' E x r → Q x H'
def spM (K : Fg) (n : Nat) (F : FM) : Sp := fun vs H Q _ => vs.length = n + 1 ∧ ∃ P b us ws cs ds r cs', vs = V.ref b :: ws ∧ (Lists H P ∧ DL.Tabs K.T H) ∧ b ∉ P ∧ H b = some (.lst us) ∧ DqA K H (P ++ [b]) us cs ∧ DqA K H (P ++ [b]) ws ds ∧ F cs ds = some (r, cs') ∧
  ∀ x H' us' E, Keep [b] H H' → H' b = some (.lst us') → DqA K H' (E ++ (P ++ [b])) us' cs' → RRes K (P ++ [b]) H H' E x r → Q x H'
def retV (ρ : DL.Env) : Val → Option Val
  | .cl d => some (.cl d)
  | .own ds => some (.own ds)
  | .sl i => match ρ.getD i .no with
    | .op ds => some (.own ds)
    | .cl d => some (.cl d)
    | _ => none
def argE (N : Nat) (ds : List PyData) : DL.Env := ds.map Cell.cl ++ List.replicate (N - ds.length) .no
def argM (N : Nat) (cs ds : List PyData) : DL.Env := Cell.pm cs :: (ds.map Cell.cl ++ List.replicate (N - (ds.length + 1)) .no)
def runP (N : Nat) (g : SD) : FP := fun ds => (g (argE N ds)).bind fun o => match o with
  | .rt r ρ' => retV ρ' r
  | .nx _ => some (.cl .none)
  | _ => none
def runM (N : Nat) (g : SD) : FM := fun cs ds => (g (argM N cs ds)).bind fun o => match o with
  | .rt r ρ' => match ρ'.getD 0 .no with
    | .pm cs' => (retV ρ' r).map fun v => (v, cs')
    | _ => none
  | .nx ρ' => match ρ'.getD 0 .no with
    | .pm cs' => some (.cl .none, cs')
    | _ => none
  | _ => none
section
variable {K : Fg} {P : List Addr} {H H' : Hp}
theorem start_get (N : List Str) (vs : List V) (i : Nat) : (L2.start N vs)[i]? = if i < vs.length then vs[i]?.map some else if i < N.length then some none else (L2.start N vs)[i]? := by
  unfold L2.start
  by_cases h : i < vs.length
  · rw [if_pos h, List.getElem?_append_left (by simpa using h), List.getElem?_map]
  · rw [if_neg h]
    by_cases h2 : i < N.length
    · rw [if_pos h2, List.getElem?_append_right (by simpa using h), List.length_map, List.getElem?_replicate]
      simp
      omega
    · rw [if_neg h2]
theorem start_len {N : List Str} {vs : List V} (h : vs.length ≤ N.length) : (L2.start N vs).length = N.length := by
  unfold L2.start
  rw [List.length_append, List.length_map, List.length_replicate]
  omega
theorem argE_get {N : Nat} {ds : List PyData} {i : Nat} : (argE N ds).getD i .no = match ds[i]? with
    | some d => .cl d
    | none => .no := by
  unfold argE
  rw [List.getD_eq_getElem?_getD]
  by_cases h : i < ds.length
  · rw [List.getElem?_append_left (by simpa using h), List.getElem?_map, List.getElem?_eq_getElem h]
    rfl
  · rw [List.getElem?_append_right (by simpa using h), List.getElem?_replicate, List.getElem?_eq_none (by omega)]
    split <;> rfl
theorem rep_argE {N : List Str} {vs : List V} {ds : List PyData} (hl : Lists H P ∧ DL.Tabs K.T H) (h : DqA K H P vs ds) (hN : ds.length ≤ N.length) : Rep K P [] [] (L2.start N vs) (argE N.length ds) H := by
  have e := h.length
  have eP : P ++ [] ++ [] = P := by simp
  refine ⟨?_, by rw [eP]; exact hl.1, ⟨fun a _ => ⟨(fun z => nomatch z), (fun z => nomatch z)⟩, (fun a z => nomatch z)⟩, fun i => ?_, fun i j a _ h1 _ _ _ => ?_, hl.2⟩
  · rw [start_len (by omega)]
    unfold argE
    rw [List.length_append, List.length_map, List.length_replicate]
    omega
  · rw [argE_get]
    cases hd : ds[i]? with
    | none => trivial
    | some d =>
      obtain ⟨v, hv, dv⟩ := h.get hd
      have hi := (List.getElem?_eq_some_iff.mp hv).1
      refine ⟨v, ?_, ?_⟩
      · rw [start_get, if_pos hi, hv]; rfl
      · rw [eP]; exact dv
  · rw [argE_get] at h1
    cases hd : ds[i]? with
    | none => rw [hd] at h1; cases h1
    | some d => rw [hd] at h1; cases h1
theorem res_of {E' L' : List Addr} {B : List Addr} {σ' : L2.St} {ρ' : DL.Env} {r v : Val} {x : V} (R : Rep K (E' ++ P) B L' σ' ρ' H') (fE : ∀ a ∈ E', H a = none) (fL : ∀ a ∈ L', H a = none) (hP : ∀ a ∈ P ++ B, H a ≠ none) (vr : VR K E' P B L' σ' H' x r) (e : retV ρ' r = some v) :
    ∃ E, (∀ a ∈ E, a ∈ E' ∨ a ∈ L') ∧ RRes K (P ++ B) H H' E x v := by
  have s1 : ∀ a ∈ P ++ B, a ∈ E' ++ P ++ B ++ L' := fun a z => by
    rcases List.mem_append.mp z with z | z
    · exact mem4.mpr (.inr (.inl z))
    · exact mem4.mpr (.inr (.inr (.inl z)))
  cases r with
  | cl d =>
    cases e
    exact ⟨[], (fun _ z => nomatch z), rfl, Dq.sub s1 vr⟩
  | own ds =>
    cases e
    obtain ⟨a, vs, rfl, h1, h2, h3, h4⟩ := vr
    refine ⟨[a], fun b z => .inl (by rw [show b = a by simpa using z]; exact h1), a, vs, rfl, rfl, fE a h1, h3, h4.sub fun b z => ?_⟩
    rcases List.mem_cons.mp z with z | z
    · exact mem4.mpr (.inl (z ▸ h1))
    · exact s1 b z
  | sl i =>
    have q := R.ok i
    simp only [retV] at e
    revert e q
    generalize ρ'.getD i .no = c
    intro e q
    cases c with
    | no => cases e
    | pm ds => cases e
    | op ds =>
      cases e
      obtain ⟨a, vs, e1, h1, h2, h3⟩ := q
      have e2 : some (some x) = some (some (V.ref a)) := (show σ'[i]? = _ from vr).symm.trans e1
      cases e2
      refine ⟨[a], fun b z => .inr (by rw [show b = a by simpa using z]; exact h1), a, vs, rfl, rfl, fL a h1, h2, h3.sub fun b z => ?_⟩
      rcases List.mem_cons.mp z with z | z
      · exact mem4.mpr (.inr (.inr (.inr (z ▸ h1))))
      · exact s1 b z
    | cl d =>
      cases e
      obtain ⟨y, e1, h1⟩ := q
      have e2 : some (some x) = some (some y) := (show σ'[i]? = _ from vr).symm.trans e1
      cases e2
      exact ⟨[], (fun _ z => nomatch z), rfl, h1.sub s1⟩
theorem rs_runP {N : List Str} {n : Nat} {g : SD} {vs : List V} {Q : VK} {E : XK} (hN : n ≤ N.length) (h : spP K n (runP N.length g) vs H Q E) : RS K g { nx := fun _ H' => Q .non H', rt := Q } (L2.start N vs) H := by
  obtain ⟨hn, P, ds, r, hl, dq, e, k⟩ := h
  obtain ⟨o, e1, e2⟩ := Option.bind_eq_some_iff.mp e
  have hlen := dq.length
  refine ⟨P, [], [], argE N.length ds, o, rep_argE hl dq (by omega), e1, ?_⟩
  have hP : ∀ a ∈ P ++ [], H a ≠ none := fun a z => by
    obtain ⟨vs, q⟩ := hl.1 a (by simpa using z)
    rw [q]; exact fun y => nomatch y
  have eP : P ++ [] = P := by simp
  cases o with
  | nx ρ' =>
    cases e2
    exact fun σ' H' L' R s => k _ H' [] (by simpa using s.keep) ⟨rfl, .non⟩
  | rt r' ρ' =>
    refine fun σ' x H' L' E' R s f v => ?_
    obtain ⟨E2, _, q⟩ := res_of R f (fun a z => (s.lsub a z).elim (fun y => nomatch y) id) hP v e2
    rw [eP] at q
    exact k x H' E2 (by simpa using s.keep) q
  | ct ρ' => cases e2
  | bk ρ' => cases e2
theorem argM_get0 {N : Nat} {cs ds : List PyData} : (argM N cs ds).getD 0 .no = .pm cs := rfl
theorem argM_getS {N : Nat} {cs ds : List PyData} {i : Nat} : (argM N cs ds).getD (i + 1) .no = match ds[i]? with
    | some d => .cl d
    | none => .no := by
  unfold argM
  rw [List.getD_eq_getElem?_getD, List.getElem?_cons_succ]
  by_cases h : i < ds.length
  · rw [List.getElem?_append_left (by simpa using h), List.getElem?_map, List.getElem?_eq_getElem h]
    rfl
  · rw [List.getElem?_append_right (by simpa using h), List.getElem?_replicate, List.getElem?_eq_none (by omega)]
    split <;> rfl
theorem rep_argM {N : List Str} {b : Addr} {us ws : List V} {cs ds : List PyData} (hl : Lists H P ∧ DL.Tabs K.T H) (hb : b ∉ P) (h0 : H b = some (.lst us)) (h1 : DqA K H (P ++ [b]) us cs) (h : DqA K H (P ++ [b]) ws ds) (hN : ds.length + 1 ≤ N.length) : Rep K P [b] [] (L2.start N (V.ref b :: ws)) (argM N.length cs ds) H := by
  have e := h.length
  have eP : P ++ [b] ++ [] = P ++ [b] := by simp
  have nOpen : ∀ i, ((argM N.length cs ds).getD i .no).isOpen = true → i = 0 := fun i hi => by
    cases i with
    | zero => rfl
    | succ i =>
      rw [argM_getS] at hi
      cases hd : ds[i]? with
      | none => rw [hd] at hi; cases hi
      | some d => rw [hd] at hi; cases hi
  refine ⟨?_, fun a z => ?_, ⟨fun a z => ⟨fun y => hb ((show a = b by simpa using y) ▸ z), (fun y => nomatch y)⟩, (fun a _ z => nomatch z)⟩, fun i => ?_, fun i j a hij h1 h2 _ _ => hij ((nOpen i h1).trans (nOpen j h2).symm), hl.2⟩
  · rw [start_len (by rw [List.length_cons]; omega)]
    unfold argM
    rw [List.length_cons, List.length_append, List.length_map, List.length_replicate]
    omega
  · rw [eP] at z
    rcases List.mem_append.mp z with z | z
    · exact hl.1 a z
    · exact ⟨us, by rw [show a = b by simpa using z]; exact h0⟩
  · cases i with
    | zero =>
      refine ⟨b, us, ?_, by simp, h0, by rw [eP]; exact h1⟩
      rw [start_get, if_pos (by simp)]; rfl
    | succ i =>
      rw [argM_getS]
      cases hd : ds[i]? with
      | none => trivial
      | some d =>
        obtain ⟨v, hv, dv⟩ := h.get hd
        have hi := (List.getElem?_eq_some_iff.mp hv).1
        refine ⟨v, ?_, by rw [eP]; exact dv⟩
        rw [start_get, if_pos (by simpa using hi), List.getElem?_cons_succ, hv]; rfl
theorem rs_runM {N : List Str} {n : Nat} {g : SD} {vs : List V} {Q : VK} {E : XK} (hN : n + 1 ≤ N.length) (h : spM K n (runM N.length g) vs H Q E) : RS K g { nx := fun _ H' => Q .non H', rt := Q } (L2.start N vs) H := by
  obtain ⟨hn, P, b, us, ws, cs, ds, r, cs', rfl, hl, hb, h0, d1, d2, e, k⟩ := h
  obtain ⟨o, e1, e2⟩ := Option.bind_eq_some_iff.mp e
  have hlen := d2.length
  have hws : ws.length = n := by simpa using hn
  refine ⟨P, [b], [], argM N.length cs ds, o, rep_argM hl hb h0 d1 d2 (by omega), e1, ?_⟩
  have hP : ∀ a ∈ P ++ [b], H a ≠ none := fun a z => by
    rcases List.mem_append.mp z with z | z
    · obtain ⟨vs, q⟩ := hl.1 a z
      rw [q]; exact fun y => nomatch y
    · rw [show a = b by simpa using z, h0]; exact fun y => nomatch y
  have keep : ∀ {L' : List Addr} {H' : Hp}, Step [b] [] H L' H' → Keep [b] H H' := fun s => by simpa using s.keep
  -- what stands in the first slot
  have bag : ∀ {E' L' : List Addr} {σ' : L2.St} {ρ' : DL.Env} {H' : Hp} {c' : List PyData}, Rep K (E' ++ P) [b] L' σ' ρ' H' → ρ'.getD 0 .no = .pm c' → ∃ us', H' b = some (.lst us') ∧ DqA K H' ((E' ++ P) ++ [b] ++ L') us' c' := fun {E' L' σ' ρ' H' c'} R e => by
    have q := R.ok 0
    rw [e] at q
    obtain ⟨a, us', _, ha, h1, h2⟩ := q
    rw [show a = b by simpa using ha] at h1
    exact ⟨us', h1, h2⟩
  cases o with
  | nx ρ' =>
    refine fun σ' H' L' R s => ?_
    simp only at e2
    split at e2
    · rename_i c' hc
      cases e2
      obtain ⟨us', q1, q2⟩ := bag (E' := []) R hc
      exact k _ H' us' [] (keep s) q1 (q2.sub fun a z => List.mem_append_left _ (by simpa using z)) ⟨rfl, .non⟩
    · cases e2
  | rt r' ρ' =>
    refine fun σ' x H' L' E' R s f v => ?_
    simp only at e2
    split at e2
    · rename_i c' hc
      obtain ⟨v', e3, e4⟩ := Option.map_eq_some_iff.mp e2
      cases e4
      obtain ⟨us', q1, q2⟩ := bag R hc
      obtain ⟨E2, hE, q⟩ := res_of R f (fun a z => (s.lsub a z).elim (fun y => nomatch y) id) hP v e3
      refine k x H' us' E2 (keep s) q1 (q2.sub fun a z => ?_) q
      rcases List.mem_append.mp z with z | z
      · rcases hE a z with z | z
        · exact List.mem_append_left _ (List.mem_append_left _ (List.mem_append_left _ z))
        · exact List.mem_append_right _ z
      · rcases List.mem_append.mp z with z | z
        · exact List.mem_append_left _ (List.mem_append_left _ (List.mem_append_right _ z))
        · exact List.mem_append_left _ (List.mem_append_right _ z)
    · cases e2
  | ct ρ' => cases e2
  | bk ρ' => cases e2
end
end DL
end
noncomputable section
namespace DL
open PySem PySem.Spec PyProof.Rows L2

section
variable {P : Program} {w : World} {K : Fg} {mg : Str → Option Value} {base : Heap}
theorem FnG.pure {x qual : Str} {st : Stmt} {f : Addr} {fd : FuncData} {N ps : List Str} {k n : Nat} {g : SD} (F : Fun K x qual st f fd) (S : FnScope N ps (defScope st)) (hn : ps.length = n) (hN : n ≤ N.length)
    (hb : ∀ (cdv : Value) (A : Around) (outer : List PySem.Env) (s : Shared) (H : Hp) (E : XK), (A.deeper (envOfC qual (defScope st) s.heap.objs.size f cdv)).guards = some [] → Room k (A.deeper (envOfC qual (defScope st) s.heap.objs.size f cdv)) →
      PSs (cxOf CX0 P w K mg base N qual (defScope st) f cdv A outer s H E).nox (defBody st) (RS K g)) : FnG P w K mg base CX0 (k + 1) f fd ps (spP K n (runP N.length g)) :=
  FnG.body F S (fun vs H Q E h => h.1.trans hn.symm) fun cdv A outer s H vs Q E _ hA hr h => ⟨_, (hb cdv A outer s H E hA hr).nox, rs_runP hN h⟩
theorem FnG.mut {x qual : Str} {st : Stmt} {f : Addr} {fd : FuncData} {N ps : List Str} {k n : Nat} {g : SD} (F : Fun K x qual st f fd) (S : FnScope N ps (defScope st)) (hn : ps.length = n + 1) (hN : n + 1 ≤ N.length)
    (hb : ∀ (cdv : Value) (A : Around) (outer : List PySem.Env) (s : Shared) (H : Hp) (E : XK), (A.deeper (envOfC qual (defScope st) s.heap.objs.size f cdv)).guards = some [] → Room k (A.deeper (envOfC qual (defScope st) s.heap.objs.size f cdv)) →
      PSs (cxOf CX0 P w K mg base N qual (defScope st) f cdv A outer s H E).nox (defBody st) (RS K g)) : FnG P w K mg base CX0 (k + 1) f fd ps (spM K n (runM N.length g)) :=
  FnG.body F S (fun vs H Q E h => h.1.trans hn.symm) fun cdv A outer s H vs Q E _ hA hr h => ⟨_, (hb cdv A outer s H E hA hr).nox, rs_runM hN h⟩
end
/-! ### calls -/
def callP (n : Nat) (F : FP) (t : AD) : ED := callD t fun ρ rs => (psAll ρ rs).bind fun p => if p.1.length = n then (F p.1).bind fun r => if flatV' r = true then some (r, ρ) else some (r, p.2) else none
def callM (j n : Nat) (F : FM) (t : AD) : ED := fun ρ => (opAt ρ j).bind fun _ => (t ρ).bind fun p => (psAll p.2 p.1).bind fun q => (opAt q.2 j).bind fun c => if q.1.length = n then (F c.2 q.1).bind fun s => some (s.1, opSet q.2 j c.1 s.2) else none
section
variable {K : Fg} {P B L E : List Addr} {σ : L2.St} {ρ ρ' : DL.Env} {H H' : Hp} {x : V} {r : Val}
theorem Dq.flat {W W' : List Addr} (hf : flatV' r = true) (h : VR K E P B L σ H x r) : ∃ d, r = .cl d ∧ ∀ {H'' : Hp} {W'' : List Addr}, Dq K H'' W'' x d := by
  cases r with
  | cl d =>
    refine ⟨d, rfl, fun {H'' W''} => ?_⟩
    have h' : Dq K H _ x d := h
    cases d with
    | none => cases h'; exact .non
    | bool b => cases h'; exact .bl b
    | int i => cases h'; exact .int i
    | str s => cases h'; exact .str s
    | _ => cases hf
  | _ => cases hf
theorem flat_res {P' : List Addr} (hf : flatV' r = true) (h : RRes K P' H H' E x r) : ∃ d, r = .cl d ∧ ∀ {H'' : Hp} {W'' : List Addr}, Dq K H'' W'' x d := by
  cases r with
  | cl d =>
    refine ⟨d, rfl, fun {H'' W''} => ?_⟩
    have h' : Dq K H' _ x d := h.2
    cases d with
    | none => cases h'; exact .non
    | bool b => cases h'; exact .bl b
    | int i => cases h'; exact .int i
    | str s => cases h'; exact .str s
    | _ => cases hf
  | _ => cases hf
theorem lenVRs {xs : List V} {rs : List Val} (v : VRs K E P B L σ H xs rs) : xs.length = rs.length := by
  induction v with
  | nil => rfl
  | cons _ _ _ ih => rw [List.length_cons, List.length_cons, ih]
theorem callP_imp {n : Nat} {F : FP} {t : AD} {σ : L2.St} {H : Hp} {Q : VK} (h : RD K (callP n F t) σ H Q) : RA K t σ H fun vs H1 => spP K n F vs H1 Q E0 := by
  obtain ⟨P, B, L, ρ, r, ρ', R0, e, k⟩ := h
  obtain ⟨⟨rs, ρ1⟩, e1, e⟩ := Option.bind_eq_some_iff.mp e
  obtain ⟨⟨ds, ρ2⟩, e2, e⟩ := Option.bind_eq_some_iff.mp e
  simp only at e
  split at e
  · rename_i hn
    obtain ⟨r', e3, e⟩ := Option.bind_eq_some_iff.mp e
    refine ⟨P, B, L, ρ, rs, ρ1, R0, e1, fun xs H1 La Ea p1 v1 => ?_⟩
    obtain ⟨E', L', R', dq, es, ls⟩ := psAll_of p1.rep v1 e2
    refine ⟨by rw [dq.length]; exact hn, E' ++ P ++ B ++ L', ds, r', ⟨R'.wl, R'.tabs⟩, dq, e3, fun x H' E2 kp q => ?_⟩
    split at e
    · rename_i hf
      cases e
      obtain ⟨d, rfl, hd⟩ := flat_res hf q
      exact k x H' La Ea ⟨p1.rep.same kp, p1.step.trans (Step.of_same kp), p1.esub⟩ (show Dq K H' _ x d from hd)
    · cases e
      have p2 := p1.then (Post.less R' es ls)
      cases r with
      | cl d => exact k x H' L' E' ⟨p2.rep.same kp, p2.step.trans (Step.of_same kp), p2.esub⟩ q.2
      | own fs =>
        obtain ⟨a, vs, rfl, rfl, hn, hh, hd⟩ := q
        have R3 := R'.move (E := [a]) kp fun b z => by
          rw [show b = a by simpa using z]
          exact ⟨hn, vs, hh⟩
        refine k (V.ref a) H' L' (a :: E') ⟨by simpa using R3, p2.step.trans (Step.of_same kp), fun b z => ?_⟩ ⟨a, vs, rfl, List.mem_cons_self .., fun z => ?_, hh, by simpa using hd⟩
        · rcases List.mem_cons.mp z with z | z
          · right
            cases eh : H b with
            | none => rfl
            | some u => exact absurd (z ▸ hn) (p1.step.ne b (by rw [eh]; exact fun y => nomatch y))
          · exact p2.esub b z
        · obtain ⟨us, q⟩ := R'.wl a (mem4.mpr (.inr (.inl z)))
          rw [hn] at q; cases q
      | sl i => exact q.elim
  · cases e
/-- the list of slot j is written by another hand; new lists are shut out -/
theorem Rep.wr {j : Nat} {kk : Bool} {ds ds' : List PyData} {a : Addr} {vs' : List V} {N : List Addr} (R : Rep K P B L σ ρ H) (e : opAt ρ j = some (kk, ds)) (ea : σ[j]? = some (some (V.ref a))) (kp : Keep [a] H H') (ha : H' a = some (.lst vs')) (hN : ∀ b ∈ N, H b = none ∧ ∃ vs, H' b = some (.lst vs))
    (d : DqA K H' (N ++ P ++ B ++ L) vs' ds') : Rep K (N ++ P) B L σ (opSet ρ j kk ds') H' ∧ Step B L H L H' := by
  obtain ⟨a', vs, e1, hm, hk, hh, dq, hj⟩ := opAt_of R e
  rw [ea] at e1
  cases e1
  have hop := opAt_open e
  have hW : a ∈ P ++ B ++ L := mem3.mpr (.inr (List.mem_append.mp hm))
  have hl : Lists H [a] := fun b z => ⟨vs, by rw [show b = a by simpa using z]; exact hh⟩
  have hs : ∀ b ∈ [a], b ∈ P ++ B ++ L := fun b z => (show b = a by simpa using z) ▸ hW
  have hw : ∀ b ∈ N ++ P ++ B ++ L, b ∈ P ++ B ++ L ∨ H b = none := fun b z => by
    rw [app_assoc3] at z
    exact (List.mem_append.mp z).elim (fun z => .inr (hN b z).1) .inl
  have mv : ∀ {v : V} {d : PyData}, Dq K H (P ++ B ++ L) v d → Dq K H' (N ++ P ++ B ++ L) v d := fun h => h.move hl hs kp hw
  have mvA : ∀ {v : List V} {d : List PyData}, DqA K H (P ++ B ++ L) v d → DqA K H' (N ++ P ++ B ++ L) v d := fun h => h.move hl hs kp hw
  have nN : ∀ b ∈ N, b ∉ P ++ B ++ L := fun b z y => by
    obtain ⟨us, q⟩ := R.wl b y
    rw [(hN b z).1] at q; cases q
  have there : ∀ b, H b ≠ none → H' b ≠ none := fun b z => by
    by_cases q : b = a
    · rw [q, ha]; exact fun y => nomatch y
    · cases eb : H b with
      | none => exact absurd eb z
      | some o => exact kp.nn b (by rw [eb]; exact fun y => nomatch y)
  refine ⟨⟨by rw [opSet, List.length_set]; exact R.len, fun b hb => ?_, ⟨fun b hb => ?_, R.nd.2⟩, fun i => ?_, fun i i2 b hi h1 h2 => ?_, kp.tab _ R.tabs⟩, ⟨kp.mono fun b z => (show b = a by simpa using z) ▸ hm, fun b z => .inl z, there⟩⟩
  · rcases hw b hb with z | z
    · by_cases q : b = a
      · exact ⟨vs', by rw [q]; exact ha⟩
      · obtain ⟨us, eb⟩ := R.wl b z
        exact ⟨us, kp.at eb (by simpa using q)⟩
    · rw [app_assoc3] at hb
      rcases List.mem_append.mp hb with y | y
      · exact (hN b y).2
      · obtain ⟨us, eb⟩ := R.wl b y
        rw [z] at eb; cases eb
  · rcases List.mem_append.mp hb with z | z
    · exact ⟨fun y => nN b z (mem3.mpr (.inr (.inl y))), fun y => nN b z (mem3.mpr (.inr (.inr y)))⟩
    · exact R.nd.1 b z
  · unfold opSet
    rw [getD_set]
    by_cases hi : j = i
    · subst hi
      rw [if_pos ⟨rfl, hj⟩]
      cases kk with
      | true => exact ⟨a, vs', ea, hk, ha, d⟩
      | false => exact ⟨a, vs', ea, hk, ha, d⟩
    · rw [if_neg fun z => hi z.1]
      have q := R.ok i
      have inj := R.inj j i a hi hop
      revert q inj
      generalize ρ.getD i .no = c
      intro q inj
      cases c with
      | no => trivial
      | cl d => obtain ⟨v, e2, h⟩ := q; exact ⟨v, e2, mv h⟩
      | op fs =>
        obtain ⟨b, us, e2, h1, h2, h3⟩ := q
        exact ⟨b, us, e2, h1, kp.at h2 (by simpa using fun z : b = a => inj rfl ea (by rw [← z]; exact e2)), mvA h3⟩
      | pm fs =>
        obtain ⟨b, us, e2, h1, h2, h3⟩ := q
        exact ⟨b, us, e2, h1, kp.at h2 (by simpa using fun z : b = a => inj rfl ea (by rw [← z]; exact e2)), mvA h3⟩
  · have t : ∀ m, ((opSet ρ j kk ds').getD m .no).isOpen = true → (ρ.getD m .no).isOpen = true := fun m z => by
      unfold opSet at z
      rw [getD_set] at z
      by_cases hm : j = m ∧ j < ρ.length
      · rw [← hm.1]; exact hop
      · rwa [if_neg hm] at z
    exact R.inj i i2 b hi (t i h1) (t i2 h2)
theorem callM_imp {j n : Nat} {F : FM} {t : AD} {σ : L2.St} {H : Hp} {Q : VK} (h : RD K (callM j n F t) σ H Q) : tCons (tVar j) (RA K t) σ H fun vs H1 => spM K n F vs H1 Q E0 := by
  obtain ⟨P, B, L, ρ, r, ρ', R0, e, k⟩ := h
  obtain ⟨⟨k0, c0⟩, e0, e⟩ := Option.bind_eq_some_iff.mp e
  obtain ⟨⟨rs, ρ1⟩, e1, e⟩ := Option.bind_eq_some_iff.mp e
  obtain ⟨⟨ds, ρ2⟩, e2, e⟩ := Option.bind_eq_some_iff.mp e
  obtain ⟨⟨kk, cs⟩, e4, e⟩ := Option.bind_eq_some_iff.mp e
  simp only at e
  split at e
  · rename_i hn
    obtain ⟨⟨r', cs'⟩, e3, e⟩ := Option.bind_eq_some_iff.mp e
    cases e
    obtain ⟨b, us0, el, _⟩ := opAt_of R0 e0
    refine ⟨V.ref b, el, P, B, L, ρ, rs, ρ1, R0, e1, fun xs H1 La Ea p1 v1 => ?_⟩
    obtain ⟨E', L', R', dq, es, ls⟩ := psAll_of p1.rep v1 e2
    obtain ⟨b', us, el', hm, _, hl, dc, _⟩ := opAt_of R' e4
    rw [el] at el'
    cases el'
    have hbW : b ∈ E' ++ P ++ B ++ L' := mem3.mpr (.inr (List.mem_append.mp hm))
    have hsub : ∀ a ∈ less (E' ++ P ++ B ++ L') b ++ [b], a ∈ E' ++ P ++ B ++ L' := fun a z => by
      rcases List.mem_append.mp z with z | z
      · exact (mem_less.mp z).1
      · exact (show a = b by simpa using z) ▸ hbW
    have hsup : ∀ a ∈ E' ++ P ++ B ++ L', a ∈ less (E' ++ P ++ B ++ L') b ++ [b] := fun a z => by
      by_cases q : a = b
      · exact List.mem_append_right _ (by simp [q])
      · exact List.mem_append_left _ (mem_less.mpr ⟨z, q⟩)
    have p2 := p1.then (Post.less R' es ls)
    refine ⟨by rw [List.length_cons, dq.length, hn], less (E' ++ P ++ B ++ L') b, b, us, xs, cs, ds, r', cs', rfl, ⟨fun a z => R'.wl a (mem_less.mp z).1, R'.tabs⟩, fun z => (mem_less.mp z).2 rfl, hl, dc.sub hsub, dq.sub hsub, e3, fun x H' us' E2 kp hb' d' q => ?_⟩
    have hE2 : ∀ a ∈ E2, H1 a = none ∧ ∃ vs, H' a = some (.lst vs) := fun a z => by
      cases r' with
      | cl d => rw [q.1] at z; exact nomatch z
      | own fs =>
        obtain ⟨a', vs, rfl, _, h1, h2, _⟩ := q
        rw [show a = a' by simpa using z]
        exact ⟨h1, vs, h2⟩
      | sl i => exact q.elim
    have d2 : DqA K H' (E2 ++ (E' ++ P) ++ B ++ L') us' cs' := d'.sub fun a z => by
      rw [app_assoc3] at z
      rcases List.mem_append.mp z with z | z
      · exact List.mem_append_left _ z
      · exact List.mem_append_right _ (hsup a z)
    obtain ⟨R3, s3⟩ := R'.wr e4 el kp hb' hE2 d2
    refine k x H' L' (E2 ++ E') ⟨by simpa using R3, p2.step.trans s3, fun a z => ?_⟩ ?_
    · rcases List.mem_append.mp z with z | z
      · right
        cases eh : H a with
        | none => rfl
        | some u => exact absurd (hE2 a z).1 (p1.step.ne a (by rw [eh]; exact fun y => nomatch y))
      · exact p2.esub a z
    · cases r' with
      | cl d =>
        obtain ⟨rfl, h2⟩ := q
        exact Dq.sub hsup h2
      | own fs =>
        obtain ⟨a, vs, rfl, rfl, h1, h2, h3⟩ := q
        refine ⟨a, vs, rfl, by simp, fun z => ?_, h2, h3.sub fun c z => ?_⟩
        · obtain ⟨us, q⟩ := R'.wl a (mem4.mpr (.inr (.inl z)))
          rw [h1] at q; cases q
        · rcases List.mem_cons.mp (show c ∈ a :: (E' ++ P ++ B ++ L') by simpa using z) with z | z
          · rw [z]; exact List.mem_cons_self ..
          · exact List.mem_cons_of_mem _ (hsup c z)
      | sl i => exact q.elim
  · cases e
end
section
variable {X : Cx} {tl : TL} {k n : Nat} {f : Addr} {fd : FuncData} {ps : List Str} {x y : Str} {p pos py : Pos} {e : Expr} {es : List Expr} {t : AD}
theorem d_callP {F : FP} (G : FnG X.prog X.w (X.D tl) X.mg X.base CX0 k f fd ps (spP (X.D tl) n F)) (hA : X.A.guards = some []) (hr : Room k X.A) (hm : X.mg x = some (.ref f)) (hk : PySem.W.keepIn (X.D tl) (.ref f) = true) (hb : Binds (X.D tl) fd ps []) (ha : PA X (e :: es) (RA (X.D tl) t)) (hg : Gl X x := by rfl)
    (hdb : (x == ("__debug__" : Str)) = false := by decide) (he : starEach (e :: es) X.env = (false, eval e X.env) :: starEach es X.env := by rfl) (hpl : (backTo pos (starEach es X.env)).any (·.1) = false := by rfl) :
    PE X (.Call (.Name x p) (e :: es) [] pos) (RD (X.D tl) (callP n F t)) := (g_call G hA hr hg hm hk hb pass0 ha hdb he hpl).imp fun _ _ _ h => callP_imp h
theorem d_callM {F : FM} (j : Nat) (G : FnG X.prog X.w (X.D tl) X.mg X.base CX0 k f fd ps (spM (X.D tl) n F)) (hA : X.A.guards = some []) (hr : Room k X.A) (hm : X.mg x = some (.ref f)) (hk : PySem.W.keepIn (X.D tl) (.ref f) = true) (hb : Binds (X.D tl) fd ps []) (ha : PA X es (RA (X.D tl) t)) (hg : Gl X x := by rfl)
    (hN : X.N[j]? = some y := by rfl) (hv : Vis X.env.scope y := by first | exact Or.inl rfl | exact Or.inr (Or.inl rfl) | exact Or.inr (Or.inr rfl)) (hd : (y == ("__debug__" : Str)) = false := by decide) (hcd : (y == ("__classdict__" : Str)) = false := by decide)
    (hdb : (x == ("__debug__" : Str)) = false := by decide) (he : starEach ((.Name y py) :: es) X.env = (false, eval (.Name y py) X.env) :: starEach es X.env := by rfl) (hpl : (backTo pos (starEach es X.env)).any (·.1) = false := by rfl) :
    PE X (.Call (.Name x p) ((.Name y py) :: es) [] pos) (RD (X.D tl) (callM j n F t)) := (g_call G hA hr hg hm hk hb pass0 (pa_cons (pe_var hN hv hd hcd) ha he) hdb he hpl).imp fun _ _ _ h => callM_imp h
end
end DL
end
set_option maxHeartbeats 1000000
noncomputable section
namespace DL
open PySem PySem.Spec PyProof.Rows L2

/-! ### t * k where nothing, or t itself, comes -/
theorem tm_same (l : Addr) (items : Array Value) (n : Nat) (dd : Option Addr) (sl : Array (Option Value)) (x : Int) (u : Tok) (c0 : (decide (x < -(2 ^ 63)) || decide (x ≥ 2 ^ 63)) = false) (c1 : (items.isEmpty || x == 1) = true) :
    Meets (Builtin.«tuple.__mul__» ⟨[.ref l, .int x u], []⟩) (fun _ R s => s.heap.get? l = some { cls := .type "tuple", dict := dd, data := .seq items n, slots := sl } ∧ R (.ok (.ret (Value.ref l))) s) :=
  .of_wp fun prog w A R s h => by
    obtain ⟨hp, g, d, tk, os⟩ := s
    obtain ⟨hl, h⟩ := h
    have f1 := AutoSeq1.idx_int
    wp_walk using wpAny_loadPart' hl
    refine wpAny_ite_false (decide_eq_false (fun z => Bool.false_ne_true (c0.symm.trans z))) ?_
    wp_walk using wpAny_loadPart' hl
    exact ⟨_, rfl, h⟩
theorem tm_none (l : Addr) (items : Array Value) (n : Nat) (dd : Option Addr) (sl : Array (Option Value)) (x : Int) (u : Tok) (c0 : (decide (x < -(2 ^ 63)) || decide (x ≥ 2 ^ 63)) = false) (c1 : (items.isEmpty || x == 1) = false) (c2 : (decide (x ≤ 0) || items.isEmpty) = true) :
    Meets (Builtin.«tuple.__mul__» ⟨[.ref l, .int x u], []⟩) (fun _ R s => s.heap.get? l = some { cls := .type "tuple", dict := dd, data := .seq items n, slots := sl } ∧
      R (.ok (.ret (Value.ref s.heap.objs.size))) { s with heap := s.heap.push { cls := Value.type "tuple", data := Data.seq #[] } }) :=
  .of_wp fun prog w A R s h => by
    obtain ⟨hp, g, d, tk, os⟩ := s
    obtain ⟨hl, h⟩ := h
    have f1 := AutoSeq1.idx_int
    wp_walk using wpAny_loadPart' hl
    refine wpAny_ite_false (decide_eq_false (fun z => Bool.false_ne_true (c0.symm.trans z))) ?_
    wp_walk using wpAny_loadPart' hl
    exact ⟨_, rfl, h⟩
def rRepS (K : Fg) : R2 := fun x y H Q => ∃ l k xs, x = .ref l ∧ y = .int k ∧ SqT K H l xs ∧ -(2 ^ 62) ≤ k ∧ k < 2 ^ 62 ∧ (if xs = [] ∨ k = 1 then Q (.ref l) H else k ≤ 0 ∧ NewT H Q [])
theorem op_repS {X : Cx} {tl : TL} : OpR X (binaryOp .Mult) (rRepS (X.D tl)) := by
  intro pins s σ H x y v u Q I rx ry h
  obtain ⟨l, k, xs, rfl, rfl, hT, hk1, hk2, q⟩ := h
  cases rx
  obtain ⟨t, rfl⟩ := ry
  obtain ⟨its, r, ⟨⟨cls, dd, data, sl⟩, ho, hc, n, hd⟩, hs⟩ := I.tuple hT
  simp only at hc hd
  subst hc hd
  have c0 : (decide (k < -(2 ^ 63)) || decide (k ≥ 2 ^ 63)) = false := by
    rw [decide_eq_false (by omega), decide_eq_false (by omega)] <;> rfl
  have hemp : its.toArray.isEmpty = decide (xs = []) := by
    cases r with
    | nil => rfl
    | cons _ _ => simp
  have fin : ∀ {Q' : Value → Shared → Prop}, wpAny (model X.prog X.w) X.A (call (.builtin "tuple.__mul__") [.ref l, .int k t]) Q' X.xe s → wpAny (model X.prog X.w) X.A (binaryOp .Mult (.ref l) (.int k t)) Q' X.xe s := fun hw =>
    wpAny_binaryOp_repeat_ref (T := "tuple") (U := "int") (by decide) ⟨_, ho, rfl⟩ (fun s' => typeIs_int s' k t) noFill_tuple_mul F.fills_int_mul F.slot_int_rmul repeat_tuple F.slot_int_index.lookup
      (call_meets F.slot_int_rmul (typeIs_int s k t) F.entry_int_rmul (F.args_int_rmul_2 _ _) (int_rmul_tuple k t l its.toArray n dd sl) ⟨ho, rfl, ⟨_, ho, rfl⟩, hw⟩)
  by_cases hw : xs = [] ∨ k = 1
  · rw [if_pos hw] at q
    have c1 : (its.toArray.isEmpty || k == 1) = true := by
      rw [hemp]
      rcases hw with e | e
      · simp [e]
      · simp [e]
    exact fin (call_meets F.slot_tuple_mul ⟨_, ho, rfl⟩ F.entry_tuple_mul (F.args_tuple_mul_2 _ _) (tm_same l its.toArray n dd sl k t c0 c1) ⟨ho, ⟨.ref l, H, I, rfl, q⟩⟩)
  · rw [if_neg hw] at q
    have c1 : (its.toArray.isEmpty || k == 1) = false := by
      rw [hemp]
      simp only [not_or] at hw
      simp [hw.1, hw.2]
    have c2 : (decide (k ≤ 0) || its.toArray.isEmpty) = true := by simp [q.1]
    refine fin (call_meets F.slot_tuple_mul ⟨_, ho, rfl⟩ F.entry_tuple_mul (F.args_tuple_mul_2 _ _) (tm_none l its.toArray n dd sl k t c0 c1 c2) ⟨ho, ?_⟩)
    exact new_tup I .nil (Nat.zero_le _) q.2 (t' := s.toks)
def mulG : DL.Env → Val → Val → Option (Val × DL.Env) := fun ρ a b => match a, b with
  | .cl (.int i), .cl (.int j) => if i.natAbs.log2 + j.natAbs.log2 < 1000000 ∨ i.natAbs < 2 ^ 64 ∨ j.natAbs < 2 ^ 64 then some (.cl (.int (i * j)), ρ) else none
  | _, .cl (.int k) => match seqOf ρ a with
    | some (true, ds) => if -1000 ≤ k ∧ k ≤ 1000 ∧ ds.length ≤ 1000 then some (.own (List.replicate k.toNat ds).flatten, ρ) else none
    | some (false, ds) => if -1000 ≤ k ∧ k ≤ 1000 ∧ ds.length ≤ 1000 then some (.cl (.tuple (List.replicate k.toNat ds).flatten), ρ) else none
    | none => none
  | _, _ => none
def CMulB (i j : Int) : Prop := CMulW i j ∨ CMul i j
theorem op_mulB {X : Cx} : OpR X (binaryOp .Mult) (rI CMulB fun i j => .int (i * j)) := opI fun _ _ _ _ _ _ _ hc q => mul_int q (hc.elim (fun z => z.ok) fun z => z.ok)
def rMulAll (K : Fg) : R2 := fun x y H Q => rI CMulB (fun i j => .int (i * j)) x y H Q ∨ rRep x y H Q ∨ rRepF K x y H Q ∨ rRepS K x y H Q
theorem op_mulAll {X : Cx} {tl : TL} : OpR X (binaryOp .Mult) (rMulAll (X.D tl)) := op_mulB.or (op_rep.or (op_repF.or op_repS))
theorem DqA.rep {K : Fg} {H : Hp} {W : List Addr} {vs : List V} {ds : List PyData} (h : DqA K H W vs ds) : ∀ k : Nat, DqA K H W (List.replicate k vs).flatten (List.replicate k ds).flatten
  | 0 => .nil
  | k + 1 => by
    rw [List.replicate_succ, List.replicate_succ, List.flatten_cons, List.flatten_cons]
    exact h.append (DqA.rep h k)
theorem loc_mul {K : Fg} : Loc2 K (rMulAll K) mulG := by
  intro E P B L σ ρ ρ' H x y r1 r2 r Q R0 v1 v2 e c
  have hl : sizeLine = 16777216 := sizeLine_eq
  unfold mulG at e
  split at e
  · split at e
    · rename_i hz
      cases e
      refine .inl ⟨_, _, v1.int, v2.int, ?_, c.here R0 (show VR K E P B L σ H _ (.cl (.int _)) from Dq.int _)⟩
      rcases hz with z | z | z
      · exact .inl z
      · exact .inr (.inl ⟨by omega, by omega⟩)
      · exact .inr (.inr ⟨by omega, by omega⟩)
    · cases e
  · rename_i k _
    split at e
    · rename_i ds e1
      split at e
      · rename_i hz
        cases e
        obtain ⟨a, vs, rfl, h1, d1⟩ := v1.list R0 e1
        refine .inr (.inl ⟨a, k, vs, rfl, v2.int, h1, by omega, by omega, ?_, fun p hp => c.lst R0 (d1.rep _) hp⟩)
        rw [d1.length]
        have : ds.length * k.toNat ≤ 1000 * 1000 := Nat.mul_le_mul hz.2.2 (by omega)
        omega
      · cases e
    · rename_i ds e1
      split at e
      · rename_i hz
        cases e
        obtain ⟨a, vs, rfl, h1, d1⟩ := v1.tuple e1
        by_cases hb : vs ≠ [] ∧ 2 ≤ k
        · exact .inr (.inr (.inl ⟨a, k, vs, rfl, v2.int, h1.sq, hb.1, hb.2, by omega, by rw [d1.length]; exact hz.2.2, fun p ob hp po => c.tup R0 (d1.rep _) hp po⟩))
        · refine .inr (.inr (.inr ⟨a, k, vs, rfl, v2.int, h1.sq, by omega, by omega, ?_⟩))
          by_cases hw : vs = [] ∨ k = 1
          · rw [if_pos hw]
            have ee : (List.replicate k.toNat ds).flatten = ds := by
              rcases hw with q | q
              · subst q
                cases d1
                simp
              · subst q; simp
            rw [ee] at c
            exact c.here R0 (show VR K E P B L σ H _ (.cl (.tuple ds)) from .tup h1 d1)
          · rw [if_neg hw]
            simp only [not_or] at hw
            have hk : k ≤ 0 := by
              have : ¬ (2 ≤ k) := fun z => hb ⟨hw.1, z⟩
              omega
            have ee : (List.replicate k.toNat ds).flatten = [] := by
              rw [show k.toNat = 0 by omega]; rfl
            rw [ee] at c
            exact ⟨hk, fun p ob hp po => c.tup R0 .nil hp po⟩
      · cases e
    · cases e
  · cases e

/-! ### == of data -/
mutual
theorem Dq.dp {K : Fg} {H : Hp} {W : List Addr} : ∀ {v : V} {d : PyData}, Dq K H W v d → d.hasDict = false → Dp K H v d
  | _, _, .non, _ => .non
  | _, _, .bl b, _ => .bl b
  | _, _, .int i, _ => .int i
  | _, _, .str x, _ => .str x
  | _, _, .lst h1 h2 h3, h => .lst (.of h2) (DqA.dp h3 (by simpa [PyData.hasDict] using h))
  | _, _, .tup h2 h3, h => .tup h2.sq (DqA.dp h3 (by simpa [PyData.hasDict] using h))
  | _, _, .dic _ _ _, h => by simp [PyData.hasDict] at h
theorem DqA.dp {K : Fg} {H : Hp} {W : List Addr} : ∀ {v : List V} {d : List PyData}, DqA K H W v d → PyData.hasDictAll d = false → DpAll K H v d
  | _, _, .nil, _ => .nil
  | _, _, .cons h1 h2, h => by
    rw [PyData.hasDictAll, Bool.or_eq_false_iff] at h
    exact .cons (Dq.dp h1 h.1) (DqA.dp h2 h.2)
end
theorem hasDict_shaped {d : PyData} (h : SeqAt.shaped d = true) : d.hasDict = false := by
  have h' : (d.canLay0 && decide (d.depth ≤ 64)) = true := h
  rw [Bool.and_eq_true] at h'
  exact PyData.hasDict_of_canLay d h'.1
def eqG (neg : Bool) : DL.Env → Val → Val → Option (Val × DL.Env) := fun ρ a b => match datOf ρ a, datOf ρ b with
  | some d, some e => if SeqAt.shaped d = true ∧ SeqAt.shaped e = true then some (.cl (.bool (neg ^^ PyData.eqv d e)), ρ) else none
  | _, _ => none
theorem loc_eq {K : Fg} : Loc2 K (rEqD K) (eqG false) := by
  intro E P B L σ ρ ρ' H x y r1 r2 r Q R0 v1 v2 e c
  unfold eqG at e
  split at e
  · rename_i d f e1 e2
    split at e
    · rename_i hz
      cases e
      rw [Bool.false_xor] at c
      exact ⟨d, f, (v1.dat R0 e1).dp (hasDict_shaped hz.1), (v2.dat R0 e2).dp (hasDict_shaped hz.2), hz.1, hz.2, c.here R0 (show VR K E P B L σ H _ (.cl (.bool _)) from Dq.bl _)⟩
    · cases e
  · cases e
theorem loc_ne {K : Fg} : Loc2 K (rNeD K) (eqG true) := by
  intro E P B L σ ρ ρ' H x y r1 r2 r Q R0 v1 v2 e c
  unfold eqG at e
  split at e
  · rename_i d f e1 e2
    split at e
    · rename_i hz
      cases e
      rw [Bool.true_xor] at c
      exact ⟨d, f, (v1.dat R0 e1).dp (hasDict_shaped hz.1), (v2.dat R0 e2).dp (hasDict_shaped hz.2), hz.1, hz.2, c.here R0 (show VR K E P B L σ H _ (.cl (.bool _)) from Dq.bl _)⟩
    · cases e
  · cases e
def isNV : Val → Bool
  | .cl .none => true
  | _ => false
def isNG (neg : Bool) : DL.Env → Val → Val → Option (Val × DL.Env) := fun ρ a b => if isNV b = true then some (.cl (.bool (neg ^^ isNV a)), ρ) else none
theorem isNV_of {K : Fg} {E P B L : List Addr} {σ : L2.St} {ρ : DL.Env} {H : Hp} {x : V} {r : Val} (R : Rep K (E ++ P) B L σ ρ H) (hs : ∀ i, r ≠ .sl i ∨ (ρ.getD i .no).isOpen = true) (v : VR K E P B L σ H x r) : decide (x = V.non) = isNV r := by
  cases r with
  | cl d =>
    have v' : Dq K H _ x d := v
    cases d <;> cases v' <;> simp [isNV]
  | own ds => obtain ⟨a, _, e, _⟩ := v; simp [isNV, e]
  | sl i =>
    have h := (hs i).resolve_left fun z => z rfl
    have q := R.ok i
    revert h q
    generalize ρ.getD i .no = c
    intro h q
    have vv : σ[i]? = some (some x) := v
    cases c with
    | op ds => obtain ⟨a, _, e, _⟩ := q; rw [vv] at e; cases e; simp [isNV]
    | pm ds => obtain ⟨a, _, e, _⟩ := q; rw [vv] at e; cases e; simp [isNV]
    | _ => cases h
def isNG' (neg : Bool) : DL.Env → Val → Val → Option (Val × DL.Env) := fun ρ a b => match a with
  | .sl i => if (ρ.getD i .no).isOpen = true then isNG neg ρ a b else none
  | _ => isNG neg ρ a b
theorem isN_core {K : Fg} {E P B L : List Addr} {σ : L2.St} {ρ ρ' : DL.Env} {H : Hp} {x y : V} {r1 r2 r : Val} {neg : Bool} (R0 : Rep K (E ++ P) B L σ ρ H) (v1 : VR K E P B L σ H x r1) (v2 : VR K E P B L σ H y r2) (e : isNG' neg ρ r1 r2 = some (r, ρ')) :
    y = V.non ∧ ρ' = ρ ∧ r = .cl (.bool (neg ^^ decide (x = V.non))) := by
  have hs : ∀ i, r1 ≠ .sl i ∨ (ρ.getD i .no).isOpen = true := fun i => by
    by_cases h : r1 = .sl i
    · subst h
      simp only [isNG'] at e
      split at e
      · rename_i h; exact .inr h
      · cases e
    · exact .inl h
  have e' : isNG neg ρ r1 r2 = some (r, ρ') := by
    unfold isNG' at e
    split at e
    · split at e
      · exact e
      · cases e
    · exact e
  unfold isNG at e'
  split at e'
  · rename_i hn
    cases e'
    refine ⟨?_, rfl, by rw [isNV_of R0 hs v1]⟩
    cases r2 with
    | cl d => cases d <;> simp [isNV] at hn; exact v2.non
    | _ => simp [isNV] at hn
  · cases e'
theorem loc_isN {K : Fg} : Loc2 K (fun x y H Q => y = .non ∧ Q (.bl (decide (x = .non))) H) (isNG' false) := by
  intro E P B L σ ρ ρ' H x y r1 r2 r Q R0 v1 v2 e c
  obtain ⟨h1, rfl, rfl⟩ := isN_core R0 v1 v2 e
  rw [Bool.false_xor] at c
  exact ⟨h1, c.here R0 (show VR K E P B L σ H _ (.cl (.bool _)) from Dq.bl _)⟩
theorem loc_notN {K : Fg} : Loc2 K (fun x y H Q => y = .non ∧ Q (.bl (!decide (x = .non))) H) (isNG' true) := by
  intro E P B L σ ρ ρ' H x y r1 r2 r Q R0 v1 v2 e c
  obtain ⟨h1, rfl, rfl⟩ := isN_core R0 v1 v2 e
  rw [Bool.true_xor] at c
  exact ⟨h1, c.here R0 (show VR K E P B L σ H _ (.cl (.bool _)) from Dq.bl _)⟩

/-! ### max, min of three -/
def threeG (h : Int → Int → Int → Int) : DL.Env → List Val → Option (Val × DL.Env) := fun ρ rs => match rs with
  | [.cl (.int i), .cl (.int j), .cl (.int k)] => some (.cl (.int (h i j k)), ρ)
  | _ => none
def r3I (h : Int → Int → Int → Int) : List V → Hp → VK → Prop := fun xs H Q => ∃ i j k, xs = [.int i, .int j, .int k] ∧ Q (.int (h i j k)) H
theorem loc_three {K : Fg} {h : Int → Int → Int → Int} : LocN K (r3I h) (threeG h) := by
  intro E P B L σ ρ ρ' H xs rs r Q R0 v e c
  unfold threeG at e
  split at e
  · cases e
    cases v with
    | cons w1 _ v =>
      cases v with
      | cons w2 _ v =>
        obtain ⟨x, rfl, w3⟩ := vrs_one v
        exact ⟨_, _, _, by rw [w1.int, w2.int, w3.int], c.here R0 (show VR K E P B L σ H _ (.cl (.int _)) from Dq.int _)⟩
  · cases e
def mx3 (a b c : Int) : Int := if b > a then (if c > b then c else b) else (if c > a then c else a)
def mn3 (a b c : Int) : Int := if b < a then (if c < b then c else b) else (if c < a then c else a)
theorem c_max3 {X : Cx} (hc : X.calm = true) : CallR X (.builtin "max") (r3I mx3) := by
  intro pins s σ H xs us Q I rv h
  obtain ⟨i, j, k, rfl, q⟩ := h
  cases rv with
  | cons r1 rv =>
    cases rv with
    | cons r2 rv =>
      cases rv with
      | cons r3 rv =>
        cases rv
        obtain ⟨t1, rfl⟩ := r1
        obtain ⟨t2, rfl⟩ := r2
        obtain ⟨t3, rfl⟩ := r3
        refine max_three_ints (I.ok.hd hc) fun h' tk kp => ⟨_, H, I.kept kp, ?_, q⟩
        unfold mx3
        split <;> split <;> exact ⟨_, rfl⟩
theorem c_min3 {X : Cx} (hc : X.calm = true) : CallR X (.builtin "min") (r3I mn3) := by
  intro pins s σ H xs us Q I rv h
  obtain ⟨i, j, k, rfl, q⟩ := h
  cases rv with
  | cons r1 rv =>
    cases rv with
    | cons r2 rv =>
      cases rv with
      | cons r3 rv =>
        cases rv
        obtain ⟨t1, rfl⟩ := r1
        obtain ⟨t2, rfl⟩ := r2
        obtain ⟨t3, rfl⟩ := r3
        refine min_three_ints (I.ok.hd hc) fun h' tk kp => ⟨_, H, I.kept kp, ?_, q⟩
        unfold mn3
        split <;> split <;> exact ⟨_, rfl⟩
/-! ### any, all over a list of bools -/
def blsOf : List PyData → Option (List Bool)
  | [] => some []
  | .bool b :: ds => (blsOf ds).map (b :: ·)
  | _ => none
def quaG (h : List Bool → Bool) : DL.Env → Val → Option (Val × DL.Env) := fun ρ a => match seqOf ρ a with
  | some (true, ds) => (blsOf ds).map fun bs => (.cl (.bool (h bs)), ρ)
  | _ => none
theorem bls_of {K : Fg} {H : Hp} {W : List Addr} : ∀ {vs : List V} {ds : List PyData} {bs : List Bool}, DqA K H W vs ds → blsOf ds = some bs → vs = bs.map V.bl
  | _, [], bs, h, e => by cases h; cases e; rfl
  | _, d :: ds, bs, h, e => by
    cases h with
    | cons h1 h2 =>
      cases d <;> simp [blsOf] at e
      obtain ⟨cs, e1, e2⟩ := e
      subst e2
      cases h1
      rw [bls_of h2 e1]; rfl
theorem loc_qua {K : Fg} {h : List Bool → Bool} : Loc1 K (fun x H Q => ∃ (a : Addr) (bs : List Bool), x = V.ref a ∧ SqL K H a (bs.map V.bl) ∧ Q (.bl (h bs)) H) (quaG h) := by
  intro E P B L σ ρ ρ' H x r1 r Q R0 v1 e c
  unfold quaG at e
  split at e
  · rename_i ds e1
    obtain ⟨bs, e2, e3⟩ := Option.map_eq_some_iff.mp e
    cases e3
    obtain ⟨a, vs, rfl, h1, d1⟩ := v1.list R0 e1
    have := bls_of d1 e2
    subst this
    exact ⟨a, bs, rfl, .of h1, c.here R0 (show VR K E P B L σ H _ (.cl (.bool _)) from Dq.bl _)⟩
  · cases e
theorem c_any {X : Cx} {tl : TL} (hc : X.calm = true) : CallR X (.builtin "any") (fun xs H Q => ∃ x, xs = [x] ∧ ∃ (a : Addr) (bs : List Bool), x = V.ref a ∧ SqL (X.D tl) H a (bs.map V.bl) ∧ Q (.bl (bs.any id)) H) := (cr_any hc).imp fun xs H Q ⟨x, e, a, bs, h, q⟩ => ⟨a, bs, by rw [e, h], q⟩
theorem c_all {X : Cx} {tl : TL} (hc : X.calm = true) : CallR X (.builtin "all") (fun xs H Q => ∃ x, xs = [x] ∧ ∃ (a : Addr) (bs : List Bool), x = V.ref a ∧ SqL (X.D tl) H a (bs.map V.bl) ∧ Q (.bl (bs.all id)) H) := (cr_all hc).imp fun xs H Q ⟨x, e, a, bs, h, q⟩ => ⟨a, bs, by rw [e, h], q⟩
def anyG : DL.Env → List Val → Option (Val × DL.Env) := oneG (quaG fun bs => bs.any id)
def allG : DL.Env → List Val → Option (Val × DL.Env) := oneG (quaG fun bs => bs.all id)

/-! ### and, or, not as values; chains -/
def boolOf : Val → Option Bool
  | .cl (.bool b) => some b
  | _ => none
def andD (f g : ED) : ED := fun ρ => (f ρ).bind fun p => (boolOf p.1).bind fun b => if b = true then g p.2 else some (.cl (.bool false), p.2)
def orD (f g : ED) : ED := fun ρ => (f ρ).bind fun p => (boolOf p.1).bind fun b => if b = true then some (.cl (.bool true), p.2) else g p.2
def notD (f : ED) : ED := fun ρ => (f ρ).bind fun p => (boolOf p.1).map fun b => (.cl (.bool (!b)), p.2)
theorem boolOf_of {r : Val} {b : Bool} (e : boolOf r = some b) : r = .cl (.bool b) := by
  cases r with
  | cl d => cases d <;> simp [boolOf] at e; rw [e]
  | _ => simp [boolOf] at e
section
variable {K : Fg} {σ : L2.St} {H : Hp} {Q : VK} {f g h : ED}
theorem rd_and (hh : RD K (andD f g) σ H Q) : tAndV (RD K f) (RD K g) σ H Q := by
  obtain ⟨P, B, L, ρ, r, ρ', R0, e, k⟩ := hh
  obtain ⟨⟨r1, ρ1⟩, e1, e⟩ := Option.bind_eq_some_iff.mp e
  obtain ⟨b, e2, e3⟩ := Option.bind_eq_some_iff.mp e
  have := boolOf_of e2
  simp only at this
  subst this
  refine ⟨P, B, L, ρ, _, ρ1, R0, e1, fun x H1 La Ea p1 v1 => ⟨b, v1.bl, ?_⟩⟩
  cases b with
  | true => exact iteT (two_rd p1 k (by simpa using e3))
  | false =>
    have e4 : Val.cl (.bool false) = r ∧ ρ1 = ρ' := by simpa using e3
    obtain ⟨rfl, rfl⟩ := e4
    exact iteF (k _ _ La Ea p1 (show VR K Ea P B La σ H1 _ (.cl (.bool false)) from Dq.bl false))
theorem rd_or (hh : RD K (orD f g) σ H Q) : tOrV (RD K f) (RD K g) σ H Q := by
  obtain ⟨P, B, L, ρ, r, ρ', R0, e, k⟩ := hh
  obtain ⟨⟨r1, ρ1⟩, e1, e⟩ := Option.bind_eq_some_iff.mp e
  obtain ⟨b, e2, e3⟩ := Option.bind_eq_some_iff.mp e
  have := boolOf_of e2
  simp only at this
  subst this
  refine ⟨P, B, L, ρ, _, ρ1, R0, e1, fun x H1 La Ea p1 v1 => ⟨b, v1.bl, ?_⟩⟩
  cases b with
  | false => exact iteF (two_rd p1 k (by simpa using e3))
  | true =>
    have e4 : Val.cl (.bool true) = r ∧ ρ1 = ρ' := by simpa using e3
    obtain ⟨rfl, rfl⟩ := e4
    exact iteT (k _ _ La Ea p1 (show VR K Ea P B La σ H1 _ (.cl (.bool true)) from Dq.bl true))
theorem rd_not (hh : RD K (notD f) σ H Q) : tNotV (RD K f) σ H Q := by
  obtain ⟨P, B, L, ρ, r, ρ', R0, e, k⟩ := hh
  obtain ⟨⟨r1, ρ1⟩, e1, e⟩ := Option.bind_eq_some_iff.mp e
  obtain ⟨b, e2, e3⟩ := Option.map_eq_some_iff.mp e
  have := boolOf_of e2
  simp only at this
  subst this
  cases e3
  exact ⟨P, B, L, ρ, _, ρ1, R0, e1, fun x H1 La Ea p1 v1 => ⟨b, v1.bl, k _ _ La Ea p1 (show VR K Ea P B La σ H1 _ (.cl (.bool _)) from Dq.bl _)⟩⟩
/-- a op b op' c -/
def chainD (f g h : ED) (o o' : DL.Env → Val → Val → Option (Val × DL.Env)) : ED := fun ρ => (f ρ).bind fun p => (g p.2).bind fun q => if flatV' q.1 = false then none else (o q.2 p.1 q.1).bind fun s => (boolOf s.1).bind fun b =>
  if b = true then (h s.2).bind fun t => o' t.2 q.1 t.1 else some (.cl (.bool false), s.2)
end
section
variable {X : Cx} {tl : TL} {a b c : Expr} {rest : List Expr} {f g h : ED} {pos : Pos}
theorem d_one {op : BoolOp} (h : PE X a (RD (X.D tl) f)) : PE X (.BoolOp op [a] pos) (RD (X.D tl) f) := pe_one h
theorem d_and (ha : PE X a (RD (X.D tl) f)) (hb : PE X (.BoolOp .And (b :: rest) pos) (RD (X.D tl) g)) : PE X (.BoolOp .And (a :: b :: rest) pos) (RD (X.D tl) (andD f g)) := (pe_and ha hb).imp fun _ _ _ h => rd_and h
theorem d_or (ha : PE X a (RD (X.D tl) f)) (hb : PE X (.BoolOp .Or (b :: rest) pos) (RD (X.D tl) g)) : PE X (.BoolOp .Or (a :: b :: rest) pos) (RD (X.D tl) (orD f g)) := (pe_or ha hb).imp fun _ _ _ h => rd_or h
theorem d_not (ha : PE X a (RD (X.D tl) f)) : PE X (.UnaryOp .Not a pos) (RD (X.D tl) (notD f)) := (pe_not ha).imp fun _ _ _ h => rd_not h
end
section
variable {X : Cx} {tl : TL} {a b c : Expr} {f g h : ED} {pos : Pos} {op op' : CmpOp} {R R' : R2} {o o' : DL.Env → Val → Val → Option (Val × DL.Env)}
theorem chain_imp {K : Fg} (l1 : Loc2 K R o) (l2 : Loc2 K R' o') {σ : L2.St} {H : Hp} {Q : VK} (hh : RD K (chainD f g h o o') σ H Q) : tChain R R' (RD K f) (RD K g) (RD K h) σ H Q := by
  obtain ⟨P, B, L, ρ, r, ρ', R0, e, k⟩ := hh
  obtain ⟨⟨r1, ρ1⟩, e1, e⟩ := Option.bind_eq_some_iff.mp e
  obtain ⟨⟨r2, ρ2⟩, e2, e⟩ := Option.bind_eq_some_iff.mp e
  simp only at e
  split at e
  · cases e
  rename_i hfl
  have hfl : flatV' r2 = true := by simpa using hfl
  obtain ⟨⟨r3, ρ3⟩, e3, e⟩ := Option.bind_eq_some_iff.mp e
  obtain ⟨bb, e4, e⟩ := Option.bind_eq_some_iff.mp e
  have := boolOf_of e4
  simp only at this
  subst this
  refine ⟨P, B, L, ρ, r1, ρ1, R0, e1, fun x H1 La Ea p1 v1 => ⟨Ea ++ P, B, La, ρ1, r2, ρ2, p1.rep, e2, fun y H2 Lb Eb p2 v2 => ?_⟩⟩
  have p := p1.two p2
  have w2 := v2.last p1.rep
  refine l1 p.rep (v1.later p1.rep p2) w2 e3 fun z H3 Lc Ec p3 v3 => ⟨bb, v3.bl, ?_⟩
  have pp := p.then p3
  cases bb with
  | false =>
    have e5 : Val.cl (.bool false) = r ∧ ρ3 = ρ' := by simpa using e
    obtain ⟨rfl, rfl⟩ := e5
    exact iteF (k _ _ Lc Ec pp (show VR K Ec P B Lc σ H3 _ (.cl (.bool false)) from Dq.bl false))
  | true =>
    simp only [if_true] at e
    obtain ⟨⟨r4, ρ4⟩, e5, e6⟩ := Option.bind_eq_some_iff.mp e
    obtain ⟨d2, rfl, hd2⟩ := Dq.flat (W := []) (W' := []) hfl w2
    refine iteT ⟨Ec ++ P, B, Lc, ρ3, r4, ρ4, pp.rep, e5, fun w H4 Ld Ed p4 v4 => ?_⟩
    have p5 := pp.two p4
    exact l2 p5.rep (show VR K (Ed ++ Ec) P B Ld σ H4 y (.cl d2) from hd2) (v4.last pp.rep) e6 (k.after p5)
theorem d_chain (ho : OpR X (compareOp op) R) (ho' : OpR X (compareOp op') R') (l1 : Loc2 (X.D tl) R o) (l2 : Loc2 (X.D tl) R' o') (ha : PE X a (RD (X.D tl) f)) (hb : PE X b (RD (X.D tl) g)) (hc : PE X c (RD (X.D tl) h)) (hm : lastMarks [op, op'] [b, c] = false := by with_unfolding_all rfl) :
    PE X (.Compare a [op, op'] [b, c] pos) (RD (X.D tl) (chainD f g h o o')) := (pe_chain ho ho' ha hb hc hm).imp fun _ _ _ h => chain_imp l1 l2 h
theorem t_chain (ho : OpR X (compareOp op) R) (ho' : OpR X (compareOp op') R') (l1 : Loc2 (X.D tl) R o) (l2 : Loc2 (X.D tl) R' o') (ha : PE X a (RD (X.D tl) f)) (hb : PE X b (RD (X.D tl) g)) (hc : PE X c (RD (X.D tl) h)) (hm : lastMarks [op, op'] [b, c] = false := by with_unfolding_all rfl) :
    PT X (.Compare a [op, op'] [b, c] pos) (RT (X.D tl) (testD (chainD f g h o o'))) := (pt_chain ho ho' ha hb hc hm).imp fun _ _ _ h => chain_imp l1 l2 (rt_test h)
end
/-! ### repr -/
def repG : DL.Env → Val → Option (Val × DL.Env) := fun ρ a => match datOf ρ a with
  | some d => if (d.showable = true ∧ d.hasDict = false) ∧ d.shown.length ≤ sizeLine ∧ d.depth ≤ 60 then some (.cl (.str d.shown), ρ) else none
  | none => none
def rRepr (K : Fg) : V → Hp → VK → Prop := fun x H Q => ∃ d, Dp K H x d ∧ ((d.showable = true ∧ d.hasDict = false) ∧ d.shown.length ≤ sizeLine ∧ d.depth ≤ 60) ∧ Q (.str d.shown) H
theorem loc_repr {K : Fg} : Loc1 K (rRepr K) repG := by
  intro E P B L σ ρ ρ' H x r1 r Q R0 v1 e c
  unfold repG at e
  split at e
  · rename_i d e1
    split at e
    · rename_i hz
      cases e
      exact ⟨d, (v1.dat R0 e1).dp hz.1.2, hz, c.here R0 (show VR K E P B L σ H _ (.cl (.str _)) from Dq.str _)⟩
    · cases e
  · cases e
theorem c_repr {X : Cx} {tl : TL} (hA : X.A.guards = some []) (hu : X.A.units + 64 < cLine) : CallR X (.builtin "repr") (fun xs H Q => ∃ x, xs = [x] ∧ rRepr (X.D tl) x H Q) := by
  intro pins s σ H xs us Q I rv h
  obtain ⟨x, rfl, d, hd, ⟨⟨h1, h2⟩, h3, h4⟩, q⟩ := h
  obtain ⟨u, rfl, ru⟩ := rv.one
  obtain ⟨as, rd⟩ := Dp.reads I d x u hd ru
  have big : ∀ a, u = Value.ref a → wpAny (model X.prog X.w) X.A (call (.builtin "repr") [u]) (EP X pins σ Q) X.xe s := fun a e => by
    subst e
    exact repr_of_reads' rd h1 (PyData.noDict_hsm h2) hA (by omega) (fun _ _ e => e) (fun h' u tk hk => ⟨.str d.shown, H, I.kept hk, ⟨u, rfl⟩, q⟩) h3
  cases hd with
  | lst _ _ => cases ru; exact big _ rfl
  | tup _ _ => cases ru; exact big _ rfl
  | int i =>
    obtain ⟨t, rfl⟩ := ru
    exact PySem.P.repr_of_int (by simpa [PyData.showable] using h1) ⟨.str _, H, I.tok _, ⟨_, rfl⟩, by simpa [PyData.shown] using q⟩
  | non =>
    cases ru
    exact PySem.P.repr_of_none ⟨.str _, H, I.tok _, ⟨_, rfl⟩, by simpa [PyData.shown] using q⟩
  | bl b =>
    cases ru
    exact PySem.P.repr_of_bool ⟨.str _, H, I.tok _, ⟨_, rfl⟩, by simpa [PyData.shown] using q⟩
  | str z =>
    obtain ⟨t, rfl⟩ := ru
    exact PySem.P.repr_of_str ⟨.str _, H, I.tok _, ⟨_, rfl⟩, by simpa [PyData.shown] using q⟩ (by simpa [PyData.shown] using h3)
end DL
end
set_option maxHeartbeats 1000000
noncomputable section
namespace DL
open PySem PySem.Spec PyProof.Rows L2 ZE

/-! ### zip, enumerate -/
def itemsOf : PyData → Option (List PyData)
  | .list ds => some ds
  | .tuple ds => some ds
  | _ => none
def isLst : PyData → Bool
  | .list _ => true
  | _ => false
def zipD (xs ys : List PyData) : List PyData := List.zipWith (fun a b => .tuple [a, b]) xs ys
def enumD (xs : List PyData) : List PyData := xs.mapIdx fun i d => .tuple [.int i, d]
def zipI (t : AD) : ID := fun ρ => (t ρ).bind fun p => (psAll p.2 p.1).bind fun q => match q.1 with
  | [x, y] => (itemsOf x).bind fun xs => (itemsOf y).map fun ys => (zipD xs ys, q.2)
  | _ => none
def enumI (t : AD) : ID := fun ρ => (t ρ).bind fun p => (psAll p.2 p.1).bind fun q => match q.1 with
  | [x] => (itemsOf x).map fun xs => (enumD xs, q.2)
  | _ => none
section
variable {K : Fg} {P B L : List Addr} {σ : L2.St} {ρ : DL.Env} {H : Hp} {W : List Addr}
theorem dq_ref {v : V} {d : PyData} {ds : List PyData} (h : Dq K H W v d) (e : itemsOf d = some ds) : ∃ a, v = V.ref a := by
  cases h <;> first | exact ⟨_, rfl⟩ | cases e
theorem dq_items {a : Addr} {d : PyData} {ds : List PyData} (h : Dq K H W (.ref a) d) (e : itemsOf d = some ds) : ∃ vs, SqB K (isLst d) H a vs ∧ DqA K H W vs ds := by
  cases h with
  | lst h1 h2 h3 => cases e; exact ⟨_, .of h2, h3⟩
  | tup h2 h3 => cases e; exact ⟨_, h2.sq, h3⟩
  | dic h1 h2 h3 => cases e
theorem walks_z {a b : Addr} {dx dy : PyData} {xs ys : List PyData} (R : Rep K P B L σ ρ H) (h1 : Dq K H (P ++ B ++ L) (.ref a) dx) (h2 : Dq K H (P ++ B ++ L) (.ref b) dy) (e1 : itemsOf dx = some xs) (e2 : itemsOf dy = some ys) :
    WalksA K P B L H (ItzB K (isLst dx) (isLst dy) a b) (zipD xs ys) := fun H2 L2 E s he => by
  obtain ⟨vs, q1, d1⟩ := dq_items (Dq.stepA R s he h1) e1
  obtain ⟨ws, q2, d2⟩ := dq_items (Dq.stepA R s he h2) e2
  have l1 := d1.length
  have l2 := d2.length
  refine ⟨fun i d hd => ?_, ⟨vs, ws, q1, q2, ?_, ?_, ?_⟩⟩
  · unfold zipD at hd
    rw [List.getElem?_zipWith] at hd
    split at hd
    · rename_i x y hx hy
      cases hd
      obtain ⟨v, hv, dv⟩ := d1.get hx
      obtain ⟨w, hw, dw⟩ := d2.get hy
      refine ⟨⟨vs, ws, v, w, q1, q2, hv, hw⟩, fun z H3 hz => ?_⟩
      obtain ⟨T, v', w', ob, rfl, hT, po, rfl, f1, f2⟩ := hz
      have ev := (f1 vs q1).symm.trans hv
      have ew := (f2 ws q2).symm.trans hw
      cases ev
      cases ew
      have kp : Keep [] H2 (upd H2 T (.frz ob (.tup [v, w]))) := Keep.new hT
      refine ⟨kp, .tup ⟨ob, upd_same, po⟩ (.cons (dv.move lists_nil (fun _ z => nomatch z) kp fun _ z => .inl z) (.cons (dw.move lists_nil (fun _ z => nomatch z) kp fun _ z => .inl z) .nil))⟩
    · cases hd
  all_goals
    unfold zipD
    rw [List.length_zipWith]
    omega
theorem walks_e {a : Addr} {dx : PyData} {xs : List PyData} (R : Rep K P B L σ ρ H) (h1 : Dq K H (P ++ B ++ L) (.ref a) dx) (e1 : itemsOf dx = some xs) :
    WalksA K P B L H (IteB K (isLst dx) a) (enumD xs) := fun H2 L2 E s he => by
  obtain ⟨vs, q1, d1⟩ := dq_items (Dq.stepA R s he h1) e1
  have l1 := d1.length
  refine ⟨fun i d hd => ?_, ⟨vs, q1, ?_⟩⟩
  · unfold enumD at hd
    rw [List.getElem?_mapIdx] at hd
    obtain ⟨x, hx, rfl⟩ := Option.map_eq_some_iff.mp hd
    obtain ⟨v, hv, dv⟩ := d1.get hx
    refine ⟨⟨vs, v, q1, hv⟩, fun z H3 hz => ?_⟩
    obtain ⟨T, v', ob, rfl, hT, po, rfl, f1⟩ := hz
    have ev := (f1 vs q1).symm.trans hv
    cases ev
    have kp : Keep [] H2 (upd H2 T (.frz ob (.tup [.int (i : Nat), v]))) := Keep.new hT
    exact ⟨kp, .tup ⟨ob, upd_same, po⟩ (.cons (.int _) (.cons (dv.move lists_nil (fun _ z => nomatch z) kp fun _ z => .inl z) .nil))⟩
  · unfold enumD
    rw [List.length_mapIdx, l1]
end
section
variable {X : Cx} {tl : TL} {tgE : Expr} {a b : Expr} {t : AD} {pos p tp : Pos} {elts : List Expr} {kk : Nat}
theorem i_zip (hg : Gl X "zip") (hm : X.mg "zip" = none) (ha : PA X [a, b] (RA (X.D tl) t)) (hs : starEach [a, b] X.env = (false, eval a X.env) :: starEach [b] X.env := by rfl) (hpl : (backTo pos (starEach [b] X.env)).any (·.1) = false := by rfl) :
    PI X (.Tuple elts kk tp) (.Call (.Name "zip" p) [a, b] [] pos) (RI (X.D tl) (zipI t)) := (pi_zipB hg hm ha hs hpl).imp fun σ H R h => by
  obtain ⟨P, B, L, ρ, ds, ρ', R0, e, k⟩ := h
  obtain ⟨⟨rs, ρ1⟩, e1, e⟩ := Option.bind_eq_some_iff.mp e
  obtain ⟨⟨es, ρ2⟩, e2, e⟩ := Option.bind_eq_some_iff.mp e
  refine ⟨P, B, L, ρ, rs, ρ1, R0, e1, fun xs H1 La Ea p1 v1 => ?_⟩
  obtain ⟨E', L', R', dq, he, hl⟩ := psAll_of p1.rep v1 e2
  simp only at e
  split at e
  · rename_i x y
    obtain ⟨us, e3, e⟩ := Option.bind_eq_some_iff.mp e
    obtain ⟨ws, e4, e⟩ := Option.map_eq_some_iff.mp e
    cases e
    cases dq with
    | cons d1 dq =>
      cases dq with
      | cons d2 dq =>
        cases dq
        obtain ⟨a1, rfl⟩ := dq_ref d1 e3
        obtain ⟨a2, rfl⟩ := dq_ref d2 e4
        obtain ⟨vs, q1, _⟩ := dq_items d1 e3
        obtain ⟨ws', q2, _⟩ := dq_items d2 e4
        exact ⟨_, _, a1, a2, vs, ws', rfl, q1, q2, k _ H1 L' E' (p1.then (Post.less R' he hl)) (walks_z R' d1 d2 e3 e4)⟩
  · cases e
theorem i_enum (hg : Gl X "enumerate") (hm : X.mg "enumerate" = none) (ha : PA X [a] (RA (X.D tl) t)) (hs : starEach [a] X.env = [(false, eval a X.env)] := by rfl) :
    PI X (.Tuple elts kk tp) (.Call (.Name "enumerate" p) [a] [] pos) (RI (X.D tl) (enumI t)) := (pi_enumB hg hm ha hs).imp fun σ H R h => by
  obtain ⟨P, B, L, ρ, ds, ρ', R0, e, k⟩ := h
  obtain ⟨⟨rs, ρ1⟩, e1, e⟩ := Option.bind_eq_some_iff.mp e
  obtain ⟨⟨es, ρ2⟩, e2, e⟩ := Option.bind_eq_some_iff.mp e
  refine ⟨P, B, L, ρ, rs, ρ1, R0, e1, fun xs H1 La Ea p1 v1 => ?_⟩
  obtain ⟨E', L', R', dq, he, hl⟩ := psAll_of p1.rep v1 e2
  simp only at e
  split at e
  · rename_i x
    obtain ⟨us, e3, e⟩ := Option.map_eq_some_iff.mp e
    cases e
    cases dq with
    | cons d1 dq =>
      cases dq
      obtain ⟨a1, rfl⟩ := dq_ref d1 e3
      obtain ⟨vs, q1, _⟩ := dq_items d1 e3
      exact ⟨_, a1, vs, rfl, q1, k _ H1 L' E' (p1.then (Post.less R' he hl)) (walks_e R' d1 e3)⟩
  · cases e
end

/-! ### the built-ins' names are free -/
structure Blt (mg : Str → Option Value) : Prop where
  len : mg "len" = none
  range : mg "range" = none
  max : mg "max" = none
  min : mg "min" = none
  int : mg "int" = none
  abs : mg "abs" = none
  list : mg "list" = none
  tuple : mg "tuple" = none
  repr : mg "repr" = none
  any : mg "any" = none
  all : mg "all" = none
  zip : mg "zip" = none
  enumerate : mg "enumerate" = none
  sum : mg "sum" = none
  sorted : mg "sorted" = none
  set : mg "set" = none
  isinstance : mg "isinstance" = none
  str : mg "str" = none
  bool : mg "bool" = none
  dict : mg "dict" = none
  reversed : mg "reversed" = none

/-! ### a def that stands at the top with its promise -/
def Ok (P : Program) (w : World) (K : Fg) (mg : Str → Option Value) (base : Heap) (k : Nat) (x : Str) (ps : List Str) (sp : Sp) : Prop :=
  ∃ f fd, FnG P w K mg base CX0 k f fd ps sp ∧ mg x = some (.ref f) ∧ PySem.W.keepIn K (.ref f) = true ∧ Binds K fd ps []
structure Def (K : Fg) (mg : Str → Option Value) (x : Str) (st : Stmt) (ps : List Str) : Prop where
  ex : ∃ f fd, Fun K x x st f fd ∧ mg x = some (.ref f) ∧ PySem.W.keepIn K (.ref f) = true ∧ Binds K fd ps []
section
variable {P : Program} {w : World} {K : Fg} {mg : Str → Option Value} {base : Heap}
theorem Ok.pure {x : Str} {st : Stmt} {N ps : List Str} {k n : Nat} {g : SD} (D : Def K mg x st ps) (S : FnScope N ps (defScope st)) (hn : ps.length = n) (hN : n ≤ N.length)
    (hb : ∀ (f : Addr) (cdv : Value) (A : Around) (outer : List PySem.Env) (s : Shared) (H : Hp) (E : XK), (A.deeper (envOfC x (defScope st) s.heap.objs.size f cdv)).guards = some [] → Room k (A.deeper (envOfC x (defScope st) s.heap.objs.size f cdv)) →
      PSs (cxOf CX0 P w K mg base N x (defScope st) f cdv A outer s H E).nox (defBody st) (RS K g)) : Ok P w K mg base (k + 1) x ps (spP K n (runP N.length g)) := by
  obtain ⟨f, fd, F, h1, h2, h3⟩ := D.ex
  exact ⟨f, fd, FnG.pure F S hn hN (hb f), h1, h2, h3⟩
theorem Ok.mut {x : Str} {st : Stmt} {N ps : List Str} {k n : Nat} {g : SD} (D : Def K mg x st ps) (S : FnScope N ps (defScope st)) (hn : ps.length = n + 1) (hN : n + 1 ≤ N.length)
    (hb : ∀ (f : Addr) (cdv : Value) (A : Around) (outer : List PySem.Env) (s : Shared) (H : Hp) (E : XK), (A.deeper (envOfC x (defScope st) s.heap.objs.size f cdv)).guards = some [] → Room k (A.deeper (envOfC x (defScope st) s.heap.objs.size f cdv)) →
      PSs (cxOf CX0 P w K mg base N x (defScope st) f cdv A outer s H E).nox (defBody st) (RS K g)) : Ok P w K mg base (k + 1) x ps (spM K n (runM N.length g)) := by
  obtain ⟨f, fd, F, h1, h2, h3⟩ := D.ex
  exact ⟨f, fd, FnG.mut F S hn hN (hb f), h1, h2, h3⟩
end
section
variable {X : Cx} {tl : TL} {k n : Nat} {ps : List Str} {x y : Str} {p pos py : Pos} {e : Expr} {es : List Expr} {t : AD}
theorem e_P {F : FP} (O : Ok X.prog X.w (X.D tl) X.mg X.base k x ps (spP (X.D tl) n F)) (hA : X.A.guards = some []) (hr : Room k X.A) (ha : PA X (e :: es) (RA (X.D tl) t)) (hg : Gl X x := by rfl)
    (hdb : (x == ("__debug__" : Str)) = false := by decide) (he : starEach (e :: es) X.env = (false, eval e X.env) :: starEach es X.env := by rfl) (hpl : (backTo pos (starEach es X.env)).any (·.1) = false := by rfl) :
    PE X (.Call (.Name x p) (e :: es) [] pos) (RD (X.D tl) (callP n F t)) := by
  obtain ⟨f, fd, G, h1, h2, h3⟩ := O
  exact d_callP G hA hr h1 h2 h3 ha hg hdb he hpl
theorem e_M {F : FM} (j : Nat) (O : Ok X.prog X.w (X.D tl) X.mg X.base k x ps (spM (X.D tl) n F)) (hA : X.A.guards = some []) (hr : Room k X.A) (ha : PA X es (RA (X.D tl) t)) (hg : Gl X x := by rfl)
    (hN : X.N[j]? = some y := by rfl) (hv : Vis X.env.scope y := by first | exact Or.inl rfl | exact Or.inr (Or.inl rfl) | exact Or.inr (Or.inr rfl)) (hd : (y == ("__debug__" : Str)) = false := by decide) (hcd : (y == ("__classdict__" : Str)) = false := by decide)
    (hdb : (x == ("__debug__" : Str)) = false := by decide) (he : starEach ((.Name y py) :: es) X.env = (false, eval (.Name y py) X.env) :: starEach es X.env := by rfl) (hpl : (backTo pos (starEach es X.env)).any (·.1) = false := by rfl) :
    PE X (.Call (.Name x p) ((.Name y py) :: es) [] pos) (RD (X.D tl) (callM j n F t)) := by
  obtain ⟨f, fd, G, h1, h2, h3⟩ := O
  exact d_callM j G hA hr h1 h2 h3 ha hg hN hv hd hcd hdb he hpl
end
end DL
end
set_option maxHeartbeats 1000000
noncomputable section
namespace DL
open PySem PySem.Spec PyProof.Rows L2

theorem hu64 {k : Nat} {A : Around} (hr : Room k A) : A.units + 64 < cLine := by
  have := hr.un
  omega
section
variable {X : Cx} {tl : TL} {pos : Pos}
theorem h_name (i : Nat) {x : Str} (hN : X.N.Nodup) (hi : X.N[i]? = some x := by rfl) (hx : Loc X.env.scope x := by first | exact Or.inl rfl | exact Or.inr rfl) (hf : X.fn x = true ∨ X.env.scope.names.lookup x = some .local := by first | exact .inl rfl | exact .inr rfl) : PG X (.Name x pos) (gName i) :=
  pg_name hN hi hx hf
end
theorem loc_any {K : Fg} : LocN K (fun xs H Q => ∃ x, xs = [x] ∧ ∃ (a : Addr) (bs : List Bool), x = V.ref a ∧ SqL K H a (bs.map V.bl) ∧ Q (.bl (bs.any id)) H) anyG :=
  @loc_one K (fun x H Q => ∃ (a : Addr) (bs : List Bool), x = V.ref a ∧ SqL K H a (bs.map V.bl) ∧ Q (.bl (bs.any id)) H) (quaG fun bs => bs.any id) (loc_qua (h := fun bs => bs.any id))
theorem loc_all {K : Fg} : LocN K (fun xs H Q => ∃ x, xs = [x] ∧ ∃ (a : Addr) (bs : List Bool), x = V.ref a ∧ SqL K H a (bs.map V.bl) ∧ Q (.bl (bs.all id)) H) allG :=
  @loc_one K (fun x H Q => ∃ (a : Addr) (bs : List Bool), x = V.ref a ∧ SqL K H a (bs.map V.bl) ∧ Q (.bl (bs.all id)) H) (quaG fun bs => bs.all id) (loc_qua (h := fun bs => bs.all id))
/-! ### == of texts too -/
def eqQ (neg : Bool) : DL.Env → Val → Val → Option (Val × DL.Env) := fun ρ a b => match a, b with
  | .cl (.str x), .cl (.str y) => some (.cl (.bool (neg ^^ decide (x = y))), ρ)
  | _, _ => eqG neg ρ a b
theorem dec_str {x y : Str} : decide (V.str x = V.str y) = decide (x = y) := by
  by_cases h : x = y
  · subst h; simp
  · rw [decide_eq_false h, decide_eq_false fun z => h (by injection z)]
theorem loc_eqQ {K : Fg} : Loc2 K (fun x y H Q => rEqD K x y H Q ∨ rEq x y H Q) (eqQ false) := by
  intro E P B L σ ρ ρ' H x y r1 r2 r Q R0 v1 v2 e c
  unfold eqQ at e
  split at e
  · rename_i a b
    cases e
    have e1 := v1.str
    have e2 := v2.str
    subst e1 e2
    refine .inr ⟨rfl, ?_⟩
    rw [dec_str]
    rw [Bool.false_xor] at c
    exact c.here R0 (show VR K E P B L σ H _ (.cl (.bool _)) from Dq.bl _)
  · exact .inl (loc_eq R0 v1 v2 e c)
theorem loc_neQ {K : Fg} : Loc2 K (fun x y H Q => rNeD K x y H Q ∨ rNe x y H Q) (eqQ true) := by
  intro E P B L σ ρ ρ' H x y r1 r2 r Q R0 v1 v2 e c
  unfold eqQ at e
  split at e
  · rename_i a b
    cases e
    have e1 := v1.str
    have e2 := v2.str
    subst e1 e2
    refine .inr ⟨rfl, ?_⟩
    rw [dec_str]
    rw [Bool.true_xor] at c
    exact c.here R0 (show VR K E P B L σ H _ (.cl (.bool _)) from Dq.bl _)
  · exact .inl (loc_ne R0 v1 v2 e c)
theorem op_eqQ {X : Cx} {tl : TL} (hu : X.A.units + 64 < cLine) : OpR X (compareOp .Eq) (fun x y H Q => rEqD (X.D tl) x y H Q ∨ rEq x y H Q) := (op_eqD hu).or op_eq
theorem op_neQ {X : Cx} {tl : TL} (hu : X.A.units + 64 < cLine) : OpR X (compareOp .NotEq) (fun x y H Q => rNeD (X.D tl) x y H Q ∨ rNe x y H Q) := (op_neD hu).or op_ne
/-! ### three names exchanged -/
section
variable {X : Cx} {tl : TL} {t : AD} {pos : Pos}
theorem s_par3 {i j l : Nat} {x y z : Str} {u v q : Expr} {px py pz pt : Pos} {kt k2 : Nat} {pt2 : Pos} (hc : X.calm = true) (hij : i ≠ j) (hil : i ≠ l) (hjl : j ≠ l) (hN : X.N.Nodup) (ha : PA X [u, v, q] (RA (X.D tl) t)) (hi : X.N[i]? = some x := by rfl) (hj : X.N[j]? = some y := by rfl) (hl : X.N[l]? = some z := by rfl)
    (hx : X.env.scope.names.lookup x = some .local := by rfl) (hy : X.env.scope.names.lookup y = some .local := by rfl) (hz : X.env.scope.names.lookup z = some .local := by rfl)
    (hw : swappedStores [.Tuple [.Name x px, .Name y py, .Name z pz] kt pt] (.Tuple [u, v, q] k2 pt2) X.env = pure (some [x, y, z]) := by rfl)
    (hs : swapsWithSole [.Tuple [.Name x px, .Name y py, .Name z pz] kt pt] (.Tuple [u, v, q] k2 pt2) pos.line X.env = pure false := by rfl) :
    PS X (.Assign [.Tuple [.Name x px, .Name y py, .Name z pz] kt pt] (.Tuple [u, v, q] k2 pt2) pos) (RS (X.D tl) (parS [i, j, l] t)) :=
  (ps_par3 hc hN hi hj hl hij hil hjl hx hy hz ha hw hs).imp fun D σ H h => by
    obtain ⟨P, B, L, ρ, rs, ρ', R0, e, k⟩ := par_core h
    refine ⟨P, B, L, ρ, rs, ρ', R0, e, fun xs H' L' E' p v => ?_⟩
    obtain ⟨q1, q2, q3⟩ := k xs H' L' E' p v
    match xs, q1 with
    | [v1, v2, v3], _ => exact ⟨v1, v2, v3, rfl, q3 H' keep_refl⟩
end
/-! ### list(range(..)), tuple(range(..)) -/
def rg1 (f : ED) (mk : List PyData → Val) : ED := fun ρ => (f ρ).bind fun p => match p.1 with
  | .cl (.int n) => if -lim ≤ n ∧ n ≤ lim then some (mk (rngD 0 n.toNat 1), p.2) else none
  | _ => none
def lstR1 (f : ED) : ED := rg1 f .own
def tupR1 (f : ED) : ED := rg1 f fun ds => .cl (.tuple ds)
theorem dq_rg {K : Fg} {H : Hp} {W : List Addr} (n : Int) : DqA K H W (rgV 0 n) (rngD 0 n.toNat 1) := by
  have go : ∀ l : List Nat, DqA K H W (l.map fun i => V.int (0 + (i : Nat))) (l.map fun (k : Nat) => PyData.int (0 + k * 1)) := fun l => by
    induction l with
    | nil => exact .nil
    | cons i l ih =>
      refine .cons ?_ ih
      show Dq K H W (V.int (0 + (i : Nat))) (.int (0 + (i : Int) * 1))
      rw [Int.mul_one]
      exact .int _
  unfold rgV rngD
  rw [show (n - 0).toNat = n.toNat by omega]
  exact go _
section
variable {X : Cx} {tl : TL} {a : Expr} {f : ED} {pos p p2 pos2 : Pos}
theorem rg1_of {mk : List PyData → Val} {ρ ρ' : DL.Env} {r : Val} (e : rg1 f mk ρ = some (r, ρ')) : ∃ n, f ρ = some (.cl (.int n), ρ') ∧ RgOk 0 n ∧ r = mk (rngD 0 n.toNat 1) := by
  obtain ⟨⟨r1, ρ1⟩, e1, e2⟩ := Option.bind_eq_some_iff.mp e
  simp only at e2
  split at e2
  · rename_i n
    split at e2
    · rename_i hz
      cases e2
      have hl := lim_eq
      exact ⟨n, e1, ⟨by omega, by omega, by omega, by omega, by omega⟩, rfl⟩
    · cases e2
  · cases e2
theorem d_lstR1 (hg : Gl X "list") (hm : X.mg "list" = none) (hg2 : Gl X "range") (hm2 : X.mg "range" = none) (hc : X.calm = true) (ha : PE X a (RD (X.D tl) f)) (na : starEach [a] X.env = (false, eval a X.env) :: starEach [] X.env := by rfl)
    (nb : starEach [.Call (.Name "range" p2) [a] [] pos2] X.env = (false, eval (.Call (.Name "range" p2) [a] [] pos2) X.env) :: starEach [] X.env := by rfl) :
    PE X (.Call (.Name "list" p) [.Call (.Name "range" p2) [a] [] pos2] [] pos) (RD (X.D tl) (lstR1 f)) :=
  (pe_listRg hc hg hm (prg_1 hg2 hm2 ha na) nb).imp fun σ H Q h => by
    obtain ⟨P, B, L, ρ, r, ρ', R0, e, k⟩ := h
    obtain ⟨n, e1, ok, rfl⟩ := rg1_of e
    exact ⟨P, B, L, ρ, _, ρ', R0, e1, fun x H1 La Ea p1 v1 => ⟨n, v1.int, ok, fun q hq => (k.after p1).lst p1.rep (dq_rg n) hq⟩⟩
theorem d_tupR1 (hg : Gl X "tuple") (hm : X.mg "tuple" = none) (hg2 : Gl X "range") (hm2 : X.mg "range" = none) (hc : X.calm = true) (ha : PE X a (RD (X.D tl) f)) (na : starEach [a] X.env = (false, eval a X.env) :: starEach [] X.env := by rfl)
    (nb : starEach [.Call (.Name "range" p2) [a] [] pos2] X.env = (false, eval (.Call (.Name "range" p2) [a] [] pos2) X.env) :: starEach [] X.env := by rfl) :
    PE X (.Call (.Name "tuple" p) [.Call (.Name "range" p2) [a] [] pos2] [] pos) (RD (X.D tl) (tupR1 f)) :=
  (pe_tupRgF hc hg hm (prg_1 hg2 hm2 ha na) nb).imp fun σ H Q h => by
    obtain ⟨P, B, L, ρ, r, ρ', R0, e, k⟩ := h
    obtain ⟨n, e1, ok, rfl⟩ := rg1_of e
    exact ⟨P, B, L, ρ, _, ρ', R0, e1, fun x H1 La Ea p1 v1 => ⟨n, v1.int, ok, fun q ob hq po => (k.after p1).tup p1.rep (dq_rg n) hq po⟩⟩
end
end DL
end
noncomputable section
namespace DL
open PySem PySem.Spec PyProof.Rows L2

/-! ### whole numbers in a row -/
def intsOf : List PyData → Option (List Int)
  | [] => some []
  | .int b :: ds => (intsOf ds).map (b :: ·)
  | _ => none
theorem ints_of {K : Fg} {H : Hp} {W : List Addr} : ∀ {vs : List V} {ds : List PyData} {bs : List Int}, DqA K H W vs ds → intsOf ds = some bs → vs = bs.map V.int ∧ ds = bs.map .int
  | _, [], bs, h, e => by cases h; cases e; exact ⟨rfl, rfl⟩
  | _, d :: ds, bs, h, e => by
    cases h with
    | cons h1 h2 =>
      cases d <;> simp [intsOf] at e
      obtain ⟨cs, e1, e2⟩ := e
      subst e2
      cases h1
      obtain ⟨q1, q2⟩ := ints_of h2 e1
      rw [q1, q2]; exact ⟨rfl, rfl⟩
theorem intsOf_map : ∀ (ns : List Int), intsOf (ns.map .int) = some ns
  | [] => rfl
  | n :: ns => by
    show (intsOf (ns.map .int)).map (n :: ·) = _
    rw [intsOf_map ns]; rfl
/-- a row of them, in a list or a tuple -/
def NumV (K : Fg) (H : Hp) (x : V) (ns : List Int) : Prop := ∃ a : Addr, x = .ref a ∧ (SqL K H a (ns.map V.int) ∨ SqT K H a (ns.map V.int))
theorem VR.nums {K : Fg} {E P B L : List Addr} {σ : L2.St} {ρ : DL.Env} {H : Hp} {x : V} {r : Val} {k : Bool} {ds : List PyData} {ns : List Int} (R0 : Rep K (E ++ P) B L σ ρ H) (v : VR K E P B L σ H x r) (e : seqOf ρ r = some (k, ds)) (e2 : intsOf ds = some ns) : NumV K H x ns := by
  cases k with
  | true =>
    obtain ⟨a, vs, rfl, h1, d1⟩ := v.list R0 e
    obtain ⟨rfl, _⟩ := ints_of d1 e2
    exact ⟨a, rfl, .inl (.of h1)⟩
  | false =>
    obtain ⟨a, vs, rfl, h1, d1⟩ := v.tuple e
    obtain ⟨rfl, _⟩ := ints_of d1 e2
    exact ⟨a, rfl, .inr h1.sq⟩
/-! ### sum -/
def sumG : DL.Env → Val → Option (Val × DL.Env) := fun ρ a => (seqOf ρ a).bind fun q => (intsOf q.2).map fun ns => (.cl (.int ns.sum), ρ)
def rSumA (K : Fg) : V → Hp → VK → Prop := fun x H Q => ∃ ns, NumV K H x ns ∧ Q (.int ns.sum) H
theorem loc_sum {K : Fg} : Loc1 K (rSumA K) sumG := by
  intro E P B L σ ρ ρ' H x r1 r Q R0 v1 e c
  obtain ⟨⟨k, ds⟩, e1, e2⟩ := Option.bind_eq_some_iff.mp e
  obtain ⟨ns, e3, e4⟩ := Option.map_eq_some_iff.mp e2
  cases e4
  exact ⟨ns, v1.nums R0 e1 e3, c.here R0 (show VR K E P B L σ H _ (.cl (.int _)) from Dq.int _)⟩
theorem tup_sum {X : Cx} {tl : TL} {pins : List (Addr × Obj)} {s : Shared} {σ : L2.St} {H : Hp} {Q : VK} {a : Addr} {ns : List Int} (hc : X.calm = true) (I : Inv X pins σ H s) (hs : SqT (X.D tl) H a (ns.map V.int)) (q : Q (.int ns.sum) H) :
    wpAny (model X.prog X.w) X.A (call (.builtin "sum") [.ref a]) (EP X pins σ Q) X.xe s := by
  obtain ⟨its, rv, hl, _⟩ := I.tuple hs
  have hi := rv.ints
  obtain ⟨xs, hx⟩ := hi.allInts.items
  have hn : numsOf its.toArray.toList = ns := by rw [show its.toArray.toList = its from rfl, hi.numsOf]
  have hl2 : s.heap.IsTuple a (intItems xs) := by rw [← hx]; exact hl
  rw [hx, nums_intItems] at hn
  refine PySem.W.ktm_sumG (I.ok.hd hc) hl2 fun h' tk t' hk => ?_
  rw [preSum_eq, List.take_of_length_le (by simp), hn]
  exact ⟨.int _, H, I.kept hk, ⟨_, rfl⟩, q⟩
theorem c_sum {X : Cx} {tl : TL} (hc : X.calm = true) : CallR X (.builtin "sum") (fun xs H Q => ∃ x, xs = [x] ∧ rSumA (X.D tl) x H Q) := by
  intro pins s σ H vs us Q I r h
  obtain ⟨x, rfl, ns, ⟨a, rfl, h1 | h1⟩, q⟩ := h
  · exact cr_sum hc pins s σ H _ us Q I r ⟨a, ns, rfl, h1, q⟩
  · rw [Vals.ref1 r]
    exact tup_sum hc I h1 q
/-! ### x.count(k), x.index(k) -/
theorem TupD.ob {X : Cx} {pins : List (Addr × Obj)} {s : Shared} {σ : L2.St} {H : Hp} {a : Addr} {xs : List V} (I : Inv X pins σ H s) (h : TupD H a xs) : ∃ o, s.heap.get? a = some o ∧ o.dict = none ∧ o.cls = .type "tuple" := by
  obtain ⟨o, h, p⟩ := h
  obtain ⟨e, _⟩ := I.hok a _ h
  exact ⟨o, e, p.2, p.1⟩
/-- a row of numbers whose methods can be asked -/
def NumM (K : Fg) (H : Hp) (x : V) (ns : List Int) : Prop := ∃ a : Addr, x = .ref a ∧ (SqL K H a (ns.map V.int) ∨ TupD H a (ns.map V.int))
theorem VR.numM {K : Fg} {E P B L : List Addr} {σ : L2.St} {ρ : DL.Env} {H : Hp} {x : V} {r : Val} {k : Bool} {ds : List PyData} {ns : List Int} (R0 : Rep K (E ++ P) B L σ ρ H) (v : VR K E P B L σ H x r) (e : seqOf ρ r = some (k, ds)) (e2 : intsOf ds = some ns) : NumM K H x ns := by
  cases k with
  | true =>
    obtain ⟨a, vs, rfl, h1, d1⟩ := v.list R0 e
    obtain ⟨rfl, _⟩ := ints_of d1 e2
    exact ⟨a, rfl, .inl (.of h1)⟩
  | false =>
    obtain ⟨a, vs, rfl, h1, d1⟩ := v.tuple e
    obtain ⟨rfl, _⟩ := ints_of d1 e2
    exact ⟨a, rfl, .inr h1⟩
abbrev M1 := DL.Env → List PyData → Val → Option (Val × DL.Env)
/-- o.m(e) for a list or a tuple -/
def metV (f1 f2 : ED) (g : M1) : ED := fun ρ => (f1 ρ).bind fun p => (seqOf p.2 p.1).bind fun k => (f2 p.2).bind fun q => (seqOf q.2 p.1).bind fun k2 => if k2.1 = k.1 then g q.2 k2.2 q.1 else none
def cntG : M1 := fun ρ ds b => match b with
  | .cl (.int k) => (intsOf ds).map fun ns => (.cl (.int (ns.count k : Nat)), ρ)
  | _ => none
def idxG : M1 := fun ρ ds b => match b with
  | .cl (.int k) => (intsOf ds).bind fun ns => if k ∈ ns then some (.cl (.int (ns.idxOf k : Nat)), ρ) else none
  | _ => none
section
variable {X : Cx} {tl : TL}
/-- the built-in answers so, asked of a tuple -/
theorem tup_cnt {pins : List (Addr × Obj)} {s : Shared} {σ : L2.St} {H : Hp} {Q : VK} {a : Addr} {ns : List Int} {k : Int} {t : Tok} (I : Inv X pins σ H s) (hs : TupD H a (ns.map V.int)) (q : Q (.int (ns.count k : Nat)) H) :
    wpAny (model X.prog X.w) X.A (call (.builtin "tuple.count") [.ref a, .int k t]) (EP X pins σ Q) X.xe s := by
  obtain ⟨us, ra, ⟨ob, ho, hc, n, hd⟩, hz⟩ := I.tuple (hs.sq (K := X.K))
  obtain ⟨cls, dd, data, sl⟩ := ob
  have hc' : cls = .type "tuple" := hc
  have hd' : data = .seq us.toArray n := hd
  subst hc' hd'
  have hi := ints_of_vals ra
  refine call_meets PySem.F.slot_tuple_count ⟨_, ho, rfl⟩ PySem.F.entry_tuple_count (PySem.F.args_tuple_count_2 _ _)
    (SeqAt.tuple_countAt a us.toArray n dd sl (.int k t) (eqk k)) ⟨ho, fun y hy => (eqk_gives hi y (by simpa using hy)).at _ _, ?_⟩
  have ec : us.toArray.toList.countP (eqk k) = ns.count k := eqk_count hi
  rw [ec]
  exact ⟨.int (ns.count k : Nat), H, I.tok _, ⟨s.toks, rfl⟩, q⟩
theorem tup_idx {pins : List (Addr × Obj)} {s : Shared} {σ : L2.St} {H : Hp} {Q : VK} {a : Addr} {ns : List Int} {k : Int} {t : Tok} (I : Inv X pins σ H s) (hs : TupD H a (ns.map V.int)) (hm : k ∈ ns) (q : Q (.int (ns.idxOf k : Nat)) H) :
    wpAny (model X.prog X.w) X.A (call (.builtin "tuple.index") [.ref a, .int k t]) (EP X pins σ Q) X.xe s := by
  obtain ⟨us, ra, pa, hz⟩ := I.tuple (hs.sq (K := X.K))
  exact PySem.SeqAt.tuple_index_ints (ns := ns) pa (ints_of_vals ra) hm ⟨.int _, H, I.tok _, ⟨_, rfl⟩, q⟩
theorem lst_idx {pins : List (Addr × Obj)} {s : Shared} {σ : L2.St} {H : Hp} {Q : VK} {a : Addr} {ns : List Int} {k : Int} {t : Tok} (I : Inv X pins σ H s) (hs : SqL (X.D tl) H a (ns.map V.int)) (hm : k ∈ ns) (q : Q (.int (ns.idxOf k : Nat)) H) :
    wpAny (model X.prog X.w) X.A (call (.builtin "list.index") [.ref a, .int k t]) (EP X pins σ Q) X.xe s := by
  obtain ⟨us, ra, pa, hz⟩ := I.list hs
  rw [List.length_map] at hz
  exact PySem.SeqAt.list_index_ints (ns := ns) pa.isList (ints_of_vals ra) hz hm ⟨.int _, H, I.tok _, ⟨_, rfl⟩, q⟩
/-- the answer, whatever the receiver is -/
def rNum (Ok : List Int → Int → Prop) (f : List Int → Int → Int) (At : Hp → Addr → List V → Prop) : V → List V → Hp → VK → Prop := fun x ys H Q => ∃ (a : Addr) (ns : List Int) (k : Int), x = .ref a ∧ ys = [.int k] ∧ At H a (ns.map V.int) ∧ Ok ns k ∧ Q (.int (f ns k)) H
theorem mt_cntT : MtR X "tuple.count" (rNum (fun _ _ => True) (fun ns k => (ns.count k : Nat)) TupD) := by
  intro pins s σ H x xs v us Q I rx rxs ⟨a, ns, k, e1, e2, hs, _, q⟩
  subst e1 e2
  cases rx
  obtain ⟨u, rfl, ru⟩ := rxs.one
  obtain ⟨t, rfl⟩ := ru
  exact tup_cnt I hs q
theorem mt_cntL : MtR X "list.count" (rNum (fun _ _ => True) (fun ns k => (ns.count k : Nat)) (SqL (X.D tl))) := fun pins s σ H x xs v us Q I rx rxs ⟨a, ns, k, e1, e2, hs, _, q⟩ =>
  mt_lcount pins s σ H x xs v us Q I rx rxs ⟨a, ns, k, e1, e2, hs, q⟩
theorem mt_idxT : MtR X "tuple.index" (rNum (fun ns k => k ∈ ns) (fun ns k => (ns.idxOf k : Nat)) TupD) := by
  intro pins s σ H x xs v us Q I rx rxs ⟨a, ns, k, e1, e2, hs, hm, q⟩
  subst e1 e2
  cases rx
  obtain ⟨u, rfl, ru⟩ := rxs.one
  obtain ⟨t, rfl⟩ := ru
  exact tup_idx I hs hm q
theorem mt_idxL : MtR X "list.index" (rNum (fun ns k => k ∈ ns) (fun ns k => (ns.idxOf k : Nat)) (SqL (X.D tl))) := by
  intro pins s σ H x xs v us Q I rx rxs ⟨a, ns, k, e1, e2, hs, hm, q⟩
  subst e1 e2
  cases rx
  obtain ⟨u, rfl, ru⟩ := rxs.one
  obtain ⟨t, rfl⟩ := ru
  exact lst_idx I hs hm q
def tTwo (K : Fg) (rL rT : V → List V → Hp → VK → Prop) (to : TE) (ta : TA) : TE := fun σ H Q => to σ H fun x H1 => (∃ a xs, x = V.ref a ∧ SqL K H1 a xs ∧ ta σ H1 fun ys H2 => rL x ys H2 Q) ∨ (∃ a xs, x = V.ref a ∧ TupD H1 a xs ∧ ta σ H1 fun ys H2 => rT x ys H2 Q)
theorem pe_two {o e : Expr} {name : Str} {idL idT : String} {to : TE} {ta : TA} {apos cpos : Pos} {rL rT : V → List V → Hp → VK → Prop} (slotL : Slot "list" name idL) (slotT : Slot "tuple" name idT) (tyL : typeOf (.builtin idL) = pure (.type "method_descriptor")) (tyT : typeOf (.builtin idT) = pure (.type "method_descriptor"))
    (hmL : MtR X idL rL) (hmT : MtR X idT rT) (ho : PE X o to) (ha : PA X [e] ta) (hb : attributeBase o name X.env (eval o X.env) = eval o X.env := by rfl)
    (hf : ((backTo cpos (starEach [e] X.env)).all (fun x => !x.1) && (backToKw cpos (keywordEach [] X.env)).all (fun x => x.1.isSome) && decide (([e] : List Expr).length + ([] : List Keyword).length + (if ([] : List Keyword).isEmpty then 0 else 1) < 30)) = true := by rfl)
    (hli : (apos.endLine == cpos.line) = true := by rfl) (hst : starEach [e] X.env = (false, eval e X.env) :: starEach [] X.env := by rfl) (hpl : (backTo cpos (starEach [] X.env)).any (·.1) = false := by rfl) :
    PE X (.Call (.Attribute o name apos) [e] [] cpos) (tTwo (X.D tl) rL rT to ta) := by
  refine ⟨fun pins s σ H Q I h => wpAny_Call_method_late hb hf hli rfl (thn (ho.run pins s σ H _ I h) fun v s1 ⟨x, H1, I1, r1, q1⟩ => ?_)⟩
  have run : ∀ {id : String} {r : V → List V → Hp → VK → Prop}, MtR X id r → (ta σ H1 fun ys H2 => r x ys H2 Q) → wpAny (model X.prog X.w) X.A (callWith cpos (.builtin id) [v] (backTo cpos (starEach [e] X.env)) []) (EP X pins σ Q) X.xe s1 := fun {id r} hm q2 => by
    have hA := ha.run cpos pins s1 σ H1 _ I1 q2
    rw [hst] at hA ⊢
    exact Calls.callWith_builtin (by show (false || (backTo cpos (starEach [] X.env)).any (·.1)) = false; rw [hpl]; rfl) (Calls.evalArgs_plain (thn hA fun us s2 ⟨vs, H2, I2, r2, q3⟩ => hm pins s2 σ H2 x vs v us Q I2 r1 r2 q3))
  rcases q1 with ⟨a, xs, rfl, h1, q2⟩ | ⟨a, xs, rfl, h1, q2⟩
  · cases r1
    obtain ⟨us, ra, ⟨ob, n, ho1, hc1, hd1, hs1⟩, hz⟩ := I1.list h1
    exact ⟨"list", idL, PySem.F.plainAttrs_list, slotL, tyL, ⟨ob, ho1, hc1⟩, fun b eb => by cases eb; exact ⟨ob, ho1, hd1⟩, run hmL q2⟩
  · cases r1
    obtain ⟨ob, ho1, hd1, hc1⟩ := h1.ob I1
    exact ⟨"tuple", idT, PySem.F.plainAttrs_tuple, slotT, tyT, ⟨ob, ho1, hc1⟩, fun b eb => by cases eb; exact ⟨ob, ho1, hd1⟩, run hmT q2⟩
/-- what such an answer hangs on -/
def NumG (Ok : List Int → Int → Prop) (f : List Int → Int → Int) (g : M1) : Prop := ∀ {ρ ρ' : DL.Env} {ds : List PyData} {b r : Val}, g ρ ds b = some (r, ρ') → ∃ ns k, b = .cl (.int k) ∧ intsOf ds = some ns ∧ Ok ns k ∧ r = .cl (.int (f ns k)) ∧ ρ' = ρ
theorem num_cnt : NumG (fun _ _ => True) (fun ns k => (ns.count k : Nat)) cntG := by
  intro ρ ρ' ds b r e
  unfold cntG at e
  split at e
  · obtain ⟨ns, e1, e2⟩ := Option.map_eq_some_iff.mp e
    cases e2
    exact ⟨ns, _, rfl, e1, trivial, rfl, rfl⟩
  · cases e
theorem num_idx : NumG (fun ns k => k ∈ ns) (fun ns k => (ns.idxOf k : Nat)) idxG := by
  intro ρ ρ' ds b r e
  unfold idxG at e
  split at e
  · obtain ⟨ns, e1, e2⟩ := Option.bind_eq_some_iff.mp e
    split at e2
    · rename_i hm
      cases e2
      exact ⟨ns, _, rfl, e1, hm, rfl, rfl⟩
    · cases e2
  · cases e
theorem two_core {Ok : List Int → Int → Prop} {f : List Int → Int → Int} {g : M1} (hg : NumG Ok f g) {f1 f2 : ED} {σ : L2.St} {H : Hp} {Q : VK} (h : RD (X.D tl) (metV f1 f2 g) σ H Q) :
    tTwo (X.D tl) (rNum Ok f (SqL (X.D tl))) (rNum Ok f TupD) (RD (X.D tl) f1) (RA (X.D tl) (acons f2 anil)) σ H Q := by
  obtain ⟨P, B, L, ρ, r, ρ', R0, e, c⟩ := h
  obtain ⟨⟨r1, ρ1⟩, e1, e⟩ := Option.bind_eq_some_iff.mp e
  obtain ⟨⟨k, ds0⟩, e2, e⟩ := Option.bind_eq_some_iff.mp e
  obtain ⟨⟨r2, ρ2⟩, e3, e⟩ := Option.bind_eq_some_iff.mp e
  obtain ⟨⟨k2, ds⟩, e4, e9⟩ := Option.bind_eq_some_iff.mp e
  replace e9 : (if k2 = k then g ρ2 ds r2 else none) = some (r, ρ') := e9
  replace e2 : seqOf ρ1 r1 = some (k, ds0) := e2
  replace e3 : f2 ρ1 = some (r2, ρ2) := e3
  replace e4 : seqOf ρ2 r1 = some (k2, ds) := e4
  by_cases hk : k2 = k
  · rw [if_pos hk] at e9
    subst hk
    obtain ⟨ns, j, rfl, ei, ok, rfl, rfl⟩ := hg e9
    refine ⟨P, B, L, ρ, r1, ρ1, R0, e1, fun x H1 La Ea p1 v1 => ?_⟩
    have args : ∀ {r' : V → List V → Hp → VK → Prop}, (∀ {H2 : Hp} {Lb Eb : List Addr}, Rep (X.D tl) (Eb ++ P) B Lb σ ρ' H2 → VR (X.D tl) Eb P B Lb σ H2 x r1 → Q (.int (f ns j)) H2 → r' x [.int j] H2 Q) → RA (X.D tl) (acons f2 anil) σ H1 fun ys H2 => r' x ys H2 Q := fun {r'} hr => by
      refine ⟨Ea ++ P, B, La, ρ1, [.cl (.int j)], ρ', p1.rep, by show (f2 ρ1).bind _ = _; rw [e3]; rfl, fun ys H2 Lb Eb p2 v2 => ?_⟩
      obtain ⟨y, rfl, vy⟩ := vrs_one v2
      have p12 := p1.two p2
      have vx := v1.later p1.rep p2
      rw [vy.int]
      exact hr p12.rep vx ((c.after p12).here p12.rep (show VR (X.D tl) _ P B Lb σ H2 _ (.cl (.int _)) from Dq.int _))
    cases k2 with
    | true =>
      obtain ⟨a, vs, rfl, h1, _⟩ := v1.list p1.rep e2
      refine .inl ⟨a, vs, rfl, .of h1, args fun R2 v2 q => ?_⟩
      obtain ⟨a2, ws, ea, h2, d2⟩ := v2.list R2 e4
      cases ea
      obtain ⟨rfl, _⟩ := ints_of d2 ei
      exact ⟨a, ns, j, rfl, rfl, .of h2, ok, q⟩
    | false =>
      obtain ⟨a, vs, rfl, h1, _⟩ := v1.tuple e2
      refine .inr ⟨a, vs, rfl, h1, args fun R2 v2 q => ?_⟩
      obtain ⟨a2, ws, ea, h2, d2⟩ := v2.tuple e4
      cases ea
      obtain ⟨rfl, _⟩ := ints_of d2 ei
      exact ⟨a, ns, j, rfl, rfl, h2, ok, q⟩
  · rw [if_neg hk] at e9
    cases e9
variable {o e : Expr} {f1 f2 : ED} {apos cpos : Pos}
theorem d_cnt (ho : PE X o (RD (X.D tl) f1)) (ha : PE X e (RD (X.D tl) f2)) (hb : attributeBase o "count" X.env (eval o X.env) = eval o X.env := by rfl)
    (hf : ((backTo cpos (starEach [e] X.env)).all (fun x => !x.1) && (backToKw cpos (keywordEach [] X.env)).all (fun x => x.1.isSome) && decide (([e] : List Expr).length + ([] : List Keyword).length + (if ([] : List Keyword).isEmpty then 0 else 1) < 30)) = true := by rfl)
    (hli : (apos.endLine == cpos.line) = true := by rfl) (hst : starEach [e] X.env = (false, eval e X.env) :: starEach [] X.env := by rfl) (hpl : (backTo cpos (starEach [] X.env)).any (·.1) = false := by rfl) :
    PE X (.Call (.Attribute o "count" apos) [e] [] cpos) (RD (X.D tl) (metV f1 f2 cntG)) :=
  (pe_two PySem.F.slot_list_count PySem.F.slot_tuple_count PySem.F.type_list_count PySem.F.type_tuple_count mt_cntL mt_cntT ho (a_cons ha a_nil hst) hb hf hli hst hpl).imp fun _ _ _ h => two_core num_cnt h
theorem d_idx (ho : PE X o (RD (X.D tl) f1)) (ha : PE X e (RD (X.D tl) f2)) (hb : attributeBase o "index" X.env (eval o X.env) = eval o X.env := by rfl)
    (hf : ((backTo cpos (starEach [e] X.env)).all (fun x => !x.1) && (backToKw cpos (keywordEach [] X.env)).all (fun x => x.1.isSome) && decide (([e] : List Expr).length + ([] : List Keyword).length + (if ([] : List Keyword).isEmpty then 0 else 1) < 30)) = true := by rfl)
    (hli : (apos.endLine == cpos.line) = true := by rfl) (hst : starEach [e] X.env = (false, eval e X.env) :: starEach [] X.env := by rfl) (hpl : (backTo cpos (starEach [] X.env)).any (·.1) = false := by rfl) :
    PE X (.Call (.Attribute o "index" apos) [e] [] cpos) (RD (X.D tl) (metV f1 f2 idxG)) :=
  (pe_two PySem.F.slot_list_index PySem.F.slot_tuple_index PySem.F.type_list_index PySem.F.type_tuple_index mt_idxL mt_idxT ho (a_cons ha a_nil hst) hb hf hli hst hpl).imp fun _ _ _ h => two_core num_idx h
end
end DL
end
noncomputable section
namespace DL
open PySem PySem.Spec PyProof.Rows L2

/-! ### sorted(x): what x tells, in a new list -/
section
variable {prog : Program} {w : World} {A : Around} {E : Value → Shared → Prop} {s : Shared}
/-- x tells items that are so; older objects stay -/
def Tells (prog : Program) (w : World) (A : Around) (E : Value → Shared → Prop) (s : Shared) (x : Value) (R : List Value → Prop) : Prop :=
  ∀ Q : List Value → Shared → Prop, (∀ (h' : Heap) (tk : Nat) (vs : List Value), (∀ b o, s.heap.get? b = some o → h'.get? b = some o) → R vs → Q vs { s with heap := h', toks := tk }) → wpAny (model prog w) A (collect x) Q E s
theorem sorted_from {x : Value} {R : List Value → Prop} {kw : List (Str × Value)} {Q : Value → Shared → Prop} (hL : ∀ vs, R vs → vs.length ≤ sizeLine) (ha1 : argsOk "sorted" ⟨[x], kw⟩) (ha2 : ∀ x, argsOk "list.sort" ⟨[.ref x], kw⟩) (col : Tells prog w A.in1 E s x R)
    (body : ∀ (h' : Heap) (tk : Nat) (vs : List Value) (E' : Value → Shared → Prop), (∀ b o, s.heap.get? b = some o → h'.get? b = some o) → R vs →
      wpAny (model prog w) A.in1.in1 (Builtin.«list.sort» ⟨[.ref h'.objs.size], kw⟩) (fun f s' => f = .done (.ret .none) ∧ Q (.ref h'.objs.size) s') E' { s with heap := h'.push (seqObj "list" vs.toArray 0), toks := tk }) :
    wpAny (model prog w) A (call (.builtin "sorted") [x] kw) Q E s := by
  refine call_function_entry_kw kind_sorted plain_sorted entry_sorted ha1 ?_
  unfold Builtin.«sorted»
  refine wpAny_bind (m := checkCount "sorted" 1 1 _) (wpAny_pure ?_)
  refine wpAny_bind (col _ fun h' tk vs kp hR => ?_)
  refine wpAny_bind (wpAny_newList ?_ (hL vs hR))
  refine wpAny_bind (wpAny_holding (wpAny_call_entry_kw PyProof.Rows.slot_list_sort ⟨_, Heap.get?_push_size _ rfl, rfl⟩ PyProof.Rows.entry_list_sort ?_ (ha2 _)))
  refine wpAny_mono (body h' tk vs _ kp hR) (fun f s' hf => ?_) fun _ _ e => e
  obtain ⟨rfl, hq⟩ := hf
  exact ⟨_, rfl, wpAny_pure ⟨_, rfl, hq⟩⟩
end
/-! ### whole numbers, sorted -/
def sortI (ns : List Int) : List Int := ns.mergeSort (fun a b => decide (a ≤ b))
theorem sortI_perm (ns : List Int) : (sortI ns).Perm ns := List.mergeSort_perm ..
theorem sortI_pair (ns : List Int) : (sortI ns).Pairwise (· ≤ ·) := by
  have := List.pairwise_mergeSort (le := fun a b : Int => decide (a ≤ b)) (fun a b c h1 h2 => by simp at *; omega) (fun a b => by simp; omega) ns
  exact this.imp fun h => by simpa using h
theorem sorted_one : ∀ {l m : List Int}, l.Perm m → l.Pairwise (· ≤ ·) → m.Pairwise (· ≤ ·) → l = m
  | [], m, p, _, _ => (List.Perm.nil_eq p)
  | a :: l, [], p, _, _ => absurd p.length_eq (by simp)
  | a :: l, b :: m, p, h1, h2 => by
    have ha : a ∈ b :: m := p.mem_iff.mp (List.mem_cons_self ..)
    have hb : b ∈ a :: l := p.mem_iff.mpr (List.mem_cons_self ..)
    have e1 : b ≤ a := by
      rcases List.mem_cons.mp ha with z | z
      · omega
      · exact (List.pairwise_cons.mp h2).1 a z
    have e2 : a ≤ b := by
      rcases List.mem_cons.mp hb with z | z
      · omega
      · exact (List.pairwise_cons.mp h1).1 b z
    have e : a = b := by omega
    subst e
    rw [sorted_one ((List.perm_cons a).mp p) (List.pairwise_cons.mp h1).2 (List.pairwise_cons.mp h2).2]
section
variable {X : Cx} {tl : TL} {pins : List (Addr × Obj)} {s : Shared} {σ : L2.St} {H : Hp} {Q : VK}
theorem sorted_ints {x : Value} {ns : List Int} (I : Inv X pins σ H s) (hz : ns.length ≤ sizeLine) (col : Tells X.prog X.w X.A.in1 X.xe s x fun us => IntsAre us ns) (q : ∀ p, H p = none → Q (.ref p) (upd H p (.lst ((sortI ns).map V.int)))) :
    wpAny (model X.prog X.w) X.A (call (.builtin "sorted") [x]) (EP X pins σ Q) X.xe s := by
  refine sorted_from (R := fun us => IntsAre us ns) (fun us hi => by rw [hi.length]; exact hz) (args_sorted1 _) (fun _ => PyProof.Rows.args_list_sort _) col fun h' tk us E' kp hi => ?_
  have hob : (h'.push (seqObj "list" us.toArray 0)).get? h'.objs.size = some (seqObj "list" us.toArray 0) := Heap.get?_push_size _ rfl
  refine SrtO.list_sort_ord SrtO.swo_int hob (by rw [hi.length]; exact hz) (fun h2 => SrtO.ints_sortable hi h2) fun out h1 h2 => ⟨rfl, ?_⟩
  obtain ⟨k1, k2, k3⟩ := SrtO.ints_out hi h1 h2
  obtain ⟨ep, he⟩ := PyProof.Rows.sortedHeap_at (vs := us) (out := out.toArray) hob
  have e1 : out.map SrtO.iv = sortI ns := sorted_one (k2.trans (sortI_perm ns).symm) k3 (sortI_pair ns)
  have I1 : Inv X pins σ H { s with heap := h', toks := tk } := I.kept kp
  rw [e1] at k1
  refine ⟨.ref _, upd H h'.objs.size (.lst ((sortI ns).map V.int)), I1.laid (t' := tk) (fun b o e => ?_) (Nat.le_refl _) ⟨?_, out, ep, vals_of_ints k1, he⟩, rfl, q _ (I1.hok.fresh (Nat.le_refl _))⟩
  · have hlt := Heap.lt_size e
    show (PyProof.Rows.sortedHeap (h'.push (seqObj "list" us.toArray 0)) h'.objs.size us out.toArray).get? b = some o
    rw [PyProof.Rows.sortedHeap_old (Nat.ne_of_lt hlt) (by rw [size_push']; exact Nat.lt_succ_of_lt hlt)]
    exact Heap.get?_push_of_some _ e
  · rw [List.length_map, (sortI_perm ns).length_eq]; exact hz
theorem tells_num {x : V} {v : Value} {ns : List Int} {A : Around} {E : Value → Shared → Prop} (I : Inv X pins σ H s) (r : RelV x v) (h : NumV (X.D tl) H x ns) : Tells X.prog X.w A E s v (fun us => IntsAre us ns) ∧ ns.length ≤ sizeLine := by
  obtain ⟨a, rfl, h1 | h1⟩ := h
  · cases r
    obtain ⟨us, ra, ⟨ob, n, ho, hc, hd, hs⟩, hz⟩ := I.list h1
    have hl := ra.length
    rw [List.length_map] at hz hl
    exact ⟨fun Q q => wpAny_collect_seq a (.inl rfl) ho hc hs (fun h' kp => by rw [List.toList_toArray]; exact q h' s.toks us kp (ints_of_vals ra)) (by rw [List.size_toArray]; omega), hz⟩
  · cases r
    obtain ⟨us, ra, ⟨ob, ho, hc, n, hs⟩, hz⟩ := I.tuple h1
    have hl := ra.length
    rw [List.length_map] at hz hl
    exact ⟨fun Q q => wpAny_collect_seq a (.inr rfl) ho hc hs (fun h' kp => by rw [List.toList_toArray]; exact q h' s.toks us kp (ints_of_vals ra)) (by rw [List.size_toArray]; omega), hz⟩
def rSortA (K : Fg) : V → Hp → VK → Prop := fun x H Q => ∃ ns, NumV K H x ns ∧ ∀ p, H p = none → Q (.ref p) (upd H p (.lst ((sortI ns).map V.int)))
theorem c_sorted : CallR X (.builtin "sorted") (fun xs H Q => ∃ x, xs = [x] ∧ rSortA (X.D tl) x H Q) := by
  intro pins s σ H vs us Q I r ⟨x, e, ns, h, q⟩
  subst e
  obtain ⟨u, rfl, ru⟩ := r.one
  obtain ⟨t, hz⟩ := tells_num (A := X.A.in1) (E := X.xe) I ru h
  exact sorted_ints I hz t q
end
def sortG : DL.Env → Val → Option (Val × DL.Env) := fun ρ a => (seqOf ρ a).bind fun q => (intsOf q.2).map fun ns => (.own ((sortI ns).map .int), ρ)
theorem loc_sorted {K : Fg} : Loc1 K (rSortA K) sortG := by
  intro E P B L σ ρ ρ' H x r1 r Q R0 v1 e c
  obtain ⟨⟨k, ds⟩, e1, e2⟩ := Option.bind_eq_some_iff.mp e
  obtain ⟨ns, e3, e4⟩ := Option.map_eq_some_iff.mp e2
  cases e4
  exact ⟨ns, v1.nums R0 e1 e3, fun p hp => c.lst R0 (DqA.of_ints _) hp⟩
end DL
end
noncomputable section
namespace DL
open PySem PySem.Spec PyProof.Rows L2

/-! ### x in xs, of flat things -/
def flatOf : PyData → Option V
  | .none => some .non
  | .bool b => some (.bl b)
  | .int i => some (.int i)
  | .str x => some (.str x)
  | _ => none
def flatsOf : List PyData → Option (List V)
  | [] => some []
  | d :: ds => (flatOf d).bind fun v => (flatsOf ds).map (v :: ·)
theorem flat_of {K : Fg} {H : Hp} {W : List Addr} {v u : V} {d : PyData} (h : Dq K H W v d) (e : flatOf d = some u) : v = u ∧ flatV v = true := by
  cases h <;> simp [flatOf] at e <;> subst e <;> exact ⟨rfl, rfl⟩
theorem flats_of {K : Fg} {H : Hp} {W : List Addr} : ∀ {vs us : List V} {ds : List PyData}, DqA K H W vs ds → flatsOf ds = some us → vs = us ∧ vs.all flatV = true
  | _, us, [], h, e => by cases h; cases e; exact ⟨rfl, rfl⟩
  | _, us, d :: ds, h, e => by
    cases h with
    | cons h1 h2 =>
      obtain ⟨u, e1, e⟩ := Option.bind_eq_some_iff.mp e
      obtain ⟨ws, e2, e3⟩ := Option.map_eq_some_iff.mp e
      subst e3
      obtain ⟨rfl, f1⟩ := flat_of h1 e1
      obtain ⟨rfl, f2⟩ := flats_of h2 e2
      exact ⟨rfl, by rw [List.all_cons, f1, f2]; rfl⟩
def inG (neg : Bool) : DL.Env → Val → Val → Option (Val × DL.Env) := fun ρ a b => match a with
  | .cl d => (flatOf d).bind fun x => (seqOf ρ b).bind fun q => (flatsOf q.2).map fun xs => (.cl (.bool (if neg then !inV x xs else inV x xs)), ρ)
  | _ => none
theorem loc_in {K : Fg} {neg : Bool} : Loc2 K (rIn K neg) (inG neg) := by
  intro E P B L σ ρ ρ' H x y r1 r2 r Q R0 v1 v2 e c
  unfold inG at e
  split at e
  · rename_i d
    obtain ⟨u, e1, e⟩ := Option.bind_eq_some_iff.mp e
    obtain ⟨⟨k, ds⟩, e2, e⟩ := Option.bind_eq_some_iff.mp e
    obtain ⟨us, e3, e4⟩ := Option.map_eq_some_iff.mp e
    cases e4
    obtain ⟨rfl, f1⟩ := flat_of (show Dq K H _ x d from v1) e1
    have k2 : VR K E P B L σ H (.bl (if neg then !inV x us else inV x us)) (.cl (.bool (if neg then !inV x us else inV x us))) := Dq.bl _
    cases k with
    | true =>
      obtain ⟨a, vs, rfl, h1, d1⟩ := v2.list R0 e2
      obtain ⟨rfl, f2⟩ := flats_of d1 e3
      exact ⟨a, vs, rfl, .inl (.of h1), f1, f2, c.here R0 k2⟩
    | false =>
      obtain ⟨a, vs, rfl, h1, d1⟩ := v2.tuple e2
      obtain ⟨rfl, f2⟩ := flats_of d1 e3
      exact ⟨a, vs, rfl, .inr h1.sq, f1, f2, c.here R0 k2⟩
  · cases e
end DL
end
noncomputable section
namespace DL
open PySem PySem.Spec PyProof.Rows L2

/-! ### a, xs[k] = e, f -/
def itemSt (ρ : DL.Env) (j k : Nat) (d : PyData) : Option Out := match ρ.getD k .no, opAt ρ j with
  | .cl (.int i), some (kk, ds) => (ixN ds.length i).bind fun m => some (.nx (opSet ρ j kk (ds.set m d)))
  | _, _ => none
def asgNS (i j k : Nat) (t : AD) : SD := fun ρ => (t ρ).bind fun p => (psAll p.2 p.1).bind fun q => match q.1 with
  | [d1, d2] => itemSt (q.2.set i (.cl d1)) j k d2
  | _ => none
section
variable {X : Cx} {tl : TL} {t : AD} {pos : Pos}
theorem asgNS_core {i j k : Nat} {D : Ends} {σ : L2.St} {H : Hp} (h : RS (X.D tl) (asgNS i j k t) D σ H) :
    tAsg (tTupF (RA (X.D tl) t)) (gTup (X.D tl) 2 (gCons (gName i) (gCons (gSub (tVar j) (tVar k) rSetL) gNil))) D σ H := by
  have ll := lim_line
  obtain ⟨P, B, L, ρ, o, R0, e, c⟩ := h
  obtain ⟨⟨rs, ρ1⟩, e1, e⟩ := Option.bind_eq_some_iff.mp e
  obtain ⟨⟨ds, ρ2⟩, e2, e⟩ := Option.bind_eq_some_iff.mp e
  simp only at e
  split at e
  · rename_i _ d1 d2
    refine ⟨P, B, L, ρ, rs, ρ1, R0, e1, fun xs H1 La Ea p1 v1 => ?_⟩
    obtain ⟨E', L', R1, dq, es, ls⟩ := psAll_of p1.rep v1 e2
    have pl := Post.less (K := (X.D tl)) R1 es ls
    cases dq with
    | cons h1 dq =>
    cases dq with
    | cons h2 dq =>
    cases dq
    rename_i x1 x2
    refine ⟨by show 2 ≤ sizeLine; rw [sizeLine_eq]; decide, fun p ob hp po => ?_⟩
    have kp : Keep [] H1 (upd H1 p (.frz ob (.tup [x1, x2]))) := Keep.new hp
    have R2 : Rep (X.D tl) P B L' σ ρ2 (upd H1 p (.frz ob (.tup [x1, x2]))) := R1.drop.same kp
    have sub : ∀ a ∈ P ++ B ++ L', a ∈ E' ++ P ++ B ++ L' := fun a z => by
      simp only [List.mem_append] at z ⊢
      rcases z with (z | z) | z
      · exact .inl (.inl (.inr z))
      · exact .inl (.inr z)
      · exact .inr z
    have g1 : Dq (X.D tl) (upd H1 p (.frz ob (.tup [x1, x2]))) (P ++ B ++ L') x1 d1 := (h1.sub sub).move lists_nil (fun _ z => nomatch z) kp fun _ z => .inl z
    have g2 : Dq (X.D tl) (upd H1 p (.frz ob (.tup [x1, x2]))) (P ++ B ++ L') x2 d2 := (h2.sub sub).move lists_nil (fun _ z => nomatch z) kp fun _ z => .inl z
    have R3 := R2.setCl i g1
    unfold itemSt at e
    split at e
    · rename_i iv kk es' ek eo
      obtain ⟨m, em, e⟩ := Option.bind_eq_some_iff.mp e
      cases e
      obtain ⟨l, us, el, _, _, hl, dl, _⟩ := opAt_of R3 eo
      have ck := R3.ok k
      rw [ek] at ck
      obtain ⟨v, ev, dv⟩ := ck
      cases dv
      obtain ⟨R4, s4, _⟩ := R3.write eo el (dl.set g2 m)
      refine ⟨p, [x1, x2], rfl, .inl (.inr ⟨ob, upd_same⟩), rfl, x1, [x2], rfl, x2, [], rfl, .ref l, el, .int iv, ev, l, us, iv, m, rfl, rfl, hl, by rw [dl.length]; exact em, rfl, ?_⟩
      exact c _ _ L' R4 (((p1.step.trans pl.step).trans (Step.of_same kp)).trans s4)
    · cases e
  · cases e
theorem s_asgNS (i j k : Nat) {x y z : Str} {u v : Expr} {px py pz ps pt : Pos} {kt k2 : Nat} {pt2 : Pos} (hc : X.calm = true) (ha : PA X [u, v] (RA (X.D tl) t)) (hg : PG X (.Name x px) (gName i))
    (hj : X.N[j]? = some y := by rfl) (vj : Vis X.env.scope y := by first | exact Or.inl rfl | exact Or.inr (Or.inl rfl) | exact Or.inr (Or.inr rfl)) (dj : (y == ("__debug__" : Str)) = false := by decide) (cj : (y == ("__classdict__" : Str)) = false := by decide)
    (hk : X.N[k]? = some z := by rfl) (vk : Vis X.env.scope z := by first | exact Or.inl rfl | exact Or.inr (Or.inl rfl) | exact Or.inr (Or.inr rfl)) (dk : (z == ("__debug__" : Str)) = false := by decide) (ck : (z == ("__classdict__" : Str)) = false := by decide)
    (as : ∀ v, assign (.Subscript (.Name y py) (.Name z pz) ps) X.env v = (do
      let ov ← holding [v] (eval (.Name y py) X.env)
      let iv ← holding [v, ov] (eval (.Name z pz) X.env)
      standAt ps
      holding [v, ov, iv] (setItem ov iv v)
      release [v, ov, iv] []) := by intro _; rfl)
    (hn : (assignEach [.Name x px, .Subscript (.Name y py) (.Name z pz) ps] X.env).length = 2 := by rfl) (hst : (assignEach [.Name x px, .Subscript (.Name y py) (.Name z pz) ps] X.env).findIdx? (·.1) = none := by rfl)
    (hs : swapsWithSole [.Tuple [.Name x px, .Subscript (.Name y py) (.Name z pz) ps] kt pt] (.Tuple [u, v] k2 pt2) pos.line X.env = pure false := by rfl) (hw : swappedStores [.Tuple [.Name x px, .Subscript (.Name y py) (.Name z pz) ps] kt pt] (.Tuple [u, v] k2 pt2) X.env = pure none := by rfl)
    (h1 : (assignEach [.Tuple [.Name x px, .Subscript (.Name y py) (.Name z pz) ps] kt pt] X.env).map (·.2) = [assign (.Tuple [.Name x px, .Subscript (.Name y py) (.Name z pz) ps] kt pt) X.env] := by rfl) :
    PS X (.Assign [.Tuple [.Name x px, .Subscript (.Name y py) (.Name z pz) ps] kt pt] (.Tuple [u, v] k2 pt2) pos) (RS (X.D tl) (asgNS i j k t)) :=
  (ps_asg (pe_tupF ha) (pg_tup hc (pgs_cons hg (pgs_cons (pg_sub (pe_var hj vj dj cj) (pe_var hk vk dk ck) set_list as) pgs_nil)) hn hst) hs hw h1).imp fun _ _ _ h => asgNS_core h
end
end DL
end
noncomputable section
namespace DL
open PySem PySem.Spec PyProof.Rows L2

/-! ### set(xs), xs a list of whole numbers -/
abbrev freshSet (w : World) : Obj := { cls := .type "set", dict := none, data := .set #[] 0 (.fresh 0 0 (!w.params.followText "set-order")) }
section
variable {P : Program} {w : World} {A : Around} {E : Value → Shared → Prop} {s : Shared}
set_option maxHeartbeats 3200000 in
/-- filled from the list -/
theorem set_fill {l : Addr} {items : Array Value} (ns : List Int) {R : PySem.Fin → Shared → Prop} (hh : A.handled = none) (hl : s.heap.IsList l items) (hit : IntsAre items.toList ns) (hb : ns.length + 1 < scanBound)
    (h : ∀ (h' : Heap) (tk c : Nat), SetR w h' s.heap.objs.size (fun j => decide (j ∈ ns)) c → c ≤ ns.length → (∀ b o, s.heap.get? b = some o → h'.get? b = some o) → R (.done (.ret .none)) { s with heap := h', toks := tk }) :
    wpAny (model P w) A (Builtin.«set.__init__» ⟨[.ref s.heap.objs.size, .ref l], []⟩) R E { s with heap := s.heap.push (freshSet w) } := by
  have hn : items.size = ns.length := by rw [← hit.length, Array.length_toList]
  obtain ⟨⟨c0, d0, data0, sl0⟩, ho, hc, nl, hd⟩ := hl
  have hc' : c0 = .type "list" := hc
  have hd' : data0 = .seq items nl := hd
  subst hc' hd'
  have lt : l < s.heap.objs.size := Heap.lt_size ho
  have at1 : (s.heap.push (freshSet w)).get? l = some { cls := .type "list", dict := d0, data := .seq items nl, slots := sl0 } := Heap.get?_push_of_some _ ho
  have atS : (s.heap.push (freshSet w)).get? s.heap.objs.size = some (freshSet w) := Heap.get?_push_size _ rfl
  have lst1 : (s.heap.push (freshSet w)).IsList l items := ⟨_, at1, rfl, nl, rfl⟩
  have f1 := F.sub_list_set
  have f2 := F.sub_list_frozenset
  have f3 : (Value.type "list" == Value.type "dict") = false := by decide
  unfold Builtin.«set.__init__» noKeywords Builtin.Frozenset.updateFrom
  generalize hPI : pyIter = PI
  wp_walk
  subst hPI
  refine wpAny_pyIter_list lst1 (wpAny_bind (wpAny_runValue ?_))
  have sz : (s.heap.push (freshSet w)).objs.size = s.heap.objs.size + 1 := Heap.size_push ..
  have ne1 : l ≠ (s.heap.push (freshSet w)).objs.size := by
    rw [sz]
    exact Nat.ne_of_lt (Nat.lt_succ_of_lt lt)
  have out : s.heap.objs.size ∉ [(s.heap.push (freshSet w)).objs.size, l] := by
    rw [sz]
    simp only [List.mem_cons, List.not_mem_nil, or_false, not_or]
    exact ⟨Nat.ne_of_lt (Nat.lt_succ_self _), Nat.ne_of_gt lt⟩
  have val : ∀ (i : Nat) (v : Value), items[i]? = some v → ∃ k t, ns[i]? = some k ∧ v = .int k t := fun i v hv => by
    have hi : i < ns.length := by rw [← hn]; exact (Array.getElem?_eq_some_iff.mp hv).1
    obtain ⟨t, e⟩ := PyProof.Rows.IntsAre.int_at hit i v (by rw [Array.getElem?_toList]; exact hv)
    exact ⟨ns[i], t, List.getElem?_eq_getElem hi, by rw [e, List.getD_eq_getElem?_getD, List.getElem?_eq_getElem hi]; rfl⟩
  refine set_update_ints ((Walks.list (by simp [hh]) _ l ne1 items).toS) s.heap.objs.size out ns hn hb val (items.size - 0) 0 _ (by omega) (Nat.zero_le _) ⟨⟨_, Heap.get?_push_size _ rfl, rfl, rfl⟩, lst1.push _⟩
    ⟨0, Nat.le_refl 0, setR_new_at (Heap.get?_push_of_some _ atS)⟩ fun s' c hm hc9 hS9 => ?_
  obtain ⟨h', g2, d', tk', os'⟩ := s'
  have eg : g2 = s.gens := hm.gens
  have ed : d' = s.drawn := hm.drawn
  have eo : os' = s.os := hm.os
  subst eg ed eo
  rw [hn] at hc9
  refine wpAny_pure (wpAny_pure (h h' tk' c hS9 hc9 fun b o e => ?_))
  have b0 : b < s.heap.objs.size := Heap.lt_size e
  refine hm.heap b o ?_ (Heap.get?_push_of_some _ (Heap.get?_push_of_some _ e))
  rw [sz]
  simp only [List.mem_cons, List.not_mem_nil, or_false, not_or]
  exact ⟨Nat.ne_of_lt b0, Nat.ne_of_lt (Nat.lt_succ_of_lt b0)⟩
set_option maxHeartbeats 3200000 in
theorem set_of_list {l : Addr} {items : Array Value} (ns : List Int) {Q : Value → Shared → Prop} (hh : A.handled = none) (hl : s.heap.IsList l items) (hit : IntsAre items.toList ns) (hb : ns.length + 1 < scanBound)
    (q : ∀ (h' : Heap) (tk c : Nat), SetR w h' s.heap.objs.size (fun j => decide (j ∈ ns)) c → c ≤ ns.length → (∀ b o, s.heap.get? b = some o → h'.get? b = some o) → Q (.ref s.heap.objs.size) { s with heap := h', toks := tk }) :
    wpAny (model P w) A (call (.type "set") [.ref l]) Q E s := by
  obtain ⟨c0, tl, mro⟩ := F.called_set.mro
  have m1 := F.called_set.made
  have m2 := F.called_set.sub
  have m3 := F.called_set.notType
  have m4 := F.called_set.canCreate
  have m5 := F.typeCall_set_1 (.ref l)
  refine wpAny_call (codeAny_of_tree ?_)
  show wpAny _ _ (callAny (.type "set") _) _ _ _
  refine wpAny_pure ⟨Code.quiet_builtin _ (by decide +kernel), codeAny_builtin F.entry_type_call ?_⟩
  rw [Around.under_plain (weight_type_call_type "set" [.ref l] []) rfl]
  repeat (any_goals (first | assumption | wp_step))
  refine codeAny_mono (code_set_led1 (.ref l) (E := E) (Q₁ := fun v s1 => v = .ref s.heap.objs.size ∧ s1 = { s with heap := s.heap.push (freshSet w) }) ⟨rfl, rfl⟩) fun r s1 hr => ?_
  rcases r with e | fl
  · exact hr
  · cases fl with
    | ret v =>
      obtain ⟨rfl, rfl⟩ := hr
      have hS : (s.heap.push (freshSet w)).get? s.heap.objs.size = some (freshSet w) := Heap.get?_push_size _ rfl
      have hT : Shared.TypeIs { s with heap := s.heap.push (freshSet w) } (.ref s.heap.objs.size) "set" := ⟨_, hS, rfl⟩
      have i1 := F.called_set.init.lookup
      have i2 := F.called_set.init.bind (.ref s.heap.objs.size)
      repeat (any_goals (first | assumption | wp_step))
      refine codeAny_mono (codeAny_call_builtin (R := wants (fun v2 s2 => v2 = .none ∧ ∃ (h' : Heap) (tk c : Nat), s2 = { s with heap := h', toks := tk } ∧ SetR w h' s.heap.objs.size (fun j => decide (j ∈ ns)) c ∧ c ≤ ns.length ∧ ∀ b o, s.heap.get? b = some o → h'.get? b = some o) E)
        F.called_set.init.plain F.entry_set_init (check_set_init_1 hT (set_fill ns (by simp [hh]) hl hit hb fun h' tk c g1 g2 g3 => ⟨rfl, h', tk, c, rfl, g1, g2, g3⟩))) fun r2 s2 h2 => ?_
      rcases r2 with e | f2
      · exact h2
      · cases f2 with
        | ret v2 =>
          obtain ⟨rfl, h', tk, c, rfl, g1, g2, g3⟩ := h2
          repeat (any_goals (first | assumption | wp_step))
          exact q _ _ _ g1 g2 g3
        | _ => exact h2.elim
    | _ => exact hr.elim
end
/-! ### each once, sorted -/
def dd : List Int → List Int
  | [] => []
  | x :: xs => if x ∈ dd xs then dd xs else x :: dd xs
theorem dd_mem {k : Int} : ∀ {ns : List Int}, k ∈ dd ns ↔ k ∈ ns
  | [] => Iff.rfl
  | x :: xs => by
    have ih := dd_mem (k := k) (ns := xs)
    unfold dd
    split
    · rename_i h
      have hx := dd_mem (k := x) (ns := xs)
      rw [ih, List.mem_cons]
      constructor
      · exact .inr
      · rintro (rfl | z)
        · exact hx.mp h
        · exact z
    · rw [List.mem_cons, List.mem_cons, ih]
theorem dd_nodup : ∀ (ns : List Int), (dd ns).Nodup
  | [] => List.nodup_nil
  | x :: xs => by
    unfold dd
    split
    · exact dd_nodup xs
    · rename_i h
      exact List.nodup_cons.mpr ⟨h, dd_nodup xs⟩
def sortU (ns : List Int) : List Int := sortI (dd ns)
theorem sortU_mem {k : Int} {ns : List Int} : k ∈ sortU ns ↔ k ∈ ns := ((sortI_perm (dd ns)).mem_iff).trans dd_mem
theorem sortU_of {ns l : List Int} (h1 : l.Pairwise (· < ·)) (h2 : ∀ k, k ∈ l ↔ k ∈ ns) : l = sortU ns := by
  have n1 : l.Nodup := h1.imp fun h => by omega
  have n2 : (sortU ns).Nodup := (sortI_perm (dd ns)).nodup_iff.mpr (dd_nodup ns)
  exact sorted_one ((List.perm_ext_iff_of_nodup n1 n2).mpr fun k => (h2 k).trans sortU_mem.symm) (h1.imp fun h => by omega) (sortI_pair _)
theorem setR_count {w : World} {h : Heap} {a : Addr} {ns : List Int} {c : Nat} (R : SetR w h a (fun j => decide (j ∈ ns)) c) : c = (dd ns).length := by
  obtain ⟨o, es, ep, t, _, _, _, _, nd, hm, _, _, hn, _⟩ := R
  have p : (es.toList.map keyOf).Perm (dd ns) := (List.perm_ext_iff_of_nodup nd (dd_nodup ns)).mpr fun k => by rw [dd_mem, ← hm k]; simp
  rw [← p.length_eq, List.length_map, Array.length_toList, hn]
section
variable {X : Cx} {tl : TL}
def rSetL (K : Fg) (w : World) : List V → Hp → VK → Prop := fun xs H Q => ∃ (a : Addr) (ns : List Int), xs = [.ref a] ∧ SqL K H a (ns.map V.int) ∧ ns.length ≤ 4000 ∧ ∀ p, H p = none → Q (.ref p) (upd H p (SetO w p (fun j => decide (j ∈ ns)) (dd ns).length))
theorem cr_setL (hc : X.calm = true) : CallR X (.type "set") (rSetL (X.D tl) X.w) := by
  intro pins s σ H xs us Q I r ⟨a, ns, e, hs, hz, q⟩
  subst e
  rw [Vals.ref1 r]
  obtain ⟨ws, ra, pa, _⟩ := I.list hs
  refine set_of_list ns (I.ok.hd hc) pa.isList (by simpa using ra.ints) (by unfold scanBound; omega) fun h' tk c R hc9 kp => ?_
  have ec := setR_count R
  subst ec
  exact ⟨.ref s.heap.objs.size, upd H s.heap.objs.size (SetO X.w s.heap.objs.size (fun j => decide (j ∈ ns)) (dd ns).length), I.laid (t' := tk) kp (Nat.le_refl _) (setO_new R), rfl, q _ (I.hok.fresh (Nat.le_refl _))⟩
def uniG : DL.Env → Val → Option (Val × DL.Env) := fun ρ a => match seqOf ρ a with
  | some (true, ds) => (intsOf ds).bind fun ns => if ns.length ≤ 4000 ∧ (dd ns).length < 64 then some (.own ((sortU ns).map .int), ρ) else none
  | _ => none
theorem d_sortSet {e : Expr} {f : ED} {p p2 pos pos2 : Pos} (hc : X.calm = true) (hg : Gl X "sorted") (hm : X.mg "sorted" = none) (hg2 : Gl X "set") (hm2 : X.mg "set" = none) (ha : PE X e (RD (X.D tl) f)) (he : starEach [e] X.env = (false, eval e X.env) :: starEach [] X.env := by rfl) (hpl : (backTo pos2 (starEach [] X.env)).any (·.1) = false := by rfl)
    (he2 : starEach [.Call (.Name "set" p2) [e] [] pos2] X.env = (false, eval (.Call (.Name "set" p2) [e] [] pos2) X.env) :: starEach [] X.env := by rfl) (hpl2 : (backTo pos (starEach [] X.env)).any (·.1) = false := by rfl) :
    PE X (.Call (.Name "sorted" p) [.Call (.Name "set" p2) [e] [] pos2] [] pos) (RD (X.D tl) (unD f uniG)) :=
  (pe_callB (cr_sortedSet hc) hg hm boot_sorted (pa_cons (pe_callTy (cr_setL (tl := tl) hc) hg2 hm2 boot_set (pa_cons ha pa_nil he) (by decide) (by decide) he hpl) pa_nil he2) (by decide) (by decide) he2 hpl2).imp fun σ H Q h => by
    obtain ⟨P, B, L, ρ, r, ρ', R0, e0, c⟩ := h
    obtain ⟨⟨r1, ρ1⟩, e1, e2⟩ := Option.bind_eq_some_iff.mp e0
    refine ⟨P, B, L, ρ, r1, ρ1, R0, e1, fun x H1 La Ea p1 v1 => ?_⟩
    simp only [uniG] at e2
    split at e2
    · rename_i ds e3
      obtain ⟨ns, e4, e5⟩ := Option.bind_eq_some_iff.mp e2
      split at e5
      · rename_i hz
        cases e5
        obtain ⟨a, vs, rfl, h1, d1⟩ := v1.list p1.rep e3
        obtain ⟨rfl, _⟩ := ints_of d1 e4
        refine ⟨a, ns, rfl, .of h1, hz.1, fun q hq => ⟨q, _, _, rfl, upd_same, hz.2, fun l p' g1 g2 _ hp' => ?_⟩⟩
        have el : l = sortU ns := sortU_of g1 fun k => by rw [g2 k]; simp
        subst el
        have kp : Keep [] H1 (upd H1 q (SetO X.w q (fun j => decide (j ∈ ns)) (dd ns).length)) := Keep.new hq
        have pk : Post (X.D tl) P B L σ H [] ρ' (upd H1 q (SetO X.w q (fun j => decide (j ∈ ns)) (dd ns).length)) La Ea := ⟨p1.rep.same kp, p1.step.trans (Step.of_same kp), p1.esub⟩
        exact (c.after pk).lst pk.rep (DqA.of_ints _) hp'
      · cases e5
    · cases e2
end
end DL
end
noncomputable section
namespace DL
open PySem PySem.Spec PyProof.Rows L2 ZE

/-! ### a list that is lent to a walk, and comes back -/
section
variable {K : Fg} {P B L E L' : List Addr} {σ : L2.St} {ρ : DL.Env} {H H' : Hp} {j : Nat} {a : Addr} {vs : List V} {ds : List PyData}
theorem mem_lent {b : Addr} : b ∈ L.filter (fun b => decide (b ≠ a)) ↔ b ∈ L ∧ b ≠ a := by simp [List.mem_filter]
theorem Rep.lend (R : Rep K P B L σ ρ H) (ej : ρ.getD j .no = .op ds) (ea : σ[j]? = some (some (V.ref a))) (hm : a ∈ L) : Rep K (a :: P) B (L.filter fun b => decide (b ≠ a)) σ (ρ.set j .no) H := by
  have hs : ∀ b ∈ (a :: P) ++ B ++ L.filter (fun b => decide (b ≠ a)), b ∈ P ++ B ++ L := fun b z => by
    rcases mem3.mp z with z | z | z
    · rcases List.mem_cons.mp z with z | z
      · exact mem3.mpr (.inr (.inr (z ▸ hm)))
      · exact mem3.mpr (.inl z)
    · exact mem3.mpr (.inr (.inl z))
    · exact mem3.mpr (.inr (.inr (mem_lent.mp z).1))
  have ne : ∀ i, i ≠ j → (ρ.getD i .no).isOpen = true → σ[i]? ≠ some (some (V.ref a)) := fun i hi ho z => R.inj i j a hi ho (by rw [ej]; rfl) z ea
  refine ⟨by rw [List.length_set]; exact R.len, fun b z => R.wl b (hs b z), ⟨fun b z => ?_, fun b z w => R.nd.2 b z (mem_lent.mp w).1⟩, fun i => ?_, fun i k b hik h1 h2 => ?_, R.tabs⟩
  · rcases List.mem_cons.mp z with z | z
    · subst z
      exact ⟨fun w => R.nd.2 b w hm, fun w => (mem_lent.mp w).2 rfl⟩
    · exact ⟨(R.nd.1 b z).1, fun w => (R.nd.1 b z).2 (mem_lent.mp w).1⟩
  · rw [getD_set]
    by_cases hi : j = i ∧ j < ρ.length
    · rw [if_pos hi]; trivial
    · rw [if_neg hi]
      have q := R.ok i
      have nei := ne i
      revert q nei
      generalize hc : ρ.getD i .no = c
      intro q nei
      cases c with
      | no => trivial
      | cl d => obtain ⟨v, e, h⟩ := q; exact ⟨v, e, h.sub hs⟩
      | op es =>
        obtain ⟨b, ws, e, hb, hh, h⟩ := q
        have hij : i ≠ j := fun z => hi ⟨z.symm, by
          by_cases hl : j < ρ.length
          · exact hl
          · rw [List.getD_eq_getElem?_getD, List.getElem?_eq_none (by omega)] at ej; cases ej⟩
        exact ⟨b, ws, e, mem_lent.mpr ⟨hb, fun z => nei hij rfl (z ▸ e)⟩, hh, h.sub hs⟩
      | pm es => obtain ⟨b, ws, e, hb, hh, h⟩ := q; exact ⟨b, ws, e, hb, hh, h.sub hs⟩
  · have t : ∀ m, ((ρ.set j .no).getD m .no).isOpen = true → (ρ.getD m .no).isOpen = true := fun m z => by
      rw [getD_set] at z
      by_cases hm : j = m ∧ j < ρ.length
      · rw [if_pos hm] at z; cases z
      · rwa [if_neg hm] at z
    exact R.inj i k b hik (t i h1) (t k h2)
theorem Rep.back (R : Rep K (E ++ (a :: P)) B L σ ρ H) (hn : ρ.getD j .no = .no) (ea : σ[j]? = some (some (V.ref a))) (hE : a ∉ E) (hP : a ∉ P) (hh : H a = some (.lst vs)) (d : DqA K H (E ++ (a :: P) ++ B ++ L) vs ds) : Rep K (E ++ P) B (a :: L) σ (ρ.set j (.op ds)) H := by
  have ha : a ∈ E ++ (a :: P) := List.mem_append_right _ (List.mem_cons_self ..)
  have nd := R.nd.1 a ha
  have hs : ∀ b ∈ (E ++ P) ++ B ++ (a :: L), b ∈ (E ++ (a :: P)) ++ B ++ L := fun b z => by
    rcases mem3.mp z with z | z | z
    · refine mem3.mpr (.inl ?_)
      rcases List.mem_append.mp z with z | z
      · exact List.mem_append_left _ z
      · exact List.mem_append_right _ (List.mem_cons_of_mem _ z)
    · exact mem3.mpr (.inr (.inl z))
    · rcases List.mem_cons.mp z with z | z
      · exact mem3.mpr (.inl (z ▸ ha))
      · exact mem3.mpr (.inr (.inr z))
  have hl : j < ρ.length := by
    rw [← R.len]
    exact (List.getElem?_eq_some_iff.mp ea).1
  have other : ∀ i, (ρ.getD i .no).isOpen = true → σ[i]? ≠ some (some (V.ref a)) := fun i ho z => by
    have q := R.ok i
    revert q ho
    generalize ρ.getD i .no = c
    intro ho q
    cases c with
    | no => cases ho
    | cl d => cases ho
    | op es => obtain ⟨b, ws, e, hb, _⟩ := q; rw [z] at e; cases e; exact nd.2 hb
    | pm es => obtain ⟨b, ws, e, hb, _⟩ := q; rw [z] at e; cases e; exact nd.1 hb
  refine ⟨by rw [List.length_set]; exact R.len, fun b z => R.wl b (hs b z), ⟨fun b z => ?_, fun b z w => ?_⟩, fun i => ?_, fun i k b hik h1 h2 e1 e2 => ?_, R.tabs⟩
  · have hb : b ∈ E ++ (a :: P) := by
      rcases List.mem_append.mp z with z | z
      · exact List.mem_append_left _ z
      · exact List.mem_append_right _ (List.mem_cons_of_mem _ z)
    have hba : b ≠ a := fun q => by
      subst q
      exact (List.mem_append.mp z).elim hE hP
    exact ⟨(R.nd.1 b hb).1, fun w => (List.mem_cons.mp w).elim hba (R.nd.1 b hb).2⟩
  · rcases List.mem_cons.mp w with w | w
    · subst w; exact nd.1 z
    · exact R.nd.2 b z w
  · rw [getD_set]
    by_cases hi : j = i ∧ j < ρ.length
    · rw [if_pos hi, ← hi.1]
      exact ⟨a, vs, ea, List.mem_cons_self .., hh, d.sub hs⟩
    · rw [if_neg hi]
      have q := R.ok i
      revert q
      generalize ρ.getD i .no = c
      intro q
      cases c with
      | no => trivial
      | cl d => obtain ⟨v, e, h⟩ := q; exact ⟨v, e, h.sub hs⟩
      | op es => obtain ⟨b, ws, e, hb, hh, h⟩ := q; exact ⟨b, ws, e, List.mem_cons_of_mem _ hb, hh, h.sub hs⟩
      | pm es => obtain ⟨b, ws, e, hb, hh, h⟩ := q; exact ⟨b, ws, e, hb, hh, h.sub hs⟩
  · have t : ∀ m, m ≠ j → ((ρ.set j (.op ds)).getD m .no).isOpen = true → (ρ.getD m .no).isOpen = true := fun m hm z => by
      rw [getD_set, if_neg fun w => hm w.1.symm] at z
      exact z
    by_cases hi : i = j
    · subst hi
      rw [ea] at e1
      cases e1
      exact other k (t k (fun z => hik z.symm) h2) e2
    · by_cases hk : k = j
      · subst hk
        rw [ea] at e2
        cases e2
        exact other i (t i hi h1) e1
      · exact R.inj i k b hik (t i hi h1) (t k hk h2) e1 e2
end
/-- [e for i, x in enumerate(xs) if t], xs an open list that the block doesn't name -/
def lcB (j : Nat) (own : List Nat) (tg : GD) (tt : TD) (te : ED) : ED := fun ρ => match ρ.getD j .no with
  | .op ds => if own.all (fun i => !((ρ.set j .no).getD i .no).isOpen) = true then
      (lcLoop own tg tt te [] (enumD ds) (wipeE (ρ.set j .no) own)).bind fun q => match (restE q.2 (ρ.set j .no) own).getD j .no with
        | .no => some (.own q.1, (restE q.2 (ρ.set j .no) own).set j (.op ds))
        | _ => none
    else none
  | _ => none
section
variable {K : Fg} {P B L L' : List Addr} {σ : L2.St} {ρ ρ' : DL.Env} {H H' : Hp}
theorem lent_stays {a : Addr} {vs : List V} {ds : List PyData} {E : List Addr} (R : Rep K (a :: P) B L σ ρ H) (hh : H a = some (.lst vs)) (d : DqA K H (a :: P ++ B ++ L) vs ds) (s : Step B L H L' H') (he : ∀ b ∈ E, H b = none) : H' a = some (.lst vs) ∧ DqA K H' (E ++ (a :: P) ++ B ++ L') vs ds := by
  have nd := R.nd.1 a (List.mem_cons_self ..)
  refine ⟨s.keep.at hh fun z => (List.mem_append.mp z).elim nd.1 nd.2, ?_⟩
  exact d.move R.lbl (fun b z => mem3.mpr (.inr (List.mem_append.mp z))) s.keep fun b z => by
    rcases mem4.mp z with z | z | z | z
    · exact .inr (he b z)
    · exact .inl (mem3.mpr (.inl z))
    · exact .inl (mem3.mpr (.inr (.inl z)))
    · exact (s.lsub b z).imp (fun z => mem3.mpr (.inr (.inr z))) id
theorem walks_lent {a : Addr} {vs : List V} {ds : List PyData} (R : Rep K (a :: P) B L σ ρ H) (hh : H a = some (.lst vs)) (d : DqA K H (a :: P ++ B ++ L) vs ds) : Walks K (a :: P) B L H (IteB K true a) (enumD ds) := fun H2 L2 E s he => by
  obtain ⟨h2, d2⟩ := lent_stays R hh d s he
  have q1 : SqB K true H2 a vs := .of h2
  have l1 := d2.length
  refine ⟨fun i e hd => ?_, ⟨vs, q1, ?_⟩⟩
  · unfold enumD at hd
    rw [List.getElem?_mapIdx] at hd
    obtain ⟨x, hx, rfl⟩ := Option.map_eq_some_iff.mp hd
    obtain ⟨v, hv, dv⟩ := d2.get hx
    refine ⟨⟨vs, v, q1, hv⟩, fun z H3 hz => ?_⟩
    obtain ⟨T, v', ob, rfl, hT, po, rfl, f1⟩ := hz
    have ev := (f1 vs q1).symm.trans hv
    cases ev
    have kp : Keep [] H2 (upd H2 T (.frz ob (.tup [.int (i : Nat), v]))) := Keep.new hT
    exact ⟨kp, .tup ⟨ob, upd_same, po⟩ (.cons (.int _) (.cons (dv.move lists_nil (fun _ z => nomatch z) kp fun _ z => .inl z) .nil))⟩
  · unfold enumD
    rw [List.length_mapIdx, l1]
theorem lcB_imp {own is : List Nat} {j : Nat} {tg : GD} {tt : TD} {te : ED} (hin : ∀ i ∈ is, i ∈ own) {Q : VK} (h : RD K (lcB j own tg tt te) σ H Q) : tLc (iEnumB K (tCons (tVar j) tNil)) (RG K is tg) (RT K tt) (RD K te) own σ H Q := by
  obtain ⟨P, B, L, ρ, r, ρ', R0, e, c⟩ := h
  unfold lcB at e
  split at e
  · rename_i ds ej
    split at e
    · rename_i hno
      obtain ⟨⟨es, ρ2⟩, e2, e⟩ := Option.bind_eq_some_iff.mp e
      simp only at e
      split at e
      · rename_i en
        cases e
        have q0 := R0.ok j
        rw [ej] at q0
        obtain ⟨a, vs, ea, hm, hh, dq⟩ := q0
        have R1 := R0.lend ej ea hm
        have aP : a ∉ P := fun z => (R0.nd.1 a z).2 hm
        have hs : ∀ b ∈ (a :: P) ++ B ++ L.filter (fun b => decide (b ≠ a)), b ∈ P ++ B ++ L := fun b z => by
          rcases mem3.mp z with z | z | z
          · rcases List.mem_cons.mp z with z | z
            · exact mem3.mpr (.inr (.inr (z ▸ hm)))
            · exact mem3.mpr (.inl z)
          · exact mem3.mpr (.inr (.inl z))
          · exact mem3.mpr (.inr (.inr (mem_lent.mp z).1))
        have d1 : DqA K H ((a :: P) ++ B ++ L.filter (fun b => decide (b ≠ a))) vs ds := dq.sub hs
        have k : Cont K (a :: P) B (L.filter fun b => decide (b ≠ a)) σ H [] (restE ρ2 (ρ.set j .no) own) (.own es) Q := fun x H' L' E' p v => by
          have fE : ∀ b ∈ E', H b = none := fun b z => (p.esub b z).resolve_left fun w => nomatch w
          obtain ⟨h2, d2⟩ := lent_stays R1 hh d1 p.step fE
          have aE : a ∉ E' := fun z => by rw [fE a z] at hh; cases hh
          have R2 := Rep.back p.rep en ea aE aP h2 d2
          refine c x H' (a :: L') E' ⟨R2, ⟨p.step.keep.mono fun b z => ?_, fun b z => ?_, p.step.ne⟩, p.esub⟩ ?_
          · rcases List.mem_append.mp z with z | z
            · exact List.mem_append_left _ z
            · exact List.mem_append_right _ (mem_lent.mp z).1
          · rcases List.mem_cons.mp z with z | z
            · exact .inl (z ▸ hm)
            · exact (p.step.lsub b z).imp (fun w => (mem_lent.mp w).1) id
          · obtain ⟨b, ws, rfl, m1, m2, m3, m4⟩ := v
            refine ⟨b, ws, rfl, m1, fun z => m2 (List.mem_cons_of_mem _ z), m3, m4.sub fun y z => ?_⟩
            rcases mem4.mp z with z | z | z | z
            · exact mem4.mpr (.inl z)
            · exact mem4.mpr (.inr (.inl (List.mem_cons_of_mem _ z)))
            · exact mem4.mpr (.inr (.inr (.inl z)))
            · rcases List.mem_cons.mp z with z | z
              · exact mem4.mpr (.inr (.inl (z ▸ List.mem_cons_self ..)))
              · exact mem4.mpr (.inr (.inr (.inr z)))
        exact ⟨.ref a, ea, true, a, vs, rfl, .of hh, lc_tail hin R1 hno e2 k (IteB K true a) H _ [] (.refl (E := []) R1) (walks_lent R1 hh d1)⟩
      · cases e
    · cases e
  · cases e
end
section
variable {X : Cx} {tl : TL} {elt : Expr} {elts ifs : List Expr} {kk : Nat} {tp : Pos} {scope : Scope} {pos p px pos2 : Pos} {own : List (Str × Nat)} {is : List Nat} {tg : GD} {tt : TD} {te : ED} {x : Str}
theorem i_lent (j : Nat) (hg : Gl X "enumerate") (hm : X.mg "enumerate" = none) (hN : X.N[j]? = some x := by rfl) (hv : Vis X.env.scope x := by first | exact Or.inl rfl | exact Or.inr (Or.inl rfl) | exact Or.inr (Or.inr rfl)) (hd : (x == ("__debug__" : Str)) = false := by decide) (hcd : (x == ("__classdict__" : Str)) = false := by decide)
    (h1 : starEach [.Name x px] X.env = (false, eval (.Name x px) X.env) :: starEach [] X.env := by rfl) (h2 : starEach [.Name x px] X.env = [(false, eval (.Name x px) X.env)] := by rfl) :
    PI X (.Tuple elts kk tp) (.Call (.Name "enumerate" p) [.Name x px] [] pos2) (iEnumB (X.D tl) (tCons (tVar j) tNil)) :=
  pi_enumB hg hm (pa_cons (pe_var hN hv hd hcd) pa_nil h1) h2
theorem d_lcB {j : Nat} (hc : X.calm = true) (hN : X.N.Nodup) (hi : PI X (.Tuple elts kk tp) (.Call (.Name "enumerate" p) [.Name x px] [] pos2) (iEnumB (X.D tl) (tCons (tVar j) tNil))) (ok : BlkOk X.N X.env.scope scope own) (hin : ∀ i ∈ is, i ∈ own.map (·.2))
    (hg : ∀ (s : Shared) (H : Hp) (C : Addr) (cl : List (Str × Addr)) (fp : List Addr), PG (X.blk s H scope (compEnvC scope cl C X.env) fp) (.Tuple elts kk tp) (RG (X.D tl) is tg)) (ht : ∀ (s : Shared) (H : Hp) (C : Addr) (cl : List (Str × Addr)) (fp : List Addr), PTs (X.blk s H scope (compEnvC scope cl C X.env) fp) ifs (RT (X.D tl) tt))
    (he : ∀ (s : Shared) (H : Hp) (C : Addr) (cl : List (Str × Addr)) (fp : List Addr), PE (X.blk s H scope (compEnvC scope cl C X.env) fp) elt (RD (X.D tl) te)) (hs : ∀ x', foldedSetIterable (.Call (.Name "enumerate" p) [.Name x px] [] pos2) X.env x' = pure x' := by intro _; rfl) :
    PE X (.ListComp elt [⟨.Tuple elts kk tp, .Call (.Name "enumerate" p) [.Name x px] [] pos2, ifs, 0⟩] scope pos) (RD (X.D tl) (lcB j (own.map (·.2)) tg tt te)) :=
  (pe_lc hc hN hi ok hg ht he hs).imp fun _ _ _ h => lcB_imp hin h
theorem s_setLcB (i : Nat) {j : Nat} {y : Str} {py spos : Pos} (hc : X.calm = true) (hN : X.N.Nodup) (hsw : swapsWith (.ListComp elt [⟨.Tuple elts kk tp, .Call (.Name "enumerate" p) [.Name x px] [] pos2, ifs, 0⟩] scope pos) (some (.Name y py)) spos.line X.env = pure true)
    (hi : PI X (.Tuple elts kk tp) (.Call (.Name "enumerate" p) [.Name x px] [] pos2) (iEnumB (X.D tl) (tCons (tVar j) tNil))) (ok : BlkOk X.N X.env.scope scope own) (hin : ∀ i ∈ is, i ∈ own.map (·.2))
    (hg : ∀ (s : Shared) (H : Hp) (C : Addr) (cl : List (Str × Addr)) (fp : List Addr), PG (X.blk s H scope (compEnvC scope cl C X.env) fp) (.Tuple elts kk tp) (RG (X.D tl) is tg)) (ht : ∀ (s : Shared) (H : Hp) (C : Addr) (cl : List (Str × Addr)) (fp : List Addr), PTs (X.blk s H scope (compEnvC scope cl C X.env) fp) ifs (RT (X.D tl) tt))
    (he : ∀ (s : Shared) (H : Hp) (C : Addr) (cl : List (Str × Addr)) (fp : List Addr), PE (X.blk s H scope (compEnvC scope cl C X.env) fp) elt (RD (X.D tl) te)) (hs : ∀ x', foldedSetIterable (.Call (.Name "enumerate" p) [.Name x px] [] pos2) X.env x' = pure x' := by intro _; rfl)
    (hy : X.N[i]? = some y := by rfl) (hyl : X.env.scope.names.lookup y = some .local := by rfl) :
    PS X (.Assign [.Name y py] (.ListComp elt [⟨.Tuple elts kk tp, .Call (.Name "enumerate" p) [.Name x px] [] pos2, ifs, 0⟩] scope pos) spos) (RS (X.D tl) (setS i (lcB j (own.map (·.2)) tg tt te))) :=
  (ps_setLc hc hN hy hyl hsw hi ok hg ht he hs).imp fun D σ H h => by
    obtain ⟨P, B, L, ρ, o, R, e, k⟩ := h
    obtain ⟨⟨r, ρ1⟩, e1, e2⟩ := Option.bind_eq_some_iff.mp e
    obtain ⟨ρ2, e3, e4⟩ := Option.map_eq_some_iff.mp e2
    subst e4
    refine lcB_imp hin ⟨P, B, L, ρ, r, ρ1, R, e1, fun x' H' L' E' p v => ?_⟩
    obtain ⟨E2, Lb, R2, h1, h2, _⟩ := stV_of p.rep v e3
    exact k _ H' Lb R2.drop (step_more p.step p.esub h2)
end
end DL
end
noncomputable section
namespace DL
open PySem PySem.Spec PyProof.Rows L2 LamX

/-! ### a lambda is made -/
section
variable {X : Cx} {pins : List (Addr × Obj)} {s : Shared} {σ : L2.St} {H : Hp}
/-- the tables' names stay where one table grows by a code object of its own name, and a new code object is told -/
theorem keep_grown {P c' : Addr} {ps : Array Value} {pos : Pos} (hP : H P = some (.tbl ps)) (hc : H c' = none) : Keep [] H (upd (upd H P (.tbl (ps ++ #[rawInt pos.line, rawInt pos.col, .ref c']))) c' (CodeO c' (nameAt P))) := by
  have nPc : P ≠ c' := ne_of_none hP hc
  have old : ∀ b o, H b = some o → (∀ qs, o ≠ .tbl qs) → upd (upd H P (.tbl (ps ++ #[rawInt pos.line, rawInt pos.col, .ref c']))) c' (CodeO c' (nameAt P)) b = some o := fun b o e n => by
    have b1 : b ≠ c' := ne_of_none e hc
    have b2 : b ≠ P := fun z => by
      subst z
      rw [hP] at e
      exact n ps (Option.some.inj e).symm
    rw [upd_ne b1, upd_ne b2]; exact e
  refine ⟨fun b o e _ n => old b o e n, fun T t b hb => ?_, fun b hb => ?_⟩
  · obtain ⟨qs, q1, q2, q3⟩ := t b hb
    by_cases z : b = P
    · subst z
      rw [hP] at q1
      cases q1
      have eL : (ps ++ #[rawInt pos.line, rawInt pos.col, .ref c']).toList = ps.toList ++ [rawInt pos.line, rawInt pos.col, .ref c'] := by simp
      refine ⟨_, by rw [upd_ne nPc, upd_same], by rw [eL]; exact TriplesOk_snoc _ _ _ _ q2, fun p2 cv h2 => ?_⟩
      rw [eL] at h2
      rcases among_app (pos := pos) ps.toList q2 h2 with h3 | h3
      · obtain ⟨d, d1, d2⟩ := q3 p2 cv h3
        exact ⟨d, d1, old _ _ d2 codeO_ne⟩
      · exact ⟨c', h3, upd_same⟩
    · refine ⟨qs, by rw [upd_ne (ne_of_none q1 hc), upd_ne z]; exact q1, q2, fun p2 cv h2 => ?_⟩
      obtain ⟨d, d1, d2⟩ := q3 p2 cv h2
      exact ⟨d, d1, old _ _ d2 codeO_ne⟩
  · by_cases z : b = c'
    · rw [z, upd_same]; exact fun y => nomatch y
    · by_cases z2 : b = P
      · rw [upd_ne z, z2, upd_same]; exact fun y => nomatch y
      · rw [upd_ne z, upd_ne z2]; exact hb
theorem lam_made {c P : Addr} {params : Arguments} {body : Expr} {scope : Scope} {pos : Pos} {E : Value → Shared → Prop} {Q : Value → Shared → Prop} (I : Inv X pins σ H s) (TB : TabB X.base X.mg c P) (hcode : X.env.code = .ref c) (hP : TabS H P (nameAt P)) (hq : nameAt P = X.env.qual ++ "<lambda>")
    (hdef : defaultsOf params X.env = ([], [])) (hfree : ∀ y ∈ scope.names, y.2 = .free → ∃ c, X.env.cells.lookup y.1 = some c)
    (go : ∀ (f c' : Addr) (pm ctv : Value) (H1 : Hp) (s' : Shared), Inv X pins σ H1 s' → Keep [] H H1 → (∀ b o, b ≠ P → s.heap.get? b = some o → s'.heap.get? b = some o) →
      s'.heap.get? f = some (PySem.W.kla_obj "<lambda>" (nameAt P) params body scope (cloFrom X.env.cells scope.names []) pm c' ctv) → H1 c' = some (CodeO c' (nameAt P)) → Q (.ref f) s') :
    wpAny (model X.prog X.w) X.A (eval (.Lambda params body scope pos) X.env) Q E s := by
  obtain ⟨ps, p1, p2, p3⟩ := hP
  have nb : s.heap.BuiltinsAt X.mg P := TB.bm.keeps I.bk
  have atP : s.heap.get? P = some { cls := .none, data := .fields ps } := I.hok P _ p1
  apply PySem.W.kla_eval hdef
  cases look : codeAmong pos ps.toList with
  | some cv =>
    obtain ⟨d, rfl, d2⟩ := p3 pos cv look
    apply PySem.W.kla_makeFunctionHit (mg := X.mg) (c := c) (P := P) (ps := ps) (closure_ok hfree) I.ok.glob (I.mod.glob.keeps I.bk) hcode (TB.code.keeps I.bk) atP p2 look nb
    intro ctv h' tk kp _
    rw [← hq]
    exact go _ d _ ctv H _ (I.kept (t' := tk) fun b o e => Heap.get?_push_of_some _ (kp b o e)) keep_refl (fun b o _ e => Heap.get?_push_of_some _ (kp b o e)) (Heap.get?_push_size _ rfl) d2
  | none =>
    apply PySem.W.kla_makeFunction (mg := X.mg) (c := c) (P := P) (ps := ps) (closure_ok hfree) I.ok.glob (I.mod.glob.keeps I.bk) hcode (TB.code.keeps I.bk) atP p2 look TB.gP nb
    rintro c' ctv h' tk kp ge lt ⟨_, oc, vs, t, e2, o1, o2, o3⟩ tb
    cases e2
    rw [← hq] at o3 ⊢
    have fresh : H c' = none := I.hok.fresh ge
    exact go _ c' _ ctv _ _ (inv_table (t' := tk) (more := #[rawInt pos.line, rawInt pos.col, .ref c']) I p1 (fun b o hb e => Heap.get?_push_of_some _ (kp b o hb e)) (Heap.get?_push_of_some _ tb) ge ⟨oc, vs, t, Heap.get?_push_of_some _ o1, o2, o3⟩) (keep_grown p1 fresh) (fun b o hb e => Heap.get?_push_of_some _ (kp b o hb e)) (Heap.get?_push_size _ rfl) upd_same
end
/-- all that was stays, and the pair of a whole number and of a name's own one is new -/
def PairNew (i t : Int) (s : Shared) (v : Value) (s' : Shared) : Prop := ∃ h' tk, s' = { s with heap := h', toks := tk } ∧ (∀ b o, s.heap.get? b = some o → h'.get? b = some o) ∧ ∃ p t1 t2, v = .ref p ∧ IsTup h' p #[.int i t1, .int t t2]
section
variable {prog : Program} {w : World} {A : Around} {E : Value → Shared → Prop} {s : Shared}
/-- the pair (y[x], x), y a captured name, x an own one -/
theorem pair_body {env : PySem.Env} {x y : Str} {m : Str → Option Value} {c a : Addr} {items : Array Value} {j : Nat} {i : Int} {u t1 : Tok} {p1 p2 p3 p4 p5 : Pos} {kk : Nat} (hk : env.scope.kind = .function) (hx : env.kindOf x = some .local) (hn : s.heap.Ns env.locals m) (hm : m x = some (.int (j : Int) u))
    (hy : env.kindOf y = some .free) (hc : env.cells.lookup y = some c) (hcell : s.heap.IsCell c (some (.ref a))) (hT : IsTup s.heap a items) (hj : items[j]? = some (.int i t1)) (hz : j < 2 ^ 62)
    (dx : (x == ("__debug__" : Str)) = false) (dy : (y == ("__debug__" : Str)) = false) (cy : (y == ("__classdict__" : Str)) = false) :
    wpAny (model prog w) A (eval (.Tuple [.Subscript (.Name y p1) (.Name x p2) p3, .Name x p4] kk p5) env) (PairNew i j s) E s := by
  have ex : ∀ {Q : Value → Shared → Prop}, Q (.int j u) s → ∀ {p : Pos}, wpAny (model prog w) A (eval (.Name x p) env) Q E s := fun q _ => wpAny_Name (wpAny_loadName_local hk hx hn hm q) dx
  refine wpAny_Tuple_spliced ?_
  refine Calls.spliced_cons (Subscript_ (wpAny_Name (wpAny_loadName_free hk hy hc hcell ?_ cy) dy)) 
  refine ex ?_
  refine subscriptTail_builtin hT.typeIs PyProof.Rows.slot_tuple_getitem.lookup (PyProof.Rows.getItem_tuple (j := j) hT (by omega) (by omega) ?_ hj ?_)
  · have := (Array.getElem?_eq_some_iff.mp hj).1
    have e := seqIndex_of (k := (j : Int)) (show (0 : Int) ≤ (j : Int) by omega) (show ((j : Int)) < (items.size : Int) by omega)
    simpa using e
  · refine Calls.spliced_cons (ex ?_)
    refine Calls.spliced_nil ⟨by show 2 ≤ sizeLine; rw [sizeLine_eq]; decide, ?_⟩
    exact ⟨_, s.toks, rfl, fun b o e => Heap.get?_push_of_some _ e, _, _, _, rfl, IsTup.new _ _⟩
theorem PairNew.from {i t : Int} {h₁ : Heap} {tk : Nat} {v : Value} {s' : Shared} (kp : ∀ b o, s.heap.get? b = some o → h₁.get? b = some o) (h : PairNew i t { s with heap := h₁, toks := tk } v s') : PairNew i t s v s' := by
  obtain ⟨h', tk', rfl, k, r⟩ := h
  exact ⟨h', tk', rfl, fun b o e => k b o (kp b o e), r⟩
/-- a lambda with one parameter x and the body (y[x], x), called -/
theorem pair_call {q x y : Str} {params : Arguments} {scope : Scope} {cl : List (Str × Addr)} {pm ctv : Value} {f c' c a : Addr} {items : Array Value} {j : Nat} {i : Int} {u t1 : Tok} {p1 p2 p3 p4 p5 : Pos} {kk : Nat} (room : A.depth < recursionLimit)
    (hf : s.heap.get? f = some (PySem.W.kla_obj "<lambda>" q params (.Tuple [.Subscript (.Name y p1) (.Name x p2) p3, .Name x p4] kk p5) scope cl pm c' ctv)) (hcode : ∃ (oc : Obj) (vs : Array Value) (t : Tok), s.heap.get? c' = some oc ∧ oc.data = .fields vs ∧ vs[1]? = some (.str q t)) (lim : s.heap.NoLimit)
    (hk : scope.kind = .function) (hco : scope.isCoroutine = false) (hgen : scope.isGenerator = false) (hno : ∀ z ∈ scope.names, z.2 ≠ .cell) (hx : scope.names.lookup x = some .local) (hy : scope.names.lookup y = some .free)
    (hbind : ∀ v, bindArgs (PySem.W.kla_fn "<lambda>" q params (.Tuple [.Subscript (.Name y p1) (.Name x p2) p3, .Name x p4] kk p5) scope cl pm (.ref c') ctv) ⟨[v], []⟩ = pure [(x, v)])
    (hc : cl.lookup y = some c) (hcell : s.heap.IsCell c (some (.ref a))) (hT : IsTup s.heap a items) (hj : items[j]? = some (.int i t1)) (hz : j < 2 ^ 62)
    (dx : (x == ("__debug__" : Str)) = false) (dy : (y == ("__debug__" : Str)) = false) (cy : (y == ("__classdict__" : Str)) = false) :
    wpAny (model prog w) A (call (.ref f) [.int (j : Int) u]) (PairNew i j s) E s := by
  obtain ⟨oc, vs, t, hoc, hdc, hvc⟩ := hcode
  have rc : codeAny (model prog w) A (.call (.ref f) ⟨[.int (j : Int) u], []⟩) (fun r s' => ∃ v, r = .ok (.ret v) ∧ PairNew i j s v s') s := by
    refine PySem.W.kla_callFunE room hf rfl hco hgen rfl ⟨c', oc, vs, t, rfl, hoc, hdc, hvc⟩ ?_
    rw [hbind]
    refine wpAny_pure (wpAny_newFunctionEnv hno (fun z hz => ?_) (fun h₁ hns hsb => ⟨lim.fresh _ hsb, ?_⟩) hk)
    · rw [show z = (x, _) from List.mem_singleton.mp hz]; exact hx
    · have kp : ∀ b o, s.heap.get? b = some o → h₁.get? b = some o := fun b o e => hsb.extBut b o (Nat.ne_of_lt (Heap.lt_size e)) (Heap.get?_push_of_some _ e)
      refine PySem.W.kla_codeExpr (wpAny_mono (pair_body (E := fun _ _ => False) (c := c) (a := a) (items := items) (j := j) (i := i) (u := u) (t1 := t1) hk hx hns (by simp [List.lookup]) hy hc (hcell.keeps kp) (hT.keeps kp) hj hz dx dy cy) (fun v s' hq => ⟨v, rfl, hq.from kp⟩) fun _ _ z => z.elim)
  refine wpAny_call (codeAny_mono rc fun r s' hq => ?_)
  obtain ⟨v, rfl, hq⟩ := hq
  exact hq
end

/-! ### sorted(range(n), key=lambda x: (y[x], x)) -/
def keyN (ns : List Int) (t : Int) : PyData := .tuple [.int (ns.getD t.toNat 0), .int t]
def keyLe (ns : List Int) (p q : Int) : Bool := decide (ns.getD p.toNat 0 < ns.getD q.toNat 0 ∨ (ns.getD p.toNat 0 = ns.getD q.toNat 0 ∧ p ≤ q))
def upto (m : Nat) : List Int := (List.range m).map fun k : Nat => (k : Int)
def sortK (ns : List Int) (m : Nat) : List Int := (upto m).mergeSort (keyLe ns)
theorem keyLe_eq (ns : List Int) : PySem.W.dataLe false (keyN ns) = keyLe ns := PySem.W.dataLe_ii (β := Int) (fun t => ns.getD t.toNat 0) (fun t => t)
theorem sortK_length (ns : List Int) (m : Nat) : (sortK ns m).length = m := by
  unfold sortK upto
  rw [List.length_mergeSort, List.length_map, List.length_range]
theorem each_ints : ∀ {us : List Value} {ns : List Int}, PySem.W.EachIs (fun (v : Value) (i : Int) => ∃ t, v = .int i t) us ns → Vals (ns.map V.int) us
  | _, _, .nil => .nil
  | _, _, .cons h r => .cons h (each_ints r)
theorem each_upto {acc : Array Value} {m : Nat} (h : ItemsOf (fun i v => ∃ t, v = Value.int (0 + i * 1) t) acc m) : PySem.W.EachIs (fun (v : Value) (i : Int) => ∃ t, v = .int i t) acc.toList (upto m) := by
  have go : ∀ (us : List Value) (f : Nat → Int), (∀ (j : Nat) (u : Value), us[j]? = some u → ∃ t, u = Value.int (f j) t) → PySem.W.EachIs (fun (v : Value) (i : Int) => ∃ t, v = .int i t) us ((List.range us.length).map f) := by
    intro us
    induction us with
    | nil => intro f _; exact .nil
    | cons u us ih =>
      intro f hf
      rw [List.length_cons, List.range_succ_eq_map, List.map_cons, List.map_map]
      exact .cons (hf 0 u rfl) (ih (f ∘ Nat.succ) fun j v e => hf (j + 1) v e)
  have e : acc.toList.length = m := by rw [Array.length_toList]; exact h.1
  unfold upto
  rw [← e]
  refine go acc.toList _ fun j u hj => ?_
  obtain ⟨t, rfl⟩ := h.2 j u (by rw [← hj, Array.getElem?_toList])
  exact ⟨t, by rw [Int.mul_one, Int.zero_add]⟩

section
variable {X : Cx} {tl : TL} {pins : List (Addr × Obj)} {s : Shared} {σ : L2.St} {H : Hp} {Q : VK}
theorem PairNew.key {i t : Int} {ns : List Int} {v : Value} {s' : Shared} (e : i = ns.getD t.toNat 0) (h : PairNew i t s v s') : PySem.W.KeyPure (keyN ns t) s v s' := by
  obtain ⟨h', tk, rfl, kp, p, t1, t2, rfl, hp⟩ := h
  subst e
  obtain ⟨ob, ho, hc, n, hs⟩ := hp
  exact ⟨h', tk, rfl, kp, reads_tuple_at ho hc hs (by
    show ReadsAll h' [.int _ t1, .int t t2] [.int _, .int t] ([] ++ ([] ++ []))
    exact .cons (.int _ _) (.cons (.int _ _) .nil))⟩
theorem sorted_keyed {r f c' a c : Addr} {n : Int} {t u v : Tok} {ns : List Int} {x y q : Str} {params : Arguments} {scope : Scope} {cl : List (Str × Addr)} {pm ctv : Value} {items : Array Value} {p1 p2 p3 p4 p5 : Pos} {kk : Nat} (hA : X.A.handled = none) (room : X.A.depth < recursionLimit) (hu : X.A.units + 64 < cLine)
    (I : Inv X pins σ H s) (hr : IsRange s.heap r 0 n 1 t u v) (ok : RgOk 0 n)
    (hf : s.heap.get? f = some (PySem.W.kla_obj "<lambda>" q params (.Tuple [.Subscript (.Name y p1) (.Name x p2) p3, .Name x p4] kk p5) scope cl pm c' ctv)) (hco : H c' = some (CodeO c' q))
    (hk : scope.kind = .function) (ho : scope.isCoroutine = false) (hgen : scope.isGenerator = false) (hno : ∀ z ∈ scope.names, z.2 ≠ .cell) (hx : scope.names.lookup x = some .local) (hy : scope.names.lookup y = some .free)
    (hbind : ∀ (c' : Addr) v, bindArgs (PySem.W.kla_fn "<lambda>" q params (.Tuple [.Subscript (.Name y p1) (.Name x p2) p3, .Name x p4] kk p5) scope cl pm (.ref c') ctv) ⟨[v], []⟩ = pure [(x, v)])
    (hc : cl.lookup y = some c) (hcell : s.heap.IsCell c (some (.ref a))) (hT : IsTup s.heap a items) (hi : Vals (ns.map V.int) items.toList) (hn : n.toNat ≤ ns.length)
    (dx : (x == ("__debug__" : Str)) = false) (dy : (y == ("__debug__" : Str)) = false) (cy : (y == ("__classdict__" : Str)) = false)
    (k : ∀ p, H p = none → Q (.ref p) (upd H p (.lst ((sortK ns n.toNat).map V.int)))) :
    wpAny (model X.prog X.w) X.A (call (.builtin "sorted") [.ref r] [(Str.ofString "key", .ref f)]) (EP X pins σ Q) X.xe s := by
  obtain ⟨b1, b2, b3, b4, b5⟩ := ok
  have hsz := sizeLine_eq
  have e0 : (n - 0).toNat = n.toNat := by rw [Int.sub_zero]
  have lu : (upto n.toNat).length = n.toNat := by unfold upto; rw [List.length_map, List.length_range]
  refine sorted_from (R := fun us => PySem.W.EachIs (fun (v : Value) (i : Int) => ∃ t, v = .int i t) us (upto n.toNat)) (fun us hR => by rw [hR.length, lu]; omega) (PyProof.Rows.ksk_s1 _ _) (fun _ => PyProof.Rows.ksk_l1 _ _) (fun Q' q' => collect_range (n := n.toNat) hA hr (small_one b1 b2 b3 b4) (by rw [← e0]; exact rangeSize_nat 0 n) (by omega) fun h' tk acc kp hit => q' h' tk _ kp (each_upto hit)) fun h' tk us E' kp hR => ?_
  rw [PyProof.Rows.ksk_t1]
  have hob : (h'.push (seqObj "list" us.toArray 0)).get? h'.objs.size = some (seqObj "list" us.toArray 0) := Heap.get?_push_size _ rfl
  have old : ∀ {g : Heap}, PySem.W.KeepsBut h'.objs.size (h'.push (seqObj "list" us.toArray 0)) g → ∀ b o, s.heap.get? b = some o → g.get? b = some o := fun {g} kb b o e => kb b o (Nat.ne_of_lt (Heap.lt_size (kp b o e))) (Heap.get?_push_of_some _ (kp b o e))
  refine PySem.W.keyH_tree (kz := (upto n.toNat).map (keyN ns)) (s := { s with heap := h'.push (seqObj "list" us.toArray 0), toks := tk }) hob (by rw [List.length_map]; exact hR.length.symm) (by rw [hR.length, lu]; omega) (PySem.W.AllAlike.of fun _ _ => by simp [PySem.W.alike, PySem.W.alikeAll, keyN]) (PySem.W.Sortable.tuples fun _ => ⟨_, _, rfl⟩) (fun d hd => ?_)
    (PySem.W.keyH_turns (s := { s with heap := h'.push (seqObj "list" us.toArray 0), toks := tk }) hR fun w i hw hi2 g tg kb => ?_) fun h2 tk2 out c2 kb hD ko => ⟨rfl, ?_⟩
  · obtain ⟨i, _, rfl⟩ := List.mem_map.mp hd
    have hd2 : (keyN ns i).depth = 1 := by simp [keyN, PyData.depth, PyData.depthAll]
    rw [hd2]
    show X.A.units + 1 + 1 + 1 < cLine
    omega
  · obtain ⟨t3, rfl⟩ := hw
    obtain ⟨j, hj, rfl⟩ : ∃ j, j < n.toNat ∧ i = (j : Int) := by
      unfold upto at hi2
      obtain ⟨j, hj, rfl⟩ := List.mem_map.mp hi2
      exact ⟨j, List.mem_range.mp hj, rfl⟩
    have kg := old kb
    obtain ⟨oc, vs, tq, o1, o2, o3⟩ := (I.hok c' _ hco).1
    obtain ⟨w3, hw3, rw3⟩ := hi.get (i := j) (x := V.int (ns.getD j 0)) (by rw [List.getElem?_map, List.getElem?_eq_getElem (by omega)]; simp [List.getD_eq_getElem?_getD, List.getElem?_eq_getElem (show j < ns.length by omega)])
    obtain ⟨t4, rfl⟩ := rw3
    refine wpAny_mono (pair_call (s := { s with heap := g, toks := tg }) (i := ns.getD j 0) (j := j) (u := t3) (t1 := t4) (c := c) (a := a) (items := items) (by exact room) (kg _ _ hf) ⟨oc, vs, tq, kg _ _ o1, o2, o3⟩ (I.nolimit.keeps kg) hk ho hgen hno hx hy (hbind c') hc (hcell.keeps kg) (hT.keeps kg) (by rw [← hw3, Array.getElem?_toList]) (by omega) dx dy cy) (fun v s' h => h.key (by simp)) fun _ _ z => z
  · have out1 := PySem.W.keyedOut_each (keyN ns) ko hR
    rw [keyLe_eq] at out1
    have I1 : Inv X pins σ H { s with heap := h', toks := tk } := I.kept kp
    refine ⟨.ref _, upd H h'.objs.size (.lst ((sortK ns n.toNat).map V.int)), I1.laid (t' := tk2) (fun b o e => kb b o (Nat.ne_of_lt (Heap.lt_size e)) (Heap.get?_push_of_some _ e)) (Nat.le_refl _) ⟨?_, out, c2, each_ints out1, hD⟩, rfl, k _ (I1.hok.fresh (Nat.le_refl _))⟩
    rw [List.length_map, sortK_length]; omega
end

/-- sorted(range(n), key=..): n, then the slot of the row -/
def srtKD (f : ED) (j : Nat) : ED := fun ρ => (f ρ).bind fun p => match p.1, p.2.getD j .no with
  | .cl (.int n), .cl (.tuple ds) => (intsOf ds).bind fun ns => if (-lim ≤ n ∧ n ≤ lim) ∧ n.toNat ≤ ns.length then some (.own ((sortK ns n.toNat).map .int), p.2) else none
  | _, _ => none
section
variable {X : Cx} {tl : TL} {a : Expr} {f : ED} {x y : Str} {params : Arguments} {scope : Scope} {pos p p2 pos2 lpos kpos p1 q2 p3 p4 p5 : Pos} {kk : Nat}
theorem d_srtK (j : Nat) {c P : Addr} (TB : TabB X.base X.mg c P) (hcode : X.env.code = .ref c) (hP : P ∈ tl) (hq : nameAt P = X.env.qual ++ "<lambda>") (room : X.A.depth < recursionLimit) (hu : X.A.units + 64 < cLine)
    (hc : X.calm = true) (hg : Gl X "sorted") (hm : X.mg "sorted" = none) (hg2 : Gl X "range") (hm2 : X.mg "range" = none) (ha : PE X a (RD (X.D tl) f))
    (hN : X.N[j]? = some y := by rfl) (hcl : X.env.scope.names.lookup y = some .cell := by rfl) (hlook : (cloFrom X.env.cells scope.names []).lookup y = some ((X.env.cells.lookup y).getD 0) := by rfl)
    (hdef : defaultsOf params X.env = ([], []) := by rfl) (hfree : ∀ z ∈ scope.names, z.2 = .free → z.1 = y := by decide)
    (hk : scope.kind = .function := by rfl) (ho : scope.isCoroutine = false := by rfl) (hgen : scope.isGenerator = false := by rfl) (hno : ∀ z ∈ scope.names, z.2 ≠ .cell := by decide) (hx : scope.names.lookup x = some .local := by rfl) (hy : scope.names.lookup y = some .free := by rfl)
    (hbind : ∀ (pm ctv : Value) (c' : Addr) v, bindArgs (PySem.W.kla_fn "<lambda>" (nameAt P) params (.Tuple [.Subscript (.Name y p1) (.Name x q2) p3, .Name x p4] kk p5) scope (cloFrom X.env.cells scope.names []) pm (.ref c') ctv) ⟨[v], []⟩ = pure [(x, v)] := by intros; rfl)
    (dx : (x == ("__debug__" : Str)) = false := by decide) (dy : (y == ("__debug__" : Str)) = false := by decide) (cy : (y == ("__classdict__" : Str)) = false := by decide)
    (na : starEach [a] X.env = (false, eval a X.env) :: starEach [] X.env := by rfl)
    (nb : starEach [.Call (.Name "range" p2) [a] [] pos2] X.env = (false, eval (.Call (.Name "range" p2) [a] [] pos2) X.env) :: starEach [] X.env := by rfl) :
    PE X (.Call (.Name "sorted" p) [.Call (.Name "range" p2) [a] [] pos2] [⟨some "key", .Lambda params (.Tuple [.Subscript (.Name y p1) (.Name x q2) p3, .Name x p4] kk p5) scope lpos, kpos⟩] pos) (RD (X.D tl) (srtKD f j)) := by
  refine ⟨fun pins s σ H Q I h => ?_⟩
  obtain ⟨P0, B, L, ρ, r, ρ', R0, e, k⟩ := h
  obtain ⟨⟨r1, ρ1⟩, e1, e2⟩ := Option.bind_eq_some_iff.mp e
  simp only at e2
  split at e2
  case h_2 => cases e2
  rename_i n ds h2
  obtain ⟨ns, e3, e4⟩ := Option.bind_eq_some_iff.mp e2
  split at e4
  case isFalse => cases e4
  rename_i hz
  cases e4
  have hlim := lim_eq
  have ok : RgOk 0 n := ⟨by omega, by omega, by omega, by omega, by omega⟩
  refine wpAny_Call_Name_kw (ld_blt I hg hm boot_sorted ?_)
  refine callWith_kw ?_ (by rw [nb]; rfl) (by rw [nb]; rfl) (by rfl) (by rfl)
  have hr1 : tRg1 (RD (X.D tl) f) σ H fun b d H1 => b = 0 ∧ d = n ∧ ∃ L1 E1, Post (X.D tl) P0 B L σ H [] ρ' H1 L1 E1 := ⟨P0, B, L, ρ, _, ρ', R0, e1, fun x' H1 La Ea p1 v1 => ⟨n, v1.int, rfl, rfl, La, Ea, p1⟩⟩
  rw [nb]
  refine Calls.spliced_cons (thn (prg_1 hg2 hm2 ha na pins s σ H _ I hr1) fun xv s1 ⟨r, b, d, t, u, v, H1, ex, hr, I1, eb, ed, L1, E1, p1⟩ => Calls.spliced_nil ?_)
  subst ex eb
  cases ed
  show wpAny _ _ (evalAll ((do let v ← eval (.Lambda params (.Tuple [.Subscript (.Name y _) (.Name x q2) p3, .Name x p4] kk p5) scope lpos) X.env; standAt pos; pure v) :: [])) _ _ s1
  have tabs : Tabs tl H1 := p1.rep.tabs
  obtain ⟨cy', hcy⟩ := I1.ok.has y (.inl hcl)
  have hfr : ∀ z ∈ scope.names, z.2 = .free → ∃ c, X.env.cells.lookup z.1 = some c := fun z hz e => ⟨cy', by rw [hfree z hz e]; exact hcy⟩
  obtain ⟨ps, hps, _⟩ := tabs P hP
  refine wpAny_evalAll_cons (wpAny_bind (lam_made I1 TB hcode (tabs P hP) hq hdef hfr fun fa c' pm ctv H2 s2 I2 kp raw hf hco => wpAny_bind (wpAny_standAt (wpAny_pure (wpAny_evalAll_nil ?_)))))
  have rP : r ≠ P := fun z => by
    have q1 := I1.hok P _ hps
    rw [← z] at q1
    have q2 : s1.heap.get? r = some _ := hr
    rw [q1] at q2
    cases q2
  have hr2 := raw r _ rP hr
  have R2 := p1.rep.same kp
  -- the row
  have rowOk := R2.ok j
  rw [h2] at rowOk
  obtain ⟨vr, ev, dv⟩ := rowOk
  obtain ⟨vs', rfl⟩ : ∃ b, vr = V.ref b := by cases dv; exact ⟨_, rfl⟩
  obtain ⟨xs, hTd, dAll⟩ : ∃ xs, TupD H2 vs' xs ∧ DqA (X.D tl) H2 (E1 ++ P0 ++ B ++ L1) xs ds := by
    cases dv with
    | tup h1 h3 => exact ⟨_, h1, h3⟩
  obtain ⟨rfl, rfl⟩ := ints_of dAll e3
  obtain ⟨its, rv, hT, _⟩ := I2.tuple (hTd.sq (K := X.K))
  obtain ⟨m, _, hl⟩ := I2.loc
  obtain ⟨w, rw', l⟩ := hl j y _ hN ev (.inr (.inl hcl))
  cases rw'
  have cell : s2.heap.IsCell cy' (some (.ref vs')) := by
    rcases l with ⟨hk', _⟩ | ⟨_, c3, hc3, hcell⟩
    · rw [show X.env.kindOf y = _ from hcl] at hk'; cases hk'
    · rw [hcy] at hc3; cases hc3; exact hcell
  have hlk : (cloFrom X.env.cells scope.names []).lookup y = some cy' := by rw [hlook, hcy]; rfl
  exact sorted_keyed (I2.ok.hd hc) room hu I2 hr2 ok hf hco hk ho hgen hno hx hy (hbind pm ctv) hlk cell hT (by simpa using rv) hz.2 dx dy cy fun p' hp' => ((k.after p1).after (Post.same p1.rep kp)).lst R2 (DqA.of_ints _) hp'
end
end DL
end
noncomputable section
namespace DL
open PySem PySem.Spec PyProof.Rows L2

/-! ### comprehensions with two clauses -/
def lcLoop2 (own vs1 : List Nat) (tg : GD) (tt : TD) (fi1 : ID) (tg1 : GD) (tt1 : TD) (te : ED) : List PyData → List PyData → DL.Env → Option (List PyData × DL.Env)
  | acc, [], ρ => some (acc, ρ)
  | acc, d :: ds, ρ => (tg ρ d).bind fun ρ1 => (tt ρ1).bind fun p => if p.1 = true then (fi1 p.2).bind fun q => (lcLoop vs1 tg1 tt1 te acc q.1 (wipeE q.2 vs1)).bind fun s => lcLoop2 own vs1 tg tt fi1 tg1 tt1 te s.1 ds (wipeE s.2 own)
    else lcLoop2 own vs1 tg tt fi1 tg1 tt1 te acc ds (wipeE p.2 own)
def lc2D (own vs1 : List Nat) (fi : ID) (tg : GD) (tt : TD) (fi1 : ID) (tg1 : GD) (tt1 : TD) (te : ED) : ED := fun ρ => (fi ρ).bind fun p => if own.all (fun i => !(p.2.getD i .no).isOpen) = true then
    (lcLoop2 own vs1 tg tt fi1 tg1 tt1 te [] p.1 (wipeE p.2 own)).bind fun q => some (.own q.1, restE q.2 p.2 own)
  else none
section
variable {K : Fg} {P B L E : List Addr} {σ : L2.St} {ρ ρ' ρ0 : DL.Env} {H : Hp}
theorem wipe_sub {σ : L2.St} {vs1 own : List Nat} (h : ∀ i ∈ vs1, i ∈ own) : L2.wipe (L2.wipe σ vs1) own = L2.wipe σ own :=
  wipe_eq (wipe_length σ vs1) fun k hk => by rw [wipe_other hk, wipe_other fun z => hk (h k z)]
theorem step_wr {L' : List Addr} {H' : Hp} {D : Addr} {o : HO} {us : List V} (s : Step B L H L' H') (hD : D ∈ B) (hl : H' D = some (.lst us)) (h0 : H D ≠ none) : Step B L H L' (upd H' D o) := by
  have k := keep_wr (o := o) hl
  refine ⟨⟨fun b u e hb ho => ?_, fun T t => k.tab T (s.keep.tab T t), fun b h => k.nn b (s.ne b h)⟩, s.lsub, fun b h => k.nn b (s.ne b h)⟩
  have z : b ≠ D := fun z => hb (by rw [z]; exact List.mem_append_left _ hD)
  rw [upd_ne z]
  exact s.keep.old b u e hb ho
theorem lc2_imp {own vs1 is is1 : List Nat} {fi fi1 : ID} {tg tg1 : GD} {tt tt1 : TD} {te : ED} (hin : ∀ i ∈ is, i ∈ own) (hin1 : ∀ i ∈ is1, i ∈ vs1) (hv : ∀ i ∈ vs1, i ∈ own) {Q : VK} (h : RD K (lc2D own vs1 fi tg tt fi1 tg1 tt1 te) σ H Q) :
    tLc2 (RI K fi) (RG K is tg) (RT K tt) (RI K fi1) (RG K is1 tg1) (RT K tt1) (RD K te) own vs1 σ H Q := by
  have ll := lim_line
  obtain ⟨P, B, L, ρ, r, ρ', R0, e, k⟩ := h
  obtain ⟨⟨ds, ρ1⟩, e1, e⟩ := Option.bind_eq_some_iff.mp e
  simp only at e
  split at e
  case isFalse => cases e
  rename_i hno
  obtain ⟨⟨es, ρ2⟩, e2, e⟩ := Option.bind_eq_some_iff.mp e
  cases e
  refine ⟨P, B, L, ρ, ds, ρ1, R0, e1, fun J H1 La Ea p1 wk => ?_⟩
  intro D hD
  have R1 : Rep K ([D] ++ (Ea ++ P)) B La σ ρ1 (upd H1 D (.lst [])) := p1.rep.move (Keep.new hD) fun a z => by
    rw [show a = D by simpa using z]
    exact ⟨hD, [], upd_same⟩
  have hDD : D ∈ [D] ++ (Ea ++ P) := by simp
  have fD : ∀ a ∈ [D], H1 a = none := fun a z => by rw [show a = D by simpa using z]; exact hD
  refine ⟨fun i m H => m = ds.length - i ∧ i ≤ ds.length ∧ ∃ Lc ρc acc fs, Rep K ([D] ++ (Ea ++ P)) B Lc (L2.wipe σ own) ρc H ∧ Step B La H1 Lc H ∧ H D = some (.lst acc) ∧ DqA K H ([D] ++ (Ea ++ P) ++ B ++ Lc) acc fs ∧ lcLoop2 own vs1 tg tt fi1 tg1 tt1 te fs (ds.drop i) ρc = some (es, ρ2),
    ⟨ds.length, by simp, Nat.zero_le _, La, wipeE ρ1 own, [], [], R1.wipe own, Step.of_same (Keep.new hD), upd_same, .nil, by simpa using e2⟩, ?_⟩
  rintro i m H' ⟨rfl, hi, Lc, ρc, acc, fs, Rc, sc, hacc, dacc, ec⟩
  obtain ⟨wgo, wst⟩ := wk.walks H' Lc [D] sc fD
  cases hd : ds[i]? with
  | none =>
    have hz : i = ds.length := by
      have := List.getElem?_eq_none_iff.mp hd
      omega
    subst hz
    rw [List.drop_length] at ec
    cases ec
    refine .inl ⟨wst, k _ _ Lc (D :: Ea) ⟨?_, p1.step.trans sc, fun a z => ?_⟩ ⟨D, acc, rfl, List.mem_cons_self .., fun z => ?_, hacc, ?_⟩⟩
    · have q := rest_of (E := [D]) p1.rep sc fD (vs0 := own) (fun i hi => by
        have := List.all_eq_true.mp hno i hi
        simpa using this) own (fun _ z => z) Rc (wipe_length σ own) (fun k hk => wipe_other hk)
      simpa using q
    · rcases List.mem_cons.mp z with z | z
      · right
        cases eh : H a with
        | none => rfl
        | some u => exact absurd (z ▸ hD) (p1.step.ne a (by rw [eh]; exact fun z => nomatch z))
      · exact p1.esub a z
    · obtain ⟨vs, q⟩ := R0.wl D (mem3.mpr (.inl z))
      exact absurd hD (p1.step.ne D (by rw [q]; exact fun z => nomatch z))
    · have ee : [D] ++ (Ea ++ P) ++ B ++ Lc = (D :: Ea) ++ P ++ B ++ Lc := by simp
      rw [ee] at dacc
      exact dacc
  | some d =>
    have hlt := (List.getElem?_eq_some_iff.mp hd).1
    obtain ⟨gg, gy⟩ := wgo i d hd
    rw [drop_cons hd] at ec
    obtain ⟨ρ3, e3, ec⟩ := Option.bind_eq_some_iff.mp ec
    obtain ⟨⟨b, ρ4⟩, e4, ec⟩ := Option.bind_eq_some_iff.mp ec
    refine .inr ⟨gg, fun H' => ∃ Lc ρc acc fs, Rep K ([D] ++ (Ea ++ P)) B Lc (L2.wipe σ own) ρc H' ∧ Step B La H1 Lc H' ∧ H' D = some (.lst acc) ∧ DqA K H' ([D] ++ (Ea ++ P) ++ B ++ Lc) acc fs ∧ lcLoop2 own vs1 tg tt fi1 tg1 tt1 te fs (ds.drop (i + 1)) ρc = some (es, ρ2),
      fun H2 hn => ⟨ds.length - (i + 1), by omega, rfl, hlt, hn⟩, fun x H3 hy => ?_⟩
    obtain ⟨kp, dq⟩ := gy x H3 hy
    have R3 := Rc.same kp
    have s3 : Step B La H1 Lc H3 := sc.trans (Step.of_same kp)
    have hD3 : H3 D = some (.lst acc) := kp.at hacc (fun z => nomatch z)
    have d3 : DqA K H3 ([D] ++ (Ea ++ P) ++ B ++ Lc) acc fs := DqA.move lists_nil (fun _ z => nomatch z) kp (fun _ z => .inl z) dacc
    refine ⟨[D] ++ (Ea ++ P), B, Lc, ρc, d, ρ3, R3, dq, e3, fun σ2 hl hk R4 => ?_⟩
    have hw : L2.wipe σ2 own = L2.wipe σ own := wipe_eq (hl.trans (wipe_length σ own)) fun j hj => hk j fun z => hj (hin j z)
    refine ⟨hw, [D] ++ (Ea ++ P), B, Lc, ρ3, b, ρ4, R4, e4, fun H4 L4 E4 p4 => ?_⟩
    have s4 := s3.trans p4.step
    -- D is no list of the frame
    have nBL : ∀ {σ' : L2.St} {ρ' : DL.Env} {E' L' L'' : List Addr} {G G' : Hp}, Rep K (E' ++ ([D] ++ (Ea ++ P))) B L' σ' ρ' G → Step B L' G L'' G' → ∀ {us : List V}, G D = some (.lst us) → G' D = some (.lst us) := fun {σ' ρ' E' L' L'' G G'} R s {us} hG => by
      have nd := R.nd.1 D (List.mem_append_right _ hDD)
      exact s.keep.at hG fun z => (List.mem_append.mp z).elim nd.1 nd.2
    have hD4 : H4 D = some (.lst acc) := nBL (E' := []) R3 p4.step hD3
    have d4 : DqA K H4 ([D] ++ (Ea ++ P) ++ B ++ L4) acc fs := DqA.step R3 p4.step d3
    cases b with
    | false =>
      simp only [Bool.false_eq_true, if_false] at ec
      have R5 := (p4.rep.drop).wipe own
      rw [hw] at R5
      exact iteF ⟨L4, _, acc, fs, R5, s4, hD4, d4, ec⟩
    | true =>
      refine iteT ?_
      simp only [if_true] at ec
      obtain ⟨⟨ds1, ρ5⟩, e5, ec⟩ := Option.bind_eq_some_iff.mp ec
      obtain ⟨⟨es1, ρ9⟩, e6, ec⟩ := Option.bind_eq_some_iff.mp ec
      refine ⟨[D] ++ (Ea ++ P), B, L4, ρ4, ds1, ρ5, p4.toStep, e5, fun J1 H5 L5 E5 p5 wk1 => ?_⟩
      have s5 := s4.trans p5.step
      have hD5 : H5 D = some (.lst acc) := nBL (E' := []) p4.toStep p5.step hD4
      have d5 : DqA K H5 (E5 ++ ([D] ++ (Ea ++ P)) ++ B ++ L5) acc fs := by
        refine DqA.move (p4.toStep).lbl (fun a z => mem3.mpr (.inr (List.mem_append.mp z))) p5.step.keep (fun a z => ?_) d4
        rcases mem4.mp z with z | z | z | z
        · exact (p5.esub a z).elim (fun z => nomatch z) .inr
        · exact .inl (mem3.mpr (.inl z))
        · exact .inl (mem3.mpr (.inr (.inl z)))
        · exact (p5.step.lsub a z).imp (fun z => mem3.mpr (.inr (.inr z))) id
      have hDB : D ∈ (E5 ++ ([D] ++ (Ea ++ P))) ++ B := List.mem_append_left _ (List.mem_append_right _ hDD)
      have ne5 : H5 D ≠ none := by rw [hD5]; exact fun z => nomatch z
      refine ⟨fun j m H => m = ds1.length - j ∧ j ≤ ds1.length ∧ ∃ Ln ρn acc fs, Rep K (E5 ++ ([D] ++ (Ea ++ P))) B Ln (L2.wipe σ2 vs1) ρn H ∧ Step B La H1 Ln H ∧ Step ((E5 ++ ([D] ++ (Ea ++ P))) ++ B) L5 H5 Ln H ∧ H D = some (.lst acc) ∧ DqA K H (E5 ++ ([D] ++ (Ea ++ P)) ++ B ++ Ln) acc fs ∧
          lcLoop vs1 tg1 tt1 te fs (ds1.drop j) ρn = some (es1, ρ9),
        ⟨ds1.length, by simp, Nat.zero_le _, L5, wipeE ρ5 vs1, acc, fs, p5.rep.wipe vs1, s5, .refl, hD5, d5, by simpa using e6⟩, ?_⟩
      rintro j m H6 ⟨rfl, hj, Ln, ρn, acc1, fs1, Rn, sn, sw, hn1, dn1, en⟩
      obtain ⟨wgo1, wst1⟩ := wk1 H6 Ln [] sw (fun _ z => nomatch z)
      cases hd1 : ds1[j]? with
      | none =>
        have hz : j = ds1.length := by
          have := List.getElem?_eq_none_iff.mp hd1
          omega
        subst hz
        rw [List.drop_length] at en
        cases en
        have R7 := (Rn.drop).wipe own
        rw [wipe_sub hv, hw] at R7
        refine .inl ⟨wst1, Ln, _, acc1, es1, R7, sn, hn1, dn1.sub fun a z => ?_, ec⟩
        rcases mem3.mp z with z | z | z
        · exact mem4.mpr (.inr (.inl z))
        · exact mem4.mpr (.inr (.inr (.inl z)))
        · exact mem4.mpr (.inr (.inr (.inr z)))
      | some d1 =>
        have hlt1 := (List.getElem?_eq_some_iff.mp hd1).1
        obtain ⟨gg1, gy1⟩ := wgo1 j d1 hd1
        rw [drop_cons hd1] at en
        obtain ⟨ρ6, e7, en⟩ := Option.bind_eq_some_iff.mp en
        obtain ⟨⟨b1, ρ7⟩, e8, en⟩ := Option.bind_eq_some_iff.mp en
        refine .inr ⟨gg1, fun H => ∃ Ln ρn acc fs, Rep K (E5 ++ ([D] ++ (Ea ++ P))) B Ln (L2.wipe σ2 vs1) ρn H ∧ Step B La H1 Ln H ∧ Step ((E5 ++ ([D] ++ (Ea ++ P))) ++ B) L5 H5 Ln H ∧ H D = some (.lst acc) ∧ DqA K H (E5 ++ ([D] ++ (Ea ++ P)) ++ B ++ Ln) acc fs ∧
            lcLoop vs1 tg1 tt1 te fs (ds1.drop (j + 1)) ρn = some (es1, ρ9),
          fun H2 hn => ⟨ds1.length - (j + 1), by omega, rfl, hlt1, hn⟩, fun x1 H7 hy1 => ?_⟩
        obtain ⟨kp1, dq1⟩ := gy1 x1 H7 hy1
        have R7 := Rn.same kp1
        have s7 : Step B La H1 Ln H7 := sn.trans (Step.of_same kp1)
        have w7 : Step ((E5 ++ ([D] ++ (Ea ++ P))) ++ B) L5 H5 Ln H7 := sw.trans (Step.of_same kp1)
        have hD7 : H7 D = some (.lst acc1) := kp1.at hn1 (fun z => nomatch z)
        have d7 : DqA K H7 (E5 ++ ([D] ++ (Ea ++ P)) ++ B ++ Ln) acc1 fs1 := DqA.move lists_nil (fun _ z => nomatch z) kp1 (fun _ z => .inl z) dn1
        refine ⟨E5 ++ ([D] ++ (Ea ++ P)), B, Ln, ρn, d1, ρ6, R7, dq1, e7, fun σ3 hl3 hk3 R8 => ?_⟩
        have hw1 : L2.wipe σ3 vs1 = L2.wipe σ2 vs1 := wipe_eq (hl3.trans (wipe_length σ2 vs1)) fun k hk => hk3 k fun z => hk (hin1 k z)
        refine ⟨hw1, E5 ++ ([D] ++ (Ea ++ P)), B, Ln, ρ6, b1, ρ7, R8, e8, fun H8 L8 E8 p8 => ?_⟩
        have s8 := s7.trans p8.step
        have w8 := w7.trans p8.step.wide
        have hD8 : H8 D = some (.lst acc1) := nBL R7 p8.step hD7
        have d8 : DqA K H8 (E5 ++ ([D] ++ (Ea ++ P)) ++ B ++ L8) acc1 fs1 := DqA.step R7 p8.step d7
        cases b1 with
        | false =>
          simp only [Bool.false_eq_true, if_false] at en
          have R9 := (p8.rep.drop).wipe vs1
          rw [hw1] at R9
          exact iteF ⟨L8, _, acc1, fs1, R9, s8, w8, hD8, d8, en⟩
        | true =>
          refine iteT ?_
          simp only [if_true] at en
          obtain ⟨⟨r9, ρa⟩, e9, en⟩ := Option.bind_eq_some_iff.mp en
          obtain ⟨⟨d10, ρb⟩, ea, en⟩ := Option.bind_eq_some_iff.mp en
          simp only at en
          split at en
          · rename_i hz
            refine ⟨E5 ++ ([D] ++ (Ea ++ P)), B, L8, ρ7, r9, ρa, p8.toStep, e9, fun y H9 L9 E9 p9 v9 => ?_⟩
            obtain ⟨Ef, Lf, q6, _⟩ := psd_of p9.rep v9 ea
            have s9 := s8.trans p9.step
            have w9 := w8.trans p9.step.wide
            have hD9 : H9 D = some (.lst acc1) := nBL p8.toStep p9.step hD8
            have d9 : DqA K H9 (E5 ++ ([D] ++ (Ea ++ P)) ++ B ++ L9) acc1 fs1 := DqA.step p8.toStep p9.step d8
            have hs6 : ∀ a ∈ E5 ++ ([D] ++ (Ea ++ P)) ++ B ++ Lf, a ∈ E5 ++ ([D] ++ (Ea ++ P)) ++ B ++ L9 := fun a z => by
              rcases mem3.mp z with z | z | z
              · exact mem3.mpr (.inl z)
              · exact mem3.mpr (.inr (.inl z))
              · exact mem3.mpr (.inr (.inr (q6.ls a z)))
            have dy : Dq K H9 (E5 ++ ([D] ++ (Ea ++ P)) ++ B ++ Lf) y d10 := q6.dq.sub fun a z => by
              rw [show Ef ++ (E5 ++ ([D] ++ (Ea ++ P))) ++ B ++ Lf = Ef ++ ((E5 ++ ([D] ++ (Ea ++ P))) ++ B ++ Lf) by simp]
              exact List.mem_append_right _ z
            obtain ⟨Rx, mv⟩ := writeP (acc' := acc1 ++ [y]) (q6.rep.drop) (List.mem_append_right E5 hDD)
            have Ry := Rx.wipe vs1
            rw [hw1] at Ry
            have lessS := (Post.less (K := K) q6.rep q6.es q6.ls).step
            exact ⟨acc1, hD9, by rw [d9.length]; omega, Lf, _, acc1 ++ [y], fs1 ++ [d10], Ry, step_new (s9.trans lessS) hD hD9, step_wr (w9.trans lessS.wide) hDB hD9 ne5, upd_same, mv ((d9.sub hs6).append (.cons dy .nil)), en⟩
          · cases en
end
section
variable {X : Cx} {tl : TL} {elt tgE tgE1 iter iter1 : Expr} {ifs ifs1 : List Expr} {scope : Scope} {own : List (Str × Nat)} {vs1 : List Nat} {pos : Pos} {fi fi1 : ID} {tg tg1 : GD} {tt tt1 : TD} {te : ED} {is is1 : List Nat}
theorem d_lc2 (hc : X.calm = true) (hN : X.N.Nodup) (hi : PI X tgE iter (RI (X.D tl) fi)) (ok : BlkOk X.N X.env.scope scope own) (hin : ∀ i ∈ is, i ∈ own.map (·.2)) (hin1 : ∀ i ∈ is1, i ∈ vs1) (hv : ∀ i ∈ vs1, i ∈ own.map (·.2))
    (hg : ∀ (s : Shared) (H : Hp) (C : Addr) (cl : List (Str × Addr)) (fp : List Addr), PG (X.blk s H scope (compEnvC scope cl C X.env) fp) tgE (RG (X.D tl) is tg)) (ht : ∀ (s : Shared) (H : Hp) (C : Addr) (cl : List (Str × Addr)) (fp : List Addr), PTs (X.blk s H scope (compEnvC scope cl C X.env) fp) ifs (RT (X.D tl) tt))
    (hi1 : ∀ (s : Shared) (H : Hp) (C : Addr) (cl : List (Str × Addr)) (fp : List Addr), PI (X.blk s H scope (compEnvC scope cl C X.env) fp) tgE1 iter1 (RI (X.D tl) fi1))
    (hg1 : ∀ (s : Shared) (H : Hp) (C : Addr) (cl : List (Str × Addr)) (fp : List Addr), PG (X.blk s H scope (compEnvC scope cl C X.env) fp) tgE1 (RG (X.D tl) is1 tg1)) (ht1 : ∀ (s : Shared) (H : Hp) (C : Addr) (cl : List (Str × Addr)) (fp : List Addr), PTs (X.blk s H scope (compEnvC scope cl C X.env) fp) ifs1 (RT (X.D tl) tt1))
    (he : ∀ (s : Shared) (H : Hp) (C : Addr) (cl : List (Str × Addr)) (fp : List Addr), PE (X.blk s H scope (compEnvC scope cl C X.env) fp) elt (RD (X.D tl) te)) (hs : ∀ x, foldedSetIterable iter X.env x = pure x := by intro _; rfl) (hs1 : ∀ env x, foldedSetIterable iter1 env x = pure x := by intro _ _; rfl) :
    PE X (.ListComp elt [⟨tgE, iter, ifs, 0⟩, ⟨tgE1, iter1, ifs1, 0⟩] scope pos) (RD (X.D tl) (lc2D (own.map (·.2)) vs1 fi tg tt fi1 tg1 tt1 te)) :=
  (pe_lc2 hc hN hi ok hv hg ht hi1 hg1 ht1 he hs hs1).imp fun _ _ _ h => lc2_imp hin hin1 hv h
theorem s_setLc2 (i : Nat) {y : Str} {py spos : Pos} (hc : X.calm = true) (hN : X.N.Nodup) (hsw : swapsWith (.ListComp elt [⟨tgE, iter, ifs, 0⟩, ⟨tgE1, iter1, ifs1, 0⟩] scope pos) (some (.Name y py)) spos.line X.env = pure true) (hi : PI X tgE iter (RI (X.D tl) fi)) (ok : BlkOk X.N X.env.scope scope own) (hin : ∀ i ∈ is, i ∈ own.map (·.2)) (hin1 : ∀ i ∈ is1, i ∈ vs1) (hv : ∀ i ∈ vs1, i ∈ own.map (·.2))
    (hg : ∀ (s : Shared) (H : Hp) (C : Addr) (cl : List (Str × Addr)) (fp : List Addr), PG (X.blk s H scope (compEnvC scope cl C X.env) fp) tgE (RG (X.D tl) is tg)) (ht : ∀ (s : Shared) (H : Hp) (C : Addr) (cl : List (Str × Addr)) (fp : List Addr), PTs (X.blk s H scope (compEnvC scope cl C X.env) fp) ifs (RT (X.D tl) tt))
    (hi1 : ∀ (s : Shared) (H : Hp) (C : Addr) (cl : List (Str × Addr)) (fp : List Addr), PI (X.blk s H scope (compEnvC scope cl C X.env) fp) tgE1 iter1 (RI (X.D tl) fi1))
    (hg1 : ∀ (s : Shared) (H : Hp) (C : Addr) (cl : List (Str × Addr)) (fp : List Addr), PG (X.blk s H scope (compEnvC scope cl C X.env) fp) tgE1 (RG (X.D tl) is1 tg1)) (ht1 : ∀ (s : Shared) (H : Hp) (C : Addr) (cl : List (Str × Addr)) (fp : List Addr), PTs (X.blk s H scope (compEnvC scope cl C X.env) fp) ifs1 (RT (X.D tl) tt1))
    (he : ∀ (s : Shared) (H : Hp) (C : Addr) (cl : List (Str × Addr)) (fp : List Addr), PE (X.blk s H scope (compEnvC scope cl C X.env) fp) elt (RD (X.D tl) te)) (hs : ∀ x, foldedSetIterable iter X.env x = pure x := by intro _; rfl) (hs1 : ∀ env x, foldedSetIterable iter1 env x = pure x := by intro _ _; rfl)
    (hy : X.N[i]? = some y := by rfl) (hyl : X.env.scope.names.lookup y = some .local := by rfl) :
    PS X (.Assign [.Name y py] (.ListComp elt [⟨tgE, iter, ifs, 0⟩, ⟨tgE1, iter1, ifs1, 0⟩] scope pos) spos) (RS (X.D tl) (setS i (lc2D (own.map (·.2)) vs1 fi tg tt fi1 tg1 tt1 te))) :=
  (ps_setLc2 hc hN hy hyl hsw hi ok hv hg ht hi1 hg1 ht1 he hs hs1).imp fun D σ H h => by
    obtain ⟨P, B, L, ρ, o, R, e, k⟩ := h
    obtain ⟨⟨r, ρ1⟩, e1, e2⟩ := Option.bind_eq_some_iff.mp e
    obtain ⟨ρ2, e3, e4⟩ := Option.map_eq_some_iff.mp e2
    subst e4
    refine lc2_imp hin hin1 hv ⟨P, B, L, ρ, r, ρ1, R, e1, fun x H' L' E' p v => ?_⟩
    obtain ⟨E2, Lb, R2, h1, h2, _⟩ := stV_of p.rep v e3
    exact k _ H' Lb R2.drop (step_more p.step p.esub h2)
end

/-! ### a def that makes a lambda -/
structure DefC (K : Fg) (mg : Str → Option Value) (x : Str) (st : Stmt) (ps : List Str) (c : Addr) : Prop where
  ex : ∃ f fd, Fun K x x st f fd ∧ mg x = some (.ref f) ∧ PySem.W.keepIn K (.ref f) = true ∧ Binds K fd ps [] ∧ fd.code = .ref c
theorem Ok.pureC {P : Program} {w : World} {K : Fg} {mg : Str → Option Value} {base : Heap} {x : Str} {st : Stmt} {N ps : List Str} {c : Addr} {k n : Nat} {g : SD} (D : DefC K mg x st ps c) (S : FnScope N ps (defScope st)) (hn : ps.length = n) (hN : n ≤ N.length)
    (hb : ∀ (f : Addr) (A : Around) (outer : List PySem.Env) (s : Shared) (H : Hp) (E : XK), (A.deeper (envOfC x (defScope st) s.heap.objs.size f (.ref c))).guards = some [] → Room k (A.deeper (envOfC x (defScope st) s.heap.objs.size f (.ref c))) →
      PSs (cxOf CX0 P w K mg base N x (defScope st) f (.ref c) A outer s H E).nox (defBody st) (RS K g)) : Ok P w K mg base (k + 1) x ps (spP K n (runP N.length g)) := by
  obtain ⟨f, fd, F, h1, h2, h3, h4⟩ := D.ex
  refine ⟨f, fd, FnG.body F S (fun vs H Q E h => h.1.trans hn.symm) (fun cdv A outer s H vs Q E hc hA hr h => ?_), h1, h2, h3⟩
  rw [h4] at hc
  subst hc
  exact ⟨_, (hb f A outer s H E hA hr).nox, rs_runP hN h⟩
end DL
end
noncomputable section
namespace DL
open PySem L2

/-! ### products -/
def MulOk (a q : Int) : Prop := a.natAbs.log2 + q.natAbs.log2 < 1000000 ∨ a.natAbs < 2 ^ 64 ∨ q.natAbs < 2 ^ 64
@[simp] theorem mulOk_r {a q : Int} (h : q.natAbs < 2 ^ 64) : MulOk a q := .inr (.inr h)
@[simp] theorem mulOk_l {a q : Int} (h : a.natAbs < 2 ^ 64) : MulOk a q := .inr (.inl h)
@[simp] theorem mulOk_mod {a k q : Int} (h0 : 0 < k) (h : k ≤ 2 ^ 64) : MulOk (a % k) q := by
  have h1 := Int.emod_nonneg a (show k ≠ 0 by omega)
  have h2 := Int.emod_lt_of_pos a h0
  exact .inr (.inl (by omega))
/-! ### what comes behind: each waits for an answer -/
def kU (x : Option (Val × DL.Env)) (k : DL.Env → Val → Option (Val × DL.Env)) : Option (Val × DL.Env) := x.bind fun p => k p.2 p.1
def kB1 (x : Option (Val × DL.Env)) (f2 : ED) (k : DL.Env → Val → Val → Option (Val × DL.Env)) : Option (Val × DL.Env) := x.bind fun p => (f2 p.2).bind fun q => k q.2 p.1 q.1
def kB2 (x : Option (Val × DL.Env)) (r1 : Val) (k : DL.Env → Val → Val → Option (Val × DL.Env)) : Option (Val × DL.Env) := x.bind fun q => k q.2 r1 q.1
def kC1 (x : Option (Val × DL.Env)) (t : AD) : Option (List Val × DL.Env) := x.bind fun p => (t p.2).bind fun q => some (p.1 :: q.1, q.2)
def kC2 (x : Option (List Val × DL.Env)) (r : Val) : Option (List Val × DL.Env) := x.bind fun q => some (r :: q.1, q.2)
def kK (x : Option (List Val × DL.Env)) (k : DL.Env → List Val → Option (Val × DL.Env)) : Option (Val × DL.Env) := x.bind fun p => k p.2 p.1
def kT (x : Option (Val × DL.Env)) : Option (Bool × DL.Env) := x.bind fun p => match p.1 with
  | .cl (.bool b) => some (b, p.2)
  | _ => none
def kNot (x : Option (Bool × DL.Env)) : Option (Bool × DL.Env) := x.bind fun p => some (!p.1, p.2)
def kAnd (x : Option (Bool × DL.Env)) (c : TD) : Option (Bool × DL.Env) := x.bind fun p => if p.1 = true then c p.2 else some (false, p.2)
def kOr (x : Option (Bool × DL.Env)) (c : TD) : Option (Bool × DL.Env) := x.bind fun p => if p.1 = true then some (true, p.2) else c p.2
def kIf (x : Option (Bool × DL.Env)) (f g : ED) : Option (Val × DL.Env) := x.bind fun p => if p.1 = true then f p.2 else g p.2
def kAndD (x : Option (Val × DL.Env)) (f : ED) : Option (Val × DL.Env) := x.bind fun p => (boolOf p.1).bind fun b => if b = true then f p.2 else some (.cl (.bool false), p.2)
def kOrD (x : Option (Val × DL.Env)) (f : ED) : Option (Val × DL.Env) := x.bind fun p => (boolOf p.1).bind fun b => if b = true then some (.cl (.bool true), p.2) else f p.2
def kNotD (x : Option (Val × DL.Env)) : Option (Val × DL.Env) := x.bind fun p => (boolOf p.1).map fun b => (.cl (.bool (!b)), p.2)
def kH1 (x : Option (Val × DL.Env)) (g h : ED) (k l : DL.Env → Val → Val → Option (Val × DL.Env)) : Option (Val × DL.Env) := x.bind fun p => (g p.2).bind fun q => if flatV' q.1 = false then none else (k q.2 p.1 q.1).bind fun s => (boolOf s.1).bind fun b =>
  if b = true then (h s.2).bind fun t => l t.2 q.1 t.1 else some (.cl (.bool false), s.2)
def kH2 (x : Option (Val × DL.Env)) (r : Val) (h : ED) (k l : DL.Env → Val → Val → Option (Val × DL.Env)) : Option (Val × DL.Env) := x.bind fun q => if flatV' q.1 = false then none else (k q.2 r q.1).bind fun s => (boolOf s.1).bind fun b =>
  if b = true then (h s.2).bind fun t => l t.2 q.1 t.1 else some (.cl (.bool false), s.2)
def kH3 (x : Option (Val × DL.Env)) (r : Val) (h : ED) (l : DL.Env → Val → Val → Option (Val × DL.Env)) : Option (Val × DL.Env) := x.bind fun s => (boolOf s.1).bind fun b =>
  if b = true then (h s.2).bind fun t => l t.2 r t.1 else some (.cl (.bool false), s.2)
def kS1 (x : Option (Val × DL.Env)) (lo hi : PD) (k : DL.Env → Val → Option Int → Option Int → Option (Val × DL.Env)) : Option (Val × DL.Env) := x.bind fun p => (lo p.2).bind fun q => (hi q.2).bind fun s => k s.2 p.1 q.1 s.1
def kS2 (x : Option (Option Int × DL.Env)) (r : Val) (hi : PD) (k : DL.Env → Val → Option Int → Option Int → Option (Val × DL.Env)) : Option (Val × DL.Env) := x.bind fun q => (hi q.2).bind fun s => k s.2 r q.1 s.1
def kS3 (x : Option (Option Int × DL.Env)) (r : Val) (o : Option Int) (k : DL.Env → Val → Option Int → Option Int → Option (Val × DL.Env)) : Option (Val × DL.Env) := x.bind fun s => k s.2 r o s.1
def kP (x : Option (Val × DL.Env)) : Option (Option Int × DL.Env) := x.bind fun p => match p.1 with
  | .cl (.int i) => some (some i, p.2)
  | _ => none
def kTup (x : Option (List PyData × DL.Env)) : Option (Val × DL.Env) := x.bind fun q => if q.1.length ≤ lim then some (.cl (.tuple q.1), q.2) else none
def kLst (x : Option (List PyData × DL.Env)) : Option (Val × DL.Env) := x.bind fun q => if q.1.length ≤ lim then some (.own q.1, q.2) else none
def kPs (x : Option (List Val × DL.Env)) : Option (List PyData × DL.Env) := x.bind fun p => psAll p.2 p.1
def kQ1 (x : Option (PyData × DL.Env)) (rs : List Val) : Option (List PyData × DL.Env) := x.bind fun p => (psAll p.2 rs).bind fun q => some (p.1 :: q.1, q.2)
def kQ2 (x : Option (List PyData × DL.Env)) (d : PyData) : Option (List PyData × DL.Env) := x.bind fun q => some (d :: q.1, q.2)
def kV (x : Option Val) (ρ1 ρ2 : DL.Env) : Option (Val × DL.Env) := x.bind fun r => if flatV' r = true then some (r, ρ1) else some (r, ρ2)
def kF (x : Option (List PyData × DL.Env)) (ρ1 : DL.Env) (n : Nat) (F : FP) : Option (Val × DL.Env) := x.bind fun q => if q.1.length = n then kV (F q.1) ρ1 q.2 else none
def kF0 (x : Option (List Val × DL.Env)) (n : Nat) (F : FP) : Option (Val × DL.Env) := x.bind fun p => kF (psAll p.2 p.1) p.2 n F
def kW (x : Option (Val × List PyData)) (ρ : DL.Env) (j : Nat) (k : Bool) : Option (Val × DL.Env) := x.bind fun s => some (s.1, opSet ρ j k s.2)
def kM2 (x : Option (Bool × List PyData)) (ρ : DL.Env) (j : Nat) (ds : List PyData) (n : Nat) (F : FM) : Option (Val × DL.Env) := x.bind fun c => if ds.length = n then kW (F c.2 ds) ρ j c.1 else none
def kM1 (x : Option (List PyData × DL.Env)) (j n : Nat) (F : FM) : Option (Val × DL.Env) := x.bind fun q => kM2 (opAt q.2 j) q.2 j q.1 n F
def kM0 (x : Option (Bool × List PyData)) (j n : Nat) (F : FM) (y : Option (List PyData × DL.Env)) : Option (Val × DL.Env) := x.bind fun _ => kM1 y j n F
def kSq (x : Option Out) (h : SD) : Option Out := x.bind fun o => match o with
  | .nx ρ' => h ρ'
  | o => some o
def kIS (x : Option (Bool × DL.Env)) (g h : SD) : Option Out := x.bind fun p => if p.1 = true then g p.2 else h p.2
def kR (x : Option (Val × DL.Env)) : Option Out := x.bind fun p => some (.rt p.1 p.2)
def kD (x : Option (Val × DL.Env)) : Option Out := x.bind fun p => some (.nx p.2)
def kN (x : Option DL.Env) : Option Out := x.map .nx
def kSet (x : Option (Val × DL.Env)) (i : Nat) : Option Out := x.bind fun p => kN (stV p.2 i p.1)
def kStA (x : Option DL.Env) (is : List Nat) (rs : List Val) : Option DL.Env := x.bind fun ρ => stAll ρ is rs
def kStV (x : Option (PyData × DL.Env)) (i : Nat) : Option DL.Env := x.map fun p => p.2.set i (.cl p.1)
def kAug (x : Option (Val × DL.Env)) (i : Nat) (a : Int) (k : Int → Int → Int) : Option Out := x.bind fun p => match p.1 with
    | .cl (.int b) => some (.nx (p.2.set i (.cl (.int (k a b)))))
    | _ => none
def kUn2 (x : Option (PyData × DL.Env)) (tg : GD) : Option Out := x.bind fun q => kN (tg q.2 q.1)
def kUn1 (x : Option (Val × DL.Env)) (tg : GD) : Option Out := x.bind fun p => kUn2 (psV p.2 p.1) tg
def kPar (x : Option (List Val × DL.Env)) (is : List Nat) : Option Out := x.bind fun p => if p.1.all notSl = true ∧ p.1.length ≤ lim then kN (stAll p.2 is p.1) else none
def kI4 (m : Option Nat) (ρ : DL.Env) (j : Nat) (k : Bool) (ds : List PyData) (d : PyData) : Option Out := m.bind fun m => some (.nx (opSet ρ j k (ds.set m d)))
def kI3 (x : Option (Bool × List PyData)) (ρ : DL.Env) (j : Nat) (i : Int) (d : PyData) : Option Out := x.bind fun c => kI4 (ixN c.2.length i) ρ j c.1 c.2 d
def kI2 (x : Option (PyData × DL.Env)) (j : Nat) (i : Int) : Option Out := x.bind fun s => kI3 (opAt s.2 j) s.2 j i s.1
def kI1 (x : Option (Val × DL.Env)) (r : Val) (j : Nat) : Option Out := x.bind fun q => match q.1 with
  | .cl (.int i) => kI2 (psV q.2 r) j i
  | _ => none
def kI0 (x : Option (Val × DL.Env)) (fi : ED) (j : Nat) : Option Out := x.bind fun p => (opAt p.2 j).bind fun _ => kI1 (fi p.2) p.1 j
def kA3 (x : Option (Val × DL.Env)) (j : Nat) (i : Int) (b : Int) (k : Int → Int → Int) : Option Out := x.bind fun p => match p.1 with
  | .cl (.int c) => kI3 (opAt p.2 j) p.2 j i (.int (k b c))
  | _ => none
def kA2 (x : Option PyData) (ρ : DL.Env) (f : ED) (j : Nat) (i : Int) (k : Int → Int → Int) : Option Out := x.bind fun d => match d with
  | .int b => kA3 (f ρ) j i b k
  | _ => none
def kA1 (x : Option (Val × DL.Env)) (f : ED) (j : Nat) (k : Int → Int → Int) : Option Out := x.bind fun q => match q.1 with
  | .cl (.int i) => (opAt q.2 j).bind fun c => kA2 (atI c.2 i) q.2 f j i k
  | _ => none
def kE3 (x : Option (Val × List PyData × DL.Env)) (j : Nat) : Option (Val × DL.Env) := x.bind fun q => (opAt q.2.2 j).bind fun c => some (q.1, opSet q.2.2 j c.1 q.2.1)
def kE1 (x : Option (List Val × DL.Env)) (j : Nat) (k : MG) : Option (Val × DL.Env) := x.bind fun p => (opAt p.2 j).bind fun c => kE3 (k p.2 c.2 p.1) j
def kAp (x : Option (PyData × DL.Env)) (ds : List PyData) : Option (Val × List PyData × DL.Env) := x.bind fun p => if ds.length < lim then some (.cl .none, ds ++ [p.1], p.2) else none
def kIn (x : Option (PyData × DL.Env)) (ds : List PyData) (k : Int) : Option (Val × List PyData × DL.Env) := x.bind fun p => if ds.length < lim ∧ 0 ≤ k ∧ k ≤ lim then some (.cl .none, ds.take k.toNat ++ [p.1] ++ ds.drop k.toNat, p.2) else none
def kFor (x : Option (List PyData × DL.Env)) (tg : GD) (g : SD) : Option Out := x.bind fun p => loopD tg g p.1 p.2
def kG1 (x : Option (List Val × DL.Env)) : Option (List PyData × DL.Env) := x.bind fun p => match p.1 with
  | [.cl (.int j)] => if -lim ≤ j ∧ j ≤ lim then some (rngD 0 j.toNat 1, p.2) else none
  | _ => none
def kG2 (x : Option (List Val × DL.Env)) : Option (List PyData × DL.Env) := x.bind fun p => match p.1 with
  | [.cl (.int i), .cl (.int j)] => if (-lim ≤ i ∧ i ≤ lim) ∧ -lim ≤ j ∧ j ≤ lim then some (rngD i (j - i).toNat 1, p.2) else none
  | _ => none
def kG3 (x : Option (List Val × DL.Env)) : Option (List PyData × DL.Env) := x.bind fun p => match p.1 with
  | [.cl (.int i), .cl (.int j), .cl (.int c)] => if ((-lim ≤ i ∧ i ≤ lim) ∧ -lim ≤ j ∧ j ≤ lim) ∧ c = -1 then some (rngD i (i - j).toNat (-1), p.2) else none
  | _ => none
def kIt (x : Option (PyData × DL.Env)) : Option (List PyData × DL.Env) := x.bind fun q => match q.1 with
  | .list ds => some (ds, q.2)
  | .tuple ds => some (ds, q.2)
  | _ => none
def kPv (x : Option (Val × DL.Env)) : Option (PyData × DL.Env) := x.bind fun p => psV p.2 p.1
def kZp (x : Option (List PyData × DL.Env)) : Option (List PyData × DL.Env) := x.bind fun q => match q.1 with
  | [x, y] => (itemsOf x).bind fun xs => (itemsOf y).map fun ys => (zipD xs ys, q.2)
  | _ => none
def kEn (x : Option (List PyData × DL.Env)) : Option (List PyData × DL.Env) := x.bind fun q => match q.1 with
  | [x] => (itemsOf x).map fun xs => (enumD xs, q.2)
  | _ => none
def kRg (x : Option (Val × DL.Env)) (mk : List PyData → Val) : Option (Val × DL.Env) := x.bind fun p => match p.1 with
  | .cl (.int n) => if -lim ≤ n ∧ n ≤ lim then some (mk (rngD 0 n.toNat 1), p.2) else none
  | _ => none
def kXt (x : Option PyData) (ρ : DL.Env) : Option (Val × DL.Env) := x.map fun d => (.cl d, ρ)
def kIx (x : Option (Bool × List PyData)) (ρ : DL.Env) (i : Int) : Option (Val × DL.Env) := x.bind fun q => kXt (atI q.2 i) ρ
def kCu (x : Option (Bool × List PyData)) (ρ : DL.Env) (lo hi : Option Int) : Option (Val × DL.Env) := x.bind fun q => if q.1 = true then some (.own (cutD q.2 lo hi), ρ) else some (.cl (.tuple (cutD q.2 lo hi)), ρ)
def kLn (x : Option (Bool × List PyData)) (ρ : DL.Env) : Option (Val × DL.Env) := x.map fun p => (.cl (.int p.2.length), ρ)
def kLs (x : Option (Bool × List PyData)) (ρ : DL.Env) : Option (Val × DL.Env) := x.map fun p => (.own p.2, ρ)
def kTp (x : Option (Bool × List PyData)) (ρ : DL.Env) : Option (Val × DL.Env) := x.map fun p => (.cl (.tuple p.2), ρ)
def kBl (x : Option (List Bool)) (ρ : DL.Env) (k : List Bool → Bool) : Option (Val × DL.Env) := x.map fun bs => (.cl (.bool (k bs)), ρ)

section
variable {ρ ρ' ρ1 : DL.Env} {f f1 f2 : ED} {t : AD} {c c1 c2 : TD} {g h : SD} {i j n : Nat} {r r1 : Val} {rs : List Val} {d : PyData} {ds : List PyData} {b : Bool} {lo hi : PD} {o : Option Int} {tg : GD}
@[simp] theorem open_no : Cell.isOpen .no = false := rfl
@[simp] theorem open_cl : Cell.isOpen (.cl d) = false := rfl
@[simp] theorem open_op : Cell.isOpen (.op ds) = true := rfl
@[simp] theorem open_pm : Cell.isOpen (.pm ds) = true := rfl
/-! ### a piece asks its first part -/
@[simp] theorem e_var : varD i ρ = match ρ.getD i .no with
  | .no => none
  | .cl d => some (.cl d, ρ)
  | .op _ => some (.sl i, ρ)
  | .pm _ => some (.sl i, ρ) := rfl
@[simp] theorem e_con : conD d ρ = some (.cl d, ρ) := rfl
@[simp] theorem e_un {k} : unD f k ρ = kU (f ρ) k := rfl
@[simp] theorem e_bin {k} : binD f1 f2 k ρ = kB1 (f1 ρ) f2 k := rfl
@[simp] theorem e_nil : anil ρ = some ([], ρ) := rfl
@[simp] theorem e_cons : acons f t ρ = kC1 (f ρ) t := rfl
@[simp] theorem e_call {k} : callD t k ρ = kK (t ρ) k := rfl
@[simp] theorem e_test : testD f ρ = kT (f ρ) := rfl
@[simp] theorem e_not : notT c ρ = kNot (c ρ) := rfl
@[simp] theorem e_and : andT c1 c2 ρ = kAnd (c1 ρ) c2 := rfl
@[simp] theorem e_or : orT c1 c2 ρ = kOr (c1 ρ) c2 := rfl
@[simp] theorem e_ite : iteD c f1 f2 ρ = kIf (c ρ) f1 f2 := rfl
@[simp] theorem e_yes : yesT ρ = some (true, ρ) := rfl
@[simp] theorem e_andD : andD f1 f2 ρ = kAndD (f1 ρ) f2 := rfl
@[simp] theorem e_orD : orD f1 f2 ρ = kOrD (f1 ρ) f2 := rfl
@[simp] theorem e_notD : notD f ρ = kNotD (f ρ) := rfl
@[simp] theorem e_chain {k l} : chainD f f1 f2 k l ρ = kH1 (f ρ) f1 f2 k l := rfl
@[simp] theorem e_slice {k} : sliceD f lo hi k ρ = kS1 (f ρ) lo hi k := rfl
@[simp] theorem e_noP : noP ρ = some (none, ρ) := rfl
@[simp] theorem e_aP : aP f ρ = kP (f ρ) := rfl
@[simp] theorem e_tup : tupD t ρ = kTup (kPs (t ρ)) := by
  unfold tupD callD kTup kPs
  cases t ρ <;> rfl
@[simp] theorem e_lst : lstD t ρ = kLst (kPs (t ρ)) := by
  unfold lstD callD kLst kPs
  cases t ρ <;> rfl
@[simp] theorem e_ps0 : psAll ρ [] = some ([], ρ) := rfl
@[simp] theorem e_ps1 : psAll ρ (r :: rs) = kQ1 (psV ρ r) rs := rfl
@[simp] theorem e_psC : psV ρ (.cl d) = some (d, ρ) := rfl
@[simp] theorem e_psO : psV ρ (.own ds) = some (.list ds, ρ) := rfl
@[simp] theorem e_psS : psV ρ (.sl i) = match ρ.getD i .no with
  | .op ds => some (.list ds, ρ.set i (.cl (.list ds)))
  | .cl d => some (d, ρ)
  | _ => none := rfl
@[simp] theorem e_callP {F : FP} : callP n F t ρ = kF0 (t ρ) n F := rfl
@[simp] theorem e_callM {F : FM} : callM j n F t ρ = kM0 (opAt ρ j) j n F (kPs (t ρ)) := by
  unfold callM kM0 kPs kM1
  cases opAt ρ j with
  | none => rfl
  | some c => cases t ρ <;> rfl
@[simp] theorem e_opAt : opAt ρ j = match ρ.getD j .no with
  | .op ds => some (true, ds)
  | .pm ds => some (false, ds)
  | _ => none := rfl
@[simp] theorem e_opSetT : opSet ρ j true ds = ρ.set j (.op ds) := rfl
@[simp] theorem e_opSetF : opSet ρ j false ds = ρ.set j (.pm ds) := rfl
@[simp] theorem e_nilS : nilS ρ = some (.nx ρ) := rfl
@[simp] theorem e_seq : seqS g h ρ = kSq (g ρ) h := rfl
@[simp] theorem e_ifS : ifS c g h ρ = kIS (c ρ) g h := rfl
@[simp] theorem e_ret : retS f ρ = kR (f ρ) := rfl
@[simp] theorem e_retN : retN ρ = some (.rt (.cl .none) ρ) := rfl
@[simp] theorem e_drop : dropS f ρ = kD (f ρ) := rfl
@[simp] theorem e_ctS : ctS ρ = some (.ct ρ) := rfl
@[simp] theorem e_bkS : bkS ρ = some (.bk ρ) := rfl
@[simp] theorem e_set : setS i f ρ = kSet (f ρ) i := rfl
@[simp] theorem e_stC : stV ρ i (.cl d) = some (ρ.set i (.cl d)) := rfl
@[simp] theorem e_stO : stV ρ i (.own ds) = some (ρ.set i (.op ds)) := rfl
@[simp] theorem e_stS : stV ρ i (.sl j) = kStV (psV ρ (.sl j)) i := rfl
@[simp] theorem e_stN : stAll ρ [] [] = some ρ := rfl
@[simp] theorem e_stA {is : List Nat} : stAll ρ (i :: is) (r :: rs) = kStA (stV ρ i r) is rs := rfl
@[simp] theorem e_aug {k : Int → Int → Int} : augS i f k ρ = match ρ.getD i .no with
  | .cl (.int a) => kAug (f ρ) i a k
  | _ => none := rfl
@[simp] theorem e_unp : unpS tg f ρ = kUn1 (f ρ) tg := rfl
@[simp] theorem e_par {is : List Nat} : parS is t ρ = kPar (t ρ) is := rfl
@[simp] theorem e_notSlC : notSl (.cl d) = true := rfl
@[simp] theorem e_notSlO : notSl (.own ds) = true := rfl
@[simp] theorem e_name : nameT i ρ d = some (ρ.set i (.cl d)) := rfl
@[simp] theorem e_tupT {is : List Nat} : tupT is ρ (.tuple ds) = if ds.length = is.length then some (setCls ρ is ds) else none := rfl
@[simp] theorem e_setCls {is : List Nat} : setCls ρ (i :: is) (d :: ds) = setCls (ρ.set i (.cl d)) is ds := rfl
@[simp] theorem e_setCls0 : setCls ρ [] ds = ρ := by cases ds <;> rfl
@[simp] theorem e_setIx : setIx j f1 f ρ = kI0 (f ρ) f1 j := by
  unfold setIx kI0
  cases f ρ with
  | none => rfl
  | some p =>
    show (opAt p.2 j).bind _ = (opAt p.2 j).bind _
    congr 1
    funext _
    unfold kI1
    cases f1 p.2 with
    | none => rfl
    | some q =>
      show (match q.1 with | .cl (.int i) => _ | _ => none) = (match q.1 with | .cl (.int i) => _ | _ => none)
      split
      · rename_i i
        unfold kI2
        cases psV q.2 p.1 with
        | none => rfl
        | some s =>
          unfold kI3
          show (match opAt s.2 j with | some (k, ds) => _ | none => none) = (opAt s.2 j).bind _
          cases opAt s.2 j <;> rfl
      · rfl
@[simp] theorem e_augIx {k : Int → Int → Int} : augIx j f1 f k ρ = (match opAt ρ j with
  | some _ => kA1 (f1 ρ) f j k
  | none => none) := by
  unfold augIx
  cases opAt ρ j with
  | none => rfl
  | some c0 =>
    show (f1 ρ).bind _ = _
    unfold kA1
    cases f1 ρ with
    | none => rfl
    | some q =>
      show (match q.1 with | .cl (.int i) => _ | _ => none) = (match q.1 with | .cl (.int i) => _ | _ => none)
      split
      · rename_i i _
        cases opAt q.2 j with
        | none => rfl
        | some c =>
          show (match atI c.2 i with | some (.int b) => _ | _ => none) = _
          show _ = kA2 (atI c.2 i) q.2 f j i k
          unfold kA2
          cases atI c.2 i with
          | none => rfl
          | some d =>
            cases d with
            | int b =>
              show (f q.2).bind _ = kA3 (f q.2) j i b k
              unfold kA3
              cases f q.2 with
              | none => rfl
              | some p =>
                show (match p.1 with | .cl (.int c) => _ | _ => none) = (match p.1 with | .cl (.int c) => _ | _ => none)
                split
                · unfold kI3
                  cases opAt p.2 j <;> rfl
                · rfl
            | _ => rfl
      · rfl
@[simp] theorem e_met {k : MG} : metD j t k ρ = (match opAt ρ j with
  | some _ => kE1 (t ρ) j k
  | none => none) := by
  unfold metD
  cases opAt ρ j with
  | none => rfl
  | some c0 =>
    show (t ρ).bind _ = _
    unfold kE1
    cases t ρ with
    | none => rfl
    | some p =>
      show (match opAt p.2 j with | some (_, ds) => _ | none => none) = (opAt p.2 j).bind _
      cases opAt p.2 j with
      | none => rfl
      | some c =>
        show (k p.2 c.2 p.1).bind _ = kE3 (k p.2 c.2 p.1) j
        unfold kE3
        cases k p.2 c.2 p.1 with
        | none => rfl
        | some q =>
          show (match opAt q.2.2 j with | some (kk, _) => _ | none => none) = (opAt q.2.2 j).bind _
          cases opAt q.2.2 j <;> rfl
@[simp] theorem e_app : appG ρ ds [r] = kAp (psV ρ r) ds := rfl
@[simp] theorem e_ins {k : Int} : insG ρ ds [.cl (.int k), r] = kIn (psV ρ r) ds k := rfl
@[simp] theorem e_for {fi : ID} : forS fi tg g ρ = kFor (fi ρ) tg g := rfl
@[simp] theorem e_rng1 : rng1I t ρ = kG1 (t ρ) := rfl
@[simp] theorem e_rng2 : rng2I t ρ = kG2 (t ρ) := rfl
@[simp] theorem e_rng3 : rng3I t ρ = kG3 (t ρ) := rfl
@[simp] theorem e_seqI : seqI f ρ = kIt (kPv (f ρ)) := by
  unfold seqI kPv kIt
  cases f ρ <;> rfl
@[simp] theorem e_zip : zipI t ρ = kZp (kPs (t ρ)) := by
  unfold zipI kPs kZp
  cases t ρ <;> rfl
@[simp] theorem e_enum : enumI t ρ = kEn (kPs (t ρ)) := by
  unfold enumI kPs kEn
  cases t ρ <;> rfl
@[simp] theorem e_itL : itemsOf (.list ds) = some ds := rfl
@[simp] theorem e_itT : itemsOf (.tuple ds) = some ds := rfl
@[simp] theorem e_rg1 {mk : List PyData → Val} : rg1 f mk ρ = kRg (f ρ) mk := rfl
@[simp] theorem e_lstR1 : lstR1 f ρ = kRg (f ρ) .own := rfl
@[simp] theorem e_tupR1 : tupR1 f ρ = kRg (f ρ) fun ds => .cl (.tuple ds) := rfl
/-! ### the answer has come -/
@[simp] theorem s_U {k} : kU (some (r, ρ)) k = k ρ r := rfl
@[simp] theorem s_B1 {k} : kB1 (some (r, ρ)) f2 k = kB2 (f2 ρ) r k := rfl
@[simp] theorem s_B2 {k} : kB2 (some (r, ρ)) r1 k = k ρ r1 r := rfl
@[simp] theorem s_C1 : kC1 (some (r, ρ)) t = kC2 (t ρ) r := rfl
@[simp] theorem s_C2 : kC2 (some (rs, ρ)) r = some (r :: rs, ρ) := rfl
@[simp] theorem s_K {k} : kK (some (rs, ρ)) k = k ρ rs := rfl
@[simp] theorem s_T : kT (some (.cl (.bool b), ρ)) = some (b, ρ) := rfl
@[simp] theorem s_Not : kNot (some (b, ρ)) = some (!b, ρ) := rfl
@[simp] theorem s_And : kAnd (some (b, ρ)) c = if b = true then c ρ else some (false, ρ) := rfl
@[simp] theorem s_Or : kOr (some (b, ρ)) c = if b = true then some (true, ρ) else c ρ := rfl
@[simp] theorem s_If : kIf (some (b, ρ)) f1 f2 = if b = true then f1 ρ else f2 ρ := rfl
@[simp] theorem s_AndD : kAndD (some (.cl (.bool b), ρ)) f = if b = true then f ρ else some (.cl (.bool false), ρ) := rfl
@[simp] theorem s_OrD : kOrD (some (.cl (.bool b), ρ)) f = if b = true then some (.cl (.bool true), ρ) else f ρ := rfl
@[simp] theorem s_NotD : kNotD (some (.cl (.bool b), ρ)) = some (.cl (.bool !b), ρ) := rfl
@[simp] theorem s_H1 {k l} : kH1 (some (r, ρ)) f1 f2 k l = kH2 (f1 ρ) r f2 k l := rfl
@[simp] theorem s_H2 {k l} {a : Int} : kH2 (some (.cl (.int a), ρ)) r f2 k l = kH3 (k ρ r (.cl (.int a))) (.cl (.int a)) f2 l := rfl
@[simp] theorem s_H3 {l} : kH3 (some (.cl (.bool b), ρ)) r f2 l = if b = true then kB2 (f2 ρ) r l else some (.cl (.bool false), ρ) := rfl
@[simp] theorem s_S1 {k} : kS1 (some (r, ρ)) lo hi k = kS2 (lo ρ) r hi k := rfl
@[simp] theorem s_S2 {k} : kS2 (some (o, ρ)) r hi k = kS3 (hi ρ) r o k := rfl
@[simp] theorem s_S3 {k} {o' : Option Int} : kS3 (some (o', ρ)) r o k = k ρ r o o' := rfl
@[simp] theorem s_P {a : Int} : kP (some (.cl (.int a), ρ)) = some (some a, ρ) := rfl
@[simp] theorem s_Tup (h : ds.length ≤ 1000000) : kTup (some (ds, ρ)) = some (.cl (.tuple ds), ρ) := if_pos (by first | exact h | (rw [lim_eq]; exact h))
@[simp] theorem s_Lst (h : ds.length ≤ 1000000) : kLst (some (ds, ρ)) = some (.own ds, ρ) := if_pos (by first | exact h | (rw [lim_eq]; exact h))
@[simp] theorem s_Ps : kPs (some (rs, ρ)) = psAll ρ rs := rfl
@[simp] theorem s_Q1 : kQ1 (some (d, ρ)) rs = kQ2 (psAll ρ rs) d := rfl
@[simp] theorem s_Q2 : kQ2 (some (ds, ρ)) d = some (d :: ds, ρ) := rfl
@[simp] theorem s_F0 {F : FP} : kF0 (some (rs, ρ)) n F = kF (psAll ρ rs) ρ n F := rfl
@[simp] theorem s_F {F : FP} : kF (some (ds, ρ)) ρ1 n F = if ds.length = n then kV (F ds) ρ1 ρ else none := rfl
@[simp] theorem s_V : kV (some r) ρ ρ1 = if flatV' r = true then some (r, ρ) else some (r, ρ1) := rfl
@[simp] theorem s_W {k : Bool} : kW (some (r, ds)) ρ j k = some (r, opSet ρ j k ds) := rfl
@[simp] theorem s_M0 {F : FM} {q : Bool × List PyData} {y} : kM0 (some q) j n F y = kM1 y j n F := rfl
@[simp] theorem s_M1 {F : FM} : kM1 (some (ds, ρ)) j n F = kM2 (opAt ρ j) ρ j ds n F := rfl
@[simp] theorem s_M2 {F : FM} {k : Bool} {cs : List PyData} : kM2 (some (k, cs)) ρ j ds n F = if ds.length = n then kW (F cs ds) ρ j k else none := rfl
@[simp] theorem s_SqN : kSq (some (.nx ρ)) h = h ρ := rfl
@[simp] theorem s_SqR : kSq (some (.rt r ρ)) h = some (.rt r ρ) := rfl
@[simp] theorem s_SqC : kSq (some (.ct ρ)) h = some (.ct ρ) := rfl
@[simp] theorem s_SqB : kSq (some (.bk ρ)) h = some (.bk ρ) := rfl
@[simp] theorem s_IS : kIS (some (b, ρ)) g h = if b = true then g ρ else h ρ := rfl
@[simp] theorem s_R : kR (some (r, ρ)) = some (.rt r ρ) := rfl
@[simp] theorem s_D : kD (some (r, ρ)) = some (.nx ρ) := rfl
@[simp] theorem s_N : kN (some ρ) = some (.nx ρ) := rfl
@[simp] theorem s_Set : kSet (some (r, ρ)) i = kN (stV ρ i r) := rfl
@[simp] theorem s_StA {is : List Nat} : kStA (some ρ) is rs = stAll ρ is rs := rfl
@[simp] theorem s_StV : kStV (some (d, ρ)) i = some (ρ.set i (.cl d)) := rfl
@[simp] theorem s_Aug {a q : Int} {k : Int → Int → Int} : kAug (some (.cl (.int q), ρ)) i a k = some (.nx (ρ.set i (.cl (.int (k a q))))) := rfl
@[simp] theorem s_Un1 : kUn1 (some (r, ρ)) tg = kUn2 (psV ρ r) tg := rfl
@[simp] theorem s_Un2 : kUn2 (some (d, ρ)) tg = kN (tg ρ d) := rfl
@[simp] theorem s_Par {is : List Nat} (h1 : rs.all notSl = true) (h2 : rs.length ≤ 1000000) : kPar (some (rs, ρ)) is = kN (stAll ρ is rs) := if_pos ⟨h1, by rw [lim_eq]; exact h2⟩
@[simp] theorem s_I4 {m : Nat} {k : Bool} : kI4 (some m) ρ j k ds d = some (.nx (opSet ρ j k (ds.set m d))) := rfl
@[simp] theorem s_I3 {a : Int} {k : Bool} : kI3 (some (k, ds)) ρ j a d = kI4 (ixN ds.length a) ρ j k ds d := rfl
@[simp] theorem s_I2 {a : Int} : kI2 (some (d, ρ)) j a = kI3 (opAt ρ j) ρ j a d := rfl
@[simp] theorem s_I1 {a : Int} : kI1 (some (.cl (.int a), ρ)) r j = kI2 (psV ρ r) j a := rfl
@[simp] theorem s_I0 : kI0 (some (r, ρ)) f j = (match opAt ρ j with
  | some _ => kI1 (f ρ) r j
  | none => none) := by
  show (opAt ρ j).bind _ = _
  cases opAt ρ j <;> rfl
@[simp] theorem s_A3 {a q z : Int} {k : Int → Int → Int} : kA3 (some (.cl (.int q), ρ)) j a z k = kI3 (opAt ρ j) ρ j a (.int (k z q)) := rfl
@[simp] theorem s_A2 {a z : Int} {k : Int → Int → Int} : kA2 (some (.int z)) ρ f j a k = kA3 (f ρ) j a z k := rfl
@[simp] theorem s_A1 {a : Int} {k : Int → Int → Int} : kA1 (some (.cl (.int a), ρ)) f j k = (match opAt ρ j with
  | some c => kA2 (atI c.2 a) ρ f j a k
  | none => none) := by
  show (opAt ρ j).bind _ = _
  cases opAt ρ j <;> rfl
@[simp] theorem s_E3 : kE3 (some (r, ds, ρ)) j = (match opAt ρ j with
  | some c => some (r, opSet ρ j c.1 ds)
  | none => none) := by
  show (opAt ρ j).bind _ = _
  cases opAt ρ j <;> rfl
@[simp] theorem s_E1 {k : MG} : kE1 (some (rs, ρ)) j k = (match opAt ρ j with
  | some c => kE3 (k ρ c.2 rs) j
  | none => none) := by
  show (opAt ρ j).bind _ = _
  cases opAt ρ j <;> rfl
@[simp] theorem s_Ap (h : ds.length < 1000000) : kAp (some (d, ρ)) ds = some (.cl .none, ds ++ [d], ρ) := if_pos (by first | exact h | (rw [lim_eq]; exact h))
@[simp] theorem s_In {k : Int} (h1 : ds.length < 1000000) (h2 : 0 ≤ k) (h3 : k ≤ 1000000) : kIn (some (d, ρ)) ds k = some (.cl .none, ds.take k.toNat ++ [d] ++ ds.drop k.toNat, ρ) := if_pos ⟨by rw [lim_eq]; exact h1, h2, by rw [lim_eq]; exact h3⟩
@[simp] theorem s_For : kFor (some (ds, ρ)) tg g = loopD tg g ds ρ := rfl
@[simp] theorem s_G1 {a : Int} (h1 : -1000000 ≤ a) (h2 : a ≤ 1000000) : kG1 (some ([.cl (.int a)], ρ)) = some (rngD 0 a.toNat 1, ρ) := if_pos ⟨by rw [lim_eq]; exact h1, by rw [lim_eq]; exact h2⟩
@[simp] theorem s_G2 {a q : Int} (h1 : -1000000 ≤ a) (h2 : a ≤ 1000000) (h3 : -1000000 ≤ q) (h4 : q ≤ 1000000) : kG2 (some ([.cl (.int a), .cl (.int q)], ρ)) = some (rngD a (q - a).toNat 1, ρ) := if_pos ⟨⟨by rw [lim_eq]; exact h1, by rw [lim_eq]; exact h2⟩, by rw [lim_eq]; exact h3, by rw [lim_eq]; exact h4⟩
@[simp] theorem s_G3 {a q : Int} (h1 : -1000000 ≤ a) (h2 : a ≤ 1000000) (h3 : -1000000 ≤ q) (h4 : q ≤ 1000000) : kG3 (some ([.cl (.int a), .cl (.int q), .cl (.int (-1))], ρ)) = some (rngD a (a - q).toNat (-1), ρ) := if_pos ⟨⟨⟨by rw [lim_eq]; exact h1, by rw [lim_eq]; exact h2⟩, by rw [lim_eq]; exact h3, by rw [lim_eq]; exact h4⟩, rfl⟩
@[simp] theorem s_ItL : kIt (some (.list ds, ρ)) = some (ds, ρ) := rfl
@[simp] theorem s_ItT : kIt (some (.tuple ds, ρ)) = some (ds, ρ) := rfl
@[simp] theorem s_Pv : kPv (some (r, ρ)) = psV ρ r := rfl
@[simp] theorem s_Zp {x y : PyData} : kZp (some ([x, y], ρ)) = (itemsOf x).bind fun xs => (itemsOf y).map fun ys => (zipD xs ys, ρ) := rfl
@[simp] theorem s_En {x : PyData} : kEn (some ([x], ρ)) = (itemsOf x).map fun xs => (enumD xs, ρ) := rfl
@[simp] theorem s_Rg {a : Int} {mk : List PyData → Val} (h1 : -1000000 ≤ a) (h2 : a ≤ 1000000) : kRg (some (.cl (.int a), ρ)) mk = some (mk (rngD 0 a.toNat 1), ρ) := if_pos ⟨by rw [lim_eq]; exact h1, by rw [lim_eq]; exact h2⟩
@[simp] theorem s_Xt : kXt (some d) ρ = some (.cl d, ρ) := rfl
@[simp] theorem s_Ix {a : Int} : kIx (some (b, ds)) ρ a = kXt (atI ds a) ρ := rfl
@[simp] theorem s_CuT {o' : Option Int} : kCu (some (true, ds)) ρ o o' = some (.own (cutD ds o o'), ρ) := rfl
@[simp] theorem s_CuF {o' : Option Int} : kCu (some (false, ds)) ρ o o' = some (.cl (.tuple (cutD ds o o')), ρ) := rfl
@[simp] theorem s_Ln : kLn (some (b, ds)) ρ = some (.cl (.int ds.length), ρ) := rfl
@[simp] theorem s_Ls : kLs (some (b, ds)) ρ = some (.own ds, ρ) := rfl
@[simp] theorem s_Tp : kTp (some (b, ds)) ρ = some (.cl (.tuple ds), ρ) := rfl
@[simp] theorem s_Bl {k : List Bool → Bool} {bs : List Bool} : kBl (some bs) ρ k = some (.cl (.bool (k bs)), ρ) := rfl
/-! ### what the built-ins do -/
@[simp] theorem e_flatI {a : Int} : flatV' (.cl (.int a)) = true := rfl
@[simp] theorem e_flatB : flatV' (.cl (.bool b)) = true := rfl
@[simp] theorem e_flatN : flatV' (.cl .none) = true := rfl
@[simp] theorem e_flatS {x : Str} : flatV' (.cl (.str x)) = true := rfl
@[simp] theorem e_flatT : flatV' (.cl (.tuple ds)) = false := rfl
@[simp] theorem e_flatL : flatV' (.cl (.list ds)) = false := rfl
@[simp] theorem e_flatO : flatV' (.own ds) = false := rfl
@[simp] theorem e_int {k : Int → Int → Option PyData} {a q : Int} : intG k ρ (.cl (.int a)) (.cl (.int q)) = kXt (k a q) ρ := rfl
@[simp] theorem e_neg {a : Int} : negG ρ (.cl (.int a)) = some (.cl (.int (-a)), ρ) := rfl
@[simp] theorem e_add {a q : Int} : addG ρ (.cl (.int a)) (.cl (.int q)) = some (.cl (.int (a + q)), ρ) := rfl
@[simp] theorem e_mulI {a q : Int} (h : MulOk a q) : mulG ρ (.cl (.int a)) (.cl (.int q)) = some (.cl (.int (a * q)), ρ) := if_pos (by first | exact h | (rw [lim_eq]; exact h))
@[simp] theorem e_addT {xs ys : List PyData} (h : xs.length + ys.length ≤ 1000000) : addG ρ (.cl (.tuple xs)) (.cl (.tuple ys)) = some (.cl (.tuple (xs ++ ys)), ρ) := if_pos (by first | exact h | (rw [lim_eq]; exact h))
@[simp] theorem e_addO {xs ys : List PyData} (h : xs.length + ys.length ≤ 1000000) : addG ρ (.own xs) (.own ys) = some (.own (xs ++ ys), ρ) := if_pos (by first | exact h | (rw [lim_eq]; exact h))
@[simp] theorem e_mulT {xs : List PyData} {a : Int} (h1 : -1000 ≤ a) (h2 : a ≤ 1000) (h3 : xs.length ≤ 1000) : mulG ρ (.cl (.tuple xs)) (.cl (.int a)) = some (.cl (.tuple (List.replicate a.toNat xs).flatten), ρ) := if_pos ⟨h1, h2, h3⟩
@[simp] theorem e_seqC : seqOf ρ (.cl (.list ds)) = some (true, ds) := rfl
@[simp] theorem e_seqT : seqOf ρ (.cl (.tuple ds)) = some (false, ds) := rfl
@[simp] theorem e_seqO : seqOf ρ (.own ds) = some (true, ds) := rfl
@[simp] theorem e_seqS : seqOf ρ (.sl i) = match ρ.getD i .no with
    | .op ds => some (true, ds)
    | .pm ds => some (true, ds)
    | .cl (.list ds) => some (true, ds)
    | _ => none := rfl
@[simp] theorem e_datC : datOf ρ (.cl d) = some d := rfl
@[simp] theorem e_datO : datOf ρ (.own ds) = some (.list ds) := rfl
@[simp] theorem e_datS : datOf ρ (.sl i) = match ρ.getD i .no with
    | .op ds => some (.list ds)
    | .pm ds => some (.list ds)
    | .cl d => some d
    | _ => none := rfl
@[simp] theorem e_ix {a : Val} {k : Int} : ixG ρ a (.cl (.int k)) = kIx (seqOf ρ a) ρ k := by
  unfold ixG
  cases seqOf ρ a <;> rfl
@[simp] theorem e_cut {a : Val} {o' : Option Int} : cutG ρ a o o' = kCu (seqOf ρ a) ρ o o' := by
  unfold cutG
  cases seqOf ρ a with
  | none => rfl
  | some q => obtain ⟨b, ds⟩ := q; cases b <;> rfl
@[simp] theorem e_one {k} {a : Val} : oneG k ρ [a] = k ρ a := rfl
@[simp] theorem e_two {k} {a q : Val} : twoG k ρ [a, q] = k ρ a q := rfl
@[simp] theorem e_max2 {a q : Int} : max2G ρ [.cl (.int a), .cl (.int q)] = some (.cl (.int (max a q)), ρ) := by
  show some (Val.cl (.int (if q > a then q else a)), ρ) = _
  congr 4
  simp only [Int.max_def]
  split <;> split <;> omega
@[simp] theorem e_min2 {a q : Int} : min2G ρ [.cl (.int a), .cl (.int q)] = some (.cl (.int (min a q)), ρ) := by
  show some (Val.cl (.int (if q < a then q else a)), ρ) = _
  congr 4
  simp only [Int.min_def]
  split <;> split <;> omega
@[simp] theorem e_max3 {a q k : Int} : threeG mx3 ρ [.cl (.int a), .cl (.int q), .cl (.int k)] = some (.cl (.int (max (max a q) k)), ρ) := by
  show some (Val.cl (.int (mx3 a q k)), ρ) = _
  congr 4
  simp only [mx3, Int.max_def]
  (repeat' split) <;> omega
@[simp] theorem e_min3 {a q k : Int} : threeG mn3 ρ [.cl (.int a), .cl (.int q), .cl (.int k)] = some (.cl (.int (min (min a q) k)), ρ) := by
  show some (Val.cl (.int (mn3 a q k)), ρ) = _
  congr 4
  simp only [mn3, Int.min_def]
  (repeat' split) <;> omega
@[simp] theorem e_lenT : lenG ρ (.cl (.tuple ds)) = some (.cl (.int ds.length), ρ) := rfl
@[simp] theorem e_lenL : lenG ρ (.cl (.list ds)) = some (.cl (.int ds.length), ρ) := rfl
@[simp] theorem e_lenO : lenG ρ (.own ds) = some (.cl (.int ds.length), ρ) := rfl
@[simp] theorem e_lenS : lenG ρ (.sl i) = kLn (seqOf ρ (.sl i)) ρ := rfl
@[simp] theorem e_abs {a : Int} : absG ρ (.cl (.int a)) = some (.cl (.int (if a < 0 then -a else a)), ρ) := rfl
@[simp] theorem e_intT {a : Int} : intTG ρ (.cl (.int a)) = some (.cl (.int a), ρ) := rfl
@[simp] theorem e_intB : intTG ρ (.cl (.bool b)) = some (.cl (.int (if b then 1 else 0)), ρ) := rfl
@[simp] theorem e_list {a : Val} : listG ρ a = kLs (seqOf ρ a) ρ := rfl
@[simp] theorem e_tuple {a : Val} : tupleG ρ a = kTp (seqOf ρ a) ρ := rfl
@[simp] theorem e_qua {k : List Bool → Bool} : quaG k ρ (.own ds) = kBl (blsOf ds) ρ k := rfl
@[simp] theorem e_any {a : Val} : anyG ρ [a] = quaG (fun bs => bs.any id) ρ a := rfl
@[simp] theorem e_all {a : Val} : allG ρ [a] = quaG (fun bs => bs.all id) ρ a := rfl
theorem e_bls {bs : List Bool} : blsOf (bs.map .bool) = some bs := by
  induction bs with
  | nil => rfl
  | cons b bs ih =>
    show (blsOf (bs.map .bool)).map (b :: ·) = _
    rw [ih]; rfl
@[simp] theorem e_isN {neg : Bool} : isNG' neg ρ (.cl d) (.cl .none) = some (.cl (.bool (neg ^^ isNV (.cl d))), ρ) := rfl
@[simp] theorem e_isN0 : isNV (.cl .none) = true := rfl
@[simp] theorem e_isN1 : isNV (.cl (.tuple ds)) = false := rfl
@[simp] theorem e_isN2 {k : Int} : isNV (.cl (.int k)) = false := rfl
@[simp] theorem e_eqI {k : Bool} {a q : Int} : eqQ k ρ (.cl (.int a)) (.cl (.int q)) = some (.cl (.bool (k ^^ decide (a = q))), ρ) := by
  show (if SeqAt.shaped (.int a) = true ∧ SeqAt.shaped (.int q) = true then some (Val.cl (.bool (k ^^ PyData.eqv (.int a) (.int q))), ρ) else none) = _
  rw [if_pos ⟨rfl, rfl⟩]
  rfl
@[simp] theorem e_eqS {k : Bool} {a q : Str} : eqQ k ρ (.cl (.str a)) (.cl (.str q)) = some (.cl (.bool (k ^^ decide (a = q))), ρ) := rfl
/-! where a list is looked at -/
theorem atI_nat' {α : Type} {xs : List α} {k : Int} {n : Nat} (h : k = n) (hn : n < xs.length) : atI xs k = xs[n]? := by
  subst h
  rw [List.getElem?_eq_getElem hn]
  exact atI_nat (List.getElem?_eq_getElem hn)
theorem ixN_nat {n m : Nat} {k : Int} (h : k = m) (hm : m < n) : ixN n k = some m := by
  subst h
  unfold ixN
  simp only [Int.natCast_nonneg, if_true, Int.toNat_natCast]
  rw [if_pos]
  exact_mod_cast hm
theorem atI_cast {α : Type} {xs : List α} {k : Nat} (h : k < xs.length) : atI xs (k : Int) = xs[k]? := atI_nat' rfl h
@[simp] theorem atI0 {α : Type} {x : α} {l : List α} : atI (x :: l) 0 = some x := atI_nat (j := 0) rfl
@[simp] theorem atI1 {α : Type} {x y : α} {l : List α} : atI (x :: y :: l) 1 = some y := atI_nat (j := 1) rfl
@[simp] theorem atI2 {α : Type} {x y z : α} {l : List α} : atI (x :: y :: z :: l) 2 = some z := atI_nat (j := 2) rfl
@[simp] theorem atI3 {α : Type} {x y z u : α} {l : List α} : atI (x :: y :: z :: u :: l) 3 = some u := atI_nat (j := 3) rfl
theorem ixN0 {n : Nat} (h : 0 < n) : ixN n 0 = some 0 := ixN_nat rfl h
theorem ixN1 {n : Nat} (h : 1 < n) : ixN n 1 = some 1 := ixN_nat rfl h
theorem ixN2 {n : Nat} (h : 2 < n) : ixN n 2 = some 2 := ixN_nat rfl h
@[simp] theorem e_mod {a q : Int} : modG a q = if 0 < q then some (.int (a % q)) else none := rfl
@[simp] theorem e_pow18 : powG 10 18 = some (.int 1000000000000000000) := rfl
@[simp] theorem e_fdiv {a q : Int} (h0 : 0 < q) (h1 : q ≤ 4611686018427387904) : fdivG a q = some (.int (a / q)) := by
  refine if_pos ⟨h0, ?_⟩
  have h2 : q.natAbs < 2 ^ 8999 := Nat.lt_of_le_of_lt (show q.natAbs ≤ 4611686018427387904 by omega) (by decide)
  rw [Nat.log2_lt (by omega)]
  exact Nat.lt_trans h2 (by decide)
/-! ### a call's ends -/
def kMr (x : Option Val) (cs : List PyData) : Option (Val × List PyData) := x.map fun v => (v, cs)
def kM (x : Option Out) : Option (Val × List PyData) := x.bind fun o => match o with
  | .rt r ρ' => match ρ'.getD 0 .no with
    | .pm cs' => kMr (retV ρ' r) cs'
    | _ => none
  | .nx ρ' => match ρ'.getD 0 .no with
    | .pm cs' => some (.cl .none, cs')
    | _ => none
  | _ => none
def kPu (x : Option Out) : Option Val := x.bind fun o => match o with
  | .rt r ρ' => retV ρ' r
  | .nx _ => some (.cl .none)
  | _ => none
theorem e_runM {cs : List PyData} : runM n g cs ds = kM (g (argM n cs ds)) := rfl
theorem e_runP : runP n g ds = kPu (g (argE n ds)) := rfl
@[simp] theorem s_M {cs : List PyData} {l : DL.Env} : kM (some (.rt r (.pm cs :: l))) = kMr (retV (.pm cs :: l) r) cs := rfl
@[simp] theorem s_Mn {cs : List PyData} {l : DL.Env} : kM (some (.nx (.pm cs :: l))) = some (.cl .none, cs) := rfl
@[simp] theorem s_Mr {cs : List PyData} : kMr (some r) cs = some (r, cs) := rfl
@[simp] theorem s_Pr : kPu (some (.rt r ρ)) = retV ρ r := rfl
@[simp] theorem s_Pn : kPu (some (.nx ρ)) = some (.cl .none) := rfl
@[simp] theorem e_retC : retV ρ (.cl d) = some (.cl d) := rfl
@[simp] theorem e_retO : retV ρ (.own ds) = some (.own ds) := rfl
@[simp] theorem e_retS : retV ρ (.sl i) = match ρ.getD i .no with
    | .op ds => some (.own ds)
    | .cl d => some (.cl d)
    | _ => none := rfl
end
/-! ### cuts -/
theorem cutD_from {α : List PyData} {o : Option Int} : ∃ k, cutD α o none = α.drop k := ⟨_, by
  unfold cutD
  rw [HT.sIx_none]
  exact List.take_of_length_le (by rw [List.length_drop]; exact Nat.le_refl _)⟩
end DL
end
noncomputable section
namespace DL
open PySem L2

/-! ### loops -/
section
variable {tg : GD} {body : SD}
inductive Goes (I : DL.Env → Prop) (R : Val → DL.Env → Prop) : Out → Prop
  | nx {ρ} : I ρ → Goes I R (.nx ρ)
  | ct {ρ} : I ρ → Goes I R (.ct ρ)
  | rt {r ρ} : R r ρ → Goes I R (.rt r ρ)
theorem loop_any (I : Nat → DL.Env → Prop) (R : Val → DL.Env → Prop) : ∀ (ds : List PyData) (k : Nat) (ρ : DL.Env), I k ρ →
    (∀ i d ρ, ds[i]? = some d → I (k + i) ρ → ∃ ρ1 o, tg ρ d = some ρ1 ∧ body ρ1 = some o ∧ Goes (I (k + i + 1)) R o) →
    ∃ o, loopD tg body ds ρ = some o ∧ ((∃ ρ', o = .nx ρ' ∧ I (k + ds.length) ρ') ∨ ∃ r ρ', o = .rt r ρ' ∧ R r ρ')
  | [], k, ρ, h, _ => ⟨.nx ρ, rfl, .inl ⟨ρ, rfl, h⟩⟩
  | d :: ds, k, ρ, h, hs => by
    obtain ⟨ρ1, o, e1, e2, g⟩ := hs 0 d ρ rfl h
    have hs' : ∀ i d' ρ, ds[i]? = some d' → I (k + 1 + i) ρ → ∃ ρ1 o, tg ρ d' = some ρ1 ∧ body ρ1 = some o ∧ Goes (I (k + 1 + i + 1)) R o := fun i d' ρ e hi => by
      have := hs (i + 1) d' ρ (by simpa using e) (by rwa [show k + (i + 1) = k + 1 + i by omega])
      rwa [show k + (i + 1) + 1 = k + 1 + i + 1 by omega] at this
    have el : k + 1 + ds.length = k + (d :: ds).length := by rw [List.length_cons]; omega
    cases g with
    | nx hi =>
      obtain ⟨o', e3, h3⟩ := loop_any I R ds (k + 1) _ hi hs'
      rw [el] at h3
      refine ⟨o', ?_, h3⟩
      show (tg ρ d).bind _ = _
      rw [e1]
      show (body ρ1).bind _ = _
      rw [e2]
      exact e3
    | ct hi =>
      obtain ⟨o', e3, h3⟩ := loop_any I R ds (k + 1) _ hi hs'
      rw [el] at h3
      refine ⟨o', ?_, h3⟩
      show (tg ρ d).bind _ = _
      rw [e1]
      show (body ρ1).bind _ = _
      rw [e2]
      exact e3
    | rt hr =>
      rename_i r ρ'
      refine ⟨.rt r ρ', ?_, .inr ⟨r, ρ', rfl, hr⟩⟩
      show (tg ρ d).bind _ = _
      rw [e1]
      show (body ρ1).bind _ = _
      rw [e2]
      rfl
/-- a loop that never leaves -/
theorem loop_all (I : Nat → DL.Env → Prop) {ds : List PyData} {ρ : DL.Env} (h0 : I 0 ρ)
    (hs : ∀ i d ρ, ds[i]? = some d → I i ρ → ∃ ρ1 ρ2, tg ρ d = some ρ1 ∧ body ρ1 = some (.nx ρ2) ∧ I (i + 1) ρ2) : ∃ ρ', loopD tg body ds ρ = some (.nx ρ') ∧ I ds.length ρ' := by
  obtain ⟨o, e, h⟩ := loop_any (tg := tg) (body := body) I (fun _ _ => False) ds 0 ρ h0 (fun i d ρ hd hi => by
    rw [Nat.zero_add] at hi
    obtain ⟨ρ1, ρ2, e1, e2, h⟩ := hs i d ρ hd hi
    exact ⟨ρ1, _, e1, e2, .nx (by rwa [Nat.zero_add])⟩)
  rcases h with ⟨ρ', rfl, h⟩ | ⟨_, _, _, z⟩
  · exact ⟨ρ', e, by rwa [Nat.zero_add] at h⟩
  · exact z.elim
theorem rngD_len (a : Int) (n : Nat) (c : Int) : (rngD a n c).length = n := by
  unfold rngD
  rw [List.length_map, List.length_range]
/-- over a range -/
theorem loop_rg (I : Nat → DL.Env → Prop) {a c : Int} {n : Nat} {ρ : DL.Env} (h0 : I 0 ρ)
    (hs : ∀ i ρ, i < n → I i ρ → ∃ ρ1 ρ2, tg ρ (.int (a + i * c)) = some ρ1 ∧ body ρ1 = some (.nx ρ2) ∧ I (i + 1) ρ2) : ∃ ρ', loopD tg body (rngD a n c) ρ = some (.nx ρ') ∧ I n ρ' := by
  obtain ⟨ρ', e, h⟩ := loop_all (tg := tg) (body := body) I (ds := rngD a n c) h0 (fun i d ρ hd hi => by
    obtain ⟨h1, rfl⟩ := rng_get hd
    exact hs i ρ h1 hi)
  exact ⟨ρ', e, by rwa [rngD_len] at h⟩
end

/-! ### comprehensions -/
@[simp] theorem e_wipe0 {ρ : DL.Env} : wipeE ρ [] = ρ := rfl
@[simp] theorem e_wipe {ρ : DL.Env} {v : Nat} {vs : List Nat} : wipeE ρ (v :: vs) = (wipeE ρ vs).set v .no := rfl
@[simp] theorem e_rest0 {ρ ρ0 : DL.Env} : restE ρ ρ0 [] = ρ := rfl
@[simp] theorem e_rest {ρ ρ0 : DL.Env} {v : Nat} {vs : List Nat} : restE ρ ρ0 (v :: vs) = (restE ρ ρ0 vs).set v (ρ0.getD v .no) := rfl
section
variable {own : List Nat} {fi : ID} {tg : GD} {tt : TD} {te : ED}
theorem lcL (I : Nat → List PyData → DL.Env → Prop) : ∀ (ds : List PyData) (k : Nat) (acc : List PyData) (ρ : DL.Env), I k acc ρ →
    (∀ i d acc ρ, ds[i]? = some d → I (k + i) acc ρ → ∃ ρ1 b ρ2, tg ρ d = some ρ1 ∧ tt ρ1 = some (b, ρ2) ∧
      if b = true then ∃ r ρ3 x ρ4, te ρ2 = some (r, ρ3) ∧ psV ρ3 r = some (x, ρ4) ∧ acc.length < lim ∧ I (k + i + 1) (acc ++ [x]) (wipeE ρ4 own) else I (k + i + 1) acc (wipeE ρ2 own)) →
    ∃ acc' ρ', lcLoop own tg tt te acc ds ρ = some (acc', ρ') ∧ I (k + ds.length) acc' ρ'
  | [], k, acc, ρ, h, _ => ⟨acc, ρ, rfl, h⟩
  | d :: ds, k, acc, ρ, h, hs => by
    obtain ⟨ρ1, b, ρ2, e1, e2, g⟩ := hs 0 d acc ρ rfl h
    have el : k + 1 + ds.length = k + (d :: ds).length := by rw [List.length_cons]; omega
    have hs' : ∀ i d' acc ρ, ds[i]? = some d' → I (k + 1 + i) acc ρ → ∃ ρ1 b ρ2, tg ρ d' = some ρ1 ∧ tt ρ1 = some (b, ρ2) ∧
        if b = true then ∃ r ρ3 x ρ4, te ρ2 = some (r, ρ3) ∧ psV ρ3 r = some (x, ρ4) ∧ acc.length < lim ∧ I (k + 1 + i + 1) (acc ++ [x]) (wipeE ρ4 own) else I (k + 1 + i + 1) acc (wipeE ρ2 own) := fun i d' acc ρ e hi => by
      have := hs (i + 1) d' acc ρ (by simpa using e) (by rwa [show k + (i + 1) = k + 1 + i by omega])
      rwa [show k + (i + 1) + 1 = k + 1 + i + 1 by omega] at this
    rw [← el]
    cases b with
    | true =>
      rw [if_pos rfl] at g
      obtain ⟨r, ρ3, x, ρ4, e3, e4, hl, hi⟩ := g
      obtain ⟨acc', ρ', e5, h5⟩ := lcL I ds (k + 1) (acc ++ [x]) _ hi hs'
      refine ⟨acc', ρ', ?_, h5⟩
      show (tg ρ d).bind _ = _
      rw [e1]
      show (tt ρ1).bind _ = _
      rw [e2]
      show (te ρ2).bind _ = _
      rw [e3]
      show (psV ρ3 r).bind _ = _
      rw [e4]
      show (if acc.length < lim then _ else none) = _
      rw [if_pos hl]
      exact e5
    | false =>
      rw [if_neg Bool.false_ne_true] at g
      obtain ⟨acc', ρ', e5, h5⟩ := lcL I ds (k + 1) acc _ g hs'
      refine ⟨acc', ρ', ?_, h5⟩
      show (tg ρ d).bind _ = _
      rw [e1]
      show (tt ρ1).bind _ = _
      rw [e2]
      exact e5
theorem lc_any (I : Nat → List PyData → DL.Env → Prop) {ds : List PyData} {ρ ρ0 : DL.Env} (hf : fi ρ = some (ds, ρ0)) (ho : own.all (fun i => !(ρ0.getD i .no).isOpen) = true) (h0 : I 0 [] (wipeE ρ0 own))
    (hs : ∀ i d acc ρ, ds[i]? = some d → I i acc ρ → ∃ ρ1 b ρ2, tg ρ d = some ρ1 ∧ tt ρ1 = some (b, ρ2) ∧
      if b = true then ∃ r ρ3 x ρ4, te ρ2 = some (r, ρ3) ∧ psV ρ3 r = some (x, ρ4) ∧ acc.length < lim ∧ I (i + 1) (acc ++ [x]) (wipeE ρ4 own) else I (i + 1) acc (wipeE ρ2 own)) :
    ∃ acc ρ', lcD own fi tg tt te ρ = some (.own acc, restE ρ' ρ0 own) ∧ I ds.length acc ρ' := by
  obtain ⟨acc, ρ', e, h⟩ := lcL (own := own) (tg := tg) (tt := tt) (te := te) I ds 0 [] _ h0 (fun i d acc ρ hd hi => by
    rw [Nat.zero_add] at hi
    have := hs i d acc ρ hd hi
    simpa only [Nat.zero_add] using this)
  rw [Nat.zero_add] at h
  refine ⟨acc, ρ', ?_, h⟩
  show (fi ρ).bind _ = _
  rw [hf]
  show (if own.all (fun i => !(ρ0.getD i .no).isOpen) = true then _ else none) = _
  rw [if_pos ho, e]
  rfl
/-- tests and items change nothing -/
theorem lc_pure (f : PyData → Option PyData) {ds : List PyData} {ρ ρ0 : DL.Env} (hf : fi ρ = some (ds, ρ0)) (ho : own.all (fun i => !(ρ0.getD i .no).isOpen) = true) (hl : ds.length ≤ 1000000)
    (hs : ∀ d ∈ ds, ∃ ρ1 b ρ2, tg (wipeE ρ0 own) d = some ρ1 ∧ tt ρ1 = some (b, ρ2) ∧
      if b = true then ∃ r ρ3 x ρ4, te ρ2 = some (r, ρ3) ∧ psV ρ3 r = some (x, ρ4) ∧ f d = some x ∧ wipeE ρ4 own = wipeE ρ0 own else f d = none ∧ wipeE ρ2 own = wipeE ρ0 own) :
    lcD own fi tg tt te ρ = some (.own (ds.filterMap f), restE (wipeE ρ0 own) ρ0 own) := by
  obtain ⟨acc, ρ', e, h1, h2⟩ := lc_any (own := own) (fi := fi) (tg := tg) (tt := tt) (te := te) (fun i acc ρ => acc = (ds.take i).filterMap f ∧ ρ = wipeE ρ0 own) hf ho ⟨rfl, rfl⟩ (fun i d acc ρ hd hi => by
    obtain ⟨rfl, rfl⟩ := hi
    obtain ⟨ρ1, b, ρ2, e1, e2, g⟩ := hs d (List.mem_of_getElem? hd)
    have hi := (List.getElem?_eq_some_iff.mp hd).1
    have et : (ds.take (i + 1)) = ds.take i ++ [d] := by rw [List.take_add_one, hd]; rfl
    refine ⟨ρ1, b, ρ2, e1, e2, ?_⟩
    cases b with
    | true =>
      rw [if_pos rfl] at g ⊢
      obtain ⟨r, ρ3, x, ρ4, e3, e4, e5, e6⟩ := g
      refine ⟨r, ρ3, x, ρ4, e3, e4, ?_, ?_, e6⟩
      · have hl := lim_eq
        have := List.length_filterMap_le f (ds.take i)
        rw [List.length_take] at this
        rw [lim_eq]
        omega
      · rw [et, List.filterMap_append]
        simp [e5]
    | false =>
      rw [if_neg Bool.false_ne_true] at g ⊢
      refine ⟨?_, g.2⟩
      rw [et, List.filterMap_append]
      simp [g.1])
  subst h1 h2
  rw [List.take_length] at e
  exact e
end

/-! ### one turn, as an answer -/
def turn (tg : GD) (body : SD) (ρ : DL.Env) (d : PyData) : Option Out := (tg ρ d).bind body
def kTu (x : Option DL.Env) (body : SD) : Option Out := x.bind body
@[simp] theorem e_turn {tg : GD} {body : SD} {ρ : DL.Env} {d : PyData} : turn tg body ρ d = kTu (tg ρ d) body := rfl
@[simp] theorem s_Tu {body : SD} {ρ : DL.Env} : kTu (some ρ) body = body ρ := rfl
/-- a loop over a range, all told -/
theorem loop_eq {tg : GD} {body : SD} {ρ : DL.Env} {a c : Int} {n : Nat} (E : Nat → DL.Env) (h0 : ρ = E 0) (hs : ∀ i, i < n → turn tg body (E i) (.int (a + i * c)) = some (.nx (E (i + 1)))) :
    loopD tg body (rngD a n c) ρ = some (.nx (E n)) := by
  obtain ⟨ρ', e, h⟩ := loop_rg (tg := tg) (body := body) (a := a) (c := c) (n := n) (ρ := ρ) (fun i ρ => ρ = E i) h0 (fun i ρ hi h => by
    subst h
    obtain ⟨ρ1, e1, e2⟩ := Option.bind_eq_some_iff.mp (hs i hi)
    exact ⟨ρ1, _, e1, e2, rfl⟩)
  rw [e, h]
/-- a loop over anything, all told -/
theorem loop_eqL {tg : GD} {body : SD} {ρ : DL.Env} {ds : List PyData} (E : Nat → DL.Env) (h0 : ρ = E 0) (hs : ∀ i d, ds[i]? = some d → turn tg body (E i) d = some (.nx (E (i + 1)))) :
    loopD tg body ds ρ = some (.nx (E ds.length)) := by
  obtain ⟨ρ', e, h⟩ := loop_all (tg := tg) (body := body) (ds := ds) (ρ := ρ) (fun i ρ => ρ = E i) h0 (fun i d ρ hd h => by
    subst h
    obtain ⟨ρ1, e1, e2⟩ := Option.bind_eq_some_iff.mp (hs i d hd)
    exact ⟨ρ1, _, e1, e2, rfl⟩)
  rw [e, h]
/-- the loop's variable behind i turns -/
def lv (c0 : Cell) (a c : Int) : Nat → Cell
  | 0 => c0
  | i + 1 => .cl (.int (a + i * c))
@[simp] theorem lv0 {c0 : Cell} {a c : Int} : lv c0 a c 0 = c0 := rfl
@[simp] theorem lvS {c0 : Cell} {a c : Int} {i : Nat} : lv c0 a c (i + 1) = .cl (.int (a + i * c)) := rfl
/-- a turn that goes on -/
def Turns (I : DL.Env → Prop) (x : Option Out) : Prop := ∃ ρ2, x = some (.nx ρ2) ∧ I ρ2
theorem turns_nx {I : DL.Env → Prop} {ρ : DL.Env} (h : I ρ) : Turns I (some (.nx ρ)) := ⟨ρ, rfl, h⟩
/-- a loop that may hang on anything: what holds behind it -/
theorem use_loop {P : Option Out → Prop} {tg : GD} {body : SD} {ρ : DL.Env} {ds : List PyData} (I : Nat → DL.Env → Prop) (h0 : I 0 ρ) (hs : ∀ i d ρ, ds[i]? = some d → I i ρ → Turns (I (i + 1)) (turn tg body ρ d))
    (hk : ∀ ρ', I ds.length ρ' → P (some (.nx ρ'))) : P (loopD tg body ds ρ) := by
  obtain ⟨ρ', e, h⟩ := loop_all (tg := tg) (body := body) (ds := ds) (ρ := ρ) I h0 (fun i d ρ hd h => by
    obtain ⟨ρ2, e, h2⟩ := hs i d ρ hd h
    obtain ⟨ρ1, e1, e2⟩ := Option.bind_eq_some_iff.mp e
    exact ⟨ρ1, ρ2, e1, e2, h2⟩)
  rw [e]
  exact hk ρ' h
theorem use_loopR {P : Option Out → Prop} {tg : GD} {body : SD} {ρ : DL.Env} {ds : List PyData} (I : Nat → DL.Env → Prop) (R : Val → DL.Env → Prop) (h0 : I 0 ρ) (hs : ∀ i d ρ, ds[i]? = some d → I i ρ → ∃ o, turn tg body ρ d = some o ∧ Goes (I (i + 1)) R o)
    (hk : ∀ ρ', I ds.length ρ' → P (some (.nx ρ'))) (hr : ∀ r ρ', R r ρ' → P (some (.rt r ρ'))) : P (loopD tg body ds ρ) := by
  obtain ⟨o, e, h⟩ := loop_any (tg := tg) (body := body) I R ds 0 ρ h0 (fun i d ρ hd h => by
    rw [Nat.zero_add] at h ⊢
    obtain ⟨o, e, h2⟩ := hs i d ρ hd h
    obtain ⟨ρ1, e1, e2⟩ := Option.bind_eq_some_iff.mp e
    exact ⟨ρ1, o, e1, e2, h2⟩)
  rw [Nat.zero_add] at h
  rw [e]
  rcases h with ⟨ρ', rfl, h⟩ | ⟨r, ρ', rfl, h⟩
  · exact hk ρ' h
  · exact hr r ρ' h
/-! ### comprehensions, as answers -/
def lcGo (own : List Nat) (tg : GD) (tt : TD) (te : ED) (ds : List PyData) (ρ0 : DL.Env) : Option (Val × DL.Env) := if own.all (fun i => !(ρ0.getD i .no).isOpen) = true then
    (lcLoop own tg tt te [] ds (wipeE ρ0 own)).bind fun q => some (.own q.1, restE q.2 ρ0 own)
  else none
def kLc (x : Option (List PyData × DL.Env)) (own : List Nat) (tg : GD) (tt : TD) (te : ED) : Option (Val × DL.Env) := x.bind fun p => lcGo own tg tt te p.1 p.2
@[simp] theorem e_lc {own : List Nat} {fi : ID} {tg : GD} {tt : TD} {te : ED} {ρ : DL.Env} : lcD own fi tg tt te ρ = kLc (fi ρ) own tg tt te := rfl
@[simp] theorem s_Lc {own : List Nat} {tg : GD} {tt : TD} {te : ED} {ρ : DL.Env} {ds : List PyData} : kLc (some (ds, ρ)) own tg tt te = lcGo own tg tt te ds ρ := rfl
/-- one item: what it adds, and the slots behind it -/
def kJ3 (x : Option (PyData × DL.Env)) (own : List Nat) : Option (Option PyData × DL.Env) := x.map fun p => (some p.1, wipeE p.2 own)
def kJ2 (x : Option (Bool × DL.Env)) (te : ED) (own : List Nat) : Option (Option PyData × DL.Env) := x.bind fun p => if p.1 = true then kJ3 (kPv (te p.2)) own else some (none, wipeE p.2 own)
def kJ1 (x : Option DL.Env) (tt : TD) (te : ED) (own : List Nat) : Option (Option PyData × DL.Env) := x.bind fun ρ => kJ2 (tt ρ) te own
def lcItem (own : List Nat) (tg : GD) (tt : TD) (te : ED) (ρ : DL.Env) (d : PyData) : Option (Option PyData × DL.Env) := kJ1 (tg ρ d) tt te own
@[simp] theorem e_item {own : List Nat} {tg : GD} {tt : TD} {te : ED} {ρ : DL.Env} {d : PyData} : lcItem own tg tt te ρ d = kJ1 (tg ρ d) tt te own := rfl
@[simp] theorem s_J1 {own : List Nat} {tt : TD} {te : ED} {ρ : DL.Env} : kJ1 (some ρ) tt te own = kJ2 (tt ρ) te own := rfl
@[simp] theorem s_J2 {own : List Nat} {te : ED} {ρ : DL.Env} {b : Bool} : kJ2 (some (b, ρ)) te own = if b = true then kJ3 (kPv (te ρ)) own else some (none, wipeE ρ own) := rfl
@[simp] theorem s_J3 {own : List Nat} {ρ : DL.Env} {d : PyData} : kJ3 (some (d, ρ)) own = some (some d, wipeE ρ own) := rfl
theorem item_of {own : List Nat} {tg : GD} {tt : TD} {te : ED} {ρ ρ' : DL.Env} {d : PyData} {o : Option PyData} (h : lcItem own tg tt te ρ d = some (o, ρ')) :
    ∃ ρ1 b ρ2, tg ρ d = some ρ1 ∧ tt ρ1 = some (b, ρ2) ∧ if b = true then ∃ r ρ3 x ρ4, te ρ2 = some (r, ρ3) ∧ psV ρ3 r = some (x, ρ4) ∧ o = some x ∧ wipeE ρ4 own = ρ' else o = none ∧ wipeE ρ2 own = ρ' := by
  obtain ⟨ρ1, e1, h⟩ := Option.bind_eq_some_iff.mp h
  obtain ⟨⟨b, ρ2⟩, e2, h⟩ := Option.bind_eq_some_iff.mp h
  refine ⟨ρ1, b, ρ2, e1, e2, ?_⟩
  cases b with
  | true =>
    rw [if_pos rfl]
    simp only [if_true] at h
    obtain ⟨⟨x, ρ4⟩, e3, h⟩ := Option.map_eq_some_iff.mp h
    obtain ⟨⟨r, ρ3⟩, e4, e5⟩ := Option.bind_eq_some_iff.mp e3
    cases h
    exact ⟨r, ρ3, x, ρ4, e4, e5, rfl, rfl⟩
  | false =>
    rw [if_neg Bool.false_ne_true]
    simp only [Bool.false_eq_true, if_false] at h
    cases h
    exact ⟨rfl, rfl⟩
/-- nothing changes but the slots of the block -/
theorem lc_eq {own : List Nat} {tg : GD} {tt : TD} {te : ED} {ρ : DL.Env} {ds : List PyData} (n : Nat) (g : Nat → PyData) (f : Nat → Option PyData) (hd : ds = (List.range n).map g) (ho : own.all (fun i => !(ρ.getD i .no).isOpen) = true) (hn : n ≤ 1000000)
    (hr : restE (wipeE ρ own) ρ own = ρ) (hs : ∀ k, k < n → lcItem own tg tt te (wipeE ρ own) (g k) = some (f k, wipeE ρ own)) : lcGo own tg tt te ds ρ = some (.own ((List.range n).filterMap f), ρ) := by
  subst hd
  have := lc_any (own := own) (fi := fun ρ' => some ((List.range n).map g, ρ')) (tg := tg) (tt := tt) (te := te) (ρ := ρ) (ρ0 := ρ) (fun i acc ρ' => acc = ((List.range n).take i).filterMap f ∧ ρ' = wipeE ρ own) rfl ho ⟨rfl, rfl⟩ (fun i d acc ρ' hd hi => by
    obtain ⟨rfl, rfl⟩ := hi
    rw [List.getElem?_map] at hd
    obtain ⟨k, hk, rfl⟩ := Option.map_eq_some_iff.mp hd
    have hkn : k < n := List.mem_range.mp (List.mem_of_getElem? hk)
    have hin : i < n := by
      have := (List.getElem?_eq_some_iff.mp hk).1
      simpa using this
    have et : (List.range n).take (i + 1) = (List.range n).take i ++ [k] := by rw [List.take_add_one, hk]; rfl
    obtain ⟨ρ1, b, ρ2, e1, e2, h⟩ := item_of (hs k hkn)
    refine ⟨ρ1, b, ρ2, e1, e2, ?_⟩
    cases b with
    | true =>
      rw [if_pos rfl] at h ⊢
      obtain ⟨r, ρ3, x, ρ4, e3, e4, e5, e6⟩ := h
      refine ⟨r, ρ3, x, ρ4, e3, e4, ?_, ?_, e6⟩
      · have hl := lim_eq
        have := List.length_filterMap_le f ((List.range n).take i)
        rw [List.length_take, List.length_range] at this
        rw [lim_eq]
        omega
      · rw [et, List.filterMap_append]
        simp [e5]
    | false =>
      rw [if_neg Bool.false_ne_true] at h ⊢
      refine ⟨?_, h.2⟩
      rw [et, List.filterMap_append]
      simp [h.1])
  obtain ⟨acc, ρ', e, rfl, rfl⟩ := this
  rw [List.length_map, List.take_length, hr] at e
  exact e
theorem lc_map {own : List Nat} {tg : GD} {tt : TD} {te : ED} {ρ : DL.Env} {ds : List PyData} (n : Nat) (g u : Nat → PyData) (hd : ds = (List.range n).map g) (ho : own.all (fun i => !(ρ.getD i .no).isOpen) = true) (hn : n ≤ 1000000)
    (hr : restE (wipeE ρ own) ρ own = ρ) (hs : ∀ k, k < n → lcItem own tg tt te (wipeE ρ own) (g k) = some (some (u k), wipeE ρ own)) : lcGo own tg tt te ds ρ = some (.own ((List.range n).map u), ρ) := by
  rw [lc_eq n g (fun k => some (u k)) hd ho hn hr hs, List.filterMap_eq_map']
/-! ### rows of integers -/
def iv (n : Nat) (w : Nat → Int) : List PyData := (List.range n).map fun k => .int (w k)
section
variable {n : Nat} {w v : Nat → Int}
@[simp] theorem iv_len : (iv n w).length = n := by simp [iv]
theorem iv_get {k : Nat} (h : k < n) : (iv n w)[k]? = some (.int (w k)) := by simp [iv, h]
theorem iv_mem {d : PyData} (h : d ∈ iv n w) : ∃ k, k < n ∧ d = .int (w k) := by
  simp only [iv, List.mem_map, List.mem_range] at h
  obtain ⟨k, h1, h2⟩ := h
  exact ⟨k, h1, h2.symm⟩
theorem iv_get' {k : Nat} {d : PyData} (h : (iv n w)[k]? = some d) : k < n ∧ d = .int (w k) := by
  have h1 := (List.getElem?_eq_some_iff.mp h).1
  rw [iv_len] at h1
  rw [iv_get h1] at h
  exact ⟨h1, (Option.some.inj h).symm⟩
theorem iv_at {k : Nat} {i : Int} (e : i = k) (h : k < n) : atI (iv n w) i = some (.int (w k)) := by
  rw [atI_nat' e (by simpa using h), iv_get h]
theorem iv_last : atI (iv (n + 1) w) (-1) = some (.int (w n)) := by
  have : iv (n + 1) w = iv n w ++ [.int (w n)] := by simp [iv, List.range_succ]
  rw [this]
  exact atI_last _ _
theorem ixN_last : ixN (n + 1) (-1) = some n := by
  unfold ixN
  rw [if_neg (by omega), if_pos (by omega)]
  congr 1
  omega
theorem iv_congr (h : ∀ k, k < n → w k = v k) : iv n w = iv n v := by
  unfold iv
  apply List.map_congr_left
  intro k hk
  rw [h k (List.mem_range.mp hk)]
theorem iv_inj (h : iv n w = iv n v) : ∀ k, k < n → w k = v k := fun k hk => by
  have h1 := iv_get (w := w) hk
  rw [h, iv_get hk] at h1
  injection h1 with h2
  injection h2 with h3
  exact h3.symm
def put (w : Nat → Int) (m : Nat) (x : Int) : Nat → Int := fun k => if k = m then x else w k
theorem iv_set {m : Nat} {x : Int} : (iv n w).set m (.int x) = iv n (put w m x) := by
  apply List.ext_getElem?
  intro k
  rw [List.getElem?_set]
  by_cases hk : k < n
  · rw [iv_get hk, iv_get hk]
    unfold put
    by_cases h : m = k
    · subst h
      simp [hk]
    · rw [if_neg h, if_neg (fun z => h z.symm)]
  · have e : ∀ u : Nat → Int, (iv n u)[k]? = none := fun u => List.getElem?_eq_none (by simp; omega)
    rw [e, e]
    by_cases h : m = k
    · subst h
      simp [hk]
    · rw [if_neg h]
theorem iv_zip : zipD (iv n w) (iv n v) = (List.range n).map fun k => .tuple [.int (w k), .int (v k)] := by
  unfold zipD
  apply List.ext_getElem?
  intro k
  rw [List.getElem?_zipWith, List.getElem?_map]
  by_cases hk : k < n
  · rw [iv_get hk, iv_get hk]
    simp [hk]
  · have e : ∀ u : Nat → Int, (iv n u)[k]? = none := fun u => List.getElem?_eq_none (by simp; omega)
    rw [e]
    simp [hk]
theorem fm_list {f : PyData → Option PyData} {g : Nat → PyData} {u : Nat → PyData} : ∀ (l : List Nat), (∀ k ∈ l, f (g k) = some (u k)) → (l.map g).filterMap f = l.map u
  | [], _ => rfl
  | k :: l, h => by
    rw [List.map_cons, List.map_cons, List.filterMap_cons, h k (List.mem_cons_self ..), fm_list l fun m hm => h m (List.mem_cons_of_mem _ hm)]
theorem fm_range {f : PyData → Option PyData} {g : Nat → PyData} {u : Nat → PyData} (h : ∀ k, k < n → f (g k) = some (u k)) : ((List.range n).map g).filterMap f = (List.range n).map u :=
  fm_list _ fun k hk => h k (List.mem_range.mp hk)
end
/-- over a row of integers, to one -/
theorem lc_iv {own : List Nat} {tg : GD} {tt : TD} {te : ED} {ρ : DL.Env} {n : Nat} {w : Nat → Int} (u : Nat → Int) (ho : own.all (fun i => !(ρ.getD i .no).isOpen) = true) (hn : n ≤ 1000000)
    (hr : restE (wipeE ρ own) ρ own = ρ) (hs : ∀ k, k < n → lcItem own tg tt te (wipeE ρ own) (.int (w k)) = some (some (.int (u k)), wipeE ρ own)) : lcGo own tg tt te (iv n w) ρ = some (.own (iv n u), ρ) :=
  lc_map n _ (fun k => .int (u k)) rfl ho hn hr hs
/-- over two rows -/
theorem lc_iv2 {own : List Nat} {tg : GD} {tt : TD} {te : ED} {ρ : DL.Env} {n : Nat} {w v : Nat → Int} (u : Nat → Int) (ho : own.all (fun i => !(ρ.getD i .no).isOpen) = true) (hn : n ≤ 1000000)
    (hr : restE (wipeE ρ own) ρ own = ρ) (hs : ∀ k, k < n → lcItem own tg tt te (wipeE ρ own) (.tuple [.int (w k), .int (v k)]) = some (some (.int (u k)), wipeE ρ own)) : lcGo own tg tt te (zipD (iv n w) (iv n v)) ρ = some (.own (iv n u), ρ) :=
  lc_map n _ (fun k => .int (u k)) iv_zip ho hn hr hs

/-! ### lists by place -/
def gl (n : Nat) (g : Nat → PyData) : List PyData := (List.range n).map g
section
variable {n : Nat} {g h : Nat → PyData}
@[simp] theorem gl_len : (gl n g).length = n := by simp [gl]
theorem gl_get {k : Nat} (hk : k < n) : (gl n g)[k]? = some (g k) := by simp [gl, hk]
theorem gl_get' {k : Nat} {d : PyData} (e : (gl n g)[k]? = some d) : k < n ∧ d = g k := by
  have h1 := (List.getElem?_eq_some_iff.mp e).1
  rw [gl_len] at h1
  rw [gl_get h1] at e
  exact ⟨h1, (Option.some.inj e).symm⟩
theorem gl_at {k : Nat} {i : Int} (e : i = k) (hk : k < n) : atI (gl n g) i = some (g k) := by
  rw [atI_nat' e (by simpa using hk), gl_get hk]
theorem gl_congr (e : ∀ k, k < n → g k = h k) : gl n g = gl n h := by
  unfold gl
  exact List.map_congr_left fun k hk => e k (List.mem_range.mp hk)
def putD (g : Nat → PyData) (m : Nat) (x : PyData) : Nat → PyData := fun k => if k = m then x else g k
theorem putD_same {m : Nat} {x : PyData} : putD g m x m = x := if_pos rfl
theorem putD_ne {m k : Nat} {x : PyData} (e : k ≠ m) : putD g m x k = g k := if_neg e
theorem gl_set {m : Nat} {x : PyData} : (gl n g).set m x = gl n (putD g m x) := by
  apply List.ext_getElem?
  intro k
  rw [List.getElem?_set]
  by_cases hk : k < n
  · rw [gl_get hk, gl_get hk]
    unfold putD
    by_cases h : m = k
    · subst h
      simp [hk]
    · rw [if_neg h, if_neg (fun z => h z.symm)]
  · have e : ∀ u : Nat → PyData, (gl n u)[k]? = none := fun u => List.getElem?_eq_none (by simp; omega)
    rw [e, e]
    by_cases h : m = k
    · subst h
      simp [hk]
    · rw [if_neg h]
theorem gl_zip : zipD (gl n g) (gl n h) = gl n fun k => .tuple [g k, h k] := by
  unfold zipD
  apply List.ext_getElem?
  intro k
  rw [List.getElem?_zipWith]
  by_cases hk : k < n
  · rw [gl_get hk, gl_get hk, gl_get hk]
  · have e : ∀ u : Nat → PyData, (gl n u)[k]? = none := fun u => List.getElem?_eq_none (by simp; omega)
    rw [e, e, e]
theorem gl_zip_iv {w : Nat → Int} : zipD (gl n g) (iv n w) = gl n fun k => .tuple [g k, .int (w k)] := gl_zip (h := fun k => .int (w k))
theorem lc_glf {own : List Nat} {tg : GD} {tt : TD} {te : ED} {ρ : DL.Env} (f : Nat → Option PyData) (ho : own.all (fun i => !(ρ.getD i .no).isOpen) = true) (hn : n ≤ 1000000)
    (hr : restE (wipeE ρ own) ρ own = ρ) (hs : ∀ k, k < n → lcItem own tg tt te (wipeE ρ own) (g k) = some (f k, wipeE ρ own)) : lcGo own tg tt te (gl n g) ρ = some (.own ((List.range n).filterMap f), ρ) :=
  lc_eq n g f rfl ho hn hr hs
theorem enum_gl : enumD (gl n g) = gl n fun k => .tuple [.int (k : Nat), g k] := by
  unfold enumD
  apply List.ext_getElem?
  intro k
  rw [List.getElem?_mapIdx]
  by_cases hk : k < n
  · rw [gl_get hk, gl_get hk]; rfl
  · have e : ∀ u : Nat → PyData, (gl n u)[k]? = none := fun u => List.getElem?_eq_none (by simp; omega)
    rw [e, e]; rfl
theorem enum_iv {w : Nat → Int} : enumD (iv n w) = gl n fun k => .tuple [.int (k : Nat), .int (w k)] := enum_gl (g := fun k => .int (w k))
theorem gl_succ : gl (n + 1) g = gl n g ++ [g n] := by simp [gl, List.range_succ]
theorem iv_succ {w : Nat → Int} : iv (n + 1) w = iv n w ++ [.int (w n)] := by simp [iv, List.range_succ]
theorem bls_gl {b : Nat → Bool} : blsOf (gl n fun k => .bool (b k)) = some ((List.range n).map b) := by
  have : (gl n fun k => PyData.bool (b k)) = ((List.range n).map b).map .bool := by simp [gl]
  rw [this, e_bls]
theorem lc_gl {own : List Nat} {tg : GD} {tt : TD} {te : ED} {ρ : DL.Env} (u : Nat → PyData) (ho : own.all (fun i => !(ρ.getD i .no).isOpen) = true) (hn : n ≤ 1000000)
    (hr : restE (wipeE ρ own) ρ own = ρ) (hs : ∀ k, k < n → lcItem own tg tt te (wipeE ρ own) (g k) = some (some (u k), wipeE ρ own)) : lcGo own tg tt te (gl n g) ρ = some (.own (gl n u), ρ) :=
  lc_map n g u rfl ho hn hr hs
end
end DL
end
namespace DL
open PySem L2

/-! ### comprehensions whose items draw: what holds behind them -/
def Items (I : List PyData → DL.Env → Prop) (acc : List PyData) (x : Option (Option PyData × DL.Env)) : Prop := ∃ o ρ2, x = some (o, ρ2) ∧ I (acc ++ o.toList) ρ2
theorem items_some {I : List PyData → DL.Env → Prop} {acc : List PyData} {d : PyData} {ρ : DL.Env} (h : I (acc ++ [d]) ρ) : Items I acc (some (some d, ρ)) := ⟨some d, ρ, rfl, h⟩
theorem items_none {I : List PyData → DL.Env → Prop} {acc : List PyData} {ρ : DL.Env} (h : I acc ρ) : Items I acc (some (none, ρ)) := ⟨none, ρ, rfl, by simpa using h⟩
theorem use_lc {P : Option (Val × DL.Env) → Prop} {own : List Nat} {tg : GD} {tt : TD} {te : ED} {ρ : DL.Env} {ds : List PyData} (I : Nat → List PyData → DL.Env → Prop) (hl : ds.length ≤ 1000000)
    (ho : own.all (fun i => !(ρ.getD i .no).isOpen) = true) (h0 : I 0 [] (wipeE ρ own)) (hs : ∀ i d acc ρ', ds[i]? = some d → I i acc ρ' → Items (I (i + 1)) acc (lcItem own tg tt te ρ' d))
    (hk : ∀ acc ρ', I ds.length acc ρ' → P (some (.own acc, restE ρ' ρ own))) : P (lcGo own tg tt te ds ρ) := by
  have := lc_any (own := own) (fi := fun ρ' => some (ds, ρ')) (tg := tg) (tt := tt) (te := te) (ρ := ρ) (ρ0 := ρ) (fun i acc ρ' => acc.length ≤ i ∧ I i acc ρ') rfl ho ⟨Nat.le_refl _, h0⟩ (fun i d acc ρ' hd hi => by
    obtain ⟨hi, h⟩ := hi
    have hin := (List.getElem?_eq_some_iff.mp hd).1
    obtain ⟨o, ρ9, e, h2⟩ := hs i d acc ρ' hd h
    obtain ⟨ρ1, b, ρ2, e1, e2, g⟩ := item_of e
    refine ⟨ρ1, b, ρ2, e1, e2, ?_⟩
    cases b with
    | true =>
      rw [if_pos rfl] at g ⊢
      obtain ⟨r, ρ3, x, ρ4, e3, e4, rfl, rfl⟩ := g
      refine ⟨r, ρ3, x, ρ4, e3, e4, ?_, ?_, h2⟩
      · rw [lim_eq]; omega
      · rw [List.length_append]; show acc.length + 1 ≤ i + 1; omega
    | false =>
      rw [if_neg Bool.false_ne_true] at g ⊢
      obtain ⟨rfl, rfl⟩ := g
      exact ⟨by omega, by simpa using h2⟩)
  obtain ⟨acc, ρ', e, _, h⟩ := this
  have e2 : lcGo own tg tt te ds ρ = some (.own acc, restE ρ' ρ own) := e
  rw [e2]
  exact hk acc ρ' h
/-- a turn that goes on or leaves -/
def TurnsR (I : DL.Env → Prop) (R : Val → DL.Env → Prop) (x : Option Out) : Prop := ∃ o, x = some o ∧ Goes I R o
theorem turnsR_nx {I : DL.Env → Prop} {R : Val → DL.Env → Prop} {ρ : DL.Env} (h : I ρ) : TurnsR I R (some (.nx ρ)) := ⟨_, rfl, .nx h⟩
theorem turnsR_ct {I : DL.Env → Prop} {R : Val → DL.Env → Prop} {ρ : DL.Env} (h : I ρ) : TurnsR I R (some (.ct ρ)) := ⟨_, rfl, .ct h⟩
theorem turnsR_rt {I : DL.Env → Prop} {R : Val → DL.Env → Prop} {r : Val} {ρ : DL.Env} (h : R r ρ) : TurnsR I R (some (.rt r ρ)) := ⟨_, rfl, .rt h⟩
theorem use_loopT {P : Option Out → Prop} {tg : GD} {body : SD} {ρ : DL.Env} {ds : List PyData} (I : Nat → DL.Env → Prop) (R : Val → DL.Env → Prop) (h0 : I 0 ρ) (hs : ∀ i d ρ, ds[i]? = some d → I i ρ → TurnsR (I (i + 1)) R (turn tg body ρ d))
    (hk : ∀ ρ', I ds.length ρ' → P (some (.nx ρ'))) (hr : ∀ r ρ', R r ρ' → P (some (.rt r ρ'))) : P (loopD tg body ds ρ) := use_loopR I R h0 hs hk hr
end DL
noncomputable section
namespace DL
open PySem L2

/-! ### sum, count, index, in, sorted, as answers -/
section
variable {ρ : DL.Env} {a b r r1 r2 : Val} {b1 b2 : Bool} {ds : List PyData} {ns : List Int} {k : Int}
def kSm2 (x : Option (List Int)) (ρ : DL.Env) : Option (Val × DL.Env) := x.map fun ns => (.cl (.int ns.sum), ρ)
def kSm (x : Option (Bool × List PyData)) (ρ : DL.Env) : Option (Val × DL.Env) := x.bind fun q => kSm2 (intsOf q.2) ρ
@[simp] theorem e_sum : sumG ρ a = kSm (seqOf ρ a) ρ := rfl
@[simp] theorem s_Sm : kSm (some (b1, ds)) ρ = kSm2 (intsOf ds) ρ := rfl
@[simp] theorem s_Sm2 : kSm2 (some ns) ρ = some (.cl (.int ns.sum), ρ) := rfl
def kSo2 (x : Option (List Int)) (ρ : DL.Env) : Option (Val × DL.Env) := x.map fun ns => (.own ((sortI ns).map .int), ρ)
def kSo (x : Option (Bool × List PyData)) (ρ : DL.Env) : Option (Val × DL.Env) := x.bind fun q => kSo2 (intsOf q.2) ρ
@[simp] theorem e_sorted : sortG ρ a = kSo (seqOf ρ a) ρ := rfl
@[simp] theorem s_So : kSo (some (b1, ds)) ρ = kSo2 (intsOf ds) ρ := rfl
@[simp] theorem s_So2 : kSo2 (some ns) ρ = some (.own ((sortI ns).map .int), ρ) := rfl
def kUq2 (x : Option (List Int)) (ρ : DL.Env) : Option (Val × DL.Env) := x.bind fun ns => if ns.length ≤ 4000 ∧ (dd ns).length < 64 then some (.own ((sortU ns).map .int), ρ) else none
def kUq (x : Option (Bool × List PyData)) (ρ : DL.Env) : Option (Val × DL.Env) := x.bind fun q => if q.1 = true then kUq2 (intsOf q.2) ρ else none
@[simp] theorem e_uni : uniG ρ a = kUq (seqOf ρ a) ρ := by
  unfold uniG kUq
  cases seqOf ρ a with
  | none => rfl
  | some q =>
    obtain ⟨b, ds⟩ := q
    cases b <;> rfl
@[simp] theorem s_Uq : kUq (some (true, ds)) ρ = kUq2 (intsOf ds) ρ := rfl
@[simp] theorem s_Uq2 (h1 : ns.length ≤ 4000) (h2 : (dd ns).length < 64) : kUq2 (some ns) ρ = some (.own ((sortU ns).map .int), ρ) := if_pos ⟨h1, h2⟩
def kV4 (x : Option (Bool × List PyData)) (b : Bool) (g : M1) (ρ : DL.Env) (r2 : Val) : Option (Val × DL.Env) := x.bind fun k2 => if k2.1 = b then g ρ k2.2 r2 else none
def kV3 (x : Option (Val × DL.Env)) (r : Val) (b : Bool) (g : M1) : Option (Val × DL.Env) := x.bind fun q => kV4 (seqOf q.2 r) b g q.2 q.1
def kV2 (x : Option (Bool × List PyData)) (ρ : DL.Env) (r : Val) (f2 : ED) (g : M1) : Option (Val × DL.Env) := x.bind fun k => kV3 (f2 ρ) r k.1 g
def kV1 (x : Option (Val × DL.Env)) (f2 : ED) (g : M1) : Option (Val × DL.Env) := x.bind fun p => kV2 (seqOf p.2 p.1) p.2 p.1 f2 g
variable {f1 f2 : ED} {g : M1}
@[simp] theorem e_metV : metV f1 f2 g ρ = kV1 (f1 ρ) f2 g := rfl
@[simp] theorem s_V1 : kV1 (some (r, ρ)) f2 g = kV2 (seqOf ρ r) ρ r f2 g := rfl
@[simp] theorem s_V2 : kV2 (some (b1, ds)) ρ r f2 g = kV3 (f2 ρ) r b1 g := rfl
@[simp] theorem s_V3 : kV3 (some (r2, ρ)) r b1 g = kV4 (seqOf ρ r) b1 g ρ r2 := rfl
@[simp] theorem s_V4 : kV4 (some (b1, ds)) b1 g ρ r2 = g ρ ds r2 := if_pos rfl
def kCn (x : Option (List Int)) (k : Int) (ρ : DL.Env) : Option (Val × DL.Env) := x.map fun ns => (.cl (.int (ns.count k : Nat)), ρ)
@[simp] theorem e_cnt : cntG ρ ds (.cl (.int k)) = kCn (intsOf ds) k ρ := rfl
@[simp] theorem s_Cn : kCn (some ns) k ρ = some (.cl (.int (ns.count k : Nat)), ρ) := rfl
def kIdx (x : Option (List Int)) (k : Int) (ρ : DL.Env) : Option (Val × DL.Env) := x.bind fun ns => if k ∈ ns then some (.cl (.int (ns.idxOf k : Nat)), ρ) else none
@[simp] theorem e_idx : idxG ρ ds (.cl (.int k)) = kIdx (intsOf ds) k ρ := rfl
@[simp] theorem s_Idx (h : k ∈ ns) : kIdx (some ns) k ρ = some (.cl (.int (ns.idxOf k : Nat)), ρ) := if_pos h
/-! rows of whole numbers -/
@[simp] theorem ints_map : intsOf (ns.map .int) = some ns := intsOf_map ns
@[simp] theorem ints_iv {n : Nat} {w : Nat → Int} : intsOf (iv n w) = some ((List.range n).map w) := by
  have : iv n w = ((List.range n).map w).map .int := by simp [iv]
  rw [this, intsOf_map]
theorem flats_ints : ∀ (ns : List Int), flatsOf (ns.map .int) = some (ns.map V.int)
  | [] => rfl
  | n :: ns => by
    show (flatOf (.int n)).bind _ = _
    show (flatsOf (ns.map .int)).map _ = _
    rw [flats_ints ns]; rfl
theorem in_ints : ∀ (ns : List Int), inV (.int k) (ns.map V.int) = decide (k ∈ ns)
  | [] => by simp [inV]
  | n :: ns => by
    have ih := in_ints ns
    show ((n == k) || inV (.int k) (ns.map V.int)) = _
    rw [ih]
    by_cases h : n = k
    · subst h; simp
    · have h2 : ¬ k = n := fun z => h z.symm
      simp [h, h2]
def kIn2 (x : Option (List V)) (v : V) (neg : Bool) (ρ : DL.Env) : Option (Val × DL.Env) := x.map fun xs => (.cl (.bool (if neg then !inV v xs else inV v xs)), ρ)
def kIn1 (x : Option (Bool × List PyData)) (v : V) (neg : Bool) (ρ : DL.Env) : Option (Val × DL.Env) := x.bind fun q => kIn2 (flatsOf q.2) v neg ρ
def kIn0 (x : Option V) (b : Val) (neg : Bool) (ρ : DL.Env) : Option (Val × DL.Env) := x.bind fun v => kIn1 (seqOf ρ b) v neg ρ
@[simp] theorem e_in {neg : Bool} {d : PyData} : inG neg ρ (.cl d) b = kIn0 (flatOf d) b neg ρ := rfl
@[simp] theorem s_In0 {neg : Bool} {v : V} : kIn0 (some v) b neg ρ = kIn1 (seqOf ρ b) v neg ρ := rfl
@[simp] theorem s_In1 {neg : Bool} {v : V} : kIn1 (some (b1, ds)) v neg ρ = kIn2 (flatsOf ds) v neg ρ := rfl
@[simp] theorem f_int : flatOf (.int k) = some (.int k) := rfl
@[simp] theorem f_str {x : Str} : flatOf (.str x) = some (.str x) := rfl
@[simp] theorem f_ints : flatsOf (ns.map .int) = some (ns.map V.int) := flats_ints ns
@[simp] theorem f_iv {n : Nat} {w : Nat → Int} : flatsOf (iv n w) = some (((List.range n).map w).map V.int) := by
  have : iv n w = ((List.range n).map w).map .int := by simp [iv]
  rw [this, flats_ints]
@[simp] theorem s_InI : kIn2 (some (ns.map V.int)) (.int k) false ρ = some (.cl (.bool (decide (k ∈ ns))), ρ) := by
  unfold kIn2
  rw [Option.map_some, in_ints]; rfl
@[simp] theorem s_NiI : kIn2 (some (ns.map V.int)) (.int k) true ρ = some (.cl (.bool (!decide (k ∈ ns))), ρ) := by
  unfold kIn2
  rw [Option.map_some, in_ints]; rfl
/-! a name and an item -/
def kIt4 (m : Option Nat) (ρ : DL.Env) (j : Nat) (k : Bool) (ds : List PyData) (d : PyData) : Option Out := m.bind fun m => some (.nx (opSet ρ j k (ds.set m d)))
def kAs2 (x : Option (List PyData × DL.Env)) (i j k : Nat) : Option Out := x.bind fun q => match q.1 with
  | [d1, d2] => itemSt (q.2.set i (.cl d1)) j k d2
  | _ => none
@[simp] theorem e_asg {i j k : Nat} {t : AD} : asgNS i j k t ρ = kAs2 (kPs (t ρ)) i j k := by
  unfold asgNS kAs2 kPs
  cases t ρ <;> rfl
@[simp] theorem s_As2 {i j k : Nat} {d1 d2 : PyData} : kAs2 (some ([d1, d2], ρ)) i j k = itemSt (ρ.set i (.cl d1)) j k d2 := rfl
theorem item_st {j k : Nat} {i : Int} {kk : Bool} {d : PyData} (h1 : ρ.getD k .no = .cl (.int i)) (h2 : opAt ρ j = some (kk, ds)) : itemSt ρ j k d = kIt4 (ixN ds.length i) ρ j kk ds d := by
  unfold itemSt
  rw [h1, h2]; rfl
@[simp] theorem s_It4 {j m : Nat} {kk : Bool} {d : PyData} : kIt4 (some m) ρ j kk ds d = some (.nx (opSet ρ j kk (ds.set m d))) := rfl
def kEx (x : Option (Bool × List PyData)) (ds : List PyData) (ρ : DL.Env) : Option (Val × List PyData × DL.Env) := x.bind fun q => if q.1 = true then (if ds.length + q.2.length ≤ lim then some (.cl .none, ds ++ q.2, ρ) else none) else none
@[simp] theorem e_ext : extG ρ ds [r] = kEx (seqOf ρ r) ds ρ := by
  unfold kEx
  show (match seqOf ρ r with
    | some (true, es) => (if ds.length + es.length ≤ lim then some (Val.cl .none, ds ++ es, ρ) else none)
    | _ => none) = _
  cases seqOf ρ r with
  | none => rfl
  | some q =>
    obtain ⟨b, es⟩ := q
    cases b <;> rfl
@[simp] theorem s_Ex {es : List PyData} (h : ds.length + es.length ≤ 1000000) : kEx (some (true, es)) ds ρ = some (.cl .none, ds ++ es, ρ) := if_pos (by rw [lim_eq]; exact h)
end
/-- a lent list, nothing drawn -/
theorem lcB_pure {j : Nat} {own : List Nat} {tg : GD} {tt : TD} {te : ED} {ρ : DL.Env} {ds es : List PyData} (h : ρ.getD j .no = .op ds) (g : lcGo own tg tt te (enumD ds) (ρ.set j .no) = some (.own es, ρ.set j .no)) : lcB j own tg tt te ρ = some (.own es, ρ) := by
  have hl : j < ρ.length := by
    by_cases z : j < ρ.length
    · exact z
    · rw [List.getD_eq_getElem?_getD, List.getElem?_eq_none (by omega)] at h; cases h
  have hn : (ρ.set j .no).getD j .no = .no := by rw [List.getD_eq_getElem?_getD, List.getElem?_set_self hl]; rfl
  have hb : (ρ.set j .no).set j (.op ds) = ρ := by
    rw [List.set_set]
    apply List.ext_getElem?
    intro k
    rw [List.getElem?_set]
    by_cases hk : j = k
    · subst hk
      rw [if_pos rfl, if_pos hl, List.getElem?_eq_getElem hl]
      rw [List.getD_eq_getElem?_getD, List.getElem?_eq_getElem hl] at h
      exact congrArg some h.symm
    · rw [if_neg hk]
  unfold lcB
  rw [h]
  unfold lcGo at g
  simp only
  split at g
  · rename_i ha
    rw [if_pos ha]
    obtain ⟨⟨q1, q2⟩, e1, e2⟩ := Option.bind_eq_some_iff.mp g
    rw [e1]
    have e3 : q1 = es ∧ restE q2 (ρ.set j .no) own = ρ.set j .no := by
      simp only [Option.some.injEq, Prod.mk.injEq, Val.own.injEq] at e2
      exact e2
    show (match (restE q2 (ρ.set j .no) own).getD j .no with
      | .no => some (Val.own q1, (restE q2 (ρ.set j .no) own).set j (.op ds))
      | _ => none) = _
    rw [e3.2, hn, hb, e3.1]
  · cases g
@[simp] theorem e_mulO {ρ : DL.Env} {xs : List PyData} {a : Int} (h1 : -1000 ≤ a) (h2 : a ≤ 1000) (h3 : xs.length ≤ 1000) : mulG ρ (.own xs) (.cl (.int a)) = some (.own (List.replicate a.toNat xs).flatten, ρ) := if_pos ⟨h1, h2, h3⟩
theorem add_seq {ρ : DL.Env} {a b : Val} {xs ys : List PyData} (ha : seqOf ρ a = some (true, xs)) (hb : seqOf ρ b = some (true, ys)) (h : xs.length + ys.length ≤ 1000000) : addG ρ a b = some (.own (xs ++ ys), ρ) := by
  cases a with
  | cl d => cases d <;> cases b <;> rename_i d2 <;> first | (cases ha; done) | (cases d2 <;> first | (cases hb; done) | (unfold addG; simp only [ha, hb]; rw [if_pos (by rw [lim_eq]; exact h)])) | (unfold addG; simp only [ha, hb]; rw [if_pos (by rw [lim_eq]; exact h)])
  | own es => unfold addG; simp only [ha, hb]; rw [if_pos (by rw [lim_eq]; exact h)]
  | sl i => unfold addG; simp only [ha, hb]; rw [if_pos (by rw [lim_eq]; exact h)]
end DL
end
noncomputable section
namespace DL
open PySem L2

/-! ### data that can be compared and shown -/
structure Nice (h w : Nat) (d : PyData) : Prop where
  sh : d.showable = true
  nd : d.hasDict = false
  cl : d.canLay0 = true
  ls : d.leavesShort 13 = true
  dp : d.depth ≤ h
  wt : d.weight ≤ w
theorem Nice.mono {h h' w w' : Nat} {d : PyData} (N : Nice h w d) (a : h ≤ h') (b : w ≤ w') : Nice h' w' d := ⟨N.sh, N.nd, N.cl, N.ls, Nat.le_trans N.dp a, Nat.le_trans N.wt b⟩
theorem nice_none : Nice 0 0 .none := ⟨rfl, rfl, rfl, rfl, Nat.le_refl _, Nat.le_refl _⟩
theorem nice_bool (b : Bool) : Nice 0 0 (.bool b) := ⟨rfl, rfl, rfl, rfl, Nat.le_refl _, Nat.le_refl _⟩
theorem nice_int {i : Int} (h1 : -1000000 ≤ i) (h2 : i ≤ 1000000) : Nice 0 21 (.int i) := by
  have hl : i.natAbs.log2 < 20 := by
    by_cases h0 : i.natAbs = 0
    · rw [h0]; decide
    · exact (Nat.log2_lt h0).mpr (by omega)
  refine ⟨?_, by simp only [PyData.hasDict], by simp only [PyData.canLay0], ?_, by simp only [PyData.depth]; omega, ?_⟩
  · simp only [PyData.showable, decide_eq_true_eq]; omega
  · simp only [PyData.leavesShort, decide_eq_true_eq]
    exact PyData.shown_int_le2 (by omega) (by omega)
  · simp only [PyData.weight]
    split <;> omega
theorem nice_all {h w : Nat} : ∀ {xs : List PyData}, (∀ x ∈ xs, Nice h w x) → PyData.showableAll xs = true ∧ PyData.hasDictAll xs = false ∧ PyData.canLayAll0 xs = true ∧ PyData.leavesShortAll 13 xs = true ∧ PyData.depthAll xs ≤ h ∧ PyData.weightAll xs ≤ (w + 1) * xs.length
  | [], _ => ⟨rfl, rfl, rfl, rfl, Nat.zero_le _, by simp only [PyData.weightAll]; omega⟩
  | x :: xs, hx => by
    have N := hx x (List.mem_cons_self ..)
    obtain ⟨a, b, c, d, e, f⟩ := nice_all (xs := xs) fun y hy => hx y (List.mem_cons_of_mem _ hy)
    refine ⟨?_, ?_, ?_, ?_, ?_, ?_⟩
    · simp only [PyData.showableAll, N.sh, a, Bool.and_self]
    · simp only [PyData.hasDictAll, N.nd, b, Bool.or_self]
    · simp only [PyData.canLayAll0, N.cl, c, Bool.and_self]
    · simp only [PyData.leavesShortAll, N.ls, d, Bool.and_self]
    · simp only [PyData.depthAll]
      have := N.dp
      omega
    · simp only [PyData.weightAll, List.length_cons]
      have := N.wt
      have e2 : (w + 1) * (xs.length + 1) = (w + 1) * xs.length + (w + 1) := by rw [Nat.mul_add, Nat.mul_one]
      omega
theorem nice_tup {h w : Nat} {xs : List PyData} (hx : ∀ x ∈ xs, Nice h w x) : Nice (h + 1) ((w + 1) * xs.length) (.tuple xs) := by
  obtain ⟨a, b, c, d, e, f⟩ := nice_all hx
  refine ⟨by simpa only [PyData.showable] using a, by simpa only [PyData.hasDict] using b, by simpa only [PyData.canLay0] using c, by simpa only [PyData.leavesShort] using d, by simp only [PyData.depth]; omega, by simpa only [PyData.weight] using f⟩
theorem nice_lst {h w : Nat} {xs : List PyData} (hx : ∀ x ∈ xs, Nice h w x) : Nice (h + 1) ((w + 1) * xs.length) (.list xs) := by
  obtain ⟨a, b, c, d, e, f⟩ := nice_all hx
  refine ⟨by simpa only [PyData.showable] using a, by simpa only [PyData.hasDict] using b, by simpa only [PyData.canLay0] using c, by simpa only [PyData.leavesShort] using d, by simp only [PyData.depth]; omega, by simpa only [PyData.weight] using f⟩
abbrev Ok60 (d : PyData) : Prop := Nice 60 1000000 d
theorem rep_cond {d : PyData} (N : Ok60 d) : (d.showable = true ∧ d.hasDict = false) ∧ d.shown.length ≤ sizeLine ∧ d.depth ≤ 60 := by
  have h1 := PyData.shown_le 13 (by omega) d N.ls
  have h2 := N.wt
  have h3 : sizeLine = 16777216 := sizeLine_eq
  exact ⟨⟨N.sh, N.nd⟩, by omega, N.dp⟩
section
variable {ρ : DL.Env} {d e : PyData} {ds : List PyData} {k : Bool}
theorem rep_cl (N : Ok60 d) : repG ρ (.cl d) = some (.cl (.str d.shown), ρ) := if_pos (rep_cond N)
theorem rep_own (N : Ok60 (.list ds)) : repG ρ (.own ds) = some (.cl (.str (PyData.list ds).shown), ρ) := if_pos (rep_cond N)
theorem shaped_of (N : Ok60 d) : SeqAt.shaped d = true := by
  unfold SeqAt.shaped
  rw [N.cl, decide_eq_true (Nat.le_trans N.dp (by omega : 60 ≤ 64))]
  rfl
theorem eq_same2 (N : Ok60 d) : eqQ k ρ (.cl d) (.cl d) = some (.cl (.bool (k ^^ true)), ρ) := by
  have h : eqG k ρ (.cl d) (.cl d) = some (.cl (.bool (k ^^ true)), ρ) := by
    show (if SeqAt.shaped d = true ∧ SeqAt.shaped d = true then some (Val.cl (.bool (k ^^ PyData.eqv d d)), ρ) else none) = _
    rw [if_pos ⟨shaped_of N, shaped_of N⟩, PySem.SeqAt.eqv_refl d N.cl]
  unfold eqQ
  split
  · rename_i a b e1 e2
    cases e1
    cases e2
    simp
  · exact h
end
end DL
end
noncomputable section
namespace DL
open PySem PySem.Spec PyProof.Rows L2

/-! ### from the promise of the law's def (with the guards told) to the row -/
section
variable {P : Program} {w : World} {K : PySem.W.Frag} {cs : List (Addr × Addr)} {mg mb : Str → Option Value} {CX : CXT} {k : Nat} {fa a : Addr} {fd : FuncData} {x : Str} {sp : Sp} {s : Shared} {us : List Value} {ns : List Int}
/-- the tables of the makers, empty, and where they stand -/
structure Makers (K : PySem.W.Frag) (cs : List (Addr × Addr)) (h : Heap) : Prop where
  tab : ∀ p ∈ cs, h.get? p.2 = some { cls := .none, data := .fields #[] }
  code : ∀ p ∈ cs, PySem.W.CodeHd h p.1 p.2
  out : ∀ p ∈ cs, K.lookup p.2 = none
/-- an abstract heap that tracks the tables, and the script at most -/
structure Tracks (cs : List (Addr × Addr)) (a : Addr) (H : Hp) : Prop where
  tabs : ∀ p ∈ cs, H p.2 = some (.tbl #[])
  only : ∀ b, H b = none ∨ (∃ p ∈ cs, p.2 = b) ∨ (b = a ∧ ∃ o xs, H b = some (.frz o (.lst xs)))
theorem lawCore (H : Hp) (hO : Tracks cs a H) (hok : HOk P w H s.heap) (out : H a ≠ none → K.lookup a = none) (mk : Makers K cs s.heap)
    (inK : K.In s.heap) (nsG : s.heap.Ns mainGlobals mg) (nsB : s.heap.Ns builtinsNs mb) (plain : ∀ y : Str, y ≠ "__name__" → mb y = bootBuiltins y) (nolim : s.heap.NoLimit) (nogen : s.gens = #[])
    (bmain : ∃ (bm : Addr) (ob : Obj), mg "__builtins__" = some (.ref bm) ∧ bm ≠ builtinsNs ∧ s.heap.get? bm = some ob ∧ ob.cls = .type "module" ∧ ob.dict = some builtinsNs ∧ ob.data = .plain)
    (isA : s.heap.get? a = some { cls := .type "list", data := .seq us.toArray }) (room : Room k callerA) (guards : callerA.guards = some [])
    (F : ∀ base : Heap, K.In base → base.Ns mainGlobals mg → (∀ p ∈ cs, LamX.TabB base mg p.1 p.2) → FnG P w K mg base CX k fa fd [x] sp) (bind : ∀ (t : Shared) (u : Value), BindsTo t fd ⟨[u], []⟩ [(x, u)])
    (hsp : sp [.ref a] H (fun v _ => v = .bl true) fun _ _ _ => False) (hCX : ∀ e t, CX [] H s (fun _ _ _ => False) e t → False) :
    codeAny (model P w) callerA (.call (.ref fa) ⟨[.ref a], []⟩) (fun r t => r = .ok (.ret (.bool true)) ∧ OldK s.heap t.heap ∧ t.os = s.os ∧ AllBare t.gens) s := by
  -- what is neither the script nor a table is not tracked
  have free : ∀ {b : Addr} {o : Obj}, s.heap.get? b = some o → (∀ ys n, o.data ≠ .seq ys n) → o.data ≠ .fields #[] → H b = none := fun {b o} e h1 h2 => by
    rcases hO.only b with z | ⟨p, hp, rfl⟩ | ⟨rfl, _⟩
    · exact z
    · rw [mk.tab p hp] at e
      cases e
      exact (h2 rfl).elim
    · rw [isA] at e
      cases e
      exact (h1 _ _ rfl).elim
  have ns' : ∀ {b : Addr} {m : Str → Option Value}, s.heap.Ns b m → (hidT s.heap H).Ns b m := fun {b m} z => by
    obtain ⟨o, es, ep, e, d, r⟩ := z
    exact ⟨o, es, ep, hidT_get e (free e (fun ys n q => by rw [d] at q; cases q) (fun q => by rw [d] at q; cases q)), d, r⟩
  have inK' : K.In (hidT s.heap H) := fun b o e => hidT_get (inK b o e) (by
    rcases hO.only b with z | ⟨p, hp, rfl⟩ | ⟨rfl, _, _, z⟩
    · exact z
    · rw [mk.out p hp] at e; cases e
    · rw [out fun q => by rw [z] at q; cases q] at e
      cases e)
  have M : Mod K mg (hidT s.heap H) := by
    obtain ⟨mc, l1, l2⟩ := nolim
    exact ⟨inK', ns' nsG, ⟨mb, ns' nsB, plain⟩, ⟨mc, ns' l1, l2⟩⟩
  have tb : ∀ p ∈ cs, LamX.TabB (hidT s.heap H) mg p.1 p.2 := fun p hp => by
    have at2 := mk.tab p hp
    obtain ⟨o, vs, fl, tf, n7, tg, b9, n10, tt, c1, c2, c3, c4, c5⟩ := mk.code p hp
    obtain ⟨bm, ob, m1, m2, m3, m4, m5, m6⟩ := bmain
    obtain ⟨og, eg, epg, g1, g2, _⟩ := nsG
    have notG : ∀ q : Addr, s.heap.get? q = s.heap.get? mainGlobals → q = mainGlobals → True := fun _ _ _ => trivial
    refine ⟨⟨o, vs, fl, tf, n7, tg, b9, n10, tt, hidT_get c1 (free c1 (fun ys n z => by rw [c3] at z; cases z) fun z => by rw [c3] at z; cases z; simp at c4), c2, c3, c4, c5⟩, ⟨bm, ob, m1, m2, ?_, ?_, hidT_get m3 (free m3 (fun ys n z => by rw [m6] at z; cases z) fun z => by rw [m6] at z; cases z), m4, m5, m6⟩, ?_⟩
    · intro z
      subst z
      rw [g1] at m3
      cases m3
      rw [g2] at m6; cases m6
    · intro z
      subst z
      rw [at2] at m3
      cases m3
      cases m6
    · intro z
      rw [← z, g1] at at2
      cases at2
      cases g2
  have e0 : Env0 P w K mg (hidT s.heap H) callerA [] s H := by
    refine ⟨rfl, M, fun b o e => of_hidT e, Nat.le_of_eq (hidT_size _ _), trivial, fun b hb => ?_, hok, .of_eq nogen⟩
    exact absurd (show b ∈ ([] : List Addr) from hb) (by simp)
  have go := (F _ inK' (ns' nsG) tb).go callerA [] s H ⟨[.ref a], []⟩ [.ref a] [.ref a] _ _ guards room e0 (bind s (.ref a)) (.cons rfl .nil) hsp
  refine codeAny_mono go ?_
  intro r t h
  cases r with
  | error e => exact (hCX e t h).elim
  | ok fl =>
    cases fl with
    | next => exact False.elim h
    | brk => exact False.elim h
    | cont => exact False.elim h
    | ret u =>
      obtain ⟨v, H', hos, hbare, hun, hok', hr, hv⟩ := h
      have hv' : v = .bl true := hv
      subst hv'
      have hu : u = Value.bool true := hr
      subst hu
      -- object by object
      have each : ∀ b o, s.heap.get? b = some o → t.heap.get? b = some o ∨ ∃ p ∈ cs, p.2 = b ∧ ∃ more : Array Value, t.heap.get? b = some { cls := .none, data := .fields more } := fun b o e => by
        rcases hO.only b with z | ⟨p, hp, rfl⟩ | ⟨_, o', ys, z⟩
        · exact .inl (hun.keep b o e z (fun q => absurd (show b ∈ ([] : List Addr) from q) (by simp)) (by simp))
        · obtain ⟨more, q⟩ := hun.tbls p.2 #[] (hO.tabs p hp)
          exact .inr ⟨p, hp, rfl, _, hok' p.2 _ q⟩
        · have z' := hun.frzs b o' _ z
          have f1 := (hok b _ z).1
          have f2 := (hok' b _ z').1
          rw [e] at f1
          cases f1
          exact .inl f2
      refine ⟨rfl, ⟨fun b o e => ?_, fun b o e => ?_⟩, hos, hbare⟩
      · rcases each b o e with z | ⟨p, hp, rfl, more, z⟩
        · exact .inl z
        · have at2 := mk.tab p hp
          rw [at2] at e
          cases e
          exact .inr (.inl ⟨((mk.code p hp).tab at2).isCodeTable, rfl, #[], more, rfl, by rw [Array.empty_append]; exact z⟩)
      · rcases each b o e with z | ⟨_, _, _, _, z⟩
        · exact ⟨_, z⟩
        · exact ⟨_, z⟩
theorem ints_vals : ∀ {us : List Value} {ns : List Int}, IntsAre us ns → Vals (ns.map V.int) us
  | _, _, .nil => .nil
  | _, _, .cons n t h => .cons ⟨t, rfl⟩ (ints_vals h)
theorem lawD (mk : Makers K cs s.heap) (inK : K.In s.heap) (nsG : s.heap.Ns mainGlobals mg) (nsB : s.heap.Ns builtinsNs mb) (plain : ∀ y : Str, y ≠ "__name__" → mb y = bootBuiltins y) (nolim : s.heap.NoLimit) (nogen : s.gens = #[])
    (bmain : ∃ (bm : Addr) (ob : Obj), mg "__builtins__" = some (.ref bm) ∧ bm ≠ builtinsNs ∧ s.heap.get? bm = some ob ∧ ob.cls = .type "module" ∧ ob.dict = some builtinsNs ∧ ob.data = .plain)
    (isA : s.heap.get? a = some { cls := .type "list", data := .seq us.toArray }) (hi : IntsAre us ns) (hl : ns.length ≤ sizeLine) (room : Room k callerA) (guards : callerA.guards = some [])
    (F : ∀ base : Heap, K.In base → base.Ns mainGlobals mg → (∀ p ∈ cs, LamX.TabB base mg p.1 p.2) → FnG P w K mg base CX k fa fd [x] sp) (bind : ∀ (t : Shared) (u : Value), BindsTo t fd ⟨[u], []⟩ [(x, u)])
    (hsp : ∀ H : Hp, Tabs (cs.map (·.2)) H → SqL K H a (ns.map V.int) → sp [.ref a] H (fun v _ => v = .bl true) fun _ _ _ => False) (hCX : ∀ H e t, CX [] H s (fun _ _ _ => False) e t → False) :
    codeAny (model P w) callerA (.call (.ref fa) ⟨[.ref a], []⟩) (fun r t => r = .ok (.ret (.bool true)) ∧ OldK s.heap t.heap ∧ t.os = s.os ∧ AllBare t.gens) s := by
  have lu : us.length = ns.length := hi.length
  have rv := ints_vals hi
  have aT : ∀ p ∈ cs, p.2 ≠ a := fun p hp z => by
    have q := mk.tab p hp
    rw [z, isA] at q
    cases q
  have tabs : ∀ H : Hp, Tracks cs a H → Tabs (cs.map (·.2)) H := fun H t q hq => by
    obtain ⟨p, hp, rfl⟩ := List.mem_map.mp hq
    exact LamX.TabS.nil (t.tabs p hp)
  have tob : ∀ (H : Hp) (b : Addr) (u : HO), (∃ p ∈ cs, p.2 = b) → H b = some (.tbl #[]) → H b = some u → ObjOk P w H s.heap b u := fun H b u hb e z => by
    obtain ⟨p, hp, rfl⟩ := hb
    rw [e] at z
    cases z
    exact mk.tab p hp
  by_cases hk : ∃ o, K.lookup a = some o
  · obtain ⟨o, hk⟩ := hk
    have e := inK a o hk
    rw [isA] at e
    cases e
    have tr : Tracks cs a (fun b => open Classical in if ∃ p ∈ cs, p.2 = b then some (.tbl #[]) else none) := ⟨fun p hp => if_pos ⟨p, hp, rfl⟩, fun b => by
      by_cases hb : ∃ p ∈ cs, p.2 = b
      · exact .inr (.inl hb)
      · exact .inl (if_neg hb)⟩
    have na : (fun b => open Classical in if ∃ p ∈ cs, p.2 = b then some (HO.tbl #[]) else none) a = none := if_neg fun ⟨p, hp, z⟩ => aT p hp z
    have hS : ∀ H : Hp, SqL K H a (ns.map V.int) := fun H => .inr ⟨_, us.toArray, _, hk, rfl, rfl, rfl, by rw [List.size_toArray, lu]; exact hl, by simpa using rv⟩
    refine lawCore _ tr (fun b u z => ?_) (fun z => absurd na z) mk inK nsG nsB plain nolim nogen bmain isA room guards F bind (hsp _ (tabs _ tr) (hS _)) (hCX _)
    by_cases hb : ∃ p ∈ cs, p.2 = b
    · exact tob _ b u hb (if_pos hb) z
    · exact absurd ((if_neg hb).symm.trans z) (fun q => nomatch q)
  · have hk : K.lookup a = none := by
      cases e : K.lookup a with
      | none => rfl
      | some o => exact absurd ⟨o, e⟩ hk
    have tr : Tracks cs a (fun b => open Classical in if b = a then some (HO.frz { cls := .type "list", data := .seq us.toArray } (.lst (ns.map V.int))) else if ∃ p ∈ cs, p.2 = b then some (.tbl #[]) else none) := ⟨fun p hp => (if_neg (aT p hp)).trans (if_pos ⟨p, hp, rfl⟩), fun b => by
      by_cases ha : b = a
      · exact .inr (.inr ⟨ha, _, _, if_pos ha⟩)
      · by_cases hb : ∃ p ∈ cs, p.2 = b
        · exact .inr (.inl hb)
        · exact .inl ((if_neg ha).trans (if_neg hb))⟩
    have hA : (fun b => open Classical in if b = a then some (HO.frz { cls := .type "list", data := .seq us.toArray } (.lst (ns.map V.int))) else if ∃ p ∈ cs, p.2 = b then some (.tbl #[]) else none) a = some (HO.frz { cls := .type "list", data := .seq us.toArray } (.lst (ns.map V.int))) := if_pos rfl
    refine lawCore _ tr (fun b u z => ?_) (fun _ => hk) mk inK nsG nsB plain nolim nogen bmain isA room guards F bind (hsp _ (tabs _ tr) (.inl (.inr ⟨_, hA⟩))) (hCX _)
    by_cases ha : b = a
    · subst ha
      have z' := hA.symm.trans z
      cases z'
      exact ⟨isA, by rw [List.length_map]; exact hl, us, _, rv, isA⟩
    · by_cases hb : ∃ p ∈ cs, p.2 = b
      · exact tob _ b u hb ((if_neg ha).trans (if_pos hb)) z
      · exact absurd (((if_neg ha).trans (if_neg hb)).symm.trans z) (fun q => nomatch q)
theorem noTab_of {h : Heap} {Q : Addr} (X : K.In h) (e : PySem.W.noTabs K = true) (hQ : h.get? Q = some { cls := .none, data := .fields #[] }) : K.lookup Q = none := by
  cases l : K.lookup Q with
  | none => rfl
  | some o =>
    have q := X Q o l
    rw [hQ] at q
    cases q
    have z := List.all_eq_true.mp e _ (PySem.W.mem_of_lookupK l)
    exact absurd (show false = true from z) Bool.false_ne_true
/-- the end: no maker -/
theorem walkD {l : PySem.W.OpenLaw} {n k : Nat} {q : Program} {loose : List Str} {XP : (Str → Option Value) → Heap → Prop} {YP : World → Heap → Prop} {d : DefRec} {K : Params → PySem.W.Frag} {sp : Fg → Sp} {x : Str}
    (hn : l.most = some n) (hn2 : n ≤ sizeLine) (hdf : d.params.defaults = []) (hr : Room k callerA) (hg : callerA.guards = some [])
    (hY : ∀ (w : World) (h : Heap), YP w h → (K w.params).In h)
    (F : ∀ (w : World) (mg : Str → Option Value) (fa : Addr) (h : Heap), (K w.params).In h → h.Ns mainGlobals mg → mg d.name = some (.ref fa) →
      ∃ fd : FuncData, (∀ (t : Shared) (u : Value), BindsTo t fd ⟨[u], []⟩ [(x, u)]) ∧ ∀ base : Heap, (K w.params).In base → base.Ns mainGlobals mg → FnG l.prog w (K w.params) mg base CX0 k fa fd [x] (sp ⟨K w.params, []⟩))
    (hsp : ∀ (K : Fg) (H : Hp) (a : Addr) (ns : List Int), ns.length ≤ n → Tabs K.T H → SqL K H a (ns.map V.int) → sp K [.ref a] H (fun v _ => v = .bl true) fun _ _ _ => False) :
    PySem.W.WalkO q loose XP YP l.row.toRowW d [] (fun f vs => PySem.call f vs) := by
  refine Att.attach_call hn hdf fun w s₀ s₁ mg mb fa o pm cd doc a vs ns G Y ho hd hcd hmg hobj hints hlen hgn => ?_
  have KX := hY w _ Y
  obtain ⟨fd, hb, hF⟩ := F w mg fa _ KX G.T.g hmg
  exact lawD (cs := []) ⟨(fun _ z => nomatch z), (fun _ z => nomatch z), (fun _ z => nomatch z)⟩ KX G.T.g G.T.b G.T.builtins G.T.nolimit hgn G.T.bmain hobj hints (Nat.le_trans hlen hn2) hr hg (fun base h1 h2 _ => hF base h1 h2) hb (fun H hT hS => hsp ⟨K w.params, []⟩ H a ns hlen hT hS) fun H e t z => z
/-- the end: with makers -/
theorem walkT {l : PySem.W.OpenLaw} {n k : Nat} {q : Program} {loose : List Str} {XP : (Str → Option Value) → Heap → Prop} {YP : World → Heap → Prop} {d : DefRec} {K : Params → PySem.W.Frag} {sp : Fg → Sp} {x : Str} (cs : List (Addr × Addr))
    (hn : l.most = some n) (hn2 : n ≤ sizeLine) (hdf : d.params.defaults = []) (hr : Room k callerA) (hg : callerA.guards = some [])
    (hY : ∀ (w : World) (h : Heap), YP w h → (K w.params).In h) (hT : ∀ (w : World) (h : Heap), YP w h → ∀ p ∈ cs, h.get? p.2 = some { cls := .none, data := .fields #[] })
    (hN : ∀ w : World, PySem.W.noTabs (K w.params) = true) (hC : ∀ w : World, ∀ p ∈ cs, PySem.W.codeHdIn (K w.params) p.1 p.2 = true)
    (F : ∀ (w : World) (mg : Str → Option Value) (fa : Addr) (h : Heap), (K w.params).In h → h.Ns mainGlobals mg → mg d.name = some (.ref fa) →
      ∃ fd : FuncData, (∀ (t : Shared) (u : Value), BindsTo t fd ⟨[u], []⟩ [(x, u)]) ∧ ∀ base : Heap, (K w.params).In base → base.Ns mainGlobals mg → (∀ p ∈ cs, LamX.TabB base mg p.1 p.2) → FnG l.prog w (K w.params) mg base CX0 k fa fd [x] (sp ⟨K w.params, cs.map (·.2)⟩))
    (hsp : ∀ (K : Fg) (H : Hp) (a : Addr) (ns : List Int), ns.length ≤ n → Tabs K.T H → SqL K H a (ns.map V.int) → sp K [.ref a] H (fun v _ => v = .bl true) fun _ _ _ => False) :
    PySem.W.WalkO q loose XP YP l.row.toRowW d [] (fun f vs => PySem.call f vs) := by
  refine Att.attach_call hn hdf fun w s₀ s₁ mg mb fa o pm cd doc a vs ns G Y ho hd hcd hmg hobj hints hlen hgn => ?_
  have KX := hY w _ Y
  have at2 := hT w _ Y
  obtain ⟨fd, hb, hF⟩ := F w mg fa _ KX G.T.g hmg
  exact lawD (cs := cs) ⟨at2, fun p hp => PySem.W.codeHd_of_K KX (hC w p hp), fun p hp => noTab_of KX (hN w) (at2 p hp)⟩ KX G.T.g G.T.b G.T.builtins G.T.nolimit hgn G.T.bmain hobj hints (Nat.le_trans hlen hn2) hr hg hF hb (fun H hT hS => hsp ⟨K w.params, cs.map (·.2)⟩ H a ns hlen hT hS) fun H e t z => z
end

theorem tabs1 {h : Heap} {lc lp : Addr} (t : ∀ P ∈ [lp], h.get? P = some (PySem.W.tabObj #[])) : ∀ p ∈ [(lc, lp)], h.get? p.2 = some { cls := .none, data := .fields #[] } := fun p hp => by
  rw [List.mem_singleton.mp hp]
  exact t lp (List.mem_singleton.mpr rfl)

/-! ### the first row of a law: its script, cut, in a new list -/
def RIs (K : Fg) (ns : List Int) : TI := fun σ H R => ∃ P B L ρ a, Rep K P B L σ ρ H ∧ σ[0]? = some (some (V.ref a)) ∧ SqL K H a (ns.map V.int) ∧
  ∀ J H' L' E', Post K P B L σ H [] ρ H' L' E' → WalksA K (E' ++ P) B L' H' J ((ns.take 63).map .int) → R J H'
theorem cut63 (ns : List Int) : cutV (ns.map V.int) none (some 63) = (ns.take 63).map V.int := by
  unfold cutV
  rw [HT.sIx_none, show HT.sIx (ns.map V.int).length (ns.map V.int).length (some 63) = min 63 (ns.map V.int).length from HT.sIx_nat _ _ 63, List.drop_zero, Nat.sub_zero, List.map_take]
  by_cases h : 63 ≤ (ns.map V.int).length
  · rw [Nat.min_eq_left h]
  · rw [Nat.min_eq_right (by omega), List.take_of_length_le (Nat.le_refl _), List.take_of_length_le (by omega)]
section
variable {X : Cx} {tl : TL} {tgE : Expr} {x : Str} {p pos p2 ip : Pos} {ik : Option Str} {ns : List Int}
theorem i_scr {kk} (hN : X.N[0]? = some x := by rfl) (hv : Vis X.env.scope x := by first | exact Or.inl rfl | exact Or.inr (Or.inl rfl) | exact Or.inr (Or.inr rfl)) (hd : (x == ("__debug__" : Str)) = false := by decide) (hcd : (x == ("__classdict__" : Str)) = false := by decide) :
    PI X tgE (.Subscript (.Name x p) (.Slice none (some (.Constant (.int 63) kk ip)) none p2) pos) (RIs (X.D tl) ns) :=
  (pi_list (pe_slice sl_list (pe_var hN hv hd hcd) po_none (po_some pe_int))).imp fun σ H R h => by
    obtain ⟨P, B, L, ρ, a, R0, e1, hS, k⟩ := h
    refine ⟨.ref a, e1, 63, rfl, a, ns.map V.int, rfl, hS, fun c hc => ?_⟩
    rw [cut63]
    have kp : Keep [] H (upd H c (.lst ((ns.take 63).map V.int))) := Keep.new hc
    have R1 := R0.same kp
    refine ⟨c, rfl, ⟨_, .of upd_same⟩, k _ _ L [] (.same (E := []) R0 kp) (walks_l R1 (.lst (fun z => ?_) upd_same (DqA.of_ints _)))⟩
    obtain ⟨vs, q⟩ := R0.wl c z
    rw [hc] at q
    cases q
theorem lc_scr {own is : List Nat} {K : Fg} {tg : GD} {tt : TD} {te : ED} (hin : ∀ i ∈ is, i ∈ own) {σ : L2.St} {H : Hp} {Q : VK} (h : (∃ a, σ[0]? = some (some (V.ref a)) ∧ SqL K H a (ns.map V.int)) ∧ RD K (lcD own (fun ρ => some ((ns.take 63).map .int, ρ)) tg tt te) σ H Q) :
    tLc (RIs K ns) (RG K is tg) (RT K tt) (RD K te) own σ H Q := by
  obtain ⟨⟨a, e1, hS⟩, h⟩ := h
  obtain ⟨P, B, L, ρ, ds, ρ', R0, e, k⟩ := lc_imp hin h
  cases e
  exact ⟨P, B, L, ρ, a, R0, e1, hS, k⟩
end
/-- what the first row makes of a script -/
def bagD (ns : List Int) : List PyData := [.int 0, .int 1234567891, .int 0, .list (((ns.take 63).map fun i => if i < 0 then -i else i).map .int)]
def spB (K : Fg) : Sp := fun vs H Q _ => ∃ (a : Addr) (ns : List Int), vs = [.ref a] ∧ SqL K H a (ns.map V.int) ∧ Tabs K.T H ∧ ∀ b us H', Keep [] H H' → H b = none → H' b = some (.lst us) → DqA K H' [b] us (bagD ns) → Q (.ref b) H'
/-- what law(script) promises -/
def spL (K : Fg) : Sp := fun vs H Q _ => ∃ (a : Addr) (ns : List Int), vs = [.ref a] ∧ SqL K H a (ns.map V.int) ∧ ns.length ≤ 63 ∧ Tabs K.T H ∧ ∀ H', Q (.bl true) H'
theorem bag_lc (ns : List Int) {ρ : DL.Env} (h : (ρ.getD 1 .no).isOpen = false) (hl : 1 < ρ.length) : lcD [1] (fun ρ => some ((ns.take 63).map .int, ρ)) (nameT 1) yesT (callD (acons (varD 1) anil) (oneG absG)) ρ = some (.own (((ns.take 63).map fun i => if i < 0 then -i else i).map .int), restE (wipeE ρ [1]) ρ [1]) := by
  have go : ∀ (l : List Int) (acc : List PyData), acc.length + l.length < 1000 → lcLoop [1] (nameT 1) yesT (callD (acons (varD 1) anil) (oneG absG)) acc (l.map .int) (wipeE ρ [1]) = some (acc ++ (l.map fun i => if i < 0 then -i else i).map .int, wipeE ρ [1]) := by
    intro l
    induction l with
    | nil => intro acc _; simp [lcLoop]
    | cons i l ih =>
      intro acc ha
      have e1 : (varD 1) ((wipeE ρ [1]).set 1 (.cl (.int i))) = some (.cl (.int i), (wipeE ρ [1]).set 1 (.cl (.int i))) := by
        unfold varD
        rw [getD_set, if_pos ⟨rfl, by simp [wipeE]; omega⟩]
      have e2 : (callD (acons (varD 1) anil) (oneG absG)) ((wipeE ρ [1]).set 1 (.cl (.int i))) = some (.cl (.int (if i < 0 then -i else i)), (wipeE ρ [1]).set 1 (.cl (.int i))) := by
        show ((acons (varD 1) anil) _).bind _ = _
        unfold acons
        rw [e1]
        rfl
      have e3 : wipeE ((wipeE ρ [1]).set 1 (.cl (.int i))) [1] = wipeE ρ [1] := by
        simp [wipeE, List.set_set]
      show (some ((wipeE ρ [1]).set 1 (.cl (.int i)))).bind _ = _
      simp only [Option.bind_some]
      show (some (true, (wipeE ρ [1]).set 1 (.cl (.int i)))).bind _ = _
      simp only [Option.bind_some, if_true]
      rw [e2]
      simp only [Option.bind_some, psV]
      rw [if_pos (show acc.length < lim by rw [lim_eq]; rw [List.length_cons] at ha; omega), e3, ih (acc ++ [_]) (by rw [List.length_append, List.length_cons, List.length_nil]; rw [List.length_cons] at ha; omega)]
      simp
  show (some ((ns.take 63).map PyData.int, ρ)).bind _ = _
  simp only [Option.bind_some]
  rw [if_pos (by simpa using h), go _ _ (by rw [List.length_take]; simp; omega)]
  rfl

section
variable {K : Fg} {N : List Str} {a : Addr} {ns : List Int} {H : Hp} {Q : VK}
theorem rep_no {P B L : List Addr} (h : ∀ b ∈ P ++ B ++ L, ∃ vs, H b = some (.lst vs)) (nd : (∀ b ∈ P, b ∉ B ∧ b ∉ L) ∧ ∀ b ∈ B, b ∉ L) (ht : Tabs K.T H) (σ : L2.St) : Rep K P B L σ (List.replicate σ.length .no) H := by
  have e : ∀ i, (List.replicate σ.length Cell.no).getD i .no = .no := fun i => by
    rw [List.getD_eq_getElem?_getD, List.getElem?_replicate]
    split <;> rfl
  refine ⟨by simp, h, nd, fun i => ?_, fun i j b _ h1 _ _ _ => ?_, ht⟩
  · rw [e]; trivial
  · rw [e] at h1; cases h1
theorem bag_read (hN : N.length = 2) (hS : SqL K H a (ns.map V.int)) (ht : Tabs K.T H) (k : ∀ b us H', Keep [] H H' → H b = none → H' b = some (.lst us) → DqA K H' [b] us (bagD ns) → Q (.ref b) H') :
    (tRet (tLst (tCons (tC (.int 0)) (tCons (tC (.int 1234567891)) (tCons (tC (.int 0)) (tCons (fun σ H Q => (∃ a, σ[0]? = some (some (V.ref a)) ∧ SqL K H a (ns.map V.int)) ∧ RD K (lcD [1] (fun ρ => some ((ns.take 63).map .int, ρ)) (nameT 1) yesT (callD (acons (varD 1) anil) (oneG absG))) σ H Q) tNil))))))
      { nx := fun _ H' => Q .non H', rt := Q } (L2.start N [V.ref a]) H := by
  have hl : (L2.start N [V.ref a]).length = 2 := by rw [start_len (by rw [hN]; exact (by decide : 1 ≤ 2)), hN]
  have R0 := rep_no (K := K) (H := H) (P := []) (B := []) (L := []) (fun _ z => nomatch z) ⟨(fun _ z => nomatch z), (fun _ z => nomatch z)⟩ ht (L2.start N [V.ref a])
  rw [hl] at R0
  refine ⟨⟨a, rfl, hS⟩, [], [], [], _, _, _, R0, bag_lc ns rfl (by decide), fun x H' L' E' p v => ?_⟩
  obtain ⟨c, vs, rfl, hc, _, hh, dq⟩ := v
  refine ⟨by show 4 ≤ sizeLine; rw [sizeLine_eq]; decide, fun b hb => ?_⟩
  have kp : Keep [] H H' := p.step.keep
  have hb0 : H b = none := by
    cases e : H b with
    | none => rfl
    | some o => exact absurd hb (p.step.ne b (by rw [e]; exact fun z => nomatch z))
  have cb : c ≠ b := fun z => by rw [z, hb] at hh; cases hh
  refine k b _ _ (kp.tr (Keep.new hb)) hb0 upd_same ?_
  refine .cons (.int 0) (.cons (.int _) (.cons (.int 0) (.cons (.lst (by simpa using cb) (by rw [upd_ne cb]; exact hh) ?_) .nil)))
  rw [DqA.ints dq]
  exact DqA.of_ints _
theorem law_read {g : SD} (hN : 2 ≤ N.length) (hS : SqL K H a (ns.map V.int)) (ht : Tabs K.T H) (q : ∀ H', Q (.bl true) H') (hg : ∃ ρ', g (Cell.no :: Cell.op (bagD ns) :: List.replicate (N.length - 2) .no) = some (.rt (.cl (.bool true)) ρ')) {E : XK} :
    (tSeq (tAsg (fun σ H Q => (tCons (tVar 0) tNil) σ H fun vs H1 => spB K vs H1 Q E) (gName 1)) (RS K g)) { nx := fun _ H' => Q .non H', rt := Q } (L2.start N [V.ref a]) H := by
  have hl : (L2.start N [V.ref a]).length = N.length := start_len (by show 1 ≤ _; omega)
  refine ⟨.ref a, by show (L2.start N [V.ref a])[0]? = _; rfl, a, ns, rfl, hS, ht, fun b us H' kp hb hb' dq => ?_⟩
  obtain ⟨ρ', e⟩ := hg
  show RS K g _ ((L2.start N [V.ref a]).set 1 (some (V.ref b))) H'
  have gd : ∀ i, (Cell.no :: Cell.op (bagD ns) :: List.replicate (N.length - 2) Cell.no).getD i .no = if i = 1 then .op (bagD ns) else .no := fun i => by
    match i with
    | 0 => rfl
    | 1 => rfl
    | i + 2 =>
      rw [if_neg (by omega), List.getD_eq_getElem?_getD, List.getElem?_cons_succ, List.getElem?_cons_succ, List.getElem?_replicate]
      split <;> rfl
  refine ⟨[], [], [b], _, _, ⟨?_, ?_, ⟨(fun _ z => nomatch z), (fun _ z => nomatch z)⟩, fun i => ?_, fun i j c hij h1 h2 _ _ => ?_, kp.tab _ ht⟩, e, ?_⟩
  · rw [List.length_set, hl]
    simp
    omega
  · intro c hc
    have : c = b := by simpa using hc
    subst this
    exact ⟨us, hb'⟩
  · rw [gd]
    by_cases hi : i = 1
    · subst hi
      rw [if_pos rfl]
      refine ⟨b, us, ?_, by simp, hb', by simpa using dq⟩
      rw [getS_set, if_pos ⟨rfl, by rw [hl]; omega⟩]
    · rw [if_neg hi]; trivial
  · rw [gd] at h1 h2
    by_cases hi : i = 1
    · by_cases hj : j = 1
      · exact hij (hi.trans hj.symm)
      · rw [if_neg hj] at h2; cases h2
    · rw [if_neg hi] at h1; cases h1
  · intro σ' x H2 L' E' R s f v
    rw [v.bl]
    exact q H2
end
end DL
end
noncomputable section
namespace LW
open PySem L2 DL

/-- known_sizes(knowledge); slots: knowledge word -/
def g_known_sizes : SD :=
  (retS (callD (acons (lcD [1] (seqI (binD (varD 0) (conD (.int 1)) ixG)) (nameT 1) yesT (binD (varD 1) (unD (conD (.int 1)) negG) ixG)) anil) (oneG tupleG)))
def F_known_sizes : FP := runP 2 g_known_sizes

/-- goes_up_with(low, high); slots: low high d -/
def g_goes_up_with : SD :=
  (retS (callD (acons (lcD [2] (rng2I (acons (conD (.int 1)) (acons (callD (acons (varD 0) anil) (oneG lenG)) anil))) (nameT 2) (testD (binD (binD (varD 0) (varD 2) ixG) (binD (varD 0) (binD (varD 2) (conD (.int 1)) (intG (i2i fun i j => i - j))) ixG) (intG (i2b fun i j => decide (j < i))))) (binD (binD (varD 1) (varD 2) ixG) (binD (varD 1) (binD (varD 2) (conD (.int 1)) (intG (i2i fun i j => i - j))) ixG) (intG (i2b fun i j => decide (j < i))))) anil) allG))
def F_goes_up_with : FP := runP 3 g_goes_up_with

/-- is_nested(knowledge); slots: knowledge words floor -/
def g_is_nested : SD :=
  (seqS (setS 1 (binD (varD 0) (conD (.int 1)) ixG))
    (retS (callD (acons (lcD [2] (rng2I (acons (conD (.int 1)) (acons (callD (acons (varD 1) anil) (oneG lenG)) anil))) (nameT 2) yesT (callP 2 F_goes_up_with (acons (binD (varD 1) (binD (varD 2) (conD (.int 1)) (intG (i2i fun i j => i - j))) ixG) (acons (binD (varD 1) (varD 2) ixG) anil)))) anil) allG)))
def F_is_nested : FP := runP 3 g_is_nested

/-- greater_ones(one, other); slots: one other number more -/
def g_greater_ones : SD :=
  (retS (lcD [2, 3] (zipI (acons (varD 0) (acons (varD 1) anil))) (tupT [2, 3]) yesT (iteD (testD (binD (varD 2) (varD 3) (intG (i2b fun i j => decide (j < i))))) (varD 2) (varD 3))))
def F_greater_ones : FP := runP 4 g_greater_ones

/-- along_floors(rows, sizes); slots: rows sizes words floor more number -/
def g_along_floors : SD :=
  (seqS (setS 2 (callD (acons (varD 0) anil) (oneG listG)))
    (seqS (forS (rng2I (acons (conD (.int 1)) (acons (callD (acons (varD 2) anil) (oneG lenG)) anil))) (nameT 3) (setIx 2 (varD 3) (callP 2 F_greater_ones (acons (binD (varD 2) (varD 3) ixG) (acons (binD (varD 2) (binD (varD 3) (conD (.int 1)) (intG (i2i fun i j => i - j))) ixG) anil)))))
    (seqS (forS (rng3I (acons (binD (callD (acons (varD 2) anil) (oneG lenG)) (conD (.int 2)) (intG (i2i fun i j => i - j))) (acons (unD (conD (.int 1)) negG) (acons (unD (conD (.int 1)) negG) anil)))) (nameT 3) (seqS (setS 4 (binD (binD (varD 1) (binD (varD 3) (conD (.int 1)) addG) ixG) (binD (varD 1) (varD 3) ixG) (intG (i2i fun i j => i - j))))
    (setIx 2 (varD 3) (callP 2 F_greater_ones (acons (binD (varD 2) (varD 3) ixG) (acons (lcD [5] (seqI (binD (varD 2) (binD (varD 3) (conD (.int 1)) addG) ixG)) (nameT 5) yesT (binD (varD 5) (varD 4) (intG (i2i fun i j => i - j)))) anil))))))
    (retS (varD 2)))))
def F_along_floors : FP := runP 6 g_along_floors

/-- along_counts(row, size); slots: row size word d -/
def g_along_counts : SD :=
  (seqS (setS 2 (callP 2 F_greater_ones (acons (varD 0) (acons (binD (lstD (acons (conD (.int 0)) anil)) (callD (acons (varD 0) anil) (oneG lenG)) mulG) anil))))
    (seqS (setIx 2 (unD (conD (.int 1)) negG) (callD (acons (binD (varD 2) (unD (conD (.int 1)) negG) ixG) (acons (varD 1) anil)) max2G))
    (seqS (forS (rng2I (acons (conD (.int 1)) (acons (callD (acons (varD 2) anil) (oneG lenG)) anil))) (nameT 3) (ifS (testD (binD (binD (varD 2) (varD 3) ixG) (binD (varD 2) (binD (varD 3) (conD (.int 1)) (intG (i2i fun i j => i - j))) ixG) (intG (i2b fun i j => decide (i < j))))) (setIx 2 (varD 3) (binD (varD 2) (binD (varD 3) (conD (.int 1)) (intG (i2i fun i j => i - j))) ixG)) nilS))
    (seqS (forS (rng3I (acons (binD (callD (acons (varD 2) anil) (oneG lenG)) (conD (.int 2)) (intG (i2i fun i j => i - j))) (acons (unD (conD (.int 1)) negG) (acons (unD (conD (.int 1)) negG) anil)))) (nameT 3) (ifS (testD (binD (binD (varD 2) (varD 3) ixG) (binD (binD (varD 2) (binD (varD 3) (conD (.int 1)) addG) ixG) (conD (.int 1)) (intG (i2i fun i j => i - j))) (intG (i2b fun i j => decide (i < j))))) (setIx 2 (varD 3) (binD (binD (varD 2) (binD (varD 3) (conD (.int 1)) addG) ixG) (conD (.int 1)) (intG (i2i fun i j => i - j)))) nilS))
    (retS (varD 2))))))
def F_along_counts : FP := runP 4 g_along_counts

/-- tightened(rows, sizes); slots: rows sizes words row size word -/
def g_tightened : SD :=
  (seqS (setS 2 (callP 2 F_along_floors (acons (lcD [3, 4] (zipI (acons (varD 0) (acons (varD 1) anil))) (tupT [3, 4]) yesT (callP 2 F_along_counts (acons (varD 3) (acons (varD 4) anil)))) (acons (varD 1) anil))))
    (seqS (ifS (testD (callD (acons (lcD [5, 4] (zipI (acons (varD 2) (acons (varD 1) anil))) (tupT [5, 4]) yesT (orD (binD (binD (varD 5) (conD (.int 0)) ixG) (conD (.int 0)) (intG (i2b fun i j => decide (j < i)))) (binD (binD (varD 5) (unD (conD (.int 1)) negG) ixG) (varD 4) (intG (i2b fun i j => decide (j < i)))))) anil) anyG)) (retS (conD .none)) nilS)
    (retS (callD (acons (lcD [5] (seqI (varD 2)) (nameT 5) yesT (callD (acons (varD 5) anil) (oneG tupleG))) anil) (oneG tupleG)))))
def F_tightened : FP := runP 6 g_tightened

/-- _law_take(_law_bag_here, _law_many); slots: _law_bag_here _law_many _law_cell _law_stirred _law_value _law_begin _law_second -/
def g__law_take : SD :=
  (seqS (ifS (testD (binD (binD (varD 0) (conD (.int 0)) ixG) (conD (.int 0)) (eqQ false))) (seqS (setS 2 (binD (binD (sliceD (binD (varD 0) (conD (.int 3)) ixG) (aP (binD (varD 0) (conD (.int 2)) ixG)) noP cutG) (lstD (acons (conD (.int 0)) anil)) addG) (conD (.int 0)) ixG))
    (seqS (augIx 0 (conD (.int 2)) (conD (.int 1)) (fun i j => i + j))
    (seqS (ifS (testD (binD (varD 2) (binD (conD (.int 10)) (conD (.int 18)) (intG powG)) (intG (i2b fun i j => decide (j ≤ i))))) (setIx 0 (conD (.int 0)) (varD 2)) nilS)
    (seqS (setS 3 (binD (binD (binD (binD (varD 0) (conD (.int 1)) ixG) (conD (.int 48271)) mulG) (binD (callD (acons (varD 2) anil) (oneG intTG)) (conD (.int 2147483647)) (intG modG)) addG) (binD (conD (.int 7919)) (binD (varD 0) (conD (.int 2)) ixG) mulG) addG))
    (setIx 0 (conD (.int 1)) (binD (callD (acons (varD 3) anil) (oneG intTG)) (conD (.int 2147483647)) (intG modG))))))) nilS)
    (seqS (ifS (testD (binD (binD (varD 0) (conD (.int 0)) ixG) (conD (.int 0)) (intG (i2b fun i j => decide (j < i))))) (seqS (setS 4 (binD (callD (acons (binD (varD 0) (conD (.int 0)) ixG) anil) (oneG intTG)) (varD 1) (intG modG)))
    (seqS (setIx 0 (conD (.int 0)) (binD (callD (acons (binD (varD 0) (conD (.int 0)) ixG) anil) (oneG intTG)) (varD 1) (intG fdivG)))
    (retS (varD 4)))) nilS)
    (seqS (setS 5 (binD (callD (acons (binD (binD (binD (varD 0) (conD (.int 1)) ixG) (conD (.int 1)) addG) (conD (.int 39373)) mulG) anil) (oneG intTG)) (conD (.int 1000000007)) (intG modG)))
    (seqS (setS 6 (binD (callD (acons (binD (binD (callD (acons (binD (varD 5) (varD 5) mulG) anil) (oneG intTG)) (conD (.int 998244353)) (intG modG)) (conD (.int 30011)) mulG) anil) (oneG intTG)) (conD (.int 998244353)) (intG modG)))
    (retS (binD (callD (acons (binD (varD 6) (conD (.int 7)) (intG fdivG)) anil) (oneG intTG)) (varD 1) (intG modG)))))))
def F__law_take : FM := runM 7 g__law_take

/-- _law_one(_law_bag_here, _law_things); slots: _law_bag_here _law_things -/
def g__law_one : SD :=
  (retS (binD (varD 1) (callM 0 1 F__law_take (acons (callD (acons (varD 1) anil) (oneG lenG)) anil)) ixG))
def F__law_one : FM := runM 2 g__law_one

/-- _law_rows(_law_bag_here, _law_many, _law_floors); slots: _law_bag_here _law_many _law_floors _law_way _law_found _law_floor _law_row _law_one_here _law_count _law_any_one -/
def g__law_rows : SD :=
  (seqS (parS [3, 4] (acons (callM 0 1 F__law_take (acons (conD (.int 4)) anil)) (acons (lstD anil) anil)))
    (seqS (forS (rng1I (acons (varD 2) anil)) (nameT 5) (seqS (parS [6, 7] (acons (lstD anil) (acons (conD (.int 0)) anil)))
    (seqS (forS (rng1I (acons (binD (varD 1) (conD (.int 1)) addG) anil)) (nameT 8) (seqS (augS 7 (iteD (testD (binD (varD 3) (conD (.int 1)) (eqQ false))) (callM 0 1 F__law_one (acons (lstD (acons (conD (.int 0)) (acons (conD (.int 1)) (acons (conD (.int 0)) (acons (conD (.int 1)) anil))))) anil)) (conD (.int 0))) (fun i j => i + j))
    (seqS (setS 9 (callM 0 1 F__law_one (acons (lstD (acons (conD (.int 0)) (acons (conD (.int 0)) (acons (conD (.int 1)) (acons (varD 8) (acons (callM 0 1 F__law_take (acons (binD (varD 1) (conD (.int 1)) addG) anil)) (acons (unD (conD (.int 1)) negG) (acons (iteD (testD (binD (varD 3) (conD (.int 3)) (eqQ false))) (binD (varD 1) (conD (.int 1)) addG) (conD (.int 0))) anil)))))))) anil)))
    (dropS (metD 6 (acons (iteD (testD (binD (varD 3) (conD (.int 1)) (eqQ false))) (varD 7) (iteD (testD (binD (varD 3) (conD (.int 0)) (eqQ false))) (conD (.int 0)) (varD 9))) anil) appG)))))
    (dropS (metD 4 (acons (callD (acons (varD 6) anil) (oneG tupleG)) anil) appG)))))
    (retS (callD (acons (varD 4) anil) (oneG tupleG)))))
def F__law_rows : FM := runM 10 g__law_rows

/-- _law_some_sizes(_law_bag_here, _law_many, _law_floors); slots: _law_bag_here _law_many _law_floors _law_found _law_size _law_floor -/
def g__law_some_sizes : SD :=
  (seqS (parS [3, 4] (acons (lstD anil) (acons (conD (.int 0)) anil)))
    (seqS (forS (rng1I (acons (varD 2) anil)) (nameT 5) (seqS (setS 4 (binD (varD 4) (callM 0 1 F__law_one (acons (lstD (acons (conD (.int 0)) (acons (conD (.int 1)) (acons (conD (.int 2)) (acons (conD (.int 1)) (acons (callM 0 1 F__law_take (acons (binD (varD 1) (conD (.int 1)) addG) anil)) (acons (iteD (testD (binD (callM 0 1 F__law_take (acons (conD (.int 4)) anil)) (conD (.int 0)) (eqQ false))) (unD (conD (.int 1)) negG) (conD (.int 1))) anil))))))) anil)) addG))
    (dropS (metD 3 (acons (iteD (testD (binD (callM 0 1 F__law_take (acons (conD (.int 9)) anil)) (conD (.int 0)) (intG (i2b fun i j => decide (j < i))))) (callD (acons (varD 4) (acons (varD 1) anil)) min2G) (varD 4)) anil) appG))))
    (retS (callD (acons (varD 3) anil) (oneG tupleG)))))
def F__law_some_sizes : FM := runM 6 g__law_some_sizes

/-- _law_tightened(_law_rows_here, _law_sizes); slots: _law_rows_here _law_sizes _law_floors _law_many _law_words _law_row _law_size _law_word _law_ahead _law_count _law_one_here _law_floor _law_more _law_other -/
def g__law_tightened : SD :=
  (seqS (parS [2, 3, 4] (acons (callD (acons (varD 0) anil) (oneG lenG)) (acons (binD (callD (acons (binD (varD 0) (conD (.int 0)) ixG) anil) (oneG lenG)) (conD (.int 1)) (intG (i2i fun i j => i - j))) (acons (lstD anil) anil))))
    (seqS (ifS (testD (binD (lcD [10, 13] (zipI (acons (binD (tupD (acons (conD (.int 0)) anil)) (varD 1) addG) (acons (varD 1) anil))) (tupT [10, 13]) (testD (binD (varD 13) (varD 10) (intG (i2b fun i j => decide (i < j))))) (conD (.int 1))) (lstD anil) (eqQ true))) (retS (conD .none)) nilS)
    (seqS (forS (zipI (acons (varD 0) (acons (varD 1) anil))) (tupT [5, 6]) (seqS (parS [7, 8] (acons (lstD anil) (acons (conD (.int 0)) anil)))
    (seqS (forS (enumI (acons (varD 5) anil)) (tupT [9, 10]) (seqS (setS 8 (callD (acons (varD 8) (acons (varD 10) (acons (binD (binD (varD 6) (varD 3) (intG (i2i fun i j => i - j))) (varD 9) addG) anil))) (threeG mx3)))
    (dropS (metD 7 (acons (varD 8) anil) appG))))
    (seqS (forS (rng3I (acons (binD (varD 3) (conD (.int 1)) (intG (i2i fun i j => i - j))) (acons (unD (conD (.int 1)) negG) (acons (unD (conD (.int 1)) negG) anil)))) (nameT 9) (setIx 7 (varD 9) (callD (acons (binD (varD 7) (varD 9) ixG) (acons (binD (binD (varD 7) (binD (varD 9) (conD (.int 1)) addG) ixG) (conD (.int 1)) (intG (i2i fun i j => i - j))) anil)) max2G)))
    (dropS (metD 4 (acons (varD 7) anil) appG))))))
    (seqS (forS (rng2I (acons (conD (.int 1)) (acons (varD 2) anil))) (nameT 11) (setIx 4 (varD 11) (lcD [10, 13] (zipI (acons (binD (varD 4) (varD 11) ixG) (acons (binD (varD 4) (binD (varD 11) (conD (.int 1)) (intG (i2i fun i j => i - j))) ixG) anil))) (tupT [10, 13]) yesT (callD (acons (varD 10) (acons (varD 13) anil)) max2G))))
    (seqS (forS (rng3I (acons (binD (varD 2) (conD (.int 2)) (intG (i2i fun i j => i - j))) (acons (unD (conD (.int 1)) negG) (acons (unD (conD (.int 1)) negG) anil)))) (nameT 11) (seqS (setS 12 (binD (binD (varD 1) (binD (varD 11) (conD (.int 1)) addG) ixG) (binD (varD 1) (varD 11) ixG) (intG (i2i fun i j => i - j))))
    (setIx 4 (varD 11) (lcD [10, 13] (zipI (acons (binD (varD 4) (varD 11) ixG) (acons (binD (varD 4) (binD (varD 11) (conD (.int 1)) addG) ixG) anil))) (tupT [10, 13]) yesT (callD (acons (varD 10) (acons (binD (varD 13) (varD 12) (intG (i2i fun i j => i - j))) anil)) max2G)))))
    (seqS (forS (zipI (acons (varD 4) (acons (varD 1) anil))) (tupT [7, 6]) (ifS (testD (binD (lcD [9, 10] (enumI (acons (varD 7) anil)) (tupT [9, 10]) (testD (binD (varD 10) (callD (acons (varD 9) (acons (varD 6) anil)) min2G) (intG (i2b fun i j => decide (j < i))))) (conD (.int 1))) (lstD anil) (eqQ true))) (retS (conD .none)) nilS))
    (retS (callD (acons (lcD [7] (seqI (varD 4)) (nameT 7) yesT (callD (acons (varD 7) anil) (oneG tupleG))) anil) (oneG tupleG)))))))))
def F__law_tightened : FP := runP 14 g__law_tightened

/-- _law_alike(_law_found, _law_due); slots: _law_found _law_due -/
def g__law_alike : SD :=
  (retS (andD (binD (varD 0) (varD 1) (eqQ false)) (binD (callD (acons (varD 0) anil) (oneG repG)) (callD (acons (varD 1) anil) (oneG repG)) (eqQ false))))
def F__law_alike : FP := runP 2 g__law_alike

/-- _law_is_told(_law_rows_here, _law_sizes); slots: _law_rows_here _law_sizes _law_due _law_shown _law_again -/
def g__law_is_told : SD :=
  (seqS (parS [2, 3] (acons (callP 2 F__law_tightened (acons (varD 0) (acons (varD 1) anil))) (acons (callD (acons (lstD (acons (varD 0) (acons (varD 1) anil))) anil) (oneG repG)) anil)))
    (seqS (forS (rng1I (acons (conD (.int 2)) anil)) (nameT 4) (ifS (orT (notT (testD (callP 2 F__law_alike (acons (callP 2 F_tightened (acons (varD 0) (acons (varD 1) anil))) (acons (varD 2) anil))))) (testD (binD (callD (acons (lstD (acons (varD 0) (acons (varD 1) anil))) anil) (oneG repG)) (varD 3) (eqQ true)))) (retS (conD (.bool false))) nilS))
    (retS (orD (binD (varD 2) (conD .none) (isNG' false)) (callP 2 F__law_alike (acons (callP 2 F_tightened (acons (varD 2) (acons (varD 1) anil))) (acons (varD 2) anil)))))))
def F__law_is_told : FP := runP 5 g__law_is_told

/-- _law_mixed(_law_bag_here, _law_things); slots: _law_bag_here _law_things _law_found _law_thing -/
def g__law_mixed : SD :=
  (seqS (setS 2 (lstD anil))
    (seqS (forS (seqI (varD 1)) (nameT 3) (dropS (metD 2 (acons (callM 0 1 F__law_take (acons (binD (callD (acons (varD 2) anil) (oneG lenG)) (conD (.int 1)) addG) anil)) (acons (varD 3) anil)) insG)))
    (retS (varD 2))))
def F__law_mixed : FM := runM 4 g__law_mixed

/-- _law_tight_known(_law_bag_here, _law_house_here); slots: _law_bag_here _law_house_here _law_order _law_sizes _law_size _law_rooms _law_turn _law_rows_here _law_drawn _law_words _law_count _law_way -/
def g__law_tight_known : SD :=
  (seqS (parS [2, 3, 4] (acons (callD (acons (callM 0 1 F__law_mixed (acons (lstR1 (binD (varD 1) (conD (.int 0)) ixG)) anil)) anil) (oneG tupleG)) (acons (lstD anil) (acons (conD (.int 0)) anil))))
    (seqS (forS (seqI (binD (varD 1) (conD (.int 1)) ixG)) (nameT 5) (seqS (setS 4 (callD (acons (binD (varD 1) (conD (.int 0)) ixG) (acons (binD (varD 4) (callM 0 1 F__law_one (acons (lstD (acons (varD 5) (acons (varD 5) (acons (callM 0 1 F__law_take (acons (binD (varD 5) (conD (.int 1)) addG) anil)) anil)))) anil)) addG) anil)) min2G))
    (dropS (metD 3 (acons (varD 4) anil) appG))))
    (seqS (forS (rng1I (acons (conD (.int 3)) anil)) (nameT 6) (seqS (setS 7 (lstD anil))
    (seqS (forS (seqI (varD 3)) (nameT 4) (seqS (setS 8 (lcD [10] (rng1I (acons (binD (binD (varD 1) (conD (.int 0)) ixG) (conD (.int 1)) addG) anil)) (nameT 10) yesT (tupD (acons (callM 0 1 F__law_take (acons (conD (.int 3)) anil)) (acons (varD 10) anil)))))
    (dropS (metD 7 (acons (callD (acons (lcD [11, 10] (seqI (varD 8)) (tupT [11, 10]) yesT (iteD (testD (binD (varD 11) (conD (.int 0)) (eqQ false))) (callD (acons (varD 10) (acons (varD 4) (acons (callM 0 1 F__law_take (acons (binD (varD 10) (conD (.int 1)) addG) anil)) anil))) (threeG mn3)) (conD (.int 0)))) anil) (oneG tupleG)) anil) appG))))
    (seqS (setS 9 (callP 2 F__law_tightened (acons (callD (acons (varD 7) anil) (oneG tupleG)) (acons (callD (acons (varD 3) anil) (oneG tupleG)) anil))))
    (ifS (testD (binD (varD 9) (conD .none) (isNG' true))) (retS (tupD (acons (varD 2) (acons (varD 9) anil)))) nilS)))))
    (retS (tupD (acons (varD 2) (acons (callP 2 F__law_tightened (acons (binD (tupD (acons (binD (tupD (acons (conD (.int 0)) anil)) (binD (binD (varD 1) (conD (.int 0)) ixG) (conD (.int 1)) addG) mulG) anil)) (callD (acons (varD 3) anil) (oneG lenG)) mulG) (acons (callD (acons (varD 3) anil) (oneG tupleG)) anil))) anil)))))))
def F__law_tight_known : FM := runM 12 g__law_tight_known

/-- _law_house(_law_bag_here, _law_things, _law_floors, _law_rooms); slots: _law_bag_here _law_things _law_floors _law_rooms _law_many _law_found _law_left _law_floor -/
def g__law_house : SD :=
  (seqS (setS 4 (callM 0 1 F__law_one (acons (lstD (acons (varD 1) (acons (varD 1) (acons (conD (.int 3)) (acons (conD (.int 2)) (acons (conD (.int 1)) (acons (conD (.int 0)) (acons (callM 0 1 F__law_take (acons (binD (varD 1) (conD (.int 1)) addG) anil)) anil)))))))) anil)))
    (seqS (parS [5, 6] (acons (lstD anil) (acons (varD 3) anil)))
    (seqS (forS (rng1I (acons (callM 0 1 F__law_one (acons (lstD (acons (varD 2) (acons (conD (.int 2)) (acons (varD 2) (acons (conD (.int 1)) (acons (binD (conD (.int 1)) (callM 0 1 F__law_take (acons (varD 2) anil)) addG) anil)))))) anil)) anil)) (nameT 7) (ifS (andT (testD (binD (varD 6) (conD (.int 0)) (intG (i2b fun i j => decide (j < i))))) (testD (binD (varD 7) (varD 2) (intG (i2b fun i j => decide (i < j)))))) (seqS (dropS (metD 5 (acons (callD (acons (varD 6) (acons (callM 0 1 F__law_one (acons (lstD (acons (conD (.int 1)) (acons (conD (.int 2)) (acons (conD (.int 1)) (acons (conD (.int 3)) (acons (conD (.int 1)) (acons (conD (.int 2)) (acons (binD (conD (.int 1)) (callM 0 1 F__law_take (acons (varD 3) anil)) addG) anil)))))))) anil)) anil)) min2G) anil) appG))
    (augS 6 (binD (varD 5) (unD (conD (.int 1)) negG) ixG) (fun i j => i - j))) nilS))
    (retS (tupD (acons (callD (acons (varD 4) (acons (varD 1) anil)) min2G) (acons (callD (acons (varD 5) anil) (oneG tupleG)) anil)))))))
def F__law_house : FM := runM 8 g__law_house

/-- _law_is_nested(_law_known); slots: _law_known _law_one_here _law_other _law_at -/
def g__law_is_nested : SD :=
  (seqS (forS (zipI (acons (binD (varD 0) (conD (.int 1)) ixG) (acons (sliceD (binD (varD 0) (conD (.int 1)) ixG) (aP (conD (.int 1))) noP cutG) anil))) (tupT [1, 2]) (ifS (testD (binD (lcD [3] (rng2I (acons (conD (.int 1)) (acons (callD (acons (varD 1) anil) (oneG lenG)) anil))) (nameT 3) (andT (testD (binD (binD (varD 1) (varD 3) ixG) (binD (varD 1) (binD (varD 3) (conD (.int 1)) (intG (i2i fun i j => i - j))) ixG) (intG (i2b fun i j => decide (j < i))))) (testD (binD (binD (varD 2) (varD 3) ixG) (binD (varD 2) (binD (varD 3) (conD (.int 1)) (intG (i2i fun i j => i - j))) ixG) (eqQ false)))) (conD (.int 1))) (lstD anil) (eqQ true))) (retS (conD (.bool false))) nilS))
    (retS (conD (.bool true))))
def F__law_is_nested : FP := runP 4 g__law_is_nested

/-- floor_numbers(house, knowledge); slots: house knowledge ends at -/
def g_floor_numbers : SD :=
  (seqS (setS 2 (binD (binD (tupD (acons (conD (.int 0)) anil)) (callP 1 F_known_sizes (acons (varD 1) anil)) addG) (tupD (acons (binD (varD 0) (conD (.int 0)) ixG) anil)) addG))
    (retS (lcD [3] (rng2I (acons (conD (.int 1)) (acons (callD (acons (varD 2) anil) (oneG lenG)) anil))) (nameT 3) yesT (binD (binD (varD 2) (varD 3) ixG) (binD (varD 2) (binD (varD 3) (conD (.int 1)) (intG (i2i fun i j => i - j))) ixG) (intG (i2i fun i j => i - j))))))
def F_floor_numbers : FP := runP 4 g_floor_numbers

/-- surely_within(knowledge, thing, floor); slots: knowledge thing floor order words end -/
def g_surely_within : SD :=
  (seqS (unpS (tupT [3, 4]) (varD 0))
    (seqS (setS 5 (binD (metV (varD 3) (varD 1) idxG) (conD (.int 1)) addG))
    (retS (binD (binD (binD (varD 4) (varD 2) ixG) (varD 5) ixG) (varD 5) (eqQ false)))))
def F_surely_within : FP := runP 6 g_surely_within

/-- may_be_within(knowledge, thing, floor); slots: knowledge thing floor order words -/
def g_may_be_within : SD :=
  (seqS (unpS (tupT [3, 4]) (varD 0))
    (retS (binD (binD (binD (varD 4) (varD 2) ixG) (metV (varD 3) (varD 1) idxG) ixG) (binD (binD (varD 4) (varD 2) ixG) (unD (conD (.int 1)) negG) ixG) (intG (i2b fun i j => decide (i < j))))))
def F_may_be_within : FP := runP 5 g_may_be_within

/-- floors_of(house, knowledge, thing); slots: house knowledge thing out numbers floors floor reached left -/
def g_floors_of : SD :=
  (seqS (setS 3 (callD (acons (binD (varD 0) (conD (.int 1)) ixG) anil) (oneG lenG)))
    (seqS (setS 4 (callP 2 F_floor_numbers (acons (varD 0) (acons (varD 1) anil))))
    (seqS (setS 5 (lstD anil))
    (seqS (forS (rng1I (acons (binD (varD 3) (conD (.int 1)) addG) anil)) (nameT 6) (seqS (setS 7 (orD (binD (varD 6) (varD 3) (eqQ false)) (callP 3 F_may_be_within (acons (varD 1) (acons (varD 2) (acons (varD 6) anil))))))
    (seqS (setS 8 (orD (binD (varD 6) (conD (.int 0)) (eqQ false)) (notD (callP 3 F_surely_within (acons (varD 1) (acons (varD 2) (acons (binD (varD 6) (conD (.int 1)) (intG (i2i fun i j => i - j))) anil)))))))
    (ifS (andT (testD (varD 7)) (andT (testD (varD 8)) (testD (binD (binD (varD 4) (varD 6) ixG) (conD (.int 0)) (intG (i2b fun i j => decide (j < i))))))) (dropS (metD 5 (acons (varD 6) anil) appG)) nilS))))
    (retS (callD (acons (varD 5) anil) (oneG tupleG)))))))
def F_floors_of : FP := runP 9 g_floors_of

/-- sure_things(knowledge, floor); slots: knowledge floor thing -/
def g_sure_things : SD :=
  (retS (callD (acons (lcD [2] (rng1I (acons (callD (acons (binD (varD 0) (conD (.int 0)) ixG) anil) (oneG lenG)) anil)) (nameT 2) (testD (callP 3 F_surely_within (acons (varD 0) (acons (varD 2) (acons (varD 1) anil))))) (varD 2)) anil) (oneG tupleG)))
def F_sure_things : FP := runP 3 g_sure_things

/-- barred_things(knowledge, floor); slots: knowledge floor thing -/
def g_barred_things : SD :=
  (retS (callD (acons (lcD [2] (rng1I (acons (callD (acons (binD (varD 0) (conD (.int 0)) ixG) anil) (oneG lenG)) anil)) (nameT 2) (notT (testD (callP 3 F_may_be_within (acons (varD 0) (acons (varD 2) (acons (varD 1) anil)))))) (varD 2)) anil) (oneG tupleG)))
def F_barred_things : FP := runP 3 g_barred_things

/-- _law_flat(_law_rows); slots: _law_rows _law_found _law_row -/
def g__law_flat : SD :=
  (seqS (setS 1 (lstD anil))
    (seqS (forS (seqI (varD 0)) (nameT 2) (dropS (metD 1 (acons (varD 2) anil) extG)))
    (retS (varD 1))))
def F__law_flat : FP := runP 3 g__law_flat

/-- _law_rooms_within(_law_house); slots: _law_house _law_floor -/
def g__law_rooms_within : SD :=
  (retS (lcD [1] (rng1I (acons (callD (acons (binD (varD 0) (conD (.int 1)) ixG) anil) (oneG lenG)) anil)) (nameT 1) yesT (callD (acons (sliceD (binD (varD 0) (conD (.int 1)) ixG) noP (aP (binD (varD 1) (conD (.int 1)) addG)) cutG) anil) (oneG sumG))))
def F__law_rooms_within : FP := runP 2 g__law_rooms_within

/-- _law_within(_law_house, _law_state_here, _law_floor); slots: _law_house _law_state_here _law_floor _law_thing -/
def g__law_within : SD :=
  (retS (lcD [3] (rng1I (acons (binD (varD 0) (conD (.int 0)) ixG) anil)) (nameT 3) (testD (binD (binD (varD 1) (varD 3) ixG) (varD 2) (intG (i2b fun i j => decide (i ≤ j))))) (varD 3)))
def F__law_within : FP := runP 4 g__law_within

/-- _law_sizes(_law_house, _law_state_here); slots: _law_house _law_state_here _law_floor -/
def g__law_sizes : SD :=
  (retS (callD (acons (lcD [2] (rng1I (acons (callD (acons (binD (varD 0) (conD (.int 1)) ixG) anil) (oneG lenG)) anil)) (nameT 2) yesT (callD (acons (callP 3 F__law_within (acons (varD 0) (acons (varD 1) (acons (varD 2) anil)))) anil) (oneG lenG))) anil) (oneG tupleG)))
def F__law_sizes : FP := runP 3 g__law_sizes

/-- _law_state(_law_bag_here, _law_house); slots: _law_bag_here _law_house _law_many _law_rooms _law_left _law_way _law_state_here _law_thing _law_open_floors _law_floor _law_free -/
def g__law_state : SD :=
  (seqS (unpS (tupT [2, 3]) (varD 1))
    (seqS (parS [4, 5, 6] (acons (callD (acons (varD 3) anil) (oneG listG)) (acons (callM 0 1 F__law_take (acons (conD (.int 4)) anil)) (acons (binD (lstD (acons (callD (acons (varD 3) anil) (oneG lenG)) anil)) (varD 2) mulG) anil))))
    (seqS (forS (seqI (callM 0 1 F__law_mixed (acons (lstR1 (varD 2)) anil))) (nameT 7) (seqS (setS 8 (lcB 4 [9, 10] (tupT [9, 10]) (testD (binD (varD 10) (conD (.int 0)) (intG (i2b fun i j => decide (j < i))))) (varD 9)))
    (seqS (ifS (andT (testD (binD (varD 5) (conD (.int 1)) (eqQ false))) (testD (binD (varD 8) (lstD anil) (eqQ true)))) (setIx 6 (varD 7) (binD (varD 8) (conD (.int 0)) ixG)) (ifS (andT (testD (binD (varD 5) (conD (.int 1)) (intG (i2b fun i j => decide (j < i))))) (testD (binD (varD 8) (lstD anil) (eqQ true)))) (setIx 6 (varD 7) (callM 0 1 F__law_one (acons (binD (varD 8) (binD (lstD (acons (callD (acons (varD 3) anil) (oneG lenG)) anil)) (binD (varD 5) (conD (.int 2)) (intG (i2i fun i j => i - j))) mulG) addG) anil))) nilS))
    (ifS (testD (binD (binD (varD 6) (varD 7) ixG) (callD (acons (varD 3) anil) (oneG lenG)) (intG (i2b fun i j => decide (i < j))))) (augIx 4 (binD (varD 6) (varD 7) ixG) (conD (.int 1)) (fun i j => i - j)) nilS))))
    (retS (callD (acons (varD 6) anil) (oneG tupleG))))))
def F__law_state : FM := runM 11 g__law_state

/-- _law_full_state(_law_bag_here, _law_house); slots: _law_bag_here _law_house _law_places _law_floor _law_rooms -/
def g__law_full_state : SD :=
  (seqS (setS 2 (callP 1 F__law_flat (acons (lcD [3, 4] (enumI (acons (binD (varD 1) (conD (.int 1)) ixG) anil)) (tupT [3, 4]) yesT (binD (lstD (acons (varD 3) anil)) (varD 4) mulG)) anil)))
    (retS (callD (acons (callM 0 1 F__law_mixed (acons (binD (varD 2) (binD (lstD (acons (callD (acons (binD (varD 1) (conD (.int 1)) ixG) anil) (oneG lenG)) anil)) (binD (binD (varD 1) (conD (.int 0)) ixG) (callD (acons (varD 2) anil) (oneG lenG)) (intG (i2i fun i j => i - j))) mulG) addG) anil)) anil) (oneG tupleG))))
def F__law_full_state : FM := runM 5 g__law_full_state

/-- _law_start(_law_bag_here, _law_house); slots: _law_bag_here _law_house _law_menu -/
def g__law_start : SD :=
  (seqS (setS 2 (lstD (acons (binD (tupD (acons (callD (acons (binD (varD 1) (conD (.int 1)) ixG) anil) (oneG lenG)) anil)) (binD (varD 1) (conD (.int 0)) ixG) mulG) (acons (callM 0 1 F__law_state (acons (varD 1) anil)) (acons (callM 0 1 F__law_state (acons (varD 1) anil)) anil)))))
    (retS (callM 0 1 F__law_one (acons (binD (varD 2) (binD (lstD (acons (conD .none) anil)) (callD (acons (binD (binD (varD 1) (conD (.int 0)) ixG) (callD (acons (binD (varD 1) (conD (.int 1)) ixG) anil) (oneG sumG)) (intG (i2b fun i j => decide (j ≤ i)))) anil) (oneG intTG)) mulG) addG) anil))))
def F__law_start : FM := runM 3 g__law_start

/-- _law_done(_law_house, _law_state_here, _law_move); slots: _law_house _law_state_here _law_move _law_word _law_thing _law_downs _law_floors _law_now _law_at _law_down _law_last -/
def g__law_done : SD :=
  (seqS (unpS (tupT [3, 4, 5]) (varD 2))
    (seqS (parS [6, 7] (acons (callD (acons (binD (varD 0) (conD (.int 1)) ixG) anil) (oneG lenG)) (acons (callD (acons (varD 1) anil) (oneG listG)) anil)))
    (seqS (ifS (testD (binD (varD 3) (conD (.str ("strike" : Str))) (eqQ false))) (seqS (setIx 7 (varD 4) (varD 6))
    (retS (iteD (testD (binD (varD 5) (tupD anil) (eqQ false))) (callD (acons (varD 7) anil) (oneG tupleG)) (conD .none)))) nilS)
    (seqS (setIx 7 (varD 4) (conD (.int 0)))
    (seqS (forS (enumI (acons (varD 5) anil)) (tupT [8, 9]) (seqS (ifS (orT (testD (binD (varD 8) (varD 6) (intG (i2b fun i j => decide (j ≤ i))))) (orT (testD (binD (metV (varD 7) (varD 8) cntG) (binD (binD (varD 0) (conD (.int 1)) ixG) (varD 8) ixG) (intG (i2b fun i j => decide (i ≤ j))))) (orT (testD (binD (binD (varD 7) (varD 9) ixG) (varD 8) (eqQ true))) (andT (testD (binD (varD 8) (conD (.int 0)) (eqQ false))) (testD (binD (varD 9) (varD 4) (eqQ false))))))) (retS (conD .none)) nilS)
    (setIx 7 (varD 9) (binD (varD 8) (conD (.int 1)) addG))))
    (seqS (setS 10 (callD (acons (varD 5) anil) (oneG lenG)))
    (retS (iteD (orT (testD (binD (varD 10) (varD 6) (intG (i2b fun i j => decide (j ≤ i))))) (testD (binD (metV (varD 7) (varD 10) cntG) (binD (binD (varD 0) (conD (.int 1)) ixG) (varD 10) ixG) (intG (i2b fun i j => decide (i ≤ j)))))) (callD (acons (varD 7) anil) (oneG tupleG)) (conD .none)))))))))
def F__law_done : FP := runP 11 g__law_done

/-- _law_drawn_move(_law_bag_here, _law_house, _law_state_here, _law_thing, _law_way); slots: _law_bag_here _law_house _law_state_here _law_thing _law_way _law_downs _law_now _law_at _law_there _law_down _law_one_here -/
def g__law_drawn_move : SD :=
  (seqS (parS [5, 6] (acons (tupD anil) (acons (callD (acons (varD 2) anil) (oneG listG)) anil)))
    (seqS (setIx 6 (varD 3) (conD (.int 0)))
    (seqS (whileS 10000 (andT (testD (binD (callD (acons (varD 5) anil) (oneG lenG)) (callD (acons (binD (varD 1) (conD (.int 1)) ixG) anil) (oneG lenG)) (intG (i2b fun i j => decide (i < j))))) (testD (binD (metV (varD 6) (callD (acons (varD 5) anil) (oneG lenG)) cntG) (binD (binD (varD 1) (conD (.int 1)) ixG) (callD (acons (varD 5) anil) (oneG lenG)) ixG) (intG (i2b fun i j => decide (j < i)))))) (seqS (setS 7 (callD (acons (varD 5) anil) (oneG lenG)))
    (seqS (setS 8 (lcD [10] (rng1I (acons (binD (varD 1) (conD (.int 0)) ixG) anil)) (nameT 10) (andT (testD (binD (binD (varD 6) (varD 10) ixG) (varD 7) (eqQ false))) (orT (testD (binD (varD 7) (conD (.int 0)) (intG (i2b fun i j => decide (j < i))))) (testD (binD (varD 10) (varD 3) (eqQ true))))) (varD 10)))
    (seqS (setS 9 (iteD (testD (binD (varD 4) (conD (.int 1)) (eqQ false))) (binD (varD 8) (unD (conD (.int 1)) negG) ixG) (iteD (andT (testD (binD (varD 4) (conD (.int 2)) (eqQ false))) (testD (binD (varD 7) (conD (.int 0)) (intG (i2b fun i j => decide (j < i)))))) (binD (varD 5) (unD (conD (.int 1)) negG) ixG) (callM 0 1 F__law_one (acons (varD 8) anil)))))
    (asgNS 5 6 9 (acons (binD (varD 5) (tupD (acons (varD 9) anil)) addG) (acons (binD (varD 7) (conD (.int 1)) addG) anil)))))))
    (retS (tupD (acons (conD (.str ("ask" : Str))) (acons (varD 3) (acons (varD 5) anil))))))))
def F__law_drawn_move : FM := runM 11 g__law_drawn_move

/-- _law_run(_law_bag_here, _law_house, _law_state_here, _law_many, _law_strikes); slots: _law_bag_here _law_house _law_state_here _law_many _law_strikes _law_run_here _law_log _law_states _law_way _law_favoured _law_turn _law_thing _law_move -/
def g__law_run : SD :=
  (seqS (parS [5, 6, 7, 8] (acons (lstD anil) (acons (lstD anil) (acons (lstD (acons (varD 2) anil)) (acons (callM 0 1 F__law_one (acons (lstD (acons (conD (.int 0)) (acons (conD (.int 0)) (acons (conD (.int 1)) (acons (conD (.int 2)) anil))))) anil)) anil)))))
    (seqS (setS 9 (sliceD (callM 0 1 F__law_mixed (acons (lstR1 (binD (varD 1) (conD (.int 0)) ixG)) anil)) noP (aP (binD (conD (.int 1)) (callM 0 1 F__law_take (acons (callD (acons (conD (.int 1)) (acons (binD (varD 1) (conD (.int 0)) ixG) anil)) max2G) anil)) addG)) cutG))
    (seqS (forS (rng1I (acons (iteD (testD (binD (binD (varD 1) (conD (.int 0)) ixG) (conD (.int 0)) (intG (i2b fun i j => decide (j < i))))) (varD 3) (conD (.int 0))) anil)) (nameT 10) (seqS (setS 11 (iteD (testD (binD (callM 0 1 F__law_take (acons (conD (.int 3)) anil)) (conD (.int 0)) (intG (i2b fun i j => decide (j < i))))) (callM 0 1 F__law_one (acons (varD 9) anil)) (callM 0 1 F__law_take (acons (binD (varD 1) (conD (.int 0)) ixG) anil))))
    (seqS (setS 12 (tupD (acons (conD (.str ("strike" : Str))) (acons (varD 11) (acons (tupD anil) anil)))))
    (seqS (ifS (orT (testD (binD (varD 4) (conD (.int 0)) (eqQ false))) (testD (binD (callM 0 1 F__law_take (acons (varD 4) anil)) (conD (.int 0)) (intG (i2b fun i j => decide (j < i)))))) (setS 12 (callM 0 4 F__law_drawn_move (acons (varD 1) (acons (binD (varD 7) (unD (conD (.int 1)) negG) ixG) (acons (varD 11) (acons (varD 8) anil)))))) nilS)
    (seqS (dropS (metD 5 (acons (varD 12) anil) appG))
    (seqS (dropS (metD 6 (acons (tupD (acons (binD (varD 12) (conD (.int 0)) ixG) (acons (varD 11) (acons (binD (binD (varD 7) (unD (conD (.int 1)) negG) ixG) (varD 11) ixG) anil)))) anil) appG))
    (dropS (metD 7 (acons (callP 3 F__law_done (acons (varD 1) (acons (binD (varD 7) (unD (conD (.int 1)) negG) ixG) (acons (varD 12) anil)))) anil) appG))))))))
    (retS (tupD (acons (callD (acons (varD 5) anil) (oneG tupleG)) (acons (callD (acons (varD 6) anil) (oneG tupleG)) (acons (varD 7) anil))))))))
def F__law_run : FM := runM 13 g__law_run

/-- _law_story(_law_bag_here, _law_house, _law_start_here, _law_many, _law_strikes); slots: _law_bag_here _law_house _law_start_here _law_many _law_strikes -/
def g__law_story : SD :=
  (retS (callM 0 4 F__law_run (acons (varD 1) (acons (iteD (testD (binD (varD 2) (conD .none) (isNG' false))) (callM 0 1 F__law_full_state (acons (varD 1) anil)) (varD 2)) (acons (varD 3) (acons (varD 4) anil))))))
def F__law_story : FM := runM 5 g__law_story

/-- _law_one_more(_law_house, _law_state_here); slots: _law_house _law_state_here _law_floors _law_floor -/
def g__law_one_more : SD :=
  (seqS (setS 2 (callD (acons (binD (varD 0) (conD (.int 1)) ixG) anil) (oneG lenG)))
    (retS (lcD [3] (rng1I (acons (binD (varD 2) (conD (.int 1)) addG) anil)) (nameT 3) (orT (testD (binD (varD 3) (varD 2) (eqQ false))) (testD (binD (metV (varD 1) (varD 3) cntG) (binD (binD (varD 0) (conD (.int 1)) ixG) (varD 3) ixG) (intG (i2b fun i j => decide (i < j)))))) (binD (varD 1) (tupD (acons (varD 3) anil)) addG))))
def F__law_one_more : FP := runP 4 g__law_one_more

/-- _law_all_states(_law_house); slots: _law_house _law_found _law_thing _law_state_here -/
def g__law_all_states : SD :=
  (seqS (setS 1 (lstD (acons (tupD anil) anil)))
    (seqS (forS (rng1I (acons (binD (varD 0) (conD (.int 0)) ixG) anil)) (nameT 2) (setS 1 (callP 1 F__law_flat (acons (lcD [3] (seqI (varD 1)) (nameT 3) yesT (callP 2 F__law_one_more (acons (varD 0) (acons (varD 3) anil)))) anil))))
    (retS (varD 1))))
def F__law_all_states : FP := runP 4 g__law_all_states

/-- _law_first_known(_law_house, _law_start_here); slots: _law_house _law_start_here _law_many _law_words _law_rooms _law_order _law_size _law_count -/
def g__law_first_known : SD :=
  (seqS (parS [2, 3] (acons (binD (varD 0) (conD (.int 0)) ixG) (acons (lstD anil) anil)))
    (seqS (ifS (testD (binD (varD 1) (conD .none) (isNG' false))) (seqS (forS (seqI (callP 1 F__law_rooms_within (acons (varD 0) anil))) (nameT 4) (dropS (metD 3 (acons (callD (acons (lcD [7] (rng1I (acons (binD (varD 2) (conD (.int 1)) addG) anil)) (nameT 7) yesT (callD (acons (conD (.int 0)) (acons (binD (varD 4) (binD (varD 2) (varD 7) (intG (i2i fun i j => i - j))) (intG (i2i fun i j => i - j))) anil)) max2G)) anil) (oneG tupleG)) anil) appG)))
    (retS (tupD (acons (tupR1 (varD 2)) (acons (callD (acons (varD 3) anil) (oneG tupleG)) anil))))) nilS)
    (seqS (setS 5 (callD (acons (srtKD (varD 2) 1) anil) (oneG tupleG)))
    (seqS (forS (seqI (callP 2 F__law_sizes (acons (varD 0) (acons (varD 1) anil)))) (nameT 6) (dropS (metD 3 (acons (callD (acons (lcD [7] (rng1I (acons (binD (varD 2) (conD (.int 1)) addG) anil)) (nameT 7) yesT (callD (acons (varD 7) (acons (varD 6) anil)) min2G)) anil) (oneG tupleG)) anil) appG)))
    (retS (tupD (acons (varD 5) (acons (callD (acons (varD 3) anil) (oneG tupleG)) anil))))))))
def F__law_first_known : FP := runP 8 g__law_first_known

/-- _law_led(_law_house, _law_known_here, _law_entry); slots: _law_house _law_known_here _law_entry _law_order _law_words _law_word _law_thing _law_found _law_place _law_sizes_here _law_rows _law_floor _law_row _law_less _law_later _law_tight _law_rest _law_is_less _law_one_here -/
def g__law_led : SD :=
  (seqS (unpS (tupT [3, 4]) (varD 1))
    (seqS (unpS (tupT [5, 6, 7]) (varD 2))
    (seqS (parS [8, 9, 10] (acons (metV (varD 3) (varD 6) idxG) (acons (callD (acons (callP 1 F_known_sizes (acons (varD 1) anil)) anil) (oneG listG)) (acons (lstD anil) anil))))
    (seqS (forS (enumI (acons (varD 4) anil)) (tupT [11, 12]) (seqS (setS 13 (callD (acons (binD (varD 11) (varD 7) (intG (i2b fun i j => decide (j ≤ i)))) anil) (oneG intTG)))
    (seqS (setS 14 (lcD [18] (seqI (sliceD (varD 12) (aP (binD (varD 8) (conD (.int 1)) addG)) noP cutG)) (nameT 18) yesT (binD (varD 18) (varD 13) (intG (i2i fun i j => i - j)))))
    (seqS (dropS (metD 10 (acons (callD (acons (binD (binD (callD (acons (sliceD (varD 12) noP (aP (varD 8)) cutG) anil) (oneG listG)) (lstD (acons (callD (acons (binD (varD 12) (varD 8) ixG) (acons (binD (varD 14) (conD (.int 0)) ixG) anil)) max2G) anil)) addG) (sliceD (varD 14) (aP (conD (.int 1))) noP cutG) addG) anil) (oneG tupleG)) anil) appG))
    (augIx 9 (varD 11) (varD 13) (fun i j => i - j))))))
    (seqS (setS 15 (callP 2 F__law_tightened (acons (callD (acons (varD 10) anil) (oneG tupleG)) (acons (callD (acons (varD 9) anil) (oneG tupleG)) anil))))
    (seqS (ifS (testD (binD (varD 15) (conD .none) (isNG' false))) (retS (conD .none)) nilS)
    (seqS (setS 16 (binD (sliceD (varD 3) noP (aP (varD 8)) cutG) (sliceD (varD 3) (aP (binD (varD 8) (conD (.int 1)) addG)) noP cutG) addG))
    (seqS (ifS (testD (binD (varD 5) (conD (.str ("strike" : Str))) (eqQ false))) (retS (tupD (acons (binD (varD 16) (tupD (acons (varD 6) anil)) addG) (acons (callD (acons (lcD [12] (seqI (varD 15)) (nameT 12) yesT (binD (varD 12) (sliceD (varD 12) (aP (unD (conD (.int 1)) negG)) noP cutG) addG)) anil) (oneG tupleG)) anil)))) nilS)
    (seqS (setS 14 (lstD anil))
    (seqS (forS (enumI (acons (varD 15) anil)) (tupT [11, 12]) (seqS (setS 17 (andD (binD (varD 11) (varD 7) (intG (i2b fun i j => decide (i < j)))) (binD (binD (varD 9) (varD 11) ixG) (callD (acons (sliceD (binD (varD 0) (conD (.int 1)) ixG) noP (aP (binD (varD 11) (conD (.int 1)) addG)) cutG) anil) (oneG sumG)) (eqQ false))))
    (dropS (metD 14 (acons (binD (tupD (acons (conD (.int 0)) anil)) (callD (acons (lcD [18] (seqI (varD 12)) (nameT 18) yesT (binD (callD (acons (conD (.int 0)) (acons (binD (varD 18) (callD (acons (varD 17) anil) (oneG intTG)) (intG (i2i fun i j => i - j))) anil)) max2G) (conD (.int 1)) addG)) anil) (oneG tupleG)) addG) anil) appG))))
    (retS (tupD (acons (binD (tupD (acons (varD 6) anil)) (varD 16) addG) (acons (callD (acons (varD 14) anil) (oneG tupleG)) anil))))))))))))))
def F__law_led : FP := runP 19 g__law_led

/-- _law_led_by(_law_house, _law_known_here, _law_log); slots: _law_house _law_known_here _law_log _law_index _law_entry _law_later -/
def g__law_led_by : SD :=
  (seqS (forS (enumI (acons (varD 2) anil)) (tupT [3, 4]) (seqS (setS 5 (callP 3 F__law_led (acons (varD 0) (acons (varD 1) (acons (varD 4) anil)))))
    (seqS (ifS (testD (binD (varD 5) (conD .none) (isNG' false))) (retS (tupD (acons (varD 1) (acons (varD 3) anil)))) nilS)
    (setS 1 (varD 5)))))
    (retS (tupD (acons (varD 1) (acons (conD .none) anil)))))
def F__law_led_by : FP := runP 6 g__law_led_by

/-- _law_fits(_law_house, _law_known_here, _law_state_here); slots: _law_house _law_known_here _law_state_here _law_floor _law_word _law_within_here _law_count _law_thing -/
def g__law_fits : SD :=
  (seqS (ifS (testD (binD (callP 2 F__law_sizes (acons (varD 0) (acons (varD 2) anil))) (callP 1 F_known_sizes (acons (varD 1) anil)) (eqQ true))) (retS (conD (.bool false))) nilS)
    (seqS (forS (enumI (acons (binD (varD 1) (conD (.int 1)) ixG) anil)) (tupT [3, 4]) (seqS (setS 5 (conD (.int 0)))
    (forS (enumI (acons (binD (varD 1) (conD (.int 0)) ixG) anil)) (tupT [6, 7]) (seqS (augS 5 (callD (acons (binD (binD (varD 2) (varD 7) ixG) (varD 3) (intG (i2b fun i j => decide (i ≤ j)))) anil) (oneG intTG)) (fun i j => i + j))
    (ifS (testD (binD (varD 5) (binD (varD 4) (binD (varD 6) (conD (.int 1)) addG) ixG) (intG (i2b fun i j => decide (i < j))))) (retS (conD (.bool false))) nilS)))))
    (retS (conD (.bool true)))))
def F__law_fits : FP := runP 8 g__law_fits

/-- _law_floors_of(_law_known_here, _law_thing); slots: _law_known_here _law_thing _law_sizes_here _law_words _law_place _law_may _law_found _law_floor _law_is_sure _law_is_bare -/
def g__law_floors_of : SD :=
  (seqS (parS [2, 3, 4] (acons (callP 1 F_known_sizes (acons (varD 0) anil)) (acons (binD (varD 0) (conD (.int 1)) ixG) (acons (metV (binD (varD 0) (conD (.int 0)) ixG) (varD 1) idxG) anil))))
    (seqS (setS 5 (binD (lcD [7] (rng1I (acons (callD (acons (varD 3) anil) (oneG lenG)) anil)) (nameT 7) (testD (binD (binD (binD (varD 3) (varD 7) ixG) (varD 4) ixG) (binD (varD 2) (varD 7) ixG) (intG (i2b fun i j => decide (i < j))))) (varD 7)) (lstD (acons (callD (acons (varD 3) anil) (oneG lenG)) anil)) addG))
    (seqS (setS 6 (lstD anil))
    (seqS (forS (rng2I (acons (binD (varD 5) (conD (.int 0)) ixG) (acons (binD (callD (acons (varD 3) anil) (oneG lenG)) (conD (.int 1)) addG) anil))) (nameT 7) (seqS (setS 8 (andD (binD (varD 7) (conD (.int 0)) (intG (i2b fun i j => decide (j < i)))) (binD (binD (binD (varD 3) (binD (varD 7) (conD (.int 1)) (intG (i2i fun i j => i - j))) ixG) (binD (varD 4) (conD (.int 1)) addG) ixG) (binD (varD 4) (conD (.int 1)) addG) (eqQ false))))
    (seqS (setS 9 (andD (binD (varD 7) (callD (acons (varD 3) anil) (oneG lenG)) (intG (i2b fun i j => decide (i < j)))) (binD (binD (varD 2) (varD 7) ixG) (binD (binD (tupD (acons (conD (.int 0)) anil)) (varD 2) addG) (varD 7) ixG) (eqQ false))))
    (ifS (andT (notT (testD (varD 8))) (notT (testD (varD 9)))) (dropS (metD 6 (acons (varD 7) anil) appG)) nilS))))
    (retS (varD 6))))))
def F__law_floors_of : FP := runP 10 g__law_floors_of

/-- _law_tight_known(_law_bag_here, _law_house); slots: _law_bag_here _law_house _law_order _law_sizes_here _law_size _law_rooms _law_turn _law_rows _law_row _law_words _law_count _law_one_here -/
def g__law_tight_known_2 : SD :=
  (seqS (parS [2, 3, 4] (acons (callD (acons (callM 0 1 F__law_mixed (acons (lstR1 (binD (varD 1) (conD (.int 0)) ixG)) anil)) anil) (oneG tupleG)) (acons (lstD anil) (acons (conD (.int 0)) anil))))
    (seqS (forS (seqI (binD (varD 1) (conD (.int 1)) ixG)) (nameT 5) (seqS (setS 4 (callD (acons (binD (varD 1) (conD (.int 0)) ixG) (acons (binD (varD 4) (callM 0 1 F__law_one (acons (lstD (acons (varD 5) (acons (varD 5) (acons (callM 0 1 F__law_take (acons (binD (varD 5) (conD (.int 1)) addG) anil)) anil)))) anil)) addG) anil)) min2G))
    (dropS (metD 3 (acons (varD 4) anil) appG))))
    (seqS (forS (rng1I (acons (conD (.int 3)) anil)) (nameT 6) (seqS (setS 7 (lstD anil))
    (seqS (forS (seqI (varD 3)) (nameT 4) (seqS (setS 8 (lcD [10] (rng1I (acons (binD (binD (varD 1) (conD (.int 0)) ixG) (conD (.int 1)) addG) anil)) (nameT 10) yesT (iteD (testD (binD (callM 0 1 F__law_take (acons (conD (.int 3)) anil)) (conD (.int 0)) (eqQ false))) (callM 0 1 F__law_take (acons (binD (varD 10) (conD (.int 1)) addG) anil)) (conD (.int 0)))))
    (dropS (metD 7 (acons (callD (acons (lcD [11] (seqI (varD 8)) (nameT 11) yesT (callD (acons (varD 11) (acons (varD 4) anil)) min2G)) anil) (oneG tupleG)) anil) appG))))
    (seqS (setS 9 (callP 2 F__law_tightened (acons (callD (acons (varD 7) anil) (oneG tupleG)) (acons (callD (acons (varD 3) anil) (oneG tupleG)) anil))))
    (ifS (testD (binD (varD 9) (conD .none) (isNG' true))) (retS (tupD (acons (varD 2) (acons (varD 9) anil)))) nilS)))))
    (retS (tupD (acons (varD 2) (acons (callP 2 F__law_tightened (acons (binD (tupD (acons (binD (tupD (acons (conD (.int 0)) anil)) (binD (binD (varD 1) (conD (.int 0)) ixG) (conD (.int 1)) addG) mulG) anil)) (callD (acons (varD 3) anil) (oneG lenG)) mulG) (acons (callD (acons (varD 3) anil) (oneG tupleG)) anil))) anil)))))))
def F__law_tight_known_2 : FM := runM 12 g__law_tight_known_2

/-- _law_known(_law_bag_here, _law_house, _law_many, _law_strikes); slots: _law_bag_here _law_house _law_many _law_strikes _law_start_here _law_run_here _law_log _law_states -/
def g__law_known : SD :=
  (seqS (setS 4 (callM 0 1 F__law_start (acons (varD 1) anil)))
    (seqS (unpS (tupT [5, 6, 7]) (callM 0 4 F__law_story (acons (varD 1) (acons (varD 4) (acons (callM 0 1 F__law_one (acons (lstD (acons (varD 2) (acons (callM 0 1 F__law_take (acons (binD (varD 2) (conD (.int 1)) addG) anil)) (acons (conD (.int 0)) (acons (varD 2) anil))))) anil)) (acons (varD 3) anil))))))
    (retS (tupD (acons (varD 4) (acons (varD 6) (acons (binD (callP 3 F__law_led_by (acons (varD 1) (acons (callP 2 F__law_first_known (acons (varD 1) (acons (varD 4) anil))) (acons (varD 6) anil)))) (conD (.int 0)) ixG) anil)))))))
def F__law_known : FM := runM 8 g__law_known

/-- _law_any_known(_law_bag_here, _law_house, _law_many); slots: _law_bag_here _law_house _law_many _law_found _law_turn _law_some _law_known_here _law_open_floors _law_thing -/
def g__law_any_known : SD :=
  (seqS (setS 3 (lstD anil))
    (seqS (forS (rng1I (acons (conD (.int 2)) anil)) (nameT 4) (seqS (setS 5 (callM 0 1 F__law_one (acons (lstD (acons (varD 2) (acons (binD (callD (acons (varD 2) anil) (oneG intTG)) (conD (.int 2)) (intG fdivG)) (acons (binD (callD (acons (varD 2) anil) (oneG intTG)) (conD (.int 3)) (intG fdivG)) anil)))) anil)))
    (seqS (setS 6 (iteD (testD (binD (callM 0 1 F__law_take (acons (conD (.int 3)) anil)) (conD (.int 0)) (eqQ false))) (callM 0 1 F__law_tight_known_2 (acons (varD 1) anil)) (binD (callM 0 3 F__law_known (acons (varD 1) (acons (varD 5) (acons (conD (.int 5)) anil)))) (conD (.int 2)) ixG)))
    (seqS (setS 7 (callD (acons (lcD [8] (rng1I (acons (binD (varD 1) (conD (.int 0)) ixG) anil)) (nameT 8) yesT (callD (acons (callP 2 F__law_floors_of (acons (varD 6) (acons (varD 8) anil))) anil) (oneG lenG))) anil) (oneG sumG)))
    (dropS (metD 3 (acons (tupD (acons (varD 7) (acons (varD 6) anil))) anil) appG))))))
    (retS (iteD (testD (binD (binD (binD (varD 3) (conD (.int 1)) ixG) (conD (.int 0)) ixG) (binD (binD (varD 3) (conD (.int 0)) ixG) (conD (.int 0)) ixG) (intG (i2b fun i j => decide (j < i))))) (binD (binD (varD 3) (conD (.int 1)) ixG) (conD (.int 1)) ixG) (binD (binD (varD 3) (conD (.int 0)) ixG) (conD (.int 1)) ixG)))))
def F__law_any_known : FM := runM 9 g__law_any_known

/-- _law_small_house(_law_bag_here); slots: _law_bag_here _law_menu -/
def g__law_small_house : SD :=
  (seqS (setS 1 (lstD (acons (tupD (acons (conD (.int 1)) (acons (conD (.int 1)) anil))) (acons (tupD (acons (conD (.int 2)) (acons (conD (.int 1)) anil))) (acons (tupD (acons (conD (.int 1)) (acons (conD (.int 2)) anil))) (acons (tupD (acons (conD (.int 1)) (acons (conD (.int 1)) (acons (conD (.int 1)) anil)))) (acons (tupD (acons (conD (.int 2)) (acons (conD (.int 2)) anil))) (acons (tupD (acons (conD (.int 1)) (acons (conD (.int 1)) (acons (conD (.int 2)) anil)))) (acons (tupD (acons (conD (.int 2)) (acons (conD (.int 1)) (acons (conD (.int 1)) anil)))) (acons (tupD (acons (conD (.int 2)) anil)) (acons (tupD (acons (conD (.int 3)) (acons (conD (.int 1)) anil))) (acons (tupD (acons (conD (.int 1)) (acons (conD (.int 2)) (acons (conD (.int 1)) anil)))) (acons (tupD (acons (conD (.int 1)) anil)) (acons (tupD (acons (conD (.int 3)) (acons (conD (.int 3)) anil))) (acons (tupD (acons (conD (.int 1)) (acons (conD (.int 2)) (acons (conD (.int 3)) anil)))) anil)))))))))))))))
    (retS (tupD (acons (callM 0 1 F__law_one (acons (lstD (acons (conD (.int 5)) (acons (conD (.int 4)) (acons (conD (.int 5)) (acons (conD (.int 5)) (acons (conD (.int 3)) (acons (conD (.int 4)) (acons (conD (.int 2)) (acons (conD (.int 1)) anil))))))))) anil)) (acons (callM 0 1 F__law_one (acons (varD 1) anil)) anil)))))
def F__law_small_house : FM := runM 2 g__law_small_house

/-- _law_fitting(_law_house, _law_known_here); slots: _law_house _law_known_here _law_state_here -/
def g__law_fitting : SD :=
  (retS (lcD [2] (seqI (callP 1 F__law_all_states (acons (varD 0) anil))) (nameT 2) (testD (callP 3 F__law_fits (acons (varD 0) (acons (varD 1) (acons (varD 2) anil))))) (varD 2)))
def F__law_fitting : FP := runP 3 g__law_fitting

/-- _law_bare(_law_house); slots: _law_house -/
def g__law_bare : SD :=
  (retS (tupD (acons (tupD (acons (conD (.int 0)) (acons (binD (varD 0) (conD (.int 1)) ixG) anil))) (acons (tupD (acons (tupD anil) (acons (binD (tupD (acons (tupD (acons (conD (.int 0)) anil)) anil)) (callD (acons (binD (varD 0) (conD (.int 1)) ixG) anil) (oneG lenG)) mulG) anil))) anil))))
def F__law_bare : FP := runP 1 g__law_bare

/-- lots_between(order, ends); slots: order ends begins begin end -/
def g_lots_between : SD :=
  (seqS (setS 2 (binD (lstD (acons (conD (.int 0)) anil)) (sliceD (varD 1) noP (aP (unD (conD (.int 1)) negG)) cutG) addG))
    (retS (lcD [3, 4] (zipI (acons (varD 2) (acons (varD 1) anil))) (tupT [3, 4]) yesT (callD (acons (callD (acons (sliceD (varD 0) (aP (varD 3)) (aP (varD 4)) cutG) anil) (oneG sortG)) anil) (oneG tupleG)))))
def F_lots_between : FP := runP 5 g_lots_between

/-- cuts_of(word); slots: word d -/
def g_cuts_of : SD :=
  (retS (lcD [1] (rng2I (acons (conD (.int 1)) (acons (binD (callD (acons (varD 0) anil) (oneG lenG)) (conD (.int 1)) (intG (i2i fun i j => i - j))) anil))) (nameT 1) (andT (testD (binD (binD (varD 0) (binD (varD 1) (conD (.int 1)) (intG (i2i fun i j => i - j))) ixG) (binD (varD 0) (varD 1) ixG) (intG (i2b fun i j => decide (i < j))))) (testD (binD (binD (varD 0) (varD 1) ixG) (binD (varD 0) (binD (varD 1) (conD (.int 1)) addG) ixG) (eqQ false)))) (varD 1)))
def F_cuts_of : FP := runP 2 g_cuts_of

/-- floor_blocks(order, word); slots: order word ends lot end -/
def g_floor_blocks : SD :=
  (seqS (setS 2 (callP 1 F_cuts_of (acons (varD 1) anil)))
    (retS (callD (acons (lcD [3, 4] (zipI (acons (callP 2 F_lots_between (acons (varD 0) (acons (varD 2) anil))) (acons (varD 2) anil))) (tupT [3, 4]) yesT (tupD (acons (varD 3) (acons (binD (varD 1) (varD 4) ixG) anil)))) anil) (oneG tupleG))))
def F_floor_blocks : FP := runP 5 g_floor_blocks

/-- blocks_of(knowledge); slots: knowledge order words word -/
def g_blocks_of : SD :=
  (seqS (unpS (tupT [1, 2]) (varD 0))
    (retS (callD (acons (lcD [3] (seqI (varD 2)) (nameT 3) yesT (callP 2 F_floor_blocks (acons (varD 1) (acons (varD 3) anil)))) anil) (oneG tupleG))))
def F_blocks_of : FP := runP 4 g_blocks_of

/-- normal_of(knowledge); slots: knowledge order words ends lots word end lot thing -/
def g_normal_of : SD :=
  (seqS (unpS (tupT [1, 2]) (varD 0))
    (seqS (setS 3 (unD (lc2D [5, 6] [6] (seqI (varD 2)) (nameT 5) yesT (seqI (callP 1 F_cuts_of (acons (varD 5) anil))) (nameT 6) yesT (varD 6)) uniG))
    (seqS (setS 4 (callP 2 F_lots_between (acons (varD 1) (acons (binD (varD 3) (lstD (acons (callD (acons (varD 1) anil) (oneG lenG)) anil)) addG) anil))))
    (retS (tupD (acons (callD (acons (lc2D [7, 8] [8] (seqI (varD 4)) (nameT 7) yesT (seqI (varD 7)) (nameT 8) yesT (varD 8)) anil) (oneG tupleG)) (acons (varD 2) anil)))))))
def F_normal_of : FP := runP 9 g_normal_of

/-- _law_all_states(_law_house_here); slots: _law_house_here _law_found _law_out _law_thing _law_more _law_state_here _law_floor _law_rooms -/
def g__law_all_states_2 : SD :=
  (seqS (parS [1, 2] (acons (lstD (acons (tupD anil) anil)) (acons (callD (acons (binD (varD 0) (conD (.int 1)) ixG) anil) (oneG lenG)) anil)))
    (seqS (forS (rng1I (acons (binD (varD 0) (conD (.int 0)) ixG) anil)) (nameT 3) (seqS (setS 4 (lstD anil))
    (seqS (forS (seqI (varD 1)) (nameT 5) (seqS (dropS (metD 4 (acons (lcD [6, 7] (enumI (acons (binD (varD 0) (conD (.int 1)) ixG) anil)) (tupT [6, 7]) (testD (binD (metV (varD 5) (varD 6) cntG) (varD 7) (intG (i2b fun i j => decide (i < j))))) (binD (varD 5) (tupD (acons (varD 6) anil)) addG)) anil) extG))
    (dropS (metD 4 (acons (binD (varD 5) (tupD (acons (varD 2) anil)) addG) anil) appG))))
    (setS 1 (varD 4)))))
    (retS (varD 1))))
def F__law_all_states_2 : FP := runP 8 g__law_all_states_2

/-- _law_led(_law_house_here, _law_known_here, _law_entry); slots: _law_house_here _law_known_here _law_entry _law_order _law_words _law_word _law_thing _law_found _law_place _law_sizes_here _law_rows _law_floor _law_row _law_less _law_later _law_tight _law_rest _law_made _law_is_less _law_one_here -/
def g__law_led_2 : SD :=
  (seqS (unpS (tupT [3, 4]) (varD 1))
    (seqS (unpS (tupT [5, 6, 7]) (varD 2))
    (seqS (parS [8, 9, 10] (acons (metV (varD 3) (varD 6) idxG) (acons (callD (acons (callP 1 F_known_sizes (acons (varD 1) anil)) anil) (oneG listG)) (acons (lstD anil) anil))))
    (seqS (forS (enumI (acons (varD 4) anil)) (tupT [11, 12]) (seqS (setS 13 (callD (acons (binD (varD 11) (varD 7) (intG (i2b fun i j => decide (j ≤ i)))) anil) (oneG intTG)))
    (seqS (setS 14 (lcD [19] (seqI (sliceD (varD 12) (aP (binD (varD 8) (conD (.int 1)) addG)) noP cutG)) (nameT 19) yesT (binD (varD 19) (varD 13) (intG (i2i fun i j => i - j)))))
    (seqS (dropS (metD 10 (acons (callD (acons (binD (binD (callD (acons (sliceD (varD 12) noP (aP (varD 8)) cutG) anil) (oneG listG)) (lstD (acons (callD (acons (binD (varD 12) (varD 8) ixG) (acons (binD (varD 14) (conD (.int 0)) ixG) anil)) max2G) anil)) addG) (sliceD (varD 14) (aP (conD (.int 1))) noP cutG) addG) anil) (oneG tupleG)) anil) appG))
    (augIx 9 (varD 11) (varD 13) (fun i j => i - j))))))
    (seqS (setS 15 (callP 2 F__law_tightened (acons (callD (acons (varD 10) anil) (oneG tupleG)) (acons (callD (acons (varD 9) anil) (oneG tupleG)) anil))))
    (seqS (ifS (testD (binD (varD 15) (conD .none) (isNG' false))) (retS (conD .none)) nilS)
    (seqS (setS 16 (binD (sliceD (varD 3) noP (aP (varD 8)) cutG) (sliceD (varD 3) (aP (binD (varD 8) (conD (.int 1)) addG)) noP cutG) addG))
    (seqS (ifS (testD (binD (varD 5) (conD (.str ("strike" : Str))) (eqQ false))) (retS (tupD (acons (binD (varD 16) (tupD (acons (varD 6) anil)) addG) (acons (callD (acons (lcD [12] (seqI (varD 15)) (nameT 12) yesT (binD (varD 12) (sliceD (varD 12) (aP (unD (conD (.int 1)) negG)) noP cutG) addG)) anil) (oneG tupleG)) anil)))) nilS)
    (seqS (setS 17 (lstD anil))
    (seqS (forS (enumI (acons (varD 15) anil)) (tupT [11, 12]) (seqS (setS 18 (andD (binD (varD 11) (varD 7) (intG (i2b fun i j => decide (i < j)))) (binD (binD (varD 9) (varD 11) ixG) (callD (acons (sliceD (binD (varD 0) (conD (.int 1)) ixG) noP (aP (binD (varD 11) (conD (.int 1)) addG)) cutG) anil) (oneG sumG)) (eqQ false))))
    (dropS (metD 17 (acons (binD (tupD (acons (conD (.int 0)) anil)) (callD (acons (lcD [19] (seqI (varD 12)) (nameT 19) yesT (binD (callD (acons (conD (.int 0)) (acons (binD (varD 19) (callD (acons (varD 18) anil) (oneG intTG)) (intG (i2i fun i j => i - j))) anil)) max2G) (conD (.int 1)) addG)) anil) (oneG tupleG)) addG) anil) appG))))
    (retS (tupD (acons (binD (tupD (acons (varD 6) anil)) (varD 16) addG) (acons (callD (acons (varD 17) anil) (oneG tupleG)) anil))))))))))))))
def F__law_led_2 : FP := runP 20 g__law_led_2

/-- _law_led_by(_law_house_here, _law_known_here, _law_log); slots: _law_house_here _law_known_here _law_log _law_index _law_entry _law_later -/
def g__law_led_by_2 : SD :=
  (seqS (forS (enumI (acons (varD 2) anil)) (tupT [3, 4]) (seqS (setS 5 (callP 3 F__law_led_2 (acons (varD 0) (acons (varD 1) (acons (varD 4) anil)))))
    (seqS (ifS (testD (binD (varD 5) (conD .none) (isNG' false))) (retS (tupD (acons (varD 1) (acons (varD 3) anil)))) nilS)
    (setS 1 (varD 5)))))
    (retS (tupD (acons (varD 1) (acons (conD .none) anil)))))
def F__law_led_by_2 : FP := runP 6 g__law_led_by_2

/-- _law_known(_law_bag_here, _law_house_here, _law_many, _law_strikes); slots: _law_bag_here _law_house_here _law_many _law_strikes _law_start_here _law_run_here _law_log _law_states -/
def g__law_known_2 : SD :=
  (seqS (setS 4 (callM 0 1 F__law_start (acons (varD 1) anil)))
    (seqS (unpS (tupT [5, 6, 7]) (callM 0 4 F__law_story (acons (varD 1) (acons (varD 4) (acons (callM 0 1 F__law_one (acons (lstD (acons (varD 2) (acons (callM 0 1 F__law_take (acons (binD (varD 2) (conD (.int 1)) addG) anil)) (acons (conD (.int 0)) (acons (varD 2) anil))))) anil)) (acons (varD 3) anil))))))
    (retS (tupD (acons (varD 4) (acons (varD 6) (acons (binD (callP 3 F__law_led_by_2 (acons (varD 1) (acons (callP 2 F__law_first_known (acons (varD 1) (acons (varD 4) anil))) (acons (varD 6) anil)))) (conD (.int 0)) ixG) anil)))))))
def F__law_known_2 : FM := runM 8 g__law_known_2

/-- _law_cuts(_law_word); slots: _law_word _law_at -/
def g__law_cuts : SD :=
  (retS (lcD [1] (rng2I (acons (conD (.int 1)) (acons (binD (callD (acons (varD 0) anil) (oneG lenG)) (conD (.int 1)) (intG (i2i fun i j => i - j))) anil))) (nameT 1) (andT (testD (binD (binD (varD 0) (varD 1) ixG) (binD (varD 0) (binD (varD 1) (conD (.int 1)) (intG (i2i fun i j => i - j))) ixG) (intG (i2b fun i j => decide (j < i))))) (testD (binD (binD (varD 0) (binD (varD 1) (conD (.int 1)) addG) ixG) (binD (varD 0) (varD 1) ixG) (eqQ false)))) (varD 1)))
def F__law_cuts : FP := runP 2 g__law_cuts

/-- _law_blocks(_law_known_here); slots: _law_known_here _law_found _law_word _law_lots _law_last _law_cut -/
def g__law_blocks : SD :=
  (seqS (setS 1 (lstD anil))
    (seqS (forS (seqI (binD (varD 0) (conD (.int 1)) ixG)) (nameT 2) (seqS (parS [3, 4] (acons (lstD anil) (acons (conD (.int 0)) anil)))
    (seqS (forS (seqI (callP 1 F__law_cuts (acons (varD 2) anil))) (nameT 5) (seqS (dropS (metD 3 (acons (tupD (acons (callD (acons (callD (acons (sliceD (binD (varD 0) (conD (.int 0)) ixG) (aP (varD 4)) (aP (varD 5)) cutG) anil) (oneG sortG)) anil) (oneG tupleG)) (acons (binD (varD 2) (varD 5) ixG) anil))) anil) appG))
    (setS 4 (varD 5))))
    (dropS (metD 1 (acons (callD (acons (varD 3) anil) (oneG tupleG)) anil) appG)))))
    (retS (callD (acons (varD 1) anil) (oneG tupleG)))))
def F__law_blocks : FP := runP 6 g__law_blocks

/-- _law_parts(_law_known_here); slots: _law_known_here _law_found _law_last _law_cut _law_word -/
def g__law_parts : SD :=
  (seqS (parS [1, 2] (acons (lstD anil) (acons (conD (.int 0)) anil)))
    (seqS (forS (seqI (binD (unD (callP 1 F__law_flat (acons (lcD [4] (seqI (binD (varD 0) (conD (.int 1)) ixG)) (nameT 4) yesT (callP 1 F__law_cuts (acons (varD 4) anil))) anil)) uniG) (lstD (acons (callD (acons (binD (varD 0) (conD (.int 0)) ixG) anil) (oneG lenG)) anil)) addG)) (nameT 3) (seqS (dropS (metD 1 (acons (callD (acons (sliceD (binD (varD 0) (conD (.int 0)) ixG) (aP (varD 2)) (aP (varD 3)) cutG) anil) (oneG listG)) anil) appG))
    (setS 2 (varD 3))))
    (retS (varD 1))))
def F__law_parts : FP := runP 5 g__law_parts

/-- _law_normal(_law_known_here); slots: _law_known_here _law_part -/
def g__law_normal : SD :=
  (retS (tupD (acons (callD (acons (callP 1 F__law_flat (acons (lcD [1] (seqI (callP 1 F__law_parts (acons (varD 0) anil))) (nameT 1) yesT (callD (acons (varD 1) anil) (oneG sortG))) anil)) anil) (oneG tupleG)) (acons (binD (varD 0) (conD (.int 1)) ixG) anil))))
def F__law_normal : FP := runP 2 g__law_normal

/-- _law_stirred(_law_bag_here, _law_known_here); slots: _law_bag_here _law_known_here _law_part -/
def g__law_stirred : SD :=
  (retS (tupD (acons (callD (acons (callP 1 F__law_flat (acons (lcD [2] (seqI (callP 1 F__law_parts (acons (varD 1) anil))) (nameT 2) yesT (callM 0 1 F__law_mixed (acons (varD 2) anil))) anil)) anil) (oneG tupleG)) (acons (binD (varD 1) (conD (.int 1)) ixG) anil))))
def F__law_stirred : FM := runM 3 g__law_stirred

/-- _law_some_known(_law_bag_here, _law_house_here); slots: _law_bag_here _law_house_here -/
def g__law_some_known : SD :=
  (retS (iteD (testD (binD (callM 0 1 F__law_take (acons (conD (.int 3)) anil)) (conD (.int 0)) (eqQ false))) (callM 0 1 F__law_tight_known (acons (varD 1) anil)) (binD (callM 0 3 F__law_known_2 (acons (varD 1) (acons (conD (.int 12)) (acons (conD (.int 6)) anil)))) (conD (.int 2)) ixG)))
def F__law_some_known : FM := runM 2 g__law_some_known

/-- _law_states_that_fit(_law_house_here, _law_known_here); slots: _law_house_here _law_known_here _law_state_here -/
def g__law_states_that_fit : SD :=
  (retS (lcD [2] (seqI (callP 1 F__law_all_states_2 (acons (varD 0) anil))) (nameT 2) (testD (callP 3 F__law_fits (acons (varD 0) (acons (varD 1) (acons (varD 2) anil))))) (varD 2)))
def F__law_states_that_fit : FP := runP 3 g__law_states_that_fit

/-- _law_some_house(_law_bag_here, _law_menu); slots: _law_bag_here _law_menu _law_things _law_house_here -/
def g__law_some_house : SD :=
  (seqS (setS 2 (callM 0 1 F__law_one (acons (varD 1) anil)))
    (seqS (setS 3 (iteD (testD (binD (varD 2) (conD (.int 7)) (intG (i2b fun i j => decide (i < j))))) (callM 0 3 F__law_house (acons (varD 2) (acons (conD (.int 3)) (acons (conD (.int 5)) anil)))) (callM 0 3 F__law_house (acons (varD 2) (acons (conD (.int 4)) (acons (conD (.int 12)) anil))))))
    (retS (iteD (testD (binD (callM 0 1 F__law_take (acons (conD (.int 6)) anil)) (conD (.int 0)) (intG (i2b fun i j => decide (j < i))))) (tupD (acons (binD (varD 2) (callM 0 1 F__law_take (acons (conD (.int 2)) anil)) (intG (i2i fun i j => i - j))) (acons (binD (varD 3) (conD (.int 1)) ixG) anil))) (varD 3)))))
def F__law_some_house : FM := runM 4 g__law_some_house

/-- state_of_lots(house, lots); slots: house lots thing lot -/
def g_state_of_lots : SD :=
  (retS (callD (acons (lcD [2] (rng1I (acons (binD (varD 0) (conD (.int 0)) ixG) anil)) (nameT 2) yesT (callD (acons (lcD [3] (seqI (varD 1)) (nameT 3) (testD (binD (varD 2) (varD 3) (inG true))) (varD 3)) anil) (oneG lenG))) anil) (oneG tupleG)))
def F_state_of_lots : FP := runP 4 g_state_of_lots

/-- state_with_lot(house, knowledge, lot); slots: house knowledge lot order inner outer lots thing size -/
def g_state_with_lot : SD :=
  (seqS (setS 3 (binD (varD 1) (conD (.int 0)) ixG))
    (seqS (setS 4 (lcD [7] (seqI (varD 3)) (nameT 7) (testD (binD (varD 7) (varD 2) (inG false))) (varD 7)))
    (seqS (setS 5 (lcD [7] (seqI (varD 3)) (nameT 7) (testD (binD (varD 7) (varD 2) (inG true))) (varD 7)))
    (seqS (setS 6 (lcD [8] (seqI (callP 1 F_known_sizes (acons (varD 1) anil))) (nameT 8) yesT (binD (sliceD (varD 4) noP (aP (varD 8)) cutG) (sliceD (varD 5) noP (aP (callD (acons (conD (.int 0)) (acons (binD (varD 8) (callD (acons (varD 4) anil) (oneG lenG)) (intG (i2i fun i j => i - j))) anil)) max2G)) cutG) addG)))
    (retS (callP 2 F_state_of_lots (acons (varD 0) (acons (varD 6) anil))))))))
def F_state_with_lot : FP := runP 9 g_state_with_lot

/-- number_within(house, knowledge, lot, chosen); slots: house knowledge lot chosen thing -/
def g_number_within : SD :=
  (retS (tupD (acons (callD (acons (lcD [4] (seqI (varD 2)) (nameT 4) (testD (binD (varD 4) (varD 3) (inG false))) (varD 4)) anil) (oneG lenG)) (acons (callP 3 F_state_with_lot (acons (varD 0) (acons (varD 1) (acons (varD 3) anil)))) anil))))
def F_number_within : FP := runP 5 g_number_within

/-- can_be_together(order, word, lot); slots: order word lot late place -/
def g_can_be_together : SD :=
  (seqS (setS 3 (conD (.int 0)))
    (seqS (forS (rng3I (acons (binD (callD (acons (varD 0) anil) (oneG lenG)) (conD (.int 1)) (intG (i2i fun i j => i - j))) (acons (unD (conD (.int 1)) negG) (acons (unD (conD (.int 1)) negG) anil)))) (nameT 4) (seqS (ifS (testD (binD (binD (varD 0) (varD 4) ixG) (varD 2) (inG false))) (augS 3 (conD (.int 1)) (fun i j => i + j)) nilS)
    (ifS (testD (binD (varD 3) (binD (binD (varD 1) (unD (conD (.int 1)) negG) ixG) (binD (varD 1) (varD 4) ixG) (intG (i2i fun i j => i - j))) (intG (i2b fun i j => decide (j < i))))) (retS (conD (.bool false))) nilS)))
    (retS (conD (.bool true)))))
def F_can_be_together : FP := runP 5 g_can_be_together

/-- choice_within(knowledge, floor, things); slots: knowledge floor things order words chosen thing -/
def g_choice_within : SD :=
  (seqS (unpS (tupT [3, 4]) (varD 0))
    (seqS (setS 5 (lstD anil))
    (seqS (forS (seqI (varD 2)) (nameT 6) (ifS (testD (callP 3 F_can_be_together (acons (varD 3) (acons (binD (varD 4) (varD 1) ixG) (acons (binD (varD 5) (lstD (acons (varD 6) anil)) addG) anil))))) (dropS (metD 5 (acons (varD 6) anil) appG)) nilS))
    (retS (varD 5)))))
def F_choice_within : FP := runP 7 g_choice_within

/-- least_within(house, knowledge, lot, floor); slots: house knowledge lot floor others thing -/
def g_least_within : SD :=
  (seqS (setS 4 (lcD [5] (seqI (binD (varD 1) (conD (.int 0)) ixG)) (nameT 5) (testD (binD (varD 5) (varD 2) (inG true))) (varD 5)))
    (retS (callP 4 F_number_within (acons (varD 0) (acons (varD 1) (acons (varD 2) (acons (callP 3 F_choice_within (acons (varD 1) (acons (varD 3) (acons (binD (varD 4) (callD (acons (varD 2) anil) (oneG listG)) addG) anil)))) anil)))))))
def F_least_within : FP := runP 6 g_least_within

/-- state_beyond(house, one, other); slots: house one other order words floor word end number state -/
def g_state_beyond : SD :=
  (seqS (unpS (tupT [3, 4]) (varD 2))
    (seqS (forS (enumI (acons (varD 4) anil)) (tupT [5, 6]) (forS (seqI (callP 1 F_cuts_of (acons (varD 6) anil))) (nameT 7) (seqS (unpS (tupT [8, 9]) (callP 4 F_least_within (acons (varD 0) (acons (varD 1) (acons (sliceD (varD 3) noP (aP (varD 7)) cutG) (acons (varD 5) anil))))))
    (ifS (testD (binD (varD 8) (binD (varD 6) (varD 7) ixG) (intG (i2b fun i j => decide (i < j))))) (retS (varD 9)) nilS))))
    (retS (conD .none))))
def F_state_beyond : FP := runP 10 g_state_beyond

/-- lies_in(house, one, other); slots: house one other -/
def g_lies_in : SD :=
  (retS (andD (binD (callP 1 F_known_sizes (acons (varD 1) anil)) (callP 1 F_known_sizes (acons (varD 2) anil)) (eqQ false)) (binD (callP 3 F_state_beyond (acons (varD 0) (acons (varD 1) (acons (varD 2) anil)))) (conD .none) (isNG' false))))
def F_lies_in : FP := runP 3 g_lies_in

/-- joint(house, one, other); slots: house one other word more -/
def g_joint : SD :=
  (retS (tupD (acons (binD (varD 1) (conD (.int 0)) ixG) (acons (callD (acons (lcD [3, 4] (zipI (acons (binD (varD 1) (conD (.int 1)) ixG) (acons (binD (varD 2) (conD (.int 1)) ixG) anil))) (tupT [3, 4]) yesT (callD (acons (callP 2 F_greater_ones (acons (varD 3) (acons (varD 4) anil))) anil) (oneG tupleG))) anil) (oneG tupleG)) anil))))
def F_joint : FP := runP 5 g_joint

/-- _law_sharper(_law_bag_here, _law_known_here); slots: _law_bag_here _law_known_here _law_rows _law_turn _law_row _law_at _law_words _law_word -/
def g__law_sharper : SD :=
  (seqS (setS 2 (lcD [7] (seqI (binD (varD 1) (conD (.int 1)) ixG)) (nameT 7) yesT (callD (acons (varD 7) anil) (oneG listG))))
    (seqS (forS (rng1I (acons (callM 0 1 F__law_one (acons (lstD (acons (conD (.int 1)) (acons (conD (.int 1)) (acons (conD (.int 2)) anil)))) anil)) anil)) (nameT 3) (seqS (setS 4 (callM 0 1 F__law_one (acons (varD 2) anil)))
    (seqS (setS 5 (callM 0 1 F__law_take (acons (callD (acons (varD 4) anil) (oneG lenG)) anil)))
    (setIx 4 (varD 5) (binD (binD (varD 4) (varD 5) ixG) (conD (.int 1)) addG)))))
    (seqS (setS 6 (callP 2 F__law_tightened (acons (callD (acons (lcD [4] (seqI (varD 2)) (nameT 4) yesT (callD (acons (varD 4) anil) (oneG tupleG))) anil) (oneG tupleG)) (acons (callP 1 F_known_sizes (acons (varD 1) anil)) anil))))
    (retS (iteD (testD (binD (varD 6) (conD .none) (isNG' false))) (varD 1) (tupD (acons (binD (varD 1) (conD (.int 0)) ixG) (acons (varD 6) anil))))))))
def F__law_sharper : FM := runM 8 g__law_sharper

/-- _law_of_sizes(_law_bag_here, _law_house_here, _law_sizes_here); slots: _law_bag_here _law_house_here _law_sizes_here _law_order _law_rows _law_size _law_words _law_at -/
def g__law_of_sizes : SD :=
  (seqS (setS 3 (callD (acons (callM 0 1 F__law_mixed (acons (lstR1 (binD (varD 1) (conD (.int 0)) ixG)) anil)) anil) (oneG tupleG)))
    (seqS (setS 4 (lstD anil))
    (seqS (forS (seqI (varD 2)) (nameT 5) (dropS (metD 4 (acons (callD (acons (lcD [7] (rng1I (acons (binD (binD (varD 1) (conD (.int 0)) ixG) (conD (.int 1)) addG) anil)) (nameT 7) yesT (binD (callD (acons (varD 7) (acons (varD 5) (acons (callM 0 1 F__law_take (acons (binD (varD 7) (conD (.int 1)) addG) anil)) anil))) (threeG mn3)) (callD (acons (binD (callM 0 1 F__law_take (acons (conD (.int 3)) anil)) (conD (.int 0)) (eqQ false)) anil) (oneG intTG)) mulG)) anil) (oneG tupleG)) anil) appG)))
    (seqS (setS 6 (callP 2 F__law_tightened (acons (callD (acons (varD 4) anil) (oneG tupleG)) (acons (varD 2) anil))))
    (retS (tupD (acons (varD 3) (acons (iteD (testD (binD (varD 6) (conD .none) (isNG' true))) (varD 6) (callP 2 F__law_tightened (acons (binD (tupD (acons (binD (tupD (acons (conD (.int 0)) anil)) (binD (binD (varD 1) (conD (.int 0)) ixG) (conD (.int 1)) addG) mulG) anil)) (callD (acons (varD 2) anil) (oneG lenG)) mulG) (acons (varD 2) anil)))) anil))))))))
def F__law_of_sizes : FM := runM 8 g__law_of_sizes

/-- rooms_within(house); slots: house floor -/
def g_rooms_within : SD :=
  (retS (callD (acons (lcD [1] (rng1I (acons (callD (acons (binD (varD 0) (conD (.int 1)) ixG) anil) (oneG lenG)) anil)) (nameT 1) yesT (callD (acons (sliceD (binD (varD 0) (conD (.int 1)) ixG) noP (aP (binD (varD 1) (conD (.int 1)) addG)) cutG) anil) (oneG sumG))) anil) (oneG tupleG)))
def F_rooms_within : FP := runP 2 g_rooms_within

/-- things_within(house, state, floor); slots: house state floor thing -/
def g_things_within : SD :=
  (retS (callD (acons (lcD [3] (rng1I (acons (binD (varD 0) (conD (.int 0)) ixG) anil)) (nameT 3) (testD (binD (binD (varD 1) (varD 3) ixG) (varD 2) (intG (i2b fun i j => decide (i ≤ j))))) (varD 3)) anil) (oneG tupleG)))
def F_things_within : FP := runP 4 g_things_within

/-- sizes_of(house, state); slots: house state floor -/
def g_sizes_of : SD :=
  (retS (callD (acons (lcD [2] (rng1I (acons (callD (acons (binD (varD 0) (conD (.int 1)) ixG) anil) (oneG lenG)) anil)) (nameT 2) yesT (callD (acons (callP 3 F_things_within (acons (varD 0) (acons (varD 1) (acons (varD 2) anil)))) anil) (oneG lenG))) anil) (oneG tupleG)))
def F_sizes_of : FP := runP 3 g_sizes_of

/-- things_on(house, state, floor); slots: house state floor thing -/
def g_things_on : SD :=
  (retS (callD (acons (lcD [3] (rng1I (acons (binD (varD 0) (conD (.int 0)) ixG) anil)) (nameT 3) (testD (binD (binD (varD 1) (varD 3) ixG) (varD 2) (eqQ false))) (varD 3)) anil) (oneG tupleG)))
def F_things_on : FP := runP 4 g_things_on

/-- filled_up(house, state, floor); slots: house state floor -/
def g_filled_up : SD :=
  (retS (binD (binD (callP 2 F_sizes_of (acons (varD 0) (acons (varD 1) anil))) (varD 2) ixG) (binD (callP 1 F_rooms_within (acons (varD 0) anil)) (varD 2) ixG) (eqQ false)))
def F_filled_up : FP := runP 3 g_filled_up

/-- empty_state(house); slots: house -/
def g_empty_state : SD :=
  (retS (binD (tupD (acons (callD (acons (binD (varD 0) (conD (.int 1)) ixG) anil) (oneG lenG)) anil)) (binD (varD 0) (conD (.int 0)) ixG) mulG))
def F_empty_state : FP := runP 1 g_empty_state

/-- least_state(house, sizes); slots: house sizes many rooms floors floor size count -/
def g_least_state : SD :=
  (seqS (unpS (tupT [2, 3]) (varD 0))
    (seqS (setS 4 (lstD anil))
    (seqS (forS (enumI (acons (varD 1) anil)) (tupT [5, 6]) (seqS (setS 7 (binD (varD 6) (callD (acons (varD 4) anil) (oneG lenG)) (intG (i2i fun i j => i - j))))
    (seqS (ifS (orT (testD (binD (varD 7) (conD (.int 0)) (intG (i2b fun i j => decide (i < j))))) (orT (testD (binD (varD 7) (binD (varD 3) (varD 5) ixG) (intG (i2b fun i j => decide (j < i))))) (testD (binD (varD 6) (varD 2) (intG (i2b fun i j => decide (j < i))))))) (retS (conD .none)) nilS)
    (dropS (metD 4 (acons (binD (lstD (acons (varD 5) anil)) (varD 7) mulG) anil) extG)))))
    (retS (callD (acons (binD (varD 4) (binD (lstD (acons (callD (acons (varD 3) anil) (oneG lenG)) anil)) (binD (varD 2) (callD (acons (varD 4) anil) (oneG lenG)) (intG (i2i fun i j => i - j))) mulG) addG) anil) (oneG tupleG))))))
def F_least_state : FP := runP 8 g_least_state

/-- _law_states_many(_law_house_here, _law_sizes_here); slots: _law_house_here _law_sizes_here _law_found _law_left _law_ahead _law_size _law_rooms _law_more _law_k -/
def g__law_states_many : SD :=
  (seqS (parS [2, 3, 4] (acons (conD (.int 1)) (acons (binD (varD 0) (conD (.int 0)) ixG) (acons (conD (.int 0)) anil))))
    (seqS (forS (zipI (acons (varD 1) (acons (binD (varD 0) (conD (.int 1)) ixG) anil))) (tupT [5, 6]) (seqS (setS 7 (binD (varD 5) (varD 4) (intG (i2i fun i j => i - j))))
    (seqS (ifS (notT (testD (chainD (conD (.int 0)) (varD 7) (callD (acons (varD 6) (acons (varD 3) anil)) min2G) (intG (i2b fun i j => decide (i ≤ j))) (intG (i2b fun i j => decide (i ≤ j)))))) (retS (conD (.int 0))) nilS)
    (seqS (forS (rng1I (acons (varD 7) anil)) (nameT 8) (setS 2 (binD (binD (varD 2) (binD (varD 3) (varD 8) (intG (i2i fun i j => i - j))) mulG) (binD (varD 8) (conD (.int 1)) addG) (intG fdivG))))
    (parS [3, 4] (acons (binD (varD 3) (varD 7) (intG (i2i fun i j => i - j))) (acons (varD 5) anil)))))))
    (retS (varD 2))))
def F__law_states_many : FP := runP 9 g__law_states_many

/-- _law_states_of_sizes(_law_house_here, _law_sizes_here); slots: _law_house_here _law_sizes_here _law_each _law_found _law_thing _law_more _law_state_here _law_left _law_floor _law_free _law_size _law_ahead -/
def g__law_states_of_sizes : SD :=
  (seqS (ifS (testD (binD (callP 2 F__law_states_many (acons (varD 0) (acons (varD 1) anil))) (conD (.int 0)) (eqQ false))) (retS (lstD anil)) nilS)
    (seqS (setS 2 (binD (lcD [10, 11] (zipI (acons (varD 1) (acons (binD (tupD (acons (conD (.int 0)) anil)) (varD 1) addG) anil))) (tupT [10, 11]) yesT (binD (varD 10) (varD 11) (intG (i2i fun i j => i - j)))) (lstD (acons (binD (binD (varD 0) (conD (.int 0)) ixG) (binD (varD 1) (unD (conD (.int 1)) negG) ixG) (intG (i2i fun i j => i - j))) anil)) addG))
    (seqS (setS 3 (lstD (acons (tupD (acons (tupD anil) (acons (callD (acons (varD 2) anil) (oneG tupleG)) anil))) anil)))
    (seqS (forS (rng1I (acons (binD (varD 0) (conD (.int 0)) ixG) anil)) (nameT 4) (seqS (setS 5 (lstD anil))
    (seqS (forS (seqI (varD 3)) (tupT [6, 7]) (forS (enumI (acons (varD 7) anil)) (tupT [8, 9]) (ifS (testD (binD (varD 9) (conD (.int 0)) (intG (i2b fun i j => decide (j < i))))) (dropS (metD 5 (acons (tupD (acons (binD (varD 6) (tupD (acons (varD 8) anil)) addG) (acons (binD (binD (sliceD (varD 7) noP (aP (varD 8)) cutG) (tupD (acons (binD (varD 9) (conD (.int 1)) (intG (i2i fun i j => i - j))) anil)) addG) (sliceD (varD 7) (aP (binD (varD 8) (conD (.int 1)) addG)) noP cutG) addG) anil))) anil) appG)) nilS)))
    (setS 3 (varD 5)))))
    (retS (lcD [6, 7] (seqI (varD 3)) (tupT [6, 7]) yesT (varD 6)))))))
def F__law_states_of_sizes : FP := runP 12 g__law_states_of_sizes

/-- _law_is_told_right(_law_house_here, _law_state_here); slots: _law_house_here _law_state_here _law_floors _law_rooms _law_sizes_here _law_on _law_within_here _law_full _law_floor _law_thing _law_size _law_room -/
def g__law_is_told_right : SD :=
  (seqS (parS [2, 3, 4] (acons (callD (acons (binD (varD 0) (conD (.int 1)) ixG) anil) (oneG lenG)) (acons (callP 1 F__law_rooms_within (acons (varD 0) anil)) (acons (callP 2 F__law_sizes (acons (varD 0) (acons (varD 1) anil))) anil))))
    (seqS (setS 5 (lcD [8] (rng1I (acons (binD (varD 2) (conD (.int 1)) addG) anil)) (nameT 8) yesT (callD (acons (lcD [9] (rng1I (acons (binD (varD 0) (conD (.int 0)) ixG) anil)) (nameT 9) (testD (binD (binD (varD 1) (varD 9) ixG) (varD 8) (eqQ false))) (varD 9)) anil) (oneG tupleG))))
    (seqS (ifS (notT (testD (callP 2 F__law_alike (acons (lcD [8] (rng1I (acons (binD (varD 2) (conD (.int 1)) addG) anil)) (nameT 8) yesT (callP 3 F_things_on (acons (varD 0) (acons (varD 1) (acons (varD 8) anil))))) (acons (varD 5) anil))))) (retS (conD (.bool false))) nilS)
    (seqS (setS 6 (lcD [8] (rng1I (acons (varD 2) anil)) (nameT 8) yesT (callD (acons (callP 3 F__law_within (acons (varD 0) (acons (varD 1) (acons (varD 8) anil)))) anil) (oneG tupleG))))
    (seqS (ifS (notT (testD (callP 2 F__law_alike (acons (lcD [8] (rng1I (acons (varD 2) anil)) (nameT 8) yesT (callP 3 F_things_within (acons (varD 0) (acons (varD 1) (acons (varD 8) anil))))) (acons (varD 6) anil))))) (retS (conD (.bool false))) nilS)
    (seqS (setS 7 (lcD [10, 11] (zipI (acons (varD 4) (acons (varD 3) anil))) (tupT [10, 11]) yesT (binD (varD 10) (varD 11) (eqQ false))))
    (seqS (ifS (notT (testD (callP 2 F__law_alike (acons (lcD [8] (rng1I (acons (varD 2) anil)) (nameT 8) yesT (callP 3 F_filled_up (acons (varD 0) (acons (varD 1) (acons (varD 8) anil))))) (acons (varD 7) anil))))) (retS (conD (.bool false))) nilS)
    (retS (callP 2 F__law_alike (acons (lstD (acons (callP 1 F_rooms_within (acons (varD 0) anil)) (acons (callP 2 F_sizes_of (acons (varD 0) (acons (varD 1) anil))) (acons (callP 1 F_empty_state (acons (varD 0) anil)) anil)))) (acons (lstD (acons (callD (acons (varD 3) anil) (oneG tupleG)) (acons (varD 4) (acons (binD (tupD (acons (varD 2) anil)) (binD (varD 0) (conD (.int 0)) ixG) mulG) anil)))) anil)))))))))))
def F__law_is_told_right : FP := runP 12 g__law_is_told_right

/-- _law_near_sizes(_law_bag_here, _law_sizes_here); slots: _law_bag_here _law_sizes_here _law_at _law_found -/
def g__law_near_sizes : SD :=
  (seqS (parS [2, 3] (acons (callM 0 1 F__law_take (acons (callD (acons (varD 1) anil) (oneG lenG)) anil)) (acons (callD (acons (varD 1) anil) (oneG listG)) anil)))
    (seqS (augIx 3 (varD 2) (callM 0 1 F__law_one (acons (lstD (acons (conD (.int 1)) (acons (unD (conD (.int 1)) negG) (acons (conD (.int 0)) (acons (unD (conD (.int 20)) negG) (acons (conD (.int 3)) (acons (conD (.int 99)) (acons (unD (conD (.int 99)) negG) anil)))))))) anil)) (fun i j => i + j))
    (retS (callD (acons (varD 3) anil) (oneG tupleG)))))
def F__law_near_sizes : FM := runM 4 g__law_near_sizes

/-- others_on(house, state, thing, floor); slots: house state thing floor other -/
def g_others_on : SD :=
  (retS (lcD [4] (seqI (callP 3 F_things_on (acons (varD 0) (acons (varD 1) (acons (varD 3) anil))))) (nameT 4) (testD (binD (varD 4) (varD 2) (eqQ true))) (varD 4)))
def F_others_on : FP := runP 5 g_others_on

/-- downs_long(house, state, thing); slots: house state thing rooms floor -/
def g_downs_long : SD :=
  (seqS (setS 3 (binD (varD 0) (conD (.int 1)) ixG))
    (seqS (setS 4 (conD (.int 0)))
    (seqS (whileS 10000 (andT (testD (binD (varD 4) (callD (acons (varD 3) anil) (oneG lenG)) (intG (i2b fun i j => decide (i < j))))) (testD (binD (callD (acons (callP 4 F_others_on (acons (varD 0) (acons (varD 1) (acons (varD 2) (acons (varD 4) anil))))) anil) (oneG lenG)) (binD (varD 3) (varD 4) ixG) (eqQ false)))) (augS 4 (conD (.int 1)) (fun i j => i + j)))
    (retS (varD 4)))))
def F_downs_long : FP := runP 5 g_downs_long

/-- choices(house, state, thing, downs); slots: house state thing downs others -/
def g_choices : SD :=
  (seqS (setS 4 (callP 4 F_others_on (acons (varD 0) (acons (varD 1) (acons (varD 2) (acons (callD (acons (varD 3) anil) (oneG lenG)) anil))))))
    (retS (callD (acons (binD (varD 4) (callD (acons (sliceD (varD 3) (aP (unD (conD (.int 1)) negG)) noP cutG) anil) (oneG listG)) addG) anil) (oneG sortG))))
def F_choices : FP := runP 5 g_choices

/-- moved(house, state, move); slots: house state move word thing downs places floor down -/
def g_moved : SD :=
  (seqS (unpS (tupT [3, 4, 5]) (varD 2))
    (seqS (setS 6 (callD (acons (varD 1) anil) (oneG listG)))
    (seqS (setIx 6 (varD 4) (iteD (testD (binD (varD 3) (conD (.str ("ask" : Str))) (eqQ false))) (conD (.int 0)) (callD (acons (binD (varD 0) (conD (.int 1)) ixG) anil) (oneG lenG))))
    (seqS (forS (enumI (acons (varD 5) anil)) (tupT [7, 8]) (setIx 6 (varD 8) (binD (varD 7) (conD (.int 1)) addG)))
    (retS (callD (acons (varD 6) anil) (oneG tupleG)))))))
def F_moved : FP := runP 9 g_moved

/-- _law_found(_law_house_here, _law_state_here, _law_run_here); slots: _law_house_here _law_state_here _law_run_here _law_log _law_index _law_move _law_later -/
def g__law_found : SD :=
  (seqS (setS 3 (lstD anil))
    (seqS (forS (enumI (acons (varD 2) anil)) (tupT [4, 5]) (seqS (setS 6 (callP 3 F__law_done (acons (varD 0) (acons (varD 1) (acons (varD 5) anil)))))
    (seqS (ifS (testD (binD (varD 6) (conD .none) (isNG' false))) (retS (tupD (acons (varD 1) (acons (callD (acons (varD 3) anil) (oneG tupleG)) (acons (varD 4) anil))))) nilS)
    (seqS (dropS (metD 3 (acons (tupD (acons (binD (varD 5) (conD (.int 0)) ixG) (acons (binD (varD 5) (conD (.int 1)) ixG) (acons (binD (varD 1) (binD (varD 5) (conD (.int 1)) ixG) ixG) anil)))) anil) appG))
    (setS 1 (varD 6))))))
    (retS (tupD (acons (varD 1) (acons (callD (acons (varD 3) anil) (oneG tupleG)) (acons (conD .none) anil)))))))
def F__law_found : FP := runP 7 g__law_found

/-- downs_many(house, state, thing); slots: house state thing many floor -/
def g_downs_many : SD :=
  (seqS (setS 3 (conD (.int 1)))
    (seqS (forS (rng1I (acons (callP 3 F_downs_long (acons (varD 0) (acons (varD 1) (acons (varD 2) anil)))) anil)) (nameT 4) (setS 3 (binD (varD 3) (binD (binD (binD (varD 0) (conD (.int 1)) ixG) (varD 4) ixG) (callD (acons (varD 4) (acons (conD (.int 1)) anil)) min2G) addG) mulG)))
    (retS (varD 3))))
def F_downs_many : FP := runP 5 g_downs_many

/-- asks_of(house, state, thing); slots: house state thing rows _ downs down -/
def g_asks_of : SD :=
  (seqS (setS 3 (lstD (acons (tupD anil) anil)))
    (seqS (forS (rng1I (acons (callP 3 F_downs_long (acons (varD 0) (acons (varD 1) (acons (varD 2) anil)))) anil)) (nameT 4) (setS 3 (lc2D [5, 6] [6] (seqI (varD 3)) (nameT 5) yesT (seqI (callP 4 F_choices (acons (varD 0) (acons (varD 1) (acons (varD 2) (acons (varD 5) anil)))))) (nameT 6) yesT (binD (varD 5) (tupD (acons (varD 6) anil)) addG))))
    (retS (lcD [5] (seqI (varD 3)) (nameT 5) yesT (tupD (acons (conD (.str ("ask" : Str))) (acons (varD 2) (acons (varD 5) anil))))))))
def F_asks_of : FP := runP 7 g_asks_of

/-- _law_asks(_law_house_here, _law_state_here, _law_thing); slots: _law_house_here _law_state_here _law_thing _law_now _law_found _law_open_rows _law_downs _law_here _law_at _law_down -/
def g__law_asks : SD :=
  (seqS (setS 3 (callD (acons (varD 1) anil) (oneG listG)))
    (seqS (setIx 3 (varD 2) (conD (.int 0)))
    (seqS (parS [4, 5] (acons (lstD anil) (acons (lstD (acons (tupD (acons (tupD anil) (acons (callD (acons (varD 3) anil) (oneG tupleG)) anil))) anil)) anil)))
    (seqS (whileS 10000 (testD (binD (varD 5) (lstD anil) (eqQ true))) (seqS (unpS (tupT [6, 7]) (metD 5 anil popG))
    (seqS (setS 8 (callD (acons (varD 6) anil) (oneG lenG)))
    (ifS (orT (testD (binD (varD 8) (callD (acons (binD (varD 0) (conD (.int 1)) ixG) anil) (oneG lenG)) (intG (i2b fun i j => decide (j ≤ i))))) (testD (binD (metV (varD 7) (varD 8) cntG) (binD (binD (varD 0) (conD (.int 1)) ixG) (varD 8) ixG) (intG (i2b fun i j => decide (i ≤ j)))))) (dropS (metD 4 (acons (tupD (acons (conD (.str ("ask" : Str))) (acons (varD 2) (acons (varD 6) anil)))) anil) appG)) (forS (rng1I (acons (binD (varD 0) (conD (.int 0)) ixG) anil)) (nameT 9) (ifS (andT (testD (binD (binD (varD 7) (varD 9) ixG) (varD 8) (eqQ false))) (orT (testD (binD (varD 8) (conD (.int 0)) (intG (i2b fun i j => decide (j < i))))) (testD (binD (varD 9) (varD 2) (eqQ true))))) (dropS (metD 5 (acons (tupD (acons (binD (varD 6) (tupD (acons (varD 9) anil)) addG) (acons (binD (binD (sliceD (varD 7) noP (aP (varD 9)) cutG) (tupD (acons (binD (varD 8) (conD (.int 1)) addG) anil)) addG) (sliceD (varD 7) (aP (binD (varD 9) (conD (.int 1)) addG)) noP cutG) addG) anil))) anil) appG)) nilS))))))
    (retS (callD (acons (varD 4) anil) (oneG sortG)))))))
def F__law_asks : FP := runP 10 g__law_asks

/-- _law_are_asks_right(_law_house_here, _law_state_here, _law_thing); slots: _law_house_here _law_state_here _law_thing _law_due _law_told -/
def g__law_are_asks_right : SD :=
  (seqS (parS [3, 4] (acons (callP 3 F__law_asks (acons (varD 0) (acons (varD 1) (acons (varD 2) anil)))) (acons (callP 3 F_asks_of (acons (varD 0) (acons (varD 1) (acons (varD 2) anil)))) anil)))
    (seqS (ifS (orT (notT (testD (callP 2 F__law_alike (acons (varD 4) (acons (varD 3) anil))))) (notT (testD (callP 2 F__law_alike (acons (callP 3 F_downs_many (acons (varD 0) (acons (varD 1) (acons (varD 2) anil)))) (acons (callD (acons (varD 3) anil) (oneG lenG)) anil)))))) (retS (conD (.bool false))) nilS)
    (seqS (dropS (metD 4 (acons (conD .none) anil) appG))
    (retS (callP 2 F__law_alike (acons (callP 3 F_asks_of (acons (varD 0) (acons (varD 1) (acons (varD 2) anil)))) (acons (varD 3) anil)))))))
def F__law_are_asks_right : FP := runP 5 g__law_are_asks_right

/-- order_at_first(house, state); slots: house state _ thing -/
def g_order_at_first : SD :=
  (retS (lcD [2, 3] (seqI (callD (acons (lcD [3] (rng1I (acons (binD (varD 0) (conD (.int 0)) ixG) anil)) (nameT 3) yesT (tupD (acons (binD (varD 1) (varD 3) ixG) (acons (varD 3) anil)))) anil) (oneG sortG))) (tupT [2, 3]) yesT (varD 3)))
def F_order_at_first : FP := runP 4 g_order_at_first

/-- first_knowledge(house, start); slots: house start many words size d word -/
def g_first_knowledge : SD :=
  (seqS (setS 2 (binD (varD 0) (conD (.int 0)) ixG))
    (seqS (ifS (testD (binD (varD 1) (conD .none) (isNG' false))) (seqS (setS 3 (lcD [4] (seqI (callP 1 F_rooms_within (acons (varD 0) anil))) (nameT 4) yesT (lcD [5] (rng1I (acons (binD (varD 2) (conD (.int 1)) addG) anil)) (nameT 5) yesT (callD (acons (conD (.int 0)) (acons (binD (binD (varD 4) (varD 2) (intG (i2i fun i j => i - j))) (varD 5) addG) anil)) max2G))))
    (retS (tupD (acons (tupR1 (varD 2)) (acons (callD (acons (lcD [6] (seqI (varD 3)) (nameT 6) yesT (callD (acons (varD 6) anil) (oneG tupleG))) anil) (oneG tupleG)) anil))))) nilS)
    (seqS (setS 3 (lcD [4] (seqI (callP 2 F_sizes_of (acons (varD 0) (acons (varD 1) anil)))) (nameT 4) yesT (lcD [5] (rng1I (acons (binD (varD 2) (conD (.int 1)) addG) anil)) (nameT 5) yesT (callD (acons (varD 5) (acons (varD 4) anil)) min2G))))
    (retS (tupD (acons (callD (acons (callP 2 F_order_at_first (acons (varD 0) (acons (varD 1) anil))) anil) (oneG tupleG)) (acons (callD (acons (lcD [6] (seqI (varD 3)) (nameT 6) yesT (callD (acons (varD 6) anil) (oneG tupleG))) anil) (oneG tupleG)) anil)))))))
def F_first_knowledge : FP := runP 7 g_first_knowledge

/-- sizes_amid(sizes, found); slots: sizes found size -/
def g_sizes_amid : SD :=
  (retS (binD (sliceD (varD 0) noP (aP (varD 1)) cutG) (callD (acons (lcD [2] (seqI (sliceD (varD 0) (aP (varD 1)) noP cutG)) (nameT 2) yesT (binD (varD 2) (conD (.int 1)) (intG (i2i fun i j => i - j)))) anil) (oneG tupleG)) addG))
def F_sizes_amid : FP := runP 3 g_sizes_amid

/-- words_amid(knowledge, entry); slots: knowledge entry order words _ thing found place rows word number -/
def g_words_amid : SD :=
  (seqS (unpS (tupT [2, 3]) (varD 0))
    (seqS (unpS (tupT [4, 5, 6]) (varD 1))
    (seqS (setS 7 (metV (varD 2) (varD 5) idxG))
    (seqS (setS 8 (lcD [9] (seqI (sliceD (varD 3) noP (aP (varD 6)) cutG)) (nameT 9) yesT (binD (sliceD (varD 9) noP (aP (varD 7)) cutG) (sliceD (varD 9) (aP (binD (varD 7) (conD (.int 1)) addG)) noP cutG) addG)))
    (seqS (forS (seqI (sliceD (varD 3) (aP (varD 6)) noP cutG)) (nameT 9) (dropS (metD 8 (acons (binD (sliceD (varD 9) noP (aP (binD (varD 7) (conD (.int 1)) addG)) cutG) (callD (acons (lcD [10] (seqI (sliceD (varD 9) (aP (binD (varD 7) (conD (.int 2)) addG)) noP cutG)) (nameT 10) yesT (binD (varD 10) (conD (.int 1)) (intG (i2i fun i j => i - j)))) anil) (oneG tupleG)) addG) anil) appG)))
    (retS (callP 2 F_tightened (acons (callD (acons (varD 8) anil) (oneG tupleG)) (acons (callP 2 F_sizes_amid (acons (callP 1 F_known_sizes (acons (varD 0) anil)) (acons (varD 6) anil))) anil)))))))))
def F_words_amid : FP := runP 11 g_words_amid

/-- put_down(row, known); slots: row known number -/
def g_put_down : SD :=
  (seqS (ifS (testD (varD 1)) (retS (callD (acons (lcD [2] (seqI (varD 0)) (nameT 2) yesT (callD (acons (varD 2) (acons (binD (binD (varD 0) (unD (conD (.int 1)) negG) ixG) (conD (.int 1)) (intG (i2i fun i j => i - j))) anil)) min2G)) anil) (oneG tupleG))) nilS)
    (retS (callD (acons (lcD [2] (seqI (varD 0)) (nameT 2) yesT (callD (acons (conD (.int 0)) (acons (binD (varD 2) (conD (.int 1)) (intG (i2i fun i j => i - j))) anil)) max2G)) anil) (oneG tupleG))))
def F_put_down : FP := runP 3 g_put_down

/-- keeps_word(order, word, state, floor); slots: order word state floor count place thing -/
def g_keeps_word : SD :=
  (seqS (setS 4 (conD (.int 0)))
    (seqS (forS (enumI (acons (varD 0) anil)) (tupT [5, 6]) (seqS (ifS (testD (binD (binD (varD 2) (varD 6) ixG) (varD 3) (intG (i2b fun i j => decide (i ≤ j))))) (augS 4 (conD (.int 1)) (fun i j => i + j)) nilS)
    (ifS (testD (binD (varD 4) (binD (varD 1) (binD (varD 5) (conD (.int 1)) addG) ixG) (intG (i2b fun i j => decide (i < j))))) (retS (conD (.bool false))) nilS)))
    (retS (conD (.bool true)))))
def F_keeps_word : FP := runP 7 g_keeps_word

/-- fits(house, knowledge, state); slots: house knowledge state order words floor word -/
def g_fits : SD :=
  (seqS (unpS (tupT [3, 4]) (varD 1))
    (seqS (ifS (testD (binD (callP 2 F_sizes_of (acons (varD 0) (acons (varD 2) anil))) (callP 1 F_known_sizes (acons (varD 1) anil)) (eqQ true))) (retS (conD (.bool false))) nilS)
    (retS (callD (acons (lcD [5, 6] (enumI (acons (varD 4) anil)) (tupT [5, 6]) yesT (callP 4 F_keeps_word (acons (varD 3) (acons (varD 6) (acons (varD 2) (acons (varD 5) anil)))))) anil) allG))))
def F_fits : FP := runP 7 g_fits

/-- counts_of(row, numbers); slots: row numbers floor -/
def g_counts_of : SD :=
  (retS (callD (acons (lcD [2] (rng1I (acons (callD (acons (varD 1) anil) (oneG lenG)) anil)) (nameT 2) yesT (metV (varD 0) (varD 2) cntG)) anil) (oneG tupleG)))
def F_counts_of : FP := runP 3 g_counts_of

/-- next_floors(words, numbers, counts); slots: words numbers counts end floors within floor count -/
def g_next_floors : SD :=
  (seqS (setS 3 (binD (callD (acons (varD 2) anil) (oneG sumG)) (conD (.int 1)) addG))
    (seqS (setS 4 (lstD anil))
    (seqS (setS 5 (conD (.int 0)))
    (seqS (forS (enumI (acons (varD 2) anil)) (tupT [6, 7]) (seqS (ifS (testD (binD (varD 7) (binD (varD 1) (varD 6) ixG) (intG (i2b fun i j => decide (i < j))))) (dropS (metD 4 (acons (varD 6) anil) appG)) nilS)
    (seqS (augS 5 (varD 7) (fun i j => i + j))
    (ifS (andT (testD (binD (varD 6) (callD (acons (varD 0) anil) (oneG lenG)) (intG (i2b fun i j => decide (i < j))))) (testD (binD (varD 5) (binD (binD (varD 0) (varD 6) ixG) (varD 3) ixG) (intG (i2b fun i j => decide (i < j)))))) (retS (varD 4)) nilS))))
    (retS (varD 4))))))
def F_next_floors : FP := runP 8 g_next_floors

/-- front_state(house, knowledge); slots: house knowledge order size -/
def g_front_state : SD :=
  (seqS (setS 2 (binD (varD 1) (conD (.int 0)) ixG))
    (retS (callP 2 F_state_of_lots (acons (varD 0) (acons (lcD [3] (seqI (callP 1 F_known_sizes (acons (varD 1) anil))) (nameT 3) yesT (sliceD (varD 2) noP (aP (varD 3)) cutG)) anil)))))
def F_front_state : FP := runP 4 g_front_state

/-- going_up(order, word); slots: order word place thing -/
def g_going_up : SD :=
  (retS (lcD [2, 3] (enumI (acons (varD 0) anil)) (tupT [2, 3]) (testD (binD (binD (varD 1) (binD (varD 2) (conD (.int 1)) addG) ixG) (binD (varD 1) (varD 2) ixG) (intG (i2b fun i j => decide (j < i))))) (varD 3)))
def F_going_up : FP := runP 4 g_going_up

/-- _law_first_states(_law_house_here, _law_start_here); slots: _law_house_here _law_start_here _law_state_here -/
def g__law_first_states : SD :=
  (seqS (ifS (testD (binD (varD 1) (conD .none) (isNG' true))) (retS (lstD (acons (varD 1) anil))) nilS)
    (retS (lcD [2] (seqI (callP 1 F__law_all_states_2 (acons (varD 0) anil))) (nameT 2) (testD (binD (callP 2 F__law_sizes (acons (varD 0) (acons (varD 2) anil))) (callD (acons (callP 1 F__law_rooms_within (acons (varD 0) anil)) anil) (oneG tupleG)) (eqQ false))) (varD 2))))
def F__law_first_states : FP := runP 3 g__law_first_states

/-- state_for(house, knowledge, wanted); slots: house knowledge wanted others lots floor size lot state thing -/
def g_state_for : SD :=
  (seqS (setS 3 (lcD [9] (seqI (binD (varD 1) (conD (.int 0)) ixG)) (nameT 9) (testD (binD (varD 9) (varD 2) (inG true))) (varD 9)))
    (seqS (setS 4 (lstD anil))
    (seqS (forS (enumI (acons (callP 1 F_known_sizes (acons (varD 1) anil)) anil)) (tupT [5, 6]) (seqS (setS 7 (lcD [9] (seqI (varD 2)) (nameT 9) (testD (binD (binD (varD 2) (varD 9) ixG) (varD 5) (intG (i2b fun i j => decide (i ≤ j))))) (varD 9)))
    (dropS (metD 4 (acons (binD (varD 7) (sliceD (varD 3) noP (aP (callD (acons (conD (.int 0)) (acons (binD (varD 6) (callD (acons (varD 7) anil) (oneG lenG)) (intG (i2i fun i j => i - j))) anil)) max2G)) cutG) addG) anil) appG))))
    (seqS (setS 8 (callP 2 F_state_of_lots (acons (varD 0) (acons (varD 4) anil))))
    (seqS (ifS (notT (testD (callP 3 F_fits (acons (varD 0) (acons (varD 1) (acons (varD 8) anil)))))) (retS (conD .none)) nilS)
    (retS (varD 8)))))))
def F_state_for : FP := runP 10 g_state_for

/-- _law_is_front(_law_house, _law_known_here, _law_wanted_here, _law_state_here); slots: _law_house _law_known_here _law_wanted_here _law_state_here _law_others _law_floor _law_there _law_thing -/
def g__law_is_front : SD :=
  (seqS (setS 4 (lcD [7] (seqI (binD (varD 1) (conD (.int 0)) ixG)) (nameT 7) (testD (binD (varD 7) (varD 2) (inG true))) (varD 7)))
    (seqS (forS (rng1I (acons (callD (acons (binD (varD 0) (conD (.int 1)) ixG) anil) (oneG lenG)) anil)) (nameT 5) (seqS (setS 6 (lcD [7] (seqI (varD 4)) (nameT 7) (testD (binD (binD (varD 3) (varD 7) ixG) (varD 5) (intG (i2b fun i j => decide (i ≤ j))))) (varD 7)))
    (ifS (testD (binD (varD 6) (sliceD (varD 4) noP (aP (callD (acons (varD 6) anil) (oneG lenG))) cutG) (eqQ true))) (retS (conD (.bool false))) nilS)))
    (retS (conD (.bool true)))))
def F__law_is_front : FP := runP 8 g__law_is_front

/-- most_within(house, knowledge, lot, floor); slots: house knowledge lot floor others thing -/
def g_most_within : SD :=
  (seqS (setS 4 (lcD [5] (seqI (binD (varD 1) (conD (.int 0)) ixG)) (nameT 5) (testD (binD (varD 5) (varD 2) (inG true))) (varD 5)))
    (retS (callP 4 F_number_within (acons (varD 0) (acons (varD 1) (acons (varD 2) (acons (callP 3 F_choice_within (acons (varD 1) (acons (varD 3) (acons (binD (callD (acons (varD 2) anil) (oneG listG)) (varD 4) addG) anil)))) anil)))))))
def F_most_within : FP := runP 6 g_most_within

/-- _law_great_house(_law_bag_here); slots: _law_bag_here _law_house_here -/
def g__law_great_house : SD :=
  (seqS (setS 1 (callM 0 3 F__law_house (acons (conD (.int 16)) (acons (conD (.int 4)) (acons (callM 0 1 F__law_one (acons (lstD (acons (conD (.int 12)) (acons (conD (.int 8)) (acons (conD (.int 6)) (acons (conD (.int 9)) anil))))) anil)) anil)))))
    (retS (tupD (acons (callM 0 1 F__law_one (acons (lstD (acons (conD (.int 16)) (acons (conD (.int 12)) (acons (conD (.int 10)) (acons (conD (.int 16)) (acons (conD (.int 7)) (acons (conD (.int 14)) (acons (conD (.int 5)) (acons (callD (acons (conD (.int 1)) (acons (binD (varD 1) (conD (.int 0)) ixG) anil)) max2G) anil))))))))) anil)) (acons (binD (varD 1) (conD (.int 1)) ixG) anil)))))
def F__law_great_house : FM := runM 2 g__law_great_house

/-- _law_wide_known(_law_bag_here); slots: _law_bag_here _law_house_here _law_log -/
def g__law_wide_known : SD :=
  (seqS (setS 1 (callM 0 1 F__law_one (acons (lstD (acons (tupD (acons (conD (.int 16)) (acons (tupD (acons (conD (.int 3)) (acons (conD (.int 3)) (acons (conD (.int 3)) (acons (conD (.int 3)) anil))))) anil))) (acons (tupD (acons (conD (.int 14)) (acons (tupD (acons (conD (.int 4)) (acons (conD (.int 2)) (acons (conD (.int 3)) anil)))) anil))) (acons (tupD (acons (conD (.int 16)) (acons (tupD (acons (conD (.int 2)) (acons (conD (.int 4)) (acons (conD (.int 3)) anil)))) anil))) (acons (tupD (acons (conD (.int 15)) (acons (tupD (acons (conD (.int 5)) (acons (conD (.int 5)) anil))) anil))) anil))))) anil)))
    (seqS (setS 2 (binD (callM 0 4 F__law_story (acons (varD 1) (acons (conD .none) (acons (callM 0 1 F__law_take (acons (conD (.int 4)) anil)) (acons (conD (.int 3)) anil))))) (conD (.int 1)) ixG))
    (retS (tupD (acons (varD 1) (acons (binD (callP 3 F__law_led_by (acons (varD 1) (acons (callP 2 F__law_first_known (acons (varD 1) (acons (conD .none) anil))) (acons (varD 2) anil)))) (conD (.int 0)) ixG) anil))))))
def F__law_wide_known : FM := runM 3 g__law_wide_known

/-- alike(one, other); slots: one other -/
def g_alike : SD :=
  (retS (binD (callP 1 F_normal_of (acons (varD 0) anil)) (callP 1 F_normal_of (acons (varD 1) anil)) (eqQ false)))
def F_alike : FP := runP 2 g_alike

/-- _law_least_of(_law_known_here, _law_floor, _law_lot); slots: _law_known_here _law_floor _law_lot _law_found _law_size _law_free _law_at _law_least -/
def g__law_least_of : SD :=
  (seqS (parS [3, 4, 5] (acons (conD (.int 0)) (acons (binD (binD (binD (varD 0) (conD (.int 1)) ixG) (varD 1) ixG) (unD (conD (.int 1)) negG) ixG) (acons (conD (.int 0)) anil))))
    (seqS (forS (enumI (acons (binD (binD (varD 0) (conD (.int 1)) ixG) (varD 1) ixG) anil)) (tupT [6, 7]) (seqS (augS 5 (callD (acons (andD (binD (varD 6) (conD (.int 0)) (intG (i2b fun i j => decide (j < i)))) (binD (binD (binD (varD 0) (conD (.int 0)) ixG) (binD (varD 6) (conD (.int 1)) (intG (i2i fun i j => i - j))) ixG) (varD 2) (inG true))) anil) (oneG intTG)) (fun i j => i + j))
    (setS 3 (callD (acons (varD 3) (acons (binD (varD 7) (varD 5) (intG (i2i fun i j => i - j))) anil)) max2G))))
    (retS (varD 3))))
def F__law_least_of : FP := runP 8 g__law_least_of

/-- _law_lies(_law_one_here, _law_other); slots: _law_one_here _law_other _law_floor _law_word _law_at -/
def g__law_lies : SD :=
  (seqS (ifS (testD (binD (callP 1 F_known_sizes (acons (varD 0) anil)) (callP 1 F_known_sizes (acons (varD 1) anil)) (eqQ true))) (retS (conD (.bool false))) nilS)
    (seqS (forS (enumI (acons (binD (varD 1) (conD (.int 1)) ixG) anil)) (tupT [2, 3]) (forS (seqI (callP 1 F__law_cuts (acons (varD 3) anil))) (nameT 4) (ifS (testD (binD (callP 3 F__law_least_of (acons (varD 0) (acons (varD 2) (acons (sliceD (binD (varD 1) (conD (.int 0)) ixG) noP (aP (varD 4)) cutG) anil)))) (binD (varD 3) (varD 4) ixG) (intG (i2b fun i j => decide (i < j))))) (retS (conD (.bool false))) nilS)))
    (retS (conD (.bool true)))))
def F__law_lies : FP := runP 5 g__law_lies

/-- _law_is_small(_law_house_here); slots: _law_house_here -/
def g__law_is_small : SD :=
  (retS (andD (binD (binD (varD 0) (conD (.int 0)) ixG) (conD (.int 6)) (intG (i2b fun i j => decide (i < j)))) (andD (binD (callD (acons (binD (varD 0) (conD (.int 1)) ixG) anil) (oneG sumG)) (conD (.int 7)) (intG (i2b fun i j => decide (i < j)))) (binD (callD (acons (binD (varD 0) (conD (.int 1)) ixG) anil) (oneG lenG)) (conD (.int 4)) (intG (i2b fun i j => decide (i < j)))))))
def F__law_is_small : FP := runP 1 g__law_is_small

/-- _law_two_plain(_law_bag_here, _law_house_here); slots: _law_bag_here _law_house_here _law_many _law_order _law_sizes_here _law_bare _law_state_here _law_found _law_size _law_least _law_rows _law_words _law_count -/
def g__law_two_plain : SD :=
  (seqS (parS [2, 3] (acons (binD (varD 1) (conD (.int 0)) ixG) (acons (callD (acons (callM 0 1 F__law_mixed (acons (lstR1 (binD (varD 1) (conD (.int 0)) ixG)) anil)) anil) (oneG tupleG)) anil)))
    (seqS (setS 4 (lstD (acons (callM 0 1 F__law_state (acons (varD 1) anil)) (acons (callM 0 1 F__law_state (acons (varD 1) anil)) (acons (binD (tupD (acons (callD (acons (binD (varD 1) (conD (.int 1)) ixG) anil) (oneG lenG)) anil)) (varD 2) mulG) anil)))))
    (seqS (setS 5 (lstD anil))
    (seqS (forS (seqI (sliceD (callM 0 1 F__law_mixed (acons (varD 4) anil)) noP (aP (conD (.int 2))) cutG)) (nameT 6) (dropS (metD 5 (acons (tupD (acons (varD 3) (acons (callP 2 F__law_tightened (acons (binD (tupD (acons (binD (tupD (acons (conD (.int 0)) anil)) (binD (varD 2) (conD (.int 1)) addG) mulG) anil)) (callD (acons (binD (varD 1) (conD (.int 1)) ixG) anil) (oneG lenG)) mulG) (acons (callP 2 F__law_sizes (acons (varD 1) (acons (varD 6) anil))) anil))) anil))) anil) appG)))
    (seqS (ifS (orT (testD (binD (callM 0 1 F__law_take (acons (conD (.int 2)) anil)) (conD (.int 0)) (eqQ false))) (testD (binD (varD 2) (conD (.int 4)) (intG (i2b fun i j => decide (i < j)))))) (retS (tupD (acons (binD (varD 5) (conD (.int 0)) ixG) (acons (binD (varD 5) (conD (.int 1)) ixG) anil)))) nilS)
    (seqS (parS [7, 8] (acons (lstD anil) (acons (callP 1 F_known_sizes (acons (binD (varD 5) (conD (.int 0)) ixG) anil)) anil)))
    (seqS (forS (seqI (tupD (acons (conD (.int 1)) (acons (conD (.int 2)) anil)))) (nameT 9) (seqS (setS 10 (callD (acons (binD (lstD (acons (callD (acons (lcD [12] (rng1I (acons (binD (varD 2) (conD (.int 1)) addG) anil)) (nameT 12) yesT (iteD (testD (binD (varD 12) (conD (.int 2)) (eqQ false))) (varD 9) (conD (.int 0)))) anil) (oneG tupleG)) anil)) (callD (acons (varD 8) anil) (oneG lenG)) mulG) anil) (oneG tupleG)))
    (seqS (setS 11 (callP 2 F__law_tightened (acons (varD 10) (acons (varD 8) anil))))
    (dropS (metD 7 (acons (iteD (testD (binD (varD 11) (conD .none) (isNG' false))) (binD (varD 5) (conD (.int 0)) ixG) (tupD (acons (varD 3) (acons (varD 11) anil)))) anil) appG)))))
    (retS (tupD (acons (binD (varD 7) (conD (.int 0)) ixG) (acons (binD (varD 7) (conD (.int 1)) ixG) anil)))))))))))
def F__law_two_plain : FM := runM 13 g__law_two_plain

/-- _law_through(_law_house_here, _law_start_here, _law_log); slots: _law_house_here _law_start_here _law_log _law_found _law_entry _law_known -/
def g__law_through : SD :=
  (seqS (setS 3 (lstD (acons (callP 2 F__law_first_known (acons (varD 0) (acons (varD 1) anil))) anil)))
    (seqS (forS (seqI (varD 2)) (nameT 4) (seqS (setS 5 (callP 3 F__law_led_2 (acons (varD 0) (acons (binD (varD 3) (unD (conD (.int 1)) negG) ixG) (acons (varD 4) anil)))))
    (seqS (ifS (testD (binD (varD 5) (conD .none) (isNG' false))) (retS (varD 3)) nilS)
    (dropS (metD 3 (acons (varD 5) anil) appG)))))
    (retS (varD 3))))
def F__law_through : FP := runP 6 g__law_through

/-- reaching_state(house, knowledge, floor, count); slots: house knowledge floor count order words -/
def g_reaching_state : SD :=
  (seqS (unpS (tupT [4, 5]) (varD 1))
    (retS (callP 3 F_state_with_lot (acons (varD 0) (acons (varD 1) (acons (callP 2 F_going_up (acons (varD 4) (acons (binD (varD 5) (varD 2) ixG) anil))) anil))))))
def F_reaching_state : FP := runP 6 g_reaching_state

/-- _law_floor_by(_law_order, _law_place, _law_sizes_here); slots: _law_order _law_place _law_sizes_here _law_floor _law_size -/
def g__law_floor_by : SD :=
  (retS (binD (lcD [3, 4] (enumI (acons (binD (varD 2) (tupD (acons (callD (acons (varD 0) anil) (oneG lenG)) anil)) addG) anil)) (tupT [3, 4]) (testD (binD (varD 1) (varD 4) (intG (i2b fun i j => decide (i < j))))) (varD 3)) (conD (.int 0)) ixG))
def F__law_floor_by : FP := runP 5 g__law_floor_by

/-- _law_front(_law_house_here, _law_known_here); slots: _law_house_here _law_known_here _law_order _law_sizes_here _law_thing -/
def g__law_front : SD :=
  (seqS (parS [2, 3] (acons (binD (varD 1) (conD (.int 0)) ixG) (acons (callP 1 F_known_sizes (acons (varD 1) anil)) anil)))
    (retS (callD (acons (lcD [4] (rng1I (acons (binD (varD 0) (conD (.int 0)) ixG) anil)) (nameT 4) yesT (callP 3 F__law_floor_by (acons (varD 2) (acons (metV (varD 2) (varD 4) idxG) (acons (varD 3) anil))))) anil) (oneG tupleG))))
def F__law_front : FP := runP 5 g__law_front

/-- _law_back(_law_house_here, _law_known_here); slots: _law_house_here _law_known_here _law_order _law_words _law_found _law_thing _law_place _law_up _law_floor _law_word -/
def g__law_back : SD :=
  (seqS (parS [2, 3, 4] (acons (binD (varD 1) (conD (.int 0)) ixG) (acons (binD (varD 1) (conD (.int 1)) ixG) (acons (lstD anil) anil))))
    (seqS (forS (rng1I (acons (binD (varD 0) (conD (.int 0)) ixG) anil)) (nameT 5) (seqS (setS 6 (metV (varD 2) (varD 5) idxG))
    (seqS (setS 7 (lcD [8, 9] (enumI (acons (varD 3) anil)) (tupT [8, 9]) (testD (binD (binD (varD 9) (binD (varD 6) (conD (.int 1)) addG) ixG) (binD (varD 9) (varD 6) ixG) (intG (i2b fun i j => decide (j < i))))) (varD 8)))
    (dropS (metD 4 (acons (binD (binD (varD 7) (lstD (acons (callD (acons (varD 3) anil) (oneG lenG)) anil)) addG) (conD (.int 0)) ixG) anil) appG)))))
    (retS (callD (acons (varD 4) anil) (oneG tupleG)))))
def F__law_back : FP := runP 10 g__law_back

/-- _law_count_within(_law_known_here, _law_state_here, _law_floor, _law_count); slots: _law_known_here _law_state_here _law_floor _law_count _law_thing -/
def g__law_count_within : SD :=
  (retS (callD (acons (lcD [4] (seqI (sliceD (binD (varD 0) (conD (.int 0)) ixG) noP (aP (varD 3)) cutG)) (nameT 4) (testD (binD (binD (varD 1) (varD 4) ixG) (varD 2) (intG (i2b fun i j => decide (i ≤ j))))) (varD 4)) anil) (oneG lenG)))
def F__law_count_within : FP := runP 5 g__law_count_within

/-- _wall(k); slots: k -/
def g__wall : SD :=
  (whileS 10000 (testD (conD (.bool true))) nilS)
def F__wall : FP := runP 1 g__wall

/-- _law_moments(_law_house_here, _law_start_here, _law_log); slots: _law_house_here _law_start_here _law_log _law_known _law_within_here _law_order _law_sizes_here _law_found _law_word _law_thing _law_floor _law_place _law_filled _law_rest _law_at _law_size -/
def g__law_moments : SD :=
  (seqS (parS [3, 4] (acons (callP 2 F__law_first_known (acons (varD 0) (acons (varD 1) anil))) (acons (callP 1 F__law_rooms_within (acons (varD 0) anil)) anil)))
    (seqS (parS [5, 6] (acons (binD (varD 3) (conD (.int 0)) ixG) (acons (callP 1 F_known_sizes (acons (varD 3) anil)) anil)))
    (seqS (setS 7 (lstD (acons (tupD (acons (varD 5) (acons (varD 6) (acons (tupD anil) anil)))) anil)))
    (seqS (forS (seqI (varD 2)) (tupT [8, 9, 10]) (seqS (setS 11 (metV (varD 5) (varD 9) idxG))
    (seqS (setS 12 (lcD [14, 15] (enumI (acons (varD 6) anil)) (tupT [14, 15]) (andT (testD (binD (varD 14) (varD 10) (intG (i2b fun i j => decide (i < j))))) (testD (binD (varD 15) (binD (varD 4) (varD 14) ixG) (eqQ false)))) (varD 14)))
    (seqS (setS 13 (binD (sliceD (varD 5) noP (aP (varD 11)) cutG) (sliceD (varD 5) (aP (binD (varD 11) (conD (.int 1)) addG)) noP cutG) addG))
    (seqS (setS 6 (callD (acons (lcD [14, 15] (enumI (acons (varD 6) anil)) (tupT [14, 15]) yesT (binD (varD 15) (callD (acons (binD (varD 14) (varD 10) (intG (i2b fun i j => decide (j ≤ i)))) anil) (oneG intTG)) (intG (i2i fun i j => i - j)))) anil) (oneG tupleG)))
    (seqS (dropS (metD 7 (acons (tupD (acons (varD 13) (acons (varD 6) (acons (tupD (acons (conD (.str ("amid" : Str))) (acons (varD 11) (acons (varD 10) anil)))) anil)))) anil) appG))
    (seqS (setS 5 (binD (varD 13) (tupD (acons (varD 9) anil)) addG))
    (seqS (ifS (testD (binD (varD 8) (conD (.str ("ask" : Str))) (eqQ false))) (parS [5, 6] (acons (binD (tupD (acons (varD 9) anil)) (varD 13) addG) (acons (callD (acons (lcD [14, 15] (enumI (acons (varD 6) anil)) (tupT [14, 15]) yesT (binD (varD 15) (callD (acons (binD (varD 14) (varD 12) (inG true)) anil) (oneG intTG)) addG)) anil) (oneG tupleG)) anil))) nilS)
    (dropS (metD 7 (acons (tupD (acons (varD 5) (acons (varD 6) (acons (iteD (testD (binD (varD 8) (conD (.str ("ask" : Str))) (eqQ false))) (tupD (acons (conD (.str ("ask" : Str))) (acons (varD 12) anil))) (tupD (acons (conD (.str ("strike" : Str))) anil))) anil)))) anil) appG))))))))))
    (retS (varD 7))))))
def F__law_moments : FP := runP 16 g__law_moments

/-- _law_spot(_law_bag_here, _law_moments_here, _law_floors); slots: _law_bag_here _law_moments_here _law_floors _law_at -/
def g__law_spot : SD :=
  (seqS (setS 3 (callM 0 1 F__law_take (acons (callD (acons (varD 1) anil) (oneG lenG)) anil)))
    (retS (tupD (acons (varD 3) (acons (callM 0 1 F__law_take (acons (varD 2) anil)) (acons (callM 0 1 F__law_take (acons (binD (callD (acons (binD (binD (varD 1) (varD 3) ixG) (conD (.int 0)) ixG) anil) (oneG lenG)) (conD (.int 1)) addG) anil)) anil))))))
def F__law_spot : FM := runM 4 g__law_spot

/-- _law_near_claims(_law_moments_here, _law_floors, _law_at, _law_floor, _law_count); slots: _law_moments_here _law_floors _law_at _law_floor _law_count _law_some _law_m _law_j _law_d -/
def g__law_near_claims : SD :=
  (seqS (setS 5 (lstD (acons (tupD (acons (varD 2) (acons (varD 3) (acons (binD (varD 4) (conD (.int 1)) (intG (i2i fun i j => i - j))) anil)))) (acons (tupD (acons (varD 2) (acons (varD 3) (acons (binD (varD 4) (conD (.int 1)) addG) anil)))) (acons (tupD (acons (varD 2) (acons (binD (varD 3) (conD (.int 1)) (intG (i2i fun i j => i - j))) (acons (varD 4) anil)))) (acons (tupD (acons (varD 2) (acons (binD (varD 3) (conD (.int 1)) addG) (acons (varD 4) anil)))) anil))))))
    (seqS (setS 5 (binD (varD 5) (lstD (acons (tupD (acons (binD (varD 2) (conD (.int 1)) (intG (i2i fun i j => i - j))) (acons (varD 3) (acons (varD 4) anil)))) (acons (tupD (acons (binD (varD 2) (conD (.int 1)) (intG (i2i fun i j => i - j))) (acons (varD 3) (acons (binD (varD 4) (conD (.int 1)) addG) anil)))) (acons (tupD (acons (binD (varD 2) (conD (.int 1)) (intG (i2i fun i j => i - j))) (acons (varD 3) (acons (binD (varD 4) (conD (.int 1)) (intG (i2i fun i j => i - j))) anil)))) anil)))) addG))
    (retS (lcD [6, 7, 8] (seqI (varD 5)) (tupT [6, 7, 8]) (andT (testD (binD (conD (.int 0)) (varD 6) (intG (i2b fun i j => decide (i ≤ j))))) (andT (testD (chainD (conD (.int 0)) (varD 7) (varD 1) (intG (i2b fun i j => decide (i ≤ j))) (intG (i2b fun i j => decide (i < j))))) (testD (chainD (conD (.int 0)) (varD 8) (callD (acons (binD (binD (varD 0) (varD 6) ixG) (conD (.int 0)) ixG) anil) (oneG lenG)) (intG (i2b fun i j => decide (i ≤ j))) (intG (i2b fun i j => decide (i ≤ j))))))) (tupD (acons (varD 6) (acons (varD 7) (acons (varD 8) anil))))))))
def F__law_near_claims : FP := runP 9 g__law_near_claims

/-- _law_from(_law_moments_here, _law_ahead, _law_at, _law_floor, _law_count); slots: _law_moments_here _law_ahead _law_at _law_floor _law_count _law_before _law_other _law_few _law_more _law_sizes_here _law_way -/
def g__law_from : SD :=
  (seqS (unpS (tupT [5, 6, 7, 8]) (varD 1))
    (seqS (parS [9, 10] (acons (binD (binD (varD 0) (varD 2) ixG) (conD (.int 1)) ixG) (acons (binD (binD (varD 0) (varD 2) ixG) (conD (.int 2)) ixG) anil)))
    (seqS (ifS (andT (testD (binD (varD 2) (varD 5) (eqQ false))) (andT (testD (binD (varD 3) (varD 6) (eqQ false))) (testD (binD (binD (varD 4) (varD 7) (intG (i2i fun i j => i - j))) (tupD (acons (conD (.int 1)) (acons (unD (conD (.int 1)) negG) anil))) (inG false))))) (retS (iteD (testD (binD (varD 4) (varD 7) (intG (i2b fun i j => decide (j < i))))) (varD 8) (binD (varD 8) (conD (.int 1)) (intG (i2i fun i j => i - j))))) nilS)
    (seqS (ifS (andT (testD (binD (varD 2) (varD 5) (eqQ false))) (andT (testD (binD (varD 4) (varD 7) (eqQ false))) (testD (binD (binD (varD 3) (varD 6) (intG (i2i fun i j => i - j))) (tupD (acons (conD (.int 1)) (acons (unD (conD (.int 1)) negG) anil))) (inG false))))) (retS (iteD (testD (binD (varD 3) (varD 6) (intG (i2b fun i j => decide (j < i))))) (varD 8) (binD (binD (varD 8) (binD (varD 9) (varD 6) ixG) (intG (i2i fun i j => i - j))) (binD (varD 9) (varD 3) ixG) addG))) nilS)
    (seqS (ifS (orT (testD (binD (varD 2) (binD (varD 5) (conD (.int 1)) addG) (eqQ true))) (testD (binD (varD 3) (varD 6) (eqQ true)))) (retS (conD .none)) nilS)
    (seqS (ifS (testD (binD (binD (varD 10) (conD (.int 0)) ixG) (conD (.str ("amid" : Str))) (eqQ false))) (seqS (ifS (andT (testD (binD (varD 4) (varD 7) (eqQ false))) (testD (binD (varD 4) (binD (varD 10) (conD (.int 1)) ixG) (intG (i2b fun i j => decide (i ≤ j)))))) (retS (varD 8)) nilS)
    (retS (iteD (andT (testD (binD (varD 4) (binD (varD 7) (conD (.int 1)) (intG (i2i fun i j => i - j))) (eqQ false))) (testD (binD (varD 4) (binD (varD 10) (conD (.int 1)) ixG) (intG (i2b fun i j => decide (j ≤ i)))))) (binD (varD 8) (callD (acons (binD (binD (varD 10) (conD (.int 2)) ixG) (varD 3) (intG (i2b fun i j => decide (i ≤ j)))) anil) (oneG intTG)) (intG (i2i fun i j => i - j))) (conD .none)))) nilS)
    (seqS (ifS (testD (binD (binD (varD 10) (conD (.int 0)) ixG) (conD (.str ("strike" : Str))) (eqQ false))) (retS (iteD (testD (binD (varD 4) (varD 7) (eqQ false))) (varD 8) (conD .none))) nilS)
    (retS (iteD (testD (binD (varD 4) (binD (varD 7) (conD (.int 1)) addG) (eqQ false))) (binD (varD 8) (callD (acons (binD (varD 3) (binD (varD 10) (conD (.int 1)) ixG) (inG true)) anil) (oneG intTG)) addG) (conD .none))))))))))
def F__law_from : FP := runP 11 g__law_from

/-- _law_never(_law_moments_here, _law_best); slots: _law_moments_here _law_best -/
def g__law_never : SD :=
  (retS (conD (.bool false)))
def F__law_never : FP := runP 2 g__law_never

/-- _law_leasts_at(_law_house_here, _law_moments_here, _law_best, _law_at); slots: _law_house_here _law_moments_here _law_best _law_at _law_counts _law_found _law_floor _law_count -/
def g__law_leasts_at : SD :=
  (seqS (parS [4, 5] (acons (lstR1 (binD (callD (acons (binD (binD (varD 1) (varD 3) ixG) (conD (.int 0)) ixG) anil) (oneG lenG)) (conD (.int 1)) addG)) (acons (lstD anil) anil)))
    (seqS (forS (rng1I (acons (callD (acons (binD (varD 0) (conD (.int 1)) ixG) anil) (oneG lenG)) anil)) (nameT 6) (dropS (metD 5 (acons (callD (acons (lcD [7] (seqI (varD 4)) (nameT 7) yesT (binD (varD 2) (tupD (acons (varD 3) (acons (varD 6) (acons (varD 7) anil)))) ixG)) anil) (oneG tupleG)) anil) appG)))
    (retS (callD (acons (varD 5) anil) (oneG tupleG)))))
def F__law_leasts_at : FP := runP 8 g__law_leasts_at

/-- naming_log(house, state); slots: house state floor thing -/
def g_naming_log : SD :=
  (retS (callD (acons (lc2D [2, 3] [3] (rng1I (acons (callD (acons (binD (varD 0) (conD (.int 1)) ixG) anil) (oneG lenG)) anil)) (nameT 2) yesT (seqI (callP 3 F_things_on (acons (varD 0) (acons (varD 1) (acons (varD 2) anil))))) (nameT 3) yesT (tupD (acons (conD (.str ("ask" : Str))) (acons (varD 3) (acons (varD 2) anil))))) anil) (oneG tupleG)))
def F_naming_log : FP := runP 4 g_naming_log

/-- _law_naming(_law_house_here, _law_state_here); slots: _law_house_here _law_state_here _law_found _law_floor _law_thing -/
def g__law_naming : SD :=
  (seqS (setS 2 (lstD anil))
    (seqS (forS (rng1I (acons (callD (acons (binD (varD 0) (conD (.int 1)) ixG) anil) (oneG lenG)) anil)) (nameT 3) (dropS (metD 2 (acons (lcD [4] (rng1I (acons (binD (varD 0) (conD (.int 0)) ixG) anil)) (nameT 4) (testD (binD (binD (varD 1) (varD 4) ixG) (varD 3) (eqQ false))) (tupD (acons (conD (.str ("ask" : Str))) (acons (varD 4) (acons (varD 3) anil))))) anil) extG)))
    (retS (callD (acons (varD 2) anil) (oneG tupleG)))))
def F__law_naming : FP := runP 5 g__law_naming

/-- parting_state(house, one, other); slots: house one other state -/
def g_parting_state : SD :=
  (seqS (setS 3 (callP 3 F_state_beyond (acons (varD 0) (acons (varD 1) (acons (varD 2) anil)))))
    (seqS (ifS (testD (binD (varD 3) (conD .none) (isNG' false))) (retS (callP 3 F_state_beyond (acons (varD 0) (acons (varD 2) (acons (varD 1) anil))))) nilS)
    (retS (varD 3))))
def F_parting_state : FP := runP 4 g_parting_state

/-- parting_log(house, one, other); slots: house one other state -/
def g_parting_log : SD :=
  (seqS (setS 3 (callP 3 F_parting_state (acons (varD 0) (acons (varD 1) (acons (varD 2) anil)))))
    (seqS (ifS (testD (binD (varD 3) (conD .none) (isNG' false))) (retS (conD .none)) nilS)
    (retS (callP 2 F_naming_log (acons (varD 0) (acons (varD 3) anil))))))
def F_parting_log : FP := runP 4 g_parting_log

/-- none_yet(house); slots: house -/
def g_none_yet : SD :=
  (retS (binD (tupD (acons (conD (.int 0)) anil)) (binD (callD (acons (binD (varD 0) (conD (.int 1)) ixG) anil) (oneG lenG)) (conD (.int 1)) addG) mulG))
def F_none_yet : FP := runP 1 g_none_yet

/-- one_more(counts, floor); slots: counts floor -/
def g_one_more : SD :=
  (retS (binD (binD (sliceD (varD 0) noP (aP (varD 1)) cutG) (tupD (acons (binD (binD (varD 0) (varD 1) ixG) (conD (.int 1)) addG) anil)) addG) (sliceD (varD 0) (aP (binD (varD 1) (conD (.int 1)) addG)) noP cutG) addG))
def F_one_more : FP := runP 2 g_one_more

/-- _law_is_enough(_law_known_here, _law_count, _law_filled); slots: _law_known_here _law_count _law_filled _law_within_here _law_word _law_more -/
def g__law_is_enough : SD :=
  (seqS (setS 3 (conD (.int 0)))
    (seqS (forS (zipI (acons (binD (varD 0) (conD (.int 1)) ixG) (acons (varD 2) anil))) (tupT [4, 5]) (seqS (augS 3 (varD 5) (fun i j => i + j))
    (ifS (testD (binD (varD 3) (binD (varD 4) (varD 1) ixG) (intG (i2b fun i j => decide (i < j))))) (retS (conD (.bool false))) nilS)))
    (retS (conD (.bool true)))))
def F__law_is_enough : FP := runP 6 g__law_is_enough

/-- _law_rooms(_law_floors, _law_most); slots: _law_floors _law_most _law_found _law_floor _law_longer _law_rooms_here _law_left _law_one_here -/
def g__law_rooms : SD :=
  (seqS (setS 2 (lstD (acons (tupD anil) anil)))
    (seqS (forS (rng1I (acons (varD 0) anil)) (nameT 3) (seqS (setS 4 (lstD anil))
    (seqS (forS (seqI (varD 2)) (nameT 5) (seqS (setS 6 (binD (binD (varD 1) (callD (acons (varD 5) anil) (oneG sumG)) (intG (i2i fun i j => i - j))) (binD (binD (varD 0) (varD 3) (intG (i2i fun i j => i - j))) (conD (.int 1)) (intG (i2i fun i j => i - j))) (intG (i2i fun i j => i - j))))
    (dropS (metD 4 (acons (lcD [7] (rng2I (acons (conD (.int 1)) (acons (binD (varD 6) (conD (.int 1)) addG) anil))) (nameT 7) yesT (binD (varD 5) (tupD (acons (varD 7) anil)) addG)) anil) extG))))
    (setS 2 (varD 4)))))
    (retS (callD (acons (varD 2) anil) (oneG sortG)))))
def F__law_rooms : FP := runP 8 g__law_rooms

/-- _law_against(_law_house, _law_log); slots: _law_house _law_log -/
def g__law_against : SD :=
  (retS (binD (callP 3 F__law_led_by_2 (acons (varD 0) (acons (callP 2 F__law_first_known (acons (varD 0) (acons (binD (tupD (acons (callD (acons (binD (varD 0) (conD (.int 1)) ixG) anil) (oneG lenG)) anil)) (binD (varD 0) (conD (.int 0)) ixG) mulG) anil))) (acons (varD 1) anil)))) (conD (.int 1)) ixG))
def F__law_against : FP := runP 2 g__law_against

/-- as_log(row, floors); slots: row floors thing floor -/
def g_as_log : SD :=
  (retS (callD (acons (lcD [2, 3] (zipI (acons (varD 0) (acons (varD 1) anil))) (tupT [2, 3]) yesT (tupD (acons (conD (.str ("ask" : Str))) (acons (varD 2) (acons (varD 3) anil))))) anil) (oneG tupleG)))
def F_as_log : FP := runP 4 g_as_log

/-- found_behind(floors, floor); slots: floors floor found -/
def g_found_behind : SD :=
  (retS (callD (acons (lcD [2] (seqI (varD 0)) (nameT 2) (testD (binD (varD 2) (varD 1) (intG (i2b fun i j => decide (j < i))))) (varD 2)) anil) (oneG lenG)))
def F_found_behind : FP := runP 3 g_found_behind

/-- _law_pattern(_law_house_here, _law_known_here, _law_row_here, _law_greatest); slots: _law_house_here _law_known_here _law_row_here _law_greatest _law_found _law_at _law_thing _law_floors -/
def g__law_pattern : SD :=
  (seqS (setS 4 (lstD anil))
    (seqS (forS (enumI (acons (varD 2) anil)) (tupT [5, 6]) (seqS (setS 7 (callP 2 F__law_floors_of (acons (varD 1) (acons (varD 6) anil))))
    (seqS (dropS (metD 4 (acons (iteD (testD (binD (varD 5) (varD 3) (intG (i2b fun i j => decide (i < j))))) (binD (varD 7) (unD (conD (.int 1)) negG) ixG) (binD (varD 7) (conD (.int 0)) ixG)) anil) appG))
    (setS 1 (callP 3 F__law_led_2 (acons (varD 0) (acons (varD 1) (acons (tupD (acons (conD (.str ("ask" : Str))) (acons (varD 6) (acons (binD (varD 4) (unD (conD (.int 1)) negG) ixG) anil)))) anil))))))))
    (retS (tupD (acons (callD (acons (varD 4) anil) (oneG tupleG)) (acons (varD 1) anil))))))
def F__law_pattern : FP := runP 8 g__law_pattern

/-- _law_row(_law_bag_here, _law_house_here, _law_most); slots: _law_bag_here _law_house_here _law_most _law_few _law_turn -/
def g__law_row : SD :=
  (seqS (ifS (testD (binD (binD (varD 1) (conD (.int 0)) ixG) (conD (.int 0)) (eqQ false))) (retS (tupD anil)) nilS)
    (seqS (setS 3 (sliceD (callM 0 1 F__law_mixed (acons (lstR1 (binD (varD 1) (conD (.int 0)) ixG)) anil)) noP (aP (binD (conD (.int 1)) (callM 0 1 F__law_take (acons (binD (varD 1) (conD (.int 0)) ixG) anil)) addG)) cutG))
    (retS (callD (acons (lcD [4] (rng1I (acons (callM 0 1 F__law_one (acons (lstD (acons (varD 2) (acons (callM 0 1 F__law_take (acons (binD (varD 2) (conD (.int 1)) addG) anil)) (acons (binD (varD 2) (conD (.int 2)) (intG fdivG)) anil)))) anil)) anil)) (nameT 4) yesT (callM 0 1 F__law_one (acons (varD 3) anil))) anil) (oneG tupleG)))))
def F__law_row : FM := runM 5 g__law_row

/-- _law_all_patterns(_law_house_here, _law_known_here, _law_row_here, _law_most); slots: _law_house_here _law_known_here _law_row_here _law_most _law_lines _law_thing _law_later _law_floors _law_here _law_floor -/
def g__law_all_patterns : SD :=
  (seqS (setS 4 (lstD (acons (tupD (acons (tupD anil) (acons (varD 1) anil))) anil)))
    (seqS (forS (seqI (varD 2)) (nameT 5) (seqS (setS 6 (lstD anil))
    (seqS (forS (seqI (varD 4)) (tupT [7, 8]) (forS (seqI (callP 2 F__law_floors_of (acons (varD 8) (acons (varD 5) anil)))) (nameT 9) (dropS (metD 6 (acons (tupD (acons (binD (varD 7) (tupD (acons (varD 9) anil)) addG) (acons (callP 3 F__law_led_2 (acons (varD 0) (acons (varD 8) (acons (tupD (acons (conD (.str ("ask" : Str))) (acons (varD 5) (acons (varD 9) anil)))) anil)))) anil))) anil) appG))))
    (seqS (setS 4 (varD 6))
    (ifS (testD (binD (callD (acons (varD 4) anil) (oneG lenG)) (varD 3) (intG (i2b fun i j => decide (j < i))))) (retS (conD .none)) nilS)))))
    (retS (callD (acons (lcD [7, 8] (seqI (varD 4)) (tupT [7, 8]) yesT (varD 7)) anil) (oneG sortG)))))
def F__law_all_patterns : FP := runP 10 g__law_all_patterns

/-- _law_just_many(_law_bag_here); slots: _law_bag_here _law_house_here _law_log -/
def g__law_just_many : SD :=
  (seqS (ifS (testD (binD (callM 0 1 F__law_take (acons (conD (.int 2)) anil)) (conD (.int 0)) (eqQ false))) (retS (tupD (acons (tupD (acons (conD (.int 5)) (acons (tupD (acons (conD (.int 1)) (acons (conD (.int 1)) (acons (conD (.int 1)) anil)))) anil))) (acons (callP 2 F__law_first_known (acons (tupD (acons (conD (.int 5)) (acons (tupD (acons (conD (.int 1)) (acons (conD (.int 1)) (acons (conD (.int 1)) anil)))) anil))) (acons (conD .none) anil))) (acons (tupD (acons (conD (.int 0)) (acons (conD (.int 1)) (acons (conD (.int 2)) (acons (conD (.int 3)) (acons (conD (.int 4)) (acons (conD (.int 0)) (acons (conD (.int 1)) (acons (conD (.int 2)) anil))))))))) anil))))) nilS)
    (seqS (parS [1, 2] (acons (tupD (acons (conD (.int 8)) (acons (tupD (acons (conD (.int 1)) (acons (conD (.int 3)) (acons (conD (.int 1)) (acons (conD (.int 2)) anil))))) anil))) (acons (tupD (acons (tupD (acons (conD (.str ("ask" : Str))) (acons (conD (.int 4)) (acons (conD (.int 4)) anil)))) (acons (tupD (acons (conD (.str ("strike" : Str))) (acons (conD (.int 3)) (acons (conD (.int 2)) anil)))) (acons (tupD (acons (conD (.str ("ask" : Str))) (acons (conD (.int 0)) (acons (conD (.int 3)) anil)))) anil)))) anil)))
    (retS (tupD (acons (varD 1) (acons (binD (callP 3 F__law_led_by_2 (acons (varD 1) (acons (callP 2 F__law_first_known (acons (varD 1) (acons (conD .none) anil))) (acons (varD 2) anil)))) (conD (.int 0)) ixG) (acons (tupD (acons (conD (.int 7)) (acons (conD (.int 4)) (acons (conD (.int 5)) (acons (conD (.int 0)) (acons (conD (.int 6)) (acons (conD (.int 7)) anil))))))) anil)))))))
def F__law_just_many : FM := runM 3 g__law_just_many

/-- _law_nested_known(_law_bag_here, _law_house_here); slots: _law_bag_here _law_house_here _law_known_here -/
def g__law_nested_known : SD :=
  (seqS (setS 2 (binD (callM 0 3 F__law_known_2 (acons (varD 1) (acons (conD (.int 14)) (acons (callM 0 1 F__law_one (acons (lstD (acons (conD (.int 0)) (acons (conD (.int 6)) (acons (conD (.int 5)) anil)))) anil)) anil)))) (conD (.int 2)) ixG))
    (retS (iteD (testD (callP 1 F__law_is_nested (acons (varD 2) anil))) (varD 2) (callP 2 F__law_first_known (acons (varD 1) (acons (callM 0 1 F__law_state (acons (varD 1) anil)) anil))))))
def F__law_nested_known : FM := runM 3 g__law_nested_known

/-- _law_in_front(_law_order, _law_entry); slots: _law_order _law_entry _law_rest _law_one_here -/
def g__law_in_front : SD :=
  (seqS (setS 2 (callD (acons (lcD [3] (seqI (varD 0)) (nameT 3) (testD (binD (varD 3) (binD (varD 1) (conD (.int 1)) ixG) (eqQ true))) (varD 3)) anil) (oneG tupleG)))
    (retS (iteD (testD (binD (binD (varD 1) (conD (.int 0)) ixG) (conD (.str ("ask" : Str))) (eqQ false))) (binD (tupD (acons (binD (varD 1) (conD (.int 1)) ixG) anil)) (varD 2) addG) (binD (varD 2) (tupD (acons (binD (varD 1) (conD (.int 1)) ixG) anil)) addG))))
def F__law_in_front : FP := runP 4 g__law_in_front

/-- _law_known_asks(_law_house_here, _law_state_here, _law_order, _law_known, _law_thing); slots: _law_house_here _law_state_here _law_order _law_known _law_thing _law_found _law_move _law_here _law_is_so _law_floor _law_down _law_there _law_one_here -/
def g__law_known_asks : SD :=
  (seqS (setS 5 (lstD anil))
    (seqS (forS (seqI (callP 3 F__law_asks (acons (varD 0) (acons (varD 1) (acons (varD 4) anil))))) (nameT 6) (seqS (parS [7, 8] (acons (callD (acons (varD 1) anil) (oneG listG)) (acons (conD (.bool true)) anil)))
    (seqS (setIx 7 (varD 4) (conD (.int 0)))
    (seqS (forS (enumI (acons (binD (varD 6) (conD (.int 2)) ixG) anil)) (tupT [9, 10]) (seqS (setS 11 (lcD [12] (seqI (varD 2)) (nameT 12) (testD (binD (binD (varD 7) (varD 12) ixG) (varD 9) (eqQ false))) (varD 12)))
    (seqS (setS 8 (andD (varD 8) (orD (binD (varD 9) (varD 3) (intG (i2b fun i j => decide (j ≤ i)))) (binD (binD (varD 11) (unD (conD (.int 1)) negG) ixG) (varD 10) (eqQ false)))))
    (setIx 7 (varD 10) (binD (varD 9) (conD (.int 1)) addG)))))
    (ifS (testD (varD 8)) (dropS (metD 5 (acons (varD 6) anil) appG)) nilS)))))
    (retS (varD 5))))
def F__law_known_asks : FP := runP 13 g__law_known_asks

/-- _law_led_known(_law_house_here, _law_now, _law_known, _law_entry); slots: _law_house_here _law_now _law_known _law_entry _law_order _law_words _law_word _law_thing _law_found _law_place _law_sizes_here _law_rows _law_floor _law_row _law_less _law_later _law_tight _law_rest _law_full _law_one_here -/
def g__law_led_known : SD :=
  (seqS (unpS (tupT [4, 5]) (varD 1))
    (seqS (unpS (tupT [6, 7, 8]) (varD 3))
    (seqS (parS [9, 10, 11] (acons (metV (varD 4) (varD 7) idxG) (acons (callD (acons (callP 1 F_known_sizes (acons (varD 1) anil)) anil) (oneG listG)) (acons (lstD anil) anil))))
    (seqS (forS (enumI (acons (varD 5) anil)) (tupT [12, 13]) (seqS (setS 14 (callD (acons (binD (varD 12) (varD 8) (intG (i2b fun i j => decide (j ≤ i)))) anil) (oneG intTG)))
    (seqS (setS 15 (lcD [19] (seqI (sliceD (varD 13) (aP (binD (varD 9) (conD (.int 1)) addG)) noP cutG)) (nameT 19) yesT (binD (varD 19) (varD 14) (intG (i2i fun i j => i - j)))))
    (seqS (dropS (metD 11 (acons (callD (acons (binD (binD (callD (acons (sliceD (varD 13) noP (aP (varD 9)) cutG) anil) (oneG listG)) (lstD (acons (callD (acons (binD (varD 13) (varD 9) ixG) (acons (binD (varD 15) (conD (.int 0)) ixG) anil)) max2G) anil)) addG) (sliceD (varD 15) (aP (conD (.int 1))) noP cutG) addG) anil) (oneG tupleG)) anil) appG))
    (augIx 10 (varD 12) (varD 14) (fun i j => i - j))))))
    (seqS (setS 16 (callP 2 F__law_tightened (acons (callD (acons (varD 11) anil) (oneG tupleG)) (acons (callD (acons (varD 10) anil) (oneG tupleG)) anil))))
    (seqS (ifS (testD (binD (varD 16) (conD .none) (isNG' false))) (retS (conD .none)) nilS)
    (seqS (setS 17 (callD (acons (lcD [19] (seqI (varD 4)) (nameT 19) (testD (binD (varD 19) (varD 7) (eqQ true))) (varD 19)) anil) (oneG tupleG)))
    (seqS (ifS (testD (binD (varD 6) (conD (.str ("strike" : Str))) (eqQ false))) (retS (tupD (acons (binD (varD 17) (tupD (acons (varD 7) anil)) addG) (acons (callD (acons (lcD [13] (seqI (varD 16)) (nameT 13) yesT (binD (varD 13) (sliceD (varD 13) (aP (unD (conD (.int 1)) negG)) noP cutG) addG)) anil) (oneG tupleG)) anil)))) nilS)
    (seqS (parS [14, 18] (acons (lstD anil) (acons (callP 1 F__law_rooms_within (acons (varD 0) anil)) anil)))
    (seqS (forS (enumI (acons (varD 16) anil)) (tupT [12, 13]) (seqS (ifS (andT (testD (binD (varD 12) (varD 8) (intG (i2b fun i j => decide (i < j))))) (testD (binD (binD (varD 10) (varD 12) ixG) (binD (varD 18) (varD 12) ixG) (eqQ false)))) (seqS (augIx 10 (varD 12) (conD (.int 1)) (fun i j => i - j))
    (setS 13 (callD (acons (lcD [19] (seqI (varD 13)) (nameT 19) yesT (iteD (testD (binD (varD 12) (varD 2) (intG (i2b fun i j => decide (i < j))))) (callD (acons (varD 19) (acons (binD (varD 10) (varD 12) ixG) anil)) min2G) (callD (acons (conD (.int 0)) (acons (binD (varD 19) (conD (.int 1)) (intG (i2i fun i j => i - j))) anil)) max2G))) anil) (oneG tupleG)))) nilS)
    (dropS (metD 14 (acons (varD 13) anil) appG))))
    (seqS (setS 16 (callP 2 F__law_tightened (acons (callD (acons (varD 14) anil) (oneG tupleG)) (acons (callD (acons (varD 10) anil) (oneG tupleG)) anil))))
    (retS (tupD (acons (binD (tupD (acons (varD 7) anil)) (varD 17) addG) (acons (callD (acons (lcD [13] (seqI (varD 16)) (nameT 13) yesT (binD (tupD (acons (conD (.int 0)) anil)) (callD (acons (lcD [19] (seqI (varD 13)) (nameT 19) yesT (binD (varD 19) (conD (.int 1)) addG)) anil) (oneG tupleG)) addG)) anil) (oneG tupleG)) anil)))))))))))))))
def F__law_led_known : FP := runP 20 g__law_led_known

/-- fills(entry, told); slots: entry told -/
def g_fills : SD :=
  (retS (andD (binD (sliceD (varD 0) noP (aP (conD (.int 2))) cutG) (sliceD (varD 1) noP (aP (conD (.int 2))) cutG) (eqQ false)) (orD (binD (binD (varD 1) (conD (.int 2)) ixG) (conD .none) (isNG' false)) (binD (binD (varD 0) (conD (.int 2)) ixG) (binD (varD 1) (conD (.int 2)) ixG) (eqQ false)))))
def F_fills : FP := runP 2 g_fills

/-- _law_holed(_law_bag_here, _law_log, _law_most); slots: _law_bag_here _law_log _law_most _law_found _law_at -/
def g__law_holed : SD :=
  (seqS (setS 3 (callD (acons (varD 1) anil) (oneG listG)))
    (seqS (forS (seqI (sliceD (callM 0 1 F__law_mixed (acons (lstR1 (callD (acons (varD 1) anil) (oneG lenG))) anil)) noP (aP (callM 0 1 F__law_take (acons (binD (varD 2) (conD (.int 1)) addG) anil))) cutG)) (nameT 4) (setIx 3 (varD 4) (tupD (acons (binD (binD (varD 1) (varD 4) ixG) (conD (.int 0)) ixG) (acons (binD (binD (varD 1) (varD 4) ixG) (conD (.int 1)) ixG) (acons (conD .none) anil))))))
    (retS (callD (acons (varD 3) anil) (oneG tupleG)))))
def F__law_holed : FM := runM 5 g__law_holed

end LW
end
namespace LW
open PySem L2 DL

structure Bag where
  a : Int
  b : Int
  c : Int
  ns : List Int
  h : ns.length ≤ 63
def Bag.toD (B : Bag) : List PyData := [.int B.a, .int B.b, .int B.c, .list (B.ns.map .int)]

theorem head_int (ns : List Int) (k : Nat) : ∃ z, atI ((ns.map PyData.int).drop k ++ [.int 0]) 0 = some (.int z) := by
  rw [← List.map_drop]
  cases ns.drop k with
  | nil => exact ⟨0, by simp⟩
  | cons a l => exact ⟨a, by simp⟩
theorem take_ok (B : Bag) (m : Int) (hm : 0 < m) (hl : m ≤ 4611686018427387904) : ∃ v B', F__law_take B.toD [.int m] = some (.cl (.int v), Bag.toD B') ∧ 0 ≤ v ∧ v < m := by
  obtain ⟨a, b, c, ns, hns⟩ := B
  unfold F__law_take g__law_take
  rw [e_runM]
  have hmod : ∀ x : Int, 0 ≤ x % m ∧ x % m < m := fun x => ⟨Int.emod_nonneg _ (by omega), Int.emod_lt_of_pos _ hm⟩
  have fin : ∀ (x : Option (Val × List PyData)) (v a' b' c' : Int), x = some (.cl (.int (v % m)), [.int a', .int b', .int c', .list (ns.map .int)]) → ∃ v B', x = some (.cl (.int v), Bag.toD B') ∧ 0 ≤ v ∧ v < m :=
    fun x v a' b' c' h => ⟨v % m, ⟨a', b', c', ns, hns⟩, h, hmod v⟩
  by_cases h1 : a = 0
  · obtain ⟨k, hk⟩ := cutD_from (α := ns.map PyData.int) (o := some c)
    obtain ⟨z, hz⟩ := head_int ns k
    have hlen : (ns.length - k) + 1 ≤ 1000000 := by omega
    subst h1
    by_cases h2 : z ≥ 1000000000000000000
    · have h3 : 0 < z := by omega
      apply fin
      simp [argM, Bag.toD, ixN0, ixN1, ixN2, hk, hz, h2, hlen, h3, hm, hl]
      first | exact ⟨rfl, rfl, rfl, rfl⟩ | rfl
    · apply fin
      simp [argM, Bag.toD, ixN0, ixN1, ixN2, hk, hz, h2, hlen, hm, hl]
      first | exact ⟨rfl, rfl, rfl, rfl⟩ | rfl
  · by_cases h2 : 0 < a
    · apply fin
      simp [argM, Bag.toD, ixN0, ixN1, ixN2, h1, h2, hm, hl]
      first | exact ⟨rfl, rfl, rfl, rfl⟩ | rfl
    · apply fin
      simp [argM, Bag.toD, ixN0, ixN1, ixN2, h1, h2, hm, hl]
      first | exact ⟨rfl, rfl, rfl, rfl⟩ | rfl
end LW
namespace LW
open PySem L2 DL

/-- the greatest so far -/
def up (w : Nat → Int) : Nat → Int
  | 0 => w 0
  | k + 1 => max (w (k + 1)) (up w k)
/-- from the end n: the value j places ahead of it -/
def dn (n : Nat) (w : Nat → Int) : Nat → Int
  | 0 => w n
  | j + 1 => max (w (n - (j + 1))) (dn n w j - 1)
/-- the row, made such that it ends at least at s -/
def fit (n : Nat) (w : Nat → Int) (s : Int) : Nat → Int := fun k => if k = n then max 0 (max (w n) s) else max 0 (w k)
def counts (n : Nat) (w : Nat → Int) (s : Int) : Nat → Int := fun k => dn n (up (fit n w s)) (n - k)
/-- turns: what is behind i, what is not yet -/
def upto (i : Nat) (a b : Nat → Int) : Nat → Int := fun k => if k ≤ i then a k else b k
theorem upto_le {i k : Nat} {a b : Nat → Int} (h : k ≤ i) : upto i a b k = a k := if_pos h
theorem upto_gt {i k : Nat} {a b : Nat → Int} (h : ¬ k ≤ i) : upto i a b k = b k := if_neg h
def from_ (i : Nat) (a b : Nat → Int) : Nat → Int := fun k => if i ≤ k then a k else b k
theorem from_ge {i k : Nat} {a b : Nat → Int} (h : i ≤ k) : from_ i a b k = a k := if_pos h
theorem from_lt {i k : Nat} {a b : Nat → Int} (h : ¬ i ≤ k) : from_ i a b k = b k := if_neg h
theorem put_same {w : Nat → Int} {m : Nat} {x : Int} : put w m x m = x := if_pos rfl
theorem put_ne {w : Nat → Int} {m k : Nat} {x : Int} (h : k ≠ m) : put w m x k = w k := if_neg h

theorem fit_put (n : Nat) (w : Nat → Int) (s : Int) (k : Nat) : put (fun k => max 0 (w k)) n (max 0 (max (w n) s)) k = fit n w s k := rfl
theorem greater_ones_ok (n : Nat) (hn : n ≤ 1000) (a b : Nat → Int) {x y : PyData} (hx : itemsOf x = some (iv n a)) (hy : itemsOf y = some (iv n b)) : F_greater_ones [x, y] = some (.own (iv n fun k => max (a k) (b k))) := by
  unfold F_greater_ones g_greater_ones
  rw [e_runP]
  simp [argE, hx, hy]
  rw [lc_iv2 (fun k => max (a k) (b k)) (by simp) (by omega) (by simp) (by
    intro k hk
    by_cases h : b k < a k
    · simp [h, Int.max_eq_left (Int.le_of_lt h)]
    · simp [h, Int.max_eq_right (Int.not_lt.mp h)])]
  simp
theorem zeros (n : Nat) : List.replicate n (PyData.int 0) = iv n fun _ => 0 := by
  induction n with
  | zero => rfl
  | succ n ih => rw [List.replicate_succ', ih, iv_succ]
theorem along_counts_ok (n : Nat) (hn : n < 1000) (w : Nat → Int) (s : Int) : F_along_counts [.tuple (iv (n + 1) w), .int s] = some (.own (iv (n + 1) (counts n w s))) := by
  unfold F_along_counts g_along_counts
  rw [e_runP]
  simp [argE]
  have h0 : (-1000 : Int) ≤ n + 1 ∧ (n : Int) + 1 ≤ 1000 := by omega
  simp [h0.1, h0.2, zeros]
  rw [greater_ones_ok (n + 1) (by omega) w (fun _ => 0) rfl rfl, show (fun k => max (w k) 0) = fun k => max 0 (w k) from funext fun k => Int.max_comm _ _]
  simp [iv_last, ixN_last, iv_set]
  have h1 : (-1000000 : Int) ≤ n + 1 ∧ (n : Int) + 1 ≤ 1000000 := by omega
  simp [h1.1, h1.2, show ((n : Int) + 1 - 1).toNat = n by omega]
  rw [loop_eq (fun i => [.cl (.tuple (iv (n + 1) w)), .cl (.int s), .op (iv (n + 1) (upto i (up (fit n w s)) (fit n w s))), lv .no 1 1 i])
    (by
      simp
      apply iv_congr
      intro k _
      rw [fit_put]
      by_cases hk : k ≤ 0
      · rw [upto_le hk]
        have : k = 0 := by omega
        subst this
        rfl
      · rw [upto_gt hk])
    (by
      intro i hi
      have e1 := iv_at (n := n + 1) (w := upto i (up (fit n w s)) (fit n w s)) (k := i + 1) (i := 1 + (i : Int)) (by omega) (by omega)
      have e2 := iv_at (n := n + 1) (w := upto i (up (fit n w s)) (fit n w s)) (k := i) (i := 1 + (i : Int) - 1) (by omega) (by omega)
      have e3 : ixN (n + 1) (1 + (i : Int)) = some (i + 1) := ixN_nat (by omega) (by omega)
      rw [upto_gt (by omega)] at e1
      rw [upto_le (by omega)] at e2
      have hu : up (fit n w s) (i + 1) = max (fit n w s (i + 1)) (up (fit n w s) i) := rfl
      have fin : ∀ v : Nat → Int, (∀ k, k ≠ i + 1 → v k = upto i (up (fit n w s)) (fit n w s) k) → v (i + 1) = up (fit n w s) (i + 1) → iv (n + 1) v = iv (n + 1) (upto (i + 1) (up (fit n w s)) (fit n w s)) := fun v q1 q2 => by
        apply iv_congr
        intro k hk
        by_cases h1 : k = i + 1
        · subst h1
          rw [q2, upto_le (by omega)]
        · rw [q1 k h1]
          by_cases h2 : k ≤ i
          · rw [upto_le h2, upto_le (by omega)]
          · rw [upto_gt h2, upto_gt (by omega)]
      by_cases hb : fit n w s (i + 1) < up (fit n w s) i
      · simp [e1, e2, e3, iv_set, hb]
        exact fin _ (fun k hk => put_ne hk) (by rw [put_same, hu, Int.max_eq_right (Int.le_of_lt hb)])
      · simp [e1, e2, e3, iv_set, hb]
        exact fin _ (fun k hk => rfl) (by rw [upto_gt (by omega), hu, Int.max_eq_left (Int.not_lt.mp hb)]))]
  simp
  have h2 : ((-1000000 : Int) ≤ n + 1 - 2 ∧ (n : Int) + 1 - 2 ≤ 1000000) := by omega
  simp [h2.1, h2.2, show ((n : Int) + 1 - 2 + 1).toNat = n by omega]
  rw [loop_eq (fun i => [.cl (.tuple (iv (n + 1) w)), .cl (.int s), .op (iv (n + 1) (from_ (n - i) (counts n w s) (up (fit n w s)))), lv (lv .no 1 1 n) (n + 1 - 2) (-1) i])
    (by
      simp
      apply iv_congr
      intro k hk
      rw [upto_le (by omega)]
      by_cases h : n ≤ k
      · rw [from_ge h]
        have : k = n := by omega
        subst this
        unfold counts
        rw [Nat.sub_self]
        rfl
      · rw [from_lt h])
    (by
      intro i hi
      have e1 := iv_at (n := n + 1) (w := from_ (n - i) (counts n w s) (up (fit n w s))) (k := n - (i + 1)) (i := (n : Int) + 1 - 2 + -(i : Int)) (by omega) (by omega)
      have e2 := iv_at (n := n + 1) (w := from_ (n - i) (counts n w s) (up (fit n w s))) (k := n - i) (i := (n : Int) + 1 - 2 + -(i : Int) + 1) (by omega) (by omega)
      have e3 : ixN (n + 1) ((n : Int) + 1 - 2 + -(i : Int)) = some (n - (i + 1)) := ixN_nat (by omega) (by omega)
      rw [from_lt (by omega)] at e1
      rw [from_ge (by omega)] at e2
      have hu : counts n w s (n - (i + 1)) = max (up (fit n w s) (n - (i + 1))) (counts n w s (n - i) - 1) := by
        unfold counts
        rw [show n - (n - i) = i by omega, show n - (n - (i + 1)) = i + 1 by omega]
        rfl
      have fin : ∀ v : Nat → Int, (∀ k, k ≠ n - (i + 1) → v k = from_ (n - i) (counts n w s) (up (fit n w s)) k) → v (n - (i + 1)) = counts n w s (n - (i + 1)) → iv (n + 1) v = iv (n + 1) (from_ (n - (i + 1)) (counts n w s) (up (fit n w s))) := fun v q1 q2 => by
        apply iv_congr
        intro k hk
        by_cases h1 : k = n - (i + 1)
        · subst h1
          rw [q2, from_ge (by omega)]
        · rw [q1 k h1]
          by_cases h2 : n - i ≤ k
          · rw [from_ge h2, from_ge (by omega)]
          · rw [from_lt h2, from_lt (by omega)]
      by_cases hb : up (fit n w s) (n - (i + 1)) < counts n w s (n - i) - 1
      · simp [e1, e2, e3, iv_set, hb]
        exact fin _ (fun k hk => put_ne hk) (by rw [put_same, hu, Int.max_eq_right (Int.le_of_lt hb)])
      · simp [e1, e2, e3, iv_set, hb]
        exact fin _ (fun k hk => rfl) (by rw [from_lt (by omega), hu, Int.max_eq_left (Int.not_lt.mp hb)]))]
  simp
  apply iv_congr
  intro k hk
  rw [from_ge (by omega)]
end LW
namespace LW
open PySem L2 DL

/-- floors from the first one on -/
def upF (W : Nat → Nat → Int) : Nat → Nat → Int := fun f k => up (fun g => W g k) f
/-- floors from the last one, F - 1, down: j floors ahead of it -/
def dnF (F : Nat) (W : Nat → Nat → Int) (S : Nat → Int) : Nat → Nat → Int
  | 0, k => W (F - 1) k
  | j + 1, k => max (W (F - 1 - (j + 1)) k) (dnF F W S j k - (S (F - 1 - j) - S (F - 1 - (j + 1))))
def floors (F : Nat) (W : Nat → Nat → Int) (S : Nat → Int) : Nat → Nat → Int := fun f k => dnF F (upF W) S (F - 1 - f) k
def rowsL (F n : Nat) (W : Nat → Nat → Int) : List PyData := gl F fun f => .list (iv n (W f))
def rowsT (F n : Nat) (W : Nat → Nat → Int) : List PyData := gl F fun f => .tuple (iv n (W f))
def uptoF (i : Nat) (a b : Nat → Nat → Int) : Nat → Nat → Int := fun f k => if f ≤ i then a f k else b f k
theorem uptoF_le {i f : Nat} {a b : Nat → Nat → Int} (h : f ≤ i) : uptoF i a b f = a f := by
  funext k; exact if_pos h
theorem uptoF_gt {i f : Nat} {a b : Nat → Nat → Int} (h : ¬ f ≤ i) : uptoF i a b f = b f := by
  funext k; exact if_neg h
def fromF (i : Nat) (a b : Nat → Nat → Int) : Nat → Nat → Int := fun f k => if i ≤ f then a f k else b f k
theorem fromF_ge {i f : Nat} {a b : Nat → Nat → Int} (h : i ≤ f) : fromF i a b f = a f := by
  funext k; exact if_pos h
theorem fromF_lt {i f : Nat} {a b : Nat → Nat → Int} (h : ¬ i ≤ f) : fromF i a b f = b f := by
  funext k; exact if_neg h
theorem rowsL_at {F n : Nat} {W : Nat → Nat → Int} {k : Nat} {i : Int} (e : i = k) (h : k < F) : atI (rowsL F n W) i = some (.list (iv n (W k))) := gl_at e h
theorem rowsL_len {F n : Nat} {W : Nat → Nat → Int} : (rowsL F n W).length = F := gl_len
theorem rowsL_congr {F n : Nat} {W V : Nat → Nat → Int} (h : ∀ f, f < F → ∀ k, k < n → W f k = V f k) : rowsL F n W = rowsL F n V := by
  unfold rowsL
  apply gl_congr
  intro f hf
  rw [iv_congr (h f hf)]
theorem rowsL_set {F n : Nat} {W : Nat → Nat → Int} {m : Nat} {v : Nat → Int} : (rowsL F n W).set m (.list (iv n v)) = rowsL F n fun f => if f = m then v else W f := by
  unfold rowsL
  rw [gl_set]
  apply gl_congr
  intro f _
  by_cases h : f = m
  · simp [putD, h]
  · simp [putD, h]

theorem along_floors_ok (F n : Nat) (hF : 0 < F) (hF2 : F < 1000) (hn : n < 1000) (W : Nat → Nat → Int) (S : Nat → Int) :
    F_along_floors [.list (rowsL F n W), .tuple (iv F S)] = some (.own (rowsL F n (floors F W S))) := by
  unfold F_along_floors g_along_floors
  rw [e_runP]
  have h1 : (-1000000 : Int) ≤ F ∧ (F : Int) ≤ 1000000 := by omega
  simp [argE, rowsL_len, h1.1, h1.2, show ((F : Int) - 1).toNat = F - 1 by omega]
  rw [loop_eq (fun i => [.cl (.list (rowsL F n W)), .cl (.tuple (iv F S)), .op (rowsL F n (uptoF i (upF W) W)), lv .no 1 1 i, .no, .no])
    (by
      simp
      apply rowsL_congr
      intro f hf k _
      by_cases h : f ≤ 0
      · rw [uptoF_le h]
        have : f = 0 := by omega
        subst this
        rfl
      · rw [uptoF_gt h])
    (by
      intro i hi
      have e1 := rowsL_at (F := F) (n := n) (W := uptoF i (upF W) W) (k := i + 1) (i := 1 + (i : Int)) (by omega) (by omega)
      have e2 := rowsL_at (F := F) (n := n) (W := uptoF i (upF W) W) (k := i) (i := 1 + (i : Int) - 1) (by omega) (by omega)
      have e3 : ixN F (1 + (i : Int)) = some (i + 1) := ixN_nat (by omega) (by omega)
      rw [uptoF_gt (by omega)] at e1
      rw [uptoF_le (by omega)] at e2
      simp [e1, e2]
      rw [greater_ones_ok n (by omega) (W (i + 1)) (upF W i) rfl rfl]
      simp [rowsL_len, e3, rowsL_set]
      apply rowsL_congr
      intro f hf k hk
      by_cases h1 : f = i + 1
      · subst h1
        rw [if_pos rfl, uptoF_le (by omega)]
        rfl
      · rw [if_neg h1]
        by_cases h2 : f ≤ i
        · rw [uptoF_le h2, uptoF_le (by omega)]
        · rw [uptoF_gt h2, uptoF_gt (by omega)])]
  have h2 : (-1000000 : Int) ≤ F - 2 ∧ (F : Int) - 2 ≤ 1000000 := by omega
  simp [rowsL_len, h2.1, h2.2, show ((F : Int) - 2 + 1).toNat = F - 1 by omega]
  rw [loop_eq (fun i => [.cl (.list (rowsL F n W)), .cl (.tuple (iv F S)), .op (rowsL F n (fromF (F - 1 - i) (floors F W S) (upF W))), lv (lv .no 1 1 (F - 1)) (F - 2) (-1) i,
      match i with | 0 => .no | j + 1 => .cl (.int (S (F - 1 - j) - S (F - 1 - (j + 1)))), .no])
    (by
      simp
      apply rowsL_congr
      intro f hf k _
      rw [uptoF_le (by omega)]
      by_cases h : F - 1 ≤ f
      · rw [fromF_ge h]
        have : f = F - 1 := by omega
        subst this
        unfold floors
        rw [Nat.sub_self]
        rfl
      · rw [fromF_lt h])
    (by
      intro i hi
      have e1 := rowsL_at (F := F) (n := n) (W := fromF (F - 1 - i) (floors F W S) (upF W)) (k := F - 1 - (i + 1)) (i := (F : Int) - 2 + -(i : Int)) (by omega) (by omega)
      have e2 := rowsL_at (F := F) (n := n) (W := fromF (F - 1 - i) (floors F W S) (upF W)) (k := F - 1 - i) (i := (F : Int) - 2 + -(i : Int) + 1) (by omega) (by omega)
      have e3 : ixN F ((F : Int) - 2 + -(i : Int)) = some (F - 1 - (i + 1)) := ixN_nat (by omega) (by omega)
      have s1 := iv_at (n := F) (w := S) (k := F - 1 - (i + 1)) (i := (F : Int) - 2 + -(i : Int)) (by omega) (by omega)
      have s2 := iv_at (n := F) (w := S) (k := F - 1 - i) (i := (F : Int) - 2 + -(i : Int) + 1) (by omega) (by omega)
      rw [fromF_lt (by omega)] at e1
      rw [fromF_ge (by omega)] at e2
      simp [e1, e2, s1, s2]
      rw [lc_iv (fun k => floors F W S (F - 1 - i) k - (S (F - 1 - i) - S (F - 1 - (i + 1)))) (by simp) (by omega) (by simp) (by intro k hk; simp)]
      simp
      rw [greater_ones_ok n (by omega) (upF W (F - 1 - (i + 1))) (fun k => floors F W S (F - 1 - i) k - (S (F - 1 - i) - S (F - 1 - (i + 1)))) rfl rfl]
      simp [rowsL_len, e3, rowsL_set]
      apply rowsL_congr
      intro f hf k hk
      by_cases h1 : f = F - 1 - (i + 1)
      · subst h1
        rw [if_pos rfl, fromF_ge (by omega)]
        unfold floors
        rw [show F - 1 - (F - 1 - i) = i by omega, show F - 1 - (F - 1 - (i + 1)) = i + 1 by omega]
        rfl
      · rw [if_neg h1]
        by_cases h2 : F - 1 - i ≤ f
        · rw [fromF_ge h2, fromF_ge (by omega)]
        · rw [fromF_lt h2, fromF_lt (by omega)])]
  simp
  apply rowsL_congr
  intro f hf k hk
  rw [fromF_ge (by omega)]

/-- of no floor's word the ends are too great -/
def good (F n : Nat) (T : Nat → Nat → Int) (S : Nat → Int) : Bool := (List.range F).all fun f => !(decide (0 < T f 0) || decide (S f < T f n))
def told (F n : Nat) (T : Nat → Nat → Int) (S : Nat → Int) : PyData := if good F n T S = true then .tuple (rowsT F (n + 1) T) else .none
def tight (F n : Nat) (R : Nat → Nat → Int) (S : Nat → Int) : Nat → Nat → Int := floors F (fun f => counts n (R f) (S f)) S
theorem tightened_ok (F n : Nat) (hF : 0 < F) (hF2 : F < 1000) (hn : n < 999) (R : Nat → Nat → Int) (S : Nat → Int) :
    F_tightened [.tuple (rowsT F (n + 1) R), .tuple (iv F S)] = some (.cl (told F n (tight F n R S) S)) := by
  unfold F_tightened g_tightened
  rw [e_runP]
  simp [argE, rowsT]
  rw [gl_zip_iv, lc_gl (fun f => .list (iv (n + 1) (counts n (R f) (S f)))) (by simp) (by omega) (by simp) (by
    intro f hf
    simp [along_counts_ok n (by omega)])]
  simp
  have e := along_floors_ok F (n + 1) hF hF2 (by omega) (fun f => counts n (R f) (S f)) S
  unfold rowsL at e
  rw [e]
  simp
  rw [gl_zip_iv, lc_gl (fun f => .bool (decide (0 < tight F n R S f 0) || decide (S f < tight F n R S f n))) (by simp) (by omega) (by simp) (by
    intro f hf
    simp [iv_at (n := n + 1) (k := 0) (i := 0) rfl (by omega), iv_last]
    by_cases h : 0 < floors F (fun f => counts n (R f) (S f)) S f 0
    · simp [h, tight]
    · simp [h, tight]; rfl)]
  simp [bls_gl]
  have eg : (∃ x, x < F ∧ (0 < tight F n R S x 0 ∨ S x < tight F n R S x n)) ↔ good F n (tight F n R S) S = false := by
    unfold good
    rw [← Bool.not_eq_true, List.all_eq_true]
    constructor
    · rintro ⟨x, hx, h⟩ z
      have := z x (List.mem_range.mpr hx)
      simp at this
      omega
    · intro h
      apply Classical.byContradiction
      intro hn
      apply h
      intro x hx
      have h2 : ¬ (0 < tight F n R S x 0 ∨ S x < tight F n R S x n) := fun q => hn ⟨x, List.mem_range.mp hx, q⟩
      simp
      omega
  by_cases h : ∃ x, x < F ∧ (0 < tight F n R S x 0 ∨ S x < tight F n R S x n)
  · have h' := eg.mp h
    simp [h, told, h']
  · have h' : good F n (tight F n R S) S = true := by
      cases q : good F n (tight F n R S) S with
      | true => rfl
      | false => exact absurd (eg.mpr q) h
    simp [h, told, h']
    rw [lc_gl (fun f => .tuple (iv (n + 1) (tight F n R S f))) (by simp) (by omega) (by simp) (by
      intro f hf
      simp [tight])]
    simp [rowsT]
end LW
namespace LW
open PySem L2 DL

/-! ### tests by a list of ones -/
theorem shaped_ones (l : List Nat) : SeqAt.shaped (.list (l.map fun _ => .int 1)) = true := by
  have h1 : PyData.canLayAll0 (l.map fun _ => PyData.int 1) = true := by
    induction l with
    | nil => rfl
    | cons _ l ih => simp [PyData.canLayAll0, PyData.canLay0, ih]
  have h2 : PyData.depthAll (l.map fun _ => PyData.int 1) = 0 := by
    clear h1
    induction l with
    | nil => rfl
    | cons _ l ih => simp [PyData.depthAll, PyData.depth, ih]
  unfold SeqAt.shaped
  simp [PyData.canLay0, PyData.depth, h1, h2]
theorem eq_ones (l : List Nat) {ρ : DL.Env} : eqQ true ρ (.own (l.map fun _ => .int 1)) (.own []) = some (.cl (.bool (!l.isEmpty)), ρ) := by
  show (if SeqAt.shaped (.list (l.map fun _ => .int 1)) = true ∧ SeqAt.shaped (.list []) = true then some (Val.cl (.bool (true ^^ PyData.eqv (.list (l.map fun _ => .int 1)) (.list []))), ρ) else none) = _
  rw [if_pos ⟨shaped_ones l, rfl⟩]
  cases l with
  | nil => rfl
  | cons _ l => rfl
/-- [1 for .. if p] != [] over a list of places -/
theorem fm_ones (n : Nat) (p : Nat → Bool) : (List.range n).filterMap (fun k => if p k = true then some (PyData.int 1) else none) = ((List.range n).filter p).map fun _ => .int 1 := by
  induction (List.range n) with
  | nil => rfl
  | cons k l ih =>
    rw [List.filterMap_cons, List.filter_cons]
    by_cases h : p k = true
    · simp [h, ih]
    · simp [h, ih]
theorem none_left {n : Nat} {p : Nat → Bool} : (!((List.range n).filter p).isEmpty) = (List.range n).any p := by
  induction (List.range n) with
  | nil => rfl
  | cons k l ih =>
    rw [List.filter_cons, List.any_cons, ← ih]
    by_cases h : p k = true
    · simp [h]
    · simp [h]
/-! ### the law's own words -/
def prev (S : Nat → Int) : Nat → Int
  | 0 => 0
  | f + 1 => S f
theorem zip_prev {F : Nat} {S : Nat → Int} : zipD (.int 0 :: iv F S) (iv F S) = gl F fun f => .tuple [.int (prev S f), .int (S f)] := by
  unfold zipD
  apply List.ext_getElem?
  intro k
  rw [List.getElem?_zipWith]
  by_cases hk : k < F
  · rw [iv_get hk, gl_get hk]
    cases k with
    | zero => rfl
    | succ k =>
      rw [List.getElem?_cons_succ, iv_get (by omega)]
      rfl
  · rw [List.getElem?_eq_none (by simp; omega : (iv F S).length ≤ k), List.getElem?_eq_none (by simp; omega : (gl F _).length ≤ k)]
    split <;> simp_all
def asc (F : Nat) (S : Nat → Int) : Bool := (List.range F).all fun f => decide (prev S f ≤ S f)
def lf (n : Nat) (w : Nat → Int) (s : Int) : Nat → Int
  | 0 => max (max 0 (w 0)) (s - n + (0 : Nat))
  | k + 1 => max (max (lf n w s k) (w (k + 1))) (s - n + (k + 1 : Nat))
def lcounts (n : Nat) (w : Nat → Int) (s : Int) : Nat → Int := fun k => dn n (lf n w s) (n - k)
def ltight (F n : Nat) (R : Nat → Nat → Int) (S : Nat → Int) : Nat → Nat → Int := floors F (fun f => lcounts n (R f) (S f)) S
def lok (n : Nat) (T : Nat → Int) (s : Int) : Bool := (List.range (n + 1)).all fun k => !decide (min (k : Int) s < T k)
def lgood (F n : Nat) (T : Nat → Nat → Int) (S : Nat → Int) : Bool := (List.range F).all fun f => lok n (T f) (S f)
def ltold (F n : Nat) (R : Nat → Nat → Int) (S : Nat → Int) : PyData := if asc F S = true ∧ lgood F n (ltight F n R S) S = true then .tuple (rowsT F (n + 1) (ltight F n R S)) else .none
theorem asc_any {F : Nat} {S : Nat → Int} : (List.range F).any (fun f => decide (S f < prev S f)) = !asc F S := by
  unfold asc
  induction (List.range F) with
  | nil => rfl
  | cons k l ih =>
    rw [List.any_cons, List.all_cons, ih]
    by_cases h : prev S k ≤ S k
    · simp [h, show ¬ S k < prev S k by omega]
    · simp [h, show S k < prev S k by omega]
theorem ltightened_ok (F n : Nat) (hF : 0 < F) (hF2 : F < 1000) (hn : n < 999) (R : Nat → Nat → Int) (S : Nat → Int) :
    F__law_tightened [.tuple (rowsT F (n + 1) R), .tuple (iv F S)] = some (.cl (ltold F n R S)) := by
  unfold F__law_tightened g__law_tightened
  rw [e_runP]
  have e0 : atI (rowsT F (n + 1) R) 0 = some (.tuple (iv (n + 1) (R 0))) := gl_at (k := 0) rfl hF
  have el : (rowsT F (n + 1) R).length = F := gl_len
  have h1 : 1 + F ≤ 1000000 := by omega
  simp [argE, e0, el, h1]
  rw [zip_prev, lc_glf (fun f => if decide (S f < prev S f) = true then some (.int 1) else none) (by simp) (by omega) (by simp) (by
    intro f hf
    by_cases h : S f < prev S f
    · simp [h]
    · simp [h]), fm_ones]
  simp only [s_B1, e_lst, e_nil, s_Ps, e_ps0, s_Lst, List.length_nil, Nat.zero_le, s_B2, eq_ones, none_left, asc_any, s_T, s_IS]
  unfold ltold
  cases hasc : asc F S with
  | false => simp
  | true =>
    simp [rowsT, gl_zip_iv]
    -- each floor's own word
    rw [loop_eqL (fun i => [.cl (.tuple (rowsT F (n + 1) R)), .cl (.tuple (iv F S)), .cl (.int F), .cl (.int n), .op (rowsL i (n + 1) fun f => lcounts n (R f) (S f)),
        (match i with | 0 => .no | j + 1 => .cl (.tuple (iv (n + 1) (R j)))), (match i with | 0 => .no | j + 1 => .cl (.int (S j))), (match i with | 0 => .no | j + 1 => .cl (.list (iv (n + 1) (lcounts n (R j) (S j))))),
        (match i with | 0 => .no | j + 1 => .cl (.int (lf n (R j) (S j) n))), (match i with | 0 => .no | j + 1 => lv (.cl (.int n)) (n - 1) (-1) n), (match i with | 0 => .no | j + 1 => .cl (.int (R j n))), .no, .no, .no])
      (by simp [rowsL, gl, rowsT])
      (by
        intro i d hd
        obtain ⟨hi, rfl⟩ := gl_get' hd
        simp
        generalize (match i with | 0 => Cell.no | j + 1 => lv (.cl (.int n)) (n - 1) (-1) n) = c9
        generalize (match i with | 0 => Cell.no | j + 1 => .cl (.int (R j n))) = c10
        rw [enum_iv, loop_eqL (fun j => [.cl (.tuple (rowsT F (n + 1) R)), .cl (.tuple (iv F S)), .cl (.int F), .cl (.int n), .op (rowsL i (n + 1) fun f => lcounts n (R f) (S f)),
            .cl (.tuple (iv (n + 1) (R i))), .cl (.int (S i)), .op (iv j (lf n (R i) (S i))), .cl (.int (match j with | 0 => 0 | k + 1 => lf n (R i) (S i) k)),
            (match j with | 0 => c9 | k + 1 => .cl (.int (k : Nat))), (match j with | 0 => c10 | k + 1 => .cl (.int (R i k))), .no, .no, .no])
          (by simp [iv])
          (by
            intro j d hd
            obtain ⟨hj, rfl⟩ := gl_get' hd
            have hj2 : j < 1000000 := by omega
            cases j with
            | zero => simp [iv_succ, lf, iv]
            | succ j => simp [iv_succ, lf, hj2])]
        have h2 : (-1000000 : Int) ≤ n - 1 ∧ (n : Int) - 1 ≤ 1000000 := by omega
        simp [h2.1, h2.2]
        rw [loop_eq (fun j => [.cl (.tuple (rowsT F (n + 1) R)), .cl (.tuple (iv F S)), .cl (.int F), .cl (.int n), .op (rowsL i (n + 1) fun f => lcounts n (R f) (S f)),
            .cl (.tuple (iv (n + 1) (R i))), .cl (.int (S i)), .op (iv (n + 1) (from_ (n - j) (lcounts n (R i) (S i)) (lf n (R i) (S i)))), .cl (.int (lf n (R i) (S i) n)),
            lv (.cl (.int n)) (n - 1) (-1) j, .cl (.int (R i n)), .no, .no, .no])
          (by
            simp
            apply iv_congr
            intro k hk
            by_cases h : n ≤ k
            · rw [from_ge h]
              have : k = n := by omega
              subst this
              unfold lcounts
              rw [Nat.sub_self]
              rfl
            · rw [from_lt h])
          (by
            intro j hj
            have e1 := iv_at (n := n + 1) (w := from_ (n - j) (lcounts n (R i) (S i)) (lf n (R i) (S i))) (k := n - (j + 1)) (i := (n : Int) - 1 + -(j : Int)) (by omega) (by omega)
            have e2 := iv_at (n := n + 1) (w := from_ (n - j) (lcounts n (R i) (S i)) (lf n (R i) (S i))) (k := n - j) (i := (n : Int) - 1 + -(j : Int) + 1) (by omega) (by omega)
            have e3 : ixN (n + 1) ((n : Int) - 1 + -(j : Int)) = some (n - (j + 1)) := ixN_nat (by omega) (by omega)
            rw [from_lt (by omega)] at e1
            rw [from_ge (by omega)] at e2
            simp [e1, e2, e3, iv_set]
            apply iv_congr
            intro k hk
            by_cases h1 : k = n - (j + 1)
            · subst h1
              rw [put_same, from_ge (by omega)]
              unfold lcounts
              rw [show n - (n - j) = j by omega, show n - (n - (j + 1)) = j + 1 by omega]
              rfl
            · rw [put_ne h1]
              by_cases h2 : n - j ≤ k
              · rw [from_ge h2, from_ge (by omega)]
              · rw [from_lt h2, from_lt (by omega)])]
        have e4 : iv (n + 1) (from_ 0 (lcounts n (R i) (S i)) (lf n (R i) (S i))) = iv (n + 1) (lcounts n (R i) (S i)) := by
          apply iv_congr
          intro k hk
          rw [from_ge (by omega)]
        have hi2 : i < 1000000 := by omega
        simp [e4, rowsL_len, hi2]
        simp [rowsL, gl_succ])]
    simp only [gl_len]
    generalize (match F with | 0 => Cell.no | j + 1 => .cl (.tuple (iv (n + 1) (R j)))) = a5
    generalize (match F with | 0 => Cell.no | j + 1 => .cl (.int (S j))) = a6
    generalize h7 : (match F with | 0 => Cell.no | j + 1 => .cl (.list (iv (n + 1) (lcounts n (R j) (S j))))) = a7
    generalize (match F with | 0 => Cell.no | j + 1 => .cl (.int (lf n (R j) (S j) n))) = a8
    generalize h9 : (match F with | 0 => Cell.no | j + 1 => lv (.cl (.int n)) (n - 1) (-1) n) = a9
    generalize h10 : (match F with | 0 => Cell.no | j + 1 => .cl (.int (R j n))) = a10
    have o7 : a7.isOpen = false := by subst h7; cases F <;> rfl
    have o9 : a9.isOpen = false := by subst h9; cases F <;> first | rfl | (cases n <;> rfl)
    have o10 : a10.isOpen = false := by subst h10; cases F <;> rfl
    generalize hW : (fun f => lcounts n (R f) (S f)) = W
    have h3 : (-1000000 : Int) ≤ F ∧ (F : Int) ≤ 1000000 := by omega
    simp [h3.1, h3.2, show ((F : Int) - 1).toNat = F - 1 by omega]
    rw [loop_eq (fun i => [.cl (.tuple (rowsT F (n + 1) R)), .cl (.tuple (iv F S)), .cl (.int F), .cl (.int n), .op (rowsL F (n + 1) (uptoF i (upF W) W)), a5, a6, a7, a8, a9, a10, lv .no 1 1 i, .no, .no])
      (by
        simp [rowsT]
        apply rowsL_congr
        intro f hf k _
        by_cases h : f ≤ 0
        · rw [uptoF_le h]
          have : f = 0 := by omega
          subst this
          rfl
        · rw [uptoF_gt h])
      (by
        intro i hi
        have e1 := rowsL_at (F := F) (n := n + 1) (W := uptoF i (upF W) W) (k := i + 1) (i := 1 + (i : Int)) (by omega) (by omega)
        have e2 := rowsL_at (F := F) (n := n + 1) (W := uptoF i (upF W) W) (k := i) (i := 1 + (i : Int) - 1) (by omega) (by omega)
        have e3 : ixN F (1 + (i : Int)) = some (i + 1) := ixN_nat (by omega) (by omega)
        rw [uptoF_gt (by omega)] at e1
        rw [uptoF_le (by omega)] at e2
        simp [e1, e2]
        rw [lc_iv2 (fun k => max (W (i + 1) k) (upF W i k)) (by simp [o10]) (by omega) (by simp) (by intro k hk; simp)]
        simp [rowsL_len, e3, rowsL_set]
        apply rowsL_congr
        intro f hf k hk
        by_cases h1 : f = i + 1
        · subst h1
          rw [if_pos rfl, uptoF_le (by omega)]
          rfl
        · rw [if_neg h1]
          by_cases h2 : f ≤ i
          · rw [uptoF_le h2, uptoF_le (by omega)]
          · rw [uptoF_gt h2, uptoF_gt (by omega)])]
    have h4 : (-1000000 : Int) ≤ F - 2 ∧ (F : Int) - 2 ≤ 1000000 := by omega
    simp [h4.1, h4.2, show ((F : Int) - 2 + 1).toNat = F - 1 by omega]
    rw [loop_eq (fun i => [.cl (.tuple (rowsT F (n + 1) R)), .cl (.tuple (iv F S)), .cl (.int F), .cl (.int n), .op (rowsL F (n + 1) (fromF (F - 1 - i) (floors F W S) (upF W))), a5, a6, a7, a8, a9, a10, lv (lv .no 1 1 (F - 1)) (F - 2) (-1) i,
        (match i with | 0 => .no | j + 1 => .cl (.int (S (F - 1 - j) - S (F - 1 - (j + 1))))), .no])
      (by
        simp
        apply rowsL_congr
        intro f hf k _
        rw [uptoF_le (by omega)]
        by_cases h : F - 1 ≤ f
        · rw [fromF_ge h]
          have : f = F - 1 := by omega
          subst this
          unfold floors
          rw [Nat.sub_self]
          rfl
        · rw [fromF_lt h])
      (by
        intro i hi
        have e1 := rowsL_at (F := F) (n := n + 1) (W := fromF (F - 1 - i) (floors F W S) (upF W)) (k := F - 1 - (i + 1)) (i := (F : Int) - 2 + -(i : Int)) (by omega) (by omega)
        have e2 := rowsL_at (F := F) (n := n + 1) (W := fromF (F - 1 - i) (floors F W S) (upF W)) (k := F - 1 - i) (i := (F : Int) - 2 + -(i : Int) + 1) (by omega) (by omega)
        have e3 : ixN F ((F : Int) - 2 + -(i : Int)) = some (F - 1 - (i + 1)) := ixN_nat (by omega) (by omega)
        have s1 := iv_at (n := F) (w := S) (k := F - 1 - (i + 1)) (i := (F : Int) - 2 + -(i : Int)) (by omega) (by omega)
        have s2 := iv_at (n := F) (w := S) (k := F - 1 - i) (i := (F : Int) - 2 + -(i : Int) + 1) (by omega) (by omega)
        rw [fromF_lt (by omega)] at e1
        rw [fromF_ge (by omega)] at e2
        simp [e1, e2, s1, s2]
        rw [lc_iv2 (fun k => max (upF W (F - 1 - (i + 1)) k) (floors F W S (F - 1 - i) k - (S (F - 1 - i) - S (F - 1 - (i + 1))))) (by simp [o10]) (by omega) (by simp) (by intro k hk; simp)]
        simp [rowsL_len, e3, rowsL_set]
        apply rowsL_congr
        intro f hf k hk
        by_cases h1 : f = F - 1 - (i + 1)
        · subst h1
          rw [if_pos rfl, fromF_ge (by omega)]
          unfold floors
          rw [show F - 1 - (F - 1 - i) = i by omega, show F - 1 - (F - 1 - (i + 1)) = i + 1 by omega]
          rfl
        · rw [if_neg h1]
          by_cases h2 : F - 1 - i ≤ f
          · rw [fromF_ge h2, fromF_ge (by omega)]
          · rw [fromF_lt h2, fromF_lt (by omega)])]
    have eW : rowsL F (n + 1) (fromF 0 (floors F W S) (upF W)) = rowsL F (n + 1) (ltight F n R S) := by
      apply rowsL_congr
      intro f hf k hk
      rw [fromF_ge (by omega)]
      unfold ltight
      rw [hW]
    simp [eW]
    unfold rowsL
    rw [gl_zip_iv]
    generalize hT : ltight F n R S = T
    have hone : ∀ f, f < F → ((List.range (n + 1)).any fun k => decide (min (k : Int) (S f) < T f k)) = !lok n (T f) (S f) := by
      intro f _
      unfold lok
      induction (List.range (n + 1)) with
      | nil => rfl
      | cons k l ih => rw [List.any_cons, List.all_cons, ih]; simp
    generalize lv (lv .no 1 1 (F - 1)) (F - 2) (-1) (F - 1) = x11
    generalize (match F - 1 with | 0 => Cell.no | j + 1 => .cl (.int (S (F - 1 - j) - S (F - 1 - (j + 1))))) = x12
    refine use_loopR (P := fun x => kPu (kSq x _) = _) (fun i ρ => (∀ f, f < i → lok n (T f) (S f) = true) ∧ ∃ b6 b7, b7.isOpen = false ∧ ρ = [.cl (.tuple (rowsT F (n + 1) R)), .cl (.tuple (iv F S)), .cl (.int F), .cl (.int n), .cl (.list (gl F fun f => .list (iv (n + 1) (T f)))), a5, b6, b7, a8, a9, a10, x11, x12, .no])
      (fun r ρ => r = .cl .none ∧ ∃ f, f < F ∧ lok n (T f) (S f) = false) ⟨fun f hf => absurd hf (by omega), a6, a7, o7, rfl⟩ ?_ ?_ ?_
    · rintro i d ρ hd ⟨hb, b6, b7, o, rfl⟩
      obtain ⟨hi, rfl⟩ := gl_get' hd
      simp [enum_iv]
      rw [lc_glf (fun k => if decide (min (k : Int) (S i) < T i k) = true then some (.int 1) else none) (by simp [o9, o10]) (by omega) (by simp) (by
        intro k hk
        by_cases h : min (k : Int) (S i) < T i k
        · simp [h]
        · simp [h]), fm_ones]
      simp only [s_B1, e_lst, e_nil, s_Ps, e_ps0, s_Lst, List.length_nil, Nat.zero_le, s_B2, eq_ones, none_left, hone i hi, s_T, s_IS]
      cases h : lok n (T i) (S i) with
      | true =>
        refine ⟨_, rfl, .nx ⟨fun f hf => ?_, _, _, ?_, rfl⟩⟩
        · by_cases z : f = i
          · rw [z]; exact h
          · exact hb f (by omega)
        · rfl
      | false =>
        refine ⟨_, rfl, .rt ⟨rfl, i, hi, h⟩⟩
    · rintro ρ' ⟨hb, b6, b7, o, rfl⟩
      rw [gl_len] at hb
      have hg : lgood F n T S = true := by
        unfold lgood
        rw [List.all_eq_true]
        intro f hf
        exact hb f (List.mem_range.mp hf)
      simp [hg]
      rw [lc_gl (fun f => .tuple (iv (n + 1) (T f))) (by simp [o]) (by omega) (by simp) (by
        intro f hf
        simp)]
      simp [rowsT]
    · rintro r ρ' ⟨rfl, f, hf, h⟩
      have hg : lgood F n T S = false := by
        unfold lgood
        rw [← Bool.not_eq_true, List.all_eq_true]
        intro z
        rw [z f (List.mem_range.mpr hf)] at h
        cases h
      simp [hg]
end LW
namespace LW
open PySem L2 DL

/-! ### along the counts -/
/-- the greatest so far, and 0 -/
def run (w : Nat → Int) : Nat → Int
  | 0 => max 0 (w 0)
  | k + 1 => max (w (k + 1)) (run w k)
theorem run_nonneg (w : Nat → Int) : ∀ k, 0 ≤ run w k
  | 0 => by unfold run; omega
  | k + 1 => by have := run_nonneg w k; unfold run; omega
theorem up_fit (n : Nat) (w : Nat → Int) (s : Int) : ∀ k, k ≤ n → up (fit n w s) k = if k = n then max (run w n) s else run w k
  | 0, h => by
    unfold up fit
    by_cases hn : 0 = n
    · subst hn
      rw [if_pos rfl, if_pos rfl]
      unfold run
      omega
    · rw [if_neg hn, if_neg hn]; rfl
  | k + 1, h => by
    have ih := up_fit n w s k (by omega)
    rw [if_neg (by omega)] at ih
    show max (fit n w s (k + 1)) (up (fit n w s) k) = _
    rw [ih]
    have hk := run_nonneg w k
    unfold fit
    by_cases hn : k + 1 = n
    · rw [if_pos hn, if_pos hn, ← hn]
      show _ = max (max (w (k + 1)) (run w k)) s
      omega
    · rw [if_neg hn, if_neg hn]
      show _ = max (w (k + 1)) (run w k)
      omega
theorem lf_run (n : Nat) (w : Nat → Int) (s : Int) : ∀ k, lf n w s k = max (run w k) (s - n + (k : Nat))
  | 0 => rfl
  | k + 1 => by
    have ih := lf_run n w s k
    show max (max (lf n w s k) (w (k + 1))) (s - n + (k + 1 : Nat)) = max (max (w (k + 1)) (run w k)) (s - n + (k + 1 : Nat))
    rw [ih]
    omega
/-- one place down -/
theorem dn_at {n k : Nat} (U : Nat → Int) (h : k < n) : dn n U (n - k) = max (U k) (dn n U (n - (k + 1)) - 1) := by
  obtain ⟨j, e⟩ : ∃ j, n - k = j + 1 := ⟨n - k - 1, by omega⟩
  rw [e, show n - (k + 1) = j by omega]
  show max (U (n - (j + 1))) _ = _
  rw [show n - (j + 1) = k by omega]
theorem dn_end {n : Nat} (U : Nat → Int) : dn n U (n - n) = U n := by rw [Nat.sub_self]; rfl
theorem counts_eq (n : Nat) (w : Nat → Int) (s : Int) : ∀ j, j ≤ n → dn n (up (fit n w s)) j = dn n (lf n w s) j ∧ s - j ≤ dn n (lf n w s) j
  | 0, _ => by
    show up (fit n w s) n = lf n w s n ∧ _ ≤ lf n w s n
    rw [up_fit n w s n (Nat.le_refl _), if_pos rfl, lf_run]
    constructor <;> omega
  | j + 1, h => by
    obtain ⟨e, l⟩ := counts_eq n w s j (by omega)
    show max (up (fit n w s) (n - (j + 1))) (dn n (up (fit n w s)) j - 1) = max (lf n w s (n - (j + 1))) (dn n (lf n w s) j - 1) ∧ _ ≤ max (lf n w s (n - (j + 1))) (dn n (lf n w s) j - 1)
    rw [up_fit n w s _ (by omega), if_neg (by omega), lf_run, e]
    constructor <;> omega
theorem counts_lcounts (n : Nat) (w : Nat → Int) (s : Int) (k : Nat) : counts n w s k = lcounts n w s k := (counts_eq n w s (n - k) (by omega)).1
/-- no step down, no step of two -/
structure Word (n : Nat) (w : Nat → Int) : Prop where
  mono : ∀ k, k < n → w k ≤ w (k + 1)
  step : ∀ k, k < n → w (k + 1) ≤ w k + 1
theorem Word.le {n : Nat} {w : Nat → Int} (W : Word n w) : ∀ {k}, k ≤ n → w 0 ≤ w k ∧ w k ≤ w 0 + k
  | 0, _ => by constructor <;> omega
  | k + 1, h => by
    have ih := W.le (k := k) (by omega)
    have h1 := W.mono k (by omega)
    have h2 := W.step k (by omega)
    constructor <;> omega
theorem Word.le_end {n : Nat} {w : Nat → Int} (W : Word n w) : ∀ {j}, j ≤ n → w (n - j) ≤ w n
  | 0, _ => by rw [Nat.sub_zero]; exact Int.le_refl _
  | j + 1, h => by
    have ih := W.le_end (j := j) (by omega)
    have h1 := W.mono (n - (j + 1)) (by omega)
    rw [show n - (j + 1) + 1 = n - j by omega] at h1
    omega
theorem run_mono (w : Nat → Int) (k : Nat) : run w k ≤ run w (k + 1) := by
  show run w k ≤ max (w (k + 1)) (run w k)
  omega
theorem counts_ge (n : Nat) (w : Nat → Int) (s : Int) {k : Nat} (h : k ≤ n) : run w k ≤ counts n w s k ∧ (k = n → s ≤ counts n w s k) := by
  by_cases hk : k = n
  · subst hk
    unfold counts
    rw [dn_end, up_fit _ _ _ _ (Nat.le_refl _), if_pos rfl]
    constructor <;> omega
  · unfold counts
    rw [dn_at _ (by omega), up_fit _ _ _ _ h, if_neg hk]
    exact ⟨by omega, fun z => absurd z hk⟩
theorem counts_word (n : Nat) (w : Nat → Int) (s : Int) : Word n (counts n w s) where
  mono k h := by
    have h1 := (counts_ge n w s (k := k + 1) (by omega)).1
    have h2 := run_mono w k
    have h3 : counts n w s k = max (run w k) (counts n w s (k + 1) - 1) := by
      unfold counts
      rw [dn_at _ h, up_fit _ _ _ _ (by omega), if_neg (by omega)]
    rw [h3]
    omega
  step k h := by
    have h3 : counts n w s k = max (run w k) (counts n w s (k + 1) - 1) := by
      unfold counts
      rw [dn_at _ h, up_fit _ _ _ _ (by omega), if_neg (by omega)]
    omega
/-! ### along the floors -/
theorem Word.max {n : Nat} {a b : Nat → Int} (A : Word n a) (B : Word n b) : Word n fun k => Max.max (a k) (b k) where
  mono k h := by have := A.mono k h; have := B.mono k h; show Max.max (a k) (b k) ≤ Max.max (a (k + 1)) (b (k + 1)); omega
  step k h := by have := A.step k h; have := B.step k h; show Max.max (a (k + 1)) (b (k + 1)) ≤ Max.max (a k) (b k) + 1; omega
theorem Word.less {n : Nat} {a : Nat → Int} (A : Word n a) (c : Int) : Word n fun k => a k - c where
  mono k h := by have := A.mono k h; show a k - c ≤ a (k + 1) - c; omega
  step k h := by have := A.step k h; show a (k + 1) - c ≤ a k - c + 1; omega
theorem upF_word {n F : Nat} {W : Nat → Nat → Int} (h : ∀ f, f < F → Word n (W f)) : ∀ f, f < F → Word n (upF W f)
  | 0, h0 => h 0 h0
  | f + 1, h1 => (h (f + 1) h1).max (upF_word h f (by omega))
theorem upF_ge (W : Nat → Nat → Int) (k : Nat) : ∀ f, W f k ≤ upF W f k
  | 0 => Int.le_refl _
  | f + 1 => by show W (f + 1) k ≤ Max.max (W (f + 1) k) (upF W f k); omega
theorem upF_mono (W : Nat → Nat → Int) (f k : Nat) : upF W f k ≤ upF W (f + 1) k := by
  show upF W f k ≤ Max.max (W (f + 1) k) (upF W f k)
  omega
theorem dnF_word {n F : Nat} {W : Nat → Nat → Int} {S : Nat → Int} (h : ∀ f, f < F → Word n (W f)) : ∀ j, j < F → Word n (dnF F W S j)
  | 0, h0 => h (F - 1) (by omega)
  | j + 1, h1 => (h _ (by omega)).max ((dnF_word h j (by omega)).less _)
theorem floors_at {F : Nat} (W : Nat → Nat → Int) (S : Nat → Int) {f : Nat} (k : Nat) (h : f + 1 < F) : floors F W S f k = Max.max (upF W f k) (floors F W S (f + 1) k - (S (f + 1) - S f)) := by
  unfold floors
  obtain ⟨j, e⟩ : ∃ j, F - 1 - f = j + 1 := ⟨F - 1 - f - 1, by omega⟩
  rw [e, show F - 1 - (f + 1) = j by omega]
  show Max.max (upF W (F - 1 - (j + 1)) k) (dnF F (upF W) S j k - (S (F - 1 - j) - S (F - 1 - (j + 1)))) = _
  rw [show F - 1 - (j + 1) = f by omega, show F - 1 - j = f + 1 by omega]
theorem floors_end {F : Nat} (W : Nat → Nat → Int) (S : Nat → Int) (k : Nat) : floors F W S (F - 1) k = upF W (F - 1) k := by
  unfold floors
  rw [Nat.sub_self]
  rfl
theorem floors_ge {F : Nat} (W : Nat → Nat → Int) (S : Nat → Int) (k : Nat) {f : Nat} (h : f < F) : upF W f k ≤ floors F W S f k := by
  by_cases hf : f + 1 < F
  · rw [floors_at W S k hf]; omega
  · have : f = F - 1 := by omega
    subst this
    rw [floors_end]
    exact Int.le_refl _
theorem upF_congr {W V : Nat → Nat → Int} {k : Nat} : ∀ f, (∀ g, g ≤ f → W g k = V g k) → upF W f k = upF V f k
  | 0, h => h 0 (Nat.le_refl _)
  | f + 1, h => by
    show Max.max (W (f + 1) k) (upF W f k) = Max.max (V (f + 1) k) (upF V f k)
    rw [h (f + 1) (Nat.le_refl _), upF_congr f fun g hg => h g (by omega)]
theorem dnF_congr {F : Nat} {W V : Nat → Nat → Int} {S : Nat → Int} {k : Nat} (h : ∀ g, g < F → W g k = V g k) : ∀ j, j < F → dnF F W S j k = dnF F V S j k
  | 0, h0 => h (F - 1) (by omega)
  | j + 1, h1 => by
    show Max.max (W (F - 1 - (j + 1)) k) (dnF F W S j k - _) = Max.max (V (F - 1 - (j + 1)) k) (dnF F V S j k - _)
    rw [h _ (by omega), dnF_congr h j (by omega)]
theorem floors_congr {F : Nat} {W V : Nat → Nat → Int} {S : Nat → Int} {k : Nat} (h : ∀ g, g < F → W g k = V g k) {f : Nat} (hf : f < F) : floors F W S f k = floors F V S f k := by
  unfold floors
  exact dnF_congr (fun g hg => upF_congr g fun g' hg' => h g' (by omega)) _ (by omega)
/-! ### both agree -/
theorem tight_ltight (F n : Nat) (R : Nat → Nat → Int) (S : Nat → Int) {f : Nat} (hf : f < F) (k : Nat) : tight F n R S f k = ltight F n R S f k :=
  floors_congr (fun g _ => counts_lcounts n (R g) (S g) k) hf
theorem tight_word (F n : Nat) (R : Nat → Nat → Int) (S : Nat → Int) {f : Nat} (hf : f < F) : Word n (tight F n R S f) :=
  dnF_word (upF_word fun g _ => counts_word n (R g) (S g)) _ (by omega)
theorem tight_ge (F n : Nat) (R : Nat → Nat → Int) (S : Nat → Int) {f g : Nat} (hf : f < F) (hg : g ≤ f) {k : Nat} (hk : k ≤ n) : counts n (R g) (S g) k ≤ tight F n R S f k := by
  have h1 : ∀ f, g ≤ f → counts n (R g) (S g) k ≤ upF (fun f => counts n (R f) (S f)) f k := fun f => by
    induction f with
    | zero => intro z; have : g = 0 := by omega
              subst this; exact upF_ge (fun f => counts n (R f) (S f)) k 0
    | succ f ih =>
      intro z
      by_cases e : g = f + 1
      · subst e; exact upF_ge (fun f => counts n (R f) (S f)) k _
      · exact Int.le_trans (ih (by omega)) (upF_mono _ f k)
  exact Int.le_trans (h1 f hg) (floors_ge _ S k hf)
theorem good_iff (F n : Nat) (T : Nat → Nat → Int) (S : Nat → Int) : good F n T S = true ↔ ∀ f, f < F → T f 0 ≤ 0 ∧ T f n ≤ S f := by
  unfold good
  rw [List.all_eq_true]
  constructor
  · intro h f hf
    have := h f (List.mem_range.mpr hf)
    simp at this
    omega
  · intro h f hf
    have := h f (List.mem_range.mp hf)
    simp
    omega
theorem lgood_iff (F n : Nat) (T : Nat → Nat → Int) (S : Nat → Int) : lgood F n T S = true ↔ ∀ f, f < F → ∀ k, k ≤ n → T f k ≤ min (k : Int) (S f) := by
  unfold lgood lok
  simp only [List.all_eq_true, List.mem_range]
  constructor
  · intro h f hf k hk
    have := h f hf k (by omega)
    simp at this
    omega
  · intro h f hf k hk
    have := h f hf k (by omega)
    simp
    omega
theorem asc_iff (F : Nat) (S : Nat → Int) : asc F S = true ↔ ∀ f, f < F → prev S f ≤ S f := by
  unfold asc
  simp only [List.all_eq_true, List.mem_range, decide_eq_true_eq]
theorem good_asc {F n : Nat} {R : Nat → Nat → Int} {S : Nat → Int} (h : good F n (tight F n R S) S = true) : asc F S = true := by
  rw [good_iff] at h
  rw [asc_iff]
  intro f hf
  cases f with
  | zero =>
    have h1 := (counts_ge n (R 0) (S 0) (k := n) (Nat.le_refl _)).1
    have h2 := run_nonneg (R 0) n
    have h3 := tight_ge F n R S (f := 0) (g := 0) hf (Nat.le_refl _) (k := n) (Nat.le_refl _)
    have h4 := (h 0 hf).2
    show (0 : Int) ≤ S 0
    omega
  | succ f =>
    have h1 := (counts_ge n (R f) (S f) (k := n) (Nat.le_refl _)).2 rfl
    have h3 := tight_ge F n R S (f := f + 1) (g := f) hf (by omega) (k := n) (Nat.le_refl _)
    have h4 := (h (f + 1) hf).2
    show S f ≤ S (f + 1)
    omega
theorem both_good {F n : Nat} {R : Nat → Nat → Int} {S : Nat → Int} : good F n (tight F n R S) S = true ↔ asc F S = true ∧ lgood F n (ltight F n R S) S = true := by
  constructor
  · intro h
    refine ⟨good_asc h, ?_⟩
    rw [good_iff] at h
    rw [lgood_iff]
    intro f hf k hk
    rw [← tight_ltight F n R S hf k]
    have W := tight_word F n R S hf
    have h1 := h f hf
    have h2 := (W.le hk).2
    have h3 := W.le_end (j := n - k) (by omega)
    rw [show n - (n - k) = k by omega] at h3
    omega
  · rintro ⟨_, h⟩
    rw [lgood_iff] at h
    rw [good_iff]
    intro f hf
    rw [tight_ltight F n R S hf 0, tight_ltight F n R S hf n]
    have h1 := h f hf 0 (by omega)
    have h2 := h f hf n (Nat.le_refl _)
    omega
theorem rowsT_congr {F n : Nat} {W V : Nat → Nat → Int} (h : ∀ f, f < F → ∀ k, k < n → W f k = V f k) : rowsT F n W = rowsT F n V := by
  unfold rowsT
  apply gl_congr
  intro f hf
  rw [iv_congr (h f hf)]
theorem told_ltold (F n : Nat) (R : Nat → Nat → Int) (S : Nat → Int) : told F n (tight F n R S) S = ltold F n R S := by
  unfold told ltold
  by_cases h : good F n (tight F n R S) S = true
  · rw [if_pos h, if_pos (both_good.mp h), rowsT_congr fun f hf k _ => tight_ltight F n R S hf k]
  · rw [if_neg h, if_neg fun z => h (both_good.mpr z)]
/-! ### tight words stay as they are -/
structure Tight (F n : Nat) (T : Nat → Nat → Int) (S : Nat → Int) : Prop where
  word : ∀ f, f < F → Word n (T f)
  first : ∀ f, f < F → T f 0 = 0
  last : ∀ f, f < F → T f n = S f
  up : ∀ f, f + 1 < F → ∀ k, k ≤ n → T f k ≤ T (f + 1) k
  down : ∀ f, f + 1 < F → ∀ k, k ≤ n → T (f + 1) k - (S (f + 1) - S f) ≤ T f k
theorem tight_Tight {F n : Nat} {R : Nat → Nat → Int} {S : Nat → Int} (h : good F n (tight F n R S) S = true) : Tight F n (tight F n R S) S where
  word f hf := tight_word F n R S hf
  first f hf := by
    have h1 := ((good_iff ..).mp h f hf).1
    have h2 := (counts_ge n (R f) (S f) (k := 0) (Nat.zero_le _)).1
    have h3 := run_nonneg (R f) 0
    have h4 := tight_ge F n R S hf (Nat.le_refl f) (k := 0) (Nat.zero_le _)
    omega
  last f hf := by
    have h1 := ((good_iff ..).mp h f hf).2
    have h2 := (counts_ge n (R f) (S f) (k := n) (Nat.le_refl _)).2 rfl
    have h4 := tight_ge F n R S hf (Nat.le_refl f) (k := n) (Nat.le_refl _)
    omega
  up f hf k hk := by
    have h1 := (asc_iff ..).mp (good_asc h) (f + 1) hf
    have h2 : S f ≤ S (f + 1) := h1
    show floors F _ S f k ≤ floors F _ S (f + 1) k
    rw [floors_at _ S k hf]
    have h3 := upF_mono (fun f => counts n (R f) (S f)) f k
    have h4 := floors_ge (fun f => counts n (R f) (S f)) S k hf
    omega
  down f hf k hk := by
    show floors F _ S (f + 1) k - _ ≤ floors F _ S f k
    rw [floors_at _ S k hf]
    omega
section
variable {F n : Nat} {T : Nat → Nat → Int} {S : Nat → Int}
theorem Tight.nonneg (h : Tight F n T S) {f k : Nat} (hf : f < F) (hk : k ≤ n) : 0 ≤ T f k ∧ T f k ≤ S f := by
  have h1 := ((h.word f hf).le hk).1
  have h2 := (h.word f hf).le_end (j := n - k) (by omega)
  rw [show n - (n - k) = k by omega] at h2
  have h3 := h.first f hf
  have h4 := h.last f hf
  omega
theorem Tight.run (h : Tight F n T S) {f : Nat} (hf : f < F) : ∀ {k}, k ≤ n → LW.run (T f) k = T f k
  | 0, _ => by
    have := h.first f hf
    show Max.max 0 (T f 0) = T f 0
    omega
  | k + 1, hk => by
    have ih := Tight.run h hf (k := k) (by omega)
    have h1 := (h.word f hf).mono k (by omega)
    show Max.max (T f (k + 1)) (LW.run (T f) k) = T f (k + 1)
    rw [ih]
    omega
theorem Tight.counts (h : Tight F n T S) {f : Nat} (hf : f < F) : ∀ {j}, j ≤ n → LW.counts n (T f) (S f) (n - j) = T f (n - j)
  | 0, _ => by
    unfold LW.counts
    rw [Nat.sub_zero, dn_end, up_fit _ _ _ _ (Nat.le_refl _), if_pos rfl, h.run hf (Nat.le_refl _)]
    have := h.last f hf
    omega
  | j + 1, hj => by
    have ih := Tight.counts h hf (j := j) (by omega)
    unfold LW.counts at ih ⊢
    rw [dn_at _ (by omega), up_fit _ _ _ _ (by omega), if_neg (by omega), h.run hf (by omega), show n - (j + 1) + 1 = n - j by omega, ih]
    have h1 := (h.word f hf).step (n - (j + 1)) (by omega)
    rw [show n - (j + 1) + 1 = n - j by omega] at h1
    omega
theorem Tight.upF (h : Tight F n T S) {k : Nat} (hk : k ≤ n) : ∀ {f}, f < F → LW.upF T f k = T f k
  | 0, _ => rfl
  | f + 1, hf => by
    show Max.max (T (f + 1) k) (LW.upF T f k) = _
    rw [Tight.upF h hk (f := f) (by omega)]
    have := h.up f hf k hk
    omega
theorem Tight.floors (h : Tight F n T S) {k : Nat} (hk : k ≤ n) : ∀ {j}, j < F → LW.floors F T S (F - 1 - j) k = T (F - 1 - j) k
  | 0, hj => by
    rw [Nat.sub_zero, floors_end, h.upF hk (by omega)]
  | j + 1, hj => by
    have ih := Tight.floors h hk (j := j) (by omega)
    rw [floors_at T S k (by omega), h.upF hk (by omega), show F - 1 - (j + 1) + 1 = F - 1 - j by omega, ih]
    have := h.down (F - 1 - (j + 1)) (by omega) k hk
    rw [show F - 1 - (j + 1) + 1 = F - 1 - j by omega] at this
    omega
theorem Tight.tight (h : Tight F n T S) {f k : Nat} (hf : f < F) (hk : k ≤ n) : LW.tight F n T S f k = T f k := by
  unfold LW.tight
  have e : LW.floors F (fun f => LW.counts n (T f) (S f)) S f k = LW.floors F T S f k := floors_congr (fun g hg => by
    have := h.counts hg (j := n - k) (by omega)
    rwa [show n - (n - k) = k by omega] at this) hf
  rw [e]
  have := h.floors hk (j := F - 1 - f) (by omega)
  rwa [show F - 1 - (F - 1 - f) = f by omega] at this
theorem Tight.told (h : Tight F n T S) : LW.told F n (LW.tight F n T S) S = .tuple (rowsT F (n + 1) T) := by
  have hg : good F n (LW.tight F n T S) S = true := by
    rw [good_iff]
    intro f hf
    rw [h.tight hf (Nat.zero_le _), h.tight hf (Nat.le_refl _), h.first f hf, h.last f hf]
    constructor <;> omega
  unfold LW.told
  rw [if_pos hg, rowsT_congr fun f hf k hk => h.tight hf (by omega)]
end
end LW
namespace LW
open PySem L2 DL

theorem alike_ok {d : PyData} (N : Ok60 d) : F__law_alike [d, d] = some (.cl (.bool true)) := by
  unfold F__law_alike g__law_alike
  rw [e_runP]
  simp [argE, eq_same2 N, rep_cl N]
theorem nice_row {n : Nat} {w : Nat → Int} (h : ∀ k, k < n → -1000000 ≤ w k ∧ w k ≤ 1000000) : Nice 1 (22 * n) (.tuple (iv n w)) := by
  have := nice_tup (h := 0) (w := 21) (xs := iv n w) fun x hx => by
    obtain ⟨k, hk, rfl⟩ := iv_mem hx
    exact nice_int (h k hk).1 (h k hk).2
  simpa using this
theorem nice_rows {F n : Nat} {R : Nat → Nat → Int} (h : ∀ f, f < F → ∀ k, k < n → -1000000 ≤ R f k ∧ R f k ≤ 1000000) : Nice 2 ((22 * n + 1) * F) (.tuple (rowsT F n R)) := by
  have := nice_tup (h := 1) (w := 22 * n) (xs := rowsT F n R) fun x hx => by
    unfold rowsT gl at hx
    simp only [List.mem_map, List.mem_range] at hx
    obtain ⟨f, hf, rfl⟩ := hx
    exact nice_row (h f hf)
  simpa [rowsT] using this
theorem is_told_ok (F n : Nat) (hF : 0 < F) (hF2 : F ≤ 20) (hn : n ≤ 100) (R : Nat → Nat → Int) (S : Nat → Int) (hR : ∀ f, f < F → ∀ k, k ≤ n → -1000000 ≤ R f k ∧ R f k ≤ 1000000) (hS : ∀ f, f < F → -1000000 ≤ S f ∧ S f ≤ 1000000) :
    F__law_is_told [.tuple (rowsT F (n + 1) R), .tuple (iv F S)] = some (.cl (.bool true)) := by
  have NR : Nice 2 ((22 * (n + 1) + 1) * F) (.tuple (rowsT F (n + 1) R)) := nice_rows fun f hf k hk => hR f hf k (by omega)
  have NS : Nice 1 (22 * F) (.tuple (iv F S)) := nice_row hS
  have b1 : (22 * (n + 1) + 1) * F ≤ 2300 * 20 := Nat.mul_le_mul (by omega) hF2
  have NB : Ok60 (.list [.tuple (rowsT F (n + 1) R), .tuple (iv F S)]) := by
    have := nice_lst (h := 2) (w := 2300 * 20) (xs := [.tuple (rowsT F (n + 1) R), .tuple (iv F S)]) (by
      intro x hx
      simp only [List.mem_cons, List.not_mem_nil, or_false] at hx
      rcases hx with rfl | rfl
      · exact NR.mono (Nat.le_refl _) b1
      · exact NS.mono (by omega) (by omega))
    exact this.mono (by omega) (by show (2300 * 20 + 1) * 2 ≤ 1000000; omega)
  have eL : F__law_tightened [.tuple (rowsT F (n + 1) R), .tuple (iv F S)] = some (.cl (told F n (tight F n R S) S)) := by
    rw [ltightened_ok F n hF (by omega) (by omega), told_ltold]
  have eP := tightened_ok F n hF (by omega) (by omega) R S
  have ND : Ok60 (told F n (tight F n R S) S) := by
    unfold told
    by_cases hg : good F n (tight F n R S) S = true
    · rw [if_pos hg]
      have T := tight_Tight hg
      refine (nice_rows fun f hf k hk => ?_).mono (by omega) (by omega)
      have h1 := T.nonneg hf (show k ≤ n by omega)
      have h2 := hS f hf
      omega
    · rw [if_neg hg]
      exact nice_none.mono (by omega) (by omega)
  have hA := alike_ok ND
  unfold F__law_is_told g__law_is_told
  rw [e_runP]
  simp [argE, eL, rep_own NB]
  rw [loop_eq (fun i => [.cl (.tuple (rowsT F (n + 1) R)), .cl (.tuple (iv F S)), .cl (told F n (tight F n R S) S), .cl (.str (PyData.list [.tuple (rowsT F (n + 1) R), .tuple (iv F S)]).shown), lv .no 0 1 i])
    (by simp)
    (by
      intro i hi
      simp [eP, hA, rep_own NB])]
  by_cases hg : good F n (tight F n R S) S = true
  · have T := tight_Tight hg
    have e1 : told F n (tight F n R S) S = .tuple (rowsT F (n + 1) (tight F n R S)) := if_pos hg
    have e2 := tightened_ok F n hF (by omega) (by omega) (tight F n R S) S
    rw [T.told] at e2
    rw [e1] at hA ND ⊢
    simp [e2, hA]
  · have e1 : told F n (tight F n R S) S = .none := if_neg hg
    rw [e1]
    simp
end LW
namespace LW
open PySem L2 DL

theorem one_ok (B : Bag) (ds : List PyData) (h : ds ≠ []) (hl : ds.length ≤ 1000000) : ∃ d B', d ∈ ds ∧ F__law_one B.toD [.list ds] = some (.cl d, Bag.toD B') := by
  have hp : 0 < ds.length := List.length_pos_iff.mpr h
  obtain ⟨v, B', e, h0, h1⟩ := take_ok B ds.length (by omega) (by omega)
  have hv : v.toNat < ds.length := by omega
  have ea : atI ds v = some ds[v.toNat] := by
    rw [atI_nat' (n := v.toNat) (by omega) hv, List.getElem?_eq_getElem hv]
  refine ⟨ds[v.toNat], B', List.getElem_mem hv, ?_⟩
  unfold F__law_one g__law_one
  rw [e_runM]
  simp [argM, e, ea]
theorem one_int (B : Bag) (ns : List Int) (h : ns ≠ []) (hl : ns.length ≤ 1000000) : ∃ z B', z ∈ ns ∧ F__law_one B.toD [.list (ns.map .int)] = some (.cl (.int z), Bag.toD B') := by
  obtain ⟨d, B', hd, e⟩ := one_ok B (ns.map .int) (by simpa using h) (by simpa using hl)
  obtain ⟨z, hz, rfl⟩ := List.mem_map.mp hd
  exact ⟨z, B', hz, e⟩

def RowsEnd (n F : Nat) (x : Option (Val × List PyData)) : Prop := ∃ R B', x = some (.cl (.tuple (rowsT F (n + 1) R)), Bag.toD B') ∧ ∀ f, f < F → ∀ k, k < n + 1 → -1000 ≤ R f k ∧ R f k ≤ 1000
def RowsI (n F : Nat) (way : Int) (i : Nat) (ρ : DL.Env) : Prop := ∃ R B' c5 c6 c7 c8 c9, (∀ f, f < i → ∀ k, k < n + 1 → -1000 ≤ R f k ∧ R f k ≤ 1000) ∧ ρ = [.pm (Bag.toD B'), .cl (.int n), .cl (.int F), .cl (.int way), .op (rowsT i (n + 1) R), c5, c6, c7, c8, c9]
def RowI (n F : Nat) (way : Int) (i : Nat) (R : Nat → Nat → Int) (j : Nat) (ρ : DL.Env) : Prop := ∃ w one B' d8 d9, (∀ k, k < j → -1000 ≤ w k ∧ w k ≤ 1000) ∧ 0 ≤ one ∧ one ≤ (j : Int) ∧ ρ = [.pm (Bag.toD B'), .cl (.int n), .cl (.int F), .cl (.int way), .op (rowsT i (n + 1) R), .cl (.int i), .op (iv j w), .cl (.int one), d8, d9]
theorem rows_ok (B : Bag) (n F : Nat) (hn : n ≤ 100) (hF : F ≤ 20) : RowsEnd n F (F__law_rows B.toD [.int n, .int F]) := by
  obtain ⟨way, B0, e0, w0, w1⟩ := take_ok B 4 (by decide) (by decide)
  unfold F__law_rows g__law_rows
  rw [e_runM]
  have hF3 : (-1000000 : Int) ≤ F ∧ (F : Int) ≤ 1000000 := by omega
  simp [argM, e0, hF3.1, hF3.2]
  refine use_loop (P := fun x => RowsEnd n F (kM (kSq x _))) (RowsI n F way)
    ?_ ?_ ?_
  · exact ⟨fun _ _ => 0, B0, .no, .no, .no, .no, .no, fun f hf => absurd hf (by omega), by simp [rowsT, gl]⟩
  · rintro i d ρ hd ⟨R, B', c5, c6, c7, c8, c9, hR, rfl⟩
    obtain ⟨hi, rfl⟩ := rng_get hd
    have hn3 : (-1000000 : Int) ≤ n + 1 ∧ (n : Int) + 1 ≤ 1000000 := by omega
    simp [hn3.1, hn3.2]
    refine use_loop (P := fun x => Turns _ (kSq x _)) (RowI n F way i R)
      ?_ ?_ ?_
    · exact ⟨fun _ => 0, 0, B', c8, c9, fun k hk => absurd hk (by omega), by omega, by omega, by simp [iv]⟩
    · rintro j d ρ hd ⟨w, one, B1, d8, d9, hw, h0, h1, rfl⟩
      obtain ⟨hj, rfl⟩ := rng_get hd
      have hj2 : j < n + 1 := by omega
      have hj3 : j < 1000000 := by omega
      have fin : ∀ (z one' : Int) (B9 : Bag) (d9 : Cell), -1000 ≤ z → z ≤ 1000 → 0 ≤ one' → one' ≤ ((j + 1 : Nat) : Int) → RowI n F way i R (j + 1) [Cell.pm (Bag.toD B9), .cl (.int n), .cl (.int F), .cl (.int way), .op (rowsT i (n + 1) R), .cl (.int i), .op (iv j w ++ [.int z]), .cl (.int one'), .cl (.int j), d9] := fun z one' B9 d9 a1 a2 a3 a4 => by
        refine ⟨put w j z, one', B9, .cl (.int j), d9, fun k hk => ?_, a3, a4, ?_⟩
        · by_cases hkj : k = j
          · subst hkj; rw [put_same]; exact ⟨a1, a2⟩
          · rw [put_ne hkj]; exact hw k (by omega)
        · rw [iv_succ, put_same, iv_congr (w := put w j z) (v := w) fun k hk => put_ne (by omega)]
      have cases4 : way = 0 ∨ way = 1 ∨ way = 2 ∨ way = 3 := by omega
      rcases cases4 with rfl | rfl | rfl | rfl
      · obtain ⟨t, B2, et, t0, t1⟩ := take_ok B1 (n + 1) (by omega) (by omega)
        obtain ⟨z, B3, hz, ez⟩ := one_int B2 [0, 0, 1, j, t, -1, 0] (by simp) (by simp)
        simp at ez
        simp [et, ez, hj3]
        refine turns_nx ?_
        exact fin 0 one B3 _ (by omega) (by omega) h0 (by omega)
      · obtain ⟨u, B4, hu, eu⟩ := one_int B1 [0, 1, 0, 1] (by simp) (by simp)
        obtain ⟨t, B2, et, t0, t1⟩ := take_ok B4 (n + 1) (by omega) (by omega)
        obtain ⟨z, B3, hz, ez⟩ := one_int B2 [0, 0, 1, j, t, -1, 0] (by simp) (by simp)
        simp at ez eu
        simp [et, ez, eu, hj3]
        have hu2 : u = 0 ∨ u = 1 := by
          simp at hu
          omega
        refine turns_nx ?_
        exact fin (one + u) (one + u) B3 _ (by omega) (by omega) (by omega) (by omega)
      · obtain ⟨t, B2, et, t0, t1⟩ := take_ok B1 (n + 1) (by omega) (by omega)
        obtain ⟨z, B3, hz, ez⟩ := one_int B2 [0, 0, 1, j, t, -1, 0] (by simp) (by simp)
        simp at ez
        simp [et, ez, hj3]
        have hz2 : z = 0 ∨ z = 1 ∨ z = j ∨ z = t ∨ z = -1 := by
          simp at hz
          omega
        refine turns_nx ?_
        exact fin z one B3 _ (by omega) (by omega) h0 (by omega)
      · obtain ⟨t, B2, et, t0, t1⟩ := take_ok B1 (n + 1) (by omega) (by omega)
        obtain ⟨z, B3, hz, ez⟩ := one_int B2 [0, 0, 1, j, t, -1, n + 1] (by simp) (by simp)
        simp at ez
        simp [et, ez, hj3]
        have hz2 : z = 0 ∨ z = 1 ∨ z = j ∨ z = t ∨ z = -1 ∨ z = n + 1 := by
          simp at hz
          omega
        refine turns_nx ?_
        exact fin z one B3 _ (by omega) (by omega) h0 (by omega)
    · intro ρ' h
      rw [rngD_len] at h
      obtain ⟨w, one, B1, d8, d9, hw, h0, h1, rfl⟩ := h
      have hi3 : i < 1000000 := by omega
      have ei : (rowsT i (n + 1) R).length = i := gl_len
      simp [ei, hi3]
      refine turns_nx ⟨fun f => if f = i then w else R f, B1, .cl (.int i), .op (iv (n + 1) w), .cl (.int one), d8, d9, fun f hf k hk => ?_, ?_⟩
      · by_cases hfi : f = i
        · simp only [hfi, if_true]; exact hw k (by omega)
        · simp only [hfi, if_false]; exact hR f (by omega) k hk
      · have e1 : rowsT (i + 1) (n + 1) (fun f => if f = i then w else R f) = rowsT i (n + 1) R ++ [.tuple (iv (n + 1) w)] := by
          unfold rowsT
          rw [gl_succ]
          congr 1
          · apply gl_congr
            intro f hf
            simp [show f ≠ i by omega]
          · simp
        rw [e1]
  · intro ρ' h
    rw [rngD_len] at h
    obtain ⟨R, B', c5, c6, c7, c8, c9, hR, rfl⟩ := h
    simp
    exact ⟨R, B', rfl, hR⟩
/-! ### sizes -/
def SizesEnd (n F : Nat) (x : Option (Val × List PyData)) : Prop := ∃ S B', x = some (.cl (.tuple (iv F S)), Bag.toD B') ∧ ∀ f, f < F → -10000 ≤ S f ∧ S f ≤ 10000
def SizesI (n F : Nat) (i : Nat) (ρ : DL.Env) : Prop := ∃ (S : Nat → Int) (z : Int) (B' : Bag) (c5 : Cell), (∀ f, f < i → -10000 ≤ S f ∧ S f ≤ 10000) ∧ -(i : Int) ≤ z ∧ z ≤ 101 * i ∧ ρ = [.pm (Bag.toD B'), .cl (.int n), .cl (.int F), .op (iv i S), .cl (.int z), c5]
theorem sizes_ok (B : Bag) (n F : Nat) (hn : n ≤ 100) (hF : F ≤ 20) : SizesEnd n F (F__law_some_sizes B.toD [.int n, .int F]) := by
  unfold F__law_some_sizes g__law_some_sizes
  rw [e_runM]
  have hF3 : (-1000000 : Int) ≤ F ∧ (F : Int) ≤ 1000000 := by omega
  simp [argM, hF3.1, hF3.2]
  refine use_loop (P := fun x => SizesEnd n F (kM (kSq x _))) (SizesI n F) ?_ ?_ ?_
  · exact ⟨fun _ => 0, 0, B, .no, fun f hf => absurd hf (by omega), by omega, by omega, by simp [iv]⟩
  · rintro i d ρ hd ⟨S, z, B1, c5, hS, h0, h1, rfl⟩
    obtain ⟨hi, rfl⟩ := rng_get hd
    have hi3 : i < 1000000 := by omega
    obtain ⟨t, B2, et, t0, t1⟩ := take_ok B1 (n + 1) (by omega) (by omega)
    obtain ⟨u, B3, eu, u0, u1⟩ := take_ok B2 4 (by decide) (by decide)
    have fin : ∀ (z' x : Int) (B9 : Bag) (c : Cell), -((i + 1 : Nat) : Int) ≤ z' → z' ≤ 101 * ((i + 1 : Nat) : Int) → (x = z' ∨ x = min z' n) → Turns (SizesI n F (i + 1)) (some (.nx [.pm (Bag.toD B9), .cl (.int n), .cl (.int F), .op (iv i S ++ [.int x]), .cl (.int z'), c])) := fun z' x B9 c a1 a2 a3 => by
      refine turns_nx ⟨put S i x, z', B9, c, fun f hf => ?_, a1, a2, ?_⟩
      · by_cases hfi : f = i
        · subst hfi; rw [put_same]; omega
        · rw [put_ne hfi]; exact hS f (by omega)
      · rw [iv_succ, put_same, iv_congr (w := put S i x) (v := S) fun k hk => put_ne (by omega)]
    by_cases hu : u = 0
    · obtain ⟨q, B4, hq, eq⟩ := one_int B3 [0, 1, 2, 1, t, -1] (by simp) (by simp)
      obtain ⟨p, B5, ep, p0, p1⟩ := take_ok B4 9 (by decide) (by decide)
      simp at eq
      have hq2 : -1 ≤ q ∧ q ≤ 101 := by simp at hq; omega
      by_cases hp : 0 < p
      · simp [et, eu, hu, eq, ep, hp, hi3]
        exact fin (z + q) (min (z + q) n) B5 _ (by omega) (by omega) (.inr rfl)
      · simp [et, eu, hu, eq, ep, hp, hi3]
        exact fin (z + q) (z + q) B5 _ (by omega) (by omega) (.inl rfl)
    · obtain ⟨q, B4, hq, eq⟩ := one_int B3 [0, 1, 2, 1, t, 1] (by simp) (by simp)
      obtain ⟨p, B5, ep, p0, p1⟩ := take_ok B4 9 (by decide) (by decide)
      simp at eq
      have hq2 : -1 ≤ q ∧ q ≤ 101 := by simp at hq; omega
      by_cases hp : 0 < p
      · simp [et, eu, hu, eq, ep, hp, hi3]
        exact fin (z + q) (min (z + q) n) B5 _ (by omega) (by omega) (.inr rfl)
      · simp [et, eu, hu, eq, ep, hp, hi3]
        exact fin (z + q) (z + q) B5 _ (by omega) (by omega) (.inl rfl)
  · intro ρ' h
    rw [rngD_len] at h
    obtain ⟨S, z, B', c5, hS, h0, h1, rfl⟩ := h
    simp
    exact ⟨S, B', rfl, hS⟩
end LW
namespace LW
open PySem L2 DL

/-! ### any order -/
def MixEnd (m : Nat) (x : Option (Val × List PyData)) : Prop := ∃ ds B', x = some (.own ds, Bag.toD B') ∧ ds.length = m
def MixI (xs : List PyData) (i : Nat) (ρ : DL.Env) : Prop := ∃ (ds : List PyData) (B' : Bag) (c : Cell), ds.length = i ∧ ρ = [.pm (Bag.toD B'), .cl (.list xs), .op ds, c]
theorem mixed_ok (B : Bag) (xs : List PyData) (hx : xs.length ≤ 1000) : MixEnd xs.length (F__law_mixed B.toD [.list xs]) := by
  unfold F__law_mixed g__law_mixed
  rw [e_runM]
  simp [argM]
  refine use_loop (P := fun x => MixEnd xs.length (kM (kSq x _))) (MixI xs) ?_ ?_ ?_
  · exact ⟨[], B, .no, rfl, rfl⟩
  · rintro i d ρ hd ⟨ds, B1, c, hl, rfl⟩
    have hi := (List.getElem?_eq_some_iff.mp hd).1
    obtain ⟨t, B2, et, t0, t1⟩ := take_ok B1 (i + 1) (by omega) (by omega)
    have h2 : i < 1000000 := by omega
    have h3 : t ≤ 1000000 := by omega
    simp [hl, et, h2, h3, t0]
    refine turns_nx ⟨_, B2, .cl d, ?_, rfl⟩
    have : t.toNat ≤ i := by omega
    simp [hl]
    omega
  · rintro ρ' ⟨ds, B', c, hl, rfl⟩
    simp
    exact ⟨ds, B', rfl, hl⟩
/-! ### houses -/
def HouseEnd (x : Option (Val × List PyData)) : Prop := ∃ (n F : Nat) (V : Nat → Int) (B' : Bag), x = some (.cl (.tuple [.int n, .tuple (iv F V)]), Bag.toD B') ∧ n ≤ 16 ∧ 1 ≤ F ∧ F ≤ 4 ∧ ∀ f, f < F → 1 ≤ V f ∧ V f ≤ 12
def HouseI (things : Int) (many : Int) (i : Nat) (ρ : DL.Env) : Prop := ∃ (F : Nat) (V : Nat → Int) (left : Int) (B' : Bag) (c : Cell), (i = 0 → F = 0 ∧ left = 12) ∧ (1 ≤ i → 1 ≤ F) ∧ F ≤ i ∧ F ≤ 4 ∧ 0 ≤ left ∧ left ≤ 12 ∧ (∀ f, f < F → 1 ≤ V f ∧ V f ≤ 12) ∧
  ρ = [.pm (Bag.toD B'), .cl (.int things), .cl (.int 4), .cl (.int 12), .cl (.int many), .op (iv F V), .cl (.int left), c]
theorem house_ok (B : Bag) (things : Int) (h0 : 0 ≤ things) (h1 : things ≤ 16) : HouseEnd (F__law_house B.toD [.int things, .int 4, .int 12]) := by
  obtain ⟨t, B1, et, t0, t1⟩ := take_ok B (things + 1) (by omega) (by omega)
  obtain ⟨many, B2, hm, em⟩ := one_int B1 [things, things, 3, 2, 1, 0, t] (by simp) (by simp)
  obtain ⟨u, B3, eu, u0, u1⟩ := take_ok B2 4 (by decide) (by decide)
  obtain ⟨q, B4, hq, eq⟩ := one_int B3 [4, 2, 4, 1, 1 + u] (by simp) (by simp)
  have hm2 : 0 ≤ many ∧ many ≤ 16 := by simp at hm; omega
  have hq2 : 1 ≤ q ∧ q ≤ 4 := by simp at hq; omega
  simp at em eq
  unfold F__law_house g__law_house
  rw [e_runM]
  have hq3 : (-1000000 : Int) ≤ q ∧ q ≤ 1000000 := by omega
  simp [argM, et, em, eu, eq, hq3.1, hq3.2]
  refine use_loop (P := fun x => HouseEnd (kM (kSq x _))) (HouseI things many) ?_ ?_ ?_
  · exact ⟨0, fun _ => 0, 12, B4, .no, fun _ => ⟨rfl, rfl⟩, fun z => absurd z (by omega), Nat.le_refl _, by omega, by omega, by omega, fun f hf => absurd hf (by omega), by simp [iv]⟩
  · rintro i d ρ hd ⟨F, V, left, B1, c, a1, a2, a3, a4, a5, a6, hV, rfl⟩
    obtain ⟨hi, rfl⟩ := rng_get hd
    by_cases hl : 0 < left
    · have hi4 : (i : Int) < 4 := by omega
      obtain ⟨u, B2, eu, u0, u1⟩ := take_ok B1 12 (by decide) (by decide)
      obtain ⟨z, B3, hz, ez⟩ := one_int B2 [1, 2, 1, 3, 1, 2, 1 + u] (by simp) (by simp)
      have hz2 : 1 ≤ z ∧ z ≤ 12 := by simp at hz; omega
      simp at ez
      have hF : F < 1000000 := by omega
      have el : atI (iv F V ++ [.int (min left z)]) (-1) = some (.int (min left z)) := atI_last _ _
      simp [hl, hi4, eu, ez, hF, el]
      refine turns_nx ⟨F + 1, put V F (min left z), left - min left z, B3, .cl (.int i), fun z => absurd z (by omega), fun _ => by omega, by omega, by omega, by omega, by omega, fun f hf => ?_, ?_⟩
      · by_cases hf2 : f = F
        · subst hf2; rw [put_same]; omega
        · rw [put_ne hf2]; exact hV f (by omega)
      · rw [iv_succ, put_same, iv_congr (w := put V F (min left z)) (v := V) fun k hk => put_ne (by omega)]
    · simp [hl]
      refine turns_nx ⟨F, V, left, B1, .cl (.int i), fun z => absurd z (by omega), fun _ => by omega, by omega, a4, a5, a6, hV, rfl⟩
  · intro ρ' h
    rw [rngD_len] at h
    obtain ⟨F, V, left, B', c, a1, a2, a3, a4, a5, a6, hV, rfl⟩ := h
    simp
    refine ⟨(min many things).toNat, F, V, B', ?_, by omega, a2 (by omega), a4, hV⟩
    rw [show (((min many things).toNat : Nat) : Int) = min many things by omega]
end LW
namespace LW
open PySem L2 DL

/-! ### rows of nothing, over sizes that ascend, can always be made tight -/
theorem run_zero : ∀ k, run (fun _ => 0) k = 0
  | 0 => rfl
  | k + 1 => by
    show max 0 (run _ k) = 0
    rw [run_zero k]
    rfl
theorem zero_counts (n : Nat) (s : Int) : ∀ j, j ≤ n → dn n (lf n (fun _ => 0) s) j ≤ max 0 (s - j)
  | 0, _ => by
    show lf n (fun _ => 0) s n ≤ _
    rw [lf_run, run_zero]
    omega
  | j + 1, h => by
    have ih := zero_counts n s j (by omega)
    show max (lf n (fun _ => 0) s (n - (j + 1))) (dn n (lf n (fun _ => 0) s) j - 1) ≤ _
    rw [lf_run, run_zero]
    omega
theorem zero_counts' (n : Nat) (s : Int) {k : Nat} (h : k ≤ n) : counts n (fun _ => 0) s k ≤ max 0 (s - n + k) := by
  rw [counts_lcounts]
  have := zero_counts n s (n - k) (by omega)
  show dn n _ (n - k) ≤ _
  omega
theorem zero_upF (F n : Nat) {S : Nat → Int} (hS : ∀ f, f + 1 < F → S f ≤ S (f + 1)) {k : Nat} (hk : k ≤ n) : ∀ f, f < F → upF (fun f => counts n (fun _ => 0) (S f)) f k ≤ max 0 (S f - n + k)
  | 0, _ => zero_counts' n (S 0) hk
  | f + 1, h => by
    have ih := zero_upF F n hS hk f (by omega)
    have h1 := hS f h
    have h2 := zero_counts' n (S (f + 1)) hk
    show max (counts n (fun _ => 0) (S (f + 1)) k) (upF (fun f => counts n (fun _ => 0) (S f)) f k) ≤ _
    omega
theorem zero_floors (F n : Nat) {S : Nat → Int} (hS : ∀ f, f + 1 < F → S f ≤ S (f + 1)) {k : Nat} (hk : k ≤ n) : ∀ j, j < F → floors F (fun f => counts n (fun _ => 0) (S f)) S (F - 1 - j) k ≤ max 0 (S (F - 1 - j) - n + k)
  | 0, h => by
    rw [Nat.sub_zero, floors_end]
    exact zero_upF F n hS hk _ (by omega)
  | j + 1, h => by
    have ih := zero_floors F n hS hk j (by omega)
    have h1 := hS (F - 1 - (j + 1)) (by omega)
    have h2 := zero_upF F n hS hk (F - 1 - (j + 1)) (by omega)
    rw [floors_at _ S k (by omega)]
    rw [show F - 1 - (j + 1) + 1 = F - 1 - j by omega] at h1 ⊢
    omega
theorem zero_good (F n : Nat) {S : Nat → Int} (hS : ∀ f, f + 1 < F → S f ≤ S (f + 1)) (h0 : ∀ f, f < F → 0 ≤ S f ∧ S f ≤ n) : good F n (tight F n (fun _ _ => 0) S) S = true := by
  rw [good_iff]
  intro f hf
  have e : f = F - 1 - (F - 1 - f) := by omega
  have a := zero_floors F n hS (k := 0) (Nat.zero_le _) (F - 1 - f) (by omega)
  have b := zero_floors F n hS (k := n) (Nat.le_refl _) (F - 1 - f) (by omega)
  rw [← e] at a b
  have := h0 f hf
  show floors F (fun f => counts n (fun _ => 0) (S f)) S f 0 ≤ 0 ∧ floors F (fun f => counts n (fun _ => 0) (S f)) S f n ≤ S f
  constructor <;> omega
theorem asc_prev {F : Nat} {S : Nat → Int} (h : ∀ f, f < F → prev S f ≤ S f) : ∀ f, f + 1 < F → S f ≤ S (f + 1) := fun f hf => h (f + 1) hf
end LW
namespace LW
open PySem L2 DL

/-! ### what a house may know -/
def Knows (n F : Nat) (d : PyData) : Prop := ∃ (o : PyData) (T : Nat → Nat → Int) (S : Nat → Int), d = .tuple [o, .tuple (rowsT F (n + 1) T)] ∧ Tight F n T S ∧ ∀ f, f < F → 0 ≤ S f ∧ S f ≤ n
def KnownEnd (n F : Nat) (x : Option (Val × List PyData)) : Prop := ∃ d B', x = some (.cl d, Bag.toD B') ∧ Knows n F d
def RoomI (house ord : PyData) (n : Nat) (i : Nat) (ρ : DL.Env) : Prop := ∃ (S : Nat → Int) (z : Int) (B' : Bag) (c5 : Cell), (∀ f, f < i → prev S f ≤ S f) ∧ (∀ f, f < i → 0 ≤ S f ∧ S f ≤ n) ∧ z = prev S i ∧ 0 ≤ z ∧
  ρ = [.pm (Bag.toD B'), .cl house, .cl ord, .op (iv i S), .cl (.int z), c5, .no, .no, .no, .no, .no, .no]
def TurnI (house ord : PyData) (F : Nat) (S : Nat → Int) (i : Nat) (ρ : DL.Env) : Prop := ∃ (B' : Bag) (c3 c4 c5 c6 c7 c8 c9 : Cell), (c3 = .op (iv F S) ∨ c3 = .cl (.list (iv F S))) ∧
  ρ = [.pm (Bag.toD B'), .cl house, .cl ord, c3, c4, c5, c6, c7, c8, c9, .no, .no]
def TurnR (n F : Nat) (r : Val) (ρ : DL.Env) : Prop := ∃ d B' rest, r = .cl d ∧ Knows n F d ∧ ρ = .pm (Bag.toD B') :: rest
def EachI (house ord : PyData) (n F : Nat) (S : Nat → Int) (i : Nat) (ρ : DL.Env) : Prop := ∃ (R : Nat → Nat → Int) (B' : Bag) (c4 c5 c6 c8 c9 : Cell),
  ρ = [.pm (Bag.toD B'), .cl house, .cl ord, .cl (.list (iv F S)), c4, c5, c6, .op (rowsT i (n + 1) R), c8, c9, .no, .no]
def DrawI (r2 : DL.Env) (i : Nat) (acc : List PyData) (ρ : DL.Env) : Prop := ∃ (t : Nat → Int) (B' : Bag), acc = gl i (fun k => .tuple [.int (t k), .int (k : Nat)]) ∧ ρ = .pm (Bag.toD B') :: r2
def FitI (r2 : DL.Env) (i : Nat) (acc : List PyData) (ρ : DL.Env) : Prop := ∃ (w : Nat → Int) (B' : Bag), acc = iv i w ∧ ρ = .pm (Bag.toD B') :: r2
noncomputable def body_each : SD := (seqS (setS 8 (lcD [10] (rng1I (acons (binD (binD (varD 1) (conD (.int 0)) ixG) (conD (.int 1)) addG) anil)) (nameT 10) yesT (tupD (acons (callM 0 1 F__law_take (acons (conD (.int 3)) anil)) (acons (varD 10) anil)))))
    (dropS (metD 7 (acons (callD (acons (lcD [11, 10] (seqI (varD 8)) (tupT [11, 10]) yesT (iteD (testD (binD (varD 11) (conD (.int 0)) (eqQ false))) (callD (acons (varD 10) (acons (varD 4) (acons (callM 0 1 F__law_take (acons (binD (varD 10) (conD (.int 1)) addG) anil)) anil))) (threeG mn3)) (conD (.int 0)))) anil) (oneG tupleG)) anil) appG)))
noncomputable def body_rest : SD := (seqS (setS 9 (callP 2 F__law_tightened (acons (callD (acons (varD 7) anil) (oneG tupleG)) (acons (callD (acons (varD 3) anil) (oneG tupleG)) anil))))
    (ifS (testD (binD (varD 9) (conD .none) (isNG' true))) (retS (tupD (acons (varD 2) (acons (varD 9) anil)))) nilS))
theorem each_ok (V : List PyData) (ord : PyData) (n F : Nat) (hn : n ≤ 16) (hF : F ≤ 100) (S : Nat → Int) (j : Nat) (hj : j < F) (R : Nat → Nat → Int) (B : Bag) (c4 c5 c6 c8 c9 : Cell) :
    Turns (EachI (.tuple [.int n, .tuple V]) ord n F S (j + 1)) (turn (nameT 4) body_each [.pm (Bag.toD B), .cl (.tuple [.int n, .tuple V]), .cl ord, .cl (.list (iv F S)), c4, c5, c6, .op (rowsT j (n + 1) R), c8, c9, .no, .no] (.int (S j))) := by
  have hn4 : (-1000000 : Int) ≤ n + 1 ∧ (n : Int) + 1 ≤ 1000000 := by omega
  unfold body_each
  simp [hn4.1, hn4.2]
  refine use_lc (P := fun x => Turns _ (kSq (kSet x 8) _)) (DrawI [.cl (.tuple [.int n, .tuple V]), .cl ord, .cl (.list (iv F S)), .cl (.int (S j)), c5, c6, .op (rowsT j (n + 1) R), c8, c9, .no, .no]) (by rw [rngD_len]; omega) (by simp) ?_ ?_ ?_
  · exact ⟨fun _ => 0, B, rfl, by simp⟩
  · rintro i d acc ρ hd ⟨t, B2, rfl, rfl⟩
    obtain ⟨hi, rfl⟩ := rng_get hd
    obtain ⟨u, B3, eu, u0, u1⟩ := take_ok B2 3 (by omega) (by omega)
    simp [eu]
    refine items_some ⟨put t i u, B3, ?_, rfl⟩
    rw [gl_succ, put_same, gl_congr (g := fun k => .tuple [.int (put t i u k), .int (k : Nat)]) (h := fun k => .tuple [.int (t k), .int (k : Nat)]) fun k hk => by rw [put_ne (by omega)]]
  · rintro acc ρ ⟨t, B2, rfl, rfl⟩
    rw [rngD_len]
    simp
    refine use_lc (P := fun x => Turns _ (kD (kE1 (kC1 (kK (kC1 x _) _) _) _ _))) (FitI [.cl (.tuple [.int n, .tuple V]), .cl ord, .cl (.list (iv F S)), .cl (.int (S j)), c5, c6, .op (rowsT j (n + 1) R), .cl (.list (gl (n + 1) (fun k => .tuple [.int (t k), .int (k : Nat)]))), c9, .no, .no]) (by rw [gl_len]; omega) (by simp) ?_ ?_ ?_
    · exact ⟨fun _ => 0, B2, rfl, by simp⟩
    · rintro i d acc ρ hd ⟨w, B3, rfl, rfl⟩
      obtain ⟨hi, rfl⟩ := gl_get' hd
      have fin : ∀ (z : Int) (B9 : Bag), FitI [.cl (.tuple [.int n, .tuple V]), .cl ord, .cl (.list (iv F S)), .cl (.int (S j)), c5, c6, .op (rowsT j (n + 1) R), .cl (.list (gl (n + 1) (fun k => .tuple [.int (t k), .int (k : Nat)]))), c9, .no, .no] (i + 1) (iv i w ++ [.int z]) [.pm (Bag.toD B9), .cl (.tuple [.int n, .tuple V]), .cl ord, .cl (.list (iv F S)), .cl (.int (S j)), c5, c6, .op (rowsT j (n + 1) R), .cl (.list (gl (n + 1) (fun k => .tuple [.int (t k), .int (k : Nat)]))), c9, .no, .no] := fun z B9 => by
        refine ⟨put w i z, B9, ?_, rfl⟩
        rw [iv_succ, put_same, iv_congr (w := put w i z) (v := w) fun k hk => put_ne (by omega)]
      by_cases ht : t i = 0
      · obtain ⟨u, B4, eu, u0, u1⟩ := take_ok B3 (i + 1) (by omega) (by omega)
        simp [ht, eu]
        exact items_some (fin _ _)
      · simp [ht]
        exact items_some (fin _ _)
    · rintro acc ρ ⟨w, B3, rfl, rfl⟩
      rw [gl_len]
      have el : (rowsT j (n + 1) R).length = j := gl_len
      have hj3 : j < 1000000 := by omega
      simp [el, hj3]
      refine turns_nx ⟨fun f => if f = j then w else R f, B3, .cl (.int (S j)), c5, c6, .cl (.list (gl (n + 1) (fun k => .tuple [.int (t k), .int (k : Nat)]))), c9, ?_⟩
      have e1 : rowsT (j + 1) (n + 1) (fun f => if f = j then w else R f) = rowsT j (n + 1) R ++ [.tuple (iv (n + 1) w)] := by
        unfold rowsT
        rw [gl_succ]
        congr 1
        · apply gl_congr
          intro f hf
          simp [show f ≠ j by omega]
        · simp
      rw [e1]
theorem tight_known_ok (B : Bag) (n F : Nat) (V : Nat → Int) (hn : n ≤ 16) (hF0 : 1 ≤ F) (hF : F ≤ 4) (hV : ∀ f, f < F → 1 ≤ V f ∧ V f ≤ 12) : KnownEnd n F (F__law_tight_known B.toD [.tuple [.int n, .tuple (iv F V)]]) := by
  obtain ⟨ds, B1, em, hl⟩ := mixed_ok B (rngD 0 n 1) (by rw [rngD_len]; omega)
  rw [rngD_len] at hl
  unfold F__law_tight_known g__law_tight_known
  rw [e_runM]
  have hn3 : (-1000000 : Int) ≤ n ∧ (n : Int) ≤ 1000000 := by omega
  simp [argM, em, hn3.1, hn3.2]
  refine use_loop (P := fun x => KnownEnd n F (kM (kSq x _))) (RoomI (.tuple [.int n, .tuple (iv F V)]) (.tuple ds) n) ?_ ?_ ?_
  · exact ⟨fun _ => 0, 0, B1, .no, fun f hf => absurd hf (by omega), fun f hf => absurd hf (by omega), rfl, Int.le_refl _, by simp [iv]⟩
  · rintro i d ρ hd ⟨S, z, B2, c5, h1, h2, h3, h4, rfl⟩
    obtain ⟨hi, rfl⟩ := iv_get' hd
    have hv := hV i hi
    obtain ⟨t, B3, et, t0, t1⟩ := take_ok B2 (V i + 1) (by omega) (by omega)
    obtain ⟨q, B4, hq, eq⟩ := one_int B3 [V i, V i, t] (by simp) (by simp)
    have hq2 : 0 ≤ q ∧ q ≤ 12 := by simp at hq; omega
    simp at eq
    have hi3 : i < 1000000 := by omega
    simp [et, eq, hi3]
    have hz : z ≤ n := by
      rw [h3]
      cases i with
      | zero => show (0 : Int) ≤ n; omega
      | succ i => exact (h2 i (by omega)).2
    refine turns_nx ⟨put S i (min ↑n (z + q)), min ↑n (z + q), B4, .cl (.int (V i)), fun f hf => ?_, fun f hf => ?_, ?_, by omega, ?_⟩
    · have e : prev (put S i (min ↑n (z + q))) f = prev S f := by
        cases f with
        | zero => rfl
        | succ f => exact put_ne (by omega)
      rw [e]
      by_cases hfi : f = i
      · subst hfi; rw [put_same]; omega
      · rw [put_ne hfi]; exact h1 f (by omega)
    · by_cases hfi : f = i
      · subst hfi; rw [put_same]; omega
      · rw [put_ne hfi]; exact h2 f (by omega)
    · show _ = put S i (min ↑n (z + q)) i
      rw [put_same]
    · rw [iv_succ, put_same, iv_congr (w := put S i (min ↑n (z + q))) (v := S) fun k hk => put_ne (by omega)]
  · intro ρ' h
    rw [iv_len] at h
    obtain ⟨S, z, B2, c5, h1, h2, h3, h4, rfl⟩ := h
    simp
    refine use_loopT (P := fun x => KnownEnd n F (kM (kSq x _))) (TurnI (.tuple [.int n, .tuple (iv F V)]) (.tuple ds) F S) (TurnR n F) ?_ ?_ ?_ ?_
    · exact ⟨B2, _, _, _, _, _, _, _, .inl rfl, rfl⟩
    · rintro i d ρ hd ⟨B3, c3, c4, c5, c6, c7, c8, c9, hc3, rfl⟩
      obtain ⟨hi, rfl⟩ := rng_get hd
      have step : TurnsR (TurnI (.tuple [.int n, .tuple (iv F V)]) (.tuple ds) F S (i + 1)) (TurnR n F) (kSq (loopD (nameT 4) body_each (iv F S) [Cell.pm B3.toD, .cl (.tuple [.int n, .tuple (iv F V)]), .cl (.tuple ds), .cl (.list (iv F S)), c4, c5, .cl (.int i), .op [], c8, c9, .no, .no]) body_rest) := by
        refine use_loop (P := fun x => TurnsR _ _ (kSq x _)) (EachI (.tuple [.int n, .tuple (iv F V)]) (.tuple ds) n F S) ?_ ?_ ?_
        · exact ⟨fun _ _ => 0, B3, _, _, _, _, _, rfl⟩
        · rintro j d ρ hd ⟨R, B4, c4, c5, c6, c8, c9, rfl⟩
          obtain ⟨hj, rfl⟩ := iv_get' hd
          exact each_ok _ _ n F hn (by omega) S j hj R B4 c4 c5 c6 c8 c9
        · intro ρ' h
          rw [iv_len] at h
          obtain ⟨R, B4, c4, c5, c6, c8, c9, rfl⟩ := h
          have e := ltightened_ok F n hF0 (by omega) (by omega) R S
          unfold body_rest
          simp [e]
          rw [← told_ltold]
          by_cases hg : good F n (tight F n R S) S = true
          · rw [told, if_pos hg]
            simp
            refine turnsR_rt ⟨_, B4, _, rfl, ⟨_, _, S, rfl, tight_Tight hg, h2⟩, rfl⟩
          · rw [told, if_neg hg]
            simp
            exact turnsR_nx ⟨B4, _, _, _, _, _, _, _, .inr rfl, rfl⟩
      rcases hc3 with rfl | rfl <;> (simp; exact step)
    · intro ρ' h
      rw [rngD_len] at h
      obtain ⟨B3, c3, c4, c5, c6, c7, c8, c9, hc3, rfl⟩ := h
      have hn4 : (-1000 : Int) ≤ n + 1 ∧ (n : Int) + 1 ≤ 1000 := by omega
      have hF4 : (-1000 : Int) ≤ F ∧ (F : Int) ≤ 1000 := by omega
      have hg := zero_good F n (asc_prev h1) h2
      have e := ltightened_ok F n hF0 (by omega) (by omega) (fun _ _ => 0) S
      have er : rowsT F (n + 1) (fun _ _ => 0) = List.replicate F (.tuple (List.replicate (n + 1) (.int 0))) := by
        simp [rowsT, gl, iv, List.map_const']
      rw [er, ← told_ltold, told, if_pos hg] at e
      have fin : ∀ B3 : Bag, KnownEnd n F (some (.cl (.tuple [.tuple ds, .tuple (rowsT F (n + 1) (tight F n (fun x x_1 => 0) S))]), B3.toD)) := fun B3 => ⟨_, B3, rfl, _, _, S, rfl, tight_Tight hg, h2⟩
      rcases hc3 with rfl | rfl <;> simp [hn4.1, hn4.2, hF4.1, hF4.2, e] <;> exact fin _
    · rintro r ρ' ⟨d, B3, rest, rfl, hk, rfl⟩
      simp
      exact ⟨d, B3, rfl, hk⟩
end LW
namespace LW
open PySem L2 DL

theorem cut_one {ds : List PyData} (h : 1 ≤ ds.length) : cutD ds (some 1) none = ds.drop 1 := by
  unfold cutD
  rw [HT.sIx_none, show (some (1 : Int)) = some ((1 : Nat) : Int) from rfl, HT.sIx_nat, Nat.min_eq_left h]
  exact List.take_of_length_le (by rw [List.length_drop]; exact Nat.le_refl _)
theorem zip_next {F : Nat} {g : Nat → PyData} : zipD (gl F g) ((gl F g).drop 1) = gl (F - 1) fun k => .tuple [g k, g (k + 1)] := by
  unfold zipD
  apply List.ext_getElem?
  intro k
  rw [List.getElem?_zipWith, List.getElem?_drop]
  by_cases hk : k < F - 1
  · rw [gl_get (by omega), gl_get (by omega), gl_get hk, Nat.add_comm]
  · rw [List.getElem?_eq_none (l := gl F g) (i := 1 + k) (by rw [gl_len]; omega), List.getElem?_eq_none (l := gl (F - 1) _) (i := k) (by rw [gl_len]; omega)]
    split <;> simp_all
/-! ### the sizes of what is known -/
theorem sizes_of (n F : Nat) (hF : F < 1000) (T : Nat → Nat → Int) (o : PyData) : F_known_sizes [.tuple [o, .tuple (rowsT F (n + 1) T)]] = some (.cl (.tuple (iv F fun f => T f n))) := by
  unfold F_known_sizes g_known_sizes
  rw [e_runP]
  simp [argE, rowsT]
  rw [lc_gl (fun f => .int (T f n)) (by simp) (by omega) (by simp) (by
    intro f hf
    simp [iv_last])]
  simp [iv, gl]
/-! ### nested -/
def goes (n : Nat) (a b : Nat → Int) : Bool := (List.range n).all fun k => !decide (a k < a (k + 1)) || decide (b k < b (k + 1))
def nested (n F : Nat) (T : Nat → Nat → Int) : Bool := (List.range (F - 1)).all fun f => goes n (T f) (T (f + 1))
theorem fm_bools {n : Nat} {p q : Nat → Bool} : (List.range n).filterMap (fun k => if p k = true then some (PyData.bool (q k)) else none) = (((List.range n).filter p).map q).map .bool := by
  induction (List.range n) with
  | nil => rfl
  | cons k l ih =>
    rw [List.filterMap_cons, List.filter_cons]
    by_cases h : p k = true
    · simp [h, ih]
    · simp [h, ih]
theorem all_filter {n : Nat} {p q : Nat → Bool} : (((List.range n).filter p).map q).all id = (List.range n).all fun k => !p k || q k := by
  induction (List.range n) with
  | nil => rfl
  | cons k l ih =>
    rw [List.filter_cons, List.all_cons, ← ih]
    by_cases h : p k = true
    · simp [h]
    · simp [h]
theorem rng_gl {a : Int} {n : Nat} : rngD a n 1 = gl n fun k => .int (a + (k : Nat)) := by
  simp [rngD, gl]
theorem goes_ok (n : Nat) (hn : n < 1000) (a b : Nat → Int) : F_goes_up_with [.tuple (iv (n + 1) a), .tuple (iv (n + 1) b)] = some (.cl (.bool (goes n a b))) := by
  unfold F_goes_up_with g_goes_up_with
  rw [e_runP]
  have h1 : (-1000000 : Int) ≤ n + 1 ∧ (n : Int) + 1 ≤ 1000000 := by omega
  simp [argE, h1.1, h1.2]
  rw [rng_gl, lc_glf (fun k => if decide (a k < a (k + 1)) = true then some (.bool (decide (b k < b (k + 1)))) else none) (by simp) (by omega) (by simp) (by
    intro k hk
    have ea : atI (iv (n + 1) a) (1 + (k : Nat)) = some (.int (a (k + 1))) := iv_at (by omega) (by omega)
    have eb : atI (iv (n + 1) b) (1 + (k : Nat)) = some (.int (b (k + 1))) := iv_at (by omega) (by omega)
    have ea2 : atI (iv (n + 1) a) (1 + (k : Nat) - 1) = some (.int (a k)) := iv_at (by omega) (by omega)
    have eb2 : atI (iv (n + 1) b) (1 + (k : Nat) - 1) = some (.int (b k)) := iv_at (by omega) (by omega)
    by_cases h : a k < a (k + 1)
    · simp [ea, eb, ea2, eb2, h]
    · simp [ea, eb, ea2, eb2, h]), fm_bools]
  simp [e_bls, -List.map_map, all_filter, goes]
theorem nested_ok (n F : Nat) (hn : n < 1000) (hF0 : 1 ≤ F) (hF : F < 1000) (T : Nat → Nat → Int) (o : PyData) : F_is_nested [.tuple [o, .tuple (rowsT F (n + 1) T)]] = some (.cl (.bool (nested n F T))) := by
  unfold F_is_nested g_is_nested
  rw [e_runP]
  have h1 : (-1000000 : Int) ≤ F ∧ (F : Int) ≤ 1000000 := by omega
  have h2 : ((F : Int) - 1).toNat = F - 1 := by omega
  simp [argE, rowsT, h1.1, h1.2, h2]
  rw [rng_gl, lc_gl (fun f => .bool (goes n (T f) (T (f + 1)))) (by simp) (by omega) (by simp) (by
    intro f hf
    have ea : atI (gl F fun f => .tuple (iv (n + 1) (T f))) (1 + (f : Nat)) = some (.tuple (iv (n + 1) (T (f + 1)))) := gl_at (by omega) (by omega)
    have ea2 : atI (gl F fun f => .tuple (iv (n + 1) (T f))) (1 + (f : Nat) - 1) = some (.tuple (iv (n + 1) (T f))) := gl_at (by omega) (by omega)
    simp [ea, ea2, goes_ok n hn])]
  simp [bls_gl, nested]
/-- the law's own -/
theorem goes_any {n : Nat} {a b : Nat → Int} (W : Word n b) : ((List.range n).any fun k => decide (a k < a (k + 1)) && decide (b (k + 1) = b k)) = !goes n a b := by
  unfold goes
  rw [Bool.eq_iff_iff]
  simp only [List.any_eq_true, List.mem_range, Bool.and_eq_true, decide_eq_true_eq, Bool.not_eq_true', List.all_eq_false, Bool.or_eq_true, Bool.not_eq_true', decide_eq_false_iff_not, not_or]
  constructor
  · rintro ⟨k, hk, h1, h2⟩
    exact ⟨k, hk, by omega⟩
  · rintro ⟨k, hk, h1⟩
    have := W.mono k hk
    exact ⟨k, hk, by omega⟩
def NestI (d : PyData) (n : Nat) (T : Nat → Nat → Int) (i : Nat) (ρ : DL.Env) : Prop := ∃ c1 c2, (∀ f, f < i → goes n (T f) (T (f + 1)) = true) ∧ ρ = [.cl d, c1, c2, .no]
def NestR (n F : Nat) (T : Nat → Nat → Int) (r : Val) (ρ : DL.Env) : Prop := r = .cl (.bool false) ∧ ∃ f, f < F - 1 ∧ goes n (T f) (T (f + 1)) = false
theorem lnested_ok (n F : Nat) (hn : n < 1000) (hF0 : 1 ≤ F) (hF : F < 1000) (T : Nat → Nat → Int) (hT : ∀ f, f < F → Word n (T f)) (o : PyData) : F__law_is_nested [.tuple [o, .tuple (rowsT F (n + 1) T)]] = some (.cl (.bool (nested n F T))) := by
  unfold F__law_is_nested g__law_is_nested
  rw [e_runP]
  simp [argE, rowsT]
  rw [cut_one (by rw [gl_len]; exact hF0), zip_next]
  refine use_loopT (P := fun x => kPu (kSq x _) = _) (NestI (.tuple [o, .tuple (gl F fun f => .tuple (iv (n + 1) (T f)))]) n T) (NestR n F T) ?_ ?_ ?_ ?_
  · exact ⟨_, _, fun f hf => absurd hf (by omega), rfl⟩
  · rintro i d ρ hd ⟨c1, c2, h, rfl⟩
    obtain ⟨hi, rfl⟩ := gl_get' hd
    have h1 : (-1000000 : Int) ≤ n + 1 ∧ (n : Int) + 1 ≤ 1000000 := by omega
    simp [h1.1, h1.2]
    rw [rng_gl, lc_glf (fun k => if (decide (T i k < T i (k + 1)) && decide (T (i + 1) (k + 1) = T (i + 1) k)) = true then some (.int 1) else none) (by simp) (by omega) (by simp) (by
      intro k hk
      have ea : atI (iv (n + 1) (T i)) (1 + (k : Nat)) = some (.int (T i (k + 1))) := iv_at (by omega) (by omega)
      have eb : atI (iv (n + 1) (T (i + 1))) (1 + (k : Nat)) = some (.int (T (i + 1) (k + 1))) := iv_at (by omega) (by omega)
      have ea2 : atI (iv (n + 1) (T i)) (1 + (k : Nat) - 1) = some (.int (T i k)) := iv_at (by omega) (by omega)
      have eb2 : atI (iv (n + 1) (T (i + 1))) (1 + (k : Nat) - 1) = some (.int (T (i + 1) k)) := iv_at (by omega) (by omega)
      by_cases h : T i k < T i (k + 1)
      · by_cases h2 : T (i + 1) (k + 1) = T (i + 1) k
        · simp [ea, eb, ea2, eb2, h, h2]
        · simp [ea, eb, ea2, eb2, h, h2]
      · simp [ea, eb, ea2, eb2, h]), fm_ones]
    simp only [s_B1, e_lst, e_nil, s_Ps, e_ps0, s_Lst, List.length_nil, Nat.zero_le, s_B2, eq_ones, none_left, s_T, s_IS, goes_any (hT (i + 1) (by omega))]
    cases hg : goes n (T i) (T (i + 1)) with
    | true =>
      simp
      refine turnsR_nx ⟨_, _, fun f hf => ?_, rfl⟩
      by_cases hfi : f = i
      · rw [hfi]; exact hg
      · exact h f (by omega)
    | false =>
      simp
      exact turnsR_rt ⟨rfl, i, hi, hg⟩
  · intro ρ' h
    rw [gl_len] at h
    obtain ⟨c1, c2, h, rfl⟩ := h
    have : nested n F T = true := by
      unfold nested
      simp only [List.all_eq_true, List.mem_range]
      exact h
    simp [this]
  · rintro r ρ' ⟨rfl, f, hf, hg⟩
    have : nested n F T = false := by
      unfold nested
      simp only [List.all_eq_false, List.mem_range]
      exact ⟨f, hf, by rw [hg]; decide⟩
    simp [this]
end LW
noncomputable section
namespace K11
open PySem L2 DL

/-- known_sizes(knowledge); slots: knowledge word -/
abbrev g_known_sizes : SD := LW.g_known_sizes
abbrev F_known_sizes : FP := LW.F_known_sizes

/-- goes_up_with(low, high); slots: low high d -/
abbrev g_goes_up_with : SD := LW.g_goes_up_with
abbrev F_goes_up_with : FP := LW.F_goes_up_with

/-- is_nested(knowledge); slots: knowledge words floor -/
abbrev g_is_nested : SD := LW.g_is_nested
abbrev F_is_nested : FP := LW.F_is_nested

/-- greater_ones(one, other); slots: one other number more -/
abbrev g_greater_ones : SD := LW.g_greater_ones
abbrev F_greater_ones : FP := LW.F_greater_ones

/-- along_floors(rows, sizes); slots: rows sizes words floor more number -/
abbrev g_along_floors : SD := LW.g_along_floors
abbrev F_along_floors : FP := LW.F_along_floors

/-- along_counts(row, size); slots: row size word d -/
abbrev g_along_counts : SD := LW.g_along_counts
abbrev F_along_counts : FP := LW.F_along_counts

/-- tightened(rows, sizes); slots: rows sizes words row size word -/
abbrev g_tightened : SD := LW.g_tightened
abbrev F_tightened : FP := LW.F_tightened

/-- _law_take(_law_bag_here, _law_many); slots: _law_bag_here _law_many _law_cell _law_stirred _law_value _law_begin _law_second -/
abbrev g__law_take : SD := LW.g__law_take
abbrev F__law_take : FM := LW.F__law_take

/-- _law_one(_law_bag_here, _law_things); slots: _law_bag_here _law_things -/
abbrev g__law_one : SD := LW.g__law_one
abbrev F__law_one : FM := LW.F__law_one

/-- _law_rows(_law_bag_here, _law_many, _law_floors); slots: _law_bag_here _law_many _law_floors _law_way _law_found _law_floor _law_row _law_one_here _law_count _law_any_one -/
abbrev g__law_rows : SD := LW.g__law_rows
abbrev F__law_rows : FM := LW.F__law_rows

/-- _law_some_sizes(_law_bag_here, _law_many, _law_floors); slots: _law_bag_here _law_many _law_floors _law_found _law_size _law_floor -/
abbrev g__law_some_sizes : SD := LW.g__law_some_sizes
abbrev F__law_some_sizes : FM := LW.F__law_some_sizes

/-- _law_tightened(_law_rows_here, _law_sizes); slots: _law_rows_here _law_sizes _law_floors _law_many _law_words _law_row _law_size _law_word _law_ahead _law_count _law_one_here _law_floor _law_more _law_other -/
abbrev g__law_tightened : SD := LW.g__law_tightened
abbrev F__law_tightened : FP := LW.F__law_tightened

/-- _law_alike(_law_found, _law_due); slots: _law_found _law_due -/
abbrev g__law_alike : SD := LW.g__law_alike
abbrev F__law_alike : FP := LW.F__law_alike

/-- _law_is_told(_law_rows_here, _law_sizes); slots: _law_rows_here _law_sizes _law_due _law_shown _law_again -/
abbrev g__law_is_told : SD := LW.g__law_is_told
abbrev F__law_is_told : FP := LW.F__law_is_told

/-- _law_mixed(_law_bag_here, _law_things); slots: _law_bag_here _law_things _law_found _law_thing -/
abbrev g__law_mixed : SD := LW.g__law_mixed
abbrev F__law_mixed : FM := LW.F__law_mixed

/-- _law_tight_known(_law_bag_here, _law_house_here); slots: _law_bag_here _law_house_here _law_order _law_sizes _law_size _law_rooms _law_turn _law_rows_here _law_drawn _law_words _law_count _law_way -/
abbrev g__law_tight_known : SD := LW.g__law_tight_known
abbrev F__law_tight_known : FM := LW.F__law_tight_known

/-- _law_house(_law_bag_here, _law_things, _law_floors, _law_rooms); slots: _law_bag_here _law_things _law_floors _law_rooms _law_many _law_found _law_left _law_floor -/
abbrev g__law_house : SD := LW.g__law_house
abbrev F__law_house : FM := LW.F__law_house

/-- _law_known_sizes(_law_known); slots: _law_known _law_word -/
abbrev g__law_known_sizes : SD := LW.g_known_sizes
abbrev F__law_known_sizes : FP := LW.F_known_sizes

/-- _law_is_nested(_law_known); slots: _law_known _law_one_here _law_other _law_at -/
abbrev g__law_is_nested : SD := LW.g__law_is_nested
abbrev F__law_is_nested : FP := LW.F__law_is_nested

/-- law, behind its first row; slots: _law_script _law_bag_here _law_turn _law_floors _law_many _law_rows_here _law_sizes _law_known -/
def g_law : SD :=
  (seqS (forS (rng1I (acons (conD (.int 9)) anil)) (nameT 2) (seqS (parS [3, 4] (acons (binD (conD (.int 1)) (callM 1 1 F__law_take (acons (conD (.int 4)) anil)) addG) (acons (callM 1 1 F__law_one (acons (lstD (acons (conD (.int 3)) (acons (conD (.int 2)) (acons (conD (.int 4)) (acons (conD (.int 1)) (acons (conD (.int 0)) (acons (conD (.int 6)) (acons (conD (.int 16)) anil)))))))) anil)) anil)))
    (seqS (parS [5, 6] (acons (callM 1 2 F__law_rows (acons (varD 4) (acons (varD 3) anil))) (acons (callM 1 2 F__law_some_sizes (acons (varD 4) (acons (varD 3) anil))) anil)))
    (seqS (ifS (notT (testD (callP 2 F__law_is_told (acons (varD 5) (acons (varD 6) anil))))) (retS (conD (.bool false))) nilS)
    (seqS (setS 7 (callM 1 1 F__law_tight_known (acons (callM 1 3 F__law_house (acons (callM 1 1 F__law_one (acons (lstD (acons (conD (.int 4)) (acons (conD (.int 6)) (acons (conD (.int 16)) anil)))) anil)) (acons (conD (.int 4)) (acons (conD (.int 12)) anil)))) anil)))
    (seqS (ifS (notT (testD (callP 2 F__law_alike (acons (lstD (acons (callP 1 F_known_sizes (acons (varD 7) anil)) (acons (callP 1 F_is_nested (acons (varD 7) anil)) anil))) (acons (lstD (acons (callP 1 F__law_known_sizes (acons (varD 7) anil)) (acons (callP 1 F__law_is_nested (acons (varD 7) anil)) anil))) anil))))) (retS (conD (.bool false))) nilS)
    (ifS (notT (testD (callP 2 F__law_is_told (acons (binD (varD 7) (conD (.int 1)) ixG) (acons (callP 1 F__law_known_sizes (acons (varD 7) anil)) anil))))) (retS (conD (.bool false))) nilS)))))))
    (retS (conD (.bool true))))
end K11
end
namespace K11
open PySem L2 DL LW

theorem nice_two {F : Nat} {S : Nat → Int} (hF : F ≤ 20) (hS : ∀ f, f < F → -1000000 ≤ S f ∧ S f ≤ 1000000) (b : Bool) : Ok60 (.list [.tuple (iv F S), .bool b]) := by
  have NS : Nice 1 (22 * F) (.tuple (iv F S)) := nice_row hS
  have := nice_lst (h := 1) (w := 22 * 20) (xs := [.tuple (iv F S), .bool b]) (by
    intro x hx
    simp only [List.mem_cons, List.not_mem_nil, or_false] at hx
    rcases hx with rfl | rfl
    · exact NS.mono (by omega) (by omega)
    · exact (nice_bool b).mono (by omega) (by omega))
  exact this.mono (by omega) (by show (22 * 20 + 1) * 2 ≤ 1000000; omega)
def LawI (i : Nat) (ρ : DL.Env) : Prop := ∃ (B : Bag) (c2 c3 c4 c5 c6 c7 : Cell), ρ = [.no, .op (Bag.toD B), c2, c3, c4, c5, c6, c7]
def LawEnd (x : Option Out) : Prop := ∃ ρ', x = some (.rt (.cl (.bool true)) ρ')
theorem law_bag (B : Bag) : LawEnd (g_law [.no, .op (Bag.toD B), .no, .no, .no, .no, .no, .no]) := by
  unfold g_law
  simp
  refine use_loop (P := fun x => LawEnd (kSq x _)) LawI ?_ ?_ ?_
  · exact ⟨B, _, _, _, _, _, _, rfl⟩
  · rintro i d ρ hd ⟨B, c2, c3, c4, c5, c6, c7, rfl⟩
    obtain ⟨hi, rfl⟩ := rng_get hd
    obtain ⟨t, B1, et, t0, t1⟩ := take_ok B 4 (by decide) (by decide)
    obtain ⟨m, B2, hm, em⟩ := one_int B1 [3, 2, 4, 1, 0, 6, 16] (by simp) (by simp)
    have hm2 : 0 ≤ m ∧ m ≤ 16 := by simp at hm; omega
    obtain ⟨n, rfl⟩ : ∃ n : Nat, m = n := ⟨m.toNat, by omega⟩
    obtain ⟨F, hF⟩ : ∃ F : Nat, 1 + t = F := ⟨(1 + t).toNat, by omega⟩
    obtain ⟨R, B3, er, hR⟩ := rows_ok B2 n F (by omega) (by omega)
    obtain ⟨S, B4, es, hS⟩ := sizes_ok B3 n F (by omega) (by omega)
    have e1 := is_told_ok F n (by omega) (by omega) (by omega) R S (fun f hf k hk => by have := hR f hf k (by omega); omega) (fun f hf => by have := hS f hf; omega)
    obtain ⟨u, B5, hu, eu⟩ := one_int B4 [4, 6, 16] (by simp) (by simp)
    have hu2 : 0 ≤ u ∧ u ≤ 16 := by simp at hu; omega
    obtain ⟨n', F', V, B6, eh, hn', hF1, hF2, hV⟩ := house_ok B5 u hu2.1 hu2.2
    obtain ⟨d, B7, ek, o, T, S', rfl, hT, hS'⟩ := tight_known_ok B6 n' F' V hn' hF1 hF2 hV
    have es' : (iv F' fun f => T f n') = iv F' S' := iv_congr fun f hf => hT.last f hf
    have a1 := sizes_of n' F' (by omega) T o
    have a3 := nested_ok n' F' (by omega) hF1 (by omega) T o
    have a4 := lnested_ok n' F' (by omega) hF1 (by omega) T hT.word o
    rw [es'] at a1
    have a5 := alike_ok (nice_two (F := F') (S := S') (by omega) (fun f hf => by have := hS' f hf; omega) (nested n' F' T))
    have a6 := is_told_ok F' n' (by omega) (by omega) (by omega) T S' (fun f hf k hk => by have := hT.nonneg hf hk; have := hS' f hf; omega) (fun f hf => by have := hS' f hf; omega)
    simp at em eu
    simp [et, em, hF, er, es, e1, eu, eh, ek, a1, a3, a4, a5, a6]
    refine turns_nx ⟨B7, _, _, _, _, _, _, rfl⟩
  · rintro ρ' ⟨B, c2, c3, c4, c5, c6, c7, rfl⟩
    simp
    exact ⟨_, rfl⟩
theorem law_true : ∀ ns : List Int, ns.length ≤ 63 → ∃ ρ', g_law (Cell.no :: Cell.op (bagD ns) :: List.replicate 6 .no) = some (.rt (.cl (.bool true)) ρ') := by
  intro ns hns
  have e : bagD ns = Bag.toD ⟨0, 1234567891, 0, (ns.take 63).map fun i => if i < 0 then -i else i, by simp; omega⟩ := rfl
  rw [e]
  exact law_bag _
end K11
namespace K11
open PySem PySem.Spec PyProof.Rows L2 DL

def topS (i : Nat) : Stmt := PySem.Challenge.pw_floorkeepers_k11_least_tight_words.main.body.getD i (.Pass ⟨0, 0, 0, 0⟩)

abbrev s_known_sizes : Stmt := topS 1
abbrev N_known_sizes : List Str := ["knowledge", "word"]
abbrev P_known_sizes : List Str := ["knowledge"]
theorem sc_known_sizes : FnScope N_known_sizes P_known_sizes (defScope s_known_sizes) := ⟨rfl, rfl, rfl, by decide +kernel, rfl, by decide +kernel, by decide +kernel⟩
theorem ok_known_sizes {P : Program} {w : World} {K : Fg} {mg : Str → Option Value} {base : Heap} (B : Blt mg) (D : Def K mg "known_sizes" s_known_sizes P_known_sizes)  :
    Ok P w K mg base 1 "known_sizes" P_known_sizes (spP K 1 F_known_sizes) :=
  Ok.pure (N := N_known_sizes) D sc_known_sizes rfl (by decide) fun f cdv A outer s H E hA hr =>
    have hu := hu64 hr
    (s_one (s_ret (d_callTy c_tuple (loc_one loc_tuple) (by rfl) B.tuple boot_tuple (a_cons (d_lc (own := [(("word" : Str), 1)]) rfl sc_known_sizes.nd (i_seq (d_ix ix_both loc_ix (d_var 0) d_int (fun _ _ => rfl))) (blkOk_by (N := N_known_sizes) (sc := defScope s_known_sizes) (by decide +kernel)) (by decide) (fun _ _ _ _ _ => (g_name 1 sc_known_sizes.nd)) (fun _ _ _ _ _ => i_yes) (fun _ _ _ _ _ => (d_ix ix_both loc_ix (d_var 1) (d_un un_neg loc_neg d_int) (fun _ _ => rfl)))) a_nil))))

abbrev s_goes_up_with : Stmt := topS 3
abbrev N_goes_up_with : List Str := ["low", "high", "d"]
abbrev P_goes_up_with : List Str := ["low", "high"]
theorem sc_goes_up_with : FnScope N_goes_up_with P_goes_up_with (defScope s_goes_up_with) := ⟨rfl, rfl, rfl, by decide +kernel, rfl, by decide +kernel, by decide +kernel⟩
theorem ok_goes_up_with {P : Program} {w : World} {K : Fg} {mg : Str → Option Value} {base : Heap} (B : Blt mg) (D : Def K mg "goes_up_with" s_goes_up_with P_goes_up_with)  :
    Ok P w K mg base 1 "goes_up_with" P_goes_up_with (spP K 2 F_goes_up_with) :=
  Ok.pure (N := N_goes_up_with) D sc_goes_up_with rfl (by decide) fun f cdv A outer s H E hA hr =>
    have hu := hu64 hr
    (s_one (s_ret (d_callB (c_all rfl) loc_all (by rfl) B.all boot_all (a_cons (d_lc (own := [(("d" : Str), 2)]) rfl sc_goes_up_with.nd (i_rng2 (by rfl) B.range (a_cons d_int (a_cons (d_callB c_len (loc_one loc_len) (by rfl) B.len PySem.boot_len (a_cons (d_var 0) a_nil)) a_nil))) (blkOk_by (N := N_goes_up_with) (sc := defScope s_goes_up_with) (by decide +kernel)) (by decide) (fun _ _ _ _ _ => (g_name 2 sc_goes_up_with.nd)) (fun _ _ _ _ _ => (i_one (t_cmp op_gt loc_i2b (d_ix ix_both loc_ix (d_var 0) (d_var 2) (fun _ _ => rfl)) (d_ix ix_both loc_ix (d_var 0) (d_bin op_sub loc_i2i (d_var 2) d_int) (fun _ _ => rfl)) (nomark _)))) (fun _ _ _ _ _ => (d_cmp op_gt loc_i2b (d_ix ix_both loc_ix (d_var 1) (d_var 2) (fun _ _ => rfl)) (d_ix ix_both loc_ix (d_var 1) (d_bin op_sub loc_i2i (d_var 2) d_int) (fun _ _ => rfl)) (nomark _)))) a_nil))))

abbrev s_is_nested : Stmt := topS 2
abbrev N_is_nested : List Str := ["knowledge", "words", "floor"]
abbrev P_is_nested : List Str := ["knowledge"]
theorem sc_is_nested : FnScope N_is_nested P_is_nested (defScope s_is_nested) := ⟨rfl, rfl, rfl, by decide +kernel, rfl, by decide +kernel, by decide +kernel⟩
theorem ok_is_nested {P : Program} {w : World} {K : Fg} {mg : Str → Option Value} {base : Heap} (B : Blt mg) (D : Def K mg "is_nested" s_is_nested P_is_nested) (O_goes_up_with : Ok P w K mg base 1 "goes_up_with" P_goes_up_with (spP K 2 F_goes_up_with)) :
    Ok P w K mg base 2 "is_nested" P_is_nested (spP K 1 F_is_nested) :=
  Ok.pure (N := N_is_nested) D sc_is_nested rfl (by decide) fun f cdv A outer s H E hA hr =>
    have hu := hu64 hr
    (s_cons (s_set 1 (d_ix ix_both loc_ix (d_var 0) d_int (fun _ _ => rfl)) sc_is_nested.nd)
    (s_one (s_ret (d_callB (c_all rfl) loc_all (by rfl) B.all boot_all (a_cons (d_lc (own := [(("floor" : Str), 2)]) rfl sc_is_nested.nd (i_rng2 (by rfl) B.range (a_cons d_int (a_cons (d_callB c_len (loc_one loc_len) (by rfl) B.len PySem.boot_len (a_cons (d_var 1) a_nil)) a_nil))) (blkOk_by (N := N_is_nested) (sc := defScope s_is_nested) (by decide +kernel)) (by decide) (fun _ _ _ _ _ => (g_name 2 sc_is_nested.nd)) (fun _ _ _ _ _ => i_yes) (fun _ _ _ _ _ => (e_P O_goes_up_with hA (hr.mono (by decide)) (a_cons (d_ix ix_both loc_ix (d_var 1) (d_bin op_sub loc_i2i (d_var 2) d_int) (fun _ _ => rfl)) (a_cons (d_ix ix_both loc_ix (d_var 1) (d_var 2) (fun _ _ => rfl)) a_nil))))) a_nil)))))

abbrev s_greater_ones : Stmt := topS 7
abbrev N_greater_ones : List Str := ["one", "other", "number", "more"]
abbrev P_greater_ones : List Str := ["one", "other"]
theorem sc_greater_ones : FnScope N_greater_ones P_greater_ones (defScope s_greater_ones) := ⟨rfl, rfl, rfl, by decide +kernel, rfl, by decide +kernel, by decide +kernel⟩
theorem ok_greater_ones {P : Program} {w : World} {K : Fg} {mg : Str → Option Value} {base : Heap} (B : Blt mg) (D : Def K mg "greater_ones" s_greater_ones P_greater_ones)  :
    Ok P w K mg base 1 "greater_ones" P_greater_ones (spP K 2 F_greater_ones) :=
  Ok.pure (N := N_greater_ones) D sc_greater_ones rfl (by decide) fun f cdv A outer s H E hA hr =>
    have hu := hu64 hr
    (s_one (s_ret (d_lc (own := [(("number" : Str), 2), (("more" : Str), 3)]) rfl sc_greater_ones.nd (i_zip (by rfl) B.zip (a_cons (d_var 0) (a_cons (d_var 1) a_nil))) (blkOk_by (N := N_greater_ones) (sc := defScope s_greater_ones) (by decide +kernel)) (by decide) (fun _ _ _ _ _ => (g_tup rfl (pgs_cons (h_name 2 sc_greater_ones.nd) (pgs_cons (h_name 3 sc_greater_ones.nd) pgs_nil)) rfl)) (fun _ _ _ _ _ => i_yes) (fun _ _ _ _ _ => (d_ite (t_cmp op_gt loc_i2b (d_var 2) (d_var 3) (nomark _)) (d_var 2) (d_var 3))))))

abbrev s_along_floors : Stmt := topS 6
abbrev N_along_floors : List Str := ["rows", "sizes", "words", "floor", "more", "number"]
abbrev P_along_floors : List Str := ["rows", "sizes"]
theorem sc_along_floors : FnScope N_along_floors P_along_floors (defScope s_along_floors) := ⟨rfl, rfl, rfl, by decide +kernel, rfl, by decide +kernel, by decide +kernel⟩
theorem ok_along_floors {P : Program} {w : World} {K : Fg} {mg : Str → Option Value} {base : Heap} (B : Blt mg) (D : Def K mg "along_floors" s_along_floors P_along_floors) (O_greater_ones : Ok P w K mg base 1 "greater_ones" P_greater_ones (spP K 2 F_greater_ones)) :
    Ok P w K mg base 2 "along_floors" P_along_floors (spP K 2 F_along_floors) :=
  Ok.pure (N := N_along_floors) D sc_along_floors rfl (by decide) fun f cdv A outer s H E hA hr =>
    have hu := hu64 hr
    (s_cons (s_set 2 (d_callTy c_list (loc_one loc_list) (by rfl) B.list boot_list (a_cons (d_var 0) a_nil)) sc_along_floors.nd)
    (s_cons (s_for PassesOwn.never rfl (i_rng2 (by rfl) B.range (a_cons d_int (a_cons (d_callB c_len (loc_one loc_len) (by rfl) B.len PySem.boot_len (a_cons (d_var 2) a_nil)) a_nil))) (g_name 3 sc_along_floors.nd) (s_one (s_setIx 2 (e_P O_greater_ones hA (hr.mono (by decide)) (a_cons (d_ix ix_both loc_ix (d_var 2) (d_var 3) (fun _ _ => rfl)) (a_cons (d_ix ix_both loc_ix (d_var 2) (d_bin op_sub loc_i2i (d_var 3) d_int) (fun _ _ => rfl)) a_nil))) (d_var 3))))
    (s_cons (s_for PassesOwn.never rfl (i_rng3 (by rfl) B.range (a_cons (d_bin op_sub loc_i2i (d_callB c_len (loc_one loc_len) (by rfl) B.len PySem.boot_len (a_cons (d_var 2) a_nil)) d_int) (a_cons (d_un un_neg loc_neg d_int) (a_cons (d_un un_neg loc_neg d_int) a_nil)))) (g_name 3 sc_along_floors.nd) (s_cons (s_set 4 (d_bin op_sub loc_i2i (d_ix ix_both loc_ix (d_var 1) (d_bin op_addAll loc_add (d_var 3) d_int) (fun _ _ => rfl)) (d_ix ix_both loc_ix (d_var 1) (d_var 3) (fun _ _ => rfl))) sc_along_floors.nd)
    (s_one (s_setIx 2 (e_P O_greater_ones hA (hr.mono (by decide)) (a_cons (d_ix ix_both loc_ix (d_var 2) (d_var 3) (fun _ _ => rfl)) (a_cons (d_lc (own := [(("number" : Str), 5)]) rfl sc_along_floors.nd (i_seq (d_ix ix_both loc_ix (d_var 2) (d_bin op_addAll loc_add (d_var 3) d_int) (fun _ _ => rfl))) (blkOk_by (N := N_along_floors) (sc := defScope s_along_floors) (by decide +kernel)) (by decide) (fun _ _ _ _ _ => (g_name 5 sc_along_floors.nd)) (fun _ _ _ _ _ => i_yes) (fun _ _ _ _ _ => (d_bin op_sub loc_i2i (d_var 5) (d_var 4)))) a_nil))) (d_var 3)))))
    (s_one (s_ret (d_var 2))))))

abbrev s_along_counts : Stmt := topS 5
abbrev N_along_counts : List Str := ["row", "size", "word", "d"]
abbrev P_along_counts : List Str := ["row", "size"]
theorem sc_along_counts : FnScope N_along_counts P_along_counts (defScope s_along_counts) := ⟨rfl, rfl, rfl, by decide +kernel, rfl, by decide +kernel, by decide +kernel⟩
theorem ok_along_counts {P : Program} {w : World} {K : Fg} {mg : Str → Option Value} {base : Heap} (B : Blt mg) (D : Def K mg "along_counts" s_along_counts P_along_counts) (O_greater_ones : Ok P w K mg base 1 "greater_ones" P_greater_ones (spP K 2 F_greater_ones)) :
    Ok P w K mg base 2 "along_counts" P_along_counts (spP K 2 F_along_counts) :=
  Ok.pure (N := N_along_counts) D sc_along_counts rfl (by decide) fun f cdv A outer s H E hA hr =>
    have hu := hu64 hr
    (s_cons (s_set 2 (e_P O_greater_ones hA (hr.mono (by decide)) (a_cons (d_var 0) (a_cons (d_bin op_mulAll loc_mul (d_lst (a_cons d_int a_nil)) (d_callB c_len (loc_one loc_len) (by rfl) B.len PySem.boot_len (a_cons (d_var 0) a_nil))) a_nil))) sc_along_counts.nd)
    (s_cons (s_setIx 2 (d_callB (c_max2 rfl) loc_max2 (by rfl) B.max boot_max (a_cons (d_ix ix_both loc_ix (d_var 2) (d_un un_neg loc_neg d_int) (fun _ _ => rfl)) (a_cons (d_var 1) a_nil))) (d_un un_neg loc_neg d_int))
    (s_cons (s_for PassesOwn.never rfl (i_rng2 (by rfl) B.range (a_cons d_int (a_cons (d_callB c_len (loc_one loc_len) (by rfl) B.len PySem.boot_len (a_cons (d_var 2) a_nil)) a_nil))) (g_name 3 sc_along_counts.nd) (s_one (s_if (t_cmp op_lt loc_i2b (d_ix ix_both loc_ix (d_var 2) (d_var 3) (fun _ _ => rfl)) (d_ix ix_both loc_ix (d_var 2) (d_bin op_sub loc_i2i (d_var 3) d_int) (fun _ _ => rfl)) (nomark _)) (s_one (s_setIx 2 (d_ix ix_both loc_ix (d_var 2) (d_bin op_sub loc_i2i (d_var 3) d_int) (fun _ _ => rfl)) (d_var 3))) s_nil)))
    (s_cons (s_for PassesOwn.never rfl (i_rng3 (by rfl) B.range (a_cons (d_bin op_sub loc_i2i (d_callB c_len (loc_one loc_len) (by rfl) B.len PySem.boot_len (a_cons (d_var 2) a_nil)) d_int) (a_cons (d_un un_neg loc_neg d_int) (a_cons (d_un un_neg loc_neg d_int) a_nil)))) (g_name 3 sc_along_counts.nd) (s_one (s_if (t_cmp op_lt loc_i2b (d_ix ix_both loc_ix (d_var 2) (d_var 3) (fun _ _ => rfl)) (d_bin op_sub loc_i2i (d_ix ix_both loc_ix (d_var 2) (d_bin op_addAll loc_add (d_var 3) d_int) (fun _ _ => rfl)) d_int) (nomark _)) (s_one (s_setIx 2 (d_bin op_sub loc_i2i (d_ix ix_both loc_ix (d_var 2) (d_bin op_addAll loc_add (d_var 3) d_int) (fun _ _ => rfl)) d_int) (d_var 3))) s_nil)))
    (s_one (s_ret (d_var 2)))))))

abbrev s_tightened : Stmt := topS 4
abbrev N_tightened : List Str := ["rows", "sizes", "words", "row", "size", "word"]
abbrev P_tightened : List Str := ["rows", "sizes"]
theorem sc_tightened : FnScope N_tightened P_tightened (defScope s_tightened) := ⟨rfl, rfl, rfl, by decide +kernel, rfl, by decide +kernel, by decide +kernel⟩
theorem ok_tightened {P : Program} {w : World} {K : Fg} {mg : Str → Option Value} {base : Heap} (B : Blt mg) (D : Def K mg "tightened" s_tightened P_tightened) (O_along_floors : Ok P w K mg base 2 "along_floors" P_along_floors (spP K 2 F_along_floors)) (O_along_counts : Ok P w K mg base 2 "along_counts" P_along_counts (spP K 2 F_along_counts)) :
    Ok P w K mg base 3 "tightened" P_tightened (spP K 2 F_tightened) :=
  Ok.pure (N := N_tightened) D sc_tightened rfl (by decide) fun f cdv A outer s H E hA hr =>
    have hu := hu64 hr
    (s_cons (s_set 2 (e_P O_along_floors hA (hr.mono (by decide)) (a_cons (d_lc (own := [(("row" : Str), 3), (("size" : Str), 4)]) rfl sc_tightened.nd (i_zip (by rfl) B.zip (a_cons (d_var 0) (a_cons (d_var 1) a_nil))) (blkOk_by (N := N_tightened) (sc := defScope s_tightened) (by decide +kernel)) (by decide) (fun _ _ _ _ _ => (g_tup rfl (pgs_cons (h_name 3 sc_tightened.nd) (pgs_cons (h_name 4 sc_tightened.nd) pgs_nil)) rfl)) (fun _ _ _ _ _ => i_yes) (fun _ _ _ _ _ => (e_P O_along_counts hA (hr.mono (by decide)) (a_cons (d_var 3) (a_cons (d_var 4) a_nil))))) (a_cons (d_var 1) a_nil))) sc_tightened.nd)
    (s_cons (s_if (t_val (d_callB (c_any rfl) loc_any (by rfl) B.any boot_any (a_cons (d_lc (own := [(("word" : Str), 5), (("size" : Str), 4)]) rfl sc_tightened.nd (i_zip (by rfl) B.zip (a_cons (d_var 2) (a_cons (d_var 1) a_nil))) (blkOk_by (N := N_tightened) (sc := defScope s_tightened) (by decide +kernel)) (by decide) (fun _ _ _ _ _ => (g_tup rfl (pgs_cons (h_name 5 sc_tightened.nd) (pgs_cons (h_name 4 sc_tightened.nd) pgs_nil)) rfl)) (fun _ _ _ _ _ => i_yes) (fun _ _ _ _ _ => (d_or (d_cmp op_gt loc_i2b (d_ix ix_both loc_ix (d_var 5) d_int (fun _ _ => rfl)) d_int (nomark _)) (d_one (d_cmp op_gt loc_i2b (d_ix ix_both loc_ix (d_var 5) (d_un un_neg loc_neg d_int) (fun _ _ => rfl)) (d_var 4) (nomark _)))))) a_nil))) (s_one (s_ret d_non)) s_nil)
    (s_one (s_ret (d_callTy c_tuple (loc_one loc_tuple) (by rfl) B.tuple boot_tuple (a_cons (d_lc (own := [(("word" : Str), 5)]) rfl sc_tightened.nd (i_seq (d_var 2)) (blkOk_by (N := N_tightened) (sc := defScope s_tightened) (by decide +kernel)) (by decide) (fun _ _ _ _ _ => (g_name 5 sc_tightened.nd)) (fun _ _ _ _ _ => i_yes) (fun _ _ _ _ _ => (d_callTy c_tuple (loc_one loc_tuple) (by rfl) B.tuple boot_tuple (a_cons (d_var 5) a_nil)))) a_nil))))))

abbrev s__law_take : Stmt := topS 10
abbrev N__law_take : List Str := ["_law_bag_here", "_law_many", "_law_cell", "_law_stirred", "_law_value", "_law_begin", "_law_second"]
abbrev P__law_take : List Str := ["_law_bag_here", "_law_many"]
theorem sc__law_take : FnScope N__law_take P__law_take (defScope s__law_take) := ⟨rfl, rfl, rfl, by decide +kernel, rfl, by decide +kernel, by decide +kernel⟩
theorem ok__law_take {P : Program} {w : World} {K : Fg} {mg : Str → Option Value} {base : Heap} (B : Blt mg) (D : Def K mg "_law_take" s__law_take P__law_take)  :
    Ok P w K mg base 1 "_law_take" P__law_take (spM K 1 F__law_take) :=
  Ok.mut (N := N__law_take) D sc__law_take rfl (by decide) fun f cdv A outer s H E hA hr =>
    have hu := hu64 hr
    (s_cons (s_if (t_cmp (op_eqQ hu) loc_eqQ (d_ix ix_both loc_ix (d_var 0) d_int (fun _ _ => rfl)) d_int (nomark _)) (s_cons (s_set 2 (d_ix ix_both loc_ix (d_bin op_addAll loc_add (d_slice (d_ix ix_both loc_ix (d_var 0) d_int (fun _ _ => rfl)) (o_some (d_ix ix_both loc_ix (d_var 0) d_int (fun _ _ => rfl))) o_none) (d_lst (a_cons d_int a_nil))) d_int (fun _ _ => rfl)) sc__law_take.nd)
    (s_cons (s_augIx 0 ip_add d_int d_int)
    (s_cons (s_if (t_cmp op_ge loc_i2b (d_var 2) (d_bin op_pow loc_pow d_int d_int) (nomark _)) (s_one (s_setIx 0 (d_var 2) d_int)) s_nil)
    (s_cons (s_set 3 (d_bin op_addAll loc_add (d_bin op_addAll loc_add (d_bin op_mulAll loc_mul (d_ix ix_both loc_ix (d_var 0) d_int (fun _ _ => rfl)) d_int) (d_bin op_mod loc_mod (d_callTy c_intT (loc_one loc_intT) (by rfl) B.int boot_int (a_cons (d_var 2) a_nil)) d_int)) (d_bin op_mulAll loc_mul d_int (d_ix ix_both loc_ix (d_var 0) d_int (fun _ _ => rfl)))) sc__law_take.nd)
    (s_one (s_setIx 0 (d_bin op_mod loc_mod (d_callTy c_intT (loc_one loc_intT) (by rfl) B.int boot_int (a_cons (d_var 3) a_nil)) d_int) d_int)))))) s_nil)
    (s_cons (s_if (t_cmp op_gt loc_i2b (d_ix ix_both loc_ix (d_var 0) d_int (fun _ _ => rfl)) d_int (nomark _)) (s_cons (s_set 4 (d_bin op_mod loc_mod (d_callTy c_intT (loc_one loc_intT) (by rfl) B.int boot_int (a_cons (d_ix ix_both loc_ix (d_var 0) d_int (fun _ _ => rfl)) a_nil)) (d_var 1)) sc__law_take.nd)
    (s_cons (s_setIx 0 (d_bin op_fdivW loc_fdiv (d_callTy c_intT (loc_one loc_intT) (by rfl) B.int boot_int (a_cons (d_ix ix_both loc_ix (d_var 0) d_int (fun _ _ => rfl)) a_nil)) (d_var 1)) d_int)
    (s_one (s_ret (d_var 4))))) s_nil)
    (s_cons (s_set 5 (d_bin op_mod loc_mod (d_callTy c_intT (loc_one loc_intT) (by rfl) B.int boot_int (a_cons (d_bin op_mulAll loc_mul (d_bin op_addAll loc_add (d_ix ix_both loc_ix (d_var 0) d_int (fun _ _ => rfl)) d_int) d_int) a_nil)) d_int) sc__law_take.nd)
    (s_cons (s_set 6 (d_bin op_mod loc_mod (d_callTy c_intT (loc_one loc_intT) (by rfl) B.int boot_int (a_cons (d_bin op_mulAll loc_mul (d_bin op_mod loc_mod (d_callTy c_intT (loc_one loc_intT) (by rfl) B.int boot_int (a_cons (d_bin op_mulAll loc_mul (d_var 5) (d_var 5)) a_nil)) d_int) d_int) a_nil)) d_int) sc__law_take.nd)
    (s_one (s_ret (d_bin op_mod loc_mod (d_callTy c_intT (loc_one loc_intT) (by rfl) B.int boot_int (a_cons (d_bin op_fdivW loc_fdiv (d_var 6) d_int) a_nil)) (d_var 1))))))))

abbrev s__law_one : Stmt := topS 11
abbrev N__law_one : List Str := ["_law_bag_here", "_law_things"]
abbrev P__law_one : List Str := ["_law_bag_here", "_law_things"]
theorem sc__law_one : FnScope N__law_one P__law_one (defScope s__law_one) := ⟨rfl, rfl, rfl, by decide +kernel, rfl, by decide +kernel, by decide +kernel⟩
theorem ok__law_one {P : Program} {w : World} {K : Fg} {mg : Str → Option Value} {base : Heap} (B : Blt mg) (D : Def K mg "_law_one" s__law_one P__law_one) (O__law_take : Ok P w K mg base 1 "_law_take" P__law_take (spM K 1 F__law_take)) :
    Ok P w K mg base 2 "_law_one" P__law_one (spM K 1 F__law_one) :=
  Ok.mut (N := N__law_one) D sc__law_one rfl (by decide) fun f cdv A outer s H E hA hr =>
    have hu := hu64 hr
    (s_one (s_ret (d_ix ix_both loc_ix (d_var 1) (e_M 0 O__law_take hA (hr.mono (by decide)) (a_cons (d_callB c_len (loc_one loc_len) (by rfl) B.len PySem.boot_len (a_cons (d_var 1) a_nil)) a_nil)) (fun _ _ => rfl))))

abbrev s__law_rows : Stmt := topS 12
abbrev N__law_rows : List Str := ["_law_bag_here", "_law_many", "_law_floors", "_law_way", "_law_found", "_law_floor", "_law_row", "_law_one_here", "_law_count", "_law_any_one"]
abbrev P__law_rows : List Str := ["_law_bag_here", "_law_many", "_law_floors"]
theorem sc__law_rows : FnScope N__law_rows P__law_rows (defScope s__law_rows) := ⟨rfl, rfl, rfl, by decide +kernel, rfl, by decide +kernel, by decide +kernel⟩
theorem ok__law_rows {P : Program} {w : World} {K : Fg} {mg : Str → Option Value} {base : Heap} (B : Blt mg) (D : Def K mg "_law_rows" s__law_rows P__law_rows) (O__law_one : Ok P w K mg base 2 "_law_one" P__law_one (spM K 1 F__law_one)) (O__law_take : Ok P w K mg base 1 "_law_take" P__law_take (spM K 1 F__law_take)) :
    Ok P w K mg base 3 "_law_rows" P__law_rows (spM K 2 F__law_rows) :=
  Ok.mut (N := N__law_rows) D sc__law_rows rfl (by decide) fun f cdv A outer s H E hA hr =>
    have hu := hu64 hr
    (s_cons (s_par2 rfl (by decide) sc__law_rows.nd (a_cons (e_M 0 O__law_take hA (hr.mono (by decide)) (a_cons d_int a_nil)) (a_cons (d_lst a_nil) a_nil)))
    (s_cons (s_for PassesOwn.never rfl (i_rng1 (by rfl) B.range (a_cons (d_var 2) a_nil)) (g_name 5 sc__law_rows.nd) (s_cons (s_par2 rfl (by decide) sc__law_rows.nd (a_cons (d_lst a_nil) (a_cons d_int a_nil)))
    (s_cons (s_for PassesOwn.never rfl (i_rng1 (by rfl) B.range (a_cons (d_bin op_addAll loc_add (d_var 1) d_int) a_nil)) (g_name 8 sc__law_rows.nd) (s_cons (s_aug 7 ip_add (d_ite (t_cmp (op_eqQ hu) loc_eqQ (d_var 3) d_int (nomark _)) (e_M 0 O__law_one hA (hr.mono (by decide)) (a_cons (d_lst (a_cons d_int (a_cons d_int (a_cons d_int (a_cons d_int a_nil))))) a_nil)) d_int) sc__law_rows.nd)
    (s_cons (s_set 9 (e_M 0 O__law_one hA (hr.mono (by decide)) (a_cons (d_lst (a_cons d_int (a_cons d_int (a_cons d_int (a_cons (d_var 8) (a_cons (e_M 0 O__law_take hA (hr.mono (by decide)) (a_cons (d_bin op_addAll loc_add (d_var 1) d_int) a_nil)) (a_cons (d_un un_neg loc_neg d_int) (a_cons (d_ite (t_cmp (op_eqQ hu) loc_eqQ (d_var 3) d_int (nomark _)) (d_bin op_addAll loc_add (d_var 1) d_int) d_int) a_nil)))))))) a_nil)) sc__law_rows.nd)
    (s_one (s_expr (d_met (T := "list") 6 PySem.F.slot_list_append PySem.F.type_list_append mt_append locM_app (a_cons (d_ite (t_cmp (op_eqQ hu) loc_eqQ (d_var 3) d_int (nomark _)) (d_var 7) (d_ite (t_cmp (op_eqQ hu) loc_eqQ (d_var 3) d_int (nomark _)) d_int (d_var 9))) a_nil)))))))
    (s_one (s_expr (d_met (T := "list") 4 PySem.F.slot_list_append PySem.F.type_list_append mt_append locM_app (a_cons (d_callTy c_tuple (loc_one loc_tuple) (by rfl) B.tuple boot_tuple (a_cons (d_var 6) a_nil)) a_nil)))))))
    (s_one (s_ret (d_callTy c_tuple (loc_one loc_tuple) (by rfl) B.tuple boot_tuple (a_cons (d_var 4) a_nil))))))

abbrev s__law_some_sizes : Stmt := topS 13
abbrev N__law_some_sizes : List Str := ["_law_bag_here", "_law_many", "_law_floors", "_law_found", "_law_size", "_law_floor"]
abbrev P__law_some_sizes : List Str := ["_law_bag_here", "_law_many", "_law_floors"]
theorem sc__law_some_sizes : FnScope N__law_some_sizes P__law_some_sizes (defScope s__law_some_sizes) := ⟨rfl, rfl, rfl, by decide +kernel, rfl, by decide +kernel, by decide +kernel⟩
theorem ok__law_some_sizes {P : Program} {w : World} {K : Fg} {mg : Str → Option Value} {base : Heap} (B : Blt mg) (D : Def K mg "_law_some_sizes" s__law_some_sizes P__law_some_sizes) (O__law_take : Ok P w K mg base 1 "_law_take" P__law_take (spM K 1 F__law_take)) (O__law_one : Ok P w K mg base 2 "_law_one" P__law_one (spM K 1 F__law_one)) :
    Ok P w K mg base 3 "_law_some_sizes" P__law_some_sizes (spM K 2 F__law_some_sizes) :=
  Ok.mut (N := N__law_some_sizes) D sc__law_some_sizes rfl (by decide) fun f cdv A outer s H E hA hr =>
    have hu := hu64 hr
    (s_cons (s_par2 rfl (by decide) sc__law_some_sizes.nd (a_cons (d_lst a_nil) (a_cons d_int a_nil)))
    (s_cons (s_for PassesOwn.never rfl (i_rng1 (by rfl) B.range (a_cons (d_var 2) a_nil)) (g_name 5 sc__law_some_sizes.nd) (s_cons (s_set 4 (d_bin op_addAll loc_add (d_var 4) (e_M 0 O__law_one hA (hr.mono (by decide)) (a_cons (d_lst (a_cons d_int (a_cons d_int (a_cons d_int (a_cons d_int (a_cons (e_M 0 O__law_take hA (hr.mono (by decide)) (a_cons (d_bin op_addAll loc_add (d_var 1) d_int) a_nil)) (a_cons (d_ite (t_cmp (op_eqQ hu) loc_eqQ (e_M 0 O__law_take hA (hr.mono (by decide)) (a_cons d_int a_nil)) d_int (nomark _)) (d_un un_neg loc_neg d_int) d_int) a_nil))))))) a_nil))) sc__law_some_sizes.nd)
    (s_one (s_expr (d_met (T := "list") 3 PySem.F.slot_list_append PySem.F.type_list_append mt_append locM_app (a_cons (d_ite (t_cmp op_gt loc_i2b (e_M 0 O__law_take hA (hr.mono (by decide)) (a_cons d_int a_nil)) d_int (nomark _)) (d_callB (c_min2 rfl) loc_min2 (by rfl) B.min boot_min (a_cons (d_var 4) (a_cons (d_var 1) a_nil))) (d_var 4)) a_nil))))))
    (s_one (s_ret (d_callTy c_tuple (loc_one loc_tuple) (by rfl) B.tuple boot_tuple (a_cons (d_var 3) a_nil))))))

abbrev s__law_tightened : Stmt := topS 14
abbrev N__law_tightened : List Str := ["_law_rows_here", "_law_sizes", "_law_floors", "_law_many", "_law_words", "_law_row", "_law_size", "_law_word", "_law_ahead", "_law_count", "_law_one_here", "_law_floor", "_law_more", "_law_other"]
abbrev P__law_tightened : List Str := ["_law_rows_here", "_law_sizes"]
theorem sc__law_tightened : FnScope N__law_tightened P__law_tightened (defScope s__law_tightened) := ⟨rfl, rfl, rfl, by decide +kernel, rfl, by decide +kernel, by decide +kernel⟩
theorem ok__law_tightened {P : Program} {w : World} {K : Fg} {mg : Str → Option Value} {base : Heap} (B : Blt mg) (D : Def K mg "_law_tightened" s__law_tightened P__law_tightened)  :
    Ok P w K mg base 1 "_law_tightened" P__law_tightened (spP K 2 F__law_tightened) :=
  Ok.pure (N := N__law_tightened) D sc__law_tightened rfl (by decide) fun f cdv A outer s H E hA hr =>
    have hu := hu64 hr
    (s_cons (s_par3 rfl (by decide) (by decide) (by decide) sc__law_tightened.nd (a_cons (d_callB c_len (loc_one loc_len) (by rfl) B.len PySem.boot_len (a_cons (d_var 0) a_nil)) (a_cons (d_bin op_sub loc_i2i (d_callB c_len (loc_one loc_len) (by rfl) B.len PySem.boot_len (a_cons (d_ix ix_both loc_ix (d_var 0) d_int (fun _ _ => rfl)) a_nil)) d_int) (a_cons (d_lst a_nil) a_nil))))
    (s_cons (s_if (t_cmp (op_neQ hu) loc_neQ (d_lc (own := [(("_law_one_here" : Str), 10), (("_law_other" : Str), 13)]) rfl sc__law_tightened.nd (i_zip (by rfl) B.zip (a_cons (d_bin op_addAll loc_add (d_tup (a_cons d_int a_nil)) (d_var 1)) (a_cons (d_var 1) a_nil))) (blkOk_by (N := N__law_tightened) (sc := defScope s__law_tightened) (by decide +kernel)) (by decide) (fun _ _ _ _ _ => (g_tup rfl (pgs_cons (h_name 10 sc__law_tightened.nd) (pgs_cons (h_name 13 sc__law_tightened.nd) pgs_nil)) rfl)) (fun _ _ _ _ _ => (i_one (t_cmp op_lt loc_i2b (d_var 13) (d_var 10) (nomark _)))) (fun _ _ _ _ _ => d_int)) (d_lst a_nil) (nomark _)) (s_one (s_ret d_non)) s_nil)
    (s_cons (s_for PassesOwn.never rfl (i_zip (by rfl) B.zip (a_cons (d_var 0) (a_cons (d_var 1) a_nil))) (g_tup rfl (pgs_cons (h_name 5 sc__law_tightened.nd) (pgs_cons (h_name 6 sc__law_tightened.nd) pgs_nil)) rfl) (s_cons (s_par2 rfl (by decide) sc__law_tightened.nd (a_cons (d_lst a_nil) (a_cons d_int a_nil)))
    (s_cons (s_for PassesOwn.never rfl (i_enum (by rfl) B.enumerate (a_cons (d_var 5) a_nil)) (g_tup rfl (pgs_cons (h_name 9 sc__law_tightened.nd) (pgs_cons (h_name 10 sc__law_tightened.nd) pgs_nil)) rfl) (s_cons (s_set 8 (d_callB (c_max3 rfl) loc_three (by rfl) B.max boot_max (a_cons (d_var 8) (a_cons (d_var 10) (a_cons (d_bin op_addAll loc_add (d_bin op_sub loc_i2i (d_var 6) (d_var 3)) (d_var 9)) a_nil)))) sc__law_tightened.nd)
    (s_one (s_expr (d_met (T := "list") 7 PySem.F.slot_list_append PySem.F.type_list_append mt_append locM_app (a_cons (d_var 8) a_nil))))))
    (s_cons (s_for PassesOwn.never rfl (i_rng3 (by rfl) B.range (a_cons (d_bin op_sub loc_i2i (d_var 3) d_int) (a_cons (d_un un_neg loc_neg d_int) (a_cons (d_un un_neg loc_neg d_int) a_nil)))) (g_name 9 sc__law_tightened.nd) (s_one (s_setIx 7 (d_callB (c_max2 rfl) loc_max2 (by rfl) B.max boot_max (a_cons (d_ix ix_both loc_ix (d_var 7) (d_var 9) (fun _ _ => rfl)) (a_cons (d_bin op_sub loc_i2i (d_ix ix_both loc_ix (d_var 7) (d_bin op_addAll loc_add (d_var 9) d_int) (fun _ _ => rfl)) d_int) a_nil))) (d_var 9))))
    (s_one (s_expr (d_met (T := "list") 4 PySem.F.slot_list_append PySem.F.type_list_append mt_append locM_app (a_cons (d_var 7) a_nil))))))))
    (s_cons (s_for PassesOwn.never rfl (i_rng2 (by rfl) B.range (a_cons d_int (a_cons (d_var 2) a_nil))) (g_name 11 sc__law_tightened.nd) (s_one (s_setIx 4 (d_lc (own := [(("_law_one_here" : Str), 10), (("_law_other" : Str), 13)]) rfl sc__law_tightened.nd (i_zip (by rfl) B.zip (a_cons (d_ix ix_both loc_ix (d_var 4) (d_var 11) (fun _ _ => rfl)) (a_cons (d_ix ix_both loc_ix (d_var 4) (d_bin op_sub loc_i2i (d_var 11) d_int) (fun _ _ => rfl)) a_nil))) (blkOk_by (N := N__law_tightened) (sc := defScope s__law_tightened) (by decide +kernel)) (by decide) (fun _ _ _ _ _ => (g_tup rfl (pgs_cons (h_name 10 sc__law_tightened.nd) (pgs_cons (h_name 13 sc__law_tightened.nd) pgs_nil)) rfl)) (fun _ _ _ _ _ => i_yes) (fun _ _ _ _ _ => (d_callB (c_max2 rfl) loc_max2 (by rfl) B.max boot_max (a_cons (d_var 10) (a_cons (d_var 13) a_nil))))) (d_var 11))))
    (s_cons (s_for PassesOwn.never rfl (i_rng3 (by rfl) B.range (a_cons (d_bin op_sub loc_i2i (d_var 2) d_int) (a_cons (d_un un_neg loc_neg d_int) (a_cons (d_un un_neg loc_neg d_int) a_nil)))) (g_name 11 sc__law_tightened.nd) (s_cons (s_set 12 (d_bin op_sub loc_i2i (d_ix ix_both loc_ix (d_var 1) (d_bin op_addAll loc_add (d_var 11) d_int) (fun _ _ => rfl)) (d_ix ix_both loc_ix (d_var 1) (d_var 11) (fun _ _ => rfl))) sc__law_tightened.nd)
    (s_one (s_setIx 4 (d_lc (own := [(("_law_one_here" : Str), 10), (("_law_other" : Str), 13)]) rfl sc__law_tightened.nd (i_zip (by rfl) B.zip (a_cons (d_ix ix_both loc_ix (d_var 4) (d_var 11) (fun _ _ => rfl)) (a_cons (d_ix ix_both loc_ix (d_var 4) (d_bin op_addAll loc_add (d_var 11) d_int) (fun _ _ => rfl)) a_nil))) (blkOk_by (N := N__law_tightened) (sc := defScope s__law_tightened) (by decide +kernel)) (by decide) (fun _ _ _ _ _ => (g_tup rfl (pgs_cons (h_name 10 sc__law_tightened.nd) (pgs_cons (h_name 13 sc__law_tightened.nd) pgs_nil)) rfl)) (fun _ _ _ _ _ => i_yes) (fun _ _ _ _ _ => (d_callB (c_max2 rfl) loc_max2 (by rfl) B.max boot_max (a_cons (d_var 10) (a_cons (d_bin op_sub loc_i2i (d_var 13) (d_var 12)) a_nil))))) (d_var 11)))))
    (s_cons (s_for PassesOwn.never rfl (i_zip (by rfl) B.zip (a_cons (d_var 4) (a_cons (d_var 1) a_nil))) (g_tup rfl (pgs_cons (h_name 7 sc__law_tightened.nd) (pgs_cons (h_name 6 sc__law_tightened.nd) pgs_nil)) rfl) (s_one (s_if (t_cmp (op_neQ hu) loc_neQ (d_lc (own := [(("_law_count" : Str), 9), (("_law_one_here" : Str), 10)]) rfl sc__law_tightened.nd (i_enum (by rfl) B.enumerate (a_cons (d_var 7) a_nil)) (blkOk_by (N := N__law_tightened) (sc := defScope s__law_tightened) (by decide +kernel)) (by decide) (fun _ _ _ _ _ => (g_tup rfl (pgs_cons (h_name 9 sc__law_tightened.nd) (pgs_cons (h_name 10 sc__law_tightened.nd) pgs_nil)) rfl)) (fun _ _ _ _ _ => (i_one (t_cmp op_gt loc_i2b (d_var 10) (d_callB (c_min2 rfl) loc_min2 (by rfl) B.min boot_min (a_cons (d_var 9) (a_cons (d_var 6) a_nil))) (nomark _)))) (fun _ _ _ _ _ => d_int)) (d_lst a_nil) (nomark _)) (s_one (s_ret d_non)) s_nil)))
    (s_one (s_ret (d_callTy c_tuple (loc_one loc_tuple) (by rfl) B.tuple boot_tuple (a_cons (d_lc (own := [(("_law_word" : Str), 7)]) rfl sc__law_tightened.nd (i_seq (d_var 4)) (blkOk_by (N := N__law_tightened) (sc := defScope s__law_tightened) (by decide +kernel)) (by decide) (fun _ _ _ _ _ => (g_name 7 sc__law_tightened.nd)) (fun _ _ _ _ _ => i_yes) (fun _ _ _ _ _ => (d_callTy c_tuple (loc_one loc_tuple) (by rfl) B.tuple boot_tuple (a_cons (d_var 7) a_nil)))) a_nil))))))))))

abbrev s__law_alike : Stmt := topS 15
abbrev N__law_alike : List Str := ["_law_found", "_law_due"]
abbrev P__law_alike : List Str := ["_law_found", "_law_due"]
theorem sc__law_alike : FnScope N__law_alike P__law_alike (defScope s__law_alike) := ⟨rfl, rfl, rfl, by decide +kernel, rfl, by decide +kernel, by decide +kernel⟩
theorem ok__law_alike {P : Program} {w : World} {K : Fg} {mg : Str → Option Value} {base : Heap} (B : Blt mg) (D : Def K mg "_law_alike" s__law_alike P__law_alike)  :
    Ok P w K mg base 1 "_law_alike" P__law_alike (spP K 2 F__law_alike) :=
  Ok.pure (N := N__law_alike) D sc__law_alike rfl (by decide) fun f cdv A outer s H E hA hr =>
    have hu := hu64 hr
    (s_one (s_ret (d_and (d_cmp (op_eqQ hu) loc_eqQ (d_var 0) (d_var 1) (nomark _)) (d_one (d_cmp (op_eqQ hu) loc_eqQ (d_callB (c_repr hA hu) (loc_one loc_repr) (by rfl) B.repr boot_repr (a_cons (d_var 0) a_nil)) (d_callB (c_repr hA hu) (loc_one loc_repr) (by rfl) B.repr boot_repr (a_cons (d_var 1) a_nil)) (nomark _))))))

abbrev s__law_is_told : Stmt := topS 16
abbrev N__law_is_told : List Str := ["_law_rows_here", "_law_sizes", "_law_due", "_law_shown", "_law_again"]
abbrev P__law_is_told : List Str := ["_law_rows_here", "_law_sizes"]
theorem sc__law_is_told : FnScope N__law_is_told P__law_is_told (defScope s__law_is_told) := ⟨rfl, rfl, rfl, by decide +kernel, rfl, by decide +kernel, by decide +kernel⟩
theorem ok__law_is_told {P : Program} {w : World} {K : Fg} {mg : Str → Option Value} {base : Heap} (B : Blt mg) (D : Def K mg "_law_is_told" s__law_is_told P__law_is_told) (O__law_alike : Ok P w K mg base 1 "_law_alike" P__law_alike (spP K 2 F__law_alike)) (O_tightened : Ok P w K mg base 3 "tightened" P_tightened (spP K 2 F_tightened)) (O__law_tightened : Ok P w K mg base 1 "_law_tightened" P__law_tightened (spP K 2 F__law_tightened)) :
    Ok P w K mg base 4 "_law_is_told" P__law_is_told (spP K 2 F__law_is_told) :=
  Ok.pure (N := N__law_is_told) D sc__law_is_told rfl (by decide) fun f cdv A outer s H E hA hr =>
    have hu := hu64 hr
    (s_cons (s_par2 rfl (by decide) sc__law_is_told.nd (a_cons (e_P O__law_tightened hA (hr.mono (by decide)) (a_cons (d_var 0) (a_cons (d_var 1) a_nil))) (a_cons (d_callB (c_repr hA hu) (loc_one loc_repr) (by rfl) B.repr boot_repr (a_cons (d_lst (a_cons (d_var 0) (a_cons (d_var 1) a_nil))) a_nil)) a_nil)))
    (s_cons (s_for PassesOwn.never rfl (i_rng1 (by rfl) B.range (a_cons d_int a_nil)) (g_name 4 sc__law_is_told.nd) (s_one (s_if ((t_or (t_not (t_val (e_P O__law_alike hA (hr.mono (by decide)) (a_cons (e_P O_tightened hA (hr.mono (by decide)) (a_cons (d_var 0) (a_cons (d_var 1) a_nil))) (a_cons (d_var 2) a_nil))))) (t_or1 (t_cmp (op_neQ hu) loc_neQ (d_callB (c_repr hA hu) (loc_one loc_repr) (by rfl) B.repr boot_repr (a_cons (d_lst (a_cons (d_var 0) (a_cons (d_var 1) a_nil))) a_nil)) (d_var 3) (nomark _))))).pt (s_one (s_ret d_bl)) s_nil)))
    (s_one (s_ret (d_or (d_cmp op_isN loc_isN (d_var 2) d_non (nomark _)) (d_one (e_P O__law_alike hA (hr.mono (by decide)) (a_cons (e_P O_tightened hA (hr.mono (by decide)) (a_cons (d_var 2) (a_cons (d_var 1) a_nil))) (a_cons (d_var 2) a_nil)))))))))

abbrev s__law_mixed : Stmt := topS 17
abbrev N__law_mixed : List Str := ["_law_bag_here", "_law_things", "_law_found", "_law_thing"]
abbrev P__law_mixed : List Str := ["_law_bag_here", "_law_things"]
theorem sc__law_mixed : FnScope N__law_mixed P__law_mixed (defScope s__law_mixed) := ⟨rfl, rfl, rfl, by decide +kernel, rfl, by decide +kernel, by decide +kernel⟩
theorem ok__law_mixed {P : Program} {w : World} {K : Fg} {mg : Str → Option Value} {base : Heap} (B : Blt mg) (D : Def K mg "_law_mixed" s__law_mixed P__law_mixed) (O__law_take : Ok P w K mg base 1 "_law_take" P__law_take (spM K 1 F__law_take)) :
    Ok P w K mg base 2 "_law_mixed" P__law_mixed (spM K 1 F__law_mixed) :=
  Ok.mut (N := N__law_mixed) D sc__law_mixed rfl (by decide) fun f cdv A outer s H E hA hr =>
    have hu := hu64 hr
    (s_cons (s_set 2 (d_lst a_nil) sc__law_mixed.nd)
    (s_cons (s_for PassesOwn.never rfl (i_seq (d_var 1)) (g_name 3 sc__law_mixed.nd) (s_one (s_expr (d_met (T := "list") 2 PySem.F.slot_list_insert PySem.F.type_list_insert mt_insert locM_ins (a_cons (e_M 0 O__law_take hA (hr.mono (by decide)) (a_cons (d_bin op_addAll loc_add (d_callB c_len (loc_one loc_len) (by rfl) B.len PySem.boot_len (a_cons (d_var 2) a_nil)) d_int) a_nil)) (a_cons (d_var 3) a_nil))))))
    (s_one (s_ret (d_var 2)))))

abbrev s__law_tight_known : Stmt := topS 18
abbrev N__law_tight_known : List Str := ["_law_bag_here", "_law_house_here", "_law_order", "_law_sizes", "_law_size", "_law_rooms", "_law_turn", "_law_rows_here", "_law_drawn", "_law_words", "_law_count", "_law_way"]
abbrev P__law_tight_known : List Str := ["_law_bag_here", "_law_house_here"]
theorem sc__law_tight_known : FnScope N__law_tight_known P__law_tight_known (defScope s__law_tight_known) := ⟨rfl, rfl, rfl, by decide +kernel, rfl, by decide +kernel, by decide +kernel⟩
theorem ok__law_tight_known {P : Program} {w : World} {K : Fg} {mg : Str → Option Value} {base : Heap} (B : Blt mg) (D : Def K mg "_law_tight_known" s__law_tight_known P__law_tight_known) (O__law_tightened : Ok P w K mg base 1 "_law_tightened" P__law_tightened (spP K 2 F__law_tightened)) (O__law_take : Ok P w K mg base 1 "_law_take" P__law_take (spM K 1 F__law_take)) (O__law_one : Ok P w K mg base 2 "_law_one" P__law_one (spM K 1 F__law_one)) (O__law_mixed : Ok P w K mg base 2 "_law_mixed" P__law_mixed (spM K 1 F__law_mixed)) :
    Ok P w K mg base 3 "_law_tight_known" P__law_tight_known (spM K 1 F__law_tight_known) :=
  Ok.mut (N := N__law_tight_known) D sc__law_tight_known rfl (by decide) fun f cdv A outer s H E hA hr =>
    have hu := hu64 hr
    (s_cons (s_par rfl (a_cons (d_callTy c_tuple (loc_one loc_tuple) (by rfl) B.tuple boot_tuple (a_cons (e_M 0 O__law_mixed hA (hr.mono (by decide)) (a_cons (d_lstR1 (by rfl) B.list (by rfl) B.range rfl (d_ix ix_both loc_ix (d_var 1) d_int (fun _ _ => rfl))) a_nil)) a_nil)) (a_cons (d_lst a_nil) (a_cons d_int a_nil))) (pgs_cons (h_name 2 sc__law_tight_known.nd) (pgs_cons (h_name 3 sc__law_tight_known.nd) (pgs_cons (h_name 4 sc__law_tight_known.nd) pgs_nil))) rfl)
    (s_cons (s_for PassesOwn.never rfl (i_seq (d_ix ix_both loc_ix (d_var 1) d_int (fun _ _ => rfl))) (g_name 5 sc__law_tight_known.nd) (s_cons (s_set 4 (d_callB (c_min2 rfl) loc_min2 (by rfl) B.min boot_min (a_cons (d_ix ix_both loc_ix (d_var 1) d_int (fun _ _ => rfl)) (a_cons (d_bin op_addAll loc_add (d_var 4) (e_M 0 O__law_one hA (hr.mono (by decide)) (a_cons (d_lst (a_cons (d_var 5) (a_cons (d_var 5) (a_cons (e_M 0 O__law_take hA (hr.mono (by decide)) (a_cons (d_bin op_addAll loc_add (d_var 5) d_int) a_nil)) a_nil)))) a_nil))) a_nil))) sc__law_tight_known.nd)
    (s_one (s_expr (d_met (T := "list") 3 PySem.F.slot_list_append PySem.F.type_list_append mt_append locM_app (a_cons (d_var 4) a_nil))))))
    (s_cons (s_for PassesOwn.never rfl (i_rng1 (by rfl) B.range (a_cons d_int a_nil)) (g_name 6 sc__law_tight_known.nd) (s_cons (s_set 7 (d_lst a_nil) sc__law_tight_known.nd)
    (s_cons (s_for PassesOwn.never rfl (i_seq (d_var 3)) (g_name 4 sc__law_tight_known.nd) (s_cons (s_setLc 8 (own := [(("_law_count" : Str), 10)]) rfl sc__law_tight_known.nd (sw_true rfl rfl rfl (by decide +kernel)) (i_rng1 (by rfl) B.range (a_cons (d_bin op_addAll loc_add (d_ix ix_both loc_ix (d_var 1) d_int (fun _ _ => rfl)) d_int) a_nil)) (blkOk_by (N := N__law_tight_known) (sc := defScope s__law_tight_known) (by decide +kernel)) (by decide) (fun _ _ _ _ _ => (g_name 10 sc__law_tight_known.nd)) (fun _ _ _ _ _ => i_yes) (fun _ _ _ _ _ => (d_tup (a_cons (e_M 0 O__law_take hA (hr.mono (by decide)) (a_cons d_int a_nil)) (a_cons (d_var 10) a_nil)))))
    (s_one (s_expr (d_met (T := "list") 7 PySem.F.slot_list_append PySem.F.type_list_append mt_append locM_app (a_cons (d_callTy c_tuple (loc_one loc_tuple) (by rfl) B.tuple boot_tuple (a_cons (d_lc (own := [(("_law_way" : Str), 11), (("_law_count" : Str), 10)]) rfl sc__law_tight_known.nd (i_seq (d_var 8)) (blkOk_by (N := N__law_tight_known) (sc := defScope s__law_tight_known) (by decide +kernel)) (by decide) (fun _ _ _ _ _ => (g_tup rfl (pgs_cons (h_name 11 sc__law_tight_known.nd) (pgs_cons (h_name 10 sc__law_tight_known.nd) pgs_nil)) rfl)) (fun _ _ _ _ _ => i_yes) (fun _ _ _ _ _ => (d_ite (t_cmp (op_eqQ hu) loc_eqQ (d_var 11) d_int (nomark _)) (d_callB (c_min3 rfl) loc_three (by rfl) B.min boot_min (a_cons (d_var 10) (a_cons (d_var 4) (a_cons (e_M 0 O__law_take hA (hr.mono (by decide)) (a_cons (d_bin op_addAll loc_add (d_var 10) d_int) a_nil)) a_nil)))) d_int))) a_nil)) a_nil))))))
    (s_cons (s_set 9 (e_P O__law_tightened hA (hr.mono (by decide)) (a_cons (d_callTy c_tuple (loc_one loc_tuple) (by rfl) B.tuple boot_tuple (a_cons (d_var 7) a_nil)) (a_cons (d_callTy c_tuple (loc_one loc_tuple) (by rfl) B.tuple boot_tuple (a_cons (d_var 3) a_nil)) a_nil))) sc__law_tight_known.nd)
    (s_one (s_if (t_cmp op_notN loc_notN (d_var 9) d_non (nomark _)) (s_one (s_ret (d_tup (a_cons (d_var 2) (a_cons (d_var 9) a_nil))))) s_nil))))))
    (s_one (s_ret (d_tup (a_cons (d_var 2) (a_cons (e_P O__law_tightened hA (hr.mono (by decide)) (a_cons (d_bin op_mulAll loc_mul (d_tup (a_cons (d_bin op_mulAll loc_mul (d_tup (a_cons d_int a_nil)) (d_bin op_addAll loc_add (d_ix ix_both loc_ix (d_var 1) d_int (fun _ _ => rfl)) d_int)) a_nil)) (d_callB c_len (loc_one loc_len) (by rfl) B.len PySem.boot_len (a_cons (d_var 3) a_nil))) (a_cons (d_callTy c_tuple (loc_one loc_tuple) (by rfl) B.tuple boot_tuple (a_cons (d_var 3) a_nil)) a_nil))) a_nil))))))))

abbrev s__law_house : Stmt := topS 19
abbrev N__law_house : List Str := ["_law_bag_here", "_law_things", "_law_floors", "_law_rooms", "_law_many", "_law_found", "_law_left", "_law_floor"]
abbrev P__law_house : List Str := ["_law_bag_here", "_law_things", "_law_floors", "_law_rooms"]
theorem sc__law_house : FnScope N__law_house P__law_house (defScope s__law_house) := ⟨rfl, rfl, rfl, by decide +kernel, rfl, by decide +kernel, by decide +kernel⟩
theorem ok__law_house {P : Program} {w : World} {K : Fg} {mg : Str → Option Value} {base : Heap} (B : Blt mg) (D : Def K mg "_law_house" s__law_house P__law_house) (O__law_one : Ok P w K mg base 2 "_law_one" P__law_one (spM K 1 F__law_one)) (O__law_take : Ok P w K mg base 1 "_law_take" P__law_take (spM K 1 F__law_take)) :
    Ok P w K mg base 3 "_law_house" P__law_house (spM K 3 F__law_house) :=
  Ok.mut (N := N__law_house) D sc__law_house rfl (by decide) fun f cdv A outer s H E hA hr =>
    have hu := hu64 hr
    (s_cons (s_set 4 (e_M 0 O__law_one hA (hr.mono (by decide)) (a_cons (d_lst (a_cons (d_var 1) (a_cons (d_var 1) (a_cons d_int (a_cons d_int (a_cons d_int (a_cons d_int (a_cons (e_M 0 O__law_take hA (hr.mono (by decide)) (a_cons (d_bin op_addAll loc_add (d_var 1) d_int) a_nil)) a_nil)))))))) a_nil)) sc__law_house.nd)
    (s_cons (s_par2 rfl (by decide) sc__law_house.nd (a_cons (d_lst a_nil) (a_cons (d_var 3) a_nil)))
    (s_cons (s_for PassesOwn.never rfl (i_rng1 (by rfl) B.range (a_cons (e_M 0 O__law_one hA (hr.mono (by decide)) (a_cons (d_lst (a_cons (d_var 2) (a_cons d_int (a_cons (d_var 2) (a_cons d_int (a_cons (d_bin op_addAll loc_add d_int (e_M 0 O__law_take hA (hr.mono (by decide)) (a_cons (d_var 2) a_nil))) a_nil)))))) a_nil)) a_nil)) (g_name 7 sc__law_house.nd) (s_one (s_if ((t_and (t_cmp op_gt loc_i2b (d_var 6) d_int (nomark _)) (t_and1 (t_cmp op_lt loc_i2b (d_var 7) (d_var 2) (nomark _))))).pt (s_cons (s_expr (d_met (T := "list") 5 PySem.F.slot_list_append PySem.F.type_list_append mt_append locM_app (a_cons (d_callB (c_min2 rfl) loc_min2 (by rfl) B.min boot_min (a_cons (d_var 6) (a_cons (e_M 0 O__law_one hA (hr.mono (by decide)) (a_cons (d_lst (a_cons d_int (a_cons d_int (a_cons d_int (a_cons d_int (a_cons d_int (a_cons d_int (a_cons (d_bin op_addAll loc_add d_int (e_M 0 O__law_take hA (hr.mono (by decide)) (a_cons (d_var 3) a_nil))) a_nil)))))))) a_nil)) a_nil))) a_nil)))
    (s_one (s_aug 6 ip_sub (d_ix ix_both loc_ix (d_var 5) (d_un un_neg loc_neg d_int) (fun _ _ => rfl)) sc__law_house.nd))) s_nil)))
    (s_one (s_ret (d_tup (a_cons (d_callB (c_min2 rfl) loc_min2 (by rfl) B.min boot_min (a_cons (d_var 4) (a_cons (d_var 1) a_nil))) (a_cons (d_callTy c_tuple (loc_one loc_tuple) (by rfl) B.tuple boot_tuple (a_cons (d_var 5) a_nil)) a_nil))))))))

abbrev s__law_known_sizes : Stmt := topS 20
abbrev N__law_known_sizes : List Str := ["_law_known", "_law_word"]
abbrev P__law_known_sizes : List Str := ["_law_known"]
theorem sc__law_known_sizes : FnScope N__law_known_sizes P__law_known_sizes (defScope s__law_known_sizes) := ⟨rfl, rfl, rfl, by decide +kernel, rfl, by decide +kernel, by decide +kernel⟩
theorem ok__law_known_sizes {P : Program} {w : World} {K : Fg} {mg : Str → Option Value} {base : Heap} (B : Blt mg) (D : Def K mg "_law_known_sizes" s__law_known_sizes P__law_known_sizes)  :
    Ok P w K mg base 1 "_law_known_sizes" P__law_known_sizes (spP K 1 F__law_known_sizes) :=
  Ok.pure (N := N__law_known_sizes) D sc__law_known_sizes rfl (by decide) fun f cdv A outer s H E hA hr =>
    have hu := hu64 hr
    (s_one (s_ret (d_callTy c_tuple (loc_one loc_tuple) (by rfl) B.tuple boot_tuple (a_cons (d_lc (own := [(("_law_word" : Str), 1)]) rfl sc__law_known_sizes.nd (i_seq (d_ix ix_both loc_ix (d_var 0) d_int (fun _ _ => rfl))) (blkOk_by (N := N__law_known_sizes) (sc := defScope s__law_known_sizes) (by decide +kernel)) (by decide) (fun _ _ _ _ _ => (g_name 1 sc__law_known_sizes.nd)) (fun _ _ _ _ _ => i_yes) (fun _ _ _ _ _ => (d_ix ix_both loc_ix (d_var 1) (d_un un_neg loc_neg d_int) (fun _ _ => rfl)))) a_nil))))

abbrev s__law_is_nested : Stmt := topS 21
abbrev N__law_is_nested : List Str := ["_law_known", "_law_one_here", "_law_other", "_law_at"]
abbrev P__law_is_nested : List Str := ["_law_known"]
theorem sc__law_is_nested : FnScope N__law_is_nested P__law_is_nested (defScope s__law_is_nested) := ⟨rfl, rfl, rfl, by decide +kernel, rfl, by decide +kernel, by decide +kernel⟩
theorem ok__law_is_nested {P : Program} {w : World} {K : Fg} {mg : Str → Option Value} {base : Heap} (B : Blt mg) (D : Def K mg "_law_is_nested" s__law_is_nested P__law_is_nested)  :
    Ok P w K mg base 1 "_law_is_nested" P__law_is_nested (spP K 1 F__law_is_nested) :=
  Ok.pure (N := N__law_is_nested) D sc__law_is_nested rfl (by decide) fun f cdv A outer s H E hA hr =>
    have hu := hu64 hr
    (s_cons (s_for PassesOwn.never rfl (i_zip (by rfl) B.zip (a_cons (d_ix ix_both loc_ix (d_var 0) d_int (fun _ _ => rfl)) (a_cons (d_slice (d_ix ix_both loc_ix (d_var 0) d_int (fun _ _ => rfl)) (o_some d_int) o_none) a_nil))) (g_tup rfl (pgs_cons (h_name 1 sc__law_is_nested.nd) (pgs_cons (h_name 2 sc__law_is_nested.nd) pgs_nil)) rfl) (s_one (s_if (t_cmp (op_neQ hu) loc_neQ (d_lc (own := [(("_law_at" : Str), 3)]) rfl sc__law_is_nested.nd (i_rng2 (by rfl) B.range (a_cons d_int (a_cons (d_callB c_len (loc_one loc_len) (by rfl) B.len PySem.boot_len (a_cons (d_var 1) a_nil)) a_nil))) (blkOk_by (N := N__law_is_nested) (sc := defScope s__law_is_nested) (by decide +kernel)) (by decide) (fun _ _ _ _ _ => (g_name 3 sc__law_is_nested.nd)) (fun _ _ _ _ _ => (i_one ((t_and (t_cmp op_gt loc_i2b (d_ix ix_both loc_ix (d_var 1) (d_var 3) (fun _ _ => rfl)) (d_ix ix_both loc_ix (d_var 1) (d_bin op_sub loc_i2i (d_var 3) d_int) (fun _ _ => rfl)) (nomark _)) (t_and1 (t_cmp (op_eqQ hu) loc_eqQ (d_ix ix_both loc_ix (d_var 2) (d_var 3) (fun _ _ => rfl)) (d_ix ix_both loc_ix (d_var 2) (d_bin op_sub loc_i2i (d_var 3) d_int) (fun _ _ => rfl)) (nomark _))))).pt)) (fun _ _ _ _ _ => d_int)) (d_lst a_nil) (nomark _)) (s_one (s_ret d_bl)) s_nil)))
    (s_one (s_ret d_bl)))

abbrev s__law_bag : Stmt := topS 9
abbrev N__law_bag : List Str := ["_law_script", "_law_cell"]
abbrev P__law_bag : List Str := ["_law_script"]
theorem sc__law_bag : FnScope N__law_bag P__law_bag (defScope s__law_bag) := ⟨rfl, rfl, rfl, by decide +kernel, rfl, by decide +kernel, by decide +kernel⟩
theorem ok__law_bag {P : Program} {w : World} {K : Fg} {mg : Str → Option Value} {base : Heap} (B : Blt mg) (D : Def K mg "_law_bag" s__law_bag P__law_bag) : Ok P w K mg base 1 "_law_bag" P__law_bag (spB K) := by
  obtain ⟨f, fd, F, h1, h2, h3⟩ := D.ex
  refine ⟨f, fd, FnG.body (N := N__law_bag) F sc__law_bag (fun vs H Q E h => ?_) (fun cdv A outer s H vs Q E _ hA hr h => ?_), h1, h2, h3⟩
  · obtain ⟨a, ns, rfl, _⟩ := h; rfl
  · obtain ⟨a, ns, rfl, hS, ht, k⟩ := h
    refine ⟨_, pss_one (ps_ret (pe_lst (pa_cons pe_int (pa_cons pe_int (pa_cons pe_int (pa_cons ((pe_lc (own := [(("_law_cell" : Str), 1)]) rfl sc__law_bag.nd (i_scr (tl := K.T) (ns := ns)) (blkOk_by (N := N__law_bag) (sc := defScope s__law_bag) (by decide +kernel)) (fun _ _ _ _ _ => g_name 1 sc__law_bag.nd) (fun _ _ _ _ _ => i_yes)
      (fun _ _ _ _ _ => d_callB c_abs (loc_one loc_abs) (by rfl) B.abs boot_abs (a_cons (d_var 1) a_nil))).imp fun _ _ _ h => lc_scr (ns := ns) (by decide) h) pa_nil)))))), ?_⟩
    exact bag_read rfl hS ht k
abbrev s_law : Stmt := topS 22
abbrev N_law : List Str := ["_law_script", "_law_bag_here", "_law_turn", "_law_floors", "_law_many", "_law_rows_here", "_law_sizes", "_law_known"]
abbrev P_law : List Str := ["_law_script"]
theorem sc_law : FnScope N_law P_law (defScope s_law) := ⟨rfl, rfl, rfl, by decide +kernel, rfl, by decide +kernel, by decide +kernel⟩
theorem rest_law {P : Program} {w : World} {K : Fg} {mg : Str → Option Value} {base : Heap} (B : Blt mg) (O__law_is_told : Ok P w K mg base 4 "_law_is_told" P__law_is_told (spP K 2 F__law_is_told)) (O__law_known_sizes : Ok P w K mg base 1 "_law_known_sizes" P__law_known_sizes (spP K 1 F__law_known_sizes)) (O__law_alike : Ok P w K mg base 1 "_law_alike" P__law_alike (spP K 2 F__law_alike)) (O_known_sizes : Ok P w K mg base 1 "known_sizes" P_known_sizes (spP K 1 F_known_sizes)) (O_is_nested : Ok P w K mg base 2 "is_nested" P_is_nested (spP K 1 F_is_nested)) (O__law_is_nested : Ok P w K mg base 1 "_law_is_nested" P__law_is_nested (spP K 1 F__law_is_nested)) (O__law_tight_known : Ok P w K mg base 3 "_law_tight_known" P__law_tight_known (spM K 1 F__law_tight_known)) (O__law_house : Ok P w K mg base 3 "_law_house" P__law_house (spM K 3 F__law_house)) (O__law_one : Ok P w K mg base 2 "_law_one" P__law_one (spM K 1 F__law_one)) (O__law_rows : Ok P w K mg base 3 "_law_rows" P__law_rows (spM K 2 F__law_rows)) (O__law_some_sizes : Ok P w K mg base 3 "_law_some_sizes" P__law_some_sizes (spM K 2 F__law_some_sizes)) (O__law_take : Ok P w K mg base 1 "_law_take" P__law_take (spM K 1 F__law_take)) (f : Addr) (cdv : Value) (A : Around) (outer : List PySem.Env) (s : Shared) (H : Hp) (E : XK) (hA : (A.deeper (envOfC "law" (defScope s_law) s.heap.objs.size f cdv)).guards = some []) (hr : Room 4 (A.deeper (envOfC "law" (defScope s_law) s.heap.objs.size f cdv))) :
    PSs (cxOf CX0 P w K mg base N_law "law" (defScope s_law) f cdv A outer s H E).nox (defBody s_law).tail (RS K g_law) :=
    have hu := hu64 hr
    (s_cons (s_for PassesOwn.never rfl (i_rng1 (by rfl) B.range (a_cons d_int a_nil)) (g_name 2 sc_law.nd) (s_cons (s_par2 rfl (by decide) sc_law.nd (a_cons (d_bin op_addAll loc_add d_int (e_M 1 O__law_take hA (hr.mono (by decide)) (a_cons d_int a_nil))) (a_cons (e_M 1 O__law_one hA (hr.mono (by decide)) (a_cons (d_lst (a_cons d_int (a_cons d_int (a_cons d_int (a_cons d_int (a_cons d_int (a_cons d_int (a_cons d_int a_nil)))))))) a_nil)) a_nil)))
    (s_cons (s_par2 rfl (by decide) sc_law.nd (a_cons (e_M 1 O__law_rows hA (hr.mono (by decide)) (a_cons (d_var 4) (a_cons (d_var 3) a_nil))) (a_cons (e_M 1 O__law_some_sizes hA (hr.mono (by decide)) (a_cons (d_var 4) (a_cons (d_var 3) a_nil))) a_nil)))
    (s_cons (s_if (t_not (t_val (e_P O__law_is_told hA (hr.mono (by decide)) (a_cons (d_var 5) (a_cons (d_var 6) a_nil))))) (s_one (s_ret d_bl)) s_nil)
    (s_cons (s_set 7 (e_M 1 O__law_tight_known hA (hr.mono (by decide)) (a_cons (e_M 1 O__law_house hA (hr.mono (by decide)) (a_cons (e_M 1 O__law_one hA (hr.mono (by decide)) (a_cons (d_lst (a_cons d_int (a_cons d_int (a_cons d_int a_nil)))) a_nil)) (a_cons d_int (a_cons d_int a_nil)))) a_nil)) sc_law.nd)
    (s_cons (s_if (t_not (t_val (e_P O__law_alike hA (hr.mono (by decide)) (a_cons (d_lst (a_cons (e_P O_known_sizes hA (hr.mono (by decide)) (a_cons (d_var 7) a_nil)) (a_cons (e_P O_is_nested hA (hr.mono (by decide)) (a_cons (d_var 7) a_nil)) a_nil))) (a_cons (d_lst (a_cons (e_P O__law_known_sizes hA (hr.mono (by decide)) (a_cons (d_var 7) a_nil)) (a_cons (e_P O__law_is_nested hA (hr.mono (by decide)) (a_cons (d_var 7) a_nil)) a_nil))) a_nil))))) (s_one (s_ret d_bl)) s_nil)
    (s_one (s_if (t_not (t_val (e_P O__law_is_told hA (hr.mono (by decide)) (a_cons (d_ix ix_both loc_ix (d_var 7) d_int (fun _ _ => rfl)) (a_cons (e_P O__law_known_sizes hA (hr.mono (by decide)) (a_cons (d_var 7) a_nil)) a_nil))))) (s_one (s_ret d_bl)) s_nil))))))))
    (s_one (s_ret d_bl)))
theorem ok_law {P : Program} {w : World} {K : Fg} {mg : Str → Option Value} {base : Heap} {f : Addr} {fd : FuncData} (B : Blt mg) (F : Fun K "law" "law" s_law f fd) (O__law_bag : Ok P w K mg base 1 "_law_bag" P__law_bag (spB K)) (O__law_is_told : Ok P w K mg base 4 "_law_is_told" P__law_is_told (spP K 2 F__law_is_told)) (O__law_known_sizes : Ok P w K mg base 1 "_law_known_sizes" P__law_known_sizes (spP K 1 F__law_known_sizes)) (O__law_alike : Ok P w K mg base 1 "_law_alike" P__law_alike (spP K 2 F__law_alike)) (O_known_sizes : Ok P w K mg base 1 "known_sizes" P_known_sizes (spP K 1 F_known_sizes)) (O_is_nested : Ok P w K mg base 2 "is_nested" P_is_nested (spP K 1 F_is_nested)) (O__law_is_nested : Ok P w K mg base 1 "_law_is_nested" P__law_is_nested (spP K 1 F__law_is_nested)) (O__law_tight_known : Ok P w K mg base 3 "_law_tight_known" P__law_tight_known (spM K 1 F__law_tight_known)) (O__law_house : Ok P w K mg base 3 "_law_house" P__law_house (spM K 3 F__law_house)) (O__law_one : Ok P w K mg base 2 "_law_one" P__law_one (spM K 1 F__law_one)) (O__law_rows : Ok P w K mg base 3 "_law_rows" P__law_rows (spM K 2 F__law_rows)) (O__law_some_sizes : Ok P w K mg base 3 "_law_some_sizes" P__law_some_sizes (spM K 2 F__law_some_sizes)) (O__law_take : Ok P w K mg base 1 "_law_take" P__law_take (spM K 1 F__law_take))
    (hg : ∀ ns : List Int, ns.length ≤ 63 → ∃ ρ', g_law (Cell.no :: Cell.op (bagD ns) :: List.replicate (N_law.length - 2) .no) = some (.rt (.cl (.bool true)) ρ')) : FnG P w K mg base CX0 5 f fd P_law (spL K) := by
  obtain ⟨fb, fdb, Gb, b1, b2, b3⟩ := O__law_bag
  refine FnG.body (N := N_law) F sc_law (fun vs H Q E h => ?_) (fun cdv A outer s H vs Q E _ hA hr h => ?_)
  · obtain ⟨a, ns, rfl, _⟩ := h; rfl
  · obtain ⟨a, ns, rfl, hS, hl, ht, q⟩ := h
    refine ⟨_, pss_cons (ps_set (i := 1) sc_law.nd rfl (Or.inl rfl) (g_call Gb hA (hr.mono (by decide)) rfl b1 b2 b3 pass0 (pa_cons (pe_var (i := 0) rfl (by first | exact Or.inl rfl | exact Or.inr (Or.inl rfl))) pa_nil))) (rest_law B O__law_is_told O__law_known_sizes O__law_alike O_known_sizes O_is_nested O__law_is_nested O__law_tight_known O__law_house O__law_one O__law_rows O__law_some_sizes O__law_take f cdv A outer s H E hA hr).nox, ?_⟩
    exact law_read (by decide) hS ht q (hg ns hl)
structure Tops (K : Fg) (mg : Str → Option Value) : Prop where
  blt : Blt mg
  D_known_sizes : Def K mg "known_sizes" s_known_sizes P_known_sizes
  D_goes_up_with : Def K mg "goes_up_with" s_goes_up_with P_goes_up_with
  D_is_nested : Def K mg "is_nested" s_is_nested P_is_nested
  D_greater_ones : Def K mg "greater_ones" s_greater_ones P_greater_ones
  D_along_floors : Def K mg "along_floors" s_along_floors P_along_floors
  D_along_counts : Def K mg "along_counts" s_along_counts P_along_counts
  D_tightened : Def K mg "tightened" s_tightened P_tightened
  D__law_take : Def K mg "_law_take" s__law_take P__law_take
  D__law_one : Def K mg "_law_one" s__law_one P__law_one
  D__law_rows : Def K mg "_law_rows" s__law_rows P__law_rows
  D__law_some_sizes : Def K mg "_law_some_sizes" s__law_some_sizes P__law_some_sizes
  D__law_tightened : Def K mg "_law_tightened" s__law_tightened P__law_tightened
  D__law_alike : Def K mg "_law_alike" s__law_alike P__law_alike
  D__law_is_told : Def K mg "_law_is_told" s__law_is_told P__law_is_told
  D__law_mixed : Def K mg "_law_mixed" s__law_mixed P__law_mixed
  D__law_tight_known : Def K mg "_law_tight_known" s__law_tight_known P__law_tight_known
  D__law_house : Def K mg "_law_house" s__law_house P__law_house
  D__law_known_sizes : Def K mg "_law_known_sizes" s__law_known_sizes P__law_known_sizes
  D__law_is_nested : Def K mg "_law_is_nested" s__law_is_nested P__law_is_nested
  D__law_bag : Def K mg "_law_bag" s__law_bag P__law_bag
theorem whole {P : Program} {w : World} {K : Fg} {mg : Str → Option Value} {base : Heap} {f : Addr} {fd : FuncData} (T : Tops K mg) (F : Fun K "law" "law" s_law f fd)
    (hg : ∀ ns : List Int, ns.length ≤ 63 → ∃ ρ', g_law (Cell.no :: Cell.op (bagD ns) :: List.replicate (N_law.length - 2) .no) = some (.rt (.cl (.bool true)) ρ')) : FnG P w K mg base CX0 5 f fd P_law (spL K) := by
  have O_known_sizes := ok_known_sizes (P := P) (w := w) (base := base) T.blt T.D_known_sizes 
  have O_goes_up_with := ok_goes_up_with (P := P) (w := w) (base := base) T.blt T.D_goes_up_with 
  have O_is_nested := ok_is_nested (P := P) (w := w) (base := base) T.blt T.D_is_nested O_goes_up_with
  have O_greater_ones := ok_greater_ones (P := P) (w := w) (base := base) T.blt T.D_greater_ones 
  have O_along_floors := ok_along_floors (P := P) (w := w) (base := base) T.blt T.D_along_floors O_greater_ones
  have O_along_counts := ok_along_counts (P := P) (w := w) (base := base) T.blt T.D_along_counts O_greater_ones
  have O_tightened := ok_tightened (P := P) (w := w) (base := base) T.blt T.D_tightened O_along_floors O_along_counts
  have O__law_take := ok__law_take (P := P) (w := w) (base := base) T.blt T.D__law_take 
  have O__law_one := ok__law_one (P := P) (w := w) (base := base) T.blt T.D__law_one O__law_take
  have O__law_rows := ok__law_rows (P := P) (w := w) (base := base) T.blt T.D__law_rows O__law_one O__law_take
  have O__law_some_sizes := ok__law_some_sizes (P := P) (w := w) (base := base) T.blt T.D__law_some_sizes O__law_take O__law_one
  have O__law_tightened := ok__law_tightened (P := P) (w := w) (base := base) T.blt T.D__law_tightened 
  have O__law_alike := ok__law_alike (P := P) (w := w) (base := base) T.blt T.D__law_alike 
  have O__law_is_told := ok__law_is_told (P := P) (w := w) (base := base) T.blt T.D__law_is_told O__law_alike O_tightened O__law_tightened
  have O__law_mixed := ok__law_mixed (P := P) (w := w) (base := base) T.blt T.D__law_mixed O__law_take
  have O__law_tight_known := ok__law_tight_known (P := P) (w := w) (base := base) T.blt T.D__law_tight_known O__law_tightened O__law_take O__law_one O__law_mixed
  have O__law_house := ok__law_house (P := P) (w := w) (base := base) T.blt T.D__law_house O__law_one O__law_take
  have O__law_known_sizes := ok__law_known_sizes (P := P) (w := w) (base := base) T.blt T.D__law_known_sizes 
  have O__law_is_nested := ok__law_is_nested (P := P) (w := w) (base := base) T.blt T.D__law_is_nested 
  exact ok_law T.blt F (ok__law_bag T.blt T.D__law_bag) O__law_is_told O__law_known_sizes O__law_alike O_known_sizes O_is_nested O__law_is_nested O__law_tight_known O__law_house O__law_one O__law_rows O__law_some_sizes O__law_take hg
end K11
namespace K11
open PySem PySem.Spec PyProof.Rows L2 DL
theorem def_of {K : PySem.W.Frag} {T : TL} {h : Heap} {mg : Str → Option Value} (X : K.In h) (G : h.Ns mainGlobals mg) {x : Str} {st : Stmt} {ps : List Str} {f : Addr} {od an : Option Addr} {sl : Array (Option Value)} {oc kV dc pm cd ct : Value}
    (a : PySem.W.nsIn K mainGlobals x = some (some (.ref f))) (l : K.lookup f = some ⟨oc, od, .func (PySem.W.fnOf x x (defArgs st) (defBody st) (defScope st) .none kV dc pm an cd ct), sl⟩) (c : PySem.W.codeIn K cd x = true) (k : PySem.W.keepIn K (.ref f) = true)
    (hb : ∀ (kV doc pm : Value) (an : Option Addr) (cdv ct : Value) (us : List Value), us.length = ps.length → bindArgs (PySem.W.fnOf x x (defArgs st) (defBody st) (defScope st) .none kV doc pm an cdv ct) ⟨us, []⟩ = pure (ps.zip us)) : Def ⟨K, T⟩ mg x st ps :=
  have F := fun_mk (K := K) (st := st) l c k
  ⟨⟨f, _, F, PySem.W.mg_of X G a, k, F.binds hb⟩⟩
theorem all_of {P : Program} {w : World} {K : PySem.W.Frag} {h : Heap} {mg : Str → Option Value} {fa : Addr} (X : K.In h) (G : h.Ns mainGlobals mg) (hfa : mg "law" = some (.ref fa))
    {fknownusizes : Addr} {odknownusizes anknownusizes : Option Addr} {slknownusizes : Array (Option Value)} {ocknownusizes kVknownusizes dcknownusizes pmknownusizes cdknownusizes ctknownusizes : Value} (aknownusizes : PySem.W.nsIn K mainGlobals "known_sizes" = some (some (.ref fknownusizes))) (lknownusizes : K.lookup fknownusizes = some ⟨ocknownusizes, odknownusizes, .func (PySem.W.fnOf "known_sizes" "known_sizes" (defArgs s_known_sizes) (defBody s_known_sizes) (defScope s_known_sizes) .none kVknownusizes dcknownusizes pmknownusizes anknownusizes cdknownusizes ctknownusizes), slknownusizes⟩) (cknownusizes : PySem.W.codeIn K cdknownusizes "known_sizes" = true) (kknownusizes : PySem.W.keepIn K (.ref fknownusizes) = true)
    {fgoesuupuwith : Addr} {odgoesuupuwith angoesuupuwith : Option Addr} {slgoesuupuwith : Array (Option Value)} {ocgoesuupuwith kVgoesuupuwith dcgoesuupuwith pmgoesuupuwith cdgoesuupuwith ctgoesuupuwith : Value} (agoesuupuwith : PySem.W.nsIn K mainGlobals "goes_up_with" = some (some (.ref fgoesuupuwith))) (lgoesuupuwith : K.lookup fgoesuupuwith = some ⟨ocgoesuupuwith, odgoesuupuwith, .func (PySem.W.fnOf "goes_up_with" "goes_up_with" (defArgs s_goes_up_with) (defBody s_goes_up_with) (defScope s_goes_up_with) .none kVgoesuupuwith dcgoesuupuwith pmgoesuupuwith angoesuupuwith cdgoesuupuwith ctgoesuupuwith), slgoesuupuwith⟩) (cgoesuupuwith : PySem.W.codeIn K cdgoesuupuwith "goes_up_with" = true) (kgoesuupuwith : PySem.W.keepIn K (.ref fgoesuupuwith) = true)
    {fisunested : Addr} {odisunested anisunested : Option Addr} {slisunested : Array (Option Value)} {ocisunested kVisunested dcisunested pmisunested cdisunested ctisunested : Value} (aisunested : PySem.W.nsIn K mainGlobals "is_nested" = some (some (.ref fisunested))) (lisunested : K.lookup fisunested = some ⟨ocisunested, odisunested, .func (PySem.W.fnOf "is_nested" "is_nested" (defArgs s_is_nested) (defBody s_is_nested) (defScope s_is_nested) .none kVisunested dcisunested pmisunested anisunested cdisunested ctisunested), slisunested⟩) (cisunested : PySem.W.codeIn K cdisunested "is_nested" = true) (kisunested : PySem.W.keepIn K (.ref fisunested) = true)
    {fgreateruones : Addr} {odgreateruones angreateruones : Option Addr} {slgreateruones : Array (Option Value)} {ocgreateruones kVgreateruones dcgreateruones pmgreateruones cdgreateruones ctgreateruones : Value} (agreateruones : PySem.W.nsIn K mainGlobals "greater_ones" = some (some (.ref fgreateruones))) (lgreateruones : K.lookup fgreateruones = some ⟨ocgreateruones, odgreateruones, .func (PySem.W.fnOf "greater_ones" "greater_ones" (defArgs s_greater_ones) (defBody s_greater_ones) (defScope s_greater_ones) .none kVgreateruones dcgreateruones pmgreateruones angreateruones cdgreateruones ctgreateruones), slgreateruones⟩) (cgreateruones : PySem.W.codeIn K cdgreateruones "greater_ones" = true) (kgreateruones : PySem.W.keepIn K (.ref fgreateruones) = true)
    {falongufloors : Addr} {odalongufloors analongufloors : Option Addr} {slalongufloors : Array (Option Value)} {ocalongufloors kValongufloors dcalongufloors pmalongufloors cdalongufloors ctalongufloors : Value} (aalongufloors : PySem.W.nsIn K mainGlobals "along_floors" = some (some (.ref falongufloors))) (lalongufloors : K.lookup falongufloors = some ⟨ocalongufloors, odalongufloors, .func (PySem.W.fnOf "along_floors" "along_floors" (defArgs s_along_floors) (defBody s_along_floors) (defScope s_along_floors) .none kValongufloors dcalongufloors pmalongufloors analongufloors cdalongufloors ctalongufloors), slalongufloors⟩) (calongufloors : PySem.W.codeIn K cdalongufloors "along_floors" = true) (kalongufloors : PySem.W.keepIn K (.ref falongufloors) = true)
    {falongucounts : Addr} {odalongucounts analongucounts : Option Addr} {slalongucounts : Array (Option Value)} {ocalongucounts kValongucounts dcalongucounts pmalongucounts cdalongucounts ctalongucounts : Value} (aalongucounts : PySem.W.nsIn K mainGlobals "along_counts" = some (some (.ref falongucounts))) (lalongucounts : K.lookup falongucounts = some ⟨ocalongucounts, odalongucounts, .func (PySem.W.fnOf "along_counts" "along_counts" (defArgs s_along_counts) (defBody s_along_counts) (defScope s_along_counts) .none kValongucounts dcalongucounts pmalongucounts analongucounts cdalongucounts ctalongucounts), slalongucounts⟩) (calongucounts : PySem.W.codeIn K cdalongucounts "along_counts" = true) (kalongucounts : PySem.W.keepIn K (.ref falongucounts) = true)
    {ftightened : Addr} {odtightened antightened : Option Addr} {sltightened : Array (Option Value)} {octightened kVtightened dctightened pmtightened cdtightened cttightened : Value} (atightened : PySem.W.nsIn K mainGlobals "tightened" = some (some (.ref ftightened))) (ltightened : K.lookup ftightened = some ⟨octightened, odtightened, .func (PySem.W.fnOf "tightened" "tightened" (defArgs s_tightened) (defBody s_tightened) (defScope s_tightened) .none kVtightened dctightened pmtightened antightened cdtightened cttightened), sltightened⟩) (ctightened : PySem.W.codeIn K cdtightened "tightened" = true) (ktightened : PySem.W.keepIn K (.ref ftightened) = true)
    {fulawutake : Addr} {odulawutake anulawutake : Option Addr} {slulawutake : Array (Option Value)} {oculawutake kVulawutake dculawutake pmulawutake cdulawutake ctulawutake : Value} (aulawutake : PySem.W.nsIn K mainGlobals "_law_take" = some (some (.ref fulawutake))) (lulawutake : K.lookup fulawutake = some ⟨oculawutake, odulawutake, .func (PySem.W.fnOf "_law_take" "_law_take" (defArgs s__law_take) (defBody s__law_take) (defScope s__law_take) .none kVulawutake dculawutake pmulawutake anulawutake cdulawutake ctulawutake), slulawutake⟩) (culawutake : PySem.W.codeIn K cdulawutake "_law_take" = true) (kulawutake : PySem.W.keepIn K (.ref fulawutake) = true)
    {fulawuone : Addr} {odulawuone anulawuone : Option Addr} {slulawuone : Array (Option Value)} {oculawuone kVulawuone dculawuone pmulawuone cdulawuone ctulawuone : Value} (aulawuone : PySem.W.nsIn K mainGlobals "_law_one" = some (some (.ref fulawuone))) (lulawuone : K.lookup fulawuone = some ⟨oculawuone, odulawuone, .func (PySem.W.fnOf "_law_one" "_law_one" (defArgs s__law_one) (defBody s__law_one) (defScope s__law_one) .none kVulawuone dculawuone pmulawuone anulawuone cdulawuone ctulawuone), slulawuone⟩) (culawuone : PySem.W.codeIn K cdulawuone "_law_one" = true) (kulawuone : PySem.W.keepIn K (.ref fulawuone) = true)
    {fulawurows : Addr} {odulawurows anulawurows : Option Addr} {slulawurows : Array (Option Value)} {oculawurows kVulawurows dculawurows pmulawurows cdulawurows ctulawurows : Value} (aulawurows : PySem.W.nsIn K mainGlobals "_law_rows" = some (some (.ref fulawurows))) (lulawurows : K.lookup fulawurows = some ⟨oculawurows, odulawurows, .func (PySem.W.fnOf "_law_rows" "_law_rows" (defArgs s__law_rows) (defBody s__law_rows) (defScope s__law_rows) .none kVulawurows dculawurows pmulawurows anulawurows cdulawurows ctulawurows), slulawurows⟩) (culawurows : PySem.W.codeIn K cdulawurows "_law_rows" = true) (kulawurows : PySem.W.keepIn K (.ref fulawurows) = true)
    {fulawusomeusizes : Addr} {odulawusomeusizes anulawusomeusizes : Option Addr} {slulawusomeusizes : Array (Option Value)} {oculawusomeusizes kVulawusomeusizes dculawusomeusizes pmulawusomeusizes cdulawusomeusizes ctulawusomeusizes : Value} (aulawusomeusizes : PySem.W.nsIn K mainGlobals "_law_some_sizes" = some (some (.ref fulawusomeusizes))) (lulawusomeusizes : K.lookup fulawusomeusizes = some ⟨oculawusomeusizes, odulawusomeusizes, .func (PySem.W.fnOf "_law_some_sizes" "_law_some_sizes" (defArgs s__law_some_sizes) (defBody s__law_some_sizes) (defScope s__law_some_sizes) .none kVulawusomeusizes dculawusomeusizes pmulawusomeusizes anulawusomeusizes cdulawusomeusizes ctulawusomeusizes), slulawusomeusizes⟩) (culawusomeusizes : PySem.W.codeIn K cdulawusomeusizes "_law_some_sizes" = true) (kulawusomeusizes : PySem.W.keepIn K (.ref fulawusomeusizes) = true)
    {fulawutightened : Addr} {odulawutightened anulawutightened : Option Addr} {slulawutightened : Array (Option Value)} {oculawutightened kVulawutightened dculawutightened pmulawutightened cdulawutightened ctulawutightened : Value} (aulawutightened : PySem.W.nsIn K mainGlobals "_law_tightened" = some (some (.ref fulawutightened))) (lulawutightened : K.lookup fulawutightened = some ⟨oculawutightened, odulawutightened, .func (PySem.W.fnOf "_law_tightened" "_law_tightened" (defArgs s__law_tightened) (defBody s__law_tightened) (defScope s__law_tightened) .none kVulawutightened dculawutightened pmulawutightened anulawutightened cdulawutightened ctulawutightened), slulawutightened⟩) (culawutightened : PySem.W.codeIn K cdulawutightened "_law_tightened" = true) (kulawutightened : PySem.W.keepIn K (.ref fulawutightened) = true)
    {fulawualike : Addr} {odulawualike anulawualike : Option Addr} {slulawualike : Array (Option Value)} {oculawualike kVulawualike dculawualike pmulawualike cdulawualike ctulawualike : Value} (aulawualike : PySem.W.nsIn K mainGlobals "_law_alike" = some (some (.ref fulawualike))) (lulawualike : K.lookup fulawualike = some ⟨oculawualike, odulawualike, .func (PySem.W.fnOf "_law_alike" "_law_alike" (defArgs s__law_alike) (defBody s__law_alike) (defScope s__law_alike) .none kVulawualike dculawualike pmulawualike anulawualike cdulawualike ctulawualike), slulawualike⟩) (culawualike : PySem.W.codeIn K cdulawualike "_law_alike" = true) (kulawualike : PySem.W.keepIn K (.ref fulawualike) = true)
    {fulawuisutold : Addr} {odulawuisutold anulawuisutold : Option Addr} {slulawuisutold : Array (Option Value)} {oculawuisutold kVulawuisutold dculawuisutold pmulawuisutold cdulawuisutold ctulawuisutold : Value} (aulawuisutold : PySem.W.nsIn K mainGlobals "_law_is_told" = some (some (.ref fulawuisutold))) (lulawuisutold : K.lookup fulawuisutold = some ⟨oculawuisutold, odulawuisutold, .func (PySem.W.fnOf "_law_is_told" "_law_is_told" (defArgs s__law_is_told) (defBody s__law_is_told) (defScope s__law_is_told) .none kVulawuisutold dculawuisutold pmulawuisutold anulawuisutold cdulawuisutold ctulawuisutold), slulawuisutold⟩) (culawuisutold : PySem.W.codeIn K cdulawuisutold "_law_is_told" = true) (kulawuisutold : PySem.W.keepIn K (.ref fulawuisutold) = true)
    {fulawumixed : Addr} {odulawumixed anulawumixed : Option Addr} {slulawumixed : Array (Option Value)} {oculawumixed kVulawumixed dculawumixed pmulawumixed cdulawumixed ctulawumixed : Value} (aulawumixed : PySem.W.nsIn K mainGlobals "_law_mixed" = some (some (.ref fulawumixed))) (lulawumixed : K.lookup fulawumixed = some ⟨oculawumixed, odulawumixed, .func (PySem.W.fnOf "_law_mixed" "_law_mixed" (defArgs s__law_mixed) (defBody s__law_mixed) (defScope s__law_mixed) .none kVulawumixed dculawumixed pmulawumixed anulawumixed cdulawumixed ctulawumixed), slulawumixed⟩) (culawumixed : PySem.W.codeIn K cdulawumixed "_law_mixed" = true) (kulawumixed : PySem.W.keepIn K (.ref fulawumixed) = true)
    {fulawutightuknown : Addr} {odulawutightuknown anulawutightuknown : Option Addr} {slulawutightuknown : Array (Option Value)} {oculawutightuknown kVulawutightuknown dculawutightuknown pmulawutightuknown cdulawutightuknown ctulawutightuknown : Value} (aulawutightuknown : PySem.W.nsIn K mainGlobals "_law_tight_known" = some (some (.ref fulawutightuknown))) (lulawutightuknown : K.lookup fulawutightuknown = some ⟨oculawutightuknown, odulawutightuknown, .func (PySem.W.fnOf "_law_tight_known" "_law_tight_known" (defArgs s__law_tight_known) (defBody s__law_tight_known) (defScope s__law_tight_known) .none kVulawutightuknown dculawutightuknown pmulawutightuknown anulawutightuknown cdulawutightuknown ctulawutightuknown), slulawutightuknown⟩) (culawutightuknown : PySem.W.codeIn K cdulawutightuknown "_law_tight_known" = true) (kulawutightuknown : PySem.W.keepIn K (.ref fulawutightuknown) = true)
    {fulawuhouse : Addr} {odulawuhouse anulawuhouse : Option Addr} {slulawuhouse : Array (Option Value)} {oculawuhouse kVulawuhouse dculawuhouse pmulawuhouse cdulawuhouse ctulawuhouse : Value} (aulawuhouse : PySem.W.nsIn K mainGlobals "_law_house" = some (some (.ref fulawuhouse))) (lulawuhouse : K.lookup fulawuhouse = some ⟨oculawuhouse, odulawuhouse, .func (PySem.W.fnOf "_law_house" "_law_house" (defArgs s__law_house) (defBody s__law_house) (defScope s__law_house) .none kVulawuhouse dculawuhouse pmulawuhouse anulawuhouse cdulawuhouse ctulawuhouse), slulawuhouse⟩) (culawuhouse : PySem.W.codeIn K cdulawuhouse "_law_house" = true) (kulawuhouse : PySem.W.keepIn K (.ref fulawuhouse) = true)
    {fulawuknownusizes : Addr} {odulawuknownusizes anulawuknownusizes : Option Addr} {slulawuknownusizes : Array (Option Value)} {oculawuknownusizes kVulawuknownusizes dculawuknownusizes pmulawuknownusizes cdulawuknownusizes ctulawuknownusizes : Value} (aulawuknownusizes : PySem.W.nsIn K mainGlobals "_law_known_sizes" = some (some (.ref fulawuknownusizes))) (lulawuknownusizes : K.lookup fulawuknownusizes = some ⟨oculawuknownusizes, odulawuknownusizes, .func (PySem.W.fnOf "_law_known_sizes" "_law_known_sizes" (defArgs s__law_known_sizes) (defBody s__law_known_sizes) (defScope s__law_known_sizes) .none kVulawuknownusizes dculawuknownusizes pmulawuknownusizes anulawuknownusizes cdulawuknownusizes ctulawuknownusizes), slulawuknownusizes⟩) (culawuknownusizes : PySem.W.codeIn K cdulawuknownusizes "_law_known_sizes" = true) (kulawuknownusizes : PySem.W.keepIn K (.ref fulawuknownusizes) = true)
    {fulawuisunested : Addr} {odulawuisunested anulawuisunested : Option Addr} {slulawuisunested : Array (Option Value)} {oculawuisunested kVulawuisunested dculawuisunested pmulawuisunested cdulawuisunested ctulawuisunested : Value} (aulawuisunested : PySem.W.nsIn K mainGlobals "_law_is_nested" = some (some (.ref fulawuisunested))) (lulawuisunested : K.lookup fulawuisunested = some ⟨oculawuisunested, odulawuisunested, .func (PySem.W.fnOf "_law_is_nested" "_law_is_nested" (defArgs s__law_is_nested) (defBody s__law_is_nested) (defScope s__law_is_nested) .none kVulawuisunested dculawuisunested pmulawuisunested anulawuisunested cdulawuisunested ctulawuisunested), slulawuisunested⟩) (culawuisunested : PySem.W.codeIn K cdulawuisunested "_law_is_nested" = true) (kulawuisunested : PySem.W.keepIn K (.ref fulawuisunested) = true)
    {fulawubag : Addr} {odulawubag anulawubag : Option Addr} {slulawubag : Array (Option Value)} {oculawubag kVulawubag dculawubag pmulawubag cdulawubag ctulawubag : Value} (aulawubag : PySem.W.nsIn K mainGlobals "_law_bag" = some (some (.ref fulawubag))) (lulawubag : K.lookup fulawubag = some ⟨oculawubag, odulawubag, .func (PySem.W.fnOf "_law_bag" "_law_bag" (defArgs s__law_bag) (defBody s__law_bag) (defScope s__law_bag) .none kVulawubag dculawubag pmulawubag anulawubag cdulawubag ctulawubag), slulawubag⟩) (culawubag : PySem.W.codeIn K cdulawubag "_law_bag" = true) (kulawubag : PySem.W.keepIn K (.ref fulawubag) = true)
    {flaw : Addr} {odlaw anlaw : Option Addr} {sllaw : Array (Option Value)} {oclaw kVlaw dclaw pmlaw cdlaw ctlaw : Value} (alaw : PySem.W.nsIn K mainGlobals "law" = some (some (.ref flaw))) (llaw : K.lookup flaw = some ⟨oclaw, odlaw, .func (PySem.W.fnOf "law" "law" (defArgs s_law) (defBody s_law) (defScope s_law) .none kVlaw dclaw pmlaw anlaw cdlaw ctlaw), sllaw⟩) (claw : PySem.W.codeIn K cdlaw "law" = true) (klaw : PySem.W.keepIn K (.ref flaw) = true)
    (zlen : PySem.W.nsIn K mainGlobals "len" = some none)
    (zrange : PySem.W.nsIn K mainGlobals "range" = some none)
    (zmax : PySem.W.nsIn K mainGlobals "max" = some none)
    (zmin : PySem.W.nsIn K mainGlobals "min" = some none)
    (zint : PySem.W.nsIn K mainGlobals "int" = some none)
    (zabs : PySem.W.nsIn K mainGlobals "abs" = some none)
    (zlist : PySem.W.nsIn K mainGlobals "list" = some none)
    (ztuple : PySem.W.nsIn K mainGlobals "tuple" = some none)
    (zrepr : PySem.W.nsIn K mainGlobals "repr" = some none)
    (zany : PySem.W.nsIn K mainGlobals "any" = some none)
    (zall : PySem.W.nsIn K mainGlobals "all" = some none)
    (zzip : PySem.W.nsIn K mainGlobals "zip" = some none)
    (zenumerate : PySem.W.nsIn K mainGlobals "enumerate" = some none)
    (zsum : PySem.W.nsIn K mainGlobals "sum" = some none)
    (zsorted : PySem.W.nsIn K mainGlobals "sorted" = some none)
    (zset : PySem.W.nsIn K mainGlobals "set" = some none)
    (zisinstance : PySem.W.nsIn K mainGlobals "isinstance" = some none)
    (zstr : PySem.W.nsIn K mainGlobals "str" = some none)
    (zbool : PySem.W.nsIn K mainGlobals "bool" = some none)
    (zdict : PySem.W.nsIn K mainGlobals "dict" = some none)
    (zreversed : PySem.W.nsIn K mainGlobals "reversed" = some none)
    : ∃ fd : FuncData, (∀ (t : Shared) (u : Value), BindsTo t fd ⟨[u], []⟩ [("_law_script", u)]) ∧ ∀ base : Heap, K.In base → base.Ns mainGlobals mg → FnG P w K mg base CX0 5 fa fd ["_law_script"] (spL ⟨K, []⟩) := by
  have e := hfa.symm.trans (PySem.W.mg_of X G alaw)
  cases e
  have T : Tops ⟨K, []⟩ mg := {
    blt := {len := PySem.W.mg_none_of X G zlen, range := PySem.W.mg_none_of X G zrange, max := PySem.W.mg_none_of X G zmax, min := PySem.W.mg_none_of X G zmin, int := PySem.W.mg_none_of X G zint, abs := PySem.W.mg_none_of X G zabs, list := PySem.W.mg_none_of X G zlist, tuple := PySem.W.mg_none_of X G ztuple, repr := PySem.W.mg_none_of X G zrepr, any := PySem.W.mg_none_of X G zany, all := PySem.W.mg_none_of X G zall, zip := PySem.W.mg_none_of X G zzip, enumerate := PySem.W.mg_none_of X G zenumerate, sum := PySem.W.mg_none_of X G zsum, sorted := PySem.W.mg_none_of X G zsorted, set := PySem.W.mg_none_of X G zset, isinstance := PySem.W.mg_none_of X G zisinstance, str := PySem.W.mg_none_of X G zstr, bool := PySem.W.mg_none_of X G zbool, dict := PySem.W.mg_none_of X G zdict, reversed := PySem.W.mg_none_of X G zreversed}
    D_known_sizes := def_of (T := []) X G aknownusizes lknownusizes cknownusizes kknownusizes fun _ _ _ _ _ _ us hl => match us, hl with | [_], _ => rfl
    D_goes_up_with := def_of (T := []) X G agoesuupuwith lgoesuupuwith cgoesuupuwith kgoesuupuwith fun _ _ _ _ _ _ us hl => match us, hl with | [_, _], _ => rfl
    D_is_nested := def_of (T := []) X G aisunested lisunested cisunested kisunested fun _ _ _ _ _ _ us hl => match us, hl with | [_], _ => rfl
    D_greater_ones := def_of (T := []) X G agreateruones lgreateruones cgreateruones kgreateruones fun _ _ _ _ _ _ us hl => match us, hl with | [_, _], _ => rfl
    D_along_floors := def_of (T := []) X G aalongufloors lalongufloors calongufloors kalongufloors fun _ _ _ _ _ _ us hl => match us, hl with | [_, _], _ => rfl
    D_along_counts := def_of (T := []) X G aalongucounts lalongucounts calongucounts kalongucounts fun _ _ _ _ _ _ us hl => match us, hl with | [_, _], _ => rfl
    D_tightened := def_of (T := []) X G atightened ltightened ctightened ktightened fun _ _ _ _ _ _ us hl => match us, hl with | [_, _], _ => rfl
    D__law_take := def_of (T := []) X G aulawutake lulawutake culawutake kulawutake fun _ _ _ _ _ _ us hl => match us, hl with | [_, _], _ => rfl
    D__law_one := def_of (T := []) X G aulawuone lulawuone culawuone kulawuone fun _ _ _ _ _ _ us hl => match us, hl with | [_, _], _ => rfl
    D__law_rows := def_of (T := []) X G aulawurows lulawurows culawurows kulawurows fun _ _ _ _ _ _ us hl => match us, hl with | [_, _, _], _ => rfl
    D__law_some_sizes := def_of (T := []) X G aulawusomeusizes lulawusomeusizes culawusomeusizes kulawusomeusizes fun _ _ _ _ _ _ us hl => match us, hl with | [_, _, _], _ => rfl
    D__law_tightened := def_of (T := []) X G aulawutightened lulawutightened culawutightened kulawutightened fun _ _ _ _ _ _ us hl => match us, hl with | [_, _], _ => rfl
    D__law_alike := def_of (T := []) X G aulawualike lulawualike culawualike kulawualike fun _ _ _ _ _ _ us hl => match us, hl with | [_, _], _ => rfl
    D__law_is_told := def_of (T := []) X G aulawuisutold lulawuisutold culawuisutold kulawuisutold fun _ _ _ _ _ _ us hl => match us, hl with | [_, _], _ => rfl
    D__law_mixed := def_of (T := []) X G aulawumixed lulawumixed culawumixed kulawumixed fun _ _ _ _ _ _ us hl => match us, hl with | [_, _], _ => rfl
    D__law_tight_known := def_of (T := []) X G aulawutightuknown lulawutightuknown culawutightuknown kulawutightuknown fun _ _ _ _ _ _ us hl => match us, hl with | [_, _], _ => rfl
    D__law_house := def_of (T := []) X G aulawuhouse lulawuhouse culawuhouse kulawuhouse fun _ _ _ _ _ _ us hl => match us, hl with | [_, _, _, _], _ => rfl
    D__law_known_sizes := def_of (T := []) X G aulawuknownusizes lulawuknownusizes culawuknownusizes kulawuknownusizes fun _ _ _ _ _ _ us hl => match us, hl with | [_], _ => rfl
    D__law_is_nested := def_of (T := []) X G aulawuisunested lulawuisunested culawuisunested kulawuisunested fun _ _ _ _ _ _ us hl => match us, hl with | [_], _ => rfl
    D__law_bag := def_of (T := []) X G aulawubag lulawubag culawubag kulawubag fun _ _ _ _ _ _ us hl => match us, hl with | [_], _ => rfl
  }
  have F := fun_mk (K := K) (st := s_law) llaw claw klaw
  exact ⟨_, fun s v => .of_eq rfl, fun base _ _ => whole T F law_true⟩
end K11
open PySem PySem.W PyProof.Rows
set_option maxRecDepth 100000 in
set_option maxHeartbeats 0 in
theorem PySem.Challenge.cw_floorkeepers_k11_least_tight_words_holds : PySem.Challenge.rw_floorkeepers_k11_least_tight_words.Holds := by
  w_on; o_law; k_head; (case hw => w_witness2)
  k_fill
  refine DL.walkD (l := PySem.Challenge.rw_floorkeepers_k11_least_tight_words) (n := 63) (k := 5) (x := "_law_script") (sp := DL.spL) rfl (by rw [sizeLine_eq]; decide) rfl ⟨rfl, by decide, by decide⟩ rfl (fun w h Y => PySem.W.kIn_of Y) ?F (fun K H a ns hl ht hS => ⟨a, ns, rfl, hS, hl, ht, fun _ => rfl⟩)
  case F =>
    intro w mg fa h KX G hmg
    refine' K11.all_of KX G hmg ?aknownusizes ?lknownusizes ?cknownusizes ?kknownusizes ?agoesuupuwith ?lgoesuupuwith ?cgoesuupuwith ?kgoesuupuwith ?aisunested ?lisunested ?cisunested ?kisunested ?agreateruones ?lgreateruones ?cgreateruones ?kgreateruones ?aalongufloors ?lalongufloors ?calongufloors ?kalongufloors ?aalongucounts ?lalongucounts ?calongucounts ?kalongucounts ?atightened ?ltightened ?ctightened ?ktightened ?aulawutake ?lulawutake ?culawutake ?kulawutake ?aulawuone ?lulawuone ?culawuone ?kulawuone ?aulawurows ?lulawurows ?culawurows ?kulawurows ?aulawusomeusizes ?lulawusomeusizes ?culawusomeusizes ?kulawusomeusizes ?aulawutightened ?lulawutightened ?culawutightened ?kulawutightened ?aulawualike ?lulawualike ?culawualike ?kulawualike ?aulawuisutold ?lulawuisutold ?culawuisutold ?kulawuisutold ?aulawumixed ?lulawumixed ?culawumixed ?kulawumixed ?aulawutightuknown ?lulawutightuknown ?culawutightuknown ?kulawutightuknown ?aulawuhouse ?lulawuhouse ?culawuhouse ?kulawuhouse ?aulawuknownusizes ?lulawuknownusizes ?culawuknownusizes ?kulawuknownusizes ?aulawuisunested ?lulawuisunested ?culawuisunested ?kulawuisunested ?aulawubag ?lulawubag ?culawubag ?kulawubag ?alaw ?llaw ?claw ?klaw ?zlen ?zrange ?zmax ?zmin ?zint ?zabs ?zlist ?ztuple ?zrepr ?zany ?zall ?zzip ?zenumerate ?zsum ?zsorted ?zset ?zisinstance ?zstr ?zbool ?zdict ?zreversed
    (case aknownusizes => k_is)
    (case lknownusizes => k_is)
    (case cknownusizes => k_is)
    (case kknownusizes => k_is)
    (case agoesuupuwith => k_is)
    (case lgoesuupuwith => k_is)
    (case cgoesuupuwith => k_is)
    (case kgoesuupuwith => k_is)
    (case aisunested => k_is)
    (case lisunested => k_is)
    (case cisunested => k_is)
    (case kisunested => k_is)
    (case agreateruones => k_is)
    (case lgreateruones => k_is)
    (case cgreateruones => k_is)
    (case kgreateruones => k_is)
    (case aalongufloors => k_is)
    (case lalongufloors => k_is)
    (case calongufloors => k_is)
    (case kalongufloors => k_is)
    (case aalongucounts => k_is)
    (case lalongucounts => k_is)
    (case calongucounts => k_is)
    (case kalongucounts => k_is)
    (case atightened => k_is)
    (case ltightened => k_is)
    (case ctightened => k_is)
    (case ktightened => k_is)
    (case aulawutake => k_is)
    (case lulawutake => k_is)
    (case culawutake => k_is)
    (case kulawutake => k_is)
    (case aulawuone => k_is)
    (case lulawuone => k_is)
    (case culawuone => k_is)
    (case kulawuone => k_is)
    (case aulawurows => k_is)
    (case lulawurows => k_is)
    (case culawurows => k_is)
    (case kulawurows => k_is)
    (case aulawusomeusizes => k_is)
    (case lulawusomeusizes => k_is)
    (case culawusomeusizes => k_is)
    (case kulawusomeusizes => k_is)
    (case aulawutightened => k_is)
    (case lulawutightened => k_is)
    (case culawutightened => k_is)
    (case kulawutightened => k_is)
    (case aulawualike => k_is)
    (case lulawualike => k_is)
    (case culawualike => k_is)
    (case kulawualike => k_is)
    (case aulawuisutold => k_is)
    (case lulawuisutold => k_is)
    (case culawuisutold => k_is)
    (case kulawuisutold => k_is)
    (case aulawumixed => k_is)
    (case lulawumixed => k_is)
    (case culawumixed => k_is)
    (case kulawumixed => k_is)
    (case aulawutightuknown => k_is)
    (case lulawutightuknown => k_is)
    (case culawutightuknown => k_is)
    (case kulawutightuknown => k_is)
    (case aulawuhouse => k_is)
    (case lulawuhouse => k_is)
    (case culawuhouse => k_is)
    (case kulawuhouse => k_is)
    (case aulawuknownusizes => k_is)
    (case lulawuknownusizes => k_is)
    (case culawuknownusizes => k_is)
    (case kulawuknownusizes => k_is)
    (case aulawuisunested => k_is)
    (case lulawuisunested => k_is)
    (case culawuisunested => k_is)
    (case kulawuisunested => k_is)
    (case aulawubag => k_is)
    (case lulawubag => k_is)
    (case culawubag => k_is)
    (case kulawubag => k_is)
    (case alaw => k_is)
    (case llaw => k_is)
    (case claw => k_is)
    (case klaw => k_is)
    (case zlen => k_is)
    (case zrange => k_is)
    (case zmax => k_is)
    (case zmin => k_is)
    (case zint => k_is)
    (case zabs => k_is)
    (case zlist => k_is)
    (case ztuple => k_is)
    (case zrepr => k_is)
    (case zany => k_is)
    (case zall => k_is)
    (case zzip => k_is)
    (case zenumerate => k_is)
    (case zsum => k_is)
    (case zsorted => k_is)
    (case zset => k_is)
    (case zisinstance => k_is)
    (case zstr => k_is)
    (case zbool => k_is)
    (case zdict => k_is)
    (case zreversed => k_is)
