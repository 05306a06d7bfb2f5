import PyProof.Rows.All
import Wide.All
import OpenK.AllK
import Wide.FinOn
import HandS.ForMost
import HandS.Wide
import HandS.TupAny
import HandS.TupMul
import HandS.Conv
import HandS.Lambda
import HandS.EndTab
import KE.KDictKeyed
import KE.KeyNested
import HandS.More
import HandS.Iter
import KE.GoesEnum
import HandS.Style
import HandS.SetFor
import HandS.SortInts
import KE.KTupSum
import KE.KIndexOf
import PyProof.TupleOfSeq
import KE.SortKeyHeap
import HandS.Strs
import KE.KLam
import HandS.Defaults
import HandS.ExcOwn
import HandS.TryMany
import HandS.IsInst
import KE.SortData
import KE.KDictZip
import HandS.OwnIter
import HandS.ExcInit
import HandS.ExcField
import KE.KDictSum
import HandS.Deep
import KE.KNestM
import PySem.Challenge.RW_floorkeepers_k37_joint_knowledges
import PyProof.P3Eq
import PyProof.Rows.ReprShort
import KE.KEqDeep
set_option Elab.async false
set_option linter.all false
set_option maxRecDepth 100000
namespace DL
open PySem PySem.Spec PyProof.Rows L2
def PlainT (o : Obj) : Prop := o.cls = .type "tuple" ∧ o.dict = none
def NewT (H : Hp) (Q : VK) (ys : List V) : Prop := ∀ (p : Addr) (o : Obj), H p = none → PlainT o → Q (.ref p) (upd H p (.frz o (.tup ys)))
section
variable {X : Cx} {pins : List (Addr × Obj)} {s : Shared} {σ : L2.St} {H : Hp} {Q : VK} {ys : List V}
/-- a new tuple at the heap's end -/
theorem new_tup {us : List Value} (I : Inv X pins σ H s) (r : Vals ys us) (hz : ys.length ≤ sizeLine) (q : NewT H Q ys) {t' : Nat} :
    EP X pins σ Q (.ref s.heap.objs.size) { s with heap := s.heap.push { cls := .type "tuple", data := .seq us.toArray }, toks := t' } :=
  ⟨.ref s.heap.objs.size, _, I.laid (t' := t') (o := .frz { cls := .type "tuple", data := .seq us.toArray } (.tup ys)) (fun b u e => Heap.get?_push_of_some _ e) (Nat.le_refl _)
    ⟨Heap.get?_push_size _ rfl, hz, us, r, ⟨_, Heap.get?_push_size _ rfl, rfl, _, rfl⟩⟩, rfl, q _ _ (I.hok.fresh (Nat.le_refl _)) ⟨rfl, rfl⟩⟩
end
section
variable {X : Cx}
def rCatF (K : PySem.W.Frag) : R2 := fun x y H Q => ∃ a b xs ys, x = .ref a ∧ y = .ref b ∧ SqT K H a xs ∧ SqT K H b ys ∧ xs.length + ys.length ≤ sizeLine ∧
  (xs = [] → Q (.ref b) H) ∧ (xs ≠ [] → ys = [] → Q (.ref a) H) ∧ (xs ≠ [] → ys ≠ [] → NewT H Q (xs ++ ys))
theorem op_catF : OpR X (binaryOp .Add) (rCatF X.K) := by
  intro pins s σ H x y v u Q I rx ry ⟨a, b, xs, ys, e1, e2, ha, hb, hz, q0, q1, q2⟩
  subst e1 e2
  cases rx
  cases ry
  obtain ⟨us, ra, pa, _⟩ := I.tuple ha
  obtain ⟨ws, rb, pb, _⟩ := I.tuple hb
  by_cases hx : xs = []
  · subst hx
    cases ra
    exact cat_tup0 pa pb ⟨.ref b, H, I, rfl, q0 rfl⟩
  · exact HT.cat_tup pa pb (fun z => hx (ra.nil_iff.mp z)) (fun z => ⟨.ref a, H, I, rfl, q1 hx (rb.nil_iff.mp z)⟩)
      (fun z => new_tup I (ra.append rb) (by rw [List.length_append]; exact hz) (q2 hx fun w => z (rb.nil_iff.mpr w)) (t' := s.toks)) (by rw [← ra.length, ← rb.length]; exact hz)
def rSlF (K : PySem.W.Frag) : V → Option Int → Option Int → Hp → VK → Prop := fun x lo hi H Q => ∃ a xs, x = .ref a ∧ SqT K H a xs ∧
  (HT.sIx xs.length 0 lo = 0 ∧ HT.sIx xs.length xs.length hi = xs.length → Q (.ref a) H) ∧ (¬ (HT.sIx xs.length 0 lo = 0 ∧ HT.sIx xs.length xs.length hi = xs.length) → NewT H Q (cutV xs lo hi))
theorem sl_tupF : SlR X (rSlF X.K) := by
  intro pins s σ H x v vl vu lo hi sl Q I rx hs pl pu ⟨a, xs, e1, hx, q1, q2⟩
  subst e1
  cases rx
  obtain ⟨us, ra, pa, hz⟩ := I.tuple hx
  have hn : us.toArray.size = xs.length := by rw [List.size_toArray, ra.length]
  refine ⟨"tuple", _, PyProof.Rows.slot_tuple_getitem.lookup, pa.typeIs, ?_⟩
  by_cases hw : HT.sIx xs.length 0 lo = 0 ∧ HT.sIx xs.length xs.length hi = xs.length
  · exact getItem_tuple_whole pa hs pl pu (by rw [hn]; exact hw) ⟨.ref a, H, I, rfl, q1 hw⟩
  · refine HT.getItem_tuple_cut pa hs pl pu (by rw [hn]; exact hw) ?_ (by rw [hn]; exact hz)
    rw [hn]
    exact new_tup I ((ra.drop (HT.sIx xs.length 0 lo)).take (HT.sIx xs.length xs.length hi - HT.sIx xs.length 0 lo)) (Nat.le_trans (cutV_length xs lo hi) hz) (q2 hw) (t' := s.toks)
theorem call_tupleF : CallR X (.type "tuple") (fun xs H Q => ∃ p ys, xs = [.ref p] ∧ ((SqL X.K H p ys ∧ NewT H Q ys) ∨ (SqT X.K H p ys ∧ Q (.ref p) H))) := by
  intro pins s σ H xs us Q I r ⟨p, ys, e1, h⟩
  subst e1
  rw [Vals.ref1 r]
  rcases h with ⟨hq, q⟩ | ⟨hq, q⟩
  · obtain ⟨ws, rw', pw, hz⟩ := I.list hq
    have hn := rw'.length
    exact call_tuple_list pw.isList (fun h' kp => new_tup (I.kept (t' := s.toks) kp) rw' hz q (t' := s.toks)) (by rw [List.size_toArray]; omega)
  · obtain ⟨ws, rw', pw, hz⟩ := I.tuple hq
    exact call_tuple_same pw ⟨.ref p, H, I, rfl, q⟩
def tTupF (t : TA) : TE := fun σ H Q => t σ H fun xs H1 => xs.length ≤ sizeLine ∧ NewT H1 Q xs
theorem pe_tupF {es : List Expr} {t : TA} {pos : Pos} {x1} (h : PA X es t) : PE X (.Tuple es x1 pos) (tTupF t) :=
  ⟨fun pins s σ H Q I hq => wpAny_Tuple_spliced (thn (h.run pos pins s σ H _ I hq) fun us s1 ⟨xs, H1, I1, r, z, q⟩ => ⟨by rw [← r.length]; exact z, new_tup I1 r z q (t' := s1.toks)⟩)⟩
def tTupRgF (te : L2.St → Hp → (Int → Int → Hp → Prop) → Prop) : TE := fun σ H Q => te σ H fun a b H1 => RgOk a b ∧ NewT H1 Q (rgV a b)
theorem pe_tupRgF {e : Expr} {te : L2.St → Hp → (Int → Int → Hp → Prop) → Prop} {p pos : Pos} (hc : X.calm = true) (hg : Gl X "tuple") (hm : X.mg "tuple" = none) (he : PRg X e te) (na : starEach [e] X.env = (false, eval e X.env) :: starEach [] X.env := by rfl) : PE X (.Call (.Name "tuple" p) [e] [] pos) (tTupRgF te) := by
  refine ⟨fun pins s σ H Q I h => Call_ (ld_blt I hg hm boot_tuple (PyProof.Rows.callWith_type1 (args_cons (thn (he pins s σ H _ I h) fun x s1 ⟨r, a, b, t, u, v, H1, ex, hr, I1, ok, q⟩ => args_nil ?_) na) na))⟩
  subst ex
  obtain ⟨b1, b2, b3, b4, b5⟩ := ok
  refine call_tuple_range (n := (b - a).toNat) (I1.ok.hd hc) hr (small_one b1 b2 b3 b4) (rangeSize_nat a b) b5 fun h' tk acc hk hi => ?_
  have I2 : Inv X pins σ H1 { s1 with heap := h', toks := tk } := I1.kept hk
  have := new_tup I2 (vals_rg hi) (by rw [rgV_length, sizeLine_eq]; omega) q (t' := tk)
  rw [Array.toArray_toList] at this
  exact this
def rRepF (K : PySem.W.Frag) : R2 := fun x y H Q => ∃ l k xs, x = .ref l ∧ y = .int k ∧ SqT K H l xs ∧ xs ≠ [] ∧ 2 ≤ k ∧ k ≤ 1000 ∧ xs.length ≤ 1000 ∧ NewT H Q (List.replicate k.toNat xs).flatten
theorem op_repF : OpR X (binaryOp .Mult) (rRepF X.K) := by
  intro pins s σ H x y v u Q I rx ry ⟨l, k, xs, e1, e2, hT, hne, h1, h2, hz, q⟩
  subst e1 e2
  cases rx
  obtain ⟨t, rfl⟩ := ry
  obtain ⟨us, ra, ⟨ob, ho, hc, n, hd⟩, hs⟩ := I.tuple hT
  obtain ⟨cls, dd, data, sl⟩ := ob
  have hc' : cls = .type "tuple" := hc
  have hd' : data = .seq us.toArray n := hd
  subst hc' hd'
  have hl : us.length = xs.length := ra.length.symm
  have hsz : us.toArray.size = xs.length := by rw [List.size_toArray, hl]
  have hi : us.toArray.isEmpty = false := by
    cases us with
    | nil => exact absurd (List.eq_nil_of_length_eq_zero hl.symm) hne
    | cons a b => rfl
  have a0 : k.toNat * xs.length ≤ 1000 * 1000 := Nat.mul_le_mul (by omega) hz
  have a1 : ((xs.length : Nat) : Int) * k ≤ 1000 * k := Int.mul_le_mul_of_nonneg_right (by omega) (by omega)
  have hm : ((us.toArray.size : Nat) : Int) * k ≤ 1000000 := by rw [hsz]; omega
  have flen : (List.replicate k.toNat us).flatten.length ≤ sizeLine := by rw [PyProof.Rows.lm_len_rep_flat, hl, sizeLine_eq]; omega
  have c0 : (decide (k < -(2 ^ 63)) || decide (k ≥ 2 ^ 63)) = false := by simp only [Bool.or_eq_false_iff, decide_eq_false_iff_not]; omega
  have c1 : (us.toArray.isEmpty || k == 1) = false := by
    rw [hi]
    exact beq_eq_false_iff_ne.mpr (by omega)
  have c2 : (decide (k ≤ 0) || us.toArray.isEmpty) = false := by rw [hi, Bool.or_false, decide_eq_false (by omega)]
  have c4 : Builtin.Tuple.tupleTooMany (((us.toArray.size : Nat) : Int) * k) = false := decide_eq_false (by rw [sizeLine_eq]; omega)
  refine wpAny_binaryOp_repeat_ref (T := "tuple") (U := "int") (by decide) ⟨_, ho, rfl⟩ (fun s' => typeIs_int s' k t) noFill_tuple_mul F.fills_int_mul F.slot_int_rmul repeat_tuple F.slot_int_index.lookup
    (call_meets F.slot_int_rmul (typeIs_int s k t) F.entry_int_rmul (F.args_int_rmul_2 _ _) (int_rmul_tuple k t l us.toArray n dd sl) ⟨ho, rfl, ⟨_, ho, rfl⟩,
      call_meets F.slot_tuple_mul ⟨_, ho, rfl⟩ F.entry_tuple_mul (F.args_tuple_mul_2 _ _) (tuple_mulW l us.toArray n dd sl k t c0 c1 c2 (by omega) c4 (by rw [size_rep, List.size_toArray]; exact flen)) ⟨ho, ?_⟩⟩)
  rw [size_rep]
  exact new_tup I (ra.rep k.toNat) (by rw [PyProof.Rows.lm_len_rep_flat, sizeLine_eq]; omega) q (t' := s.toks)
end
end DL
namespace DL
open PySem
/-- the name that the code objects of the table at an address bear -/
def nameAt (_ : Addr) : Str := "_law_first_known.<locals>.<lambda>"
end DL
namespace DL
open PySem PySem.Spec PyProof.Rows L2 LamX
abbrev TL := List Addr
/-- tables whose code objects bear their names -/
def Tabs (T : TL) (H : Hp) : Prop := ∀ P ∈ T, TabS H P (nameAt P)
theorem Tabs.ext {T : TL} {H H' : Hp} (t : Tabs T H) (e : ∀ b o, H b = some o → H' b = some o) : Tabs T H' := fun p hp => (t p hp).ext e
/-- the frozen part of the heap, and the tables of code objects -/
structure Fg where
  K : PySem.W.Frag
  T : TL
instance : Coe Fg PySem.W.Frag := ⟨Fg.K⟩
@[reducible] def _root_.L2.Cx.D (X : Cx) (T : TL) : Fg := ⟨X.K, T⟩
def TupD (H : Hp) (a : Addr) (xs : List V) : Prop := ∃ o, H a = some (.frz o (.tup xs)) ∧ PlainT o
theorem TupD.sq {K : PySem.W.Frag} {H : Hp} {a : Addr} {xs : List V} (h : TupD H a xs) : SqT K H a xs := by
  obtain ⟨o, h, _⟩ := h
  exact .inl (.inr ⟨o, h⟩)
/-- a dict with ints and texts as keys, read; a loop may walk it -/
structure DicD (H : Hp) (a : Addr) (kvs : List (Key × V)) : Prop where
  rd : Rd H a (.dK kvs)
def keyD : Key → PyData
  | .inl i => .int i
  | .inr x => .str x
mutual
/-- v is the data d in the heap H; no list or dict of it stands in W -/
inductive Dq (K : Fg) (H : Hp) (W : List Addr) : V → PyData → Prop
  | non : Dq K H W .non .none
  | bl (b : Bool) : Dq K H W (.bl b) (.bool b)
  | int (i : Int) : Dq K H W (.int i) (.int i)
  | str (x : Str) : Dq K H W (.str x) (.str x)
  | lst {a : Addr} {xs : List V} {ds : List PyData} : a ∉ W → H a = some (.lst xs) → DqA K H W xs ds → Dq K H W (.ref a) (.list ds)
  | tup {a : Addr} {xs : List V} {ds : List PyData} : TupD H a xs → DqA K H W xs ds → Dq K H W (.ref a) (.tuple ds)
  | dic {a : Addr} {kvs : List (Key × V)} {ds : List (PyData × PyData)} : a ∉ W → DicD H a kvs → DqK K H W kvs ds → Dq K H W (.ref a) (.dict ds)
inductive DqA (K : Fg) (H : Hp) (W : List Addr) : List V → List PyData → Prop
  | nil : DqA K H W [] []
  | cons {v : V} {d : PyData} {vs : List V} {ds : List PyData} : Dq K H W v d → DqA K H W vs ds → DqA K H W (v :: vs) (d :: ds)
inductive DqK (K : Fg) (H : Hp) (W : List Addr) : List (Key × V) → List (PyData × PyData) → Prop
  | nil : DqK K H W [] []
  | cons {k : Key} {v : V} {d : PyData} {vs : List (Key × V)} {ds : List (PyData × PyData)} : Dq K H W v d → DqK K H W vs ds → DqK K H W ((k, v) :: vs) ((keyD k, d) :: ds)
end
/-- what stands at the addresses outside M stays -/
structure Keep (M : List Addr) (H H' : Hp) : Prop where
  old : ∀ b o, H b = some o → b ∉ M → (∀ ps, o ≠ .tbl ps) → H' b = some o
  tab : ∀ T, Tabs T H → Tabs T H'
  nn : ∀ a, H a ≠ none → H' a ≠ none
theorem Keep.at {M : List Addr} {H H' : Hp} (k : Keep M H H') {b : Addr} {o : HO} (e : H b = some o) (hb : b ∉ M) (ho : ∀ ps, o ≠ .tbl ps := by intro _ z; cases z) : H' b = some o := k.old b o e hb ho
theorem TabS.extB {H H' : Hp} {P : Addr} {q : Str} (t : TabS H P q) (e : ∀ b o, H b = some o → ((∃ ps, o = .tbl ps) ∨ ∃ c q, o = CodeO c q) → H' b = some o) : TabS H' P q := by
  obtain ⟨ps, h1, h2, h3⟩ := t
  refine ⟨ps, e _ _ h1 (.inl ⟨_, rfl⟩), h2, fun pos cv hc => ?_⟩
  obtain ⟨c, e1, e2⟩ := h3 pos cv hc
  exact ⟨c, e1, e _ _ e2 (.inr ⟨_, _, rfl⟩)⟩
/-- a dict whose keys are tuples of ints, None and such tuples; its entries: key, the key's address, value -/
def DicF (a : Addr) (es : List (NestedKey × Addr × V)) (h : Heap) : Prop := (a == sysModules) = false ∧ es.length ≤ sizeLine ∧ ∃ (w : World) (o : Obj) (arr : Array DictEntry) (ep : Nat) (xs : List (NestedKey × Addr × Value)), h.get? a = some o ∧ o.ExactDict ∧ o.data = .dict arr ep ∧
  Paired (fun (p : NestedKey × Addr × V) (q : NestedKey × Addr × Value) => p.1 = q.1 ∧ p.2.1 = q.2.1 ∧ RelV p.2.2 q.2.2) es xs ∧ arr.toList = xs.map (fun x => (⟨x.1.hash w, .ref x.2.1, x.2.2⟩ : DictEntry)) ∧ (es.map (·.1)).Nodup
def DicO (a : Addr) (es : List (NestedKey × Addr × V)) : HO := .ext (DicF a es)
/-- what a frame may own: a list, a dict -/
inductive OwnO : HO → Prop
  | lst (vs : List V) : OwnO (.lst vs)
  | dK (kvs : List (Key × V)) : OwnO (.dK kvs)
  | dT (a : Addr) (es : List (NestedKey × Addr × V)) : OwnO (DicO a es)
theorem dic_not_code {a c : Addr} {es : List (NestedKey × Addr × V)} {q : Str} (z : DicO a es = CodeO c q) : False := by
  have e : DicF a es = fun h => ∃ (oc : Obj) (vs : Array Value) (t : Tok), h.get? c = some oc ∧ oc.data = .fields vs ∧ vs[1]? = some (.str q t) := by
    unfold DicO CodeO at z
    injection z
  let oc : Obj := { cls := .none, data := .fields #[.none, .str q 0] }
  let h : Heap := { objs := Array.replicate (c + 1) oc }
  have gg : ∀ b, h.get? b = if b < c + 1 then some oc else none := fun b => by
    show (match (Array.replicate (c + 1) oc)[b]? with
      | some ⟨_, _, .freed, _⟩ => none
      | x => x) = _
    rw [Array.getElem?_replicate]
    by_cases z : b < c + 1
    · rw [if_pos z]
    · rw [if_neg z]
  have g : ∀ b o, h.get? b = some o → o = oc := fun b o e => by
    rw [gg] at e
    split at e <;> cases e
    rfl
  have gc : h.get? c = some oc := by rw [gg, if_pos (Nat.lt_succ_self c)]
  have h1 : DicF a es h := by
    rw [e]
    exact ⟨oc, #[.none, .str q 0], 0, gc, rfl, rfl⟩
  obtain ⟨_, _, _, o, arr, ep, _, g1, _, g2, _⟩ := h1
  rw [g a o g1] at g2
  cases g2
theorem OwnO.not_frz {o : Obj} {u : HO} (h : OwnO (.frz o u)) : False := by
  generalize e : HO.frz o u = x at h
  cases h <;> cases e
theorem OwnO.not_tup {xs : List V} (h : OwnO (.tup xs)) : False := by
  generalize e : HO.tup xs = x at h
  cases h <;> cases e
theorem OwnO.ntbl {u : HO} (h : OwnO u) : ∀ ps, u ≠ .tbl ps := by
  intro ps e
  cases h <;> cases e
theorem OwnO.ncode {u : HO} (h : OwnO u) {c : Addr} {q : Str} : u ≠ CodeO c q := by
  intro e
  cases h with
  | lst vs => cases e
  | dK vs => cases e
  | dT a es => exact dic_not_code e
def Lists (H : Hp) (M : List Addr) : Prop := ∀ a ∈ M, ∃ u, H a = some u ∧ OwnO u
theorem Rd.ne_none {H : Hp} {a : Addr} {u : HO} (h : Rd H a u) : H a ≠ none := by
  rcases h with h | ⟨o, h⟩ <;> rw [h] <;> exact fun e => nomatch e
theorem Rd.keep {H H' : Hp} {M : List Addr} {a : Addr} {u : HO} (hu : ∀ ps, u ≠ .tbl ps) (k : Keep M H H') (ha : a ∉ M) (h : Rd H a u) : Rd H' a u := by
  rcases h with h | ⟨o, h⟩
  · exact .inl (k.old _ _ h ha hu)
  · exact .inr ⟨o, k.at h ha⟩
theorem DicD.ne {H : Hp} {a : Addr} {kvs : List (Key × V)} (h : DicD H a kvs) : H a ≠ none := Rd.ne_none h.rd
theorem DicD.keep {H H' : Hp} {M : List Addr} (k : Keep M H H') {a : Addr} {kvs : List (Key × V)} (h : DicD H a kvs) (ha : a ∉ M) : DicD H' a kvs := ⟨Rd.keep (fun _ z => nomatch z) k ha h.rd⟩
theorem TupD.keep {H H' : Hp} {M : List Addr} (hM : Lists H M) (k : Keep M H H') {a : Addr} {xs : List V} (h : TupD H a xs) : TupD H' a xs := by
  obtain ⟨o, h, p⟩ := h
  refine ⟨o, k.at h fun hm => ?_, p⟩
  obtain ⟨u, e, ou⟩ := hM a hm
  rw [h] at e; cases e; exact ou.not_frz
theorem SqT.keep {K : PySem.W.Frag} {H H' : Hp} {M : List Addr} (hM : Lists H M) (k : Keep M H H') {a : Addr} {xs : List V} (h : SqT K H a xs) : SqT K H' a xs := by
  rcases h with (h | ⟨o, h⟩) | h
  · refine .inl (.inl (k.at h fun hm => ?_))
    obtain ⟨u, e, ou⟩ := hM a hm
    rw [h] at e; cases e; exact ou.not_tup
  · refine .inl (.inr ⟨o, k.at h fun hm => ?_⟩)
    obtain ⟨u, e, ou⟩ := hM a hm
    rw [h] at e; cases e; exact ou.not_frz
  · exact .inr h
section
variable {K : Fg} {H H' : Hp} {W W' M : List Addr}
mutual
/-- the heap turns outside of what is read; other addresses are shut out -/
theorem Dq.move (hM : Lists H M) (hW : ∀ a ∈ M, a ∈ W) (k : Keep M H H') (hw : ∀ a ∈ W', a ∈ W ∨ H a = none) : ∀ {v : V} {d : PyData}, Dq K H W v d → Dq K H' W' v d
  | _, _, .non => .non
  | _, _, .bl b => .bl b
  | _, _, .int i => .int i
  | _, _, .str x => .str x
  | _, _, .lst h1 h2 h3 => .lst (fun hm => (hw _ hm).elim h1 (fun e => by rw [h2] at e; cases e)) (k.at h2 fun hm => h1 (hW _ hm)) (DqA.move hM hW k hw h3)
  | _, _, .tup h2 h3 => .tup (TupD.keep hM k h2) (DqA.move hM hW k hw h3)
  | _, _, .dic h1 h2 h3 => .dic (fun hm => (hw _ hm).elim h1 (fun e => h2.ne e)) (h2.keep k fun hm => h1 (hW _ hm)) (DqK.move hM hW k hw h3)
theorem DqA.move (hM : Lists H M) (hW : ∀ a ∈ M, a ∈ W) (k : Keep M H H') (hw : ∀ a ∈ W', a ∈ W ∨ H a = none) : ∀ {v : List V} {d : List PyData}, DqA K H W v d → DqA K H' W' v d
  | _, _, .nil => .nil
  | _, _, .cons h1 h2 => .cons (Dq.move hM hW k hw h1) (DqA.move hM hW k hw h2)
theorem DqK.move (hM : Lists H M) (hW : ∀ a ∈ M, a ∈ W) (k : Keep M H H') (hw : ∀ a ∈ W', a ∈ W ∨ H a = none) : ∀ {v : List (Key × V)} {d : List (PyData × PyData)}, DqK K H W v d → DqK K H' W' v d
  | _, _, .nil => .nil
  | _, _, .cons h1 h2 => .cons (Dq.move hM hW k hw h1) (DqK.move hM hW k hw h2)
end
theorem keep_refl : Keep M H H := ⟨fun _ _ h _ _ => h, fun _ h => h, fun _ h => h⟩
theorem lists_nil : Lists H [] := fun _ h => nomatch h
theorem Dq.sub (hw : ∀ a ∈ W', a ∈ W) {v : V} {d : PyData} (h : Dq K H W v d) : Dq K H W' v d := h.move (M := []) lists_nil (fun _ z => nomatch z) keep_refl fun a z => .inl (hw a z)
theorem DqA.sub (hw : ∀ a ∈ W', a ∈ W) {v : List V} {d : List PyData} (h : DqA K H W v d) : DqA K H W' v d := h.move (M := []) lists_nil (fun _ z => nomatch z) keep_refl fun a z => .inl (hw a z)
theorem DqA.length : ∀ {vs : List V} {ds : List PyData}, DqA K H W vs ds → vs.length = ds.length
  | _, _, .nil => rfl
  | _, _, .cons _ h => by rw [List.length_cons, List.length_cons, h.length]
theorem DqA.append : ∀ {vs ws : List V} {ds es : List PyData}, DqA K H W vs ds → DqA K H W ws es → DqA K H W (vs ++ ws) (ds ++ es)
  | _, _, _, _, .nil, h => h
  | _, _, _, _, .cons h1 h2, h => .cons h1 (h2.append h)
theorem DqA.get : ∀ {vs : List V} {ds : List PyData} {i : Nat} {d : PyData}, DqA K H W vs ds → ds[i]? = some d → ∃ v, vs[i]? = some v ∧ Dq K H W v d
  | _, _, _, _, .nil, e => by simp at e
  | _, _, 0, _, .cons h1 h2, e => by
    simp at e; subst e
    exact ⟨_, rfl, h1⟩
  | _, _, i + 1, _, .cons h1 h2, e => by
    obtain ⟨v, e1, h⟩ := DqA.get (i := i) h2 (by simpa using e)
    exact ⟨v, by simpa using e1, h⟩
theorem DqA.take : ∀ {vs : List V} {ds : List PyData} (n : Nat), DqA K H W vs ds → DqA K H W (vs.take n) (ds.take n)
  | _, _, 0, _ => .nil
  | _, _, _ + 1, .nil => .nil
  | _, _, n + 1, .cons h1 h2 => .cons h1 (DqA.take n h2)
theorem DqA.drop : ∀ {vs : List V} {ds : List PyData} (n : Nat), DqA K H W vs ds → DqA K H W (vs.drop n) (ds.drop n)
  | _, _, 0, h => h
  | _, _, _ + 1, .nil => .nil
  | _, _, n + 1, .cons h1 h2 => DqA.drop n h2
theorem DqA.set {v : V} {d : PyData} (h : Dq K H W v d) : ∀ {vs : List V} {ds : List PyData} (n : Nat), DqA K H W vs ds → DqA K H W (vs.set n v) (ds.set n d)
  | _, _, _, .nil => .nil
  | _, _, 0, .cons h1 h2 => .cons h h2
  | _, _, n + 1, .cons h1 h2 => .cons h1 (DqA.set h n h2)
theorem DqA.ints : ∀ {vs : List V} {ns : List Int}, DqA K H W vs (ns.map .int) → vs = ns.map V.int
  | _, [], h => by cases h; rfl
  | _, n :: ns, h => by
    cases h with
    | cons h1 h2 =>
      cases h1
      rw [DqA.ints h2]; rfl
theorem DqA.of_ints : ∀ (ns : List Int), DqA K H W (ns.map V.int) (ns.map .int)
  | [] => .nil
  | n :: ns => .cons (.int n) (DqA.of_ints ns)
end
section
mutual
/-- data as a key of a dict: ints, truths, None, tuples of such -/
def nkey : PyData → Option NestedKey
  | .none => some .none
  | .bool b => some (.num (if b = true then 1 else 0))
  | .int i => some (.num i)
  | .tuple ds => (nkeys ds).map .tup
  | .str _ => none
  | .list _ => none
  | .dict _ => none
def nkeys : List PyData → Option (List NestedKey)
  | [] => some []
  | d :: ds => (nkey d).bind fun k => (nkeys ds).map fun ks => k :: ks
end
variable {K : Fg} {H H' : Hp} {W W' M : List Addr}
/-- the entries of a dict with tuples as keys -/
inductive DqT (K : Fg) (H : Hp) (W : List Addr) : List (NestedKey × Addr × V) → List (PyData × PyData) → Prop
  | nil : DqT K H W [] []
  | cons {k : NestedKey} {b : Addr} {v : V} {dk dv : PyData} {es : List (NestedKey × Addr × V)} {ds : List (PyData × PyData)} : Dq K H W (.ref b) dk → nkey dk = some k → k.depth ≤ 8 → Dq K H W v dv → DqT K H W es ds → DqT K H W ((k, b, v) :: es) ((dk, dv) :: ds)
theorem DqT.move (hM : Lists H M) (hW : ∀ a ∈ M, a ∈ W) (k : Keep M H H') (hw : ∀ a ∈ W', a ∈ W ∨ H a = none) : ∀ {v : List (NestedKey × Addr × V)} {d : List (PyData × PyData)}, DqT K H W v d → DqT K H' W' v d
  | _, _, .nil => .nil
  | _, _, .cons h1 h2 h3 h4 h5 => .cons (h1.move hM hW k hw) h2 h3 (h4.move hM hW k hw) (DqT.move hM hW k hw h5)
/-- the object u at a is a dict with the pairs ds; t: its keys are tuples, otherwise ints and texts -/
def HasD (K : Fg) (H : Hp) (W : List Addr) (t : Bool) (a : Addr) (u : HO) (ds : List (PyData × PyData)) : Prop := match t with
  | true => ∃ es, u = DicO a es ∧ DqT K H W es ds
  | false => ∃ kvs, u = .dK kvs ∧ DqK K H W kvs ds
theorem HasD.move {t : Bool} {a : Addr} {u : HO} {ds : List (PyData × PyData)} (hM : Lists H M) (hW : ∀ a ∈ M, a ∈ W) (k : Keep M H H') (hw : ∀ a ∈ W', a ∈ W ∨ H a = none) (h : HasD K H W t a u ds) : HasD K H' W' t a u ds := by
  cases t with
  | true => obtain ⟨es, e, h⟩ := h; exact ⟨es, e, h.move hM hW k hw⟩
  | false => obtain ⟨es, e, h⟩ := h; exact ⟨es, e, h.move hM hW k hw⟩
theorem HasD.sub {t : Bool} {a : Addr} {u : HO} {ds : List (PyData × PyData)} (hw : ∀ a ∈ W', a ∈ W) (h : HasD K H W t a u ds) : HasD K H W' t a u ds := h.move (M := []) lists_nil (fun _ z => nomatch z) keep_refl fun a z => .inl (hw a z)
theorem HasD.own {t : Bool} {a : Addr} {u : HO} {ds : List (PyData × PyData)} (h : HasD K H W t a u ds) : OwnO u := by
  cases t with
  | true => obtain ⟨es, rfl, h⟩ := h; exact .dT _ _
  | false => obtain ⟨es, rfl, h⟩ := h; exact .dK _
end
/-- a slot: nothing known; closed data; an open list of this frame; an open list handed in -/
inductive Cell where
  | no | cl (d : PyData) | op (ds : List PyData) | pm (ds : List PyData)
  /-- an open dict of this frame; t: its keys are tuples -/
  | dk (t : Bool) (ds : List (PyData × PyData))
def Cell.isOpen : Cell → Bool
  | .op _ | .pm _ | .dk _ _ => true
  | _ => false
def CellOk (K : Fg) (P B L : List Addr) (H : Hp) (o : Option (Option V)) : Cell → Prop
  | .no => True
  | .cl d => ∃ v, o = some (some v) ∧ Dq K H (P ++ B ++ L) v d
  | .op ds => ∃ a vs, o = some (some (.ref a)) ∧ a ∈ L ∧ H a = some (.lst vs) ∧ DqA K H (P ++ B ++ L) vs ds
  | .pm ds => ∃ a vs, o = some (some (.ref a)) ∧ a ∈ B ∧ H a = some (.lst vs) ∧ DqA K H (P ++ B ++ L) vs ds
  | .dk t ds => ∃ a u, o = some (some (.ref a)) ∧ a ∈ L ∧ H a = some u ∧ HasD K H (P ++ B ++ L) t a u ds
abbrev Env := List Cell
structure Rep (K : Fg) (P B L : List Addr) (σ : L2.St) (ρ : DL.Env) (H : Hp) : Prop where
  len : σ.length = ρ.length
  wl : Lists H (P ++ B ++ L)
  nd : (∀ a ∈ P, a ∉ B ∧ a ∉ L) ∧ ∀ a ∈ B, a ∉ L
  ok : ∀ i, CellOk K P B L H σ[i]? (ρ.getD i .no)
  inj : ∀ i j (a : Addr), i ≠ j → (ρ.getD i .no).isOpen = true → (ρ.getD j .no).isOpen = true → σ[i]? = some (some (V.ref a)) → σ[j]? = some (some (V.ref a)) → False
  tabs : Tabs K.T H
structure Step (B L : List Addr) (H : Hp) (L' : List Addr) (H' : Hp) : Prop where
  keep : Keep (B ++ L) H H'
  lsub : ∀ a ∈ L', a ∈ L ∨ H a = none
  ne : ∀ a, H a ≠ none → H' a ≠ none
theorem Step.refl {B L : List Addr} {H : Hp} : Step B L H L H := ⟨keep_refl, fun _ h => .inl h, fun _ h => h⟩
theorem Step.trans {B L L1 L2 : List Addr} {H H1 H2 : Hp} (a : Step B L H L1 H1) (b : Step B L1 H1 L2 H2) : Step B L H L2 H2 where
  keep := by
    refine ⟨fun c o e hm ho => ?_, fun T t => b.keep.tab T (a.keep.tab T t), fun c h => b.ne c (a.ne c h)⟩
    refine b.keep.old c o (a.keep.old c o e hm ho) (fun hm' => hm ?_) ho
    rcases List.mem_append.mp hm' with h | h
    · exact List.mem_append_left _ h
    · rcases a.lsub c h with h | h
      · exact List.mem_append_right _ h
      · rw [e] at h; cases h
  lsub := fun c hc => by
    rcases b.lsub c hc with h | h
    · exact a.lsub c h
    · right
      cases e : H c with
      | none => rfl
      | some o => exact absurd h (a.ne c (by rw [e]; exact fun z => nomatch z))
  ne := fun c h => b.ne c (a.ne c h)
theorem Step.of_same {B L : List Addr} {H H' : Hp} (k : Keep [] H H') : Step B L H L H' := ⟨⟨fun b o e _ ho => k.old b o e (fun z => nomatch z) ho, k.tab, k.nn⟩, fun _ h => .inl h, k.nn⟩
theorem Keep.mono {M M' : List Addr} {H H' : Hp} (k : Keep M H H') (h : ∀ a ∈ M, a ∈ M') : Keep M' H H' := ⟨fun b o e hm ho => k.old b o e (fun z => hm (h b z)) ho, k.tab, k.nn⟩
theorem Keep.new {H : Hp} {p : Addr} {o : HO} (hp : H p = none) : Keep [] H (upd H p o) := ⟨fun b u e _ _ => by
  rw [upd_ne (ne_of_none e hp)]; exact e, fun T t => t.ext fun b u e => by
  rw [upd_ne (ne_of_none e hp)]; exact e, fun b h => by
  by_cases q : b = p
  · subst q; exact absurd hp h
  · rw [upd_ne q]; exact h⟩
theorem Keep.tr {H H1 H2 : Hp} (a : Keep [] H H1) (b : Keep [] H1 H2) : Keep [] H H2 := ⟨fun c o e z ho => b.old c o (a.old c o e z ho) z ho, fun T t => b.tab T (a.tab T t), fun c h => b.nn c (a.nn c h)⟩
section
variable {K : Fg} {P B L E : List Addr} {σ : L2.St} {ρ : DL.Env} {H H' : Hp}
theorem mem3 {a : Addr} {P B L : List Addr} : a ∈ P ++ B ++ L ↔ a ∈ P ∨ a ∈ B ∨ a ∈ L := by
  rw [List.mem_append, List.mem_append, or_assoc]
/-- the heap grows; new lists are shut out -/
theorem Rep.moveD (R : Rep K P B L σ ρ H) (k : Keep [] H H') (he : ∀ a ∈ E, H a = none ∧ ∃ u, H' a = some u ∧ OwnO u) : Rep K (E ++ P) B L σ ρ H' := by
  have hw : ∀ a ∈ (E ++ P) ++ B ++ L, a ∈ P ++ B ++ L ∨ H a = none := fun a h => by
    rcases mem3.mp h with h | h | h
    · rcases List.mem_append.mp h with h | h
      · exact .inr (he a h).1
      · exact .inl (mem3.mpr (.inl h))
    · exact .inl (mem3.mpr (.inr (.inl h)))
    · exact .inl (mem3.mpr (.inr (.inr h)))
  have mv : ∀ {v : V} {d : PyData}, Dq K H (P ++ B ++ L) v d → Dq K H' ((E ++ P) ++ B ++ L) v d := fun h => h.move lists_nil (fun _ z => nomatch z) k hw
  have mvA : ∀ {v : List V} {d : List PyData}, DqA K H (P ++ B ++ L) v d → DqA K H' ((E ++ P) ++ B ++ L) v d := fun h => h.move lists_nil (fun _ z => nomatch z) k hw
  have ne : ∀ a, a ∈ E → a ∉ P ++ B ++ L := fun a h hm => by
    obtain ⟨vs, e, _⟩ := R.wl a hm
    rw [(he a h).1] at e; cases e
  refine ⟨R.len, fun a h => ?_, ⟨fun a h => ?_, R.nd.2⟩, fun i => ?_, R.inj, k.tab _ R.tabs⟩
  · rcases mem3.mp h with h | h | h
    · rcases List.mem_append.mp h with h | h
      · exact (he a h).2
      · obtain ⟨vs, e, ou⟩ := R.wl a (mem3.mpr (.inl h))
        exact ⟨vs, k.at e (fun z => nomatch z) ou.ntbl, ou⟩
    · obtain ⟨vs, e, ou⟩ := R.wl a (mem3.mpr (.inr (.inl h)))
      exact ⟨vs, k.at e (fun z => nomatch z) ou.ntbl, ou⟩
    · obtain ⟨vs, e, ou⟩ := R.wl a (mem3.mpr (.inr (.inr h)))
      exact ⟨vs, k.at e (fun z => nomatch z) ou.ntbl, ou⟩
  · rcases List.mem_append.mp h with h | h
    · exact ⟨fun z => ne a h (mem3.mpr (.inr (.inl z))), fun z => ne a h (mem3.mpr (.inr (.inr z)))⟩
    · exact R.nd.1 a h
  · have q := R.ok i
    revert q
    generalize ρ.getD i .no = c
    intro q
    cases c with
    | no => trivial
    | cl d => obtain ⟨v, e, h⟩ := q; exact ⟨v, e, mv h⟩
    | op ds => obtain ⟨a, vs, e, hm, hh, h⟩ := q; exact ⟨a, vs, e, hm, k.at hh (fun z => nomatch z), mvA h⟩
    | pm ds => obtain ⟨a, vs, e, hm, hh, h⟩ := q; exact ⟨a, vs, e, hm, k.at hh (fun z => nomatch z), mvA h⟩
    | dk t ds => obtain ⟨a, vs, e, hm, hh, h⟩ := q; exact ⟨a, vs, e, hm, k.at hh (fun z => nomatch z) h.own.ntbl, h.move lists_nil (fun _ z => nomatch z) k hw⟩
theorem Rep.move (R : Rep K P B L σ ρ H) (k : Keep [] H H') (he : ∀ a ∈ E, H a = none ∧ ∃ vs, H' a = some (.lst vs)) : Rep K (E ++ P) B L σ ρ H' := R.moveD k fun a z => ⟨(he a z).1, let ⟨vs, e⟩ := (he a z).2; ⟨_, e, .lst vs⟩⟩
theorem Rep.same (R : Rep K P B L σ ρ H) (k : Keep [] H H') : Rep K P B L σ ρ H' := R.move (E := []) k (fun _ z => nomatch z)
theorem Rep.drop (R : Rep K (E ++ P) B L σ ρ H) : Rep K P B L σ ρ H := by
  have hs : ∀ a ∈ P ++ B ++ L, a ∈ (E ++ P) ++ B ++ L := fun a h => by
    rcases mem3.mp h with h | h | h
    · exact mem3.mpr (.inl (List.mem_append_right _ h))
    · exact mem3.mpr (.inr (.inl h))
    · exact mem3.mpr (.inr (.inr h))
  refine ⟨R.len, fun a h => R.wl a (hs a h), ⟨fun a h => R.nd.1 a (List.mem_append_right _ h), R.nd.2⟩, fun i => ?_, R.inj, R.tabs⟩
  have q := R.ok i
  revert q
  generalize ρ.getD i .no = c
  intro q
  cases c with
  | no => trivial
  | cl d => obtain ⟨v, e, h⟩ := q; exact ⟨v, e, h.sub hs⟩
  | op ds => obtain ⟨a, vs, e, hm, hh, h⟩ := q; exact ⟨a, vs, e, hm, hh, h.sub hs⟩
  | pm ds => obtain ⟨a, vs, e, hm, hh, h⟩ := q; exact ⟨a, vs, e, hm, hh, h.sub hs⟩
  | dk t ds => obtain ⟨a, vs, e, hm, hh, h⟩ := q; exact ⟨a, vs, e, hm, hh, h.sub hs⟩
theorem Rep.lbl (R : Rep K P B L σ ρ H) : Lists H (B ++ L) := fun a h => R.wl a (mem3.mpr (.inr (List.mem_append.mp h)))
/-- closed data across a step -/
theorem Dq.step {L' : List Addr} (R : Rep K P B L σ ρ H) (s : Step B L H L' H') {v : V} {d : PyData} (h : Dq K H (P ++ B ++ L) v d) : Dq K H' (P ++ B ++ L') v d :=
  h.move R.lbl (fun a z => mem3.mpr (.inr (List.mem_append.mp z))) s.keep fun a z => by
    rcases mem3.mp z with z | z | z
    · exact .inl (mem3.mpr (.inl z))
    · exact .inl (mem3.mpr (.inr (.inl z)))
    · exact (s.lsub a z).imp (fun z => mem3.mpr (.inr (.inr z))) id
theorem DqA.step {L' : List Addr} (R : Rep K P B L σ ρ H) (s : Step B L H L' H') {v : List V} {d : List PyData} (h : DqA K H (P ++ B ++ L) v d) : DqA K H' (P ++ B ++ L') v d :=
  h.move R.lbl (fun a z => mem3.mpr (.inr (List.mem_append.mp z))) s.keep fun a z => by
    rcases mem3.mp z with z | z | z
    · exact .inl (mem3.mpr (.inl z))
    · exact .inl (mem3.mpr (.inr (.inl z)))
    · exact (s.lsub a z).imp (fun z => mem3.mpr (.inr (.inr z))) id
end
/-- closed data; a list made just now, held by nobody; the open list of a slot -/
inductive Val where
  | cl (d : PyData) | own (ds : List PyData) | sl (i : Nat)
def VR (K : Fg) (E P B L : List Addr) (σ : L2.St) (H : Hp) (x : V) : Val → Prop
  | .cl d => Dq K H (E ++ P ++ B ++ L) x d
  | .own ds => ∃ a vs, x = V.ref a ∧ a ∈ E ∧ a ∉ P ∧ H a = some (.lst vs) ∧ DqA K H (E ++ P ++ B ++ L) vs ds
  | .sl i => σ[i]? = some (some x)
theorem app_assoc3 (E P B L : List Addr) : E ++ P ++ B ++ L = E ++ (P ++ B ++ L) := by simp
theorem mem4 {a : Addr} {E P B L : List Addr} : a ∈ E ++ P ++ B ++ L ↔ a ∈ E ∨ a ∈ P ∨ a ∈ B ∨ a ∈ L := by
  rw [app_assoc3, List.mem_append, mem3]
structure Post (K : Fg) (P B L : List Addr) (σ : L2.St) (H : Hp) (E : List Addr) (ρ' : DL.Env) (H' : Hp) (L' E' : List Addr) : Prop where
  rep : Rep K (E' ++ P) B L' σ ρ' H'
  step : Step B L H L' H'
  esub : ∀ a ∈ E', a ∈ E ∨ H a = none
section
variable {K : Fg} {P B L L' La Lb E E' E1 E2 : List Addr} {σ : L2.St} {ρ ρ' ρ1 ρ2 : DL.Env} {H H' H1 H2 : Hp} {x : V} {r : Val}
/-- what was reckoned first, behind what was reckoned then -/
theorem VR.later (R : Rep K (E1 ++ P) B La σ ρ1 H1) (p : Post K (E1 ++ P) B La σ H1 [] ρ2 H2 Lb E2) (h : VR K E1 P B La σ H1 x r) : VR K (E2 ++ E1) P B Lb σ H2 x r := by
  have hw : ∀ a ∈ (E2 ++ E1) ++ P ++ B ++ Lb, a ∈ E1 ++ P ++ B ++ La ∨ H1 a = none := fun a z => by
    rcases mem4.mp z with z | z | z | z
    · rcases List.mem_append.mp z with z | z
      · exact (p.esub a z).elim (fun q => nomatch q) .inr
      · exact .inl (mem4.mpr (.inl z))
    · exact .inl (mem4.mpr (.inr (.inl z)))
    · exact .inl (mem4.mpr (.inr (.inr (.inl z))))
    · exact (p.step.lsub a z).imp (fun q => mem4.mpr (.inr (.inr (.inr q)))) id
  have hM : ∀ a ∈ B ++ La, a ∈ E1 ++ P ++ B ++ La := fun a z => mem4.mpr (.inr (.inr (List.mem_append.mp z)))
  cases r with
  | cl d => exact Dq.move R.lbl hM p.step.keep hw h
  | own ds =>
    obtain ⟨a, vs, e, hm, hp, hh, h⟩ := h
    refine ⟨a, vs, e, List.mem_append_right _ hm, hp, p.step.keep.at hh fun z => ?_, DqA.move R.lbl hM p.step.keep hw h⟩
    have q := R.nd.1 a (List.mem_append_left _ hm)
    exact (List.mem_append.mp z).elim q.1 q.2
  | sl i => exact h
/-- what was reckoned last -/
theorem VR.last (R : Rep K (E1 ++ P) B La σ ρ1 H1) (h : VR K E2 (E1 ++ P) B Lb σ H2 x r) : VR K (E2 ++ E1) P B Lb σ H2 x r := by
  have ee : E2 ++ (E1 ++ P) ++ B ++ Lb = (E2 ++ E1) ++ P ++ B ++ Lb := by simp
  cases r with
  | cl d => exact (show Dq K H2 _ x d from ee ▸ (show Dq K H2 (E2 ++ (E1 ++ P) ++ B ++ Lb) x d from h))
  | own ds =>
    obtain ⟨a, vs, e, hm, hp, hh, h⟩ := h
    exact ⟨a, vs, e, List.mem_append_left _ hm, fun z => hp (List.mem_append_right _ z), hh, ee ▸ h⟩
  | sl i => exact h
theorem Post.two (p1 : Post K P B L σ H [] ρ1 H1 La E1) (p2 : Post K (E1 ++ P) B La σ H1 [] ρ2 H2 Lb E2) : Post K P B L σ H [] ρ2 H2 Lb (E2 ++ E1) where
  rep := by
    have ee : (E2 ++ E1) ++ P = E2 ++ (E1 ++ P) := by simp
    rw [ee]; exact p2.rep
  step := p1.step.trans p2.step
  esub := fun a h => by
    rcases List.mem_append.mp h with h | h
    · rcases p2.esub a h with h | h
      · exact nomatch h
      · right
        cases e : H a with
        | none => rfl
        | some o => exact absurd h (p1.step.ne a (by rw [e]; exact fun z => nomatch z))
    · exact p1.esub a h
theorem Post.then (p1 : Post K P B L σ H E ρ1 H1 La E1) (p2 : Post K P B La σ H1 E1 ρ2 H2 Lb E2) : Post K P B L σ H E ρ2 H2 Lb E2 where
  rep := p2.rep
  step := p1.step.trans p2.step
  esub := fun a h => by
    rcases p2.esub a h with h | h
    · exact p1.esub a h
    · right
      cases e : H a with
      | none => rfl
      | some o => exact absurd h (p1.step.ne a (by rw [e]; exact fun z => nomatch z))
end
end DL
namespace DL
open PySem PySem.Spec PyProof.Rows L2
abbrev ED := DL.Env → Option (Val × DL.Env)
abbrev AD := DL.Env → Option (List Val × DL.Env)
abbrev TD := DL.Env → Option (Bool × DL.Env)
def Cont (K : Fg) (P B L : List Addr) (σ : L2.St) (H : Hp) (E : List Addr) (ρ' : DL.Env) (r : Val) (Q : VK) : Prop :=
  ∀ x' H' L' E', Post K P B L σ H E ρ' H' L' E' → VR K E' P B L' σ H' x' r → Q x' H'
def RD (K : Fg) (f : ED) : TE := fun σ H Q => ∃ P B L ρ r ρ', Rep K P B L σ ρ H ∧ f ρ = some (r, ρ') ∧ Cont K P B L σ H [] ρ' r Q
def RT (K : Fg) (f : TD) : TT := fun σ H Q => ∃ P B L ρ b ρ', Rep K P B L σ ρ H ∧ f ρ = some (b, ρ') ∧ ∀ H' L' E', Post K P B L σ H [] ρ' H' L' E' → Q b H'
def Val.isOwn : Val → Bool
  | .own _ => true
  | _ => false
inductive VRs (K : Fg) (E P B L : List Addr) (σ : L2.St) (H : Hp) : List V → List Val → Prop
  | nil : VRs K E P B L σ H [] []
  | cons {x : V} {r : Val} {xs : List V} {rs : List Val} : VR K E P B L σ H x r → (r.isOwn = true → ∀ p ∈ xs.zip rs, p.2.isOwn = true → p.1 ≠ x) → VRs K E P B L σ H xs rs → VRs K E P B L σ H (x :: xs) (r :: rs)
def RA (K : Fg) (f : AD) : TA := fun σ H Q => ∃ P B L ρ rs ρ', Rep K P B L σ ρ H ∧ f ρ = some (rs, ρ') ∧ ∀ xs H' L' E', Post K P B L σ H [] ρ' H' L' E' → VRs K E' P B L' σ H' xs rs → Q xs H'
theorem _root_.L2.PE.imp {X : Cx} {e : Expr} {t t' : TE} (p : PE X e t) (h : ∀ σ H Q, t' σ H Q → t σ H Q) : PE X e t' := ⟨fun pins s σ H Q I q => p.run pins s σ H Q I (h σ H Q q)⟩
theorem _root_.L2.PT.imp {X : Cx} {e : Expr} {t t' : TT} (p : PT X e t) (h : ∀ σ H Q, t' σ H Q → t σ H Q) : PT X e t' := ⟨fun pins s σ H Q I q => p.run pins s σ H Q I (h σ H Q q)⟩
theorem _root_.L2.PA.imp {X : Cx} {e : List Expr} {t t' : TA} (p : PA X e t) (h : ∀ σ H Q, t' σ H Q → t σ H Q) : PA X e t' := ⟨fun pos pins s σ H Q I q => p.run pos pins s σ H Q I (h σ H Q q)⟩
theorem _root_.L2.PS.imp {X : Cx} {e : Stmt} {t t' : TS} (p : PS X e t) (h : ∀ D σ H, t' D σ H → t D σ H) : PS X e t' := ⟨fun pins s σ H Q I q => p.run pins s σ H Q I (h Q σ H q)⟩
theorem _root_.L2.PSs.imp {X : Cx} {e : List Stmt} {t t' : TS} (p : PSs X e t) (h : ∀ D σ H, t' D σ H → t D σ H) : PSs X e t' := ⟨fun pins s σ H Q I q => p.run pins s σ H Q I (h Q σ H q)⟩
section
variable {K : Fg} {P B L E : List Addr} {σ : L2.St} {ρ ρ' : DL.Env} {H : Hp} {x : V} {r : Val} {Q : VK}
theorem Post.refl (R : Rep K (E ++ P) B L σ ρ H) : Post K P B L σ H E ρ H L E := ⟨R, Step.refl, fun _ h => .inl h⟩
theorem Post.same {H' : Hp} (R : Rep K (E ++ P) B L σ ρ H) (k : Keep [] H H') : Post K P B L σ H E ρ H' L E := ⟨R.same k, Step.of_same k, fun _ h => .inl h⟩
theorem VR.same {H' : Hp} (k : Keep [] H H') (h : VR K E P B L σ H x r) : VR K E P B L σ H' x r := by
  cases r with
  | cl d => exact Dq.move lists_nil (fun _ z => nomatch z) k (fun _ z => .inl z) h
  | own ds => obtain ⟨a, vs, e, h1, h2, h3, h4⟩ := h; exact ⟨a, vs, e, h1, h2, k.at h3 (fun z => nomatch z), DqA.move lists_nil (fun _ z => nomatch z) k (fun _ z => .inl z) h4⟩
  | sl i => exact h
/-- an answer without a new object -/
theorem Cont.here (c : Cont K P B L σ H E ρ r Q) (R : Rep K (E ++ P) B L σ ρ H) (v : VR K E P B L σ H x r) : Q x H := c x H L E (.refl R) v
theorem Cont.tup {vs : List V} {ds : List PyData} {p : Addr} (c : Cont K P B L σ H E ρ (.cl (.tuple ds)) Q) (R : Rep K (E ++ P) B L σ ρ H) (h : DqA K H (E ++ P ++ B ++ L) vs ds) {ob : Obj} (hp : H p = none) (po : PlainT ob) : Q (.ref p) (upd H p (.frz ob (.tup vs))) := by
  refine c _ _ L E (.same R (Keep.new hp)) ?_
  exact Dq.tup ⟨ob, upd_same, po⟩ (DqA.move lists_nil (fun _ z => nomatch z) (Keep.new hp) (fun _ z => .inl z) h)
theorem Cont.lst {vs : List V} {ds : List PyData} {p : Addr} (c : Cont K P B L σ H E ρ (.own ds) Q) (R : Rep K (E ++ P) B L σ ρ H) (h : DqA K H (E ++ P ++ B ++ L) vs ds) (hp : H p = none) : Q (.ref p) (upd H p (.lst vs)) := by
  have q : Rep K ([p] ++ (E ++ P)) B L σ ρ (upd H p (.lst vs)) := R.move (Keep.new hp) fun a z => by
    have e : a = p := by simpa using z
    subst e
    exact ⟨hp, vs, upd_same⟩
  refine c _ _ L (p :: E) ⟨q, .of_same (Keep.new hp), fun a z => (List.mem_cons.mp z).elim (fun e => .inr (e ▸ hp)) .inl⟩ ?_
  refine ⟨p, vs, rfl, List.mem_cons_self, fun z => ?_, upd_same, ?_⟩
  · obtain ⟨us, e, _⟩ := R.wl p (mem3.mpr (.inl (List.mem_append_right _ z)))
    rw [hp] at e; cases e
  · refine DqA.move lists_nil (fun _ z => nomatch z) (Keep.new hp) (fun a z => ?_) h
    rcases List.mem_cons.mp (show a ∈ p :: (E ++ P ++ B ++ L) from z) with z | z
    · exact .inr (z ▸ hp)
    · exact .inl z
end
def seqOf (ρ : DL.Env) : Val → Option (Bool × List PyData)
  | .cl (.list ds) => some (true, ds)
  | .cl (.tuple ds) => some (false, ds)
  | .cl _ => none
  | .own ds => some (true, ds)
  | .sl i => match ρ.getD i .no with
    | .op ds => some (true, ds)
    | .pm ds => some (true, ds)
    | .cl (.list ds) => some (true, ds)
    | _ => none
def datOf (ρ : DL.Env) : Val → Option PyData
  | .cl d => some d
  | .own ds => some (.list ds)
  | .sl i => match ρ.getD i .no with
    | .op ds => some (.list ds)
    | .pm ds => some (.list ds)
    | .cl d => some d
    | _ => none
section
variable {K : Fg} {P B L E : List Addr} {σ : L2.St} {ρ ρ' : DL.Env} {H : Hp} {x : V} {r : Val}
theorem VR.list {ds : List PyData} (R : Rep K (E ++ P) B L σ ρ H) (v : VR K E P B L σ H x r) (e : seqOf ρ r = some (true, ds)) :
    ∃ a vs, x = V.ref a ∧ H a = some (.lst vs) ∧ DqA K H (E ++ P ++ B ++ L) vs ds := by
  cases r with
  | cl d =>
    cases d <;> simp [seqOf] at e
    subst e
    cases v with
    | lst h1 h2 h3 => exact ⟨_, _, rfl, h2, h3⟩
  | own es =>
    simp only [seqOf] at e
    cases e
    obtain ⟨a, vs, e1, _, _, h1, h2⟩ := v
    exact ⟨a, vs, e1, h1, h2⟩
  | sl i =>
    have q := R.ok i
    simp only [seqOf] at e
    revert q e
    generalize ρ.getD i .no = c
    intro e q
    cases c with
    | no => cases e
    | dk t es => cases e
    | op es =>
      cases e
      obtain ⟨a, vs, e1, _, h1, h2⟩ := q
      have e2 : some (some x) = some (some (V.ref a)) := (show σ[i]? = _ from v).symm.trans e1
      cases e2
      exact ⟨a, vs, rfl, h1, h2⟩
    | pm es =>
      cases e
      obtain ⟨a, vs, e1, _, h1, h2⟩ := q
      have e2 : some (some x) = some (some (V.ref a)) := (show σ[i]? = _ from v).symm.trans e1
      cases e2
      exact ⟨a, vs, rfl, h1, h2⟩
    | cl d =>
      cases d <;> simp at e
      subst e
      obtain ⟨y, e1, h1⟩ := q
      have e2 : some (some x) = some (some y) := (show σ[i]? = _ from v).symm.trans e1
      cases e2
      cases h1 with
      | lst h1 h2 h3 => exact ⟨_, _, rfl, h2, h3⟩
theorem VR.tuple {ds : List PyData} (v : VR K E P B L σ H x r) (e : seqOf ρ r = some (false, ds)) :
    ∃ a vs, x = V.ref a ∧ TupD H a vs ∧ DqA K H (E ++ P ++ B ++ L) vs ds := by
  cases r with
  | cl d =>
    cases d <;> simp [seqOf] at e
    subst e
    cases v with
    | tup h2 h3 => exact ⟨_, _, rfl, h2, h3⟩
  | own es => simp [seqOf] at e
  | sl i =>
    simp only [seqOf] at e
    revert e
    generalize ρ.getD i .no = c
    intro e
    cases c with
    | cl d => cases d <;> simp at e
    | _ => simp at e
theorem VR.dat {d : PyData} (R : Rep K (E ++ P) B L σ ρ H) (v : VR K E P B L σ H x r) (e : datOf ρ r = some d) : Dq K H [] x d := by
  have nil : ∀ {W : List Addr} {v : V} {d : PyData}, Dq K H W v d → Dq K H [] v d := fun h => h.sub (W' := []) fun a z => absurd z List.not_mem_nil
  have nilA : ∀ {W : List Addr} {v : List V} {d : List PyData}, DqA K H W v d → DqA K H [] v d := fun h => h.sub (W' := []) fun a z => absurd z List.not_mem_nil
  cases r with
  | cl d => cases e; exact nil v
  | own es =>
    cases e
    obtain ⟨a, vs, e1, _, _, h1, h2⟩ := v
    subst e1
    exact .lst (fun z => nomatch z) h1 (nilA h2)
  | sl i =>
    have q := R.ok i
    simp only [datOf] at e
    revert q e
    generalize ρ.getD i .no = c
    intro e q
    cases c with
    | no => cases e
    | dk t es => cases e
    | op es =>
      cases e
      obtain ⟨a, vs, e1, _, h1, h2⟩ := q
      have e2 : some (some x) = some (some (V.ref a)) := (show σ[i]? = _ from v).symm.trans e1
      cases e2
      exact .lst (fun z => nomatch z) h1 (nilA h2)
    | pm es =>
      cases e
      obtain ⟨a, vs, e1, _, h1, h2⟩ := q
      have e2 : some (some x) = some (some (V.ref a)) := (show σ[i]? = _ from v).symm.trans e1
      cases e2
      exact .lst (fun z => nomatch z) h1 (nilA h2)
    | cl d =>
      cases e
      obtain ⟨y, e1, h1⟩ := q
      have e2 : some (some x) = some (some y) := (show σ[i]? = _ from v).symm.trans e1
      cases e2
      exact nil h1
theorem VR.int {i : Int} (v : VR K E P B L σ H x (.cl (.int i))) : x = V.int i := by
  have h : Dq K H _ x (.int i) := v
  cases h; rfl
theorem VR.bl {b : Bool} (v : VR K E P B L σ H x (.cl (.bool b))) : x = V.bl b := by
  have h : Dq K H _ x (.bool b) := v
  cases h; rfl
theorem VR.str {b : Str} (v : VR K E P B L σ H x (.cl (.str b))) : x = V.str b := by
  have h : Dq K H _ x (.str b) := v
  cases h; rfl
theorem VR.non (v : VR K E P B L σ H x (.cl .none)) : x = V.non := by
  have h : Dq K H _ x .none := v
  cases h; rfl
end
def psV (ρ : DL.Env) : Val → Option (PyData × DL.Env)
  | .cl d => some (d, ρ)
  | .own ds => some (.list ds, ρ)
  | .sl i => match ρ.getD i .no with
    | .op ds => some (.list ds, ρ.set i (.cl (.list ds)))
    | .cl d => some (d, ρ)
    | _ => none
section
variable {K : Fg} {P B L E : List Addr} {σ : L2.St} {ρ ρ' : DL.Env} {H : Hp} {x : V} {r : Val}
def less (l : List Addr) (a : Addr) : List Addr := l.filter fun b => decide (b ≠ a)
theorem mem_less {l : List Addr} {a b : Addr} : b ∈ less l a ↔ b ∈ l ∧ b ≠ a := by simp [less]
/-- what the store leaves -/
structure Psd (K : Fg) (E P B L : List Addr) (σ : L2.St) (H : Hp) (x : V) (d : PyData) (ρ' : DL.Env) (E' L' : List Addr) : Prop where
  rep : Rep K (E' ++ P) B L' σ ρ' H
  dq : Dq K H (E' ++ P ++ B ++ L') x d
  es : ∀ a ∈ E', a ∈ E
  ls : ∀ a ∈ L', a ∈ L
theorem Rep.lessE (R : Rep K (E ++ P) B L σ ρ H) (E' : List Addr) (hs : ∀ a ∈ E', a ∈ E) : Rep K (E' ++ P) B L σ ρ H := by
  have hw : ∀ a ∈ (E' ++ P) ++ B ++ L, a ∈ (E ++ P) ++ B ++ L := fun a z => by
    rcases mem4.mp z with z | z | z | z
    · exact mem4.mpr (.inl (hs a z))
    · exact mem4.mpr (.inr (.inl z))
    · exact mem4.mpr (.inr (.inr (.inl z)))
    · exact mem4.mpr (.inr (.inr (.inr z)))
  refine ⟨R.len, fun a h => R.wl a (hw a h), ⟨fun a h => R.nd.1 a ?_, R.nd.2⟩, fun i => ?_, R.inj, R.tabs⟩
  · rcases List.mem_append.mp h with h | h
    · exact List.mem_append_left _ (hs a h)
    · exact List.mem_append_right _ h
  · have q := R.ok i
    revert q
    generalize ρ.getD i .no = c
    intro q
    cases c with
    | no => trivial
    | cl d => obtain ⟨v, e, h⟩ := q; exact ⟨v, e, h.sub hw⟩
    | op ds => obtain ⟨a, vs, e, hm, hh, h⟩ := q; exact ⟨a, vs, e, hm, hh, h.sub hw⟩
    | pm ds => obtain ⟨a, vs, e, hm, hh, h⟩ := q; exact ⟨a, vs, e, hm, hh, h.sub hw⟩
    | dk t ds => obtain ⟨a, vs, e, hm, hh, h⟩ := q; exact ⟨a, vs, e, hm, hh, h.sub hw⟩
theorem getD_set (ρ : DL.Env) (i j : Nat) (c : Cell) : (ρ.set i c).getD j .no = if i = j ∧ i < ρ.length then c else ρ.getD j .no := by
  rw [List.getD_eq_getElem?_getD, List.getD_eq_getElem?_getD, List.getElem?_set]
  by_cases h : i = j
  · subst h
    by_cases h2 : i < ρ.length
    · simp [h2]
    · simp [h2]
  · simp [h]
theorem psd_of {d : PyData} (R : Rep K (E ++ P) B L σ ρ H) (v : VR K E P B L σ H x r) (e : psV ρ r = some (d, ρ')) :
    ∃ E' L', Psd K E P B L σ H x d ρ' E' L' ∧ ∀ y s, VR K E P B L σ H y s → (r.isOwn = true → s.isOwn = true → y ≠ x) → VR K E' P B L' σ H y s := by
  cases r with
  | cl d' =>
    cases e
    exact ⟨E, L, ⟨R, v, fun _ z => z, fun _ z => z⟩, fun y s h _ => h⟩
  | own ds =>
    cases e
    obtain ⟨a, vs, rfl, hm, hp, hh, h⟩ := v
    have hw : ∀ b ∈ less E a ++ P ++ B ++ L, b ∈ E ++ P ++ B ++ L := fun b z => by
      rcases mem4.mp z with z | z | z | z
      · exact mem4.mpr (.inl (mem_less.mp z).1)
      · exact mem4.mpr (.inr (.inl z))
      · exact mem4.mpr (.inr (.inr (.inl z)))
      · exact mem4.mpr (.inr (.inr (.inr z)))
    have nd := R.nd.1 a (List.mem_append_left _ hm)
    refine ⟨less E a, L, ⟨R.lessE _ fun b z => (mem_less.mp z).1, .lst (fun z => ?_) hh (h.sub hw), fun b z => (mem_less.mp z).1, fun _ z => z⟩, fun y s q hn => ?_⟩
    · rcases mem4.mp z with z | z | z | z
      · exact (mem_less.mp z).2 rfl
      · exact hp z
      · exact nd.1 z
      · exact nd.2 z
    · cases s with
      | cl d => exact Dq.sub hw q
      | own es =>
        obtain ⟨b, us, e1, h1, h2, h3, h4⟩ := q
        exact ⟨b, us, e1, mem_less.mpr ⟨h1, fun z => hn rfl rfl (by rw [e1, z])⟩, h2, h3, h4.sub hw⟩
      | sl i => exact q
  | sl i =>
    have q := R.ok i
    simp only [psV] at e
    have hi : ∀ ds, ρ.getD i .no = .op ds → i < ρ.length := fun ds z => by
      by_cases h : i < ρ.length
      · exact h
      · rw [List.getD_eq_getElem?_getD, List.getElem?_eq_none (Nat.le_of_not_lt h)] at z
        cases z
    revert q e
    generalize hc : ρ.getD i .no = c
    intro e q
    cases c with
    | no => cases e
    | pm es => cases e
    | dk t es => cases e
    | cl d' =>
      cases e
      obtain ⟨y, e1, h1⟩ := q
      have e2 : some (some x) = some (some y) := (show σ[i]? = _ from v).symm.trans e1
      cases e2
      exact ⟨E, L, ⟨R, h1, fun _ z => z, fun _ z => z⟩, fun y s h _ => h⟩
    | op es =>
      cases e
      have hil := hi es hc
      obtain ⟨a, vs, e1, hm, hh, h⟩ := q
      have e2 : some (some x) = some (some (V.ref a)) := (show σ[i]? = _ from v).symm.trans e1
      cases e2
      have hw : ∀ b ∈ E ++ P ++ B ++ less L a, b ∈ E ++ P ++ B ++ L := fun b z => by
        rcases mem4.mp z with z | z | z | z
        · exact mem4.mpr (.inl z)
        · exact mem4.mpr (.inr (.inl z))
        · exact mem4.mpr (.inr (.inr (.inl z)))
        · exact mem4.mpr (.inr (.inr (.inr (mem_less.mp z).1)))
      have hd : Dq K H (E ++ P ++ B ++ less L a) (V.ref a) (.list es) := .lst (fun z => by
        rcases mem4.mp z with z | z | z | z
        · exact (R.nd.1 a (List.mem_append_left _ z)).2 hm
        · exact (R.nd.1 a (List.mem_append_right _ z)).2 hm
        · exact R.nd.2 a z hm
        · exact (mem_less.mp z).2 rfl) hh (h.sub hw)
      refine ⟨E, less L a, ⟨⟨by rw [List.length_set]; exact R.len, fun b z => R.wl b (hw b z), ⟨fun b z => ⟨(R.nd.1 b z).1, fun y => (R.nd.1 b z).2 (mem_less.mp y).1⟩, fun b z y => R.nd.2 b z (mem_less.mp y).1⟩, fun j => ?_, fun j k b hjk h1 h2 => ?_, R.tabs⟩, hd, fun _ z => z, fun b z => (mem_less.mp z).1⟩, fun y s q _ => ?_⟩
      · rw [getD_set]
        by_cases hj : i = j
        · subst hj
          rw [if_pos ⟨rfl, hil⟩]
          exact ⟨_, e1, hd⟩
        · rw [if_neg fun z => hj z.1]
          have q := R.ok j
          have inj := R.inj i j a hj (by rw [hc]; rfl)
          revert q inj
          generalize ρ.getD j .no = c
          intro q inj
          cases c with
          | no => trivial
          | cl d => obtain ⟨v, e, h⟩ := q; exact ⟨v, e, h.sub hw⟩
          | op ds =>
            obtain ⟨b, us, e3, h1, h2, h3⟩ := q
            exact ⟨b, us, e3, mem_less.mpr ⟨h1, fun z => inj rfl e1 (z ▸ e3)⟩, h2, h3.sub hw⟩
          | pm ds => obtain ⟨b, us, e3, h1, h2, h3⟩ := q; exact ⟨b, us, e3, h1, h2, h3.sub hw⟩
          | dk t ds =>
            obtain ⟨b, us, e3, h1, h2, h3⟩ := q
            exact ⟨b, us, e3, mem_less.mpr ⟨h1, fun z => inj rfl e1 (z ▸ e3)⟩, h2, h3.sub hw⟩
      · have t : ∀ m, ((ρ.set i (.cl (.list es))).getD m .no).isOpen = true → (ρ.getD m .no).isOpen = true := fun m z => by
          rw [getD_set] at z
          by_cases hm : i = m ∧ i < ρ.length
          · rw [if_pos hm] at z; cases z
          · rwa [if_neg hm] at z
        exact R.inj j k b hjk (t j h1) (t k h2)
      · cases s with
        | cl d => exact Dq.sub hw q
        | own fs => obtain ⟨b, us, e3, h1, h2, h3, h4⟩ := q; exact ⟨b, us, e3, h1, h2, h3, h4.sub hw⟩
        | sl j => exact q
end
end DL
namespace DL
open PySem PySem.Spec PyProof.Rows L2
def varD (i : Nat) : ED := fun ρ => match ρ.getD i .no with
  | .no => none
  | .cl d => some (.cl d, ρ)
  | .op _ => some (.sl i, ρ)
  | .pm _ => some (.sl i, ρ)
  | .dk _ _ => none
def conD (d : PyData) : ED := fun ρ => some (.cl d, ρ)
def unD (f : ED) (g : DL.Env → Val → Option (Val × DL.Env)) : ED := fun ρ => (f ρ).bind fun p => g p.2 p.1
def binD (f1 f2 : ED) (g : DL.Env → Val → Val → Option (Val × DL.Env)) : ED := fun ρ => (f1 ρ).bind fun p => (f2 p.2).bind fun q => g q.2 p.1 q.1
def anil : AD := fun ρ => some ([], ρ)
def acons (f : ED) (t : AD) : AD := fun ρ => (f ρ).bind fun p => (t p.2).bind fun q => some (p.1 :: q.1, q.2)
def callD (t : AD) (g : DL.Env → List Val → Option (Val × DL.Env)) : ED := fun ρ => (t ρ).bind fun p => g p.2 p.1
def testD (f : ED) : TD := fun ρ => (f ρ).bind fun p => match p.1 with
  | .cl (.bool b) => some (b, p.2)
  | _ => none
def notT (f : TD) : TD := fun ρ => (f ρ).bind fun p => some (!p.1, p.2)
def andT (f g : TD) : TD := fun ρ => (f ρ).bind fun p => if p.1 = true then g p.2 else some (false, p.2)
def orT (f g : TD) : TD := fun ρ => (f ρ).bind fun p => if p.1 = true then some (true, p.2) else g p.2
def iteD (c : TD) (a b : ED) : ED := fun ρ => (c ρ).bind fun p => if p.1 = true then a p.2 else b p.2
def Loc1 (K : Fg) (R : V → Hp → VK → Prop) (g : DL.Env → Val → Option (Val × DL.Env)) : Prop :=
  ∀ {E P B L : List Addr} {σ : L2.St} {ρ ρ' : DL.Env} {H : Hp} {x : V} {r1 r : Val} {Q : VK}, Rep K (E ++ P) B L σ ρ H → VR K E P B L σ H x r1 → g ρ r1 = some (r, ρ') → Cont K P B L σ H E ρ' r Q → R x H Q
def Loc2 (K : Fg) (R : R2) (g : DL.Env → Val → Val → Option (Val × DL.Env)) : Prop :=
  ∀ {E P B L : List Addr} {σ : L2.St} {ρ ρ' : DL.Env} {H : Hp} {x y : V} {r1 r2 r : Val} {Q : VK}, Rep K (E ++ P) B L σ ρ H → VR K E P B L σ H x r1 → VR K E P B L σ H y r2 → g ρ r1 r2 = some (r, ρ') → Cont K P B L σ H E ρ' r Q → R x y H Q
def LocN (K : Fg) (R : List V → Hp → VK → Prop) (g : DL.Env → List Val → Option (Val × DL.Env)) : Prop :=
  ∀ {E P B L : List Addr} {σ : L2.St} {ρ ρ' : DL.Env} {H : Hp} {xs : List V} {rs : List Val} {r : Val} {Q : VK}, Rep K (E ++ P) B L σ ρ H → VRs K E P B L σ H xs rs → g ρ rs = some (r, ρ') → Cont K P B L σ H E ρ' r Q → R xs H Q
theorem Cont.after {K : Fg} {P B L La E Ea : List Addr} {σ : L2.St} {H Ha : Hp} {ρa ρ' : DL.Env} {r : Val} {Q : VK} (c : Cont K P B L σ H E ρ' r Q) (p : Post K P B L σ H E ρa Ha La Ea) : Cont K P B La σ Ha Ea ρ' r Q :=
  fun x' H' L' E' p' v' => c x' H' L' E' (p.then p') v'
section
variable {K : Fg} {σ : L2.St} {H : Hp} {Q : VK} {f f1 f2 : ED} {t : AD} {c c1 c2 : TD}
theorem rd_un {R : V → Hp → VK → Prop} {g : DL.Env → Val → Option (Val × DL.Env)} (loc : Loc1 K R g) (h : RD K (unD f g) σ H Q) : tUn R (RD K f) σ H Q := by
  obtain ⟨P, B, L, ρ, r, ρ', R0, e, k⟩ := h
  obtain ⟨⟨r1, ρ1⟩, e1, e2⟩ := Option.bind_eq_some_iff.mp e
  exact ⟨P, B, L, ρ, r1, ρ1, R0, e1, fun x H1 L1 E1 p1 v1 => loc p1.rep v1 e2 (k.after p1)⟩
theorem rd_bin {R : R2} {g : DL.Env → Val → Val → Option (Val × DL.Env)} (loc : Loc2 K R g) (h : RD K (binD f1 f2 g) σ H Q) : tOp R (RD K f1) (RD K f2) σ H Q := by
  obtain ⟨P, B, L, ρ, r, ρ', R0, e, k⟩ := h
  obtain ⟨⟨r1, ρ1⟩, e1, e⟩ := Option.bind_eq_some_iff.mp e
  obtain ⟨⟨r2, ρ2⟩, e2, e⟩ := Option.bind_eq_some_iff.mp e
  refine ⟨P, B, L, ρ, r1, ρ1, R0, e1, fun x H1 La Ea p1 v1 => ⟨Ea ++ P, B, La, ρ1, r2, ρ2, p1.rep, e2, fun y H2 Lb Eb p2 v2 => ?_⟩⟩
  have p := p1.two p2
  exact loc p.rep (v1.later p1.rep p2) (v2.last p1.rep) e (k.after p)
theorem rd_nil {Q : List V → Hp → Prop} (h : RA K anil σ H Q) : tNil σ H Q := by
  obtain ⟨P, B, L, ρ, rs, ρ', R0, e, k⟩ := h
  cases e
  exact k [] H L [] (.refl R0) .nil
theorem vrs_later {P B La Lb Ea Eb : List Addr} {ρa ρb : DL.Env} {Ha Hb : Hp} {x : V} {r : Val} {xs : List V} {rs : List Val} (R : Rep K (Ea ++ P) B La σ ρa Ha) (p : Post K (Ea ++ P) B La σ Ha [] ρb Hb Lb Eb)
    (v : VR K Ea P B La σ Ha x r) (vs : VRs K Eb (Ea ++ P) B Lb σ Hb xs rs) : VRs K (Eb ++ Ea) P B Lb σ Hb (x :: xs) (r :: rs) := by
  refine .cons (v.later R p) (fun ho => ?_) ?_
  · -- own ones of the tail are younger
    have hx : ∃ a, x = V.ref a ∧ a ∈ Ea ++ P := by
      cases r with
      | own ds => obtain ⟨a, _, e, h1, _⟩ := v; exact ⟨a, e, List.mem_append_left _ h1⟩
      | _ => cases ho
    obtain ⟨a, rfl, ha⟩ := hx
    clear v ho
    induction vs with
    | nil => intro q z; exact absurd z List.not_mem_nil
    | @cons y s ys ss w d _ ih =>
      intro q z hq
      rcases List.mem_cons.mp (show q ∈ (y, s) :: ys.zip ss from z) with e | z
      · subst e
        cases s with
        | own ds =>
          obtain ⟨b, _, e, _, h2, _⟩ := w
          intro e2
          rw [show y = V.ref b from e] at e2
          cases e2
          exact h2 ha
        | _ => cases hq
      · exact ih q z hq
  · clear v
    induction vs with
    | nil => exact .nil
    | cons w d _ ih => exact .cons (w.last R) d ih
theorem rd_cons {Q : List V → Hp → Prop} (h : RA K (acons f t) σ H Q) : tCons (RD K f) (RA K t) σ H Q := by
  obtain ⟨P, B, L, ρ, rs, ρ', R0, e, k⟩ := h
  obtain ⟨⟨r1, ρ1⟩, e1, e⟩ := Option.bind_eq_some_iff.mp e
  obtain ⟨⟨r2, ρ2⟩, e2, e⟩ := Option.bind_eq_some_iff.mp e
  cases e
  refine ⟨P, B, L, ρ, r1, ρ1, R0, e1, fun x H1 La Ea p1 v1 => ⟨Ea ++ P, B, La, ρ1, r2, ρ2, p1.rep, e2, fun ys H2 Lb Eb p2 v2 => ?_⟩⟩
  exact k _ _ _ _ (p1.two p2) (vrs_later p1.rep p2 v1 v2)
theorem rd_call {R : List V → Hp → VK → Prop} {g : DL.Env → List Val → Option (Val × DL.Env)} (loc : LocN K R g) (h : RD K (callD t g) σ H Q) : tCB R (RA K t) σ H Q := by
  obtain ⟨P, B, L, ρ, r, ρ', R0, e, k⟩ := h
  obtain ⟨⟨r1, ρ1⟩, e1, e2⟩ := Option.bind_eq_some_iff.mp e
  exact ⟨P, B, L, ρ, r1, ρ1, R0, e1, fun x H1 L1 E1 p1 v1 => loc p1.rep v1 e2 (k.after p1)⟩
theorem rt_test {Q : Bool → Hp → Prop} (h : RT K (testD f) σ H Q) : RD K f σ H fun x H1 => ∃ k, x = .bl k ∧ Q k H1 := by
  obtain ⟨P, B, L, ρ, b, ρ', R0, e, k⟩ := h
  obtain ⟨⟨r1, ρ1⟩, e1, e2⟩ := Option.bind_eq_some_iff.mp e
  refine ⟨P, B, L, ρ, r1, ρ1, R0, e1, fun x H1 La Ea p1 v1 => ?_⟩
  cases r1 with
  | cl d =>
    cases d <;> simp at e2
    obtain ⟨e3, e4⟩ := e2
    subst e3; subst e4
    exact ⟨_, v1.bl, k _ _ _ p1⟩
  | own ds => simp at e2
  | sl i => simp at e2
theorem rt_not {Q : Bool → Hp → Prop} (h : RT K (notT c) σ H Q) : tNot (RT K c) σ H Q := by
  obtain ⟨P, B, L, ρ, b, ρ', R0, e, k⟩ := h
  obtain ⟨⟨r1, ρ1⟩, e1, e2⟩ := Option.bind_eq_some_iff.mp e
  cases e2
  exact ⟨P, B, L, ρ, r1, ρ1, R0, e1, fun H1 La Ea p1 => k _ _ _ p1⟩
theorem two_rt {P B L La Ea : List Addr} {ρ1 : DL.Env} {H1 : Hp} {b : Bool} {ρ' : DL.Env} {Q : Bool → Hp → Prop} (p1 : Post K P B L σ H [] ρ1 H1 La Ea) (k : ∀ H' L' E', Post K P B L σ H [] ρ' H' L' E' → Q b H') (e : c ρ1 = some (b, ρ')) : RT K c σ H1 Q :=
  ⟨Ea ++ P, B, La, ρ1, b, ρ', p1.rep, e, fun H' L' E' p' => k _ _ _ (p1.two p')⟩
theorem rt_and {Q : Bool → Hp → Prop} (h : RT K (andT c1 c2) σ H Q) : tAnd (RT K c1) (RT K c2) σ H Q := by
  obtain ⟨P, B, L, ρ, b, ρ', R0, e, k⟩ := h
  obtain ⟨⟨r1, ρ1⟩, e1, e2⟩ := Option.bind_eq_some_iff.mp e
  refine ⟨P, B, L, ρ, r1, ρ1, R0, e1, fun H1 La Ea p1 => ?_⟩
  cases r1 with
  | true => rw [if_pos rfl]; exact two_rt p1 k (by simpa using e2)
  | false =>
    have e3 : false = b ∧ ρ1 = ρ' := by simpa using e2
    obtain ⟨rfl, rfl⟩ := e3
    rw [if_neg Bool.false_ne_true]
    exact k _ _ _ p1
theorem rt_or {Q : Bool → Hp → Prop} (h : RT K (orT c1 c2) σ H Q) : tOr (RT K c1) (RT K c2) σ H Q := by
  obtain ⟨P, B, L, ρ, b, ρ', R0, e, k⟩ := h
  obtain ⟨⟨r1, ρ1⟩, e1, e2⟩ := Option.bind_eq_some_iff.mp e
  refine ⟨P, B, L, ρ, r1, ρ1, R0, e1, fun H1 La Ea p1 => ?_⟩
  cases r1 with
  | false => rw [if_neg Bool.false_ne_true]; exact two_rt p1 k (by simpa using e2)
  | true =>
    have e3 : true = b ∧ ρ1 = ρ' := by simpa using e2
    obtain ⟨rfl, rfl⟩ := e3
    rw [if_pos rfl]
    exact k _ _ _ p1
theorem two_rd {P B L La Ea : List Addr} {ρ1 : DL.Env} {H1 : Hp} {r : Val} {ρ' : DL.Env} {Q : VK} (p1 : Post K P B L σ H [] ρ1 H1 La Ea) (k : Cont K P B L σ H [] ρ' r Q) (e : f ρ1 = some (r, ρ')) : RD K f σ H1 Q :=
  ⟨Ea ++ P, B, La, ρ1, r, ρ', p1.rep, e, fun x' H' L' E' p' v' => k _ _ _ _ (p1.two p') (v'.last p1.rep)⟩
theorem rd_ite (h : RD K (iteD c f1 f2) σ H Q) : tIf (RT K c) (RD K f1) (RD K f2) σ H Q := by
  obtain ⟨P, B, L, ρ, b, ρ', R0, e, k⟩ := h
  obtain ⟨⟨r1, ρ1⟩, e1, e2⟩ := Option.bind_eq_some_iff.mp e
  refine ⟨P, B, L, ρ, r1, ρ1, R0, e1, fun H1 La Ea p1 => ?_⟩
  cases r1 with
  | true => rw [if_pos rfl]; exact two_rd p1 k (by simpa using e2)
  | false => rw [if_neg Bool.false_ne_true]; exact two_rd p1 k (by simpa using e2)
end
section
variable {X : Cx} {tl : TL} {a b c : Expr} {es : List Expr} {f f1 f2 f3 : ED} {t : AD} {q q1 q2 : TD} {pos : Pos}
theorem d_var (i : Nat) {x : Str} {pos : Pos} (hN : X.N[i]? = some x := by rfl) (hv : Vis X.env.scope x := by first | exact Or.inl rfl | exact Or.inr (Or.inl rfl) | exact Or.inr (Or.inr rfl)) (hd : (x == ("__debug__" : Str)) = false := by decide)
    (hcd : (x == ("__classdict__" : Str)) = false := by decide) : PE X (.Name x pos) (RD (X.D tl) (varD i)) :=
  (pe_var hN hv hd hcd).imp fun σ H Q h => by
    obtain ⟨P, B, L, ρ, r, ρ', R0, e, k⟩ := h
    have q := R0.ok i
    unfold varD at e
    revert e q
    generalize hc : ρ.getD i .no = c
    intro e q
    cases c with
    | no => cases e
    | cl d =>
      cases e
      obtain ⟨v, e1, h1⟩ := q
      exact ⟨v, e1, k _ _ L [] (.refl R0) h1⟩
    | op ds =>
      cases e
      obtain ⟨a, vs, e1, _⟩ := q
      exact ⟨_, e1, k _ _ L [] (.refl R0) e1⟩
    | pm ds =>
      cases e
      obtain ⟨a, vs, e1, _⟩ := q
      exact ⟨_, e1, k _ _ L [] (.refl R0) e1⟩
    | dk t ds => cases e
theorem con_imp {d : PyData} {v : V} (hd : ∀ {H W}, Dq (X.D tl) H W v d) {σ : L2.St} {H : Hp} {Q : VK} (h : RD (X.D tl) (conD d) σ H Q) : tC v σ H Q := by
  obtain ⟨P, B, L, ρ, r, ρ', R0, e, k⟩ := h
  cases e
  exact k _ _ L [] (.refl R0) hd
theorem d_int {i j pos} : PE X (.Constant (.int i) j pos) (RD (X.D tl) (conD (.int i))) := pe_int.imp fun _ _ _ h => con_imp (.int i) h
theorem d_bl {b j pos} : PE X (.Constant (.bool b) j pos) (RD (X.D tl) (conD (.bool b))) := pe_bl.imp fun _ _ _ h => con_imp (.bl b) h
theorem d_non {j pos} : PE X (.Constant .none j pos) (RD (X.D tl) (conD .none)) := pe_non.imp fun _ _ _ h => con_imp .non h
theorem d_str {x j pos} : PE X (.Constant (.str x) j pos) (RD (X.D tl) (conD (.str x))) := pe_str.imp fun _ _ _ h => con_imp (.str x) h
theorem d_bin {op : Operator} {R : R2} {g} (ho : OpR X (binaryOp op) R) (loc : Loc2 (X.D tl) R g) (ha : PE X a (RD (X.D tl) f1)) (hb : PE X b (RD (X.D tl) f2)) : PE X (.BinOp a op b pos) (RD (X.D tl) (binD f1 f2 g)) :=
  (pe_op ho ha hb).imp fun _ _ _ h => rd_bin loc h
theorem d_un {op : UnaryOp} {R : V → Hp → VK → Prop} {g} (ho : UnR X (unaryOp op) R) (loc : Loc1 (X.D tl) R g) (ha : PE X a (RD (X.D tl) f)) : PE X (.UnaryOp op a pos) (RD (X.D tl) (unD f g)) :=
  (pe_un ho ha).imp fun _ _ _ h => rd_un loc h
theorem d_ix {R : R2} {g} (hr : IxR X R) (loc : Loc2 (X.D tl) R g) (ha : PE X a (RD (X.D tl) f1)) (hb : PE X b (RD (X.D tl) f2)) (hs : PlainIx b) : PE X (.Subscript a b pos) (RD (X.D tl) (binD f1 f2 g)) :=
  (pe_ix hr ha hb hs).imp fun _ _ _ h => rd_bin loc h
theorem d_cmp {op : CmpOp} {R : R2} {g} (ho : OpR X (compareOp op) R) (loc : Loc2 (X.D tl) R g) (ha : PE X a (RD (X.D tl) f1)) (hb : PE X b (RD (X.D tl) f2)) (hm : behindInMarks op b = false) : PE X (.Compare a [op] [b] pos) (RD (X.D tl) (binD f1 f2 g)) :=
  (pe_cmpR ho ha hb hm).imp fun _ _ _ h => rd_bin loc h
theorem t_cmp {op : CmpOp} {R : R2} {g} (ho : OpR X (compareOp op) R) (loc : Loc2 (X.D tl) R g) (ha : PE X a (RD (X.D tl) f1)) (hb : PE X b (RD (X.D tl) f2)) (hm : behindInMarks op b = false) : PT X (.Compare a [op] [b] pos) (RT (X.D tl) (testD (binD f1 f2 g))) :=
  (pt_cmpR ho ha hb hm).imp fun _ _ _ h => rd_bin loc (rt_test h)
theorem t_val (h : PE X a (RD (X.D tl) f)) (he : ∀ whole, isTrue a X.env whole = (do let v ← whole; standAt a.pos; holding [v] (truthy v)) := by intro _; rfl) : PT X a (RT (X.D tl) (testD f)) :=
  (pt_val h he).imp fun _ _ _ h => rt_test h
theorem t_not (h : PT X a (RT (X.D tl) q)) : PT X (.UnaryOp .Not a pos) (RT (X.D tl) (notT q)) := (pt_not h).imp fun _ _ _ h => rt_not h
theorem t_and1 (h : PT X a (RT (X.D tl) q)) : PW X (.BoolOp .And [a] pos) (RT (X.D tl) q) := pw_and1 h
theorem t_or1 (h : PT X a (RT (X.D tl) q)) : PW X (.BoolOp .Or [a] pos) (RT (X.D tl) q) := pw_or1 h
theorem _root_.L2.PW.imp {X : Cx} {e : Expr} {t t' : TT} (p : PW X e t) (h : ∀ σ H Q, t' σ H Q → t σ H Q) : PW X e t' := ⟨fun wh pins s σ H Q I q => p.run wh pins s σ H Q I (h σ H Q q)⟩
theorem t_and {rest : List Expr} (ha : PT X a (RT (X.D tl) q1)) (hb : PW X (.BoolOp .And (b :: rest) pos) (RT (X.D tl) q2)) : PW X (.BoolOp .And (a :: b :: rest) pos) (RT (X.D tl) (andT q1 q2)) := (pw_and ha hb).imp fun _ _ _ h => rt_and h
theorem t_or {rest : List Expr} (ha : PT X a (RT (X.D tl) q1)) (hb : PW X (.BoolOp .Or (b :: rest) pos) (RT (X.D tl) q2)) : PW X (.BoolOp .Or (a :: b :: rest) pos) (RT (X.D tl) (orT q1 q2)) := (pw_or ha hb).imp fun _ _ _ h => rt_or h
theorem d_ite (hc : PT X c (RT (X.D tl) q)) (ha : PE X a (RD (X.D tl) f1)) (hb : PE X b (RD (X.D tl) f2)) : PE X (.IfExp c a b pos) (RD (X.D tl) (iteD q f1 f2)) := (pe_ifExp hc ha hb).imp fun _ _ _ h => rd_ite h
theorem a_nil : PA X [] (RA (X.D tl) anil) := pa_nil.imp fun _ _ _ h => rd_nil h
theorem a_cons (ha : PE X a (RD (X.D tl) f)) (ht : PA X es (RA (X.D tl) t)) (hs : starEach (a :: es) X.env = (false, eval a X.env) :: starEach es X.env := by rfl) : PA X (a :: es) (RA (X.D tl) (acons f t)) :=
  (pa_cons ha ht hs).imp fun _ _ _ h => rd_cons h
theorem d_callB {x : Str} {p : Pos} {id : String} {R} {g} (hc : CallR X (.builtin id) R) (loc : LocN (X.D tl) R g) (hg : Gl X x) (hm : X.mg x = none) (hv : bootBuiltins x = some (.builtin id)) (ha : PA X (a :: es) (RA (X.D tl) t)) (hn : x ≠ "__name__" := by decide) (hdb : (x == ("__debug__" : Str)) = false := by decide)
    (he : starEach (a :: es) X.env = (false, eval a X.env) :: starEach es X.env := by rfl) (hpl : (backTo pos (starEach es X.env)).any (·.1) = false := by rfl) : PE X (.Call (.Name x p) (a :: es) [] pos) (RD (X.D tl) (callD t g)) :=
  (pe_callB hc hg hm hv ha hn hdb he hpl).imp fun _ _ _ h => rd_call loc h
theorem d_callTy {x : Str} {p : Pos} {id : String} {R} {g} (hc : CallR X (.type id) R) (loc : LocN (X.D tl) R g) (hg : Gl X x) (hm : X.mg x = none) (hv : bootBuiltins x = some (.type id)) (ha : PA X (a :: es) (RA (X.D tl) t)) (hn : x ≠ "__name__" := by decide) (hdb : (x == ("__debug__" : Str)) = false := by decide)
    (he : starEach (a :: es) X.env = (false, eval a X.env) :: starEach es X.env := by rfl) (hpl : (backTo pos (starEach es X.env)).any (·.1) = false := by rfl) : PE X (.Call (.Name x p) (a :: es) [] pos) (RD (X.D tl) (callD t g)) :=
  (pe_callTy hc hg hm hv ha hn hdb he hpl).imp fun _ _ _ h => rd_call loc h
end
end DL
noncomputable section
namespace DL
open PySem PySem.Spec PyProof.Rows L2
theorem lim_ex : ∃ n : Nat, n = 1000000 := ⟨_, rfl⟩
/-- a line that nothing reckons with -/
def lim : Nat := Classical.choose lim_ex
theorem lim_eq : lim = 1000000 := Classical.choose_spec lim_ex
theorem lim_line : lim ≤ sizeLine := by rw [sizeLine_eq, lim_eq]; decide
def intG (h : Int → Int → Option PyData) : DL.Env → Val → Val → Option (Val × DL.Env) := fun ρ a b => match a, b with
  | .cl (.int i), .cl (.int j) => (h i j).map fun d => (.cl d, ρ)
  | _, _ => none
theorem loc_int {K : Fg} {R : R2} {h : Int → Int → Option PyData} (hr : ∀ i j d, h i j = some d → ∃ v, (∀ {H W}, Dq K H W v d) ∧ ∀ (H : Hp) (Q : VK), Q v H → R (.int i) (.int j) H Q) : Loc2 K R (intG h) := by
  intro E P B L σ ρ ρ' H x y r1 r2 r Q R0 v1 v2 e c
  cases r1 with
  | cl d1 =>
    cases d1 <;> try (simp [intG] at e)
    cases r2 with
    | cl d2 =>
      cases d2 <;> try (simp [intG] at e)
      obtain ⟨d, e1, e2, e3⟩ := e
      subst e2; subst e3
      obtain ⟨v, hv, hq⟩ := hr _ _ _ e1
      rw [v1.int, v2.int]
      exact hq H Q (c.here R0 hv)
    | _ => simp [intG] at e
  | _ => simp [intG] at e
abbrev i2i (g : Int → Int → Int) : Int → Int → Option PyData := fun i j => some (.int (g i j))
abbrev i2b (g : Int → Int → Bool) : Int → Int → Option PyData := fun i j => some (.bool (g i j))
theorem loc_i2i {K : Fg} {g : Int → Int → Int} : Loc2 K (rI0 fun i j => .int (g i j)) (intG (i2i g)) := loc_int fun i j d e => by
  cases e
  exact ⟨.int (g i j), .int _, fun H Q q => ⟨i, j, rfl, rfl, q⟩⟩
theorem loc_i2b {K : Fg} {g : Int → Int → Bool} : Loc2 K (rI0 fun i j => .bl (g i j)) (intG (i2b g)) := loc_int fun i j d e => by
  cases e
  exact ⟨.bl (g i j), .bl _, fun H Q q => ⟨i, j, rfl, rfl, q⟩⟩
def modG (i j : Int) : Option PyData := if 0 < j then some (.int (i % j)) else none
def fdivG (i j : Int) : Option PyData := if 0 < j ∧ j.natAbs.log2 < 9000 then some (.int (i / j)) else none
def powG (i j : Int) : Option PyData := if 0 ≤ j ∧ j ≤ 1000 ∧ i.natAbs < 2 ^ 64 then some (.int (i ^ j.toNat)) else none
theorem loc_mod {K : Fg} : Loc2 K (rI (fun _ j => 0 < j) fun i j => .int (i % j)) (intG modG) := loc_int fun i j d e => by
  unfold modG at e
  split at e
  · cases e
    rename_i h
    exact ⟨.int _, .int _, fun H Q q => ⟨i, j, rfl, rfl, h, q⟩⟩
  · cases e
theorem loc_fdiv {K : Fg} : Loc2 K (rI CDivW fun i j => .int (i / j)) (intG fdivG) := loc_int fun i j d e => by
  unfold fdivG at e
  split at e
  · cases e
    rename_i h
    exact ⟨.int _, .int _, fun H Q q => ⟨i, j, rfl, rfl, h, q⟩⟩
  · cases e
theorem loc_pow {K : Fg} : Loc2 K (rI CPow fun i j => .int (i ^ j.toNat)) (intG powG) := loc_int fun i j d e => by
  unfold powG at e
  split at e
  · cases e
    rename_i h
    exact ⟨.int _, .int _, fun H Q q => ⟨i, j, rfl, rfl, ⟨h.1, by have := h.2.1; omega, h.2.2⟩, q⟩⟩
  · cases e
def negG : DL.Env → Val → Option (Val × DL.Env) := fun ρ a => match a with
  | .cl (.int i) => some (.cl (.int (-i)), ρ)
  | _ => none
theorem loc_neg {K : Fg} : Loc1 K (rU fun i => .int (-i)) negG := by
  intro E P B L σ ρ ρ' H x r1 r Q R0 v1 e c
  unfold negG at e
  split at e
  · cases e
    exact ⟨_, v1.int, c.here R0 (show VR K E P B L σ H _ (.cl (.int _)) from Dq.int _)⟩
  · cases e
def addG : DL.Env → Val → Val → Option (Val × DL.Env) := fun ρ a b => match a, b with
  | .cl (.int i), .cl (.int j) => some (.cl (.int (i + j)), ρ)
  | .cl (.str i), .cl (.str j) => if i.length + j.length ≤ lim then some (.cl (.str (i ++ j)), ρ) else none
  | _, _ => match seqOf ρ a, seqOf ρ b with
    | some (true, ds), some (true, es) => if ds.length + es.length ≤ lim then some (.own (ds ++ es), ρ) else none
    | some (false, ds), some (false, es) => if ds.length + es.length ≤ lim then some (.cl (.tuple (ds ++ es)), ρ) else none
    | _, _ => none
def rAddAll (K : Fg) : R2 := fun x y H Q => (rI0 fun i j => .int (i + j)) x y H Q ∨ (∃ i j, x = .str i ∧ y = .str j ∧ i.length + j.length ≤ sizeLine ∧ Q (.str (i ++ j)) H) ∨ rCat x y H Q ∨ rCatF K x y H Q
theorem op_addAll {X : Cx} {tl : TL} : OpR X (binaryOp .Add) (rAddAll (X.D tl)) := op_add.or (op_add_str.or (op_cat.or op_catF))
theorem loc_seqAdd {K : Fg} {E P B L : List Addr} {σ : L2.St} {ρ ρ' : DL.Env} {H : Hp} {x y : V} {r1 r2 r : Val} {Q : VK} (R0 : Rep K (E ++ P) B L σ ρ H) (v1 : VR K E P B L σ H x r1) (v2 : VR K E P B L σ H y r2)
    (e : (match seqOf ρ r1, seqOf ρ r2 with
    | some (true, ds), some (true, es) => if ds.length + es.length ≤ lim then some (Val.own (ds ++ es), ρ) else none
    | some (false, ds), some (false, es) => if ds.length + es.length ≤ lim then some (Val.cl (.tuple (ds ++ es)), ρ) else none
    | _, _ => none) = some (r, ρ')) (c : Cont K P B L σ H E ρ' r Q) : rAddAll K x y H Q := by
  have ll := lim_line
  split at e
  · rename_i ds es e1 e2
    split at e
    · rename_i hz
      cases e
      obtain ⟨a, vs, rfl, h1, d1⟩ := v1.list R0 e1
      obtain ⟨b, ws, rfl, h2, d2⟩ := v2.list R0 e2
      refine .inr (.inr (.inl ⟨a, b, vs, ws, rfl, rfl, h1, h2, ?_, fun p hp => c.lst R0 (d1.append d2) hp⟩))
      rw [d1.length, d2.length]; omega
    · cases e
  · rename_i ds es e1 e2
    split at e
    · rename_i hz
      cases e
      obtain ⟨a, vs, rfl, h1, d1⟩ := v1.tuple e1
      obtain ⟨b, ws, rfl, h2, d2⟩ := v2.tuple e2
      have l1 := d1.length
      have l2 := d2.length
      refine .inr (.inr (.inr ⟨a, b, vs, ws, rfl, rfl, h1.sq, h2.sq, by omega, fun q => ?_, fun q1 q2 => ?_, fun _ _ p ob hp po => c.tup R0 (d1.append d2) hp po⟩))
      · subst q
        cases d1
        exact c.here R0 (show VR K E P B L σ H _ (.cl (.tuple ([] ++ es))) from .tup h2 d2)
      · subst q2
        cases d2
        rw [List.append_nil] at c
        exact c.here R0 (show VR K E P B L σ H _ (.cl (.tuple ds)) from .tup h1 d1)
    · cases e
  · cases e
theorem loc_add {K : Fg} : Loc2 K (rAddAll K) addG := by
  intro E P B L σ ρ ρ' H x y r1 r2 r Q R0 v1 v2 e c
  have ll := lim_line
  unfold addG at e
  split at e
  · cases e
    exact .inl ⟨_, _, v1.int, v2.int, c.here R0 (show VR K E P B L σ H _ (.cl (.int _)) from Dq.int _)⟩
  · split at e
    · cases e
      exact .inr (.inl ⟨_, _, v1.str, v2.str, by omega, c.here R0 (show VR K E P B L σ H _ (.cl (.str _)) from Dq.str _)⟩)
    · cases e
  · exact loc_seqAdd R0 v1 v2 e c
def ixG : DL.Env → Val → Val → Option (Val × DL.Env) := fun ρ a b => match seqOf ρ a, b with
  | some (_, ds), .cl (.int i) => (atI ds i).map fun d => (.cl d, ρ)
  | _, _ => none
theorem atI_dq {K : Fg} {H : Hp} {W : List Addr} {vs : List V} {ds : List PyData} {i : Int} {d : PyData} (h : DqA K H W vs ds) (e : atI ds i = some d) : ∃ v, atI vs i = some v ∧ Dq K H W v d := by
  unfold atI at e ⊢
  rw [h.length]
  obtain ⟨j, e1, e2⟩ := Option.bind_eq_some_iff.mp e
  obtain ⟨v, e3, hv⟩ := h.get e2
  exact ⟨v, by rw [e1]; exact e3, hv⟩
theorem loc_ix {K : Fg} : Loc2 K (fun x y H Q => rIxL K x y H Q ∨ rIxT K x y H Q) ixG := by
  intro E P B L σ ρ ρ' H x y r1 r2 r Q R0 v1 v2 e c
  unfold ixG at e
  split at e
  · rename_i k ds i e1
    obtain ⟨d, e2, e3⟩ := Option.map_eq_some_iff.mp e
    cases e3
    cases k with
    | true =>
      obtain ⟨a, vs, rfl, h1, d1⟩ := v1.list R0 e1
      obtain ⟨v, e4, hv⟩ := atI_dq d1 e2
      exact .inl ⟨a, vs, i, v, rfl, v2.int, .of h1, e4, c.here R0 (show VR K E P B L σ H _ (.cl d) from hv)⟩
    | false =>
      obtain ⟨a, vs, rfl, h1, d1⟩ := v1.tuple e1
      obtain ⟨v, e4, hv⟩ := atI_dq d1 e2
      exact .inr ⟨a, vs, i, v, rfl, v2.int, h1.sq, e4, c.here R0 (show VR K E P B L σ H _ (.cl d) from hv)⟩
  · cases e
theorem ix_both {X : Cx} {tl : TL} : IxR X (fun x y H Q => rIxL (X.D tl) x y H Q ∨ rIxT (X.D tl) x y H Q) := ix_list.or ix_tup
abbrev PD := DL.Env → Option (Option Int × DL.Env)
def noP : PD := fun ρ => some (none, ρ)
def aP (f : ED) : PD := fun ρ => (f ρ).bind fun p => match p.1 with
  | .cl (.int i) => some (some i, p.2)
  | _ => none
def RO (K : Fg) (f : PD) : TO := fun σ H Q => ∃ P B L ρ b ρ', Rep K P B L σ ρ H ∧ f ρ = some (b, ρ') ∧ ∀ H' L' E', Post K P B L σ H [] ρ' H' L' E' → Q b H'
def sliceD (f : ED) (lo hi : PD) (g : DL.Env → Val → Option Int → Option Int → Option (Val × DL.Env)) : ED := fun ρ => (f ρ).bind fun p => (lo p.2).bind fun q => (hi q.2).bind fun s => g s.2 p.1 q.1 s.1
def cutD (ds : List PyData) (lo hi : Option Int) : List PyData := (ds.drop (HT.sIx ds.length 0 lo)).take (HT.sIx ds.length ds.length hi - HT.sIx ds.length 0 lo)
theorem cut_dq {K : Fg} {H : Hp} {W : List Addr} {vs : List V} {ds : List PyData} (h : DqA K H W vs ds) (lo hi : Option Int) : DqA K H W (cutV vs lo hi) (cutD ds lo hi) := by
  unfold cutV cutD
  rw [h.length]
  exact (h.drop _).take _
def cutG : DL.Env → Val → Option Int → Option Int → Option (Val × DL.Env) := fun ρ a lo hi => match seqOf ρ a with
  | some (true, ds) => some (.own (cutD ds lo hi), ρ)
  | some (false, ds) => some (.cl (.tuple (cutD ds lo hi)), ρ)
  | none => none
theorem _root_.L2.PO.imp {X : Cx} {e : Option Expr} {t t' : TO} (p : PO X e t) (h : ∀ σ H Q, t' σ H Q → t σ H Q) : PO X e t' := ⟨fun pins s σ H Q I q => p.run pins s σ H Q I (h σ H Q q)⟩
section
variable {X : Cx} {tl : TL} {a b c : Expr} {f : ED} {lo hi : PD} {pos p2 : Pos} {el eh : Option Expr}
theorem o_none : PO X none (RO (X.D tl) noP) := po_none.imp fun σ H Q h => by
  obtain ⟨P, B, L, ρ, b, ρ', R0, e, k⟩ := h
  cases e
  exact k H L [] (.refl R0)
theorem o_some (h : PE X a (RD (X.D tl) f)) : PO X (some a) (RO (X.D tl) (aP f)) := (po_some h).imp fun σ H Q h => by
  obtain ⟨P, B, L, ρ, b, ρ', R0, e, k⟩ := h
  obtain ⟨⟨r1, ρ1⟩, e1, e2⟩ := Option.bind_eq_some_iff.mp e
  refine ⟨P, B, L, ρ, r1, ρ1, R0, e1, fun x H1 La Ea p1 v1 => ?_⟩
  cases r1 with
  | cl d =>
    cases d <;> simp at e2
    obtain ⟨e3, e4⟩ := e2
    subst e3; subst e4
    exact ⟨_, v1.int, k _ _ _ p1⟩
  | own ds => simp at e2
  | sl i => simp at e2
theorem d_slice (he : PE X a (RD (X.D tl) f)) (hl : PO X el (RO (X.D tl) lo)) (hu : PO X eh (RO (X.D tl) hi)) : PE X (.Subscript a (.Slice el eh none p2) pos) (RD (X.D tl) (sliceD f lo hi cutG)) :=
  (pe_slice (sl_list.or sl_tupF) he hl hu).imp fun σ H Q h => by
    obtain ⟨P, B, L, ρ, r, ρ', R0, e, k⟩ := h
    obtain ⟨⟨r1, ρ1⟩, e1, e⟩ := Option.bind_eq_some_iff.mp e
    obtain ⟨⟨o1, ρ2⟩, e2, e⟩ := Option.bind_eq_some_iff.mp e
    obtain ⟨⟨o2, ρ3⟩, e3, e⟩ := Option.bind_eq_some_iff.mp e
    refine ⟨P, B, L, ρ, r1, ρ1, R0, e1, fun x H1 La Ea p1 v1 => ⟨Ea ++ P, B, La, ρ1, o1, ρ2, p1.rep, e2, fun H2 Lb Eb p2 => ?_⟩⟩
    have p12 := p1.two p2
    have v2 := v1.later p1.rep p2
    refine ⟨(Eb ++ Ea) ++ P, B, Lb, ρ2, o2, ρ3, p12.rep, e3, fun H3 Lc Ec p3 => ?_⟩
    have p := p12.two p3
    have v := v2.later p12.rep p3
    have k := k.after p
    simp only [cutG] at e
    split at e
    · rename_i ds e4
      cases e
      obtain ⟨a, vs, rfl, h1, d1⟩ := v.list p.rep e4
      exact .inl ⟨a, vs, rfl, .of h1, fun q hq => k.lst p.rep (cut_dq d1 _ _) hq⟩
    · rename_i ds e4
      cases e
      obtain ⟨a, vs, rfl, h1, d1⟩ := v.tuple e4
      refine .inr ⟨a, vs, rfl, h1.sq, fun hw => ?_, fun _ q ob hq po => k.tup p.rep (cut_dq d1 _ _) hq po⟩
      have ec : cutD ds o1 o2 = ds := by
        unfold cutD
        rw [← d1.length, hw.1, hw.2, List.drop_zero, d1.length]
        simp
      rw [ec] at k
      exact k.here p.rep (show VR (X.D tl) _ _ _ _ _ _ _ (.cl (.tuple ds)) from .tup h1 d1)
    · cases e
end
/-- a call of one argument -/
def oneG (g : DL.Env → Val → Option (Val × DL.Env)) : DL.Env → List Val → Option (Val × DL.Env) := fun ρ rs => match rs with
  | [a] => g ρ a
  | _ => none
def twoG (g : DL.Env → Val → Val → Option (Val × DL.Env)) : DL.Env → List Val → Option (Val × DL.Env) := fun ρ rs => match rs with
  | [a, b] => g ρ a b
  | _ => none
theorem loc_one {K : Fg} {R : V → Hp → VK → Prop} {g} (h : Loc1 K R g) : LocN K (fun xs H Q => ∃ x, xs = [x] ∧ R x H Q) (oneG g) := by
  intro E P B L σ ρ ρ' H xs rs r Q R0 v e c
  cases v with
  | nil => cases e
  | @cons x r1 xs rs v1 d vs =>
    cases vs with
    | nil => exact ⟨x, rfl, h R0 v1 e c⟩
    | cons _ _ _ => cases e
theorem loc_two {K : Fg} {R : R2} {g} (h : Loc2 K R g) : LocN K (fun xs H Q => ∃ x y, xs = [x, y] ∧ R x y H Q) (twoG g) := by
  intro E P B L σ ρ ρ' H xs rs r Q R0 v e c
  cases v with
  | nil => cases e
  | @cons x r1 xs rs v1 d vs =>
    cases vs with
    | nil => cases e
    | @cons y r2 xs rs v2 d2 vs =>
      cases vs with
      | nil => exact ⟨x, y, rfl, h R0 v1 v2 e c⟩
      | cons _ _ _ => cases e
theorem _root_.L2.CallR.imp {X : Cx} {f : Value} {r r' : List V → Hp → VK → Prop} (h : CallR X f r) (hi : ∀ xs H Q, r' xs H Q → r xs H Q) : CallR X f r' := fun pins s σ H xs us Q I rv q => h pins s σ H xs us Q I rv (hi xs H Q q)
def lenG : DL.Env → Val → Option (Val × DL.Env) := fun ρ a => match a with
  | .cl (.str z) => if z.length ≤ lim then some (.cl (.int z.length), ρ) else none
  | _ => (seqOf ρ a).map fun p => (.cl (.int p.2.length), ρ)
theorem loc_len {K : Fg} : Loc1 K (fun x H Q => ∃ n, LenV K x H n ∧ Q (.int n) H) lenG := by
  intro E P B L σ ρ ρ' H x r1 r Q R0 v1 e c
  have ll := lim_line
  unfold lenG at e
  split at e
  · split at e
    · cases e
      rename_i z hz
      rw [v1.str]
      exact ⟨_, ⟨by omega, rfl⟩, c.here R0 (show VR K E P B L σ H _ (.cl (.int _)) from Dq.int _)⟩
    · cases e
  · obtain ⟨⟨k, ds⟩, e1, e2⟩ := Option.map_eq_some_iff.mp e
    cases e2
    cases k with
    | true =>
      obtain ⟨a, vs, rfl, h1, d1⟩ := v1.list R0 e1
      refine ⟨vs.length, .inl ⟨vs, .of h1, rfl⟩, ?_⟩
      rw [d1.length]
      exact c.here R0 (show VR K E P B L σ H _ (.cl (.int _)) from Dq.int _)
    | false =>
      obtain ⟨a, vs, rfl, h1, d1⟩ := v1.tuple e1
      refine ⟨vs.length, .inr ⟨vs, h1.sq, rfl⟩, ?_⟩
      rw [d1.length]
      exact c.here R0 (show VR K E P B L σ H _ (.cl (.int _)) from Dq.int _)
theorem c_len {X : Cx} {tl : TL} : CallR X (.builtin "len") (fun xs H Q => ∃ x, xs = [x] ∧ ∃ n, LenV (X.D tl) x H n ∧ Q (.int n) H) := call_len.imp fun xs H Q ⟨x, e, n, h, q⟩ => ⟨x, n, e, h, q⟩
def absG : DL.Env → Val → Option (Val × DL.Env) := fun ρ a => match a with
  | .cl (.int i) => some (.cl (.int (if i < 0 then -i else i)), ρ)
  | _ => none
theorem loc_abs {K : Fg} : Loc1 K (fun x H Q => ∃ i, x = .int i ∧ Q (.int (if i < 0 then -i else i)) H) absG := by
  intro E P B L σ ρ ρ' H x r1 r Q R0 v1 e c
  unfold absG at e
  split at e
  · cases e
    exact ⟨_, v1.int, c.here R0 (show VR K E P B L σ H _ (.cl (.int _)) from Dq.int _)⟩
  · cases e
theorem c_abs {X : Cx} : CallR X (.builtin "abs") (fun xs H Q => ∃ x, xs = [x] ∧ ∃ i, x = .int i ∧ Q (.int (if i < 0 then -i else i)) H) := call_abs.imp fun xs H Q ⟨x, e, i, h, q⟩ => ⟨i, by rw [e, h], q⟩
def intTG : DL.Env → Val → Option (Val × DL.Env) := fun ρ a => match a with
  | .cl (.int i) => some (.cl (.int i), ρ)
  | .cl (.bool b) => some (.cl (.int (if b then 1 else 0)), ρ)
  | _ => none
theorem loc_intT {K : Fg} : Loc1 K (fun x H Q => (∃ i, x = .int i ∧ Q (.int i) H) ∨ ∃ k, x = .bl k ∧ Q (.int (if k then 1 else 0)) H) intTG := by
  intro E P B L σ ρ ρ' H x r1 r Q R0 v1 e c
  unfold intTG at e
  split at e
  · cases e
    exact .inl ⟨_, v1.int, c.here R0 (show VR K E P B L σ H _ (.cl (.int _)) from Dq.int _)⟩
  · cases e
    exact .inr ⟨_, v1.bl, c.here R0 (show VR K E P B L σ H _ (.cl (.int _)) from Dq.int _)⟩
  · cases e
theorem c_intT {X : Cx} : CallR X (.type "int") (fun xs H Q => ∃ x, xs = [x] ∧ ((∃ i, x = .int i ∧ Q (.int i) H) ∨ ∃ k, x = .bl k ∧ Q (.int (if k then 1 else 0)) H)) := call_int1.imp fun xs H Q ⟨x, e, h⟩ => by
  rcases h with ⟨i, h, q⟩ | ⟨i, h, q⟩
  · exact .inl ⟨i, by rw [e, h], q⟩
  · exact .inr ⟨i, by rw [e, h], q⟩
theorem c_max2 {X : Cx} (hc : X.calm = true) : CallR X (.builtin "max") (fun xs H Q => ∃ x y, xs = [x, y] ∧ (rI0 fun i j => .int (if j > i then j else i)) x y H Q) := (call_max2 hc).imp fun xs H Q ⟨x, y, e, i, j, h1, h2, q⟩ => ⟨i, j, by rw [e, h1, h2], q⟩
theorem c_min2 {X : Cx} (hc : X.calm = true) : CallR X (.builtin "min") (fun xs H Q => ∃ x y, xs = [x, y] ∧ (rI0 fun i j => .int (if j < i then j else i)) x y H Q) := (call_min2 hc).imp fun xs H Q ⟨x, y, e, i, j, h1, h2, q⟩ => ⟨i, j, by rw [e, h1, h2], q⟩
def max2G : DL.Env → List Val → Option (Val × DL.Env) := twoG (intG (i2i fun i j => if j > i then j else i))
def min2G : DL.Env → List Val → Option (Val × DL.Env) := twoG (intG (i2i fun i j => if j < i then j else i))
theorem loc_max2 {K : Fg} : LocN K (fun xs H Q => ∃ x y, xs = [x, y] ∧ (rI0 fun i j => .int (if j > i then j else i)) x y H Q) max2G := loc_two loc_i2i
theorem loc_min2 {K : Fg} : LocN K (fun xs H Q => ∃ x y, xs = [x, y] ∧ (rI0 fun i j => .int (if j < i then j else i)) x y H Q) min2G := loc_two loc_i2i
def listG : DL.Env → Val → Option (Val × DL.Env) := fun ρ a => (seqOf ρ a).map fun p => (.own p.2, ρ)
def tupleG : DL.Env → Val → Option (Val × DL.Env) := fun ρ a => (seqOf ρ a).map fun p => (.cl (.tuple p.2), ρ)
theorem loc_list {K : Fg} : Loc1 K (fun x H Q => ∃ p ys, x = .ref p ∧ (SqL K H p ys ∨ SqT K H p ys) ∧ ∀ l, H l = none → Q (.ref l) (upd H l (.lst ys))) listG := by
  intro E P B L σ ρ ρ' H x r1 r Q R0 v1 e c
  unfold listG at e
  obtain ⟨⟨k, ds⟩, e1, e2⟩ := Option.map_eq_some_iff.mp e
  cases e2
  cases k with
  | true =>
    obtain ⟨a, vs, rfl, h1, d1⟩ := v1.list R0 e1
    exact ⟨a, vs, rfl, .inl (.of h1), fun l hl => c.lst R0 d1 hl⟩
  | false =>
    obtain ⟨a, vs, rfl, h1, d1⟩ := v1.tuple e1
    exact ⟨a, vs, rfl, .inr h1.sq, fun l hl => c.lst R0 d1 hl⟩
theorem loc_tuple {K : Fg} : Loc1 K (fun x H Q => ∃ p ys, x = .ref p ∧ ((SqL K H p ys ∧ NewT H Q ys) ∨ (SqT K H p ys ∧ Q (.ref p) H))) tupleG := by
  intro E P B L σ ρ ρ' H x r1 r Q R0 v1 e c
  unfold tupleG at e
  obtain ⟨⟨k, ds⟩, e1, e2⟩ := Option.map_eq_some_iff.mp e
  cases e2
  cases k with
  | true =>
    obtain ⟨a, vs, rfl, h1, d1⟩ := v1.list R0 e1
    exact ⟨a, vs, rfl, .inl ⟨.of h1, fun l ob hl po => c.tup R0 d1 hl po⟩⟩
  | false =>
    obtain ⟨a, vs, rfl, h1, d1⟩ := v1.tuple e1
    exact ⟨a, vs, rfl, .inr ⟨TupD.sq h1, c.here R0 (show VR K E P B L σ H _ (.cl (.tuple ds)) from .tup h1 d1)⟩⟩
theorem c_list {X : Cx} {tl : TL} : CallR X (.type "list") (fun xs H Q => ∃ x, xs = [x] ∧ ∃ p ys, x = .ref p ∧ (SqL (X.D tl) H p ys ∨ SqT (X.D tl) H p ys) ∧ ∀ l, H l = none → Q (.ref l) (upd H l (.lst ys))) := call_list_of.imp fun xs H Q ⟨x, e, p, ys, h, q⟩ => ⟨p, ys, by rw [e, h], q⟩
theorem c_tuple {X : Cx} {tl : TL} : CallR X (.type "tuple") (fun xs H Q => ∃ x, xs = [x] ∧ ∃ p ys, x = .ref p ∧ ((SqL (X.D tl) H p ys ∧ NewT H Q ys) ∨ (SqT (X.D tl) H p ys ∧ Q (.ref p) H))) := call_tupleF.imp fun xs H Q ⟨x, e, p, ys, h, q⟩ => ⟨p, ys, by rw [e, h], q⟩
def psAll (ρ : DL.Env) : List Val → Option (List PyData × DL.Env)
  | [] => some ([], ρ)
  | r :: rs => (psV ρ r).bind fun p => (psAll p.2 rs).bind fun q => some (p.1 :: q.1, q.2)
theorem vrs_psd {K : Fg} {E P B L E' L' : List Addr} {σ : L2.St} {H : Hp} {x : V} {r : Val} {xs : List V} {rs : List Val}
    (h : ∀ y s, VR K E P B L σ H y s → (r.isOwn = true → s.isOwn = true → y ≠ x) → VR K E' P B L' σ H y s) (hd : r.isOwn = true → ∀ p ∈ xs.zip rs, p.2.isOwn = true → p.1 ≠ x) (vs : VRs K E P B L σ H xs rs) : VRs K E' P B L' σ H xs rs := by
  induction vs with
  | nil => exact .nil
  | @cons y s ys ss w d _ ih => exact .cons (h y s w fun h1 h2 => hd h1 (y, s) (List.mem_cons_self ..) h2) d (ih fun h1 p hp h2 => hd h1 p (List.mem_cons_of_mem _ hp) h2)
theorem psAll_of {K : Fg} {P B : List Addr} {σ : L2.St} {H : Hp} : ∀ {E L : List Addr} {ρ ρ' : DL.Env} {xs : List V} {rs : List Val} {ds : List PyData}, Rep K (E ++ P) B L σ ρ H → VRs K E P B L σ H xs rs → psAll ρ rs = some (ds, ρ') →
    ∃ E' L', Rep K (E' ++ P) B L' σ ρ' H ∧ DqA K H (E' ++ P ++ B ++ L') xs ds ∧ (∀ a ∈ E', a ∈ E) ∧ ∀ a ∈ L', a ∈ L := by
  intro E L ρ ρ' xs rs
  induction rs generalizing E L ρ xs with
  | nil =>
    intro ds R v e
    cases v
    cases e
    exact ⟨E, L, R, .nil, fun _ z => z, fun _ z => z⟩
  | cons r rs ih =>
    intro ds R v e
    cases v with
    | cons v1 d vs =>
      obtain ⟨⟨d1, ρ1⟩, e1, e⟩ := Option.bind_eq_some_iff.mp e
      obtain ⟨⟨ds2, ρ2⟩, e2, e⟩ := Option.bind_eq_some_iff.mp e
      cases e
      obtain ⟨E1, La, p1, h1⟩ := psd_of R v1 e1
      obtain ⟨E2, Lb, R2, dq, es, ls⟩ := ih p1.rep (vrs_psd h1 d vs) e2
      refine ⟨E2, Lb, R2, .cons (p1.dq.sub fun a z => ?_) dq, fun a z => p1.es a (es a z), fun a z => p1.ls a (ls a z)⟩
      rcases mem4.mp z with z | z | z | z
      · exact mem4.mpr (.inl (es a z))
      · exact mem4.mpr (.inr (.inl z))
      · exact mem4.mpr (.inr (.inr (.inl z)))
      · exact mem4.mpr (.inr (.inr (.inr (ls a z))))
theorem Post.less {K : Fg} {E P B L E' L' : List Addr} {σ : L2.St} {ρ' : DL.Env} {H : Hp} (R : Rep K (E' ++ P) B L' σ ρ' H) (es : ∀ a ∈ E', a ∈ E) (ls : ∀ a ∈ L', a ∈ L) : Post K P B L σ H E ρ' H L' E' :=
  ⟨R, ⟨keep_refl, fun a z => .inl (ls a z), fun _ h => h⟩, fun a z => .inl (es a z)⟩
def tupD (t : AD) : ED := callD t fun ρ rs => (psAll ρ rs).bind fun p => if p.1.length ≤ lim then some (.cl (.tuple p.1), p.2) else none
def lstD (t : AD) : ED := callD t fun ρ rs => (psAll ρ rs).bind fun p => if p.1.length ≤ lim then some (.own p.1, p.2) else none
section
variable {X : Cx} {tl : TL} {es : List Expr} {t : AD} {pos : Pos}
theorem disp_core {σ : L2.St} {H : Hp} {Q : VK} {f : List PyData → Val} {New : Hp → VK → List V → Prop} (hf : ∀ {P B L E : List Addr} {ρ : DL.Env} {H : Hp} {vs : List V} {ds : List PyData}, Rep (X.D tl) (E ++ P) B L σ ρ H → DqA (X.D tl) H (E ++ P ++ B ++ L) vs ds → Cont (X.D tl) P B L σ H E ρ (f ds) Q → New H Q vs)
    (h : RD (X.D tl) (callD t fun ρ rs => (psAll ρ rs).bind fun p => if p.1.length ≤ lim then some (f p.1, p.2) else none) σ H Q) : RA (X.D tl) t σ H fun xs H1 => xs.length ≤ sizeLine ∧ New H1 Q xs := by
  have ll := lim_line
  obtain ⟨P, B, L, ρ, r, ρ', R0, e, k⟩ := h
  obtain ⟨⟨r1, ρ1⟩, e1, e⟩ := Option.bind_eq_some_iff.mp e
  obtain ⟨⟨ds, ρ2⟩, e2, e⟩ := Option.bind_eq_some_iff.mp e
  simp only at e
  split at e
  · rename_i hz
    cases e
    refine ⟨P, B, L, ρ, r1, ρ1, R0, e1, fun xs H1 La Ea p1 v1 => ?_⟩
    obtain ⟨E', L', R', dq, es, ls⟩ := psAll_of p1.rep v1 e2
    have p2 := Post.less (K := (X.D tl)) R' es ls
    have hz' : ds.length ≤ lim := hz
    refine ⟨by rw [dq.length]; omega, hf R' dq (k.after (p1.then p2))⟩
  · cases e
theorem d_tup {x1} (h : PA X es (RA (X.D tl) t)) : PE X (.Tuple es x1 pos) (RD (X.D tl) (tupD t)) := (pe_tupF h).imp fun σ H Q h => (disp_core (New := fun H Q xs => NewT H Q xs) (f := fun ds => .cl (.tuple ds)) (fun R d c p ob hp po => c.tup R d hp po) h)
theorem d_lst (h : PA X es (RA (X.D tl) t)) : PE X (.List es pos) (RD (X.D tl) (lstD t)) := (pe_lst h).imp fun σ H Q h => disp_core (New := fun H Q xs => ∀ p, H p = none → Q (.ref p) (upd H p (.lst xs))) (f := fun ds => .own ds) (fun R d c p hp => c.lst R d hp) h
end
end DL
end
noncomputable section
namespace DL
open PySem PySem.Spec PyProof.Rows L2
inductive Out where
  | nx (ρ : DL.Env) | ct (ρ : DL.Env) | bk (ρ : DL.Env) | rt (r : Val) (ρ : DL.Env)
abbrev SD := DL.Env → Option Out
def OutOk (K : Fg) (P B L : List Addr) (H : Hp) (D : Ends) : Out → Prop
  | .nx ρ' => ∀ σ' H' L', Rep K P B L' σ' ρ' H' → Step B L H L' H' → D.nx σ' H'
  | .ct ρ' => ∀ σ' H' L', Rep K P B L' σ' ρ' H' → Step B L H L' H' → D.ct σ' H'
  | .bk ρ' => ∀ σ' H' L', Rep K P B L' σ' ρ' H' → Step B L H L' H' → D.bk σ' H'
  | .rt r ρ' => ∀ σ' x H' L' E', Rep K (E' ++ P) B L' σ' ρ' H' → Step B L H L' H' → (∀ a ∈ E', H a = none) → VR K E' P B L' σ' H' x r → D.rt x H'
def RS (K : Fg) (g : SD) : TS := fun D σ H => ∃ P B L ρ o, Rep K P B L σ ρ H ∧ g ρ = some o ∧ OutOk K P B L H D o
theorem OutOk.after {K : Fg} {P B L La : List Addr} {H Ha : Hp} {D : Ends} {o : Out} (h : OutOk K P B L H D o) (s : Step B L H La Ha) : OutOk K P B La Ha D o := by
  cases o with
  | nx ρ => exact fun σ' H' L' R q => h σ' H' L' R (s.trans q)
  | ct ρ => exact fun σ' H' L' R q => h σ' H' L' R (s.trans q)
  | bk ρ => exact fun σ' H' L' R q => h σ' H' L' R (s.trans q)
  | rt r ρ => exact fun σ' x H' L' E' R q f v => h σ' x H' L' E' R (s.trans q) (fun a ha => by
      cases e : H a with
      | none => rfl
      | some u => exact absurd (f a ha) (s.ne a (by rw [e]; exact fun z => nomatch z))) v
def nilS : SD := fun ρ => some (.nx ρ)
def seqS (g h : SD) : SD := fun ρ => (g ρ).bind fun o => match o with
  | .nx ρ' => h ρ'
  | o => some o
def ifS (c : TD) (g h : SD) : SD := fun ρ => (c ρ).bind fun p => if p.1 = true then g p.2 else h p.2
def retS (f : ED) : SD := fun ρ => (f ρ).bind fun p => some (.rt p.1 p.2)
def dropS (f : ED) : SD := fun ρ => (f ρ).bind fun p => some (.nx p.2)
/-- a value comes to slot i -/
def stV (ρ : DL.Env) (i : Nat) (r : Val) : Option DL.Env := match r with
  | .own ds => some (ρ.set i (.op ds))
  | r => (psV ρ r).map fun p => p.2.set i (.cl p.1)
def setS (i : Nat) (f : ED) : SD := fun ρ => (f ρ).bind fun p => (stV p.2 i p.1).map .nx
def stAll (ρ : DL.Env) : List Nat → List Val → Option DL.Env
  | [], [] => some ρ
  | i :: is, r :: rs => (stV ρ i r).bind fun ρ' => stAll ρ' is rs
  | _, _ => none
def augS (i : Nat) (f : ED) (g : Int → Int → Int) : SD := fun ρ => match ρ.getD i .no with
  | .cl (.int a) => (f ρ).bind fun p => match p.1 with
    | .cl (.int b) => some (.nx (p.2.set i (.cl (.int (g a b)))))
    | _ => none
  | _ => none
section
variable {K : Fg} {P B L E : List Addr} {σ : L2.St} {ρ ρ' : DL.Env} {H : Hp} {x : V} {r : Val}
theorem getS_set (σ : L2.St) (i j : Nat) (x : Option V) : (σ.set i x)[j]? = if i = j ∧ i < σ.length then some x else σ[j]? := by
  rw [List.getElem?_set]
  by_cases h : i = j
  · subst h
    by_cases h2 : i < σ.length
    · simp [h2]
    · simp [h2]
  · simp [h]
/-- closed data into a slot -/
theorem Rep.setCl {d : PyData} (R : Rep K P B L σ ρ H) (i : Nat) (h : Dq K H (P ++ B ++ L) x d) : Rep K P B L (σ.set i (some x)) (ρ.set i (.cl d)) H := by
  refine ⟨by rw [List.length_set, List.length_set]; exact R.len, R.wl, R.nd, fun j => ?_, fun j k a hjk h1 h2 e1 e2 => ?_, R.tabs⟩
  · rw [getD_set, getS_set, R.len]
    by_cases hj : i = j ∧ i < ρ.length
    · rw [if_pos hj, if_pos hj]
      exact ⟨x, rfl, h⟩
    · rw [if_neg hj, if_neg hj]
      exact R.ok j
  · rw [getD_set] at h1 h2
    rw [getS_set, R.len] at e1 e2
    by_cases hj : i = j ∧ i < ρ.length
    · rw [if_pos hj] at h1; cases h1
    · by_cases hk : i = k ∧ i < ρ.length
      · rw [if_pos hk] at h2; cases h2
      · rw [if_neg hj] at h1 e1
        rw [if_neg hk] at h2 e2
        exact R.inj j k a hjk h1 h2 e1 e2
/-- a new list into a slot -/
theorem Rep.setOp {ds : List PyData} {vs : List V} {a : Addr} (R : Rep K ([a] ++ P) B L σ ρ H) (ha : a ∉ P) (i : Nat) (hh : H a = some (.lst vs)) (h : DqA K H ([a] ++ P ++ B ++ L) vs ds) : Rep K P B (a :: L) (σ.set i (some (.ref a))) (ρ.set i (.op ds)) H := by
  have hw : ∀ b ∈ P ++ B ++ (a :: L), b ∈ ([a] ++ P) ++ B ++ L := fun b z => by
    rcases mem3.mp z with z | z | z
    · exact mem4.mpr (.inr (.inl z))
    · exact mem4.mpr (.inr (.inr (.inl z)))
    · rcases List.mem_cons.mp z with z | z
      · exact mem4.mpr (.inl (by simp [z]))
      · exact mem4.mpr (.inr (.inr (.inr z)))
  have hn := R.nd.1 a (by simp)
  -- no open slot holds a
  have ns : ∀ j b, (ρ.getD j .no).isOpen = true → σ[j]? = some (some (V.ref b)) → b ≠ a := fun j b ho e => by
    have q := R.ok j
    revert q ho
    generalize ρ.getD j .no = c
    intro ho q z
    subst z
    cases c with
    | op ds => obtain ⟨a', vs', e1, h1, _⟩ := q; rw [e] at e1; cases e1; exact hn.2 h1
    | pm ds => obtain ⟨a', vs', e1, h1, _⟩ := q; rw [e] at e1; cases e1; exact hn.1 h1
    | dk t ds => obtain ⟨a', vs', e1, h1, _⟩ := q; rw [e] at e1; cases e1; exact hn.2 h1
    | _ => cases ho
  refine ⟨by rw [List.length_set, List.length_set]; exact R.len, fun b z => R.wl b (hw b z), ⟨fun b z => ?_, fun b z y => ?_⟩, fun j => ?_, fun j k b hjk h1 h2 e1 e2 => ?_, R.tabs⟩
  · have q := R.nd.1 b (List.mem_append_right _ z)
    exact ⟨q.1, fun y => (List.mem_cons.mp y).elim (fun y => ha (y ▸ z)) q.2⟩
  · exact (List.mem_cons.mp y).elim (fun y => hn.1 (y ▸ z)) (R.nd.2 b z)
  · rw [getD_set, getS_set, R.len]
    by_cases hj : i = j ∧ i < ρ.length
    · rw [if_pos hj, if_pos hj]
      exact ⟨a, vs, rfl, List.mem_cons_self .., hh, h.sub hw⟩
    · rw [if_neg hj, if_neg hj]
      have q := R.ok j
      revert q
      generalize ρ.getD j .no = c
      intro q
      cases c with
      | no => trivial
      | cl d => obtain ⟨v, e, h⟩ := q; exact ⟨v, e, h.sub hw⟩
      | op ds => obtain ⟨b, vs, e, hm, hh, h⟩ := q; exact ⟨b, vs, e, List.mem_cons_of_mem _ hm, hh, h.sub hw⟩
      | pm ds => obtain ⟨b, vs, e, hm, hh, h⟩ := q; exact ⟨b, vs, e, hm, hh, h.sub hw⟩
      | dk t ds => obtain ⟨b, vs, e, hm, hh, h⟩ := q; exact ⟨b, vs, e, List.mem_cons_of_mem _ hm, hh, h.sub hw⟩
  · rw [getD_set] at h1 h2
    rw [getS_set, R.len] at e1 e2
    by_cases hj : i = j ∧ i < ρ.length
    · rw [if_pos hj] at e1; cases e1
      by_cases hk : i = k ∧ i < ρ.length
      · exact hjk (hj.1.symm.trans hk.1)
      · rw [if_neg hk] at h2 e2
        exact ns k _ h2 e2 rfl
    · rw [if_neg hj] at h1 e1
      by_cases hk : i = k ∧ i < ρ.length
      · rw [if_pos hk] at e2; cases e2
        exact ns j _ h1 e1 rfl
      · rw [if_neg hk] at h2 e2
        exact R.inj j k b hjk h1 h2 e1 e2
/-- what a store leaves: the rest of the values as they were, but to what E', L' became -/
theorem stV_of {i : Nat} (R : Rep K (E ++ P) B L σ ρ H) (v : VR K E P B L σ H x r) (e : stV ρ i r = some ρ') :
    ∃ E' L', Rep K (E' ++ P) B L' (σ.set i (some x)) ρ' H ∧ (∀ a ∈ E', a ∈ E) ∧ (∀ a ∈ L', a ∈ L ∨ a ∈ E) ∧
      ∀ y s, VR K E P B L σ H y s → (∀ j, s ≠ .sl j) → (r.isOwn = true → s.isOwn = true → y ≠ x) → VR K E' P B L' (σ.set i (some x)) H y s := by
  by_cases ho : r.isOwn = true
  · cases r with
    | own ds =>
      cases e
      obtain ⟨a, vs, rfl, hm, hp, hh, h⟩ := v
      have hw : ∀ b ∈ [a] ++ (less E a ++ P) ++ B ++ L, b ∈ E ++ P ++ B ++ L := fun b z => by
        rcases mem4.mp z with z | z | z | z
        · exact mem4.mpr (.inl (by simpa using (show b = a by simpa using z) ▸ hm))
        · rcases List.mem_append.mp z with z | z
          · exact mem4.mpr (.inl (mem_less.mp z).1)
          · exact mem4.mpr (.inr (.inl z))
        · exact mem4.mpr (.inr (.inr (.inl z)))
        · exact mem4.mpr (.inr (.inr (.inr z)))
      have R1 : Rep K ([a] ++ (less E a ++ P)) B L σ ρ H := by
        have q := R.lessE (P := P) (a :: less E a) fun b z => by
          rcases List.mem_cons.mp z with z | z
          · exact z ▸ hm
          · exact (mem_less.mp z).1
        simpa using q
      refine ⟨less E a, a :: L, R1.setOp (fun z => ?_) i hh (h.sub hw), fun b z => (mem_less.mp z).1, fun b z => ?_, fun y s q hs hn => ?_⟩
      · rcases List.mem_append.mp z with z | z
        · exact (mem_less.mp z).2 rfl
        · exact hp z
      · rcases List.mem_cons.mp z with z | z
        · exact .inr (z ▸ hm)
        · exact .inl z
      · have hw2 : ∀ b ∈ less E a ++ P ++ B ++ (a :: L), b ∈ E ++ P ++ B ++ L := fun b z => by
          rcases mem4.mp z with z | z | z | z
          · exact mem4.mpr (.inl (mem_less.mp z).1)
          · exact mem4.mpr (.inr (.inl z))
          · exact mem4.mpr (.inr (.inr (.inl z)))
          · rcases List.mem_cons.mp z with z | z
            · exact mem4.mpr (.inl (z ▸ hm))
            · exact mem4.mpr (.inr (.inr (.inr z)))
        cases s with
        | cl d => exact Dq.sub hw2 q
        | own es => obtain ⟨b, us, e1, h1, h2, h3, h4⟩ := q; exact ⟨b, us, e1, mem_less.mpr ⟨h1, fun z => hn rfl rfl (by rw [e1, z])⟩, h2, h3, h4.sub hw2⟩
        | sl j => exact absurd rfl (hs j)
    | _ => cases ho
  · have e' : ((psV ρ r).map fun p => p.2.set i (.cl p.1)) = some ρ' := by
      cases r with
      | own ds => exact absurd rfl ho
      | _ => exact e
    obtain ⟨⟨d, ρ1⟩, e1, e2⟩ := Option.map_eq_some_iff.mp e'
    subst e2
    obtain ⟨E', L', p, hv⟩ := psd_of R v e1
    refine ⟨E', L', p.rep.setCl i p.dq, p.es, fun a z => .inl (p.ls a z), fun y s q hs hn => ?_⟩
    have q' := hv y s q hn
    cases s with
    | cl d => exact q'
    | own es => exact q'
    | sl j => exact absurd rfl (hs j)
theorem stAll_of : ∀ {is : List Nat} {rs : List Val} {E L : List Addr} {σ : L2.St} {ρ ρ' : DL.Env} {xs : List V}, Rep K (E ++ P) B L σ ρ H → VRs K E P B L σ H xs rs → (∀ r ∈ rs, ∀ j, r ≠ .sl j) → stAll ρ is rs = some ρ' →
    ∃ E' L', Rep K (E' ++ P) B L' ((is.zip xs).foldl (fun s p => s.set p.1 (some p.2)) σ) ρ' H ∧ (∀ a ∈ E', a ∈ E) ∧ (∀ a ∈ L', a ∈ L ∨ a ∈ E) ∧ is.length = xs.length
  | [], [], E, L, σ, ρ, ρ', xs, R, v, _, e => by
    cases v
    cases e
    exact ⟨E, L, R, fun _ z => z, fun _ z => .inl z, rfl⟩
  | i :: is, r :: rs, E, L, σ, ρ, ρ', xs, R, v, hs, e => by
    cases v with
    | @cons x r xs rs v1 d vs =>
      obtain ⟨ρ1, e1, e2⟩ := Option.bind_eq_some_iff.mp e
      obtain ⟨E1, La, R1, h1, h2, hv⟩ := stV_of R v1 e1
      have vs' : VRs K E1 P B La (σ.set i (some x)) H xs rs := by
        have hs' : ∀ r ∈ rs, ∀ j, r ≠ .sl j := fun r hr => hs r (List.mem_cons_of_mem _ hr)
        clear e e2 hs
        induction vs with
        | nil => exact .nil
        | @cons y s ys ss w d2 _ ih =>
          exact .cons (hv y s w (hs' s (List.mem_cons_self ..)) fun q1 q2 => d q1 (y, s) (List.mem_cons_self ..) q2) d2 (ih (fun q p hp q2 => d q p (List.mem_cons_of_mem _ hp) q2) fun r hr => hs' r (List.mem_cons_of_mem _ hr))
      obtain ⟨E2, Lb, R2, g1, g2, g3⟩ := stAll_of R1 vs' (fun r hr => hs r (List.mem_cons_of_mem _ hr)) e2
      refine ⟨E2, Lb, R2, fun a z => h1 a (g1 a z), fun a z => ?_, by rw [List.length_cons, List.length_cons, g3]⟩
      rcases g2 a z with z | z
      · exact h2 a z
      · exact .inr (h1 a z)
  | [], _ :: _, _, _, _, _, _, _, _, _, _, e => by cases e
  | _ :: _, [], _, _, _, _, _, _, _, _, _, e => by cases e
end
section
variable {K : Fg} {D : Ends} {σ : L2.St} {H : Hp} {f : ED} {t : AD} {c : TD} {g h : SD}
theorem rs_nil (h : RS K nilS D σ H) : tNext D σ H := by
  obtain ⟨P, B, L, ρ, o, R, e, k⟩ := h
  cases e
  exact k σ H L R .refl
theorem rs_seq (hh : RS K (seqS g h) D σ H) : tSeq (RS K g) (RS K h) D σ H := by
  obtain ⟨P, B, L, ρ, o, R, e, k⟩ := hh
  obtain ⟨o1, e1, e2⟩ := Option.bind_eq_some_iff.mp e
  refine ⟨P, B, L, ρ, o1, R, e1, ?_⟩
  cases o1 with
  | nx ρ1 => exact fun σ' H' L' R' s' => ⟨P, B, L', ρ1, o, R', e2, k.after s'⟩
  | ct ρ1 => cases e2; exact k
  | bk ρ1 => cases e2; exact k
  | rt r ρ1 => cases e2; exact k
theorem Post.toStep {P B L L' E' : List Addr} {ρ' : DL.Env} {H' : Hp} (p : Post K P B L σ H [] ρ' H' L' E') : Rep K P B L' σ ρ' H' := p.rep.drop
theorem rs_if (hh : RS K (ifS c g h) D σ H) : tIfS (RT K c) (RS K g) (RS K h) D σ H := by
  obtain ⟨P, B, L, ρ, o, R, e, k⟩ := hh
  obtain ⟨⟨b, ρ1⟩, e1, e2⟩ := Option.bind_eq_some_iff.mp e
  refine ⟨P, B, L, ρ, b, ρ1, R, e1, fun H1 La Ea p1 => ?_⟩
  cases b with
  | true => rw [if_pos rfl]; exact ⟨P, B, La, ρ1, o, p1.toStep, by simpa using e2, k.after p1.step⟩
  | false => rw [if_neg Bool.false_ne_true]; exact ⟨P, B, La, ρ1, o, p1.toStep, by simpa using e2, k.after p1.step⟩
theorem rs_ret (hh : RS K (retS f) D σ H) : tRet (RD K f) D σ H := by
  obtain ⟨P, B, L, ρ, o, R, e, k⟩ := hh
  obtain ⟨⟨r, ρ1⟩, e1, e2⟩ := Option.bind_eq_some_iff.mp e
  cases e2
  exact ⟨P, B, L, ρ, r, ρ1, R, e1, fun x H' L' E' p v => k σ x H' L' E' p.rep p.step (fun a z => (p.esub a z).elim (fun q => nomatch q) id) v⟩
theorem rs_drop (hh : RS K (dropS f) D σ H) : tDrop (RD K f) D σ H := by
  obtain ⟨P, B, L, ρ, o, R, e, k⟩ := hh
  obtain ⟨⟨r, ρ1⟩, e1, e2⟩ := Option.bind_eq_some_iff.mp e
  cases e2
  exact ⟨P, B, L, ρ, r, ρ1, R, e1, fun x H' L' E' p v => k σ H' L' p.toStep p.step⟩
theorem step_more {B L L1 L2 E : List Addr} {H H1 : Hp} (s : Step B L H L1 H1) (he : ∀ a ∈ E, a ∈ ([] : List Addr) ∨ H a = none) (hl : ∀ a ∈ L2, a ∈ L1 ∨ a ∈ E) : Step B L H L2 H1 :=
  ⟨s.keep, fun a z => (hl a z).elim (s.lsub a) fun z => (he a z).elim (fun q => nomatch q) .inr, s.ne⟩
theorem rs_set {i : Nat} (hh : RS K (setS i f) D σ H) : tAsg (RD K f) (gName i) D σ H := by
  obtain ⟨P, B, L, ρ, o, R, e, k⟩ := hh
  obtain ⟨⟨r, ρ1⟩, e1, e2⟩ := Option.bind_eq_some_iff.mp e
  obtain ⟨ρ2, e3, e4⟩ := Option.map_eq_some_iff.mp e2
  subst e4
  refine ⟨P, B, L, ρ, r, ρ1, R, e1, fun x H' L' E' p v => ?_⟩
  obtain ⟨E2, Lb, R2, h1, h2, _⟩ := stV_of p.rep v e3
  exact k _ H' Lb R2.drop (step_more p.step p.esub h2)
theorem rs_aug {i : Nat} {w : Int → Int → Int} (hh : RS K (augS i f w) D σ H) : tAug i (RD K f) (ipI w) D σ H := by
  obtain ⟨P, B, L, ρ, o, R, e, k⟩ := hh
  have q := R.ok i
  unfold augS at e
  revert q e
  generalize ρ.getD i .no = c
  intro e q
  cases c with
  | cl d =>
    cases d with
    | int a =>
      obtain ⟨v0, e0, h0⟩ := q
      cases h0
      obtain ⟨⟨r, ρ1⟩, e1, e2⟩ := Option.bind_eq_some_iff.mp e
      refine ⟨.int a, e0, P, B, L, ρ, r, ρ1, R, e1, fun x H' L' E' p v => ?_⟩
      cases r with
      | cl d2 =>
        cases d2 <;> simp at e2
        subst e2
        exact ⟨a, _, rfl, v.int, k _ H' L' (p.toStep.setCl i (.int _)) p.step⟩
      | _ => simp at e2
    | _ => simp at e
  | _ => simp at e
end
section
variable {X : Cx} {tl : TL} {st : Stmt} {rest : List Stmt} {a b c : Expr} {f : ED} {t : AD} {q : TD} {g h : SD} {pos : Pos}
theorem s_nil : PSs X [] (RS (X.D tl) nilS) := pss_nil.imp fun _ _ _ h => rs_nil h
theorem s_cons (h1 : PS X st (RS (X.D tl) g)) (h2 : PSs X rest (RS (X.D tl) h)) : PSs X (st :: rest) (RS (X.D tl) (seqS g h)) := (pss_cons h1 h2).imp fun _ _ _ h => rs_seq h
theorem s_one (h1 : PS X st (RS (X.D tl) g)) : PSs X [st] (RS (X.D tl) g) := pss_one h1
theorem s_if {x y : List Stmt} (hc : PT X c (RT (X.D tl) q)) (h1 : PSs X x (RS (X.D tl) g)) (h2 : PSs X y (RS (X.D tl) h)) : PS X (.If c x y pos) (RS (X.D tl) (ifS q g h)) := (ps_if hc h1 h2).imp fun _ _ _ h => rs_if h
theorem s_ret (h : PE X a (RD (X.D tl) f)) : PS X (.Return (some a) pos) (RS (X.D tl) (retS f)) := (ps_ret h).imp fun _ _ _ h => rs_ret h
theorem s_expr (h : PE X a (RD (X.D tl) f)) (hs : swapsWith a none pos.line X.env = pure false := by rfl) : PS X (.Expr a pos) (RS (X.D tl) (dropS f)) := (ps_expr h hs).imp fun _ _ _ h => rs_drop h
theorem s_set (i : Nat) {x : Str} {pos' : Pos} (he : PE X a (RD (X.D tl) f)) (hN : X.N.Nodup) (hi : X.N[i]? = some x := by rfl) (hx : Loc X.env.scope x := by first | exact Or.inl rfl | exact Or.inr rfl) (hs : swapsWith a (some (.Name x pos')) pos.line X.env = pure false := by rfl) (hf : X.fn x = true ∨ X.env.scope.names.lookup x = some .local := by first | exact .inl rfl | exact .inr rfl) :
    PS X (.Assign [.Name x pos'] a pos) (RS (X.D tl) (setS i f)) := (ps_set hN hi hx he hs hf).imp fun _ _ _ h => rs_set h
theorem s_aug (i : Nat) {x : Str} {op : Operator} {w : Int → Int → Int} {pos' : Pos} (ho : PIp X op (ipI w)) (he : PE X a (RD (X.D tl) f)) (hN : X.N.Nodup) (hi : X.N[i]? = some x := by rfl) (hx : Loc X.env.scope x := by first | exact Or.inl rfl | exact Or.inr rfl) (hf : X.fn x = true ∨ X.env.scope.names.lookup x = some .local := by first | exact .inl rfl | exact .inr rfl) :
    PS X (.AugAssign (.Name x pos') op a pos) (RS (X.D tl) (augS i f w)) := (ps_aug hN hi hx he ho hf).imp fun _ _ _ h => rs_aug h
end
end DL
end
noncomputable section
namespace DL
open PySem PySem.Spec PyProof.Rows L2
def opAt (ρ : DL.Env) (j : Nat) : Option (Bool × List PyData) := match ρ.getD j .no with
  | .op ds => some (true, ds)
  | .pm ds => some (false, ds)
  | _ => none
def opSet (ρ : DL.Env) (j : Nat) (k : Bool) (ds : List PyData) : DL.Env := ρ.set j (if k = true then .op ds else .pm ds)
section
variable {K : Fg} {P B L E : List Addr} {σ : L2.St} {ρ ρ' : DL.Env} {H : Hp} {x : V} {r : Val}
theorem opAt_of {j : Nat} {k : Bool} {ds : List PyData} (R : Rep K P B L σ ρ H) (e : opAt ρ j = some (k, ds)) :
    ∃ a vs, σ[j]? = some (some (V.ref a)) ∧ a ∈ B ++ L ∧ (if k = true then a ∈ L else a ∈ B) ∧ H a = some (.lst vs) ∧ DqA K H (P ++ B ++ L) vs ds ∧ j < ρ.length := by
  have q := R.ok j
  have hj : ρ.getD j .no ≠ .no → j < ρ.length := fun z => by
    by_cases h : j < ρ.length
    · exact h
    · rw [List.getD_eq_getElem?_getD, List.getElem?_eq_none (Nat.le_of_not_lt h)] at z
      exact absurd rfl z
  unfold opAt at e
  revert q e hj
  generalize ρ.getD j .no = c
  intro e q hj
  cases c with
  | op es =>
    cases e
    obtain ⟨a, vs, e1, h1, h2, h3⟩ := q
    exact ⟨a, vs, e1, List.mem_append_right _ h1, h1, h2, h3, hj (fun z => nomatch z)⟩
  | pm es =>
    cases e
    obtain ⟨a, vs, e1, h1, h2, h3⟩ := q
    exact ⟨a, vs, e1, List.mem_append_left _ h1, h1, h2, h3, hj (fun z => nomatch z)⟩
  | _ => cases e
theorem opAt_open {j : Nat} {k : Bool} {ds : List PyData} (e : opAt ρ j = some (k, ds)) : (ρ.getD j .no).isOpen = true := by
  unfold opAt at e
  revert e
  generalize ρ.getD j .no = c
  intro e
  cases c with
  | op es => rfl
  | pm es => rfl
  | _ => cases e
theorem keep_wrD {a : Addr} {o u0 : HO} (hh : H a = some u0) (ou : OwnO u0) : Keep [a] H (upd H a o) := ⟨fun b u e hb _ => by
  rw [upd_ne (by simpa using hb)]; exact e, fun T t p hp => TabS.extB (t p hp) fun b u e z => by
  have hb : b ≠ a := fun q => by
    subst q
    rw [hh] at e
    cases e
    rcases z with ⟨ps, z⟩ | ⟨c, q, z⟩
    · exact ou.ntbl ps z
    · exact ou.ncode z
  rw [upd_ne hb]; exact e, fun b h => by
  by_cases q : b = a
  · rw [q, upd_same]; exact fun z => nomatch z
  · rw [upd_ne q]; exact h⟩
theorem keep_wr {a : Addr} {o : HO} {us : List V} (hh : H a = some (.lst us)) : Keep [a] H (upd H a o) := keep_wrD hh (.lst us)
/-- the list of slot j is written -/
theorem Rep.write {j : Nat} {k : Bool} {ds ds' : List PyData} {a : Addr} {vs' : List V} (R : Rep K P B L σ ρ H) (e : opAt ρ j = some (k, ds)) (ea : σ[j]? = some (some (V.ref a))) (d : DqA K H (P ++ B ++ L) vs' ds') :
    Rep K P B L σ (opSet ρ j k ds') (upd H a (.lst vs')) ∧ Step B L H L (upd H a (.lst vs')) ∧ ∀ {E' P' : List Addr} {y : V} {s : Val}, P = E' ++ P' → VR K E' P' B L σ H y s → VR K E' P' B L σ (upd H a (.lst vs')) y s := by
  obtain ⟨a', vs, e1, hm, hk, hh, dq, hj⟩ := opAt_of R e
  rw [ea] at e1
  cases e1
  have hop := opAt_open e
  have hP : ∀ b ∈ P, b ≠ a := fun b hb z => by
    have q := R.nd.1 b hb
    rcases List.mem_append.mp hm with y | y
    · exact q.1 (z ▸ y)
    · exact q.2 (z ▸ y)
  have hW : a ∈ P ++ B ++ L := mem3.mpr (.inr (List.mem_append.mp hm))
  have hl : Lists H [a] := fun b z => ⟨_, by rw [show b = a by simpa using z]; exact hh, .lst vs⟩
  have hs : ∀ b ∈ [a], b ∈ P ++ B ++ L := fun b z => (show b = a by simpa using z) ▸ hW
  have mv : ∀ {v : V} {d : PyData}, Dq K H (P ++ B ++ L) v d → Dq K (upd H a (.lst vs')) (P ++ B ++ L) v d := fun h => h.move hl hs (keep_wr hh) fun b z => .inl z
  have mvA : ∀ {v : List V} {d : List PyData}, DqA K H (P ++ B ++ L) v d → DqA K (upd H a (.lst vs')) (P ++ B ++ L) v d := fun h => h.move hl hs (keep_wr hh) fun b z => .inl z
  refine ⟨⟨by rw [opSet, List.length_set]; exact R.len, fun b hb => ?_, R.nd, fun i => ?_, fun i i2 b hi h1 h2 => ?_, (keep_wr hh).tab _ R.tabs⟩, ⟨(keep_wr hh).mono fun b z => (show b = a by simpa using z) ▸ hm, fun b z => .inl z, fun b z => ?_⟩, fun {E' P' y s} eP v => ?_⟩
  · by_cases z : b = a
    · exact ⟨_, by rw [z]; exact upd_same, .lst vs'⟩
    · obtain ⟨us, q, ou⟩ := R.wl b hb
      exact ⟨us, by rw [upd_ne z]; exact q, ou⟩
  · unfold opSet
    rw [getD_set]
    by_cases hi : j = i
    · subst hi
      rw [if_pos ⟨rfl, hj⟩]
      cases k with
      | true => exact ⟨a, vs', ea, hk, upd_same, mvA d⟩
      | false => exact ⟨a, vs', ea, hk, upd_same, mvA d⟩
    · rw [if_neg fun z => hi z.1]
      have q := R.ok i
      have inj := R.inj j i a hi hop
      revert q inj
      generalize ρ.getD i .no = c
      intro q inj
      cases c with
      | no => trivial
      | cl d => obtain ⟨v, e2, h⟩ := q; exact ⟨v, e2, mv h⟩
      | op fs =>
        obtain ⟨b, us, e2, h1, h2, h3⟩ := q
        exact ⟨b, us, e2, h1, by rw [upd_ne fun z => inj rfl ea (by rw [← z]; exact e2)]; exact h2, mvA h3⟩
      | pm fs =>
        obtain ⟨b, us, e2, h1, h2, h3⟩ := q
        exact ⟨b, us, e2, h1, by rw [upd_ne fun z => inj rfl ea (by rw [← z]; exact e2)]; exact h2, mvA h3⟩
      | dk t fs =>
        obtain ⟨b, us, e2, h1, h2, h3⟩ := q
        exact ⟨b, us, e2, h1, by rw [upd_ne fun z => inj rfl ea (by rw [← z]; exact e2)]; exact h2, h3.move hl hs (keep_wr hh) fun b z => .inl z⟩
  · have t : ∀ m, ((opSet ρ j k ds').getD m .no).isOpen = true → (ρ.getD m .no).isOpen = true := fun m z => by
      unfold opSet at z
      rw [getD_set] at z
      by_cases hm : j = m ∧ j < ρ.length
      · rw [← hm.1]; exact hop
      · rwa [if_neg hm] at z
    exact R.inj i i2 b hi (t i h1) (t i2 h2)
  · by_cases q : b = a
    · rw [q, upd_same]; exact fun y => nomatch y
    · rw [upd_ne q]; exact z
  · subst eP
    cases s with
    | cl d => exact mv v
    | own es =>
      obtain ⟨b, us, e1, h1, h2, h3, h4⟩ := v
      exact ⟨b, us, e1, h1, h2, by rw [upd_ne (hP b (List.mem_append_left _ h1))]; exact h3, mvA h4⟩
    | sl i => exact v
end
/-- x.m(..) for a list in slot j: what it does to the list, what it answers -/
abbrev MG := DL.Env → List PyData → List Val → Option (Val × List PyData × DL.Env)
def metD (j : Nat) (t : AD) (g : MG) : ED := fun ρ => match opAt ρ j with
  | none => none
  | some _ => (t ρ).bind fun p => match opAt p.2 j with
    | some (_, ds) => (g p.2 ds p.1).bind fun q => match opAt q.2.2 j with
      | some (k, _) => some (q.1, opSet q.2.2 j k q.2.1)
      | none => none
    | none => none
def appG : MG := fun ρ ds rs => match rs with
  | [r] => (psV ρ r).bind fun p => if ds.length < lim then some (.cl .none, ds ++ [p.1], p.2) else none
  | _ => none
def insG : MG := fun ρ ds rs => match rs with
  | [.cl (.int i), r] => (psV ρ r).bind fun p => if ds.length < lim ∧ 0 ≤ i ∧ i ≤ lim then some (.cl .none, ds.take i.toNat ++ [p.1] ++ ds.drop i.toNat, p.2) else none
  | _ => none
def extG : MG := fun ρ ds rs => match rs with
  | [r] => match seqOf ρ r with
    | some (true, es) => if ds.length + es.length ≤ lim then some (.cl .none, ds ++ es, ρ) else none
    | _ => none
  | _ => none
/-- what a list's method asks of its rule -/
def LocM (K : Fg) (R : V → List V → Hp → VK → Prop) (g : MG) : Prop :=
  ∀ {E P B L : List Addr} {σ : L2.St} {ρ ρ' : DL.Env} {H : Hp} {l : Addr} {us : List V} {ds ds' : List PyData} {xs : List V} {rs : List Val} {r : Val}, Rep K (E ++ P) B L σ ρ H → VRs K E P B L σ H xs rs → H l = some (.lst us) → DqA K H (E ++ P ++ B ++ L) us ds → g ρ ds rs = some (r, ds', ρ') →
    ∃ us' y E' L', Rep K (E' ++ P) B L' σ ρ' H ∧ (∀ a ∈ E', a ∈ E) ∧ (∀ a ∈ L', a ∈ L) ∧ DqA K H (E' ++ P ++ B ++ L') us' ds' ∧ VR K E' P B L' σ H y r ∧ ∀ Q : VK, Q y (upd H l (.lst us')) → R (.ref l) xs H Q
section
variable {X : Cx} {tl : TL} {x : Str} {a : Expr} {es : List Expr} {t : AD} {pos apos cpos : Pos}
theorem met_core {j : Nat} {R : V → List V → Hp → VK → Prop} {g : MG} (loc : LocM (X.D tl) R g) {P B L La Ea : List Addr} {ρ1 ρ' : DL.Env} {σ : L2.St} {H H1 : Hp} {Q : VK} {rs : List Val} {r : Val} {xs : List V} {l : Addr} {us0 : List V}
    (el : σ[j]? = some (some (V.ref l))) (p1 : Post (X.D tl) P B L σ H [] ρ1 H1 La Ea) (v1 : VRs (X.D tl) Ea P B La σ H1 xs rs) (k : Cont (X.D tl) P B L σ H [] ρ' r Q)
    (e : (match opAt ρ1 j with
    | some (_, ds) => (g ρ1 ds rs).bind fun q => match opAt q.2.2 j with
      | some (k, _) => some (q.1, opSet q.2.2 j k q.2.1)
      | none => none
    | none => none) = some (r, ρ')) : R (.ref l) xs H1 Q := by
  split at e
  · rename_i kk ds e2
    obtain ⟨⟨r', ds', ρ2⟩, e3, e⟩ := Option.bind_eq_some_iff.mp e
    simp only at e
    split at e
    · rename_i k2 ds2 e4
      cases e
      obtain ⟨l', us, el', _, _, hl, dq, _⟩ := opAt_of p1.rep e2
      rw [el] at el'
      cases el'
      obtain ⟨us', y, E', L', R', es', ls', d', vy, hr⟩ := loc p1.rep v1 hl dq e3
      obtain ⟨R2, s2, hv⟩ := R'.write e4 el d'
      refine hr Q (k _ _ L' E' ⟨R2, (p1.step.trans (Post.less (K := (X.D tl)) R' es' ls').step).trans s2, fun a z => p1.esub a (es' a z)⟩ (hv rfl vy))
    · cases e
  · cases e
theorem met_imp {j : Nat} {R : V → List V → Hp → VK → Prop} {g : MG} (loc : LocM (X.D tl) R g) {σ : L2.St} {H : Hp} {Q : VK} (h : RD (X.D tl) (metD j t g) σ H Q) : tBM (X.D tl) "list" R (tVar j) (RA (X.D tl) t) σ H Q := by
  obtain ⟨P, B, L, ρ, r, ρ', R0, e, k⟩ := h
  unfold metD at e
  split at e
  · cases e
  · rename_i p0 e0
    obtain ⟨k0, ds0⟩ := p0
    obtain ⟨⟨rs, ρ1⟩, e1, e⟩ := Option.bind_eq_some_iff.mp e
    obtain ⟨l, us0, el, _, _, hl0, _, _⟩ := opAt_of R0 e0
    exact ⟨.ref l, el, .inl ⟨rfl, us0, .of hl0⟩, P, B, L, ρ, rs, ρ1, R0, e1, fun xs H1 La Ea p1 v1 => met_core loc el p1 v1 k e (us0 := us0)⟩
theorem vrs_one {K : Fg} {E P B L : List Addr} {σ : L2.St} {H : Hp} {xs : List V} {r : Val} (v : VRs K E P B L σ H xs [r]) : ∃ x, xs = [x] ∧ VR K E P B L σ H x r := by
  cases v with
  | cons v1 _ vs =>
    cases vs
    exact ⟨_, rfl, v1⟩
theorem locM_app {K : Fg} : LocM K rAppend appG := by
  intro E P B L σ ρ ρ' H l us ds ds' xs rs r R v hl dq e
  have ll := lim_line
  unfold appG at e
  split at e
  · rename_i r1
    obtain ⟨⟨d, ρ1⟩, e1, e⟩ := Option.bind_eq_some_iff.mp e
    simp only at e
    split at e
    · rename_i hz
      cases e
      obtain ⟨x, rfl, v1⟩ := vrs_one v
      obtain ⟨E', L', p, _⟩ := psd_of R v1 e1
      refine ⟨us ++ [x], .non, E', L', p.rep, p.es, p.ls, (DqA.sub (fun b z => ?_) dq).append (.cons p.dq .nil), Dq.non, fun Q q => ⟨l, us, x, rfl, rfl, hl, ?_, q⟩⟩
      · rcases mem4.mp z with z | z | z | z
        · exact mem4.mpr (.inl (p.es b z))
        · exact mem4.mpr (.inr (.inl z))
        · exact mem4.mpr (.inr (.inr (.inl z)))
        · exact mem4.mpr (.inr (.inr (.inr (p.ls b z))))
      · rw [dq.length]; omega
    · cases e
  · cases e
theorem locM_ins {K : Fg} : LocM K (fun x vs H Q => ∃ (l : Addr) (xs : List V) (i : Int) (y : V), x = .ref l ∧ vs = [.int i, y] ∧ H l = some (.lst xs) ∧ xs.length < sizeLine ∧ 0 ≤ i ∧ i < 2 ^ 63 ∧ Q .non (upd H l (.lst (xs.take i.toNat ++ [y] ++ xs.drop i.toNat)))) insG := by
  intro E P B L σ ρ ρ' H l us ds ds' xs rs r R v hl dq e
  have ll := lim_line
  unfold insG at e
  split at e
  · rename_i i r1
    obtain ⟨⟨d, ρ1⟩, e1, e⟩ := Option.bind_eq_some_iff.mp e
    simp only at e
    split at e
    · rename_i hz
      cases e
      cases v with
      | cons v0 _ v =>
        obtain ⟨x, rfl, v1⟩ := vrs_one v
        obtain ⟨E', L', p, _⟩ := psd_of R v1 e1
        have hs : ∀ b ∈ E' ++ P ++ B ++ L', b ∈ E ++ P ++ B ++ L := fun b z => by
          rcases mem4.mp z with z | z | z | z
          · exact mem4.mpr (.inl (p.es b z))
          · exact mem4.mpr (.inr (.inl z))
          · exact mem4.mpr (.inr (.inr (.inl z)))
          · exact mem4.mpr (.inr (.inr (.inr (p.ls b z))))
        have dq' := DqA.sub hs dq
        rw [v0.int]
        have hl2 : (lim : Int) < 2 ^ 63 := by rw [lim_eq]; decide
        refine ⟨us.take i.toNat ++ [x] ++ us.drop i.toNat, .non, E', L', p.rep, p.es, p.ls, ((dq'.take _).append (.cons p.dq .nil)).append (dq'.drop _), Dq.non, fun Q q => ⟨l, us, i, x, rfl, rfl, hl, ?_, hz.2.1, by have := hz.2.2; omega, q⟩⟩
        rw [dq.length]; have := hz.1; omega
    · cases e
  · cases e
theorem DqA.dropLast {K : Fg} {H : Hp} {W : List Addr} {vs : List V} {ds : List PyData} (h : DqA K H W vs ds) : DqA K H W vs.dropLast ds.dropLast := by
  rw [List.dropLast_eq_take, List.dropLast_eq_take, h.length]
  exact h.take _
theorem locM_ext {K : Fg} : LocM K rExtend extG := by
  intro E P B L σ ρ ρ' H l us ds ds' xs rs r R v hl dq e
  have ll := lim_line
  unfold extG at e
  split at e
  · rename_i r1
    split at e
    · rename_i es e1
      split at e
      · rename_i hz
        cases e
        obtain ⟨x, rfl, v1⟩ := vrs_one v
        obtain ⟨b, ws, rfl, h2, d2⟩ := v1.list R e1
        refine ⟨us ++ ws, .non, E, L, R, fun _ z => z, fun _ z => z, dq.append d2, Dq.non, fun Q q => ⟨l, b, us, ws, rfl, rfl, hl, h2, ?_, q⟩⟩
        rw [dq.length, d2.length]; omega
      · cases e
    · cases e
  · cases e
theorem d_met {T id : String} {name : Str} (j : Nat) {R : V → List V → Hp → VK → Prop} {g : MG} {px : Pos} (slot : Slot "list" name id) (hty : typeOf (.builtin id) = pure (.type "method_descriptor")) (hm : MtR X id R) (loc : LocM (X.D tl) R g) (ha : PA X (a :: es) (RA (X.D tl) t))
    (hN : X.N[j]? = some x := by rfl) (hv : Vis X.env.scope x := by first | exact Or.inl rfl | exact Or.inr (Or.inl rfl) | exact Or.inr (Or.inr rfl)) (hd : (x == ("__debug__" : Str)) = false := by decide) (hcd : (x == ("__classdict__" : Str)) = false := by decide)
    (hbase : attributeBase (.Name x px) name X.env (eval (.Name x px) X.env) = eval (.Name x px) X.env := by rfl)
    (hfew : ((backTo cpos (starEach (a :: es) X.env)).all (fun x => !x.1) && (backToKw cpos (keywordEach [] X.env)).all (fun x => x.1.isSome) && decide ((a :: es).length + ([] : List Keyword).length + (if ([] : List Keyword).isEmpty then 0 else 1) < 30)) = true := by rfl)
    (hline : (apos.endLine == cpos.line) = true := by rfl) (hs : starEach (a :: es) X.env = (false, eval a X.env) :: starEach es X.env := by rfl) (hplain : (backTo cpos (starEach es X.env)).any (·.1) = false := by rfl) :
    PE X (.Call (.Attribute (.Name x px) name apos) (a :: es) [] cpos) (RD (X.D tl) (metD j t g)) :=
  (pe_bm PySem.F.plainAttrs_list slot hty hm (pe_var hN hv hd hcd) ha hbase hfew hline hs hplain).imp fun _ _ _ h => met_imp loc h
end
def setIx (j : Nat) (fi f : ED) : SD := fun ρ => (f ρ).bind fun p => (opAt p.2 j).bind fun _ => (fi p.2).bind fun q => match q.1 with
  | .cl (.int i) => (psV q.2 p.1).bind fun s => match opAt s.2 j with
    | some (k, ds) => (ixN ds.length i).bind fun m => some (.nx (opSet s.2 j k (ds.set m s.1)))
    | none => none
  | _ => none
def augIx (j : Nat) (fi f : ED) (g : Int → Int → Int) : SD := fun ρ => (opAt ρ j).bind fun _ => (fi ρ).bind fun q => match q.1 with
  | .cl (.int i) => match opAt q.2 j with
    | some (_, ds0) => match atI ds0 i with
      | some (.int b) => (f q.2).bind fun p => match p.1 with
        | .cl (.int c) => match opAt p.2 j with
          | some (k, ds) => (ixN ds.length i).bind fun m => some (.nx (opSet p.2 j k (ds.set m (.int (g b c)))))
          | none => none
        | _ => none
      | _ => none
    | none => none
  | _ => none
section
variable {X : Cx} {tl : TL} {x : Str} {a b : Expr} {fi f : ED} {pos : Pos}
theorem get_list : PGet X (rIxL (X.D tl)) := by
  intro pins s σ H o i ov iv Q I ro ri h
  obtain ⟨p, xs, k, z, rfl, rfl, hq, he, q⟩ := h
  cases ro
  obtain ⟨t, rfl⟩ := ri
  obtain ⟨its, r, pl, hz⟩ := I.list hq
  obtain ⟨j, h1, h2, h3, h4, h5⟩ := atI_get he
  obtain ⟨w, ew, rw'⟩ := r.get h2
  have hl := r.length
  have hn := line63
  have fin : EP X pins σ Q w s := ⟨z, H, I, rw', q⟩
  by_cases h0 : 0 ≤ k
  · have hj : k.toNat = j := by
      have := h1
      rw [seqIndex_of h0 h5] at this
      exact Option.some.inj this
    refine wpAny_getItem_list pl.isList h0 (by omega) (x := w) (by rw [hj]; simpa using ew) fin
  · have hj : (k + (its.toArray.size : Int)).toNat = j := by
      have := h1
      rw [seqIndex_neg (by omega) h4] at this
      rw [List.size_toArray, ← hl]
      exact Option.some.inj this
    exact wpAny_getItem_list_neg pl.isList (by omega) (by rw [List.size_toArray] <;> omega) (by omega) (x := w) (by rw [hj]; simpa using ew) fin
theorem ix_imp {j : Nat} {D : Ends} {σ : L2.St} {H : Hp} (h : RS (X.D tl) (setIx j fi f) D σ H) : tAsg (RD (X.D tl) f) (gSub (tVar j) (RD (X.D tl) fi) rSetL) D σ H := by
  obtain ⟨P, B, L, ρ, o, R0, e, k⟩ := h
  obtain ⟨⟨r, ρ1⟩, e1, e⟩ := Option.bind_eq_some_iff.mp e
  obtain ⟨⟨k0, ds0⟩, e0, e⟩ := Option.bind_eq_some_iff.mp e
  obtain ⟨⟨ri, ρ2⟩, e2, e⟩ := Option.bind_eq_some_iff.mp e
  simp only at e
  split at e
  · rename_i i
    obtain ⟨⟨d, ρ3⟩, e3, e⟩ := Option.bind_eq_some_iff.mp e
    simp only at e
    split at e
    · rename_i kk ds e4
      obtain ⟨m, e5, e⟩ := Option.bind_eq_some_iff.mp e
      cases e
      refine ⟨P, B, L, ρ, r, ρ1, R0, e1, fun v H1 La Ea p1 v1 => ?_⟩
      obtain ⟨l, us0, el, _⟩ := opAt_of p1.rep e0
      refine ⟨V.ref l, el, Ea ++ P, B, La, ρ1, _, ρ2, p1.rep, e2, fun iv H2 Lb Eb p2 v2 => ?_⟩
      have p := p1.two p2
      obtain ⟨E', L', q, _⟩ := psd_of p.rep (v1.later p1.rep p2) e3
      obtain ⟨l', us, el', _, _, hl, dq, _⟩ := opAt_of q.rep e4
      rw [el] at el'
      cases el'
      obtain ⟨R2, s2, _⟩ := q.rep.write e4 el (dq.set q.dq m)
      refine ⟨l, us, i, m, rfl, v2.int, hl, by rw [dq.length]; exact e5, k σ _ L' R2.drop ((p.step.trans (Post.less (K := (X.D tl)) q.rep q.es q.ls).step).trans s2)⟩
    · cases e
  · cases e
theorem s_setIx (j : Nat) {px : Pos} {y : Pos} (he : PE X a (RD (X.D tl) f)) (hi : PE X b (RD (X.D tl) fi))
    (hN : X.N[j]? = some x := by rfl) (hv : Vis X.env.scope x := by first | exact Or.inl rfl | exact Or.inr (Or.inl rfl) | exact Or.inr (Or.inr rfl)) (hd : (x == ("__debug__" : Str)) = false := by decide) (hcd : (x == ("__classdict__" : Str)) = false := by decide)
    (ha : ∀ v, assign (.Subscript (.Name x px) b y) X.env v = (do
      let ov ← holding [v] (eval (.Name x px) X.env)
      let iv ← holding [v, ov] (eval b X.env)
      standAt y
      holding [v, ov, iv] (setItem ov iv v)
      release [v, ov, iv] []) := by intro _; rfl)
    (hs : swapsWithSole [.Subscript (.Name x px) b y] a pos.line X.env = pure false := by rfl) (hw : swappedStores [.Subscript (.Name x px) b y] a X.env = pure none := by rfl)
    (h1 : (assignEach [.Subscript (.Name x px) b y] X.env).map (·.2) = [assign (.Subscript (.Name x px) b y) X.env] := by rfl) :
    PS X (.Assign [.Subscript (.Name x px) b y] a pos) (RS (X.D tl) (setIx j fi f)) :=
  (ps_asg he (pg_sub (pe_var hN hv hd hcd) hi set_list ha) hs hw h1).imp fun _ _ _ h => ix_imp h
theorem aug_imp {j : Nat} {w : Int → Int → Int} {D : Ends} {σ : L2.St} {H : Hp} (h : RS (X.D tl) (augIx j fi f w) D σ H) : tAugS (tVar j) (RD (X.D tl) fi) (RD (X.D tl) f) (rIxL (X.D tl)) (ipI w) rSetL D σ H := by
  obtain ⟨P, B, L, ρ, o, R0, e, k⟩ := h
  obtain ⟨⟨k0, ds00⟩, e0, e⟩ := Option.bind_eq_some_iff.mp e
  obtain ⟨⟨ri, ρ1⟩, e1, e⟩ := Option.bind_eq_some_iff.mp e
  simp only at e
  split at e
  · rename_i i
    split at e
    · rename_i kx ds0 e2
      split at e
      · rename_i b e3
        obtain ⟨⟨r, ρ2⟩, e4, e⟩ := Option.bind_eq_some_iff.mp e
        simp only at e
        split at e
        · rename_i c
          split at e
          · rename_i kk ds e5
            obtain ⟨m, e6, e⟩ := Option.bind_eq_some_iff.mp e
            cases e
            obtain ⟨l, us0, el, _⟩ := opAt_of R0 e0
            refine ⟨V.ref l, el, P, B, L, ρ, _, ρ1, R0, e1, fun iv H1 La Ea p1 v1 => ?_⟩
            obtain ⟨l', us1, el', _, _, hl1, dq1, _⟩ := opAt_of p1.rep e2
            rw [el] at el'
            cases el'
            obtain ⟨z, ez, hz⟩ := atI_dq dq1 e3
            cases hz
            refine ⟨l, us1, i, .int b, rfl, v1.int, .of hl1, ez, Ea ++ P, B, La, ρ1, _, ρ2, p1.rep, e4, fun cv H2 Lb Eb p2 v2 => ?_⟩
            have p := p1.two p2
            obtain ⟨l', us, el', _, _, hl, dq, _⟩ := opAt_of p.rep e5
            rw [el] at el'
            cases el'
            obtain ⟨R2, s2, _⟩ := p.rep.write e5 el (dq.set (.int (w b c)) m)
            refine ⟨b, c, rfl, v2.int, l, us, i, m, rfl, v1.int, hl, by rw [dq.length]; exact e6, k σ _ Lb R2.drop (p.step.trans s2)⟩
          · cases e
        · cases e
      · cases e
    · cases e
  · cases e
theorem s_augIx (j : Nat) {op : Operator} {w : Int → Int → Int} {px y : Pos} (hp : PIp X op (ipI w)) (hi : PE X b (RD (X.D tl) fi)) (he : PE X a (RD (X.D tl) f))
    (hN : X.N[j]? = some x := by rfl) (hv : Vis X.env.scope x := by first | exact Or.inl rfl | exact Or.inr (Or.inl rfl) | exact Or.inr (Or.inr rfl)) (hd : (x == ("__debug__" : Str)) = false := by decide) (hcd : (x == ("__classdict__" : Str)) = false := by decide)
    (ha : ∀ ov iv new, augStore b ov iv new = (do holding [new, ov, iv] (setItem ov iv new); release [new, ov, iv] []; pure .next) := by intros; rfl) :
    PS X (.AugAssign (.Subscript (.Name x px) b y) op a pos) (RS (X.D tl) (augIx j fi f w)) :=
  (ps_augS (pe_var hN hv hd hcd) hi get_list he hp set_list ha).imp fun _ _ _ h => aug_imp h
end
end DL
end
noncomputable section
namespace DL
open PySem PySem.Spec PyProof.Rows L2
abbrev GD := DL.Env → PyData → Option DL.Env
def nameT (i : Nat) : GD := fun ρ d => some (ρ.set i (.cl d))
def setCls (ρ : DL.Env) (is : List Nat) (ds : List PyData) : DL.Env := (is.zip ds).foldl (fun ρ p => ρ.set p.1 (.cl p.2)) ρ
def tupT (is : List Nat) : GD := fun ρ d => match d with
  | .tuple ds => if ds.length = is.length then some (setCls ρ is ds) else none
  | _ => none
def RG (K : Fg) (is : List Nat) (tg : GD) : TG := fun v σ H Q => ∃ P B L ρ d ρ', Rep K P B L σ ρ H ∧ Dq K H (P ++ B ++ L) v d ∧ tg ρ d = some ρ' ∧ ∀ σ' : L2.St, σ'.length = σ.length → (∀ k, k ∉ is → σ'[k]? = σ[k]?) → Rep K P B L σ' ρ' H → Q σ' H
theorem _root_.L2.PG.imp {X : Cx} {e : Expr} {t t' : TG} (p : PG X e t) (h : ∀ v σ H Q, t' v σ H Q → t v σ H Q) : PG X e t' := ⟨fun pins s σ H v u Q I r q => p.run pins s σ H v u Q I r (h v σ H Q q)⟩
def gsOf : List Nat → TGs
  | [] => gNil
  | i :: is => gCons (gName i) (gsOf is)
theorem gs_run {Q : L2.St → Hp → Prop} {H : Hp} : ∀ (is : List Nat) (xs : List V) (σ : L2.St), is.length = xs.length → Q ((is.zip xs).foldl (fun s p => s.set p.1 (some p.2)) σ) H → gsOf is xs σ H Q
  | [], [], σ, _, q => ⟨rfl, q⟩
  | i :: is, x :: xs, σ, hl, q => ⟨x, xs, rfl, gs_run is xs (σ.set i (some x)) (by simpa using hl) q⟩
  | [], _ :: _, _, hl, _ => by simp at hl
  | _ :: _, [], _, hl, _ => by simp at hl
theorem setCls_of {K : Fg} {P B L : List Addr} {H : Hp} : ∀ {is : List Nat} {xs : List V} {ds : List PyData} {σ : L2.St} {ρ : DL.Env}, Rep K P B L σ ρ H → DqA K H (P ++ B ++ L) xs ds → is.length = ds.length →
    Rep K P B L ((is.zip xs).foldl (fun s p => s.set p.1 (some p.2)) σ) (setCls ρ is ds) H ∧ ((is.zip xs).foldl (fun s p => s.set p.1 (some p.2)) σ).length = σ.length ∧ ∀ k, k ∉ is → ((is.zip xs).foldl (fun (s : L2.St) p => s.set p.1 (some p.2)) σ)[k]? = σ[k]?
  | [], _, _, σ, ρ, R, _, _ => ⟨R, rfl, fun _ _ => rfl⟩
  | i :: is, _, _, σ, ρ, R, .cons (v := x) (vs := xs) (d := d) (ds := ds) h1 h2, hl => by
    obtain ⟨a, b, c⟩ := setCls_of (is := is) (R.setCl i h1) h2 (by simpa using hl)
    refine ⟨a, by rw [← b.trans (List.length_set ..)]; rfl, fun k hk => ?_⟩
    have hk' : k ≠ i ∧ k ∉ is := by simpa [not_or] using hk
    show (List.foldl (fun (s : L2.St) p => s.set p.1 (some p.2)) (σ.set i (some x)) (is.zip xs))[k]? = σ[k]?
    rw [c k hk'.2, List.getElem?_set_ne (Ne.symm hk'.1)]
  | _ :: _, _, _, _, _, _, .nil, hl => by simp at hl
section
variable {X : Cx} {tl : TL} {pos : Pos}
theorem g_name (i : Nat) {x : Str} (hN : X.N.Nodup) (hi : X.N[i]? = some x := by rfl) (hx : Loc X.env.scope x := by first | exact Or.inl rfl | exact Or.inr rfl) (hf : X.fn x = true ∨ X.env.scope.names.lookup x = some .local := by first | exact .inl rfl | exact .inr rfl) : PG X (.Name x pos) (RG (X.D tl) [i] (nameT i)) :=
  (pg_name hN hi hx hf).imp fun v σ H Q h => by
    obtain ⟨P, B, L, ρ, d, ρ', R, dq, e, k⟩ := h
    cases e
    refine k _ (by rw [List.length_set]) (fun j hj => ?_) (R.setCl i dq)
    rw [List.getElem?_set_ne (by intro z; exact hj (by simp [z]))]
theorem g_tup {es : List Expr} {is : List Nat} {kk n : Nat} (hc : X.calm = true) (h : PGs X es (gsOf is)) (hl : is.length = n) (hn : (assignEach es X.env).length = n := by rfl) (hst : (assignEach es X.env).findIdx? (·.1) = none := by rfl) : PG X (.Tuple es kk pos) (RG (X.D tl) is (tupT is)) :=
  (pg_tup hc h hn hst).imp fun v σ H Q h => by
    obtain ⟨P, B, L, ρ, d, ρ', R, dq, e, k⟩ := h
    unfold tupT at e
    split at e
    · rename_i ds
      split at e
      · rename_i hz
        cases e
        cases dq with
        | tup h1 h2 =>
          rename_i a xs
          obtain ⟨q1, q2, q3⟩ := setCls_of R h2 hz.symm
          refine ⟨a, xs, rfl, h1.sq, by rw [h2.length, hz, hl], gs_run is xs σ (by rw [h2.length, hz]) (k _ q2 q3 q1)⟩
      · cases e
    · cases e
end
def unpS (tg : GD) (f : ED) : SD := fun ρ => (f ρ).bind fun p => (psV p.2 p.1).bind fun q => (tg q.2 q.1).map .nx
def notSl : Val → Bool
  | .sl _ => false
  | _ => true
def parS (is : List Nat) (t : AD) : SD := fun ρ => (t ρ).bind fun p => if p.1.all notSl = true ∧ p.1.length ≤ lim then (stAll p.2 is p.1).map .nx else none
section
variable {X : Cx} {tl : TL} {a : Expr} {es : List Expr} {f : ED} {t : AD} {pos : Pos}
theorem unp_imp {is : List Nat} {tg : GD} {D : Ends} {σ : L2.St} {H : Hp} (h : RS (X.D tl) (unpS tg f) D σ H) : tAsg (RD (X.D tl) f) (RG (X.D tl) is tg) D σ H := by
  obtain ⟨P, B, L, ρ, o, R0, e, k⟩ := h
  obtain ⟨⟨r, ρ1⟩, e1, e⟩ := Option.bind_eq_some_iff.mp e
  obtain ⟨⟨d, ρ2⟩, e2, e⟩ := Option.bind_eq_some_iff.mp e
  obtain ⟨ρ3, e3, e4⟩ := Option.map_eq_some_iff.mp e
  subst e4
  refine ⟨P, B, L, ρ, r, ρ1, R0, e1, fun x H1 La Ea p1 v1 => ?_⟩
  obtain ⟨E', L', q, _⟩ := psd_of p1.rep v1 e2
  refine ⟨E' ++ P, B, L', ρ2, d, ρ3, q.rep, q.dq, e3, fun σ' _ _ R' => k σ' H1 L' R'.drop (p1.step.trans (Post.less (K := (X.D tl)) q.rep q.es q.ls).step)⟩
theorem s_unp {tgE : Expr} {is : List Nat} {tg : GD} (he : PE X a (RD (X.D tl) f)) (hg : PG X tgE (RG (X.D tl) is tg)) (hs : swapsWithSole [tgE] a pos.line X.env = pure false := by rfl) (hw : swappedStores [tgE] a X.env = pure none := by rfl)
    (h1 : (assignEach [tgE] X.env).map (·.2) = [assign tgE X.env] := by rfl) : PS X (.Assign [tgE] a pos) (RS (X.D tl) (unpS tg f)) :=
  (ps_asg he hg hs hw h1).imp fun _ _ _ h => unp_imp h
theorem sl_all {rs : List Val} (h : rs.all notSl = true) : ∀ r ∈ rs, ∀ j, r ≠ .sl j := fun r hr j e => by
  have := List.all_eq_true.mp h r hr
  rw [e] at this
  cases this
theorem par_core {is : List Nat} {D : Ends} {σ : L2.St} {H : Hp} (h : RS (X.D tl) (parS is t) D σ H) : RA (X.D tl) t σ H fun xs H1 => is.length = xs.length ∧ xs.length ≤ sizeLine ∧ ∀ H2, Keep [] H1 H2 → D.nx ((is.zip xs).foldl (fun s p => s.set p.1 (some p.2)) σ) H2 := by
  have ll := lim_line
  obtain ⟨P, B, L, ρ, o, R0, e, k⟩ := h
  obtain ⟨⟨rs, ρ1⟩, e1, e⟩ := Option.bind_eq_some_iff.mp e
  simp only at e
  split at e
  · rename_i hz
    obtain ⟨ρ2, e2, e3⟩ := Option.map_eq_some_iff.mp e
    subst e3
    refine ⟨P, B, L, ρ, rs, ρ1, R0, e1, fun xs H1 La Ea p1 v1 => ?_⟩
    have hlen : xs.length = rs.length := by
      clear e1 e2 hz e k
      induction v1 with
      | nil => rfl
      | cons _ _ _ ih => rw [List.length_cons, List.length_cons, ih]
    obtain ⟨E2, Lb, R2, h1, h2, h3⟩ := stAll_of p1.rep v1 (sl_all hz.1) e2
    refine ⟨h3, by rw [hlen]; have := hz.2; omega, fun H2 kp => ?_⟩
    exact k _ H2 Lb (R2.drop.same kp) ((step_more (L := L) p1.step p1.esub h2).trans (Step.of_same kp))
  · cases e
/-- by way of the tuple -/
theorem s_par {ts : List Expr} {is : List Nat} {n kt k2 : Nat} {pt pt2 : Pos} (hc : X.calm = true) (ha : PA X es (RA (X.D tl) t)) (h : PGs X ts (gsOf is)) (hl : is.length = n) (hn : (assignEach ts X.env).length = n := by rfl) (hst : (assignEach ts X.env).findIdx? (·.1) = none := by rfl)
    (hs : swapsWithSole [.Tuple ts kt pt] (.Tuple es k2 pt2) pos.line X.env = pure false := by rfl) (hw : swappedStores [.Tuple ts kt pt] (.Tuple es k2 pt2) X.env = pure none := by rfl)
    (h1 : (assignEach [.Tuple ts kt pt] X.env).map (·.2) = [assign (.Tuple ts kt pt) X.env] := by rfl) : PS X (.Assign [.Tuple ts kt pt] (.Tuple es k2 pt2) pos) (RS (X.D tl) (parS is t)) :=
  (ps_asg (pe_tup ha) (pg_tup hc h hn hst) hs hw h1).imp fun D σ H h => by
    obtain ⟨P, B, L, ρ, rs, ρ', R0, e, k⟩ := par_core h
    refine ⟨P, B, L, ρ, rs, ρ', R0, e, fun xs H' L' E' p v => ?_⟩
    obtain ⟨q1, q2, q3⟩ := k xs H' L' E' p v
    refine ⟨q2, fun p hp => ⟨p, xs, rfl, .inl (.inl upd_same), by rw [← q1, hl], gs_run is xs σ q1 (q3 _ (Keep.new hp))⟩⟩
/-- two plain names, stored from the right -/
theorem s_par2 {i j : Nat} {x y : Str} {u v : Expr} {px py pt : Pos} {kt k2 : Nat} {pt2 : Pos} (hc : X.calm = true) (hij : i ≠ j) (hN : X.N.Nodup) (ha : PA X [u, v] (RA (X.D tl) t)) (hi : X.N[i]? = some x := by rfl) (hj : X.N[j]? = some y := by rfl)
    (hx : X.env.scope.names.lookup x = some .local := by rfl) (hy : X.env.scope.names.lookup y = some .local := by rfl)
    (hw : swappedStores [.Tuple [.Name x px, .Name y py] kt pt] (.Tuple [u, v] k2 pt2) X.env = pure (some [x, y]) := by rfl)
    (hs : swapsWithSole [.Tuple [.Name x px, .Name y py] kt pt] (.Tuple [u, v] k2 pt2) pos.line X.env = pure false := by rfl) :
    PS X (.Assign [.Tuple [.Name x px, .Name y py] kt pt] (.Tuple [u, v] k2 pt2) pos) (RS (X.D tl) (parS [i, j] t)) :=
  (ps_par hc hN hi hj hij hx hy ha hw hs).imp fun D σ H h => by
    obtain ⟨P, B, L, ρ, rs, ρ', R0, e, k⟩ := par_core h
    refine ⟨P, B, L, ρ, rs, ρ', R0, e, fun xs H' L' E' p v => ?_⟩
    obtain ⟨q1, q2, q3⟩ := k xs H' L' E' p v
    match xs, q1 with
    | [v1, v2], _ => exact ⟨v1, v2, rfl, q3 H' keep_refl⟩
end
def loopD (tg : GD) (body : SD) : List PyData → DL.Env → Option Out
  | [], ρ => some (.nx ρ)
  | d :: ds, ρ => (tg ρ d).bind fun ρ1 => (body ρ1).bind fun o => match o with
    | .nx ρ2 => loopD tg body ds ρ2
    | .ct ρ2 => loopD tg body ds ρ2
    | .bk ρ2 => some (.nx ρ2)
    | .rt r ρ2 => some (.rt r ρ2)
abbrev ID := DL.Env → Option (List PyData × DL.Env)
def forS (fi : ID) (tg : GD) (body : SD) : SD := fun ρ => (fi ρ).bind fun p => loopD tg body p.1 p.2
def Walks (K : Fg) (P B L : List Addr) (H : Hp) (J : It) (ds : List PyData) : Prop :=
  ∀ H2 L2 E, Step B L H L2 H2 → (∀ a ∈ E, H a = none) → (∀ i d, ds[i]? = some d → J.go i H2 ∧ ∀ x H3, J.yld i H2 x H3 → Keep [] H2 H3 ∧ Dq K H3 (E ++ P ++ B ++ L2) x d) ∧ J.stop ds.length H2
/-- the same, where lists that are shut out may change, too -/
def WalksA (K : Fg) (P B L : List Addr) (H : Hp) (J : It) (ds : List PyData) : Prop :=
  ∀ H2 L2 E, Step (P ++ B) L H L2 H2 → (∀ a ∈ E, H a = none) → (∀ i d, ds[i]? = some d → J.go i H2 ∧ ∀ x H3, J.yld i H2 x H3 → Keep [] H2 H3 ∧ Dq K H3 (E ++ P ++ B ++ L2) x d) ∧ J.stop ds.length H2
theorem Step.wide {P B L L' : List Addr} {H H' : Hp} (s : Step B L H L' H') : Step (P ++ B) L H L' H' := ⟨s.keep.mono fun a z => (List.mem_append.mp z).elim (fun z => List.mem_append_left _ (List.mem_append_right _ z)) fun z => List.mem_append_right _ z, s.lsub, s.ne⟩
theorem WalksA.walks {K : Fg} {P B L : List Addr} {H : Hp} {J : It} {ds : List PyData} (w : WalksA K P B L H J ds) : Walks K P B L H J ds := fun H2 L2 E s he => w H2 L2 E s.wide he
def RI (K : Fg) (fi : ID) : TI := fun σ H R => ∃ P B L ρ ds ρ', Rep K P B L σ ρ H ∧ fi ρ = some (ds, ρ') ∧ ∀ J H' L' E', Post K P B L σ H [] ρ' H' L' E' → WalksA K (E' ++ P) B L' H' J ds → R J H'
theorem _root_.L2.PI.imp {X : Cx} {tg e : Expr} {t t' : TI} (p : PI X tg e t) (h : ∀ σ H Q, t' σ H Q → t σ H Q) : PI X tg e t' := ⟨fun pins s σ H Q I q => p.run pins s σ H Q I (h σ H Q q)⟩
theorem _root_.L2.PI.or {X : Cx} {tg e : Expr} {t t' : TI} (p : PI X tg e t) (p' : PI X tg e t') : PI X tg e (fun σ H R => t σ H R ∨ t' σ H R) := ⟨fun pins s σ H Q I q => q.elim (p.run pins s σ H Q I) (p'.run pins s σ H Q I)⟩
section
variable {X : Cx} {tl : TL} {tgE iter : Expr} {body : List Stmt} {fi : ID} {tg : GD} {is : List Nat} {g : SD} {c : Expr} {q : TD} {pos : Pos}
theorem drop_cons {α : Type} {l : List α} {i : Nat} {d : α} (h : l[i]? = some d) : l.drop i = d :: l.drop (i + 1) := by
  obtain ⟨h1, h2⟩ := List.getElem?_eq_some_iff.mp h
  rw [← h2]
  exact List.drop_eq_getElem_cons h1
theorem hmem (E5 Ea P B L5 : List Addr) : ∀ a ∈ E5 ++ P ++ B ++ L5, a ∈ E5 ++ (Ea ++ P) ++ B ++ L5 := fun a z => by
  rcases mem4.mp z with z | z | z | z
  · exact mem4.mpr (.inl z)
  · exact mem4.mpr (.inr (.inl (List.mem_append_right _ z)))
  · exact mem4.mpr (.inr (.inr (.inl z)))
  · exact mem4.mpr (.inr (.inr (.inr z)))
theorem _root_.DL.Rep.weakP {K : Fg} {P P' B L : List Addr} {σ : L2.St} {ρ : DL.Env} {H : Hp} (R : Rep K P B L σ ρ H) (hp : ∀ a ∈ P', a ∈ P) : Rep K P' B L σ ρ H := by
  have hs : ∀ a ∈ P' ++ B ++ L, a ∈ P ++ B ++ L := fun a z => by
    rcases mem3.mp z with z | z | z
    · exact mem3.mpr (.inl (hp a z))
    · exact mem3.mpr (.inr (.inl z))
    · exact mem3.mpr (.inr (.inr z))
  refine ⟨R.len, fun a z => R.wl a (hs a z), ⟨fun a z => R.nd.1 a (hp a z), R.nd.2⟩, fun i => ?_, R.inj, R.tabs⟩
  have h0 := R.ok i
  revert h0
  generalize ρ.getD i .no = cc
  intro h0
  cases cc with
  | no => trivial
  | cl d => obtain ⟨v, e, h⟩ := h0; exact ⟨v, e, h.sub hs⟩
  | op ds => obtain ⟨a, vs, e, hm, hh, h⟩ := h0; exact ⟨a, vs, e, hm, hh, h.sub hs⟩
  | pm ds => obtain ⟨a, vs, e, hm, hh, h⟩ := h0; exact ⟨a, vs, e, hm, hh, h.sub hs⟩
  | dk t ds => obtain ⟨a, vs, e, hm, hh, h⟩ := h0; exact ⟨a, vs, e, hm, hh, h.sub hs⟩
theorem for_imp {D : Ends} {σ : L2.St} {H : Hp} (h : RS (X.D tl) (forS fi tg g) D σ H) : tFor (RI (X.D tl) fi) (RG (X.D tl) is tg) (RS (X.D tl) g) D σ H := by
  obtain ⟨P, B, L, ρ, o, R0, e, k⟩ := h
  obtain ⟨⟨ds, ρ1⟩, e1, e2⟩ := Option.bind_eq_some_iff.mp e
  refine ⟨P, B, L, ρ, ds, ρ1, R0, e1, fun J H1 La Ea p1 wk => ?_⟩
  refine ⟨fun i m σ H => m = ds.length - i ∧ i ≤ ds.length ∧ ∃ L ρ, Rep (X.D tl) (Ea ++ P) B L σ ρ H ∧ Step B La H1 L H ∧ loopD tg g (ds.drop i) ρ = some o, ⟨ds.length, by simp, Nat.zero_le _, La, ρ1, p1.rep, .refl, by simpa using e2⟩, ?_⟩
  rintro i m σ' H' ⟨rfl, hi, L', ρ', R', s', e'⟩
  obtain ⟨wgo, wst⟩ := wk.walks H' L' [] s' (fun _ z => nomatch z)
  cases hd : ds[i]? with
  | none =>
    have hz : i = ds.length := by
      have := List.getElem?_eq_none_iff.mp hd
      omega
    subst hz
    rw [List.drop_length] at e'
    cases e'
    exact .inl ⟨wst, k σ' H' L' R'.drop (p1.step.trans s')⟩
  | some d =>
    have hlt := (List.getElem?_eq_some_iff.mp hd).1
    obtain ⟨gg, gy⟩ := wgo i d hd
    rw [drop_cons hd] at e'
    obtain ⟨ρ2, e3, e4⟩ := Option.bind_eq_some_iff.mp e'
    obtain ⟨o2, e5, e6⟩ := Option.bind_eq_some_iff.mp e4
    refine .inr ⟨gg, fun σ2 H2 => ∃ L ρ, Rep (X.D tl) (Ea ++ P) B L σ2 ρ H2 ∧ Step B La H1 L H2 ∧ loopD tg g (ds.drop (i + 1)) ρ = some o, fun σ2 H2 hn => ⟨ds.length - (i + 1), by omega, rfl, hlt, hn⟩, fun x H3 hy => ?_⟩
    obtain ⟨kp, dq⟩ := gy x H3 hy
    have R3 : Rep (X.D tl) (Ea ++ P) B L' σ' ρ' H3 := R'.same kp
    have s3 : Step B La H1 L' H3 := s'.trans (Step.of_same kp)
    refine ⟨Ea ++ P, B, L', ρ', d, ρ2, R3, (show Dq (X.D tl) H3 ((Ea ++ P) ++ B ++ L') x d from dq), e3, fun σ4 _ _ R4 => ⟨Ea ++ P, B, L', ρ2, o2, R4, e5, ?_⟩⟩
    cases o2 with
    | nx ρ5 => exact fun σ5 H5 L5 R5 s5 => ⟨L5, ρ5, R5, s3.trans s5, e6⟩
    | ct ρ5 => exact fun σ5 H5 L5 R5 s5 => ⟨L5, ρ5, R5, s3.trans s5, e6⟩
    | bk ρ5 =>
      cases e6
      exact fun σ5 H5 L5 R5 s5 => k σ5 H5 L5 R5.drop (p1.step.trans (s3.trans s5))
    | rt r ρ5 =>
      cases e6
      refine fun σ5 x5 H5 L5 E5 R5 s5 f5 v5 => k σ5 x5 H5 L5 E5 ?_ (p1.step.trans (s3.trans s5)) (fun a ha => ?_) ?_
      · exact R5.weakP fun a z => (List.mem_append.mp z).elim (fun z => List.mem_append_left _ z) fun z => List.mem_append_right _ (List.mem_append_right _ z)
      · cases eh : H a with
        | none => rfl
        | some u => exact absurd (f5 a ha) ((p1.step.trans s3).ne a (by rw [eh]; exact fun z => nomatch z))
      · cases r with
        | cl d => exact Dq.sub (hmem E5 Ea P B L5) (show Dq (X.D tl) H5 (E5 ++ (Ea ++ P) ++ B ++ L5) x5 d from v5)
        | own fs =>
          obtain ⟨a, us, e1, h1, h2, h3, h4⟩ := v5
          exact ⟨a, us, e1, h1, fun z => h2 (List.mem_append_right _ z), h3, h4.sub (hmem E5 Ea P B L5)⟩
        | sl j => exact v5
theorem s_for (hp : PassesOwn (model X.prog X.w) X.A X.env X.xe) (hc : X.calm = true) (hi : PI X tgE iter (RI (X.D tl) fi)) (hg : PG X tgE (RG (X.D tl) is tg)) (hb : PSs X body (RS (X.D tl) g)) (hs : ∀ x, foldedSetIterable iter X.env x = pure x := by intro _; rfl) :
    PS X (.For tgE iter body [] pos) (RS (X.D tl) (forS fi tg g)) := (ps_for hp hc hi hg hb hs).imp fun _ _ _ h => for_imp h
def whileD (c : TD) (body : SD) : Nat → DL.Env → Option Out
  | 0, _ => none
  | n + 1, ρ => (c ρ).bind fun p => if p.1 = true then (body p.2).bind fun o => match o with
      | .nx ρ2 => whileD c body n ρ2
      | .ct ρ2 => whileD c body n ρ2
      | .bk ρ2 => some (.nx ρ2)
      | .rt r ρ2 => some (.rt r ρ2)
    else some (.nx p.2)
def whileS (n : Nat) (c : TD) (body : SD) : SD := fun ρ => whileD c body n ρ
theorem while_imp {n : Nat} {D : Ends} {σ : L2.St} {H : Hp} (h : RS (X.D tl) (whileS n q g) D σ H) : tWhile (RT (X.D tl) q) (RS (X.D tl) g) D σ H := by
  obtain ⟨P, B, L, ρ, o, R0, e, k⟩ := h
  refine ⟨fun m σ H' => ∃ La ρ, Rep (X.D tl) P B La σ ρ H' ∧ Step B L H La H' ∧ whileD q g m ρ = some o, ⟨n, L, ρ, R0, .refl, e⟩, ?_⟩
  rintro m σ1 H1 ⟨La, ρ1, R1, s1, e1⟩
  cases m with
  | zero => cases e1
  | succ m =>
    obtain ⟨⟨b, ρ2⟩, e2, e3⟩ := Option.bind_eq_some_iff.mp e1
    refine ⟨P, B, La, ρ1, b, ρ2, R1, e2, fun H2 Lb Eb p2 => ?_⟩
    cases b with
    | false =>
      have e4 : o = .nx ρ2 := (Option.some.inj (by simpa using e3)).symm
      subst e4
      rw [if_neg Bool.false_ne_true]
      exact k σ1 H2 Lb p2.toStep (s1.trans p2.step)
    | true =>
      rw [if_pos rfl]
      simp only [if_true] at e3
      obtain ⟨o2, e4, e5⟩ := Option.bind_eq_some_iff.mp e3
      refine ⟨fun σ3 H3 => ∃ Lc ρ3, Rep (X.D tl) P B Lc σ3 ρ3 H3 ∧ Step B L H Lc H3 ∧ whileD q g m ρ3 = some o, fun σ3 H3 hn => ⟨m, Nat.lt_succ_self _, hn⟩, P, B, Lb, ρ2, o2, p2.toStep, e4, ?_⟩
      cases o2 with
      | nx ρ5 => exact fun σ5 H5 L5 R5 s5 => ⟨L5, ρ5, R5, s1.trans (p2.step.trans s5), e5⟩
      | ct ρ5 => exact fun σ5 H5 L5 R5 s5 => ⟨L5, ρ5, R5, s1.trans (p2.step.trans s5), e5⟩
      | bk ρ5 =>
        cases e5
        exact fun σ5 H5 L5 R5 s5 => k σ5 H5 L5 R5 (s1.trans (p2.step.trans s5))
      | rt r ρ5 =>
        cases e5
        exact OutOk.after k (s1.trans p2.step)
theorem s_while (n : Nat) (hp : PassesOwn (model X.prog X.w) X.A X.env X.xe) (hc : PT X c (RT (X.D tl) q)) (hb : PSs X body (RS (X.D tl) g)) : PS X (.While c body [] pos) (RS (X.D tl) (whileS n q g)) := (ps_while hp hc hb).imp fun _ _ _ h => while_imp h
end
end DL
end
noncomputable section
namespace DL
open PySem PySem.Spec PyProof.Rows L2
def seqI (f : ED) : ID := fun ρ => (f ρ).bind fun p => (psV p.2 p.1).bind fun q => match q.1 with
  | .list ds => some (ds, q.2)
  | .tuple ds => some (ds, q.2)
  | _ => none
def rngD (a : Int) (n : Nat) (c : Int) : List PyData := (List.range n).map fun (k : Nat) => .int (a + k * c)
def rng1I (t : AD) : ID := fun ρ => (t ρ).bind fun p => match p.1 with
  | [.cl (.int j)] => if -lim ≤ j ∧ j ≤ lim then some (rngD 0 j.toNat 1, p.2) else none
  | _ => none
def rng2I (t : AD) : ID := fun ρ => (t ρ).bind fun p => match p.1 with
  | [.cl (.int i), .cl (.int j)] => if (-lim ≤ i ∧ i ≤ lim) ∧ -lim ≤ j ∧ j ≤ lim then some (rngD i (j - i).toNat 1, p.2) else none
  | _ => none
def rng3I (t : AD) : ID := fun ρ => (t ρ).bind fun p => match p.1 with
  | [.cl (.int i), .cl (.int j), .cl (.int c)] => if ((-lim ≤ i ∧ i ≤ lim) ∧ -lim ≤ j ∧ j ≤ lim) ∧ c = -1 then some (rngD i (i - j).toNat (-1), p.2) else none
  | _ => none
section
variable {X : Cx} {tl : TL} {tgE a b c : Expr} {f : ED} {t : AD} {pos p : Pos}
theorem Dq.stepE {K : Fg} {P B L L' E : List Addr} {σ : L2.St} {ρ : DL.Env} {H H' : Hp} (R : Rep K P B L σ ρ H) (s : Step B L H L' H') (he : ∀ a ∈ E, H a = none) {v : V} {d : PyData} (h : Dq K H (P ++ B ++ L) v d) : Dq K H' (E ++ P ++ B ++ L') v d :=
  h.move R.lbl (fun a z => mem3.mpr (.inr (List.mem_append.mp z))) s.keep fun a z => by
    rcases mem4.mp z with z | z | z | z
    · exact .inr (he a z)
    · exact .inl (mem3.mpr (.inl z))
    · exact .inl (mem3.mpr (.inr (.inl z)))
    · exact (s.lsub a z).imp (fun z => mem3.mpr (.inr (.inr z))) id
theorem Dq.stepA {K : Fg} {P B L L' E : List Addr} {σ : L2.St} {ρ : DL.Env} {H H' : Hp} (R : Rep K P B L σ ρ H) (s : Step (P ++ B) L H L' H') (he : ∀ a ∈ E, H a = none) {v : V} {d : PyData} (h : Dq K H (P ++ B ++ L) v d) : Dq K H' (E ++ P ++ B ++ L') v d :=
  h.move R.wl (fun a z => z) s.keep fun a z => by
    rcases mem4.mp z with z | z | z | z
    · exact .inr (he a z)
    · exact .inl (mem3.mpr (.inl z))
    · exact .inl (mem3.mpr (.inr (.inl z)))
    · exact (s.lsub a z).imp (fun z => mem3.mpr (.inr (.inr z))) id
theorem walks_l {K : Fg} {P B L : List Addr} {σ : L2.St} {ρ : DL.Env} {H : Hp} {l : Addr} {ds : List PyData} (R : Rep K P B L σ ρ H) (d : Dq K H (P ++ B ++ L) (.ref l) (.list ds)) : WalksA K P B L H (Itl K l) ds := fun H2 L2 E s he => by
  have d2 := Dq.stepA R s he d
  cases d2 with
  | lst h1 h2 h3 =>
    rename_i xs
    refine ⟨fun i d hd => ?_, ⟨xs, .of h2, Nat.le_of_eq h3.length⟩⟩
    obtain ⟨v, hv, dv⟩ := h3.get hd
    refine ⟨⟨xs, v, .of h2, hv⟩, fun x H3 hy => ?_⟩
    obtain ⟨rfl, hx⟩ := hy
    have := hx xs (.of h2)
    rw [hv] at this
    cases this
    exact ⟨keep_refl, dv⟩
theorem walks_t {K : Fg} {P B L : List Addr} {σ : L2.St} {ρ : DL.Env} {H : Hp} {l : Addr} {ds : List PyData} (R : Rep K P B L σ ρ H) (d : Dq K H (P ++ B ++ L) (.ref l) (.tuple ds)) : WalksA K P B L H (Itt K l) ds := fun H2 L2 E s he => by
  have d2 := Dq.stepA R s he d
  cases d2 with
  | tup h2 h3 =>
    rename_i xs
    refine ⟨fun i d hd => ?_, ⟨xs, h2.sq, Nat.le_of_eq h3.length⟩⟩
    obtain ⟨v, hv, dv⟩ := h3.get hd
    refine ⟨⟨xs, v, h2.sq, hv⟩, fun x H3 hy => ?_⟩
    obtain ⟨rfl, hx⟩ := hy
    have := hx xs h2.sq
    rw [hv] at this
    cases this
    exact ⟨keep_refl, dv⟩
theorem dq_list {K : Fg} {H : Hp} {W : List Addr} {x : V} {ds : List PyData} (d : Dq K H W x (.list ds)) : ∃ a xs, x = V.ref a ∧ SqL K H a xs := by
  cases d with
  | lst h1 h2 h3 => exact ⟨_, _, rfl, .of h2⟩
theorem dq_tup {K : Fg} {H : Hp} {W : List Addr} {x : V} {ds : List PyData} (d : Dq K H W x (.tuple ds)) : ∃ a xs, x = V.ref a ∧ SqT K H a xs := by
  cases d with
  | tup h2 h3 => exact ⟨_, _, rfl, h2.sq⟩
theorem i_seq (h : PE X a (RD (X.D tl) f)) : PI X tgE a (RI (X.D tl) (seqI f)) := ((pi_list h).or (pi_tup h)).imp fun σ H R h => by
  obtain ⟨P, B, L, ρ, ds, ρ', R0, e, k⟩ := h
  obtain ⟨⟨r, ρ1⟩, e1, e⟩ := Option.bind_eq_some_iff.mp e
  obtain ⟨⟨d, ρ2⟩, e2, e⟩ := Option.bind_eq_some_iff.mp e
  have go : ∀ {x : V} {H1 : Hp} {La Ea : List Addr}, Post (X.D tl) P B L σ H [] ρ1 H1 La Ea → VR (X.D tl) Ea P B La σ H1 x r → ∃ E' L', Post (X.D tl) P B L σ H [] ρ2 H1 L' E' ∧ Dq (X.D tl) H1 (E' ++ P ++ B ++ L') x d := fun {x H1 La Ea} p1 v1 => by
    obtain ⟨E', L', q, _⟩ := psd_of p1.rep v1 e2
    exact ⟨E', L', p1.then (Post.less q.rep q.es q.ls), q.dq⟩
  simp only at e
  split at e
  · cases e
    refine .inl ⟨P, B, L, ρ, r, ρ1, R0, e1, fun x H1 La Ea p1 v1 => ?_⟩
    obtain ⟨E', L', p2, dq⟩ := go p1 v1
    obtain ⟨l, xs, rfl, hq⟩ := dq_list dq
    exact ⟨l, rfl, ⟨xs, hq⟩, k _ _ _ _ p2 (walks_l p2.rep dq)⟩
  · cases e
    refine .inr ⟨P, B, L, ρ, r, ρ1, R0, e1, fun x H1 La Ea p1 v1 => ?_⟩
    obtain ⟨E', L', p2, dq⟩ := go p1 v1
    obtain ⟨l, xs, rfl, hq⟩ := dq_tup dq
    exact ⟨l, rfl, ⟨xs, hq⟩, k _ _ _ _ p2 (walks_t p2.rep dq)⟩
  · cases e
theorem rng_get {a : Int} {n : Nat} {c : Int} {i : Nat} {d : PyData} (h : (rngD a n c)[i]? = some d) : i < n ∧ d = .int (a + i * c) := by
  unfold rngD at h
  rw [List.getElem?_map] at h
  obtain ⟨k, h1, h2⟩ := Option.map_eq_some_iff.mp h
  obtain ⟨h3, h4⟩ := List.getElem?_eq_some_iff.mp h1
  rw [List.getElem_range] at h4
  rw [List.length_range] at h3
  subst h4
  exact ⟨h3, h2.symm⟩
theorem rng_len (a : Int) (n : Nat) (c : Int) : (rngD a n c).length = n := by unfold rngD; rw [List.length_map, List.length_range]
theorem walks_r {K : Fg} {P B L : List Addr} {H : Hp} {a : Int} {n : Nat} : WalksA K P B L H (Itr a n) (rngD a n 1) := fun H2 L2 E s he => by
  refine ⟨fun i d hd => ?_, by rw [rng_len]; exact Nat.le_refl _⟩
  obtain ⟨h1, rfl⟩ := rng_get hd
  refine ⟨h1, fun x H3 hy => ?_⟩
  obtain ⟨rfl, rfl⟩ := hy
  rw [Int.mul_one]
  exact ⟨keep_refl, .int _⟩
theorem walks_c {K : Fg} {P B L : List Addr} {H : Hp} {a c : Int} {n : Nat} : WalksA K P B L H (Itc a c n) (rngD a n c) := fun H2 L2 E s he => by
  refine ⟨fun i d hd => ?_, by rw [rng_len]; exact Nat.le_refl _⟩
  obtain ⟨h1, rfl⟩ := rng_get hd
  refine ⟨h1, fun x H3 hy => ?_⟩
  obtain ⟨rfl, rfl⟩ := hy
  exact ⟨keep_refl, .int _⟩
theorem lim62 : (lim : Int) < 2 ^ 62 := by rw [lim_eq]; decide
theorem i_rng1 (hg : Gl X "range") (hm : X.mg "range" = none) (ha : PA X [a] (RA (X.D tl) t)) (hs : starEach [a] X.env = [(false, eval a X.env)] := by rfl) : PI X tgE (.Call (.Name "range" p) [a] [] pos) (RI (X.D tl) (rng1I t)) := (pi_range1 hg hm ha hs).imp fun σ H R h => by
  have hl := lim62
  obtain ⟨P, B, L, ρ, ds, ρ', R0, e, k⟩ := h
  obtain ⟨⟨rs, ρ1⟩, e1, e⟩ := Option.bind_eq_some_iff.mp e
  simp only at e
  split at e
  · rename_i j
    split at e
    · rename_i hz
      cases e
      refine ⟨P, B, L, ρ, _, _, R0, e1, fun xs H1 La Ea p1 v1 => ?_⟩
      obtain ⟨x, rfl, v⟩ := vrs_one v1
      exact ⟨j, by rw [v.int], by omega, by omega, k _ _ _ _ p1 walks_r⟩
    · cases e
  · cases e
theorem i_rng2 (hg : Gl X "range") (hm : X.mg "range" = none) (ha : PA X [a, b] (RA (X.D tl) t)) (hs : starEach [a, b] X.env = [(false, eval a X.env), (false, eval b X.env)] := by rfl) (hs2 : starEach [b] X.env = [(false, eval b X.env)] := by rfl) :
    PI X tgE (.Call (.Name "range" p) [a, b] [] pos) (RI (X.D tl) (rng2I t)) := (pi_range2 hg hm ha hs hs2).imp fun σ H R h => by
  have hl := lim62
  obtain ⟨P, B, L, ρ, ds, ρ', R0, e, k⟩ := h
  obtain ⟨⟨rs, ρ1⟩, e1, e⟩ := Option.bind_eq_some_iff.mp e
  simp only at e
  split at e
  · rename_i i j
    split at e
    · rename_i hz
      cases e
      refine ⟨P, B, L, ρ, _, _, R0, e1, fun xs H1 La Ea p1 v1 => ?_⟩
      cases v1 with
      | cons w1 _ v1 =>
        obtain ⟨x, rfl, v⟩ := vrs_one v1
        exact ⟨i, j, by rw [v.int, w1.int], by omega, k _ _ _ _ p1 walks_r⟩
    · cases e
  · cases e
theorem i_rng3 (hg : Gl X "range") (hm : X.mg "range" = none) (ha : PA X [a, b, c] (RA (X.D tl) t)) (hs : starEach [a, b, c] X.env = (false, eval a X.env) :: starEach [b, c] X.env := by rfl) (hpl : (backTo pos (starEach [b, c] X.env)).any (·.1) = false := by rfl) :
    PI X tgE (.Call (.Name "range" p) [a, b, c] [] pos) (RI (X.D tl) (rng3I t)) := (pi_range3 hg hm ha hs hpl).imp fun σ H R h => by
  have hl := lim62
  obtain ⟨P, B, L, ρ, ds, ρ', R0, e, k⟩ := h
  obtain ⟨⟨rs, ρ1⟩, e1, e⟩ := Option.bind_eq_some_iff.mp e
  simp only at e
  split at e
  · rename_i i j c
    split at e
    · rename_i hz
      cases e
      obtain ⟨hz, rfl⟩ := hz
      refine ⟨P, B, L, ρ, _, _, R0, e1, fun xs H1 La Ea p1 v1 => ?_⟩
      cases v1 with
      | cons w1 _ v1 =>
        cases v1 with
        | cons w2 _ v1 =>
          obtain ⟨x, rfl, v⟩ := vrs_one v1
          exact ⟨i, j, -1, _, by rw [v.int, w1.int, w2.int], RgC.neg (by omega) (by omega) (by omega) (by omega), k _ _ _ _ p1 walks_c⟩
    · cases e
  · cases e
end
def wipeE (ρ : DL.Env) : List Nat → DL.Env
  | [] => ρ
  | v :: vs => (wipeE ρ vs).set v .no
def restE (ρ ρ0 : DL.Env) : List Nat → DL.Env
  | [] => ρ
  | v :: vs => (restE ρ ρ0 vs).set v (ρ0.getD v .no)
def lcLoop (own : List Nat) (tg : GD) (tt : TD) (te : ED) : List PyData → List PyData → DL.Env → Option (List PyData × DL.Env)
  | acc, [], ρ => some (acc, ρ)
  | acc, d :: ds, ρ => (tg ρ d).bind fun ρ1 => (tt ρ1).bind fun p => if p.1 = true then (te p.2).bind fun q => (psV q.2 q.1).bind fun s =>
      if acc.length < lim then lcLoop own tg tt te (acc ++ [s.1]) ds (wipeE s.2 own) else none
    else lcLoop own tg tt te acc ds (wipeE p.2 own)
def lcD (own : List Nat) (fi : ID) (tg : GD) (tt : TD) (te : ED) : ED := fun ρ => (fi ρ).bind fun p => if own.all (fun i => !(p.2.getD i .no).isOpen) = true then
    (lcLoop own tg tt te [] p.1 (wipeE p.2 own)).bind fun q => some (.own q.1, restE q.2 p.2 own)
  else none
def yesT : TD := fun ρ => some (true, ρ)
section
variable {K : Fg} {P B L E : List Addr} {σ : L2.St} {ρ ρ' ρ0 : DL.Env} {H : Hp}
theorem Rep.setNo (R : Rep K P B L σ ρ H) (i : Nat) (x : Option V) : Rep K P B L (σ.set i x) (ρ.set i .no) H := by
  refine ⟨by rw [List.length_set, List.length_set]; exact R.len, R.wl, R.nd, fun j => ?_, fun j k a hjk h1 h2 e1 e2 => ?_, R.tabs⟩
  · rw [getD_set, getS_set, R.len]
    by_cases hj : i = j ∧ i < ρ.length
    · rw [if_pos hj, if_pos hj]; trivial
    · rw [if_neg hj, if_neg hj]; exact R.ok j
  · rw [getD_set] at h1 h2
    rw [getS_set, R.len] at e1 e2
    by_cases hj : i = j ∧ i < ρ.length
    · rw [if_pos hj] at h1; cases h1
    · by_cases hk : i = k ∧ i < ρ.length
      · rw [if_pos hk] at h2; cases h2
      · rw [if_neg hj] at h1 e1
        rw [if_neg hk] at h2 e2
        exact R.inj j k a hjk h1 h2 e1 e2
theorem Rep.wipe (R : Rep K P B L σ ρ H) : ∀ vs : List Nat, Rep K P B L (L2.wipe σ vs) (wipeE ρ vs) H
  | [] => R
  | v :: vs => (Rep.wipe R vs).setNo v none
theorem wipe_other {σ : L2.St} : ∀ {vs : List Nat} {k : Nat}, k ∉ vs → (L2.wipe σ vs)[k]? = σ[k]?
  | [], _, _ => rfl
  | v :: vs, k, h => by
    have h' : k ≠ v ∧ k ∉ vs := by simpa [not_or] using h
    unfold L2.wipe
    rw [List.getElem?_set_ne (Ne.symm h'.1), wipe_other h'.2]
theorem wipe_in {σ : L2.St} : ∀ {vs : List Nat} {k : Nat}, k ∈ vs → (L2.wipe σ vs)[k]? = if k < σ.length then some none else none
  | v :: vs, k, h => by
    unfold L2.wipe
    by_cases e : v = k
    · subst e
      rw [List.getElem?_set, wipe_length]
      simp
    · have h' : k ∈ vs := (List.mem_cons.mp h).resolve_left (Ne.symm e)
      rw [List.getElem?_set_ne e, wipe_in h']
theorem wipe_eq {σ σ2 : L2.St} {vs : List Nat} (hl : σ2.length = σ.length) (h : ∀ k, k ∉ vs → σ2[k]? = (L2.wipe σ vs)[k]?) : L2.wipe σ2 vs = L2.wipe σ vs := by
  refine List.ext_getElem? fun k => ?_
  by_cases hk : k ∈ vs
  · rw [wipe_in hk, wipe_in hk, hl]
  · rw [wipe_other hk, h k hk]
/-- the slots of the block come back -/
theorem rest_of {L1 : List Addr} {H1 : Hp} {vs0 : List Nat} (R0 : Rep K P B L σ ρ0 H) (s : Step B L H L1 H1) (he : ∀ a ∈ E, H a = none) (hno : ∀ i ∈ vs0, (ρ0.getD i .no).isOpen = false) : ∀ (vs : List Nat), (∀ i ∈ vs, i ∈ vs0) →
    ∀ {τ : L2.St} {ρ1 : DL.Env}, Rep K (E ++ P) B L1 τ ρ1 H1 → τ.length = σ.length → (∀ k, k ∉ vs → τ[k]? = σ[k]?) → Rep K (E ++ P) B L1 σ (restE ρ1 ρ0 vs) H1 := by
  intro vs hvs τ ρ1 R1 hl hk
  -- slot by slot
  have key : ∀ (us : List Nat), (∀ i ∈ us, i ∈ vs0) → ∃ τ' : L2.St, Rep K (E ++ P) B L1 τ' (restE ρ1 ρ0 us) H1 ∧ τ'.length = σ.length ∧ (∀ k, k ∈ us → τ'[k]? = σ[k]?) ∧ ∀ k, k ∉ us → τ'[k]? = τ[k]? := by
    intro us
    induction us with
    | nil => exact fun _ => ⟨τ, R1, hl, fun _ z => absurd z List.not_mem_nil, fun _ _ => rfl⟩
    | cons v us ih =>
      intro hu
      obtain ⟨τ', R', l', a', b'⟩ := ih fun i hi => hu i (List.mem_cons_of_mem _ hi)
      have hv := hno v (hu v (List.mem_cons_self ..))
      have q := R0.ok v
      unfold restE
      refine ⟨τ'.set v (σ[v]?.getD none), ?_, by rw [List.length_set, l'], fun k hk => ?_, fun k hk => ?_⟩
      · revert hv q
        generalize ρ0.getD v .no = c
        intro hv q
        cases c with
        | no => exact R'.setNo v _
        | cl d =>
          obtain ⟨x, ex, dx⟩ := q
          rw [ex]
          exact R'.setCl v (Dq.stepE R0 s he dx)
        | op ds => cases hv
        | pm ds => cases hv
        | dk t ds => cases hv
      · by_cases e : v = k
        · subst e
          by_cases hlt : v < σ.length
          · rw [List.getElem?_set_self (by rw [l']; exact hlt), List.getElem?_eq_getElem hlt]; rfl
          · rw [List.getElem?_eq_none (by rw [List.length_set, l']; omega), List.getElem?_eq_none (by omega)]
        · rw [List.getElem?_set_ne e]
          exact a' k ((List.mem_cons.mp hk).resolve_left (Ne.symm e))
      · have h' : k ≠ v ∧ k ∉ us := by simpa [not_or] using hk
        rw [List.getElem?_set_ne (Ne.symm h'.1), b' k h'.2]
  obtain ⟨τ', R', l', a', b'⟩ := key vs hvs
  have e : τ' = σ := List.ext_getElem? fun k => by
    by_cases h : k ∈ vs
    · exact a' k h
    · rw [b' k h, hk k h]
  rw [e] at R'
  exact R'
/-- the new list of a comprehension, shut out, is written -/
theorem writeP {D : Addr} {acc' : List V} (R : Rep K P B L σ ρ H) (hD : D ∈ P) : Rep K P B L σ ρ (upd H D (.lst acc')) ∧ ∀ {vs : List V} {ds : List PyData}, DqA K H (P ++ B ++ L) vs ds → DqA K (upd H D (.lst acc')) (P ++ B ++ L) vs ds := by
  have hl : Lists H [D] := fun b z => by
    rw [show b = D by simpa using z]
    exact R.wl D (mem3.mpr (.inl hD))
  have hs : ∀ b ∈ [D], b ∈ P ++ B ++ L := fun b z => (show b = D by simpa using z) ▸ mem3.mpr (.inl hD)
  obtain ⟨us0, hh, ou⟩ := R.wl D (mem3.mpr (.inl hD))
  have mv : ∀ {v : V} {d : PyData}, Dq K H (P ++ B ++ L) v d → Dq K (upd H D (.lst acc')) (P ++ B ++ L) v d := fun h => h.move hl hs (keep_wrD hh ou) fun b z => .inl z
  have mvA : ∀ {v : List V} {d : List PyData}, DqA K H (P ++ B ++ L) v d → DqA K (upd H D (.lst acc')) (P ++ B ++ L) v d := fun h => h.move hl hs (keep_wrD hh ou) fun b z => .inl z
  refine ⟨⟨R.len, fun b hb => ?_, R.nd, fun i => ?_, R.inj, (keep_wrD hh ou).tab _ R.tabs⟩, mvA⟩
  · by_cases z : b = D
    · exact ⟨_, by rw [z]; exact upd_same, .lst acc'⟩
    · obtain ⟨us, q, ou⟩ := R.wl b hb
      exact ⟨us, by rw [upd_ne z]; exact q, ou⟩
  · have q := R.ok i
    have nd := R.nd.1 D hD
    revert q
    generalize ρ.getD i .no = c
    intro q
    cases c with
    | no => trivial
    | cl d => obtain ⟨v, e2, h⟩ := q; exact ⟨v, e2, mv h⟩
    | op fs =>
      obtain ⟨b, us, e2, h1, h2, h3⟩ := q
      exact ⟨b, us, e2, h1, by rw [upd_ne fun z => nd.2 (by rw [← z]; exact h1)]; exact h2, mvA h3⟩
    | pm fs =>
      obtain ⟨b, us, e2, h1, h2, h3⟩ := q
      exact ⟨b, us, e2, h1, by rw [upd_ne fun z => nd.1 (by rw [← z]; exact h1)]; exact h2, mvA h3⟩
    | dk t fs =>
      obtain ⟨b, us, e2, h1, h2, h3⟩ := q
      exact ⟨b, us, e2, h1, by rw [upd_ne fun z => nd.2 (by rw [← z]; exact h1)]; exact h2, h3.move hl hs (keep_wrD hh ou) fun b z => .inl z⟩
end
section
variable {K : Fg} {P B L E : List Addr} {σ : L2.St} {ρ ρ' ρ0 : DL.Env} {H : Hp}
theorem step_new {L' : List Addr} {H' : Hp} {D : Addr} {o : HO} (s : Step B L H L' H') (hD : H D = none) {us : List V} (hl : H' D = some (.lst us)) : Step B L H L' (upd H' D o) :=
  ⟨⟨fun b u e hb ho => by rw [upd_ne (ne_of_none e hD)]; exact s.keep.old b u e hb ho, fun T t => (keep_wr hl).tab T (s.keep.tab T t), fun b h => (keep_wr hl).nn b (s.ne b h)⟩, s.lsub, fun a h z => by
    by_cases q : a = D
    · subst q; exact h hD
    · rw [upd_ne q] at z; exact s.ne a h z⟩
theorem lc_tail {own is : List Nat} {tg : GD} {tt : TD} {te : ED} (hin : ∀ i ∈ is, i ∈ own) {Q : VK} {P B L : List Addr} {ρ ρ1 ρ2 : DL.Env} {ds es : List PyData} (R0 : Rep K P B L σ ρ H) (hno : own.all (fun i => !(ρ1.getD i .no).isOpen) = true)
    (e2 : lcLoop own tg tt te [] ds (wipeE ρ1 own) = some (es, ρ2)) (k : Cont K P B L σ H [] (restE ρ2 ρ1 own) (.own es) Q) (J : It) (H1 : Hp) (La Ea : List Addr) (p1 : Post K P B L σ H [] ρ1 H1 La Ea) (wk : Walks K (Ea ++ P) B La H1 J ds) :
    tLc (fun _ _ R => R J H1) (RG K is tg) (RT K tt) (RD K te) own σ H Q := by
  have ll := lim_line
  intro D hD
  have R1 : Rep K ([D] ++ (Ea ++ P)) B La σ ρ1 (upd H1 D (.lst [])) := p1.rep.move (Keep.new hD) fun a z => by
    rw [show a = D by simpa using z]
    exact ⟨hD, [], upd_same⟩
  have hDD : D ∈ [D] ++ (Ea ++ P) := by simp
  have fD : ∀ a ∈ [D], H1 a = none := fun a z => by rw [show a = D by simpa using z]; exact hD
  refine ⟨fun i m H => m = ds.length - i ∧ i ≤ ds.length ∧ ∃ Lc ρc acc fs, Rep K ([D] ++ (Ea ++ P)) B Lc (L2.wipe σ own) ρc H ∧ Step B La H1 Lc H ∧ H D = some (.lst acc) ∧ DqA K H ([D] ++ (Ea ++ P) ++ B ++ Lc) acc fs ∧ lcLoop own tg tt te fs (ds.drop i) ρc = some (es, ρ2),
    ⟨ds.length, by simp, Nat.zero_le _, La, wipeE ρ1 own, [], [], R1.wipe own, Step.of_same (Keep.new hD), upd_same, .nil, by simpa using e2⟩, ?_⟩
  rintro i m H' ⟨rfl, hi, Lc, ρc, acc, fs, Rc, sc, hacc, dacc, ec⟩
  obtain ⟨wgo, wst⟩ := wk H' Lc [D] sc fD
  cases hd : ds[i]? with
  | none =>
    have hz : i = ds.length := by
      have := List.getElem?_eq_none_iff.mp hd
      omega
    subst hz
    rw [List.drop_length] at ec
    cases ec
    refine .inl ⟨wst, k _ _ Lc (D :: Ea) ⟨?_, p1.step.trans sc, fun a z => ?_⟩ ⟨D, acc, rfl, List.mem_cons_self .., fun z => ?_, hacc, ?_⟩⟩
    · have q := rest_of (E := [D]) p1.rep sc fD (vs0 := own) (fun i hi => by
        have := List.all_eq_true.mp hno i hi
        simpa using this) own (fun _ z => z) Rc (wipe_length σ own) (fun k hk => wipe_other hk)
      simpa using q
    · rcases List.mem_cons.mp z with z | z
      · right
        cases eh : H a with
        | none => rfl
        | some u => exact absurd (z ▸ hD) (p1.step.ne a (by rw [eh]; exact fun z => nomatch z))
      · exact p1.esub a z
    · obtain ⟨vs, q, _⟩ := R0.wl D (mem3.mpr (.inl z))
      exact absurd hD (p1.step.ne D (by rw [q]; exact fun z => nomatch z))
    · have ee : [D] ++ (Ea ++ P) ++ B ++ Lc = (D :: Ea) ++ P ++ B ++ Lc := by simp
      rw [ee] at dacc
      exact dacc
  | some d =>
    have hlt := (List.getElem?_eq_some_iff.mp hd).1
    obtain ⟨gg, gy⟩ := wgo i d hd
    rw [drop_cons hd] at ec
    obtain ⟨ρ3, e3, ec⟩ := Option.bind_eq_some_iff.mp ec
    obtain ⟨⟨b, ρ4⟩, e4, ec⟩ := Option.bind_eq_some_iff.mp ec
    refine .inr ⟨gg, fun H' => ∃ Lc ρc acc fs, Rep K ([D] ++ (Ea ++ P)) B Lc (L2.wipe σ own) ρc H' ∧ Step B La H1 Lc H' ∧ H' D = some (.lst acc) ∧ DqA K H' ([D] ++ (Ea ++ P) ++ B ++ Lc) acc fs ∧ lcLoop own tg tt te fs (ds.drop (i + 1)) ρc = some (es, ρ2),
      fun H2 hn => ⟨ds.length - (i + 1), by omega, rfl, hlt, hn⟩, fun x H3 hy => ?_⟩
    obtain ⟨kp, dq⟩ := gy x H3 hy
    have R3 := Rc.same kp
    have s3 : Step B La H1 Lc H3 := sc.trans (Step.of_same kp)
    have hD3 : H3 D = some (.lst acc) := kp.at hacc (fun z => nomatch z)
    have d3 : DqA K H3 ([D] ++ (Ea ++ P) ++ B ++ Lc) acc fs := DqA.move lists_nil (fun _ z => nomatch z) kp (fun _ z => .inl z) dacc
    refine ⟨[D] ++ (Ea ++ P), B, Lc, ρc, d, ρ3, R3, dq, e3, fun σ2 hl hk R4 => ?_⟩
    have hw : L2.wipe σ2 own = L2.wipe σ own := wipe_eq (hl.trans (wipe_length σ own)) fun j hj => hk j fun z => hj (hin j z)
    refine ⟨hw, [D] ++ (Ea ++ P), B, Lc, ρ3, b, ρ4, R4, e4, fun H4 L4 E4 p4 => ?_⟩
    have s4 := s3.trans p4.step
    have nd := R3.nd.1 D hDD
    have nBL : ∀ {L'' : List Addr}, (∀ a ∈ L'', a ∈ Lc ∨ H3 a = none) → D ∉ B ++ L'' := fun {L''} hs z => by
      rcases List.mem_append.mp z with z | z
      · exact nd.1 z
      · rcases hs D z with z | z
        · exact nd.2 z
        · rw [hD3] at z; cases z
    have hD4 : H4 D = some (.lst acc) := p4.step.keep.at hD3 (nBL fun a z => .inl z)
    have d4 : DqA K H4 ([D] ++ (Ea ++ P) ++ B ++ L4) acc fs := DqA.step R3 p4.step d3
    cases b with
    | false =>
      simp only [Bool.false_eq_true, if_false] at ec
      have R5 := (p4.rep.drop).wipe own
      rw [hw] at R5
      exact iteF ⟨L4, _, acc, fs, R5, s4, hD4, d4, ec⟩
    | true =>
      refine iteT ?_
      simp only [if_true] at ec
      obtain ⟨⟨r5, ρ5⟩, e5, ec⟩ := Option.bind_eq_some_iff.mp ec
      obtain ⟨⟨d6, ρ6⟩, e6, ec⟩ := Option.bind_eq_some_iff.mp ec
      simp only at ec
      split at ec
      · rename_i hz
        refine ⟨[D] ++ (Ea ++ P), B, L4, ρ4, r5, ρ5, p4.toStep, e5, fun y H5 L5 E5 p5 v5 => ?_⟩
        obtain ⟨E6, L6, q6, _⟩ := psd_of p5.rep v5 e6
        have s5 := s4.trans p5.step
        have hD5 : H5 D = some (.lst acc) := p5.step.keep.at hD4 (nBL p4.step.lsub)
        have d5 : DqA K H5 ([D] ++ (Ea ++ P) ++ B ++ L5) acc fs := DqA.step p4.toStep p5.step d4
        have hs6 : ∀ a ∈ [D] ++ (Ea ++ P) ++ B ++ L6, a ∈ [D] ++ (Ea ++ P) ++ B ++ L5 := fun a z => by
          rcases mem4.mp z with z | z | z | z
          · exact mem4.mpr (.inl z)
          · exact mem4.mpr (.inr (.inl z))
          · exact mem4.mpr (.inr (.inr (.inl z)))
          · exact mem4.mpr (.inr (.inr (.inr (q6.ls a z))))
        have dy : Dq K H5 ([D] ++ (Ea ++ P) ++ B ++ L6) y d6 := q6.dq.sub fun a z => by
          rw [show E6 ++ ([D] ++ (Ea ++ P)) ++ B ++ L6 = E6 ++ (([D] ++ (Ea ++ P)) ++ B ++ L6) by simp]
          exact List.mem_append_right _ z
        obtain ⟨R7, mv⟩ := writeP (acc' := acc ++ [y]) (q6.rep.drop) hDD
        have R8 := R7.wipe own
        rw [hw] at R8
        refine ⟨acc, hD5, by rw [d5.length]; omega, L6, _, acc ++ [y], fs ++ [d6], R8, step_new (s5.trans (Post.less (K := K) q6.rep q6.es q6.ls).step) hD hD5, upd_same, mv ((d5.sub hs6).append (.cons dy .nil)), ec⟩
      · cases ec
theorem lc_imp {own is : List Nat} {fi : ID} {tg : GD} {tt : TD} {te : ED} (hin : ∀ i ∈ is, i ∈ own) {Q : VK} (h : RD K (lcD own fi tg tt te) σ H Q) : tLc (RI K fi) (RG K is tg) (RT K tt) (RD K te) own σ H Q := by
  have ll := lim_line
  obtain ⟨P, B, L, ρ, r, ρ', R0, e, k⟩ := h
  obtain ⟨⟨ds, ρ1⟩, e1, e⟩ := Option.bind_eq_some_iff.mp e
  simp only at e
  split at e
  · rename_i hno
    obtain ⟨⟨es, ρ2⟩, e2, e⟩ := Option.bind_eq_some_iff.mp e
    cases e
    exact ⟨P, B, L, ρ, ds, ρ1, R0, e1, fun J H1 La Ea p1 wk => lc_tail hin R0 hno e2 k J H1 La Ea p1 wk.walks⟩
  · cases e
end
section
variable {X : Cx} {tl : TL} {elt tgE iter : Expr} {ifs : List Expr} {scope : Scope} {own : List (Str × Nat)} {pos : Pos} {fi : ID} {tg : GD} {tt : TD} {te : ED} {is : List Nat}
theorem i_yes : PTs X [] (RT (X.D tl) yesT) := ⟨fun pins s σ H Q I h => pts_nil.run pins s σ H Q I (by
  obtain ⟨P, B, L, ρ, b, ρ', R0, e, k⟩ := h
  cases e
  exact k _ _ [] (.refl R0))⟩
theorem i_one {c : Expr} {q : TD} (h : PT X c (RT (X.D tl) q)) : PTs X [c] (RT (X.D tl) q) := pts_one h
theorem d_lc (hc : X.calm = true) (hN : X.N.Nodup) (hi : PI X tgE iter (RI (X.D tl) fi)) (ok : BlkOk X.N X.env.scope scope own) (hin : ∀ i ∈ is, i ∈ own.map (·.2))
    (hg : ∀ (s : Shared) (H : Hp) (C : Addr) (cl : List (Str × Addr)) (fp : List Addr), PG (X.blk s H scope (compEnvC scope cl C X.env) fp) tgE (RG (X.D tl) is tg)) (ht : ∀ (s : Shared) (H : Hp) (C : Addr) (cl : List (Str × Addr)) (fp : List Addr), PTs (X.blk s H scope (compEnvC scope cl C X.env) fp) ifs (RT (X.D tl) tt))
    (he : ∀ (s : Shared) (H : Hp) (C : Addr) (cl : List (Str × Addr)) (fp : List Addr), PE (X.blk s H scope (compEnvC scope cl C X.env) fp) elt (RD (X.D tl) te)) (hs : ∀ x, foldedSetIterable iter X.env x = pure x := by intro _; rfl) :
    PE X (.ListComp elt [⟨tgE, iter, ifs, 0⟩] scope pos) (RD (X.D tl) (lcD (own.map (·.2)) fi tg tt te)) :=
  (pe_lc hc hN hi ok hg ht he hs).imp fun _ _ _ h => lc_imp hin h
theorem s_setLc (i : Nat) {y : Str} {py spos : Pos} (hc : X.calm = true) (hN : X.N.Nodup) (hsw : swapsWith (.ListComp elt [⟨tgE, iter, ifs, 0⟩] scope pos) (some (.Name y py)) spos.line X.env = pure true) (hi : PI X tgE iter (RI (X.D tl) fi)) (ok : BlkOk X.N X.env.scope scope own) (hin : ∀ i ∈ is, i ∈ own.map (·.2))
    (hg : ∀ (s : Shared) (H : Hp) (C : Addr) (cl : List (Str × Addr)) (fp : List Addr), PG (X.blk s H scope (compEnvC scope cl C X.env) fp) tgE (RG (X.D tl) is tg)) (ht : ∀ (s : Shared) (H : Hp) (C : Addr) (cl : List (Str × Addr)) (fp : List Addr), PTs (X.blk s H scope (compEnvC scope cl C X.env) fp) ifs (RT (X.D tl) tt))
    (he : ∀ (s : Shared) (H : Hp) (C : Addr) (cl : List (Str × Addr)) (fp : List Addr), PE (X.blk s H scope (compEnvC scope cl C X.env) fp) elt (RD (X.D tl) te)) (hs : ∀ x, foldedSetIterable iter X.env x = pure x := by intro _; rfl)
    (hy : X.N[i]? = some y := by rfl) (hyl : X.env.scope.names.lookup y = some .local := by rfl) :
    PS X (.Assign [.Name y py] (.ListComp elt [⟨tgE, iter, ifs, 0⟩] scope pos) spos) (RS (X.D tl) (setS i (lcD (own.map (·.2)) fi tg tt te))) :=
  (ps_setLc hc hN hy hyl hsw hi ok hg ht he hs).imp fun D σ H h => by
    obtain ⟨P, B, L, ρ, o, R, e, k⟩ := h
    obtain ⟨⟨r, ρ1⟩, e1, e2⟩ := Option.bind_eq_some_iff.mp e
    obtain ⟨ρ2, e3, e4⟩ := Option.map_eq_some_iff.mp e2
    subst e4
    refine lc_imp hin ⟨P, B, L, ρ, r, ρ1, R, e1, fun x H' L' E' p v => ?_⟩
    obtain ⟨E2, Lb, R2, h1, h2, _⟩ := stV_of p.rep v e3
    exact k _ H' Lb R2.drop (step_more p.step p.esub h2)
end
end DL
end
noncomputable section
namespace DL
open PySem PySem.Spec PyProof.Rows L2
structure FnG (P : Program) (w : World) (K : PySem.W.Frag) (mg : Str → Option Value) (base : Heap) (CX : CXT) (k : Nat) (f : Addr) (fd : FuncData) (ps : List Str) (sp : Sp) : Prop where
  len : ∀ vs H Q E, sp vs H Q E → vs.length = ps.length
  go : ∀ (A : Around) (outer : List PySem.Env) (s : Shared) (H : Hp) (args : Args) (us : List Value) (vs : List V) (Q : VK) (E : XK), A.guards = some [] → Room k A → Env0 P w K mg base A outer s H → BindsTo s fd args (ps.zip us) → Vals vs us → sp vs H Q E →
    codeAny (model P w) A (.call (.ref f) args) (CR CX outer P w H s Q E) s
section
variable {P : Program} {w : World} {K : PySem.W.Frag} {mg : Str → Option Value} {base : Heap} {CX : CXT}
theorem FnG.up {j k : Nat} {f : Addr} {fd : FuncData} {ps : List Str} {sp : Sp} (F : FnG P w K mg base CX j f fd ps sp) (h : j ≤ k) : FnG P w K mg base CX k f fd ps sp :=
  ⟨F.len, fun A outer s H args us vs Q E hA hr => F.go A outer s H args us vs Q E hA (hr.mono h)⟩
/-- a body's reading keeps the promise -/
theorem FnG.body {x qual : Str} {st : Stmt} {f : Addr} {fd : FuncData} {N ps : List Str} {k : Nat} {sp : Sp} (F : Fun K x qual st f fd) (S : FnScope N ps (defScope st)) (len : ∀ vs H Q E, sp vs H Q E → vs.length = ps.length)
    (hb : ∀ (cdv : Value) (A : Around) (outer : List PySem.Env) (s : Shared) (H : Hp) (vs : List V) (Q : VK) (E : XK), fd.code = cdv → (A.deeper (envOfC qual (defScope st) s.heap.objs.size f cdv)).guards = some [] → Room k (A.deeper (envOfC qual (defScope st) s.heap.objs.size f cdv)) → sp vs H Q E →
      ∃ t, PSs (cxOf CX P w K mg base N qual (defScope st) f cdv A outer s H E) (defBody st) t ∧ t { nx := fun _ H' => Q .non H', rt := Q } (start N vs) H) : FnG P w K mg base CX (k + 1) f fd ps sp := by
  obtain ⟨oc, od, kV, doc, pm, an, cdv, ct, osl, rfl, lk, hcd⟩ := F.ex
  refine ⟨len, ?_⟩
  intro A outer s H args us vs Q E hA hr e0 hbind rv hsp
  have eqLen := len _ _ _ _ hsp
  have stay : ∀ b o, base.get? b = some o → s.heap.get? b = some o := fun b o e => (e0.bs b o e).1
  have inK : K.In s.heap := e0.mod.kin.keeps stay
  have noLim : s.heap.NoLimit := e0.mod.nolimit.keeps stay
  have params : ∀ y ∈ ps.zip us, (defScope st).names.lookup y.1 = some .local ∨ ((defScope st).names.lookup y.1 = some .cell ∧ ((cellsFrom (s.heap.objs.size + 1) (defScope st).names []).lookup y.1).isSome = true) := by
    intro y hy
    rcases S.par y.1 (List.of_mem_zip (a := y.1) (b := y.2) hy).1 with q | q
    · exact Or.inl q
    · exact Or.inr ⟨q, PySem.W.cellsFrom_some _ _ _ (Or.inl q)⟩
  apply codeAny_call_function hr.depth (inK _ _ lk) rfl S.co S.gen rfl (PySem.W.codeRec_of inK hcd)
  apply hbind
  apply wpAny_newFunctionEnv_cells S.kind params
  intro env henv s1 ic
  subst henv
  refine ⟨noLim.keeps ic.toInCall.keep, ?_⟩
  apply codeAny_func
  obtain ⟨t, ht, hq⟩ := hb cdv A outer s H vs Q E rfl hA (hr.deeper _) hsp
  have I := inv_start (CX := CX) (P := P) (w := w) (mg := mg) (base := base) (E := E) S hr.hd e0 eqLen rv ic
  refine wpAny_mono (ht.run [] s1 (start N vs) H _ I hq) (fun fl s' hs => ?_) (fun _ _ hs => hs)
  cases fl with
  | ret u =>
    rcases hs with ⟨v, _, H', J, rv', q⟩
    exact ⟨v, H', J.os, J.bare, J.base, J.hok, rv', q⟩
  | next =>
    rcases hs with ⟨_, H', J, q⟩
    exact ⟨V.non, H', J.os, J.bare, J.base, J.hok, rfl, q⟩
  | brk =>
    rcases hs with ⟨_, _, _, q⟩
    exact q.elim
  | cont =>
    rcases hs with ⟨_, _, _, q⟩
    exact q.elim
end
section
variable {X : Cx} {CX : CXT} {k : Nat} {f : Addr} {fd : FuncData} {ps : List Str} {sp : Sp} {E : XK} {x : Str} {p pos : Pos} {e : Expr} {es : List Expr} {t : TA}
theorem g_call (F : FnG X.prog X.w X.K X.mg X.base CX k f fd ps sp) (hA : X.A.guards = some []) (hr : Room k X.A) (hg : Gl X x) (hm : X.mg x = some (.ref f)) (hk : PySem.W.keepIn X.K (.ref f) = true) (hb : Binds X.K fd ps []) (hx : Passes CX X E) (ha : PA X (e :: es) t)
    (hdb : (x == ("__debug__" : Str)) = false := by decide) (he : starEach (e :: es) X.env = (false, eval e X.env) :: starEach es X.env := by rfl) (hpl : (backTo pos (starEach es X.env)).any (·.1) = false := by rfl) :
    PE X (.Call (.Name x p) (e :: es) [] pos) (fun σ H Q => t σ H fun vs H1 => sp vs H1 Q E) := by
  constructor
  intro pins s σ H Q I h
  apply wpAny_Call_Name_kw
  apply ld_glob I hg hm _ hdb
  apply PySem.W.callWith_K (h₀ := X.base) I.ok.mod.kin hk _ he hpl
  refine thn (ha.run pos pins s σ H _ I h) fun us s1 hq => ?_
  rcases hq with ⟨vs, H1, I1, r, q⟩
  refine ⟨I1.kIn, ?_⟩
  have lenU : us.length = ps.length := by rw [← r.length]; exact F.len _ _ _ _ q
  have bnd := hb s1 us I1.kIn (by rw [List.append_nil]; exact lenU)
  rw [List.append_nil] at bnd
  apply wpAny_call
  refine codeAny_mono (F.go X.A X.stack s1 H1 ⟨us, []⟩ us vs Q E hA hr I1.env0 bnd r q) ?_
  intro res s' hres
  cases res with
  | error e => exact hx pins σ H1 s1 e s' I1 hres
  | ok fl =>
    cases fl with
    | ret u => exact I1.after hres
    | next => exact hres.elim
    | brk => exact hres.elim
    | cont => exact hres.elim
end
end DL
end
noncomputable section
namespace DL
open PySem PySem.Spec PyProof.Rows L2
def flatV' : Val → Bool
  | .cl .none | .cl (.bool _) | .cl (.int _) | .cl (.str _) => true
  | _ => false
def RRes (K : Fg) (P : List Addr) (H H' : Hp) (E : List Addr) (x : V) : Val → Prop
  | .cl d => E = [] ∧ Dq K H' P x d
  | .own ds => ∃ a vs, E = [a] ∧ x = V.ref a ∧ H a = none ∧ H' a = some (.lst vs) ∧ DqA K H' (a :: P) vs ds
  | .sl _ => False
abbrev FP := List PyData → Option Val
abbrev FM := List PyData → List PyData → Option (Val × List PyData)
def spP (K : Fg) (n : Nat) (F : FP) : Sp := fun vs H Q _ => vs.length = n ∧ ∃ P ds r, (Lists H P ∧ DL.Tabs K.T H) ∧ DqA K H P vs ds ∧ F ds = some r ∧ ∀ x H' E, Keep [] H H' → RRes K P H H' E x r → Q x H'
def spM (K : Fg) (n : Nat) (F : FM) : Sp := fun vs H Q _ => vs.length = n + 1 ∧ ∃ P b us ws cs ds r cs', vs = V.ref b :: ws ∧ (Lists H P ∧ DL.Tabs K.T H) ∧ b ∉ P ∧ H b = some (.lst us) ∧ DqA K H (P ++ [b]) us cs ∧ DqA K H (P ++ [b]) ws ds ∧ F cs ds = some (r, cs') ∧
  ∀ x H' us' E, Keep [b] H H' → H' b = some (.lst us') → DqA K H' (E ++ (P ++ [b])) us' cs' → RRes K (P ++ [b]) H H' E x r → Q x H'
def retV (ρ : DL.Env) : Val → Option Val
  | .cl d => some (.cl d)
  | .own ds => some (.own ds)
  | .sl i => match ρ.getD i .no with
    | .op ds => some (.own ds)
    | .cl d => some (.cl d)
    | _ => none
def argE (N : Nat) (ds : List PyData) : DL.Env := ds.map Cell.cl ++ List.replicate (N - ds.length) .no
def argM (N : Nat) (cs ds : List PyData) : DL.Env := Cell.pm cs :: (ds.map Cell.cl ++ List.replicate (N - (ds.length + 1)) .no)
def runP (N : Nat) (g : SD) : FP := fun ds => (g (argE N ds)).bind fun o => match o with
  | .rt r ρ' => retV ρ' r
  | .nx _ => some (.cl .none)
  | _ => none
def runM (N : Nat) (g : SD) : FM := fun cs ds => (g (argM N cs ds)).bind fun o => match o with
  | .rt r ρ' => match ρ'.getD 0 .no with
    | .pm cs' => (retV ρ' r).map fun v => (v, cs')
    | _ => none
  | .nx ρ' => match ρ'.getD 0 .no with
    | .pm cs' => some (.cl .none, cs')
    | _ => none
  | _ => none
section
variable {K : Fg} {P : List Addr} {H H' : Hp}
theorem start_get (N : List Str) (vs : List V) (i : Nat) : (L2.start N vs)[i]? = if i < vs.length then vs[i]?.map some else if i < N.length then some none else (L2.start N vs)[i]? := by
  unfold L2.start
  by_cases h : i < vs.length
  · rw [if_pos h, List.getElem?_append_left (by simpa using h), List.getElem?_map]
  · rw [if_neg h]
    by_cases h2 : i < N.length
    · rw [if_pos h2, List.getElem?_append_right (by simpa using h), List.length_map, List.getElem?_replicate]
      simp
      omega
    · rw [if_neg h2]
theorem start_len {N : List Str} {vs : List V} (h : vs.length ≤ N.length) : (L2.start N vs).length = N.length := by
  unfold L2.start
  rw [List.length_append, List.length_map, List.length_replicate]
  omega
theorem argE_get {N : Nat} {ds : List PyData} {i : Nat} : (argE N ds).getD i .no = match ds[i]? with
    | some d => .cl d
    | none => .no := by
  unfold argE
  rw [List.getD_eq_getElem?_getD]
  by_cases h : i < ds.length
  · rw [List.getElem?_append_left (by simpa using h), List.getElem?_map, List.getElem?_eq_getElem h]
    rfl
  · rw [List.getElem?_append_right (by simpa using h), List.getElem?_replicate, List.getElem?_eq_none (by omega)]
    split <;> rfl
theorem rep_argE {N : List Str} {vs : List V} {ds : List PyData} (hl : Lists H P ∧ DL.Tabs K.T H) (h : DqA K H P vs ds) (hN : ds.length ≤ N.length) : Rep K P [] [] (L2.start N vs) (argE N.length ds) H := by
  have e := h.length
  have eP : P ++ [] ++ [] = P := by simp
  refine ⟨?_, by rw [eP]; exact hl.1, ⟨fun a _ => ⟨(fun z => nomatch z), (fun z => nomatch z)⟩, (fun a z => nomatch z)⟩, fun i => ?_, fun i j a _ h1 _ _ _ => ?_, hl.2⟩
  · rw [start_len (by omega)]
    unfold argE
    rw [List.length_append, List.length_map, List.length_replicate]
    omega
  · rw [argE_get]
    cases hd : ds[i]? with
    | none => trivial
    | some d =>
      obtain ⟨v, hv, dv⟩ := h.get hd
      have hi := (List.getElem?_eq_some_iff.mp hv).1
      refine ⟨v, ?_, ?_⟩
      · rw [start_get, if_pos hi, hv]; rfl
      · rw [eP]; exact dv
  · rw [argE_get] at h1
    cases hd : ds[i]? with
    | none => rw [hd] at h1; cases h1
    | some d => rw [hd] at h1; cases h1
theorem res_of {E' L' : List Addr} {B : List Addr} {σ' : L2.St} {ρ' : DL.Env} {r v : Val} {x : V} (R : Rep K (E' ++ P) B L' σ' ρ' H') (fE : ∀ a ∈ E', H a = none) (fL : ∀ a ∈ L', H a = none) (hP : ∀ a ∈ P ++ B, H a ≠ none) (vr : VR K E' P B L' σ' H' x r) (e : retV ρ' r = some v) :
    ∃ E, (∀ a ∈ E, a ∈ E' ∨ a ∈ L') ∧ RRes K (P ++ B) H H' E x v := by
  have s1 : ∀ a ∈ P ++ B, a ∈ E' ++ P ++ B ++ L' := fun a z => by
    rcases List.mem_append.mp z with z | z
    · exact mem4.mpr (.inr (.inl z))
    · exact mem4.mpr (.inr (.inr (.inl z)))
  cases r with
  | cl d =>
    cases e
    exact ⟨[], (fun _ z => nomatch z), rfl, Dq.sub s1 vr⟩
  | own ds =>
    cases e
    obtain ⟨a, vs, rfl, h1, h2, h3, h4⟩ := vr
    refine ⟨[a], fun b z => .inl (by rw [show b = a by simpa using z]; exact h1), a, vs, rfl, rfl, fE a h1, h3, h4.sub fun b z => ?_⟩
    rcases List.mem_cons.mp z with z | z
    · exact mem4.mpr (.inl (z ▸ h1))
    · exact s1 b z
  | sl i =>
    have q := R.ok i
    simp only [retV] at e
    revert e q
    generalize ρ'.getD i .no = c
    intro e q
    cases c with
    | no => cases e
    | pm ds => cases e
    | dk t ds => cases e
    | op ds =>
      cases e
      obtain ⟨a, vs, e1, h1, h2, h3⟩ := q
      have e2 : some (some x) = some (some (V.ref a)) := (show σ'[i]? = _ from vr).symm.trans e1
      cases e2
      refine ⟨[a], fun b z => .inr (by rw [show b = a by simpa using z]; exact h1), a, vs, rfl, rfl, fL a h1, h2, h3.sub fun b z => ?_⟩
      rcases List.mem_cons.mp z with z | z
      · exact mem4.mpr (.inr (.inr (.inr (z ▸ h1))))
      · exact s1 b z
    | cl d =>
      cases e
      obtain ⟨y, e1, h1⟩ := q
      have e2 : some (some x) = some (some y) := (show σ'[i]? = _ from vr).symm.trans e1
      cases e2
      exact ⟨[], (fun _ z => nomatch z), rfl, h1.sub s1⟩
theorem rs_runP {N : List Str} {n : Nat} {g : SD} {vs : List V} {Q : VK} {E : XK} (hN : n ≤ N.length) (h : spP K n (runP N.length g) vs H Q E) : RS K g { nx := fun _ H' => Q .non H', rt := Q } (L2.start N vs) H := by
  obtain ⟨hn, P, ds, r, hl, dq, e, k⟩ := h
  obtain ⟨o, e1, e2⟩ := Option.bind_eq_some_iff.mp e
  have hlen := dq.length
  refine ⟨P, [], [], argE N.length ds, o, rep_argE hl dq (by omega), e1, ?_⟩
  have hP : ∀ a ∈ P ++ [], H a ≠ none := fun a z => by
    obtain ⟨vs, q, _⟩ := hl.1 a (by simpa using z)
    rw [q]; exact fun y => nomatch y
  have eP : P ++ [] = P := by simp
  cases o with
  | nx ρ' =>
    cases e2
    exact fun σ' H' L' R s => k _ H' [] (by simpa using s.keep) ⟨rfl, .non⟩
  | rt r' ρ' =>
    refine fun σ' x H' L' E' R s f v => ?_
    obtain ⟨E2, _, q⟩ := res_of R f (fun a z => (s.lsub a z).elim (fun y => nomatch y) id) hP v e2
    rw [eP] at q
    exact k x H' E2 (by simpa using s.keep) q
  | ct ρ' => cases e2
  | bk ρ' => cases e2
theorem argM_getS {N : Nat} {cs ds : List PyData} {i : Nat} : (argM N cs ds).getD (i + 1) .no = match ds[i]? with
    | some d => .cl d
    | none => .no := by
  unfold argM
  rw [List.getD_eq_getElem?_getD, List.getElem?_cons_succ]
  by_cases h : i < ds.length
  · rw [List.getElem?_append_left (by simpa using h), List.getElem?_map, List.getElem?_eq_getElem h]
    rfl
  · rw [List.getElem?_append_right (by simpa using h), List.getElem?_replicate, List.getElem?_eq_none (by omega)]
    split <;> rfl
theorem rep_argM {N : List Str} {b : Addr} {us ws : List V} {cs ds : List PyData} (hl : Lists H P ∧ DL.Tabs K.T H) (hb : b ∉ P) (h0 : H b = some (.lst us)) (h1 : DqA K H (P ++ [b]) us cs) (h : DqA K H (P ++ [b]) ws ds) (hN : ds.length + 1 ≤ N.length) : Rep K P [b] [] (L2.start N (V.ref b :: ws)) (argM N.length cs ds) H := by
  have e := h.length
  have eP : P ++ [b] ++ [] = P ++ [b] := by simp
  have nOpen : ∀ i, ((argM N.length cs ds).getD i .no).isOpen = true → i = 0 := fun i hi => by
    cases i with
    | zero => rfl
    | succ i =>
      rw [argM_getS] at hi
      cases hd : ds[i]? with
      | none => rw [hd] at hi; cases hi
      | some d => rw [hd] at hi; cases hi
  refine ⟨?_, fun a z => ?_, ⟨fun a z => ⟨fun y => hb ((show a = b by simpa using y) ▸ z), (fun y => nomatch y)⟩, (fun a _ z => nomatch z)⟩, fun i => ?_, fun i j a hij h1 h2 _ _ => hij ((nOpen i h1).trans (nOpen j h2).symm), hl.2⟩
  · rw [start_len (by rw [List.length_cons]; omega)]
    unfold argM
    rw [List.length_cons, List.length_append, List.length_map, List.length_replicate]
    omega
  · rw [eP] at z
    rcases List.mem_append.mp z with z | z
    · exact hl.1 a z
    · exact ⟨_, by rw [show a = b by simpa using z]; exact h0, .lst us⟩
  · cases i with
    | zero =>
      refine ⟨b, us, ?_, by simp, h0, by rw [eP]; exact h1⟩
      rw [start_get, if_pos (by simp)]; rfl
    | succ i =>
      rw [argM_getS]
      cases hd : ds[i]? with
      | none => trivial
      | some d =>
        obtain ⟨v, hv, dv⟩ := h.get hd
        have hi := (List.getElem?_eq_some_iff.mp hv).1
        refine ⟨v, ?_, by rw [eP]; exact dv⟩
        rw [start_get, if_pos (by simpa using hi), List.getElem?_cons_succ, hv]; rfl
theorem rs_runM {N : List Str} {n : Nat} {g : SD} {vs : List V} {Q : VK} {E : XK} (hN : n + 1 ≤ N.length) (h : spM K n (runM N.length g) vs H Q E) : RS K g { nx := fun _ H' => Q .non H', rt := Q } (L2.start N vs) H := by
  obtain ⟨hn, P, b, us, ws, cs, ds, r, cs', rfl, hl, hb, h0, d1, d2, e, k⟩ := h
  obtain ⟨o, e1, e2⟩ := Option.bind_eq_some_iff.mp e
  have hlen := d2.length
  have hws : ws.length = n := by simpa using hn
  refine ⟨P, [b], [], argM N.length cs ds, o, rep_argM hl hb h0 d1 d2 (by omega), e1, ?_⟩
  have hP : ∀ a ∈ P ++ [b], H a ≠ none := fun a z => by
    rcases List.mem_append.mp z with z | z
    · obtain ⟨vs, q, _⟩ := hl.1 a z
      rw [q]; exact fun y => nomatch y
    · rw [show a = b by simpa using z, h0]; exact fun y => nomatch y
  have keep : ∀ {L' : List Addr} {H' : Hp}, Step [b] [] H L' H' → Keep [b] H H' := fun s => by simpa using s.keep
  -- what stands in the first slot
  have bag : ∀ {E' L' : List Addr} {σ' : L2.St} {ρ' : DL.Env} {H' : Hp} {c' : List PyData}, Rep K (E' ++ P) [b] L' σ' ρ' H' → ρ'.getD 0 .no = .pm c' → ∃ us', H' b = some (.lst us') ∧ DqA K H' ((E' ++ P) ++ [b] ++ L') us' c' := fun {E' L' σ' ρ' H' c'} R e => by
    have q := R.ok 0
    rw [e] at q
    obtain ⟨a, us', _, ha, h1, h2⟩ := q
    rw [show a = b by simpa using ha] at h1
    exact ⟨us', h1, h2⟩
  cases o with
  | nx ρ' =>
    refine fun σ' H' L' R s => ?_
    simp only at e2
    split at e2
    · rename_i c' hc
      cases e2
      obtain ⟨us', q1, q2⟩ := bag (E' := []) R hc
      exact k _ H' us' [] (keep s) q1 (q2.sub fun a z => List.mem_append_left _ (by simpa using z)) ⟨rfl, .non⟩
    · cases e2
  | rt r' ρ' =>
    refine fun σ' x H' L' E' R s f v => ?_
    simp only at e2
    split at e2
    · rename_i c' hc
      obtain ⟨v', e3, e4⟩ := Option.map_eq_some_iff.mp e2
      cases e4
      obtain ⟨us', q1, q2⟩ := bag R hc
      obtain ⟨E2, hE, q⟩ := res_of R f (fun a z => (s.lsub a z).elim (fun y => nomatch y) id) hP v e3
      refine k x H' us' E2 (keep s) q1 (q2.sub fun a z => ?_) q
      rcases List.mem_append.mp z with z | z
      · rcases hE a z with z | z
        · exact List.mem_append_left _ (List.mem_append_left _ (List.mem_append_left _ z))
        · exact List.mem_append_right _ z
      · rcases List.mem_append.mp z with z | z
        · exact List.mem_append_left _ (List.mem_append_left _ (List.mem_append_right _ z))
        · exact List.mem_append_left _ (List.mem_append_right _ z)
    · cases e2
  | ct ρ' => cases e2
  | bk ρ' => cases e2
end
end DL
end
noncomputable section
namespace DL
open PySem PySem.Spec PyProof.Rows L2
section
variable {P : Program} {w : World} {K : Fg} {mg : Str → Option Value} {base : Heap}
theorem FnG.pure {x qual : Str} {st : Stmt} {f : Addr} {fd : FuncData} {N ps : List Str} {k n : Nat} {g : SD} (F : Fun K x qual st f fd) (S : FnScope N ps (defScope st)) (hn : ps.length = n) (hN : n ≤ N.length)
    (hb : ∀ (cdv : Value) (A : Around) (outer : List PySem.Env) (s : Shared) (H : Hp) (E : XK), (A.deeper (envOfC qual (defScope st) s.heap.objs.size f cdv)).guards = some [] → Room k (A.deeper (envOfC qual (defScope st) s.heap.objs.size f cdv)) →
      PSs (cxOf CX0 P w K mg base N qual (defScope st) f cdv A outer s H E).nox (defBody st) (RS K g)) : FnG P w K mg base CX0 (k + 1) f fd ps (spP K n (runP N.length g)) :=
  FnG.body F S (fun vs H Q E h => h.1.trans hn.symm) fun cdv A outer s H vs Q E _ hA hr h => ⟨_, (hb cdv A outer s H E hA hr).nox, rs_runP hN h⟩
theorem FnG.mut {x qual : Str} {st : Stmt} {f : Addr} {fd : FuncData} {N ps : List Str} {k n : Nat} {g : SD} (F : Fun K x qual st f fd) (S : FnScope N ps (defScope st)) (hn : ps.length = n + 1) (hN : n + 1 ≤ N.length)
    (hb : ∀ (cdv : Value) (A : Around) (outer : List PySem.Env) (s : Shared) (H : Hp) (E : XK), (A.deeper (envOfC qual (defScope st) s.heap.objs.size f cdv)).guards = some [] → Room k (A.deeper (envOfC qual (defScope st) s.heap.objs.size f cdv)) →
      PSs (cxOf CX0 P w K mg base N qual (defScope st) f cdv A outer s H E).nox (defBody st) (RS K g)) : FnG P w K mg base CX0 (k + 1) f fd ps (spM K n (runM N.length g)) :=
  FnG.body F S (fun vs H Q E h => h.1.trans hn.symm) fun cdv A outer s H vs Q E _ hA hr h => ⟨_, (hb cdv A outer s H E hA hr).nox, rs_runM hN h⟩
end
def callP (n : Nat) (F : FP) (t : AD) : ED := callD t fun ρ rs => (psAll ρ rs).bind fun p => if p.1.length = n then (F p.1).bind fun r => if flatV' r = true then some (r, ρ) else some (r, p.2) else none
def callM (j n : Nat) (F : FM) (t : AD) : ED := fun ρ => (opAt ρ j).bind fun _ => (t ρ).bind fun p => (psAll p.2 p.1).bind fun q => (opAt q.2 j).bind fun c => if q.1.length = n then (F c.2 q.1).bind fun s => some (s.1, opSet q.2 j c.1 s.2) else none
section
variable {K : Fg} {P B L E : List Addr} {σ : L2.St} {ρ ρ' : DL.Env} {H H' : Hp} {x : V} {r : Val}
theorem flat_res {P' : List Addr} (hf : flatV' r = true) (h : RRes K P' H H' E x r) : ∃ d, r = .cl d ∧ ∀ {H'' : Hp} {W'' : List Addr}, Dq K H'' W'' x d := by
  cases r with
  | cl d =>
    refine ⟨d, rfl, fun {H'' W''} => ?_⟩
    have h' : Dq K H' _ x d := h.2
    cases d with
    | none => cases h'; exact .non
    | bool b => cases h'; exact .bl b
    | int i => cases h'; exact .int i
    | str s => cases h'; exact .str s
    | _ => cases hf
  | _ => cases hf
theorem callP_imp {n : Nat} {F : FP} {t : AD} {σ : L2.St} {H : Hp} {Q : VK} (h : RD K (callP n F t) σ H Q) : RA K t σ H fun vs H1 => spP K n F vs H1 Q E0 := by
  obtain ⟨P, B, L, ρ, r, ρ', R0, e, k⟩ := h
  obtain ⟨⟨rs, ρ1⟩, e1, e⟩ := Option.bind_eq_some_iff.mp e
  obtain ⟨⟨ds, ρ2⟩, e2, e⟩ := Option.bind_eq_some_iff.mp e
  simp only at e
  split at e
  · rename_i hn
    obtain ⟨r', e3, e⟩ := Option.bind_eq_some_iff.mp e
    refine ⟨P, B, L, ρ, rs, ρ1, R0, e1, fun xs H1 La Ea p1 v1 => ?_⟩
    obtain ⟨E', L', R', dq, es, ls⟩ := psAll_of p1.rep v1 e2
    refine ⟨by rw [dq.length]; exact hn, E' ++ P ++ B ++ L', ds, r', ⟨R'.wl, R'.tabs⟩, dq, e3, fun x H' E2 kp q => ?_⟩
    split at e
    · rename_i hf
      cases e
      obtain ⟨d, rfl, hd⟩ := flat_res hf q
      exact k x H' La Ea ⟨p1.rep.same kp, p1.step.trans (Step.of_same kp), p1.esub⟩ (show Dq K H' _ x d from hd)
    · cases e
      have p2 := p1.then (Post.less R' es ls)
      cases r with
      | cl d => exact k x H' L' E' ⟨p2.rep.same kp, p2.step.trans (Step.of_same kp), p2.esub⟩ q.2
      | own fs =>
        obtain ⟨a, vs, rfl, rfl, hn, hh, hd⟩ := q
        have R3 := R'.move (E := [a]) kp fun b z => by
          rw [show b = a by simpa using z]
          exact ⟨hn, vs, hh⟩
        refine k (V.ref a) H' L' (a :: E') ⟨by simpa using R3, p2.step.trans (Step.of_same kp), fun b z => ?_⟩ ⟨a, vs, rfl, List.mem_cons_self .., fun z => ?_, hh, by simpa using hd⟩
        · rcases List.mem_cons.mp z with z | z
          · right
            cases eh : H b with
            | none => rfl
            | some u => exact absurd (z ▸ hn) (p1.step.ne b (by rw [eh]; exact fun y => nomatch y))
          · exact p2.esub b z
        · obtain ⟨us, q, _⟩ := R'.wl a (mem4.mpr (.inr (.inl z)))
          rw [hn] at q; cases q
      | sl i => exact q.elim
  · cases e
/-- the list of slot j is written by another hand; new lists are shut out -/
theorem Rep.wr {j : Nat} {kk : Bool} {ds ds' : List PyData} {a : Addr} {vs' : List V} {N : List Addr} (R : Rep K P B L σ ρ H) (e : opAt ρ j = some (kk, ds)) (ea : σ[j]? = some (some (V.ref a))) (kp : Keep [a] H H') (ha : H' a = some (.lst vs')) (hN : ∀ b ∈ N, H b = none ∧ ∃ vs, H' b = some (.lst vs))
    (d : DqA K H' (N ++ P ++ B ++ L) vs' ds') : Rep K (N ++ P) B L σ (opSet ρ j kk ds') H' ∧ Step B L H L H' := by
  obtain ⟨a', vs, e1, hm, hk, hh, dq, hj⟩ := opAt_of R e
  rw [ea] at e1
  cases e1
  have hop := opAt_open e
  have hW : a ∈ P ++ B ++ L := mem3.mpr (.inr (List.mem_append.mp hm))
  have hl : Lists H [a] := fun b z => ⟨_, by rw [show b = a by simpa using z]; exact hh, .lst vs⟩
  have hs : ∀ b ∈ [a], b ∈ P ++ B ++ L := fun b z => (show b = a by simpa using z) ▸ hW
  have hw : ∀ b ∈ N ++ P ++ B ++ L, b ∈ P ++ B ++ L ∨ H b = none := fun b z => by
    rw [app_assoc3] at z
    exact (List.mem_append.mp z).elim (fun z => .inr (hN b z).1) .inl
  have mv : ∀ {v : V} {d : PyData}, Dq K H (P ++ B ++ L) v d → Dq K H' (N ++ P ++ B ++ L) v d := fun h => h.move hl hs kp hw
  have mvA : ∀ {v : List V} {d : List PyData}, DqA K H (P ++ B ++ L) v d → DqA K H' (N ++ P ++ B ++ L) v d := fun h => h.move hl hs kp hw
  have nN : ∀ b ∈ N, b ∉ P ++ B ++ L := fun b z y => by
    obtain ⟨us, q, _⟩ := R.wl b y
    rw [(hN b z).1] at q; cases q
  have there : ∀ b, H b ≠ none → H' b ≠ none := fun b z => by
    by_cases q : b = a
    · rw [q, ha]; exact fun y => nomatch y
    · cases eb : H b with
      | none => exact absurd eb z
      | some o => exact kp.nn b (by rw [eb]; exact fun y => nomatch y)
  refine ⟨⟨by rw [opSet, List.length_set]; exact R.len, fun b hb => ?_, ⟨fun b hb => ?_, R.nd.2⟩, fun i => ?_, fun i i2 b hi h1 h2 => ?_, kp.tab _ R.tabs⟩, ⟨kp.mono fun b z => (show b = a by simpa using z) ▸ hm, fun b z => .inl z, there⟩⟩
  · rcases hw b hb with z | z
    · by_cases q : b = a
      · exact ⟨_, by rw [q]; exact ha, .lst vs'⟩
      · obtain ⟨us, eb, ou⟩ := R.wl b z
        exact ⟨us, kp.at eb (by simpa using q) ou.ntbl, ou⟩
    · rw [app_assoc3] at hb
      rcases List.mem_append.mp hb with y | y
      · obtain ⟨us, eb⟩ := (hN b y).2
        exact ⟨_, eb, .lst us⟩
      · obtain ⟨us, eb, _⟩ := R.wl b y
        rw [z] at eb; cases eb
  · rcases List.mem_append.mp hb with z | z
    · exact ⟨fun y => nN b z (mem3.mpr (.inr (.inl y))), fun y => nN b z (mem3.mpr (.inr (.inr y)))⟩
    · exact R.nd.1 b z
  · unfold opSet
    rw [getD_set]
    by_cases hi : j = i
    · subst hi
      rw [if_pos ⟨rfl, hj⟩]
      cases kk with
      | true => exact ⟨a, vs', ea, hk, ha, d⟩
      | false => exact ⟨a, vs', ea, hk, ha, d⟩
    · rw [if_neg fun z => hi z.1]
      have q := R.ok i
      have inj := R.inj j i a hi hop
      revert q inj
      generalize ρ.getD i .no = c
      intro q inj
      cases c with
      | no => trivial
      | cl d => obtain ⟨v, e2, h⟩ := q; exact ⟨v, e2, mv h⟩
      | op fs =>
        obtain ⟨b, us, e2, h1, h2, h3⟩ := q
        exact ⟨b, us, e2, h1, kp.at h2 (by simpa using fun z : b = a => inj rfl ea (by rw [← z]; exact e2)), mvA h3⟩
      | pm fs =>
        obtain ⟨b, us, e2, h1, h2, h3⟩ := q
        exact ⟨b, us, e2, h1, kp.at h2 (by simpa using fun z : b = a => inj rfl ea (by rw [← z]; exact e2)), mvA h3⟩
      | dk t fs =>
        obtain ⟨b, us, e2, h1, h2, h3⟩ := q
        exact ⟨b, us, e2, h1, kp.at h2 (by simpa using fun z : b = a => inj rfl ea (by rw [← z]; exact e2)) h3.own.ntbl, h3.move hl hs kp hw⟩
  · have t : ∀ m, ((opSet ρ j kk ds').getD m .no).isOpen = true → (ρ.getD m .no).isOpen = true := fun m z => by
      unfold opSet at z
      rw [getD_set] at z
      by_cases hm : j = m ∧ j < ρ.length
      · rw [← hm.1]; exact hop
      · rwa [if_neg hm] at z
    exact R.inj i i2 b hi (t i h1) (t i2 h2)
theorem callM_imp {j n : Nat} {F : FM} {t : AD} {σ : L2.St} {H : Hp} {Q : VK} (h : RD K (callM j n F t) σ H Q) : tCons (tVar j) (RA K t) σ H fun vs H1 => spM K n F vs H1 Q E0 := by
  obtain ⟨P, B, L, ρ, r, ρ', R0, e, k⟩ := h
  obtain ⟨⟨k0, c0⟩, e0, e⟩ := Option.bind_eq_some_iff.mp e
  obtain ⟨⟨rs, ρ1⟩, e1, e⟩ := Option.bind_eq_some_iff.mp e
  obtain ⟨⟨ds, ρ2⟩, e2, e⟩ := Option.bind_eq_some_iff.mp e
  obtain ⟨⟨kk, cs⟩, e4, e⟩ := Option.bind_eq_some_iff.mp e
  simp only at e
  split at e
  · rename_i hn
    obtain ⟨⟨r', cs'⟩, e3, e⟩ := Option.bind_eq_some_iff.mp e
    cases e
    obtain ⟨b, us0, el, _⟩ := opAt_of R0 e0
    refine ⟨V.ref b, el, P, B, L, ρ, rs, ρ1, R0, e1, fun xs H1 La Ea p1 v1 => ?_⟩
    obtain ⟨E', L', R', dq, es, ls⟩ := psAll_of p1.rep v1 e2
    obtain ⟨b', us, el', hm, _, hl, dc, _⟩ := opAt_of R' e4
    rw [el] at el'
    cases el'
    have hbW : b ∈ E' ++ P ++ B ++ L' := mem3.mpr (.inr (List.mem_append.mp hm))
    have hsub : ∀ a ∈ less (E' ++ P ++ B ++ L') b ++ [b], a ∈ E' ++ P ++ B ++ L' := fun a z => by
      rcases List.mem_append.mp z with z | z
      · exact (mem_less.mp z).1
      · exact (show a = b by simpa using z) ▸ hbW
    have hsup : ∀ a ∈ E' ++ P ++ B ++ L', a ∈ less (E' ++ P ++ B ++ L') b ++ [b] := fun a z => by
      by_cases q : a = b
      · exact List.mem_append_right _ (by simp [q])
      · exact List.mem_append_left _ (mem_less.mpr ⟨z, q⟩)
    have p2 := p1.then (Post.less R' es ls)
    refine ⟨by rw [List.length_cons, dq.length, hn], less (E' ++ P ++ B ++ L') b, b, us, xs, cs, ds, r', cs', rfl, ⟨fun a z => R'.wl a (mem_less.mp z).1, R'.tabs⟩, fun z => (mem_less.mp z).2 rfl, hl, dc.sub hsub, dq.sub hsub, e3, fun x H' us' E2 kp hb' d' q => ?_⟩
    have hE2 : ∀ a ∈ E2, H1 a = none ∧ ∃ vs, H' a = some (.lst vs) := fun a z => by
      cases r' with
      | cl d => rw [q.1] at z; exact nomatch z
      | own fs =>
        obtain ⟨a', vs, rfl, _, h1, h2, _⟩ := q
        rw [show a = a' by simpa using z]
        exact ⟨h1, vs, h2⟩
      | sl i => exact q.elim
    have d2 : DqA K H' (E2 ++ (E' ++ P) ++ B ++ L') us' cs' := d'.sub fun a z => by
      rw [app_assoc3] at z
      rcases List.mem_append.mp z with z | z
      · exact List.mem_append_left _ z
      · exact List.mem_append_right _ (hsup a z)
    obtain ⟨R3, s3⟩ := R'.wr e4 el kp hb' hE2 d2
    refine k x H' L' (E2 ++ E') ⟨by simpa using R3, p2.step.trans s3, fun a z => ?_⟩ ?_
    · rcases List.mem_append.mp z with z | z
      · right
        cases eh : H a with
        | none => rfl
        | some u => exact absurd (hE2 a z).1 (p1.step.ne a (by rw [eh]; exact fun y => nomatch y))
      · exact p2.esub a z
    · cases r' with
      | cl d =>
        obtain ⟨rfl, h2⟩ := q
        exact Dq.sub hsup h2
      | own fs =>
        obtain ⟨a, vs, rfl, rfl, h1, h2, h3⟩ := q
        refine ⟨a, vs, rfl, by simp, fun z => ?_, h2, h3.sub fun c z => ?_⟩
        · obtain ⟨us, q, _⟩ := R'.wl a (mem4.mpr (.inr (.inl z)))
          rw [h1] at q; cases q
        · rcases List.mem_cons.mp (show c ∈ a :: (E' ++ P ++ B ++ L') by simpa using z) with z | z
          · rw [z]; exact List.mem_cons_self ..
          · exact List.mem_cons_of_mem _ (hsup c z)
      | sl i => exact q.elim
  · cases e
end
section
variable {X : Cx} {tl : TL} {k n : Nat} {f : Addr} {fd : FuncData} {ps : List Str} {x y : Str} {p pos py : Pos} {e : Expr} {es : List Expr} {t : AD}
theorem d_callP {F : FP} (G : FnG X.prog X.w (X.D tl) X.mg X.base CX0 k f fd ps (spP (X.D tl) n F)) (hA : X.A.guards = some []) (hr : Room k X.A) (hm : X.mg x = some (.ref f)) (hk : PySem.W.keepIn (X.D tl) (.ref f) = true) (hb : Binds (X.D tl) fd ps []) (ha : PA X (e :: es) (RA (X.D tl) t)) (hg : Gl X x := by rfl)
    (hdb : (x == ("__debug__" : Str)) = false := by decide) (he : starEach (e :: es) X.env = (false, eval e X.env) :: starEach es X.env := by rfl) (hpl : (backTo pos (starEach es X.env)).any (·.1) = false := by rfl) :
    PE X (.Call (.Name x p) (e :: es) [] pos) (RD (X.D tl) (callP n F t)) := (g_call G hA hr hg hm hk hb pass0 ha hdb he hpl).imp fun _ _ _ h => callP_imp h
theorem d_callM {F : FM} (j : Nat) (G : FnG X.prog X.w (X.D tl) X.mg X.base CX0 k f fd ps (spM (X.D tl) n F)) (hA : X.A.guards = some []) (hr : Room k X.A) (hm : X.mg x = some (.ref f)) (hk : PySem.W.keepIn (X.D tl) (.ref f) = true) (hb : Binds (X.D tl) fd ps []) (ha : PA X es (RA (X.D tl) t)) (hg : Gl X x := by rfl)
    (hN : X.N[j]? = some y := by rfl) (hv : Vis X.env.scope y := by first | exact Or.inl rfl | exact Or.inr (Or.inl rfl) | exact Or.inr (Or.inr rfl)) (hd : (y == ("__debug__" : Str)) = false := by decide) (hcd : (y == ("__classdict__" : Str)) = false := by decide)
    (hdb : (x == ("__debug__" : Str)) = false := by decide) (he : starEach ((.Name y py) :: es) X.env = (false, eval (.Name y py) X.env) :: starEach es X.env := by rfl) (hpl : (backTo pos (starEach es X.env)).any (·.1) = false := by rfl) :
    PE X (.Call (.Name x p) ((.Name y py) :: es) [] pos) (RD (X.D tl) (callM j n F t)) := (g_call G hA hr hg hm hk hb pass0 (pa_cons (pe_var hN hv hd hcd) ha he) hdb he hpl).imp fun _ _ _ h => callM_imp h
end
end DL
end
set_option maxHeartbeats 1000000
noncomputable section
namespace DL
open PySem PySem.Spec PyProof.Rows L2
theorem tm_same (l : Addr) (items : Array Value) (n : Nat) (dd : Option Addr) (sl : Array (Option Value)) (x : Int) (u : Tok) (c0 : (decide (x < -(2 ^ 63)) || decide (x ≥ 2 ^ 63)) = false) (c1 : (items.isEmpty || x == 1) = true) :
    Meets (Builtin.«tuple.__mul__» ⟨[.ref l, .int x u], []⟩) (fun _ R s => s.heap.get? l = some { cls := .type "tuple", dict := dd, data := .seq items n, slots := sl } ∧ R (.ok (.ret (Value.ref l))) s) :=
  .of_wp fun prog w A R s h => by
    obtain ⟨hp, g, d, tk, os⟩ := s
    obtain ⟨hl, h⟩ := h
    have f1 := AutoSeq1.idx_int
    wp_walk using wpAny_loadPart' hl
    refine wpAny_ite_false (decide_eq_false (fun z => Bool.false_ne_true (c0.symm.trans z))) ?_
    wp_walk using wpAny_loadPart' hl
    exact ⟨_, rfl, h⟩
theorem tm_none (l : Addr) (items : Array Value) (n : Nat) (dd : Option Addr) (sl : Array (Option Value)) (x : Int) (u : Tok) (c0 : (decide (x < -(2 ^ 63)) || decide (x ≥ 2 ^ 63)) = false) (c1 : (items.isEmpty || x == 1) = false) (c2 : (decide (x ≤ 0) || items.isEmpty) = true) :
    Meets (Builtin.«tuple.__mul__» ⟨[.ref l, .int x u], []⟩) (fun _ R s => s.heap.get? l = some { cls := .type "tuple", dict := dd, data := .seq items n, slots := sl } ∧
      R (.ok (.ret (Value.ref s.heap.objs.size))) { s with heap := s.heap.push { cls := Value.type "tuple", data := Data.seq #[] } }) :=
  .of_wp fun prog w A R s h => by
    obtain ⟨hp, g, d, tk, os⟩ := s
    obtain ⟨hl, h⟩ := h
    have f1 := AutoSeq1.idx_int
    wp_walk using wpAny_loadPart' hl
    refine wpAny_ite_false (decide_eq_false (fun z => Bool.false_ne_true (c0.symm.trans z))) ?_
    wp_walk using wpAny_loadPart' hl
    exact ⟨_, rfl, h⟩
def rRepS (K : Fg) : R2 := fun x y H Q => ∃ l k xs, x = .ref l ∧ y = .int k ∧ SqT K H l xs ∧ -(2 ^ 62) ≤ k ∧ k < 2 ^ 62 ∧ (if xs = [] ∨ k = 1 then Q (.ref l) H else k ≤ 0 ∧ NewT H Q [])
theorem op_repS {X : Cx} {tl : TL} : OpR X (binaryOp .Mult) (rRepS (X.D tl)) := by
  intro pins s σ H x y v u Q I rx ry h
  obtain ⟨l, k, xs, rfl, rfl, hT, hk1, hk2, q⟩ := h
  cases rx
  obtain ⟨t, rfl⟩ := ry
  obtain ⟨its, r, ⟨⟨cls, dd, data, sl⟩, ho, hc, n, hd⟩, hs⟩ := I.tuple hT
  simp only at hc hd
  subst hc hd
  have c0 : (decide (k < -(2 ^ 63)) || decide (k ≥ 2 ^ 63)) = false := by
    rw [decide_eq_false (by omega), decide_eq_false (by omega)] <;> rfl
  have hemp : its.toArray.isEmpty = decide (xs = []) := by
    cases r with
    | nil => rfl
    | cons _ _ => simp
  have fin : ∀ {Q' : Value → Shared → Prop}, wpAny (model X.prog X.w) X.A (call (.builtin "tuple.__mul__") [.ref l, .int k t]) Q' X.xe s → wpAny (model X.prog X.w) X.A (binaryOp .Mult (.ref l) (.int k t)) Q' X.xe s := fun hw =>
    wpAny_binaryOp_repeat_ref (T := "tuple") (U := "int") (by decide) ⟨_, ho, rfl⟩ (fun s' => typeIs_int s' k t) noFill_tuple_mul F.fills_int_mul F.slot_int_rmul repeat_tuple F.slot_int_index.lookup
      (call_meets F.slot_int_rmul (typeIs_int s k t) F.entry_int_rmul (F.args_int_rmul_2 _ _) (int_rmul_tuple k t l its.toArray n dd sl) ⟨ho, rfl, ⟨_, ho, rfl⟩, hw⟩)
  by_cases hw : xs = [] ∨ k = 1
  · rw [if_pos hw] at q
    have c1 : (its.toArray.isEmpty || k == 1) = true := by
      rw [hemp]
      rcases hw with e | e
      · simp [e]
      · simp [e]
    exact fin (call_meets F.slot_tuple_mul ⟨_, ho, rfl⟩ F.entry_tuple_mul (F.args_tuple_mul_2 _ _) (tm_same l its.toArray n dd sl k t c0 c1) ⟨ho, ⟨.ref l, H, I, rfl, q⟩⟩)
  · rw [if_neg hw] at q
    have c1 : (its.toArray.isEmpty || k == 1) = false := by
      rw [hemp]
      simp only [not_or] at hw
      simp [hw.1, hw.2]
    have c2 : (decide (k ≤ 0) || its.toArray.isEmpty) = true := by simp [q.1]
    refine fin (call_meets F.slot_tuple_mul ⟨_, ho, rfl⟩ F.entry_tuple_mul (F.args_tuple_mul_2 _ _) (tm_none l its.toArray n dd sl k t c0 c1 c2) ⟨ho, ?_⟩)
    exact new_tup I .nil (Nat.zero_le _) q.2 (t' := s.toks)
def mulG : DL.Env → Val → Val → Option (Val × DL.Env) := fun ρ a b => match a, b with
  | .cl (.int i), .cl (.int j) => if i.natAbs.log2 + j.natAbs.log2 < 1000000 ∨ i.natAbs < 2 ^ 64 ∨ j.natAbs < 2 ^ 64 then some (.cl (.int (i * j)), ρ) else none
  | _, .cl (.int k) => match seqOf ρ a with
    | some (true, ds) => if -1000 ≤ k ∧ k ≤ 1000 ∧ ds.length ≤ 1000 then some (.own (List.replicate k.toNat ds).flatten, ρ) else none
    | some (false, ds) => if -1000 ≤ k ∧ k ≤ 1000 ∧ ds.length ≤ 1000 then some (.cl (.tuple (List.replicate k.toNat ds).flatten), ρ) else none
    | none => none
  | _, _ => none
def CMulB (i j : Int) : Prop := CMulW i j ∨ CMul i j
theorem op_mulB {X : Cx} : OpR X (binaryOp .Mult) (rI CMulB fun i j => .int (i * j)) := opI fun _ _ _ _ _ _ _ hc q => mul_int q (hc.elim (fun z => z.ok) fun z => z.ok)
def rMulAll (K : Fg) : R2 := fun x y H Q => rI CMulB (fun i j => .int (i * j)) x y H Q ∨ rRep x y H Q ∨ rRepF K x y H Q ∨ rRepS K x y H Q
theorem op_mulAll {X : Cx} {tl : TL} : OpR X (binaryOp .Mult) (rMulAll (X.D tl)) := op_mulB.or (op_rep.or (op_repF.or op_repS))
theorem DqA.rep {K : Fg} {H : Hp} {W : List Addr} {vs : List V} {ds : List PyData} (h : DqA K H W vs ds) : ∀ k : Nat, DqA K H W (List.replicate k vs).flatten (List.replicate k ds).flatten
  | 0 => .nil
  | k + 1 => by
    rw [List.replicate_succ, List.replicate_succ, List.flatten_cons, List.flatten_cons]
    exact h.append (DqA.rep h k)
theorem loc_mul {K : Fg} : Loc2 K (rMulAll K) mulG := by
  intro E P B L σ ρ ρ' H x y r1 r2 r Q R0 v1 v2 e c
  have hl : sizeLine = 16777216 := sizeLine_eq
  unfold mulG at e
  split at e
  · split at e
    · rename_i hz
      cases e
      refine .inl ⟨_, _, v1.int, v2.int, ?_, c.here R0 (show VR K E P B L σ H _ (.cl (.int _)) from Dq.int _)⟩
      rcases hz with z | z | z
      · exact .inl z
      · exact .inr (.inl ⟨by omega, by omega⟩)
      · exact .inr (.inr ⟨by omega, by omega⟩)
    · cases e
  · rename_i k _
    split at e
    · rename_i ds e1
      split at e
      · rename_i hz
        cases e
        obtain ⟨a, vs, rfl, h1, d1⟩ := v1.list R0 e1
        refine .inr (.inl ⟨a, k, vs, rfl, v2.int, h1, by omega, by omega, ?_, fun p hp => c.lst R0 (d1.rep _) hp⟩)
        rw [d1.length]
        have : ds.length * k.toNat ≤ 1000 * 1000 := Nat.mul_le_mul hz.2.2 (by omega)
        omega
      · cases e
    · rename_i ds e1
      split at e
      · rename_i hz
        cases e
        obtain ⟨a, vs, rfl, h1, d1⟩ := v1.tuple e1
        by_cases hb : vs ≠ [] ∧ 2 ≤ k
        · exact .inr (.inr (.inl ⟨a, k, vs, rfl, v2.int, h1.sq, hb.1, hb.2, by omega, by rw [d1.length]; exact hz.2.2, fun p ob hp po => c.tup R0 (d1.rep _) hp po⟩))
        · refine .inr (.inr (.inr ⟨a, k, vs, rfl, v2.int, h1.sq, by omega, by omega, ?_⟩))
          by_cases hw : vs = [] ∨ k = 1
          · rw [if_pos hw]
            have ee : (List.replicate k.toNat ds).flatten = ds := by
              rcases hw with q | q
              · subst q
                cases d1
                simp
              · subst q; simp
            rw [ee] at c
            exact c.here R0 (show VR K E P B L σ H _ (.cl (.tuple ds)) from .tup h1 d1)
          · rw [if_neg hw]
            simp only [not_or] at hw
            have hk : k ≤ 0 := by
              have : ¬ (2 ≤ k) := fun z => hb ⟨hw.1, z⟩
              omega
            have ee : (List.replicate k.toNat ds).flatten = [] := by
              rw [show k.toNat = 0 by omega]; rfl
            rw [ee] at c
            exact ⟨hk, fun p ob hp po => c.tup R0 .nil hp po⟩
      · cases e
    · cases e
  · cases e
mutual
theorem Dq.dp {K : Fg} {H : Hp} {W : List Addr} : ∀ {v : V} {d : PyData}, Dq K H W v d → d.hasDict = false → Dp K H v d
  | _, _, .non, _ => .non
  | _, _, .bl b, _ => .bl b
  | _, _, .int i, _ => .int i
  | _, _, .str x, _ => .str x
  | _, _, .lst h1 h2 h3, h => .lst (.of h2) (DqA.dp h3 (by simpa [PyData.hasDict] using h))
  | _, _, .tup h2 h3, h => .tup h2.sq (DqA.dp h3 (by simpa [PyData.hasDict] using h))
  | _, _, .dic _ _ _, h => by simp [PyData.hasDict] at h
theorem DqA.dp {K : Fg} {H : Hp} {W : List Addr} : ∀ {v : List V} {d : List PyData}, DqA K H W v d → PyData.hasDictAll d = false → DpAll K H v d
  | _, _, .nil, _ => .nil
  | _, _, .cons h1 h2, h => by
    rw [PyData.hasDictAll, Bool.or_eq_false_iff] at h
    exact .cons (Dq.dp h1 h.1) (DqA.dp h2 h.2)
end
theorem hasDict_shaped {d : PyData} (h : SeqAt.shaped d = true) : d.hasDict = false := by
  have h' : (d.canLay0 && decide (d.depth ≤ 64)) = true := h
  rw [Bool.and_eq_true] at h'
  exact PyData.hasDict_of_canLay d h'.1
def eqG (neg : Bool) : DL.Env → Val → Val → Option (Val × DL.Env) := fun ρ a b => match datOf ρ a, datOf ρ b with
  | some d, some e => if SeqAt.shaped d = true ∧ SeqAt.shaped e = true then some (.cl (.bool (neg ^^ PyData.eqv d e)), ρ) else none
  | _, _ => none
theorem loc_eq {K : Fg} : Loc2 K (rEqD K) (eqG false) := by
  intro E P B L σ ρ ρ' H x y r1 r2 r Q R0 v1 v2 e c
  unfold eqG at e
  split at e
  · rename_i d f e1 e2
    split at e
    · rename_i hz
      cases e
      rw [Bool.false_xor] at c
      exact ⟨d, f, (v1.dat R0 e1).dp (hasDict_shaped hz.1), (v2.dat R0 e2).dp (hasDict_shaped hz.2), hz.1, hz.2, c.here R0 (show VR K E P B L σ H _ (.cl (.bool _)) from Dq.bl _)⟩
    · cases e
  · cases e
theorem loc_ne {K : Fg} : Loc2 K (rNeD K) (eqG true) := by
  intro E P B L σ ρ ρ' H x y r1 r2 r Q R0 v1 v2 e c
  unfold eqG at e
  split at e
  · rename_i d f e1 e2
    split at e
    · rename_i hz
      cases e
      rw [Bool.true_xor] at c
      exact ⟨d, f, (v1.dat R0 e1).dp (hasDict_shaped hz.1), (v2.dat R0 e2).dp (hasDict_shaped hz.2), hz.1, hz.2, c.here R0 (show VR K E P B L σ H _ (.cl (.bool _)) from Dq.bl _)⟩
    · cases e
  · cases e
def isNV : Val → Bool
  | .cl .none => true
  | _ => false
def isNG (neg : Bool) : DL.Env → Val → Val → Option (Val × DL.Env) := fun ρ a b => if isNV b = true then some (.cl (.bool (neg ^^ isNV a)), ρ) else none
theorem isNV_of {K : Fg} {E P B L : List Addr} {σ : L2.St} {ρ : DL.Env} {H : Hp} {x : V} {r : Val} (R : Rep K (E ++ P) B L σ ρ H) (hs : ∀ i, r ≠ .sl i ∨ (ρ.getD i .no).isOpen = true) (v : VR K E P B L σ H x r) : decide (x = V.non) = isNV r := by
  cases r with
  | cl d =>
    have v' : Dq K H _ x d := v
    cases d <;> cases v' <;> simp [isNV]
  | own ds => obtain ⟨a, _, e, _⟩ := v; simp [isNV, e]
  | sl i =>
    have h := (hs i).resolve_left fun z => z rfl
    have q := R.ok i
    revert h q
    generalize ρ.getD i .no = c
    intro h q
    have vv : σ[i]? = some (some x) := v
    cases c with
    | op ds => obtain ⟨a, _, e, _⟩ := q; rw [vv] at e; cases e; simp [isNV]
    | pm ds => obtain ⟨a, _, e, _⟩ := q; rw [vv] at e; cases e; simp [isNV]
    | dk t ds => obtain ⟨a, _, e, _⟩ := q; rw [vv] at e; cases e; simp [isNV]
    | _ => cases h
def isNG' (neg : Bool) : DL.Env → Val → Val → Option (Val × DL.Env) := fun ρ a b => match a with
  | .sl i => if (ρ.getD i .no).isOpen = true then isNG neg ρ a b else none
  | _ => isNG neg ρ a b
theorem isN_core {K : Fg} {E P B L : List Addr} {σ : L2.St} {ρ ρ' : DL.Env} {H : Hp} {x y : V} {r1 r2 r : Val} {neg : Bool} (R0 : Rep K (E ++ P) B L σ ρ H) (v1 : VR K E P B L σ H x r1) (v2 : VR K E P B L σ H y r2) (e : isNG' neg ρ r1 r2 = some (r, ρ')) :
    y = V.non ∧ ρ' = ρ ∧ r = .cl (.bool (neg ^^ decide (x = V.non))) := by
  have hs : ∀ i, r1 ≠ .sl i ∨ (ρ.getD i .no).isOpen = true := fun i => by
    by_cases h : r1 = .sl i
    · subst h
      simp only [isNG'] at e
      split at e
      · rename_i h; exact .inr h
      · cases e
    · exact .inl h
  have e' : isNG neg ρ r1 r2 = some (r, ρ') := by
    unfold isNG' at e
    split at e
    · split at e
      · exact e
      · cases e
    · exact e
  unfold isNG at e'
  split at e'
  · rename_i hn
    cases e'
    refine ⟨?_, rfl, by rw [isNV_of R0 hs v1]⟩
    cases r2 with
    | cl d => cases d <;> simp [isNV] at hn; exact v2.non
    | _ => simp [isNV] at hn
  · cases e'
theorem loc_isN {K : Fg} : Loc2 K (fun x y H Q => y = .non ∧ Q (.bl (decide (x = .non))) H) (isNG' false) := by
  intro E P B L σ ρ ρ' H x y r1 r2 r Q R0 v1 v2 e c
  obtain ⟨h1, rfl, rfl⟩ := isN_core R0 v1 v2 e
  rw [Bool.false_xor] at c
  exact ⟨h1, c.here R0 (show VR K E P B L σ H _ (.cl (.bool _)) from Dq.bl _)⟩
theorem loc_notN {K : Fg} : Loc2 K (fun x y H Q => y = .non ∧ Q (.bl (!decide (x = .non))) H) (isNG' true) := by
  intro E P B L σ ρ ρ' H x y r1 r2 r Q R0 v1 v2 e c
  obtain ⟨h1, rfl, rfl⟩ := isN_core R0 v1 v2 e
  rw [Bool.true_xor] at c
  exact ⟨h1, c.here R0 (show VR K E P B L σ H _ (.cl (.bool _)) from Dq.bl _)⟩
def threeG (h : Int → Int → Int → Int) : DL.Env → List Val → Option (Val × DL.Env) := fun ρ rs => match rs with
  | [.cl (.int i), .cl (.int j), .cl (.int k)] => some (.cl (.int (h i j k)), ρ)
  | _ => none
def r3I (h : Int → Int → Int → Int) : List V → Hp → VK → Prop := fun xs H Q => ∃ i j k, xs = [.int i, .int j, .int k] ∧ Q (.int (h i j k)) H
theorem loc_three {K : Fg} {h : Int → Int → Int → Int} : LocN K (r3I h) (threeG h) := by
  intro E P B L σ ρ ρ' H xs rs r Q R0 v e c
  unfold threeG at e
  split at e
  · cases e
    cases v with
    | cons w1 _ v =>
      cases v with
      | cons w2 _ v =>
        obtain ⟨x, rfl, w3⟩ := vrs_one v
        exact ⟨_, _, _, by rw [w1.int, w2.int, w3.int], c.here R0 (show VR K E P B L σ H _ (.cl (.int _)) from Dq.int _)⟩
  · cases e
def mx3 (a b c : Int) : Int := if b > a then (if c > b then c else b) else (if c > a then c else a)
def mn3 (a b c : Int) : Int := if b < a then (if c < b then c else b) else (if c < a then c else a)
theorem c_max3 {X : Cx} (hc : X.calm = true) : CallR X (.builtin "max") (r3I mx3) := by
  intro pins s σ H xs us Q I rv h
  obtain ⟨i, j, k, rfl, q⟩ := h
  cases rv with
  | cons r1 rv =>
    cases rv with
    | cons r2 rv =>
      cases rv with
      | cons r3 rv =>
        cases rv
        obtain ⟨t1, rfl⟩ := r1
        obtain ⟨t2, rfl⟩ := r2
        obtain ⟨t3, rfl⟩ := r3
        refine max_three_ints (I.ok.hd hc) fun h' tk kp => ⟨_, H, I.kept kp, ?_, q⟩
        unfold mx3
        split <;> split <;> exact ⟨_, rfl⟩
theorem c_min3 {X : Cx} (hc : X.calm = true) : CallR X (.builtin "min") (r3I mn3) := by
  intro pins s σ H xs us Q I rv h
  obtain ⟨i, j, k, rfl, q⟩ := h
  cases rv with
  | cons r1 rv =>
    cases rv with
    | cons r2 rv =>
      cases rv with
      | cons r3 rv =>
        cases rv
        obtain ⟨t1, rfl⟩ := r1
        obtain ⟨t2, rfl⟩ := r2
        obtain ⟨t3, rfl⟩ := r3
        refine min_three_ints (I.ok.hd hc) fun h' tk kp => ⟨_, H, I.kept kp, ?_, q⟩
        unfold mn3
        split <;> split <;> exact ⟨_, rfl⟩
def blsOf : List PyData → Option (List Bool)
  | [] => some []
  | .bool b :: ds => (blsOf ds).map (b :: ·)
  | _ => none
def quaG (h : List Bool → Bool) : DL.Env → Val → Option (Val × DL.Env) := fun ρ a => match seqOf ρ a with
  | some (true, ds) => (blsOf ds).map fun bs => (.cl (.bool (h bs)), ρ)
  | _ => none
def anyG : DL.Env → List Val → Option (Val × DL.Env) := oneG (quaG fun bs => bs.any id)
def allG : DL.Env → List Val → Option (Val × DL.Env) := oneG (quaG fun bs => bs.all id)
def boolOf : Val → Option Bool
  | .cl (.bool b) => some b
  | _ => none
def andD (f g : ED) : ED := fun ρ => (f ρ).bind fun p => (boolOf p.1).bind fun b => if b = true then g p.2 else some (.cl (.bool false), p.2)
theorem boolOf_of {r : Val} {b : Bool} (e : boolOf r = some b) : r = .cl (.bool b) := by
  cases r with
  | cl d => cases d <;> simp [boolOf] at e; rw [e]
  | _ => simp [boolOf] at e
section
variable {K : Fg} {σ : L2.St} {H : Hp} {Q : VK} {f g h : ED}
theorem rd_and (hh : RD K (andD f g) σ H Q) : tAndV (RD K f) (RD K g) σ H Q := by
  obtain ⟨P, B, L, ρ, r, ρ', R0, e, k⟩ := hh
  obtain ⟨⟨r1, ρ1⟩, e1, e⟩ := Option.bind_eq_some_iff.mp e
  obtain ⟨b, e2, e3⟩ := Option.bind_eq_some_iff.mp e
  have := boolOf_of e2
  simp only at this
  subst this
  refine ⟨P, B, L, ρ, _, ρ1, R0, e1, fun x H1 La Ea p1 v1 => ⟨b, v1.bl, ?_⟩⟩
  cases b with
  | true => exact iteT (two_rd p1 k (by simpa using e3))
  | false =>
    have e4 : Val.cl (.bool false) = r ∧ ρ1 = ρ' := by simpa using e3
    obtain ⟨rfl, rfl⟩ := e4
    exact iteF (k _ _ La Ea p1 (show VR K Ea P B La σ H1 _ (.cl (.bool false)) from Dq.bl false))
/-- a op b op' c -/
def chainD (f g h : ED) (o o' : DL.Env → Val → Val → Option (Val × DL.Env)) : ED := fun ρ => (f ρ).bind fun p => (g p.2).bind fun q => if flatV' q.1 = false then none else (o q.2 p.1 q.1).bind fun s => (boolOf s.1).bind fun b =>
  if b = true then (h s.2).bind fun t => o' t.2 q.1 t.1 else some (.cl (.bool false), s.2)
end
section
variable {X : Cx} {tl : TL} {a b c : Expr} {rest : List Expr} {f g h : ED} {pos : Pos}
theorem d_one {op : BoolOp} (h : PE X a (RD (X.D tl) f)) : PE X (.BoolOp op [a] pos) (RD (X.D tl) f) := pe_one h
theorem d_and (ha : PE X a (RD (X.D tl) f)) (hb : PE X (.BoolOp .And (b :: rest) pos) (RD (X.D tl) g)) : PE X (.BoolOp .And (a :: b :: rest) pos) (RD (X.D tl) (andD f g)) := (pe_and ha hb).imp fun _ _ _ h => rd_and h
end
def repG : DL.Env → Val → Option (Val × DL.Env) := fun ρ a => match datOf ρ a with
  | some d => if (d.showable = true ∧ d.hasDict = false) ∧ d.shown.length ≤ sizeLine ∧ d.depth ≤ 60 then some (.cl (.str d.shown), ρ) else none
  | none => none
def rRepr (K : Fg) : V → Hp → VK → Prop := fun x H Q => ∃ d, Dp K H x d ∧ ((d.showable = true ∧ d.hasDict = false) ∧ d.shown.length ≤ sizeLine ∧ d.depth ≤ 60) ∧ Q (.str d.shown) H
theorem loc_repr {K : Fg} : Loc1 K (rRepr K) repG := by
  intro E P B L σ ρ ρ' H x r1 r Q R0 v1 e c
  unfold repG at e
  split at e
  · rename_i d e1
    split at e
    · rename_i hz
      cases e
      exact ⟨d, (v1.dat R0 e1).dp hz.1.2, hz, c.here R0 (show VR K E P B L σ H _ (.cl (.str _)) from Dq.str _)⟩
    · cases e
  · cases e
theorem c_repr {X : Cx} {tl : TL} (hA : X.A.guards = some []) (hu : X.A.units + 64 < cLine) : CallR X (.builtin "repr") (fun xs H Q => ∃ x, xs = [x] ∧ rRepr (X.D tl) x H Q) := by
  intro pins s σ H xs us Q I rv h
  obtain ⟨x, rfl, d, hd, ⟨⟨h1, h2⟩, h3, h4⟩, q⟩ := h
  obtain ⟨u, rfl, ru⟩ := rv.one
  obtain ⟨as, rd⟩ := Dp.reads I d x u hd ru
  have big : ∀ a, u = Value.ref a → wpAny (model X.prog X.w) X.A (call (.builtin "repr") [u]) (EP X pins σ Q) X.xe s := fun a e => by
    subst e
    exact repr_of_reads' rd h1 (PyData.noDict_hsm h2) hA (by omega) (fun _ _ e => e) (fun h' u tk hk => ⟨.str d.shown, H, I.kept hk, ⟨u, rfl⟩, q⟩) h3
  cases hd with
  | lst _ _ => cases ru; exact big _ rfl
  | tup _ _ => cases ru; exact big _ rfl
  | int i =>
    obtain ⟨t, rfl⟩ := ru
    exact PySem.P.repr_of_int (by simpa [PyData.showable] using h1) ⟨.str _, H, I.tok _, ⟨_, rfl⟩, by simpa [PyData.shown] using q⟩
  | non =>
    cases ru
    exact PySem.P.repr_of_none ⟨.str _, H, I.tok _, ⟨_, rfl⟩, by simpa [PyData.shown] using q⟩
  | bl b =>
    cases ru
    exact PySem.P.repr_of_bool ⟨.str _, H, I.tok _, ⟨_, rfl⟩, by simpa [PyData.shown] using q⟩
  | str z =>
    obtain ⟨t, rfl⟩ := ru
    exact PySem.P.repr_of_str ⟨.str _, H, I.tok _, ⟨_, rfl⟩, by simpa [PyData.shown] using q⟩ (by simpa [PyData.shown] using h3)
end DL
end
namespace ZE
open PySem PySem.Spec PyProof.Rows L2
section
variable {prog : Program} {w : World} {A : Around} {E : Value → Shared → Prop} {s : Shared}
set_option maxHeartbeats 1000000 in
theorem new_enum1 {v : Value} {ob : Obj} {C : Heap → Prop} (B : Begins v ob C) :
    Meets (Builtin.«enumerate.__new__» ⟨[.type "enumerate", v], []⟩) (fun _ R t => C t.heap ∧
      R (.ok (.ret (.ref (t.heap.push ob).objs.size))) { t with heap := (t.heap.push ob).push { cls := .type "enumerate", data := .fields #[.none, .bool false, .ref t.heap.objs.size, rawInt 0, .none, .none] } }) :=
  .of_wp fun pr wo A R t h => by
    obtain ⟨hp, gg, dd, tt, oo⟩ := t
    obtain ⟨hC, h⟩ := h
    have hsub := sub_enumerate
    have it : ∀ {A' : Around} {E' : Value → Shared → Prop} {Q' : Value → Shared → Prop}, Q' (.ref hp.objs.size) ⟨hp.push ob, gg, dd, tt, oo⟩ → wpAny (model pr wo) A' (pyIter v) Q' E' ⟨hp, gg, dd, tt, oo⟩ :=
      fun q => B.iter pr wo _ _ ⟨hp, gg, dd, tt, oo⟩ _ hC q
    wp_walk using it
    refine wpAny_stack_any fun _ => wpAny_pure ?_
    split
    · rename_i cc _ _ _ _ _
      cases (cc == Value.type "enumerate") <;> (wp_walk using it; exact ⟨_, rfl, h⟩)
    · wp_walk using it
      exact ⟨_, rfl, h⟩
theorem enum1 {v : Value} {ob : Obj} {C : Heap → Prop} {Q : Value → Shared → Prop} (B : Begins v ob C) (hC : C s.heap)
    (h : ∀ g, IsEnum g (s.heap.objs.size + 1) s.heap.objs.size 0 .none → g.get? s.heap.objs.size = some ob → (∀ b o, s.heap.get? b = some o → g.get? b = some o) → Q (.ref (s.heap.objs.size + 1)) { s with heap := g }) :
    wpAny (model prog w) A (call (.type "enumerate") [v]) Q E s := by
  refine callType_new F.called_enumerate (by decide) (F.typeCall_enumerate_1 _) (F.newCall_enumerate_1 _) (fun z => F.args_object_init_2 z _) F.entry_enumerate_new (new_enum1 B) ⟨hC, ?_⟩
  have e1 : (s.heap.push ob).objs.size = s.heap.objs.size + 1 := Heap.size_push ..
  show _ ∧ _
  rw [e1]
  have e2 := Heap.get?_push_size (s.heap.push ob) (o := { cls := .type "enumerate", data := .fields #[.none, .bool false, .ref s.heap.objs.size, rawInt 0, .none, .none] }) rfl
  rw [e1] at e2
  exact ⟨⟨_, e2, rfl⟩, h _ e2 (Heap.get?_push_of_some _ (Heap.get?_push_size _ B.free)) fun b o z => Heap.get?_push_of_some _ (Heap.get?_push_of_some _ z)⟩
end
def SqB (K : PySem.W.Frag) (b : Bool) (H : Hp) (a : Addr) (xs : List V) : Prop := match b with
  | true => SqL K H a xs
  | false => SqT K H a xs
def ItB (b : Bool) (h : Heap) (it l : Addr) (i : Nat) : Prop := match b with
  | true => h.IsListIter it l i
  | false => h.IsTupleIter it l i
def IsB (b : Bool) (h : Heap) (l : Addr) (its : Array Value) : Prop := match b with
  | true => h.IsList l its
  | false => h.IsTuple l its
def obB (b : Bool) (l : Addr) : Obj := match b with
  | true => { cls := .type "list_iterator", data := .fields #[.ref l, .int 0 0] }
  | false => { cls := .type "tuple_iterator", data := .fields #[.ref l, .int 0 0] }
theorem beginsB (b : Bool) (l : Addr) (its : Array Value) : Begins (.ref l) (obB b l) fun h => IsB b h l its := by
  cases b
  · exact begins_tuple l its
  · exact begins_list l its
theorem drawsB {P : Program} {w : World} {A : Around} (b : Bool) (hh : A.handled = none) (it l : Addr) (hne : l ≠ it) (its : Array Value) :
    Draws P w A it [it, l] its.size (fun i v => its[i]? = some v) (fun i h => ItB b h it l i ∧ IsB b h l its) := by
  cases b
  · exact Draws.tuple hh it l hne its
  · exact Draws.list hh it l hne its
theorem ItB.at {b : Bool} {h h' : Heap} {it l : Addr} {i : Nat} (x : ItB b h it l i) (k : ∀ o, h.get? it = some o → h'.get? it = some o) : ItB b h' it l i := by
  cases b
  · exact Heap.IsTupleIter.at x k
  · exact Heap.IsListIter.at x k
theorem ItB.obj {b : Bool} {h : Heap} {it l : Addr} {i : Nat} (x : ItB b h it l i) : ∃ o, h.get? it = some o ∧ ∀ v, o.data ≠ .cell v := by
  cases b
  · obtain ⟨o, e, _, d⟩ := x
    exact ⟨o, e, fun v q => by rw [d] at q; cases q⟩
  · obtain ⟨o, e, _, d⟩ := x
    exact ⟨o, e, fun v q => by rw [d] at q; cases q⟩
theorem itB_new {b : Bool} {h : Heap} {it l : Addr} (e : h.get? it = some (obB b l)) : ItB b h it l 0 := by
  cases b
  · exact ⟨_, e, rfl, rfl⟩
  · exact ⟨_, e, rfl, rfl⟩
section
variable {X : Cx} {pins : List (Addr × Obj)} {σ : L2.St} {H : Hp} {s : Shared}
theorem seqB {b : Bool} {a : Addr} {xs : List V} (I : Inv X pins σ H s) (h : SqB X.K b H a xs) : ∃ its : List Value, Vals xs its ∧ IsB b s.heap a its.toArray ∧ a < s.heap.objs.size := by
  cases b
  · obtain ⟨its, rv, p, _⟩ := I.tuple h
    obtain ⟨o, e, _⟩ := id p
    exact ⟨its, rv, p, Heap.lt_size e⟩
  · obtain ⟨its, rv, p, _⟩ := I.list h
    exact ⟨its, rv, p.isList, p.lt⟩
theorem seqB_inj {b : Bool} {a : Addr} {xs ys : List V} (I : Inv X pins σ H s) (h : SqB X.K b H a xs) (h2 : SqB X.K b H a ys) : xs = ys := by
  cases b
  · exact I.tuple_inj h h2
  · exact I.list_inj h h2
end
def IteB (K : PySem.W.Frag) (b : Bool) (a : Addr) : It :=
  ⟨fun i H => ∃ (xs : List V) (x : V), SqB K b H a xs ∧ xs[i]? = some x,
    fun i H v H' => ∃ T x o, v = .ref T ∧ H T = none ∧ DL.PlainT o ∧ H' = upd H T (.frz o (.tup [.int (i : Nat), x])) ∧ ∀ xs, SqB K b H a xs → xs[i]? = some x,
    fun i H => ∃ xs : List V, SqB K b H a xs ∧ xs.length = i⟩
theorem turnE {P : Program} {w : World} {K : PySem.W.Frag} {elts : List Expr} {kk : Nat} {tp : Pos} (b : Bool) (a e it : Addr) (hea : e ≠ a) (hia : a ≠ it) :
    Turn P w K (.Tuple elts kk tp) (IteB K b a) [e, it] e (fun i h => (∃ old, IsEnum h e it ((i : Nat) : Int) old) ∧ ItB b h it a i ∧ e ≠ it) where
  mem := List.mem_cons_self ..
  obj := fun i h st c hc => by
    obtain ⟨⟨old, he⟩, hi, _⟩ := st
    rcases List.mem_cons.mp hc with z | z
    · subst z
      exact ⟨_, he, fun v q => nomatch q⟩
    · rw [show c = it by simpa using z]
      exact hi.obj
  keep := fun i h h' ⟨⟨old, he⟩, hi, hne⟩ k => ⟨⟨old, k e (by simp) _ he⟩, hi.at fun o q => k it (by simp) o q, hne⟩
  item := by
    intro X eP ew eK hc i pins s σ H E I hf st hg
    subst eP ew eK
    obtain ⟨⟨old, he⟩, hi, hne⟩ := st
    obtain ⟨xs, x, hq, hx⟩ := hg
    obtain ⟨its, rv, p, hal⟩ := seqB I hq
    obtain ⟨u, hu, ru⟩ := rv.get hx
    have lt : i < its.toArray.size := by
      have := (List.getElem?_eq_some_iff.mp hu).1
      simpa using this
    have hel : e < s.heap.objs.size := Heap.lt_size he
    have hil : it < s.heap.objs.size := by
      obtain ⟨o, q, _⟩ := hi.obj
      exact Heap.lt_size q
    refine wpAny_pyNext_enum_itemD (drawsB (A := X.A.in1) b (I.ok.hd hc) it a hia its.toArray) he ⟨hi, p⟩ lt hne (by simp [hne, hea]) fun x1 g tk hx1 ho st1 hT hsz kp => ?_
    have ex : x1 = u := by
      have : some u = some x1 := by rw [← hu]; simpa using hx1
      exact (Option.some.inj this).symm
    subst ex
    refine ⟨_, rfl, wpAny_letOwnedTupleGo_enum (s := { s with heap := g, toks := tk + 1 }) ho fun g2 he2 sb => ?_⟩
    have hT2 : g2.get? s.heap.objs.size = some { cls := .type "tuple", data := .seq #[.int i tk, x1] } := (sb.2 _ (Nat.ne_of_gt hel)).trans hT
    have nw : ObjOk X.prog X.w (upd H s.heap.objs.size (.frz { cls := .type "tuple", data := .seq #[.int i tk, x1] } (.tup [.int (i : Nat), x]))) g2 s.heap.objs.size (.frz { cls := .type "tuple", data := .seq #[.int i tk, x1] } (.tup [.int (i : Nat), x])) := by
      refine ⟨hT2, by show 2 ≤ sizeLine; decide, [.int i tk, x1], ?_, ⟨_, hT2, rfl, _, rfl⟩⟩
      exact .cons ⟨_, rfl⟩ (.cons ru .nil)
    have I1 : Inv X pins σ (upd H s.heap.objs.size (.frz { cls := .type "tuple", data := .seq #[.int i tk, x1] } (.tup [.int (i : Nat), x]))) { s with heap := g2, toks := tk + 1 } :=
      I.turnedNew (ch := [e, it]) (fun c o hb q => (sb.2 c fun z => hb (by simp [z])).trans (kp c o (fun z => hb (by simp [z])) (fun z => hb (by simp [z])) q)) hf (Nat.le_refl _) nw
    refine ⟨.ref s.heap.objs.size, _, I1, rfl, ⟨_, x, _, rfl, I.hok.fresh (Nat.le_refl _), ⟨rfl, rfl⟩, rfl, fun ys hy => by rw [seqB_inj I hy hq]; exact hx⟩, ⟨⟨x1, ?_⟩, st1.1.at fun o q => (sb.2 it hne.symm).trans q, hne⟩, fun c hc => ?_⟩
    · have e1 : ((i + 1 : Nat) : Int) = (i : Int) + 1 := by omega
      rw [e1]
      exact he2
    · have : c < s.heap.objs.size := by
        rcases List.mem_cons.mp hc with z | z
        · rw [z]; exact hel
        · rw [show c = it by simpa using z]; exact hil
      rw [upd_ne (Nat.ne_of_lt this)]
      exact (hf c hc).1
  done := by
    intro X eP ew eK hc i pins s σ H E I hf st hg
    subst eP ew eK
    obtain ⟨⟨old, he⟩, hi, hne⟩ := st
    obtain ⟨xs, hq, hx⟩ := hg
    obtain ⟨its, rv, p, _⟩ := seqB I hq
    obtain ⟨f0, f1, f2, f3, f4, f5⟩ := hf it (by simp)
    have hl : its.toArray.size = i := by rw [List.size_toArray, ← rv.length, hx]
    exact wpAny_pyNext_enum_endD (drawsB (A := X.A.in1) b (I.ok.hd hc) it a hia its.toArray) he (by rw [hl]; exact ⟨hi, p⟩) fun g eb => ⟨rfl, I.turned (t' := s.toks) (fun c o hb q => eb c o hb q) f0 f1 f3 f4 f5⟩
  self := fun A i s Q E st h => by
    obtain ⟨⟨_, he⟩, _⟩ := st
    exact wpAny_pyIter_enum he h
def iEnumB (K : PySem.W.Frag) (ta : TA) : TI := fun σ H R => ta σ H fun vs H1 => ∃ b a xs, vs = [.ref a] ∧ SqB K b H1 a xs ∧ R (IteB K b a) H1
theorem pi_enumB {X : Cx} {e : Expr} {ta : TA} {p pos tp : Pos} {elts : List Expr} {kk : Nat} (hg : Gl X "enumerate") (hm : X.mg "enumerate" = none) (ha : PA X [e] ta) (hs : starEach [e] X.env = [(false, eval e X.env)] := by rfl) :
    PI X (.Tuple elts kk tp) (.Call (.Name "enumerate" p) [e] [] pos) (iEnumB X.K ta) := by
  constructor
  intro pins s σ H R I h
  refine Call_ (ld_blt I hg hm boot_enumerate (PyProof.Rows.callWith_type1 (thn (ha.run pos pins s σ H _ I h) fun us s1 q => ?_) hs rfl))
  obtain ⟨vs, H1, I1, r1, b, a, xs, rfl, hq, k⟩ := q
  cases r1 with
  | cons r rr =>
    cases rr
    cases r
    obtain ⟨its, rv, p', al⟩ := seqB I1 hq
    refine enum1 (beginsB b a its.toArray) p' fun g he hi kp => wpAny_pyIter_enum he ?_
    have I2 : Inv X pins σ H1 { s1 with heap := g } := I1.kept (t' := s1.toks) kp
    refine ⟨s1.heap.objs.size + 1, [s1.heap.objs.size + 1, s1.heap.objs.size], _, _, H1, rfl, I2, turnE b a (s1.heap.objs.size + 1) s1.heap.objs.size (Nat.ne_of_gt (Nat.lt_succ_of_lt al)) (Nat.ne_of_lt al), ⟨⟨.none, he⟩, itB_new hi, Nat.succ_ne_self _⟩, fun c hc => ?_, k⟩
    have hle : s1.heap.objs.size ≤ c := by
      rcases List.mem_cons.mp hc with z | z
      · exact Nat.le_of_lt (Nat.lt_of_lt_of_eq (Nat.lt_succ_self _) z.symm)
      · exact Nat.le_of_eq (List.mem_singleton.mp z).symm
    exact I1.fpOk hle (I1.hok.fresh hle)
def ItzB (K : PySem.W.Frag) (b1 b2 : Bool) (a1 a2 : Addr) : It :=
  ⟨fun i H => ∃ (xs ys : List V) (x y : V), SqB K b1 H a1 xs ∧ SqB K b2 H a2 ys ∧ xs[i]? = some x ∧ ys[i]? = some y,
    fun i H v H' => ∃ T x y o, v = .ref T ∧ H T = none ∧ DL.PlainT o ∧ H' = upd H T (.frz o (.tup [x, y])) ∧ (∀ xs, SqB K b1 H a1 xs → xs[i]? = some x) ∧ ∀ ys, SqB K b2 H a2 ys → ys[i]? = some y,
    fun i H => ∃ xs ys : List V, SqB K b1 H a1 xs ∧ SqB K b2 H a2 ys ∧ i ≤ xs.length ∧ i ≤ ys.length ∧ (i = xs.length ∨ i = ys.length)⟩
theorem sep5 {n a1 a2 : Nat} (h1 : a1 < n) (h2 : a2 < n) : ZipSep2 (n + 4) (n + 2) (n + 3) n (n + 1) [n, a1] [n + 1, a2] := by
  constructor <;> first
    | (show ¬ @Eq Nat _ _; omega)
    | (show ¬ @Membership.mem Nat (List Nat) _ _ _; simp; omega)
    | (show @Membership.mem Nat (List Nat) _ _ _; simp)
theorem mem5 {n c : Nat} (h : c ∈ [n + 4, n + 2, n + 3, n, n + 1]) : n ≤ c := by
  simp only [List.mem_cons, List.not_mem_nil, or_false] at h
  omega
theorem turnZ {P : Program} {w : World} {K : PySem.W.Frag} {elts : List Expr} {kk : Nat} {tp : Pos} (b1 b2 : Bool) {a1 a2 z TI TO i1 i2 : Addr} (S : ZipSep2 z TI TO i1 i2 [i1, a1] [i2, a2]) (n1 : a1 ≠ i1) (n2 : a2 ≠ i2) :
    Turn P w K (.Tuple elts kk tp) (ItzB K b1 b2 a1 a2) [z, TI, TO, i1, i2] z (fun i h => IsZip h z TI TO .none ∧ IsTupOf2 h TI (.ref i1) (.ref i2) ∧ (∃ x y, IsTupOf2 h TO x y) ∧ ItB b1 h i1 a1 i ∧ ItB b2 h i2 a2 i) where
  mem := List.mem_cons_self ..
  obj := fun i h st c hc => by
    obtain ⟨hz, hTI, ⟨x, y, hTO⟩, h1, h2⟩ := st
    simp only [List.mem_cons, List.not_mem_nil, or_false] at hc
    rcases hc with q | q | q | q | q
    · subst q; exact ⟨_, hz, fun v q => nomatch q⟩
    · subst q; exact ⟨_, hTI, fun v q => nomatch q⟩
    · subst q; exact ⟨_, hTO, fun v q => nomatch q⟩
    · subst q; exact h1.obj
    · subst q; exact h2.obj
  keep := fun i h h' ⟨hz, hTI, ⟨x, y, hTO⟩, h1, h2⟩ k => ⟨k z (by simp) _ hz, k TI (by simp) _ hTI, ⟨x, y, k TO (by simp) _ hTO⟩, h1.at fun o q => k i1 (by simp) o q, h2.at fun o q => k i2 (by simp) o q⟩
  item := by
    intro X eP ew eK hc i pins s σ H E I hf st hg
    subst eP ew eK
    obtain ⟨hz, hTI, ⟨x0, y0, hTO⟩, h1, h2⟩ := st
    obtain ⟨xs, ys, x, y, hqx, hqy, hx, hy⟩ := hg
    obtain ⟨its, rv, p, _⟩ := seqB I hqx
    obtain ⟨its2, rv2, p2, _⟩ := seqB I hqy
    obtain ⟨u, hu, ru⟩ := rv.get hx
    obtain ⟨u2, hu2, ru2⟩ := rv2.get hy
    have l1 : i < its.toArray.size := by simpa using (List.getElem?_eq_some_iff.mp hu).1
    have l2 : i < its2.toArray.size := by simpa using (List.getElem?_eq_some_iff.mp hu2).1
    have hzl : z < s.heap.objs.size := Heap.lt_size hz
    have m1 : i1 < s.heap.objs.size := by
      obtain ⟨o, q, _⟩ := h1.obj
      exact Heap.lt_size q
    have m2 : i2 < s.heap.objs.size := by
      obtain ⟨o, q, _⟩ := h2.obj
      exact Heap.lt_size q
    refine wpAny_pyNext_zipD2_item S (drawsB (A := X.A.in1) b1 (I.ok.hd hc) i1 a1 n1 its.toArray) (drawsB (A := X.A.in1) b2 (I.ok.hd hc) i2 a2 n2 its2.toArray) hz hTI hTO ⟨h1, p⟩ ⟨h2, p2⟩ l1 l2
      fun x1 x2 g tk e1 e2 z' TO' st1 st2 hT hsz kp => ?_
    have ex1 : x1 = u := (Option.some.inj (show some u = some x1 by rw [← hu]; simpa using e1)).symm
    have ex2 : x2 = u2 := (Option.some.inj (show some u2 = some x2 by rw [← hu2]; simpa using e2)).symm
    subst ex1 ex2
    refine ⟨_, rfl, wpAny_letOwnedTupleGo_zip (s := { s with heap := g, toks := tk }) z' fun g2 z2 sb => ?_⟩
    have hT2 : g2.get? s.heap.objs.size = some { cls := .type "tuple", data := .seq #[x1, x2] } := (sb.2 _ (Nat.ne_of_gt hzl)).trans hT
    have nw : ObjOk X.prog X.w (upd H s.heap.objs.size (.frz { cls := .type "tuple", data := .seq #[x1, x2] } (.tup [x, y]))) g2 s.heap.objs.size (.frz { cls := .type "tuple", data := .seq #[x1, x2] } (.tup [x, y])) := by
      refine ⟨hT2, by show 2 ≤ sizeLine; decide, [x1, x2], ?_, ⟨_, hT2, rfl, _, rfl⟩⟩
      exact .cons ru (.cons ru2 .nil)
    have I1 : Inv X pins σ (upd H s.heap.objs.size (.frz { cls := .type "tuple", data := .seq #[x1, x2] } (.tup [x, y]))) { s with heap := g2, toks := tk } :=
      I.turnedNew (t' := tk) (ch := [z, TI, TO, i1, i2]) (fun c o hb q => (sb.2 c fun q' => hb (by simp [q'])).trans (kp c o (fun q' => hb (by simp [q'])) (fun q' => hb (by simp [q'])) (fun q' => hb (by simp [q'])) (fun q' => hb (by simp [q'])) q)) hf (Nat.le_refl _) nw
    refine ⟨.ref s.heap.objs.size, _, I1, rfl, ⟨_, x, y, _, rfl, I.hok.fresh (Nat.le_refl _), ⟨rfl, rfl⟩, rfl, fun l hl => by rw [seqB_inj I hl hqx]; exact hx, fun l hl => by rw [seqB_inj I hl hqy]; exact hy⟩, ⟨z2, ?_, ⟨x1, x2, ?_⟩, ?_, ?_⟩, fun c hcm => ?_⟩
    · exact (sb.2 _ S.TIz).trans (kp _ _ S.TIz S.TITO S.TIi1 S.TIi2 hTI)
    · exact (sb.2 _ S.TOz).trans TO'
    · exact st1.1.at fun o q => (sb.2 _ S.zi1.symm).trans q
    · exact st2.1.at fun o q => (sb.2 _ S.zi2.symm).trans q
    · have : c < s.heap.objs.size := by
        have hcm' := hcm
        simp only [List.mem_cons, List.not_mem_nil, or_false] at hcm'
        rcases hcm' with q | q | q | q | q
        · rw [q]; exact hzl
        · rw [q]; exact Heap.lt_size hTI
        · rw [q]; exact Heap.lt_size hTO
        · rw [q]; exact m1
        · rw [q]; exact m2
      rw [upd_ne (Nat.ne_of_lt this)]
      exact (hf c hcm).1
  done := by
    intro X eP ew eK hc i pins s σ H E I hf st hg
    subst eP ew eK
    obtain ⟨hz, hTI, ⟨x0, y0, hTO⟩, h1, h2⟩ := st
    obtain ⟨xs, ys, hqx, hqy, hl1, hl2, hend⟩ := hg
    obtain ⟨its, rv, p, _⟩ := seqB I hqx
    obtain ⟨its2, rv2, p2, _⟩ := seqB I hqy
    have s1 : its.toArray.size = xs.length := by rw [List.size_toArray, ← rv.length]
    have s2 : its2.toArray.size = ys.length := by rw [List.size_toArray, ← rv2.length]
    exact wpAny_pyNext_zipD2_end S (drawsB (A := X.A.in1) b1 (I.ok.hd hc) i1 a1 n1 its.toArray) (drawsB (A := X.A.in1) b2 (I.ok.hd hc) i2 a2 n2 its2.toArray) hz hTI hTO ⟨h1, p⟩ ⟨h2, p2⟩ (by rw [s1]; exact hl1) (by rw [s2]; exact hl2) (by rw [s1, s2]; exact hend)
      fun g tk kp => ⟨rfl, I.turnedL (t' := tk) (ch := [z, TI, TO, i1, i2]) (fun c o hb q => kp c o (fun q' => hb (by simp [q'])) (fun q' => hb (by simp [q'])) (fun q' => hb (by simp [q'])) (fun q' => hb (by simp [q'])) q) hf⟩
  self := fun A i s Q E st h => wpAny_pyIter_zip st.1 h
def iZipB (K : PySem.W.Frag) (ta : TA) : TI := fun σ H R => ta σ H fun vs H1 => ∃ b1 b2 a1 a2 xs ys, vs = [.ref a1, .ref a2] ∧ SqB K b1 H1 a1 xs ∧ SqB K b2 H1 a2 ys ∧ R (ItzB K b1 b2 a1 a2) H1
theorem pi_zipB {X : Cx} {e e2 : Expr} {ta : TA} {p pos tp : Pos} {elts : List Expr} {kk : Nat} (hg : Gl X "zip") (hm : X.mg "zip" = none) (ha : PA X [e, e2] ta)
    (hs : starEach [e, e2] X.env = (false, eval e X.env) :: starEach [e2] X.env := by rfl) (hpl : (backTo pos (starEach [e2] X.env)).any (·.1) = false := by rfl) :
    PI X (.Tuple elts kk tp) (.Call (.Name "zip" p) [e, e2] [] pos) (iZipB X.K ta) := by
  constructor
  intro pins s σ H R I h
  refine Call_ (ld_blt I hg hm PyProof.Rows.boot_zip (PyProof.Rows.callWith_type1 (thn (ha.run pos pins s σ H _ I h) fun us s1 q => ?_) hs hpl))
  obtain ⟨vs, H1, I1, r1, b1, b2, a1, a2, xs, ys, rfl, hqx, hqy, k⟩ := q
  cases r1 with
  | cons r rr =>
    cases rr with
    | cons r' rr =>
      cases rr
      cases r
      cases r'
      obtain ⟨its, rv, p1, la⟩ := seqB I1 hqx
      obtain ⟨its2, rv2, p2, lb⟩ := seqB I1 hqy
      refine zip_begins2 (beginsB b1 a1 its.toArray) (beginsB b2 a2 its2.toArray) p1 p2 fun g hz hTI hTO h1 h2 hsz kp => wpAny_pyIter_zip hz ?_
      have I2 : Inv X pins σ H1 { s1 with heap := g } := I1.kept (t' := s1.toks) kp
      have S : ZipSep2 (s1.heap.objs.size + 4) (s1.heap.objs.size + 2) (s1.heap.objs.size + 3) s1.heap.objs.size (s1.heap.objs.size + 1) [s1.heap.objs.size, a1] [s1.heap.objs.size + 1, a2] := sep5 la lb
      refine ⟨s1.heap.objs.size + 4, [s1.heap.objs.size + 4, s1.heap.objs.size + 2, s1.heap.objs.size + 3, s1.heap.objs.size, s1.heap.objs.size + 1], _, _, H1, rfl, I2, turnZ b1 b2 S (Nat.ne_of_lt la) (Nat.ne_of_lt (Nat.lt_succ_of_lt lb)), ⟨hz, hTI, ⟨_, _, hTO⟩, itB_new h1, itB_new h2⟩, fun c hcm => ?_, k⟩
      have hle : s1.heap.objs.size ≤ c := mem5 hcm
      exact I1.fpOk hle (I1.hok.fresh hle)
end ZE
set_option maxHeartbeats 1000000
noncomputable section
namespace DL
open PySem PySem.Spec PyProof.Rows L2 ZE
def itemsOf : PyData → Option (List PyData)
  | .list ds => some ds
  | .tuple ds => some ds
  | _ => none
def isLst : PyData → Bool
  | .list _ => true
  | _ => false
def zipD (xs ys : List PyData) : List PyData := List.zipWith (fun a b => .tuple [a, b]) xs ys
def enumD (xs : List PyData) : List PyData := xs.mapIdx fun i d => .tuple [.int i, d]
def zipI (t : AD) : ID := fun ρ => (t ρ).bind fun p => (psAll p.2 p.1).bind fun q => match q.1 with
  | [x, y] => (itemsOf x).bind fun xs => (itemsOf y).map fun ys => (zipD xs ys, q.2)
  | _ => none
def enumI (t : AD) : ID := fun ρ => (t ρ).bind fun p => (psAll p.2 p.1).bind fun q => match q.1 with
  | [x] => (itemsOf x).map fun xs => (enumD xs, q.2)
  | _ => none
section
variable {K : Fg} {P B L : List Addr} {σ : L2.St} {ρ : DL.Env} {H : Hp} {W : List Addr}
theorem dq_ref {v : V} {d : PyData} {ds : List PyData} (h : Dq K H W v d) (e : itemsOf d = some ds) : ∃ a, v = V.ref a := by
  cases h <;> first | exact ⟨_, rfl⟩ | cases e
theorem dq_items {a : Addr} {d : PyData} {ds : List PyData} (h : Dq K H W (.ref a) d) (e : itemsOf d = some ds) : ∃ vs, SqB K (isLst d) H a vs ∧ DqA K H W vs ds := by
  cases h with
  | lst h1 h2 h3 => cases e; exact ⟨_, .of h2, h3⟩
  | tup h2 h3 => cases e; exact ⟨_, h2.sq, h3⟩
  | dic h1 h2 h3 => cases e
theorem walks_z {a b : Addr} {dx dy : PyData} {xs ys : List PyData} (R : Rep K P B L σ ρ H) (h1 : Dq K H (P ++ B ++ L) (.ref a) dx) (h2 : Dq K H (P ++ B ++ L) (.ref b) dy) (e1 : itemsOf dx = some xs) (e2 : itemsOf dy = some ys) :
    WalksA K P B L H (ItzB K (isLst dx) (isLst dy) a b) (zipD xs ys) := fun H2 L2 E s he => by
  obtain ⟨vs, q1, d1⟩ := dq_items (Dq.stepA R s he h1) e1
  obtain ⟨ws, q2, d2⟩ := dq_items (Dq.stepA R s he h2) e2
  have l1 := d1.length
  have l2 := d2.length
  refine ⟨fun i d hd => ?_, ⟨vs, ws, q1, q2, ?_, ?_, ?_⟩⟩
  · unfold zipD at hd
    rw [List.getElem?_zipWith] at hd
    split at hd
    · rename_i x y hx hy
      cases hd
      obtain ⟨v, hv, dv⟩ := d1.get hx
      obtain ⟨w, hw, dw⟩ := d2.get hy
      refine ⟨⟨vs, ws, v, w, q1, q2, hv, hw⟩, fun z H3 hz => ?_⟩
      obtain ⟨T, v', w', ob, rfl, hT, po, rfl, f1, f2⟩ := hz
      have ev := (f1 vs q1).symm.trans hv
      have ew := (f2 ws q2).symm.trans hw
      cases ev
      cases ew
      have kp : Keep [] H2 (upd H2 T (.frz ob (.tup [v, w]))) := Keep.new hT
      refine ⟨kp, .tup ⟨ob, upd_same, po⟩ (.cons (dv.move lists_nil (fun _ z => nomatch z) kp fun _ z => .inl z) (.cons (dw.move lists_nil (fun _ z => nomatch z) kp fun _ z => .inl z) .nil))⟩
    · cases hd
  all_goals
    unfold zipD
    rw [List.length_zipWith]
    omega
theorem walks_e {a : Addr} {dx : PyData} {xs : List PyData} (R : Rep K P B L σ ρ H) (h1 : Dq K H (P ++ B ++ L) (.ref a) dx) (e1 : itemsOf dx = some xs) :
    WalksA K P B L H (IteB K (isLst dx) a) (enumD xs) := fun H2 L2 E s he => by
  obtain ⟨vs, q1, d1⟩ := dq_items (Dq.stepA R s he h1) e1
  have l1 := d1.length
  refine ⟨fun i d hd => ?_, ⟨vs, q1, ?_⟩⟩
  · unfold enumD at hd
    rw [List.getElem?_mapIdx] at hd
    obtain ⟨x, hx, rfl⟩ := Option.map_eq_some_iff.mp hd
    obtain ⟨v, hv, dv⟩ := d1.get hx
    refine ⟨⟨vs, v, q1, hv⟩, fun z H3 hz => ?_⟩
    obtain ⟨T, v', ob, rfl, hT, po, rfl, f1⟩ := hz
    have ev := (f1 vs q1).symm.trans hv
    cases ev
    have kp : Keep [] H2 (upd H2 T (.frz ob (.tup [.int (i : Nat), v]))) := Keep.new hT
    exact ⟨kp, .tup ⟨ob, upd_same, po⟩ (.cons (.int _) (.cons (dv.move lists_nil (fun _ z => nomatch z) kp fun _ z => .inl z) .nil))⟩
  · unfold enumD
    rw [List.length_mapIdx, l1]
end
section
variable {X : Cx} {tl : TL} {tgE : Expr} {a b : Expr} {t : AD} {pos p tp : Pos} {elts : List Expr} {kk : Nat}
theorem i_zip (hg : Gl X "zip") (hm : X.mg "zip" = none) (ha : PA X [a, b] (RA (X.D tl) t)) (hs : starEach [a, b] X.env = (false, eval a X.env) :: starEach [b] X.env := by rfl) (hpl : (backTo pos (starEach [b] X.env)).any (·.1) = false := by rfl) :
    PI X (.Tuple elts kk tp) (.Call (.Name "zip" p) [a, b] [] pos) (RI (X.D tl) (zipI t)) := (pi_zipB hg hm ha hs hpl).imp fun σ H R h => by
  obtain ⟨P, B, L, ρ, ds, ρ', R0, e, k⟩ := h
  obtain ⟨⟨rs, ρ1⟩, e1, e⟩ := Option.bind_eq_some_iff.mp e
  obtain ⟨⟨es, ρ2⟩, e2, e⟩ := Option.bind_eq_some_iff.mp e
  refine ⟨P, B, L, ρ, rs, ρ1, R0, e1, fun xs H1 La Ea p1 v1 => ?_⟩
  obtain ⟨E', L', R', dq, he, hl⟩ := psAll_of p1.rep v1 e2
  simp only at e
  split at e
  · rename_i x y
    obtain ⟨us, e3, e⟩ := Option.bind_eq_some_iff.mp e
    obtain ⟨ws, e4, e⟩ := Option.map_eq_some_iff.mp e
    cases e
    cases dq with
    | cons d1 dq =>
      cases dq with
      | cons d2 dq =>
        cases dq
        obtain ⟨a1, rfl⟩ := dq_ref d1 e3
        obtain ⟨a2, rfl⟩ := dq_ref d2 e4
        obtain ⟨vs, q1, _⟩ := dq_items d1 e3
        obtain ⟨ws', q2, _⟩ := dq_items d2 e4
        exact ⟨_, _, a1, a2, vs, ws', rfl, q1, q2, k _ H1 L' E' (p1.then (Post.less R' he hl)) (walks_z R' d1 d2 e3 e4)⟩
  · cases e
theorem i_enum (hg : Gl X "enumerate") (hm : X.mg "enumerate" = none) (ha : PA X [a] (RA (X.D tl) t)) (hs : starEach [a] X.env = [(false, eval a X.env)] := by rfl) :
    PI X (.Tuple elts kk tp) (.Call (.Name "enumerate" p) [a] [] pos) (RI (X.D tl) (enumI t)) := (pi_enumB hg hm ha hs).imp fun σ H R h => by
  obtain ⟨P, B, L, ρ, ds, ρ', R0, e, k⟩ := h
  obtain ⟨⟨rs, ρ1⟩, e1, e⟩ := Option.bind_eq_some_iff.mp e
  obtain ⟨⟨es, ρ2⟩, e2, e⟩ := Option.bind_eq_some_iff.mp e
  refine ⟨P, B, L, ρ, rs, ρ1, R0, e1, fun xs H1 La Ea p1 v1 => ?_⟩
  obtain ⟨E', L', R', dq, he, hl⟩ := psAll_of p1.rep v1 e2
  simp only at e
  split at e
  · rename_i x
    obtain ⟨us, e3, e⟩ := Option.map_eq_some_iff.mp e
    cases e
    cases dq with
    | cons d1 dq =>
      cases dq
      obtain ⟨a1, rfl⟩ := dq_ref d1 e3
      obtain ⟨vs, q1, _⟩ := dq_items d1 e3
      exact ⟨_, a1, vs, rfl, q1, k _ H1 L' E' (p1.then (Post.less R' he hl)) (walks_e R' d1 e3)⟩
  · cases e
end
structure Blt (mg : Str → Option Value) : Prop where
  len : mg "len" = none
  range : mg "range" = none
  max : mg "max" = none
  min : mg "min" = none
  int : mg "int" = none
  abs : mg "abs" = none
  list : mg "list" = none
  tuple : mg "tuple" = none
  repr : mg "repr" = none
  any : mg "any" = none
  all : mg "all" = none
  zip : mg "zip" = none
  enumerate : mg "enumerate" = none
  sum : mg "sum" = none
  sorted : mg "sorted" = none
  set : mg "set" = none
  isinstance : mg "isinstance" = none
  str : mg "str" = none
  bool : mg "bool" = none
  dict : mg "dict" = none
  reversed : mg "reversed" = none
def Ok (P : Program) (w : World) (K : Fg) (mg : Str → Option Value) (base : Heap) (k : Nat) (x : Str) (ps : List Str) (sp : Sp) : Prop :=
  ∃ f fd, FnG P w K mg base CX0 k f fd ps sp ∧ mg x = some (.ref f) ∧ PySem.W.keepIn K (.ref f) = true ∧ Binds K fd ps []
structure Def (K : Fg) (mg : Str → Option Value) (x : Str) (st : Stmt) (ps : List Str) : Prop where
  ex : ∃ f fd, Fun K x x st f fd ∧ mg x = some (.ref f) ∧ PySem.W.keepIn K (.ref f) = true ∧ Binds K fd ps []
section
variable {P : Program} {w : World} {K : Fg} {mg : Str → Option Value} {base : Heap}
theorem Ok.pure {x : Str} {st : Stmt} {N ps : List Str} {k n : Nat} {g : SD} (D : Def K mg x st ps) (S : FnScope N ps (defScope st)) (hn : ps.length = n) (hN : n ≤ N.length)
    (hb : ∀ (f : Addr) (cdv : Value) (A : Around) (outer : List PySem.Env) (s : Shared) (H : Hp) (E : XK), (A.deeper (envOfC x (defScope st) s.heap.objs.size f cdv)).guards = some [] → Room k (A.deeper (envOfC x (defScope st) s.heap.objs.size f cdv)) →
      PSs (cxOf CX0 P w K mg base N x (defScope st) f cdv A outer s H E).nox (defBody st) (RS K g)) : Ok P w K mg base (k + 1) x ps (spP K n (runP N.length g)) := by
  obtain ⟨f, fd, F, h1, h2, h3⟩ := D.ex
  exact ⟨f, fd, FnG.pure F S hn hN (hb f), h1, h2, h3⟩
theorem Ok.mut {x : Str} {st : Stmt} {N ps : List Str} {k n : Nat} {g : SD} (D : Def K mg x st ps) (S : FnScope N ps (defScope st)) (hn : ps.length = n + 1) (hN : n + 1 ≤ N.length)
    (hb : ∀ (f : Addr) (cdv : Value) (A : Around) (outer : List PySem.Env) (s : Shared) (H : Hp) (E : XK), (A.deeper (envOfC x (defScope st) s.heap.objs.size f cdv)).guards = some [] → Room k (A.deeper (envOfC x (defScope st) s.heap.objs.size f cdv)) →
      PSs (cxOf CX0 P w K mg base N x (defScope st) f cdv A outer s H E).nox (defBody st) (RS K g)) : Ok P w K mg base (k + 1) x ps (spM K n (runM N.length g)) := by
  obtain ⟨f, fd, F, h1, h2, h3⟩ := D.ex
  exact ⟨f, fd, FnG.mut F S hn hN (hb f), h1, h2, h3⟩
end
section
variable {X : Cx} {tl : TL} {k n : Nat} {ps : List Str} {x y : Str} {p pos py : Pos} {e : Expr} {es : List Expr} {t : AD}
theorem e_P {F : FP} (O : Ok X.prog X.w (X.D tl) X.mg X.base k x ps (spP (X.D tl) n F)) (hA : X.A.guards = some []) (hr : Room k X.A) (ha : PA X (e :: es) (RA (X.D tl) t)) (hg : Gl X x := by rfl)
    (hdb : (x == ("__debug__" : Str)) = false := by decide) (he : starEach (e :: es) X.env = (false, eval e X.env) :: starEach es X.env := by rfl) (hpl : (backTo pos (starEach es X.env)).any (·.1) = false := by rfl) :
    PE X (.Call (.Name x p) (e :: es) [] pos) (RD (X.D tl) (callP n F t)) := by
  obtain ⟨f, fd, G, h1, h2, h3⟩ := O
  exact d_callP G hA hr h1 h2 h3 ha hg hdb he hpl
theorem e_M {F : FM} (j : Nat) (O : Ok X.prog X.w (X.D tl) X.mg X.base k x ps (spM (X.D tl) n F)) (hA : X.A.guards = some []) (hr : Room k X.A) (ha : PA X es (RA (X.D tl) t)) (hg : Gl X x := by rfl)
    (hN : X.N[j]? = some y := by rfl) (hv : Vis X.env.scope y := by first | exact Or.inl rfl | exact Or.inr (Or.inl rfl) | exact Or.inr (Or.inr rfl)) (hd : (y == ("__debug__" : Str)) = false := by decide) (hcd : (y == ("__classdict__" : Str)) = false := by decide)
    (hdb : (x == ("__debug__" : Str)) = false := by decide) (he : starEach ((.Name y py) :: es) X.env = (false, eval (.Name y py) X.env) :: starEach es X.env := by rfl) (hpl : (backTo pos (starEach es X.env)).any (·.1) = false := by rfl) :
    PE X (.Call (.Name x p) ((.Name y py) :: es) [] pos) (RD (X.D tl) (callM j n F t)) := by
  obtain ⟨f, fd, G, h1, h2, h3⟩ := O
  exact d_callM j G hA hr h1 h2 h3 ha hg hN hv hd hcd hdb he hpl
end
end DL
end
set_option maxHeartbeats 1000000
noncomputable section
namespace DL
open PySem PySem.Spec PyProof.Rows L2
theorem hu64 {k : Nat} {A : Around} (hr : Room k A) : A.units + 64 < cLine := by
  have := hr.un
  omega
section
variable {X : Cx} {tl : TL} {pos : Pos}
theorem h_name (i : Nat) {x : Str} (hN : X.N.Nodup) (hi : X.N[i]? = some x := by rfl) (hx : Loc X.env.scope x := by first | exact Or.inl rfl | exact Or.inr rfl) (hf : X.fn x = true ∨ X.env.scope.names.lookup x = some .local := by first | exact .inl rfl | exact .inr rfl) : PG X (.Name x pos) (gName i) :=
  pg_name hN hi hx hf
end
def eqQ (neg : Bool) : DL.Env → Val → Val → Option (Val × DL.Env) := fun ρ a b => match a, b with
  | .cl (.str x), .cl (.str y) => some (.cl (.bool (neg ^^ decide (x = y))), ρ)
  | _, _ => eqG neg ρ a b
theorem dec_str {x y : Str} : decide (V.str x = V.str y) = decide (x = y) := by
  by_cases h : x = y
  · subst h; simp
  · rw [decide_eq_false h, decide_eq_false fun z => h (by injection z)]
theorem loc_eqQ {K : Fg} : Loc2 K (fun x y H Q => rEqD K x y H Q ∨ rEq x y H Q) (eqQ false) := by
  intro E P B L σ ρ ρ' H x y r1 r2 r Q R0 v1 v2 e c
  unfold eqQ at e
  split at e
  · rename_i a b
    cases e
    have e1 := v1.str
    have e2 := v2.str
    subst e1 e2
    refine .inr ⟨rfl, ?_⟩
    rw [dec_str]
    rw [Bool.false_xor] at c
    exact c.here R0 (show VR K E P B L σ H _ (.cl (.bool _)) from Dq.bl _)
  · exact .inl (loc_eq R0 v1 v2 e c)
theorem loc_neQ {K : Fg} : Loc2 K (fun x y H Q => rNeD K x y H Q ∨ rNe x y H Q) (eqQ true) := by
  intro E P B L σ ρ ρ' H x y r1 r2 r Q R0 v1 v2 e c
  unfold eqQ at e
  split at e
  · rename_i a b
    cases e
    have e1 := v1.str
    have e2 := v2.str
    subst e1 e2
    refine .inr ⟨rfl, ?_⟩
    rw [dec_str]
    rw [Bool.true_xor] at c
    exact c.here R0 (show VR K E P B L σ H _ (.cl (.bool _)) from Dq.bl _)
  · exact .inl (loc_ne R0 v1 v2 e c)
theorem op_eqQ {X : Cx} {tl : TL} (hu : X.A.units + 64 < cLine) : OpR X (compareOp .Eq) (fun x y H Q => rEqD (X.D tl) x y H Q ∨ rEq x y H Q) := (op_eqD hu).or op_eq
theorem op_neQ {X : Cx} {tl : TL} (hu : X.A.units + 64 < cLine) : OpR X (compareOp .NotEq) (fun x y H Q => rNeD (X.D tl) x y H Q ∨ rNe x y H Q) := (op_neD hu).or op_ne
section
variable {X : Cx} {tl : TL} {t : AD} {pos : Pos}
theorem s_par3 {i j l : Nat} {x y z : Str} {u v q : Expr} {px py pz pt : Pos} {kt k2 : Nat} {pt2 : Pos} (hc : X.calm = true) (hij : i ≠ j) (hil : i ≠ l) (hjl : j ≠ l) (hN : X.N.Nodup) (ha : PA X [u, v, q] (RA (X.D tl) t)) (hi : X.N[i]? = some x := by rfl) (hj : X.N[j]? = some y := by rfl) (hl : X.N[l]? = some z := by rfl)
    (hx : X.env.scope.names.lookup x = some .local := by rfl) (hy : X.env.scope.names.lookup y = some .local := by rfl) (hz : X.env.scope.names.lookup z = some .local := by rfl)
    (hw : swappedStores [.Tuple [.Name x px, .Name y py, .Name z pz] kt pt] (.Tuple [u, v, q] k2 pt2) X.env = pure (some [x, y, z]) := by rfl)
    (hs : swapsWithSole [.Tuple [.Name x px, .Name y py, .Name z pz] kt pt] (.Tuple [u, v, q] k2 pt2) pos.line X.env = pure false := by rfl) :
    PS X (.Assign [.Tuple [.Name x px, .Name y py, .Name z pz] kt pt] (.Tuple [u, v, q] k2 pt2) pos) (RS (X.D tl) (parS [i, j, l] t)) :=
  (ps_par3 hc hN hi hj hl hij hil hjl hx hy hz ha hw hs).imp fun D σ H h => by
    obtain ⟨P, B, L, ρ, rs, ρ', R0, e, k⟩ := par_core h
    refine ⟨P, B, L, ρ, rs, ρ', R0, e, fun xs H' L' E' p v => ?_⟩
    obtain ⟨q1, q2, q3⟩ := k xs H' L' E' p v
    match xs, q1 with
    | [v1, v2, v3], _ => exact ⟨v1, v2, v3, rfl, q3 H' keep_refl⟩
end
def rg1 (f : ED) (mk : List PyData → Val) : ED := fun ρ => (f ρ).bind fun p => match p.1 with
  | .cl (.int n) => if -lim ≤ n ∧ n ≤ lim then some (mk (rngD 0 n.toNat 1), p.2) else none
  | _ => none
def lstR1 (f : ED) : ED := rg1 f .own
def tupR1 (f : ED) : ED := rg1 f fun ds => .cl (.tuple ds)
theorem dq_rg {K : Fg} {H : Hp} {W : List Addr} (n : Int) : DqA K H W (rgV 0 n) (rngD 0 n.toNat 1) := by
  have go : ∀ l : List Nat, DqA K H W (l.map fun i => V.int (0 + (i : Nat))) (l.map fun (k : Nat) => PyData.int (0 + k * 1)) := fun l => by
    induction l with
    | nil => exact .nil
    | cons i l ih =>
      refine .cons ?_ ih
      show Dq K H W (V.int (0 + (i : Nat))) (.int (0 + (i : Int) * 1))
      rw [Int.mul_one]
      exact .int _
  unfold rgV rngD
  rw [show (n - 0).toNat = n.toNat by omega]
  exact go _
section
variable {X : Cx} {tl : TL} {a : Expr} {f : ED} {pos p p2 pos2 : Pos}
theorem rg1_of {mk : List PyData → Val} {ρ ρ' : DL.Env} {r : Val} (e : rg1 f mk ρ = some (r, ρ')) : ∃ n, f ρ = some (.cl (.int n), ρ') ∧ RgOk 0 n ∧ r = mk (rngD 0 n.toNat 1) := by
  obtain ⟨⟨r1, ρ1⟩, e1, e2⟩ := Option.bind_eq_some_iff.mp e
  simp only at e2
  split at e2
  · rename_i n
    split at e2
    · rename_i hz
      cases e2
      have hl := lim_eq
      exact ⟨n, e1, ⟨by omega, by omega, by omega, by omega, by omega⟩, rfl⟩
    · cases e2
  · cases e2
theorem d_lstR1 (hg : Gl X "list") (hm : X.mg "list" = none) (hg2 : Gl X "range") (hm2 : X.mg "range" = none) (hc : X.calm = true) (ha : PE X a (RD (X.D tl) f)) (na : starEach [a] X.env = (false, eval a X.env) :: starEach [] X.env := by rfl)
    (nb : starEach [.Call (.Name "range" p2) [a] [] pos2] X.env = (false, eval (.Call (.Name "range" p2) [a] [] pos2) X.env) :: starEach [] X.env := by rfl) :
    PE X (.Call (.Name "list" p) [.Call (.Name "range" p2) [a] [] pos2] [] pos) (RD (X.D tl) (lstR1 f)) :=
  (pe_listRg hc hg hm (prg_1 hg2 hm2 ha na) nb).imp fun σ H Q h => by
    obtain ⟨P, B, L, ρ, r, ρ', R0, e, k⟩ := h
    obtain ⟨n, e1, ok, rfl⟩ := rg1_of e
    exact ⟨P, B, L, ρ, _, ρ', R0, e1, fun x H1 La Ea p1 v1 => ⟨n, v1.int, ok, fun q hq => (k.after p1).lst p1.rep (dq_rg n) hq⟩⟩
theorem d_tupR1 (hg : Gl X "tuple") (hm : X.mg "tuple" = none) (hg2 : Gl X "range") (hm2 : X.mg "range" = none) (hc : X.calm = true) (ha : PE X a (RD (X.D tl) f)) (na : starEach [a] X.env = (false, eval a X.env) :: starEach [] X.env := by rfl)
    (nb : starEach [.Call (.Name "range" p2) [a] [] pos2] X.env = (false, eval (.Call (.Name "range" p2) [a] [] pos2) X.env) :: starEach [] X.env := by rfl) :
    PE X (.Call (.Name "tuple" p) [.Call (.Name "range" p2) [a] [] pos2] [] pos) (RD (X.D tl) (tupR1 f)) :=
  (pe_tupRgF hc hg hm (prg_1 hg2 hm2 ha na) nb).imp fun σ H Q h => by
    obtain ⟨P, B, L, ρ, r, ρ', R0, e, k⟩ := h
    obtain ⟨n, e1, ok, rfl⟩ := rg1_of e
    exact ⟨P, B, L, ρ, _, ρ', R0, e1, fun x H1 La Ea p1 v1 => ⟨n, v1.int, ok, fun q ob hq po => (k.after p1).tup p1.rep (dq_rg n) hq po⟩⟩
end
end DL
end
noncomputable section
namespace DL
open PySem PySem.Spec PyProof.Rows L2
def intsOf : List PyData → Option (List Int)
  | [] => some []
  | .int b :: ds => (intsOf ds).map (b :: ·)
  | _ => none
theorem ints_of {K : Fg} {H : Hp} {W : List Addr} : ∀ {vs : List V} {ds : List PyData} {bs : List Int}, DqA K H W vs ds → intsOf ds = some bs → vs = bs.map V.int ∧ ds = bs.map .int
  | _, [], bs, h, e => by cases h; cases e; exact ⟨rfl, rfl⟩
  | _, d :: ds, bs, h, e => by
    cases h with
    | cons h1 h2 =>
      cases d <;> simp [intsOf] at e
      obtain ⟨cs, e1, e2⟩ := e
      subst e2
      cases h1
      obtain ⟨q1, q2⟩ := ints_of h2 e1
      rw [q1, q2]; exact ⟨rfl, rfl⟩
theorem intsOf_map : ∀ (ns : List Int), intsOf (ns.map .int) = some ns
  | [] => rfl
  | n :: ns => by
    show (intsOf (ns.map .int)).map (n :: ·) = _
    rw [intsOf_map ns]; rfl
/-- a row of them, in a list or a tuple -/
def NumV (K : Fg) (H : Hp) (x : V) (ns : List Int) : Prop := ∃ a : Addr, x = .ref a ∧ (SqL K H a (ns.map V.int) ∨ SqT K H a (ns.map V.int))
theorem VR.nums {K : Fg} {E P B L : List Addr} {σ : L2.St} {ρ : DL.Env} {H : Hp} {x : V} {r : Val} {k : Bool} {ds : List PyData} {ns : List Int} (R0 : Rep K (E ++ P) B L σ ρ H) (v : VR K E P B L σ H x r) (e : seqOf ρ r = some (k, ds)) (e2 : intsOf ds = some ns) : NumV K H x ns := by
  cases k with
  | true =>
    obtain ⟨a, vs, rfl, h1, d1⟩ := v.list R0 e
    obtain ⟨rfl, _⟩ := ints_of d1 e2
    exact ⟨a, rfl, .inl (.of h1)⟩
  | false =>
    obtain ⟨a, vs, rfl, h1, d1⟩ := v.tuple e
    obtain ⟨rfl, _⟩ := ints_of d1 e2
    exact ⟨a, rfl, .inr h1.sq⟩
def sumG : DL.Env → Val → Option (Val × DL.Env) := fun ρ a => (seqOf ρ a).bind fun q => (intsOf q.2).map fun ns => (.cl (.int ns.sum), ρ)
def rSumA (K : Fg) : V → Hp → VK → Prop := fun x H Q => ∃ ns, NumV K H x ns ∧ Q (.int ns.sum) H
theorem loc_sum {K : Fg} : Loc1 K (rSumA K) sumG := by
  intro E P B L σ ρ ρ' H x r1 r Q R0 v1 e c
  obtain ⟨⟨k, ds⟩, e1, e2⟩ := Option.bind_eq_some_iff.mp e
  obtain ⟨ns, e3, e4⟩ := Option.map_eq_some_iff.mp e2
  cases e4
  exact ⟨ns, v1.nums R0 e1 e3, c.here R0 (show VR K E P B L σ H _ (.cl (.int _)) from Dq.int _)⟩
theorem tup_sum {X : Cx} {tl : TL} {pins : List (Addr × Obj)} {s : Shared} {σ : L2.St} {H : Hp} {Q : VK} {a : Addr} {ns : List Int} (hc : X.calm = true) (I : Inv X pins σ H s) (hs : SqT (X.D tl) H a (ns.map V.int)) (q : Q (.int ns.sum) H) :
    wpAny (model X.prog X.w) X.A (call (.builtin "sum") [.ref a]) (EP X pins σ Q) X.xe s := by
  obtain ⟨its, rv, hl, _⟩ := I.tuple hs
  have hi := rv.ints
  obtain ⟨xs, hx⟩ := hi.allInts.items
  have hn : numsOf its.toArray.toList = ns := by rw [show its.toArray.toList = its from rfl, hi.numsOf]
  have hl2 : s.heap.IsTuple a (intItems xs) := by rw [← hx]; exact hl
  rw [hx, nums_intItems] at hn
  refine PySem.W.ktm_sumG (I.ok.hd hc) hl2 fun h' tk t' hk => ?_
  rw [preSum_eq, List.take_of_length_le (by simp), hn]
  exact ⟨.int _, H, I.kept hk, ⟨_, rfl⟩, q⟩
theorem c_sum {X : Cx} {tl : TL} (hc : X.calm = true) : CallR X (.builtin "sum") (fun xs H Q => ∃ x, xs = [x] ∧ rSumA (X.D tl) x H Q) := by
  intro pins s σ H vs us Q I r h
  obtain ⟨x, rfl, ns, ⟨a, rfl, h1 | h1⟩, q⟩ := h
  · exact cr_sum hc pins s σ H _ us Q I r ⟨a, ns, rfl, h1, q⟩
  · rw [Vals.ref1 r]
    exact tup_sum hc I h1 q
theorem TupD.ob {X : Cx} {pins : List (Addr × Obj)} {s : Shared} {σ : L2.St} {H : Hp} {a : Addr} {xs : List V} (I : Inv X pins σ H s) (h : TupD H a xs) : ∃ o, s.heap.get? a = some o ∧ o.dict = none ∧ o.cls = .type "tuple" := by
  obtain ⟨o, h, p⟩ := h
  obtain ⟨e, _⟩ := I.hok a _ h
  exact ⟨o, e, p.2, p.1⟩
abbrev M1 := DL.Env → List PyData → Val → Option (Val × DL.Env)
/-- o.m(e) for a list or a tuple -/
def metV (f1 f2 : ED) (g : M1) : ED := fun ρ => (f1 ρ).bind fun p => (seqOf p.2 p.1).bind fun k => (f2 p.2).bind fun q => (seqOf q.2 p.1).bind fun k2 => if k2.1 = k.1 then g q.2 k2.2 q.1 else none
def cntG : M1 := fun ρ ds b => match b with
  | .cl (.int k) => (intsOf ds).map fun ns => (.cl (.int (ns.count k : Nat)), ρ)
  | _ => none
def idxG : M1 := fun ρ ds b => match b with
  | .cl (.int k) => (intsOf ds).bind fun ns => if k ∈ ns then some (.cl (.int (ns.idxOf k : Nat)), ρ) else none
  | _ => none
section
variable {X : Cx} {tl : TL}
/-- the built-in answers so, asked of a tuple -/
theorem tup_cnt {pins : List (Addr × Obj)} {s : Shared} {σ : L2.St} {H : Hp} {Q : VK} {a : Addr} {ns : List Int} {k : Int} {t : Tok} (I : Inv X pins σ H s) (hs : TupD H a (ns.map V.int)) (q : Q (.int (ns.count k : Nat)) H) :
    wpAny (model X.prog X.w) X.A (call (.builtin "tuple.count") [.ref a, .int k t]) (EP X pins σ Q) X.xe s := by
  obtain ⟨us, ra, ⟨ob, ho, hc, n, hd⟩, hz⟩ := I.tuple (hs.sq (K := X.K))
  obtain ⟨cls, dd, data, sl⟩ := ob
  have hc' : cls = .type "tuple" := hc
  have hd' : data = .seq us.toArray n := hd
  subst hc' hd'
  have hi := ints_of_vals ra
  refine call_meets PySem.F.slot_tuple_count ⟨_, ho, rfl⟩ PySem.F.entry_tuple_count (PySem.F.args_tuple_count_2 _ _)
    (SeqAt.tuple_countAt a us.toArray n dd sl (.int k t) (eqk k)) ⟨ho, fun y hy => (eqk_gives hi y (by simpa using hy)).at _ _, ?_⟩
  have ec : us.toArray.toList.countP (eqk k) = ns.count k := eqk_count hi
  rw [ec]
  exact ⟨.int (ns.count k : Nat), H, I.tok _, ⟨s.toks, rfl⟩, q⟩
theorem tup_idx {pins : List (Addr × Obj)} {s : Shared} {σ : L2.St} {H : Hp} {Q : VK} {a : Addr} {ns : List Int} {k : Int} {t : Tok} (I : Inv X pins σ H s) (hs : TupD H a (ns.map V.int)) (hm : k ∈ ns) (q : Q (.int (ns.idxOf k : Nat)) H) :
    wpAny (model X.prog X.w) X.A (call (.builtin "tuple.index") [.ref a, .int k t]) (EP X pins σ Q) X.xe s := by
  obtain ⟨us, ra, pa, hz⟩ := I.tuple (hs.sq (K := X.K))
  exact PySem.SeqAt.tuple_index_ints (ns := ns) pa (ints_of_vals ra) hm ⟨.int _, H, I.tok _, ⟨_, rfl⟩, q⟩
theorem lst_idx {pins : List (Addr × Obj)} {s : Shared} {σ : L2.St} {H : Hp} {Q : VK} {a : Addr} {ns : List Int} {k : Int} {t : Tok} (I : Inv X pins σ H s) (hs : SqL (X.D tl) H a (ns.map V.int)) (hm : k ∈ ns) (q : Q (.int (ns.idxOf k : Nat)) H) :
    wpAny (model X.prog X.w) X.A (call (.builtin "list.index") [.ref a, .int k t]) (EP X pins σ Q) X.xe s := by
  obtain ⟨us, ra, pa, hz⟩ := I.list hs
  rw [List.length_map] at hz
  exact PySem.SeqAt.list_index_ints (ns := ns) pa.isList (ints_of_vals ra) hz hm ⟨.int _, H, I.tok _, ⟨_, rfl⟩, q⟩
/-- the answer, whatever the receiver is -/
def rNum (Ok : List Int → Int → Prop) (f : List Int → Int → Int) (At : Hp → Addr → List V → Prop) : V → List V → Hp → VK → Prop := fun x ys H Q => ∃ (a : Addr) (ns : List Int) (k : Int), x = .ref a ∧ ys = [.int k] ∧ At H a (ns.map V.int) ∧ Ok ns k ∧ Q (.int (f ns k)) H
theorem mt_cntT : MtR X "tuple.count" (rNum (fun _ _ => True) (fun ns k => (ns.count k : Nat)) TupD) := by
  intro pins s σ H x xs v us Q I rx rxs ⟨a, ns, k, e1, e2, hs, _, q⟩
  subst e1 e2
  cases rx
  obtain ⟨u, rfl, ru⟩ := rxs.one
  obtain ⟨t, rfl⟩ := ru
  exact tup_cnt I hs q
theorem mt_cntL : MtR X "list.count" (rNum (fun _ _ => True) (fun ns k => (ns.count k : Nat)) (SqL (X.D tl))) := fun pins s σ H x xs v us Q I rx rxs ⟨a, ns, k, e1, e2, hs, _, q⟩ =>
  mt_lcount pins s σ H x xs v us Q I rx rxs ⟨a, ns, k, e1, e2, hs, q⟩
theorem mt_idxT : MtR X "tuple.index" (rNum (fun ns k => k ∈ ns) (fun ns k => (ns.idxOf k : Nat)) TupD) := by
  intro pins s σ H x xs v us Q I rx rxs ⟨a, ns, k, e1, e2, hs, hm, q⟩
  subst e1 e2
  cases rx
  obtain ⟨u, rfl, ru⟩ := rxs.one
  obtain ⟨t, rfl⟩ := ru
  exact tup_idx I hs hm q
theorem mt_idxL : MtR X "list.index" (rNum (fun ns k => k ∈ ns) (fun ns k => (ns.idxOf k : Nat)) (SqL (X.D tl))) := by
  intro pins s σ H x xs v us Q I rx rxs ⟨a, ns, k, e1, e2, hs, hm, q⟩
  subst e1 e2
  cases rx
  obtain ⟨u, rfl, ru⟩ := rxs.one
  obtain ⟨t, rfl⟩ := ru
  exact lst_idx I hs hm q
def tTwo (K : Fg) (rL rT : V → List V → Hp → VK → Prop) (to : TE) (ta : TA) : TE := fun σ H Q => to σ H fun x H1 => (∃ a xs, x = V.ref a ∧ SqL K H1 a xs ∧ ta σ H1 fun ys H2 => rL x ys H2 Q) ∨ (∃ a xs, x = V.ref a ∧ TupD H1 a xs ∧ ta σ H1 fun ys H2 => rT x ys H2 Q)
theorem pe_two {o e : Expr} {name : Str} {idL idT : String} {to : TE} {ta : TA} {apos cpos : Pos} {rL rT : V → List V → Hp → VK → Prop} (slotL : Slot "list" name idL) (slotT : Slot "tuple" name idT) (tyL : typeOf (.builtin idL) = pure (.type "method_descriptor")) (tyT : typeOf (.builtin idT) = pure (.type "method_descriptor"))
    (hmL : MtR X idL rL) (hmT : MtR X idT rT) (ho : PE X o to) (ha : PA X [e] ta) (hb : attributeBase o name X.env (eval o X.env) = eval o X.env := by rfl)
    (hf : ((backTo cpos (starEach [e] X.env)).all (fun x => !x.1) && (backToKw cpos (keywordEach [] X.env)).all (fun x => x.1.isSome) && decide (([e] : List Expr).length + ([] : List Keyword).length + (if ([] : List Keyword).isEmpty then 0 else 1) < 30)) = true := by rfl)
    (hli : (apos.endLine == cpos.line) = true := by rfl) (hst : starEach [e] X.env = (false, eval e X.env) :: starEach [] X.env := by rfl) (hpl : (backTo cpos (starEach [] X.env)).any (·.1) = false := by rfl) :
    PE X (.Call (.Attribute o name apos) [e] [] cpos) (tTwo (X.D tl) rL rT to ta) := by
  refine ⟨fun pins s σ H Q I h => wpAny_Call_method_late hb hf hli rfl (thn (ho.run pins s σ H _ I h) fun v s1 ⟨x, H1, I1, r1, q1⟩ => ?_)⟩
  have run : ∀ {id : String} {r : V → List V → Hp → VK → Prop}, MtR X id r → (ta σ H1 fun ys H2 => r x ys H2 Q) → wpAny (model X.prog X.w) X.A (callWith cpos (.builtin id) [v] (backTo cpos (starEach [e] X.env)) []) (EP X pins σ Q) X.xe s1 := fun {id r} hm q2 => by
    have hA := ha.run cpos pins s1 σ H1 _ I1 q2
    rw [hst] at hA ⊢
    exact Calls.callWith_builtin (by show (false || (backTo cpos (starEach [] X.env)).any (·.1)) = false; rw [hpl]; rfl) (Calls.evalArgs_plain (thn hA fun us s2 ⟨vs, H2, I2, r2, q3⟩ => hm pins s2 σ H2 x vs v us Q I2 r1 r2 q3))
  rcases q1 with ⟨a, xs, rfl, h1, q2⟩ | ⟨a, xs, rfl, h1, q2⟩
  · cases r1
    obtain ⟨us, ra, ⟨ob, n, ho1, hc1, hd1, hs1⟩, hz⟩ := I1.list h1
    exact ⟨"list", idL, PySem.F.plainAttrs_list, slotL, tyL, ⟨ob, ho1, hc1⟩, fun b eb => by cases eb; exact ⟨ob, ho1, hd1⟩, run hmL q2⟩
  · cases r1
    obtain ⟨ob, ho1, hd1, hc1⟩ := h1.ob I1
    exact ⟨"tuple", idT, PySem.F.plainAttrs_tuple, slotT, tyT, ⟨ob, ho1, hc1⟩, fun b eb => by cases eb; exact ⟨ob, ho1, hd1⟩, run hmT q2⟩
/-- what such an answer hangs on -/
def NumG (Ok : List Int → Int → Prop) (f : List Int → Int → Int) (g : M1) : Prop := ∀ {ρ ρ' : DL.Env} {ds : List PyData} {b r : Val}, g ρ ds b = some (r, ρ') → ∃ ns k, b = .cl (.int k) ∧ intsOf ds = some ns ∧ Ok ns k ∧ r = .cl (.int (f ns k)) ∧ ρ' = ρ
theorem num_cnt : NumG (fun _ _ => True) (fun ns k => (ns.count k : Nat)) cntG := by
  intro ρ ρ' ds b r e
  unfold cntG at e
  split at e
  · obtain ⟨ns, e1, e2⟩ := Option.map_eq_some_iff.mp e
    cases e2
    exact ⟨ns, _, rfl, e1, trivial, rfl, rfl⟩
  · cases e
theorem num_idx : NumG (fun ns k => k ∈ ns) (fun ns k => (ns.idxOf k : Nat)) idxG := by
  intro ρ ρ' ds b r e
  unfold idxG at e
  split at e
  · obtain ⟨ns, e1, e2⟩ := Option.bind_eq_some_iff.mp e
    split at e2
    · rename_i hm
      cases e2
      exact ⟨ns, _, rfl, e1, hm, rfl, rfl⟩
    · cases e2
  · cases e
theorem two_core {Ok : List Int → Int → Prop} {f : List Int → Int → Int} {g : M1} (hg : NumG Ok f g) {f1 f2 : ED} {σ : L2.St} {H : Hp} {Q : VK} (h : RD (X.D tl) (metV f1 f2 g) σ H Q) :
    tTwo (X.D tl) (rNum Ok f (SqL (X.D tl))) (rNum Ok f TupD) (RD (X.D tl) f1) (RA (X.D tl) (acons f2 anil)) σ H Q := by
  obtain ⟨P, B, L, ρ, r, ρ', R0, e, c⟩ := h
  obtain ⟨⟨r1, ρ1⟩, e1, e⟩ := Option.bind_eq_some_iff.mp e
  obtain ⟨⟨k, ds0⟩, e2, e⟩ := Option.bind_eq_some_iff.mp e
  obtain ⟨⟨r2, ρ2⟩, e3, e⟩ := Option.bind_eq_some_iff.mp e
  obtain ⟨⟨k2, ds⟩, e4, e9⟩ := Option.bind_eq_some_iff.mp e
  replace e9 : (if k2 = k then g ρ2 ds r2 else none) = some (r, ρ') := e9
  replace e2 : seqOf ρ1 r1 = some (k, ds0) := e2
  replace e3 : f2 ρ1 = some (r2, ρ2) := e3
  replace e4 : seqOf ρ2 r1 = some (k2, ds) := e4
  by_cases hk : k2 = k
  · rw [if_pos hk] at e9
    subst hk
    obtain ⟨ns, j, rfl, ei, ok, rfl, rfl⟩ := hg e9
    refine ⟨P, B, L, ρ, r1, ρ1, R0, e1, fun x H1 La Ea p1 v1 => ?_⟩
    have args : ∀ {r' : V → List V → Hp → VK → Prop}, (∀ {H2 : Hp} {Lb Eb : List Addr}, Rep (X.D tl) (Eb ++ P) B Lb σ ρ' H2 → VR (X.D tl) Eb P B Lb σ H2 x r1 → Q (.int (f ns j)) H2 → r' x [.int j] H2 Q) → RA (X.D tl) (acons f2 anil) σ H1 fun ys H2 => r' x ys H2 Q := fun {r'} hr => by
      refine ⟨Ea ++ P, B, La, ρ1, [.cl (.int j)], ρ', p1.rep, by show (f2 ρ1).bind _ = _; rw [e3]; rfl, fun ys H2 Lb Eb p2 v2 => ?_⟩
      obtain ⟨y, rfl, vy⟩ := vrs_one v2
      have p12 := p1.two p2
      have vx := v1.later p1.rep p2
      rw [vy.int]
      exact hr p12.rep vx ((c.after p12).here p12.rep (show VR (X.D tl) _ P B Lb σ H2 _ (.cl (.int _)) from Dq.int _))
    cases k2 with
    | true =>
      obtain ⟨a, vs, rfl, h1, _⟩ := v1.list p1.rep e2
      refine .inl ⟨a, vs, rfl, .of h1, args fun R2 v2 q => ?_⟩
      obtain ⟨a2, ws, ea, h2, d2⟩ := v2.list R2 e4
      cases ea
      obtain ⟨rfl, _⟩ := ints_of d2 ei
      exact ⟨a, ns, j, rfl, rfl, .of h2, ok, q⟩
    | false =>
      obtain ⟨a, vs, rfl, h1, _⟩ := v1.tuple e2
      refine .inr ⟨a, vs, rfl, h1, args fun R2 v2 q => ?_⟩
      obtain ⟨a2, ws, ea, h2, d2⟩ := v2.tuple e4
      cases ea
      obtain ⟨rfl, _⟩ := ints_of d2 ei
      exact ⟨a, ns, j, rfl, rfl, h2, ok, q⟩
  · rw [if_neg hk] at e9
    cases e9
variable {o e : Expr} {f1 f2 : ED} {apos cpos : Pos}
theorem d_cnt (ho : PE X o (RD (X.D tl) f1)) (ha : PE X e (RD (X.D tl) f2)) (hb : attributeBase o "count" X.env (eval o X.env) = eval o X.env := by rfl)
    (hf : ((backTo cpos (starEach [e] X.env)).all (fun x => !x.1) && (backToKw cpos (keywordEach [] X.env)).all (fun x => x.1.isSome) && decide (([e] : List Expr).length + ([] : List Keyword).length + (if ([] : List Keyword).isEmpty then 0 else 1) < 30)) = true := by rfl)
    (hli : (apos.endLine == cpos.line) = true := by rfl) (hst : starEach [e] X.env = (false, eval e X.env) :: starEach [] X.env := by rfl) (hpl : (backTo cpos (starEach [] X.env)).any (·.1) = false := by rfl) :
    PE X (.Call (.Attribute o "count" apos) [e] [] cpos) (RD (X.D tl) (metV f1 f2 cntG)) :=
  (pe_two PySem.F.slot_list_count PySem.F.slot_tuple_count PySem.F.type_list_count PySem.F.type_tuple_count mt_cntL mt_cntT ho (a_cons ha a_nil hst) hb hf hli hst hpl).imp fun _ _ _ h => two_core num_cnt h
theorem d_idx (ho : PE X o (RD (X.D tl) f1)) (ha : PE X e (RD (X.D tl) f2)) (hb : attributeBase o "index" X.env (eval o X.env) = eval o X.env := by rfl)
    (hf : ((backTo cpos (starEach [e] X.env)).all (fun x => !x.1) && (backToKw cpos (keywordEach [] X.env)).all (fun x => x.1.isSome) && decide (([e] : List Expr).length + ([] : List Keyword).length + (if ([] : List Keyword).isEmpty then 0 else 1) < 30)) = true := by rfl)
    (hli : (apos.endLine == cpos.line) = true := by rfl) (hst : starEach [e] X.env = (false, eval e X.env) :: starEach [] X.env := by rfl) (hpl : (backTo cpos (starEach [] X.env)).any (·.1) = false := by rfl) :
    PE X (.Call (.Attribute o "index" apos) [e] [] cpos) (RD (X.D tl) (metV f1 f2 idxG)) :=
  (pe_two PySem.F.slot_list_index PySem.F.slot_tuple_index PySem.F.type_list_index PySem.F.type_tuple_index mt_idxL mt_idxT ho (a_cons ha a_nil hst) hb hf hli hst hpl).imp fun _ _ _ h => two_core num_idx h
end
end DL
end
noncomputable section
namespace DL
open PySem PySem.Spec PyProof.Rows L2
section
variable {prog : Program} {w : World} {A : Around} {E : Value → Shared → Prop} {s : Shared}
/-- x tells items that are so; older objects stay -/
def Tells (prog : Program) (w : World) (A : Around) (E : Value → Shared → Prop) (s : Shared) (x : Value) (R : List Value → Prop) : Prop :=
  ∀ Q : List Value → Shared → Prop, (∀ (h' : Heap) (tk : Nat) (vs : List Value), (∀ b o, s.heap.get? b = some o → h'.get? b = some o) → R vs → Q vs { s with heap := h', toks := tk }) → wpAny (model prog w) A (collect x) Q E s
theorem sorted_from {x : Value} {R : List Value → Prop} {kw : List (Str × Value)} {Q : Value → Shared → Prop} (hL : ∀ vs, R vs → vs.length ≤ sizeLine) (ha1 : argsOk "sorted" ⟨[x], kw⟩) (ha2 : ∀ x, argsOk "list.sort" ⟨[.ref x], kw⟩) (col : Tells prog w A.in1 E s x R)
    (body : ∀ (h' : Heap) (tk : Nat) (vs : List Value) (E' : Value → Shared → Prop), (∀ b o, s.heap.get? b = some o → h'.get? b = some o) → R vs →
      wpAny (model prog w) A.in1.in1 (Builtin.«list.sort» ⟨[.ref h'.objs.size], kw⟩) (fun f s' => f = .done (.ret .none) ∧ Q (.ref h'.objs.size) s') E' { s with heap := h'.push (seqObj "list" vs.toArray 0), toks := tk }) :
    wpAny (model prog w) A (call (.builtin "sorted") [x] kw) Q E s := by
  refine call_function_entry_kw kind_sorted plain_sorted entry_sorted ha1 ?_
  unfold Builtin.«sorted»
  refine wpAny_bind (m := checkCount "sorted" 1 1 _) (wpAny_pure ?_)
  refine wpAny_bind (col _ fun h' tk vs kp hR => ?_)
  refine wpAny_bind (wpAny_newList ?_ (hL vs hR))
  refine wpAny_bind (wpAny_holding (wpAny_call_entry_kw PyProof.Rows.slot_list_sort ⟨_, Heap.get?_push_size _ rfl, rfl⟩ PyProof.Rows.entry_list_sort ?_ (ha2 _)))
  refine wpAny_mono (body h' tk vs _ kp hR) (fun f s' hf => ?_) fun _ _ e => e
  obtain ⟨rfl, hq⟩ := hf
  exact ⟨_, rfl, wpAny_pure ⟨_, rfl, hq⟩⟩
end
def sortI (ns : List Int) : List Int := ns.mergeSort (fun a b => decide (a ≤ b))
theorem sortI_perm (ns : List Int) : (sortI ns).Perm ns := List.mergeSort_perm ..
theorem sortI_pair (ns : List Int) : (sortI ns).Pairwise (· ≤ ·) := by
  have := List.pairwise_mergeSort (le := fun a b : Int => decide (a ≤ b)) (fun a b c h1 h2 => by simp at *; omega) (fun a b => by simp; omega) ns
  exact this.imp fun h => by simpa using h
theorem sorted_one : ∀ {l m : List Int}, l.Perm m → l.Pairwise (· ≤ ·) → m.Pairwise (· ≤ ·) → l = m
  | [], m, p, _, _ => (List.Perm.nil_eq p)
  | a :: l, [], p, _, _ => absurd p.length_eq (by simp)
  | a :: l, b :: m, p, h1, h2 => by
    have ha : a ∈ b :: m := p.mem_iff.mp (List.mem_cons_self ..)
    have hb : b ∈ a :: l := p.mem_iff.mpr (List.mem_cons_self ..)
    have e1 : b ≤ a := by
      rcases List.mem_cons.mp ha with z | z
      · omega
      · exact (List.pairwise_cons.mp h2).1 a z
    have e2 : a ≤ b := by
      rcases List.mem_cons.mp hb with z | z
      · omega
      · exact (List.pairwise_cons.mp h1).1 b z
    have e : a = b := by omega
    subst e
    rw [sorted_one ((List.perm_cons a).mp p) (List.pairwise_cons.mp h1).2 (List.pairwise_cons.mp h2).2]
def sortG : DL.Env → Val → Option (Val × DL.Env) := fun ρ a => (seqOf ρ a).bind fun q => (intsOf q.2).map fun ns => (.own ((sortI ns).map .int), ρ)
end DL
end
noncomputable section
namespace DL
open PySem PySem.Spec PyProof.Rows L2
def flatOf : PyData → Option V
  | .none => some .non
  | .bool b => some (.bl b)
  | .int i => some (.int i)
  | .str x => some (.str x)
  | _ => none
def flatsOf : List PyData → Option (List V)
  | [] => some []
  | d :: ds => (flatOf d).bind fun v => (flatsOf ds).map (v :: ·)
theorem flat_of {K : Fg} {H : Hp} {W : List Addr} {v u : V} {d : PyData} (h : Dq K H W v d) (e : flatOf d = some u) : v = u ∧ flatV v = true := by
  cases h <;> simp [flatOf] at e <;> subst e <;> exact ⟨rfl, rfl⟩
theorem flats_of {K : Fg} {H : Hp} {W : List Addr} : ∀ {vs us : List V} {ds : List PyData}, DqA K H W vs ds → flatsOf ds = some us → vs = us ∧ vs.all flatV = true
  | _, us, [], h, e => by cases h; cases e; exact ⟨rfl, rfl⟩
  | _, us, d :: ds, h, e => by
    cases h with
    | cons h1 h2 =>
      obtain ⟨u, e1, e⟩ := Option.bind_eq_some_iff.mp e
      obtain ⟨ws, e2, e3⟩ := Option.map_eq_some_iff.mp e
      subst e3
      obtain ⟨rfl, f1⟩ := flat_of h1 e1
      obtain ⟨rfl, f2⟩ := flats_of h2 e2
      exact ⟨rfl, by rw [List.all_cons, f1, f2]; rfl⟩
def inG (neg : Bool) : DL.Env → Val → Val → Option (Val × DL.Env) := fun ρ a b => match a with
  | .cl d => (flatOf d).bind fun x => (seqOf ρ b).bind fun q => (flatsOf q.2).map fun xs => (.cl (.bool (if neg then !inV x xs else inV x xs)), ρ)
  | _ => none
theorem loc_in {K : Fg} {neg : Bool} : Loc2 K (rIn K neg) (inG neg) := by
  intro E P B L σ ρ ρ' H x y r1 r2 r Q R0 v1 v2 e c
  unfold inG at e
  split at e
  · rename_i d
    obtain ⟨u, e1, e⟩ := Option.bind_eq_some_iff.mp e
    obtain ⟨⟨k, ds⟩, e2, e⟩ := Option.bind_eq_some_iff.mp e
    obtain ⟨us, e3, e4⟩ := Option.map_eq_some_iff.mp e
    cases e4
    obtain ⟨rfl, f1⟩ := flat_of (show Dq K H _ x d from v1) e1
    have k2 : VR K E P B L σ H (.bl (if neg then !inV x us else inV x us)) (.cl (.bool (if neg then !inV x us else inV x us))) := Dq.bl _
    cases k with
    | true =>
      obtain ⟨a, vs, rfl, h1, d1⟩ := v2.list R0 e2
      obtain ⟨rfl, f2⟩ := flats_of d1 e3
      exact ⟨a, vs, rfl, .inl (.of h1), f1, f2, c.here R0 k2⟩
    | false =>
      obtain ⟨a, vs, rfl, h1, d1⟩ := v2.tuple e2
      obtain ⟨rfl, f2⟩ := flats_of d1 e3
      exact ⟨a, vs, rfl, .inr h1.sq, f1, f2, c.here R0 k2⟩
  · cases e
end DL
end
noncomputable section
namespace DL
open PySem PySem.Spec PyProof.Rows L2
def itemSt (ρ : DL.Env) (j k : Nat) (d : PyData) : Option Out := match ρ.getD k .no, opAt ρ j with
  | .cl (.int i), some (kk, ds) => (ixN ds.length i).bind fun m => some (.nx (opSet ρ j kk (ds.set m d)))
  | _, _ => none
def asgNS (i j k : Nat) (t : AD) : SD := fun ρ => (t ρ).bind fun p => (psAll p.2 p.1).bind fun q => match q.1 with
  | [d1, d2] => itemSt (q.2.set i (.cl d1)) j k d2
  | _ => none
section
variable {X : Cx} {tl : TL} {t : AD} {pos : Pos}
theorem asgNS_core {i j k : Nat} {D : Ends} {σ : L2.St} {H : Hp} (h : RS (X.D tl) (asgNS i j k t) D σ H) :
    tAsg (tTupF (RA (X.D tl) t)) (gTup (X.D tl) 2 (gCons (gName i) (gCons (gSub (tVar j) (tVar k) rSetL) gNil))) D σ H := by
  have ll := lim_line
  obtain ⟨P, B, L, ρ, o, R0, e, c⟩ := h
  obtain ⟨⟨rs, ρ1⟩, e1, e⟩ := Option.bind_eq_some_iff.mp e
  obtain ⟨⟨ds, ρ2⟩, e2, e⟩ := Option.bind_eq_some_iff.mp e
  simp only at e
  split at e
  · rename_i _ d1 d2
    refine ⟨P, B, L, ρ, rs, ρ1, R0, e1, fun xs H1 La Ea p1 v1 => ?_⟩
    obtain ⟨E', L', R1, dq, es, ls⟩ := psAll_of p1.rep v1 e2
    have pl := Post.less (K := (X.D tl)) R1 es ls
    cases dq with
    | cons h1 dq =>
    cases dq with
    | cons h2 dq =>
    cases dq
    rename_i x1 x2
    refine ⟨by show 2 ≤ sizeLine; rw [sizeLine_eq]; decide, fun p ob hp po => ?_⟩
    have kp : Keep [] H1 (upd H1 p (.frz ob (.tup [x1, x2]))) := Keep.new hp
    have R2 : Rep (X.D tl) P B L' σ ρ2 (upd H1 p (.frz ob (.tup [x1, x2]))) := R1.drop.same kp
    have sub : ∀ a ∈ P ++ B ++ L', a ∈ E' ++ P ++ B ++ L' := fun a z => by
      simp only [List.mem_append] at z ⊢
      rcases z with (z | z) | z
      · exact .inl (.inl (.inr z))
      · exact .inl (.inr z)
      · exact .inr z
    have g1 : Dq (X.D tl) (upd H1 p (.frz ob (.tup [x1, x2]))) (P ++ B ++ L') x1 d1 := (h1.sub sub).move lists_nil (fun _ z => nomatch z) kp fun _ z => .inl z
    have g2 : Dq (X.D tl) (upd H1 p (.frz ob (.tup [x1, x2]))) (P ++ B ++ L') x2 d2 := (h2.sub sub).move lists_nil (fun _ z => nomatch z) kp fun _ z => .inl z
    have R3 := R2.setCl i g1
    unfold itemSt at e
    split at e
    · rename_i iv kk es' ek eo
      obtain ⟨m, em, e⟩ := Option.bind_eq_some_iff.mp e
      cases e
      obtain ⟨l, us, el, _, _, hl, dl, _⟩ := opAt_of R3 eo
      have ck := R3.ok k
      rw [ek] at ck
      obtain ⟨v, ev, dv⟩ := ck
      cases dv
      obtain ⟨R4, s4, _⟩ := R3.write eo el (dl.set g2 m)
      refine ⟨p, [x1, x2], rfl, .inl (.inr ⟨ob, upd_same⟩), rfl, x1, [x2], rfl, x2, [], rfl, .ref l, el, .int iv, ev, l, us, iv, m, rfl, rfl, hl, by rw [dl.length]; exact em, rfl, ?_⟩
      exact c _ _ L' R4 (((p1.step.trans pl.step).trans (Step.of_same kp)).trans s4)
    · cases e
  · cases e
theorem s_asgNS (i j k : Nat) {x y z : Str} {u v : Expr} {px py pz ps pt : Pos} {kt k2 : Nat} {pt2 : Pos} (hc : X.calm = true) (ha : PA X [u, v] (RA (X.D tl) t)) (hg : PG X (.Name x px) (gName i))
    (hj : X.N[j]? = some y := by rfl) (vj : Vis X.env.scope y := by first | exact Or.inl rfl | exact Or.inr (Or.inl rfl) | exact Or.inr (Or.inr rfl)) (dj : (y == ("__debug__" : Str)) = false := by decide) (cj : (y == ("__classdict__" : Str)) = false := by decide)
    (hk : X.N[k]? = some z := by rfl) (vk : Vis X.env.scope z := by first | exact Or.inl rfl | exact Or.inr (Or.inl rfl) | exact Or.inr (Or.inr rfl)) (dk : (z == ("__debug__" : Str)) = false := by decide) (ck : (z == ("__classdict__" : Str)) = false := by decide)
    (as : ∀ v, assign (.Subscript (.Name y py) (.Name z pz) ps) X.env v = (do
      let ov ← holding [v] (eval (.Name y py) X.env)
      let iv ← holding [v, ov] (eval (.Name z pz) X.env)
      standAt ps
      holding [v, ov, iv] (setItem ov iv v)
      release [v, ov, iv] []) := by intro _; rfl)
    (hn : (assignEach [.Name x px, .Subscript (.Name y py) (.Name z pz) ps] X.env).length = 2 := by rfl) (hst : (assignEach [.Name x px, .Subscript (.Name y py) (.Name z pz) ps] X.env).findIdx? (·.1) = none := by rfl)
    (hs : swapsWithSole [.Tuple [.Name x px, .Subscript (.Name y py) (.Name z pz) ps] kt pt] (.Tuple [u, v] k2 pt2) pos.line X.env = pure false := by rfl) (hw : swappedStores [.Tuple [.Name x px, .Subscript (.Name y py) (.Name z pz) ps] kt pt] (.Tuple [u, v] k2 pt2) X.env = pure none := by rfl)
    (h1 : (assignEach [.Tuple [.Name x px, .Subscript (.Name y py) (.Name z pz) ps] kt pt] X.env).map (·.2) = [assign (.Tuple [.Name x px, .Subscript (.Name y py) (.Name z pz) ps] kt pt) X.env] := by rfl) :
    PS X (.Assign [.Tuple [.Name x px, .Subscript (.Name y py) (.Name z pz) ps] kt pt] (.Tuple [u, v] k2 pt2) pos) (RS (X.D tl) (asgNS i j k t)) :=
  (ps_asg (pe_tupF ha) (pg_tup hc (pgs_cons hg (pgs_cons (pg_sub (pe_var hj vj dj cj) (pe_var hk vk dk ck) set_list as) pgs_nil)) hn hst) hs hw h1).imp fun _ _ _ h => asgNS_core h
end
end DL
end
noncomputable section
namespace DL
open PySem PySem.Spec PyProof.Rows L2
def dd : List Int → List Int
  | [] => []
  | x :: xs => if x ∈ dd xs then dd xs else x :: dd xs
theorem dd_mem {k : Int} : ∀ {ns : List Int}, k ∈ dd ns ↔ k ∈ ns
  | [] => Iff.rfl
  | x :: xs => by
    have ih := dd_mem (k := k) (ns := xs)
    unfold dd
    split
    · rename_i h
      have hx := dd_mem (k := x) (ns := xs)
      rw [ih, List.mem_cons]
      constructor
      · exact .inr
      · rintro (rfl | z)
        · exact hx.mp h
        · exact z
    · rw [List.mem_cons, List.mem_cons, ih]
def sortU (ns : List Int) : List Int := sortI (dd ns)
theorem sortU_mem {k : Int} {ns : List Int} : k ∈ sortU ns ↔ k ∈ ns := ((sortI_perm (dd ns)).mem_iff).trans dd_mem
section
variable {X : Cx} {tl : TL}
def rSetL (K : Fg) (w : World) : List V → Hp → VK → Prop := fun xs H Q => ∃ (a : Addr) (ns : List Int), xs = [.ref a] ∧ SqL K H a (ns.map V.int) ∧ ns.length ≤ 4000 ∧ ∀ p, H p = none → Q (.ref p) (upd H p (SetO w p (fun j => decide (j ∈ ns)) (dd ns).length))
def uniG : DL.Env → Val → Option (Val × DL.Env) := fun ρ a => match seqOf ρ a with
  | some (true, ds) => (intsOf ds).bind fun ns => if ns.length ≤ 4000 ∧ (dd ns).length < 64 then some (.own ((sortU ns).map .int), ρ) else none
  | _ => none
end
end DL
end
noncomputable section
namespace DL
open PySem PySem.Spec PyProof.Rows L2 ZE
section
variable {K : Fg} {P B L E L' : List Addr} {σ : L2.St} {ρ : DL.Env} {H H' : Hp} {j : Nat} {a : Addr} {vs : List V} {ds : List PyData}
theorem mem_lent {b : Addr} : b ∈ L.filter (fun b => decide (b ≠ a)) ↔ b ∈ L ∧ b ≠ a := by simp [List.mem_filter]
theorem Rep.lend (R : Rep K P B L σ ρ H) (ej : ρ.getD j .no = .op ds) (ea : σ[j]? = some (some (V.ref a))) (hm : a ∈ L) : Rep K (a :: P) B (L.filter fun b => decide (b ≠ a)) σ (ρ.set j .no) H := by
  have hs : ∀ b ∈ (a :: P) ++ B ++ L.filter (fun b => decide (b ≠ a)), b ∈ P ++ B ++ L := fun b z => by
    rcases mem3.mp z with z | z | z
    · rcases List.mem_cons.mp z with z | z
      · exact mem3.mpr (.inr (.inr (z ▸ hm)))
      · exact mem3.mpr (.inl z)
    · exact mem3.mpr (.inr (.inl z))
    · exact mem3.mpr (.inr (.inr (mem_lent.mp z).1))
  have ne : ∀ i, i ≠ j → (ρ.getD i .no).isOpen = true → σ[i]? ≠ some (some (V.ref a)) := fun i hi ho z => R.inj i j a hi ho (by rw [ej]; rfl) z ea
  refine ⟨by rw [List.length_set]; exact R.len, fun b z => R.wl b (hs b z), ⟨fun b z => ?_, fun b z w => R.nd.2 b z (mem_lent.mp w).1⟩, fun i => ?_, fun i k b hik h1 h2 => ?_, R.tabs⟩
  · rcases List.mem_cons.mp z with z | z
    · subst z
      exact ⟨fun w => R.nd.2 b w hm, fun w => (mem_lent.mp w).2 rfl⟩
    · exact ⟨(R.nd.1 b z).1, fun w => (R.nd.1 b z).2 (mem_lent.mp w).1⟩
  · rw [getD_set]
    by_cases hi : j = i ∧ j < ρ.length
    · rw [if_pos hi]; trivial
    · rw [if_neg hi]
      have q := R.ok i
      have nei := ne i
      revert q nei
      generalize hc : ρ.getD i .no = c
      intro q nei
      cases c with
      | no => trivial
      | cl d => obtain ⟨v, e, h⟩ := q; exact ⟨v, e, h.sub hs⟩
      | op es =>
        obtain ⟨b, ws, e, hb, hh, h⟩ := q
        have hij : i ≠ j := fun z => hi ⟨z.symm, by
          by_cases hl : j < ρ.length
          · exact hl
          · rw [List.getD_eq_getElem?_getD, List.getElem?_eq_none (by omega)] at ej; cases ej⟩
        exact ⟨b, ws, e, mem_lent.mpr ⟨hb, fun z => nei hij rfl (z ▸ e)⟩, hh, h.sub hs⟩
      | pm es => obtain ⟨b, ws, e, hb, hh, h⟩ := q; exact ⟨b, ws, e, hb, hh, h.sub hs⟩
      | dk t es =>
        obtain ⟨b, ws, e, hb, hh, h⟩ := q
        have hij : i ≠ j := fun z => hi ⟨z.symm, by
          by_cases hl : j < ρ.length
          · exact hl
          · rw [List.getD_eq_getElem?_getD, List.getElem?_eq_none (by omega)] at ej; cases ej⟩
        exact ⟨b, ws, e, mem_lent.mpr ⟨hb, fun z => nei hij rfl (z ▸ e)⟩, hh, h.sub hs⟩
  · have t : ∀ m, ((ρ.set j .no).getD m .no).isOpen = true → (ρ.getD m .no).isOpen = true := fun m z => by
      rw [getD_set] at z
      by_cases hm : j = m ∧ j < ρ.length
      · rw [if_pos hm] at z; cases z
      · rwa [if_neg hm] at z
    exact R.inj i k b hik (t i h1) (t k h2)
theorem Rep.back (R : Rep K (E ++ (a :: P)) B L σ ρ H) (hn : ρ.getD j .no = .no) (ea : σ[j]? = some (some (V.ref a))) (hE : a ∉ E) (hP : a ∉ P) (hh : H a = some (.lst vs)) (d : DqA K H (E ++ (a :: P) ++ B ++ L) vs ds) : Rep K (E ++ P) B (a :: L) σ (ρ.set j (.op ds)) H := by
  have ha : a ∈ E ++ (a :: P) := List.mem_append_right _ (List.mem_cons_self ..)
  have nd := R.nd.1 a ha
  have hs : ∀ b ∈ (E ++ P) ++ B ++ (a :: L), b ∈ (E ++ (a :: P)) ++ B ++ L := fun b z => by
    rcases mem3.mp z with z | z | z
    · refine mem3.mpr (.inl ?_)
      rcases List.mem_append.mp z with z | z
      · exact List.mem_append_left _ z
      · exact List.mem_append_right _ (List.mem_cons_of_mem _ z)
    · exact mem3.mpr (.inr (.inl z))
    · rcases List.mem_cons.mp z with z | z
      · exact mem3.mpr (.inl (z ▸ ha))
      · exact mem3.mpr (.inr (.inr z))
  have hl : j < ρ.length := by
    rw [← R.len]
    exact (List.getElem?_eq_some_iff.mp ea).1
  have other : ∀ i, (ρ.getD i .no).isOpen = true → σ[i]? ≠ some (some (V.ref a)) := fun i ho z => by
    have q := R.ok i
    revert q ho
    generalize ρ.getD i .no = c
    intro ho q
    cases c with
    | no => cases ho
    | cl d => cases ho
    | op es => obtain ⟨b, ws, e, hb, _⟩ := q; rw [z] at e; cases e; exact nd.2 hb
    | pm es => obtain ⟨b, ws, e, hb, _⟩ := q; rw [z] at e; cases e; exact nd.1 hb
    | dk t es => obtain ⟨b, ws, e, hb, _⟩ := q; rw [z] at e; cases e; exact nd.2 hb
  refine ⟨by rw [List.length_set]; exact R.len, fun b z => R.wl b (hs b z), ⟨fun b z => ?_, fun b z w => ?_⟩, fun i => ?_, fun i k b hik h1 h2 e1 e2 => ?_, R.tabs⟩
  · have hb : b ∈ E ++ (a :: P) := by
      rcases List.mem_append.mp z with z | z
      · exact List.mem_append_left _ z
      · exact List.mem_append_right _ (List.mem_cons_of_mem _ z)
    have hba : b ≠ a := fun q => by
      subst q
      exact (List.mem_append.mp z).elim hE hP
    exact ⟨(R.nd.1 b hb).1, fun w => (List.mem_cons.mp w).elim hba (R.nd.1 b hb).2⟩
  · rcases List.mem_cons.mp w with w | w
    · subst w; exact nd.1 z
    · exact R.nd.2 b z w
  · rw [getD_set]
    by_cases hi : j = i ∧ j < ρ.length
    · rw [if_pos hi, ← hi.1]
      exact ⟨a, vs, ea, List.mem_cons_self .., hh, d.sub hs⟩
    · rw [if_neg hi]
      have q := R.ok i
      revert q
      generalize ρ.getD i .no = c
      intro q
      cases c with
      | no => trivial
      | cl d => obtain ⟨v, e, h⟩ := q; exact ⟨v, e, h.sub hs⟩
      | op es => obtain ⟨b, ws, e, hb, hh, h⟩ := q; exact ⟨b, ws, e, List.mem_cons_of_mem _ hb, hh, h.sub hs⟩
      | pm es => obtain ⟨b, ws, e, hb, hh, h⟩ := q; exact ⟨b, ws, e, hb, hh, h.sub hs⟩
      | dk t es => obtain ⟨b, ws, e, hb, hh, h⟩ := q; exact ⟨b, ws, e, List.mem_cons_of_mem _ hb, hh, h.sub hs⟩
  · have t : ∀ m, m ≠ j → ((ρ.set j (.op ds)).getD m .no).isOpen = true → (ρ.getD m .no).isOpen = true := fun m hm z => by
      rw [getD_set, if_neg fun w => hm w.1.symm] at z
      exact z
    by_cases hi : i = j
    · subst hi
      rw [ea] at e1
      cases e1
      exact other k (t k (fun z => hik z.symm) h2) e2
    · by_cases hk : k = j
      · subst hk
        rw [ea] at e2
        cases e2
        exact other i (t i hi h1) e1
      · exact R.inj i k b hik (t i hi h1) (t k hk h2) e1 e2
end
/-- [e for i, x in enumerate(xs) if t], xs an open list that the block doesn't name -/
def lcB (j : Nat) (own : List Nat) (tg : GD) (tt : TD) (te : ED) : ED := fun ρ => match ρ.getD j .no with
  | .op ds => if own.all (fun i => !((ρ.set j .no).getD i .no).isOpen) = true then
      (lcLoop own tg tt te [] (enumD ds) (wipeE (ρ.set j .no) own)).bind fun q => match (restE q.2 (ρ.set j .no) own).getD j .no with
        | .no => some (.own q.1, (restE q.2 (ρ.set j .no) own).set j (.op ds))
        | _ => none
    else none
  | _ => none
section
variable {K : Fg} {P B L L' : List Addr} {σ : L2.St} {ρ ρ' : DL.Env} {H H' : Hp}
theorem lent_stays {a : Addr} {vs : List V} {ds : List PyData} {E : List Addr} (R : Rep K (a :: P) B L σ ρ H) (hh : H a = some (.lst vs)) (d : DqA K H (a :: P ++ B ++ L) vs ds) (s : Step B L H L' H') (he : ∀ b ∈ E, H b = none) : H' a = some (.lst vs) ∧ DqA K H' (E ++ (a :: P) ++ B ++ L') vs ds := by
  have nd := R.nd.1 a (List.mem_cons_self ..)
  refine ⟨s.keep.at hh fun z => (List.mem_append.mp z).elim nd.1 nd.2, ?_⟩
  exact d.move R.lbl (fun b z => mem3.mpr (.inr (List.mem_append.mp z))) s.keep fun b z => by
    rcases mem4.mp z with z | z | z | z
    · exact .inr (he b z)
    · exact .inl (mem3.mpr (.inl z))
    · exact .inl (mem3.mpr (.inr (.inl z)))
    · exact (s.lsub b z).imp (fun z => mem3.mpr (.inr (.inr z))) id
theorem walks_lent {a : Addr} {vs : List V} {ds : List PyData} (R : Rep K (a :: P) B L σ ρ H) (hh : H a = some (.lst vs)) (d : DqA K H (a :: P ++ B ++ L) vs ds) : Walks K (a :: P) B L H (IteB K true a) (enumD ds) := fun H2 L2 E s he => by
  obtain ⟨h2, d2⟩ := lent_stays R hh d s he
  have q1 : SqB K true H2 a vs := .of h2
  have l1 := d2.length
  refine ⟨fun i e hd => ?_, ⟨vs, q1, ?_⟩⟩
  · unfold enumD at hd
    rw [List.getElem?_mapIdx] at hd
    obtain ⟨x, hx, rfl⟩ := Option.map_eq_some_iff.mp hd
    obtain ⟨v, hv, dv⟩ := d2.get hx
    refine ⟨⟨vs, v, q1, hv⟩, fun z H3 hz => ?_⟩
    obtain ⟨T, v', ob, rfl, hT, po, rfl, f1⟩ := hz
    have ev := (f1 vs q1).symm.trans hv
    cases ev
    have kp : Keep [] H2 (upd H2 T (.frz ob (.tup [.int (i : Nat), v]))) := Keep.new hT
    exact ⟨kp, .tup ⟨ob, upd_same, po⟩ (.cons (.int _) (.cons (dv.move lists_nil (fun _ z => nomatch z) kp fun _ z => .inl z) .nil))⟩
  · unfold enumD
    rw [List.length_mapIdx, l1]
theorem lcB_imp {own is : List Nat} {j : Nat} {tg : GD} {tt : TD} {te : ED} (hin : ∀ i ∈ is, i ∈ own) {Q : VK} (h : RD K (lcB j own tg tt te) σ H Q) : tLc (iEnumB K (tCons (tVar j) tNil)) (RG K is tg) (RT K tt) (RD K te) own σ H Q := by
  obtain ⟨P, B, L, ρ, r, ρ', R0, e, c⟩ := h
  unfold lcB at e
  split at e
  · rename_i ds ej
    split at e
    · rename_i hno
      obtain ⟨⟨es, ρ2⟩, e2, e⟩ := Option.bind_eq_some_iff.mp e
      simp only at e
      split at e
      · rename_i en
        cases e
        have q0 := R0.ok j
        rw [ej] at q0
        obtain ⟨a, vs, ea, hm, hh, dq⟩ := q0
        have R1 := R0.lend ej ea hm
        have aP : a ∉ P := fun z => (R0.nd.1 a z).2 hm
        have hs : ∀ b ∈ (a :: P) ++ B ++ L.filter (fun b => decide (b ≠ a)), b ∈ P ++ B ++ L := fun b z => by
          rcases mem3.mp z with z | z | z
          · rcases List.mem_cons.mp z with z | z
            · exact mem3.mpr (.inr (.inr (z ▸ hm)))
            · exact mem3.mpr (.inl z)
          · exact mem3.mpr (.inr (.inl z))
          · exact mem3.mpr (.inr (.inr (mem_lent.mp z).1))
        have d1 : DqA K H ((a :: P) ++ B ++ L.filter (fun b => decide (b ≠ a))) vs ds := dq.sub hs
        have k : Cont K (a :: P) B (L.filter fun b => decide (b ≠ a)) σ H [] (restE ρ2 (ρ.set j .no) own) (.own es) Q := fun x H' L' E' p v => by
          have fE : ∀ b ∈ E', H b = none := fun b z => (p.esub b z).resolve_left fun w => nomatch w
          obtain ⟨h2, d2⟩ := lent_stays R1 hh d1 p.step fE
          have aE : a ∉ E' := fun z => by rw [fE a z] at hh; cases hh
          have R2 := Rep.back p.rep en ea aE aP h2 d2
          refine c x H' (a :: L') E' ⟨R2, ⟨p.step.keep.mono fun b z => ?_, fun b z => ?_, p.step.ne⟩, p.esub⟩ ?_
          · rcases List.mem_append.mp z with z | z
            · exact List.mem_append_left _ z
            · exact List.mem_append_right _ (mem_lent.mp z).1
          · rcases List.mem_cons.mp z with z | z
            · exact .inl (z ▸ hm)
            · exact (p.step.lsub b z).imp (fun w => (mem_lent.mp w).1) id
          · obtain ⟨b, ws, rfl, m1, m2, m3, m4⟩ := v
            refine ⟨b, ws, rfl, m1, fun z => m2 (List.mem_cons_of_mem _ z), m3, m4.sub fun y z => ?_⟩
            rcases mem4.mp z with z | z | z | z
            · exact mem4.mpr (.inl z)
            · exact mem4.mpr (.inr (.inl (List.mem_cons_of_mem _ z)))
            · exact mem4.mpr (.inr (.inr (.inl z)))
            · rcases List.mem_cons.mp z with z | z
              · exact mem4.mpr (.inr (.inl (z ▸ List.mem_cons_self ..)))
              · exact mem4.mpr (.inr (.inr (.inr z)))
        exact ⟨.ref a, ea, true, a, vs, rfl, .of hh, lc_tail hin R1 hno e2 k (IteB K true a) H _ [] (.refl (E := []) R1) (walks_lent R1 hh d1)⟩
      · cases e
    · cases e
  · cases e
end
section
variable {X : Cx} {tl : TL} {elt : Expr} {elts ifs : List Expr} {kk : Nat} {tp : Pos} {scope : Scope} {pos p px pos2 : Pos} {own : List (Str × Nat)} {is : List Nat} {tg : GD} {tt : TD} {te : ED} {x : Str}
theorem i_lent (j : Nat) (hg : Gl X "enumerate") (hm : X.mg "enumerate" = none) (hN : X.N[j]? = some x := by rfl) (hv : Vis X.env.scope x := by first | exact Or.inl rfl | exact Or.inr (Or.inl rfl) | exact Or.inr (Or.inr rfl)) (hd : (x == ("__debug__" : Str)) = false := by decide) (hcd : (x == ("__classdict__" : Str)) = false := by decide)
    (h1 : starEach [.Name x px] X.env = (false, eval (.Name x px) X.env) :: starEach [] X.env := by rfl) (h2 : starEach [.Name x px] X.env = [(false, eval (.Name x px) X.env)] := by rfl) :
    PI X (.Tuple elts kk tp) (.Call (.Name "enumerate" p) [.Name x px] [] pos2) (iEnumB (X.D tl) (tCons (tVar j) tNil)) :=
  pi_enumB hg hm (pa_cons (pe_var hN hv hd hcd) pa_nil h1) h2
theorem s_setLcB (i : Nat) {j : Nat} {y : Str} {py spos : Pos} (hc : X.calm = true) (hN : X.N.Nodup) (hsw : swapsWith (.ListComp elt [⟨.Tuple elts kk tp, .Call (.Name "enumerate" p) [.Name x px] [] pos2, ifs, 0⟩] scope pos) (some (.Name y py)) spos.line X.env = pure true)
    (hi : PI X (.Tuple elts kk tp) (.Call (.Name "enumerate" p) [.Name x px] [] pos2) (iEnumB (X.D tl) (tCons (tVar j) tNil))) (ok : BlkOk X.N X.env.scope scope own) (hin : ∀ i ∈ is, i ∈ own.map (·.2))
    (hg : ∀ (s : Shared) (H : Hp) (C : Addr) (cl : List (Str × Addr)) (fp : List Addr), PG (X.blk s H scope (compEnvC scope cl C X.env) fp) (.Tuple elts kk tp) (RG (X.D tl) is tg)) (ht : ∀ (s : Shared) (H : Hp) (C : Addr) (cl : List (Str × Addr)) (fp : List Addr), PTs (X.blk s H scope (compEnvC scope cl C X.env) fp) ifs (RT (X.D tl) tt))
    (he : ∀ (s : Shared) (H : Hp) (C : Addr) (cl : List (Str × Addr)) (fp : List Addr), PE (X.blk s H scope (compEnvC scope cl C X.env) fp) elt (RD (X.D tl) te)) (hs : ∀ x', foldedSetIterable (.Call (.Name "enumerate" p) [.Name x px] [] pos2) X.env x' = pure x' := by intro _; rfl)
    (hy : X.N[i]? = some y := by rfl) (hyl : X.env.scope.names.lookup y = some .local := by rfl) :
    PS X (.Assign [.Name y py] (.ListComp elt [⟨.Tuple elts kk tp, .Call (.Name "enumerate" p) [.Name x px] [] pos2, ifs, 0⟩] scope pos) spos) (RS (X.D tl) (setS i (lcB j (own.map (·.2)) tg tt te))) :=
  (ps_setLc hc hN hy hyl hsw hi ok hg ht he hs).imp fun D σ H h => by
    obtain ⟨P, B, L, ρ, o, R, e, k⟩ := h
    obtain ⟨⟨r, ρ1⟩, e1, e2⟩ := Option.bind_eq_some_iff.mp e
    obtain ⟨ρ2, e3, e4⟩ := Option.map_eq_some_iff.mp e2
    subst e4
    refine lcB_imp hin ⟨P, B, L, ρ, r, ρ1, R, e1, fun x' H' L' E' p v => ?_⟩
    obtain ⟨E2, Lb, R2, h1, h2, _⟩ := stV_of p.rep v e3
    exact k _ H' Lb R2.drop (step_more p.step p.esub h2)
end
end DL
end
noncomputable section
namespace DL
open PySem PySem.Spec PyProof.Rows L2 LamX
section
variable {X : Cx} {pins : List (Addr × Obj)} {s : Shared} {σ : L2.St} {H : Hp}
/-- the tables' names stay where one table grows by a code object of its own name, and a new code object is told -/
theorem keep_grown {P c' : Addr} {ps : Array Value} {pos : Pos} (hP : H P = some (.tbl ps)) (hc : H c' = none) : Keep [] H (upd (upd H P (.tbl (ps ++ #[rawInt pos.line, rawInt pos.col, .ref c']))) c' (CodeO c' (nameAt P))) := by
  have nPc : P ≠ c' := ne_of_none hP hc
  have old : ∀ b o, H b = some o → (∀ qs, o ≠ .tbl qs) → upd (upd H P (.tbl (ps ++ #[rawInt pos.line, rawInt pos.col, .ref c']))) c' (CodeO c' (nameAt P)) b = some o := fun b o e n => by
    have b1 : b ≠ c' := ne_of_none e hc
    have b2 : b ≠ P := fun z => by
      subst z
      rw [hP] at e
      exact n ps (Option.some.inj e).symm
    rw [upd_ne b1, upd_ne b2]; exact e
  refine ⟨fun b o e _ n => old b o e n, fun T t b hb => ?_, fun b hb => ?_⟩
  · obtain ⟨qs, q1, q2, q3⟩ := t b hb
    by_cases z : b = P
    · subst z
      rw [hP] at q1
      cases q1
      have eL : (ps ++ #[rawInt pos.line, rawInt pos.col, .ref c']).toList = ps.toList ++ [rawInt pos.line, rawInt pos.col, .ref c'] := by simp
      refine ⟨_, by rw [upd_ne nPc, upd_same], by rw [eL]; exact TriplesOk_snoc _ _ _ _ q2, fun p2 cv h2 => ?_⟩
      rw [eL] at h2
      rcases among_app (pos := pos) ps.toList q2 h2 with h3 | h3
      · obtain ⟨d, d1, d2⟩ := q3 p2 cv h3
        exact ⟨d, d1, old _ _ d2 codeO_ne⟩
      · exact ⟨c', h3, upd_same⟩
    · refine ⟨qs, by rw [upd_ne (ne_of_none q1 hc), upd_ne z]; exact q1, q2, fun p2 cv h2 => ?_⟩
      obtain ⟨d, d1, d2⟩ := q3 p2 cv h2
      exact ⟨d, d1, old _ _ d2 codeO_ne⟩
  · by_cases z : b = c'
    · rw [z, upd_same]; exact fun y => nomatch y
    · by_cases z2 : b = P
      · rw [upd_ne z, z2, upd_same]; exact fun y => nomatch y
      · rw [upd_ne z, upd_ne z2]; exact hb
theorem lam_made {c P : Addr} {params : Arguments} {body : Expr} {scope : Scope} {pos : Pos} {E : Value → Shared → Prop} {Q : Value → Shared → Prop} (I : Inv X pins σ H s) (TB : TabB X.base X.mg c P) (hcode : X.env.code = .ref c) (hP : TabS H P (nameAt P)) (hq : nameAt P = X.env.qual ++ "<lambda>")
    (hdef : defaultsOf params X.env = ([], [])) (hfree : ∀ y ∈ scope.names, y.2 = .free → ∃ c, X.env.cells.lookup y.1 = some c)
    (go : ∀ (f c' : Addr) (pm ctv : Value) (H1 : Hp) (s' : Shared), Inv X pins σ H1 s' → Keep [] H H1 → (∀ b o, b ≠ P → s.heap.get? b = some o → s'.heap.get? b = some o) →
      s'.heap.get? f = some (PySem.W.kla_obj "<lambda>" (nameAt P) params body scope (cloFrom X.env.cells scope.names []) pm c' ctv) → H1 c' = some (CodeO c' (nameAt P)) → Q (.ref f) s') :
    wpAny (model X.prog X.w) X.A (eval (.Lambda params body scope pos) X.env) Q E s := by
  obtain ⟨ps, p1, p2, p3⟩ := hP
  have nb : s.heap.BuiltinsAt X.mg P := TB.bm.keeps I.bk
  have atP : s.heap.get? P = some { cls := .none, data := .fields ps } := I.hok P _ p1
  apply PySem.W.kla_eval hdef
  cases look : codeAmong pos ps.toList with
  | some cv =>
    obtain ⟨d, rfl, d2⟩ := p3 pos cv look
    apply PySem.W.kla_makeFunctionHit (mg := X.mg) (c := c) (P := P) (ps := ps) (closure_ok hfree) I.ok.glob (I.mod.glob.keeps I.bk) hcode (TB.code.keeps I.bk) atP p2 look nb
    intro ctv h' tk kp _
    rw [← hq]
    exact go _ d _ ctv H _ (I.kept (t' := tk) fun b o e => Heap.get?_push_of_some _ (kp b o e)) keep_refl (fun b o _ e => Heap.get?_push_of_some _ (kp b o e)) (Heap.get?_push_size _ rfl) d2
  | none =>
    apply PySem.W.kla_makeFunction (mg := X.mg) (c := c) (P := P) (ps := ps) (closure_ok hfree) I.ok.glob (I.mod.glob.keeps I.bk) hcode (TB.code.keeps I.bk) atP p2 look TB.gP nb
    rintro c' ctv h' tk kp ge lt ⟨_, oc, vs, t, e2, o1, o2, o3⟩ tb
    cases e2
    rw [← hq] at o3 ⊢
    have fresh : H c' = none := I.hok.fresh ge
    exact go _ c' _ ctv _ _ (inv_table (t' := tk) (more := #[rawInt pos.line, rawInt pos.col, .ref c']) I p1 (fun b o hb e => Heap.get?_push_of_some _ (kp b o hb e)) (Heap.get?_push_of_some _ tb) ge ⟨oc, vs, t, Heap.get?_push_of_some _ o1, o2, o3⟩) (keep_grown p1 fresh) (fun b o hb e => Heap.get?_push_of_some _ (kp b o hb e)) (Heap.get?_push_size _ rfl) upd_same
end
/-- all that was stays, and the pair of a whole number and of a name's own one is new -/
def PairNew (i t : Int) (s : Shared) (v : Value) (s' : Shared) : Prop := ∃ h' tk, s' = { s with heap := h', toks := tk } ∧ (∀ b o, s.heap.get? b = some o → h'.get? b = some o) ∧ ∃ p t1 t2, v = .ref p ∧ IsTup h' p #[.int i t1, .int t t2]
section
variable {prog : Program} {w : World} {A : Around} {E : Value → Shared → Prop} {s : Shared}
/-- the pair (y[x], x), y a captured name, x an own one -/
theorem pair_body {env : PySem.Env} {x y : Str} {m : Str → Option Value} {c a : Addr} {items : Array Value} {j : Nat} {i : Int} {u t1 : Tok} {p1 p2 p3 p4 p5 : Pos} {kk : Nat} (hk : env.scope.kind = .function) (hx : env.kindOf x = some .local) (hn : s.heap.Ns env.locals m) (hm : m x = some (.int (j : Int) u))
    (hy : env.kindOf y = some .free) (hc : env.cells.lookup y = some c) (hcell : s.heap.IsCell c (some (.ref a))) (hT : IsTup s.heap a items) (hj : items[j]? = some (.int i t1)) (hz : j < 2 ^ 62)
    (dx : (x == ("__debug__" : Str)) = false) (dy : (y == ("__debug__" : Str)) = false) (cy : (y == ("__classdict__" : Str)) = false) :
    wpAny (model prog w) A (eval (.Tuple [.Subscript (.Name y p1) (.Name x p2) p3, .Name x p4] kk p5) env) (PairNew i j s) E s := by
  have ex : ∀ {Q : Value → Shared → Prop}, Q (.int j u) s → ∀ {p : Pos}, wpAny (model prog w) A (eval (.Name x p) env) Q E s := fun q _ => wpAny_Name (wpAny_loadName_local hk hx hn hm q) dx
  refine wpAny_Tuple_spliced ?_
  refine Calls.spliced_cons (Subscript_ (wpAny_Name (wpAny_loadName_free hk hy hc hcell ?_ cy) dy)) 
  refine ex ?_
  refine subscriptTail_builtin hT.typeIs PyProof.Rows.slot_tuple_getitem.lookup (PyProof.Rows.getItem_tuple (j := j) hT (by omega) (by omega) ?_ hj ?_)
  · have := (Array.getElem?_eq_some_iff.mp hj).1
    have e := seqIndex_of (k := (j : Int)) (show (0 : Int) ≤ (j : Int) by omega) (show ((j : Int)) < (items.size : Int) by omega)
    simpa using e
  · refine Calls.spliced_cons (ex ?_)
    refine Calls.spliced_nil ⟨by show 2 ≤ sizeLine; rw [sizeLine_eq]; decide, ?_⟩
    exact ⟨_, s.toks, rfl, fun b o e => Heap.get?_push_of_some _ e, _, _, _, rfl, IsTup.new _ _⟩
theorem PairNew.from {i t : Int} {h₁ : Heap} {tk : Nat} {v : Value} {s' : Shared} (kp : ∀ b o, s.heap.get? b = some o → h₁.get? b = some o) (h : PairNew i t { s with heap := h₁, toks := tk } v s') : PairNew i t s v s' := by
  obtain ⟨h', tk', rfl, k, r⟩ := h
  exact ⟨h', tk', rfl, fun b o e => k b o (kp b o e), r⟩
/-- a lambda with one parameter x and the body (y[x], x), called -/
theorem pair_call {q x y : Str} {params : Arguments} {scope : Scope} {cl : List (Str × Addr)} {pm ctv : Value} {f c' c a : Addr} {items : Array Value} {j : Nat} {i : Int} {u t1 : Tok} {p1 p2 p3 p4 p5 : Pos} {kk : Nat} (room : A.depth < recursionLimit)
    (hf : s.heap.get? f = some (PySem.W.kla_obj "<lambda>" q params (.Tuple [.Subscript (.Name y p1) (.Name x p2) p3, .Name x p4] kk p5) scope cl pm c' ctv)) (hcode : ∃ (oc : Obj) (vs : Array Value) (t : Tok), s.heap.get? c' = some oc ∧ oc.data = .fields vs ∧ vs[1]? = some (.str q t)) (lim : s.heap.NoLimit)
    (hk : scope.kind = .function) (hco : scope.isCoroutine = false) (hgen : scope.isGenerator = false) (hno : ∀ z ∈ scope.names, z.2 ≠ .cell) (hx : scope.names.lookup x = some .local) (hy : scope.names.lookup y = some .free)
    (hbind : ∀ v, bindArgs (PySem.W.kla_fn "<lambda>" q params (.Tuple [.Subscript (.Name y p1) (.Name x p2) p3, .Name x p4] kk p5) scope cl pm (.ref c') ctv) ⟨[v], []⟩ = pure [(x, v)])
    (hc : cl.lookup y = some c) (hcell : s.heap.IsCell c (some (.ref a))) (hT : IsTup s.heap a items) (hj : items[j]? = some (.int i t1)) (hz : j < 2 ^ 62)
    (dx : (x == ("__debug__" : Str)) = false) (dy : (y == ("__debug__" : Str)) = false) (cy : (y == ("__classdict__" : Str)) = false) :
    wpAny (model prog w) A (call (.ref f) [.int (j : Int) u]) (PairNew i j s) E s := by
  obtain ⟨oc, vs, t, hoc, hdc, hvc⟩ := hcode
  have rc : codeAny (model prog w) A (.call (.ref f) ⟨[.int (j : Int) u], []⟩) (fun r s' => ∃ v, r = .ok (.ret v) ∧ PairNew i j s v s') s := by
    refine PySem.W.kla_callFunE room hf rfl hco hgen rfl ⟨c', oc, vs, t, rfl, hoc, hdc, hvc⟩ ?_
    rw [hbind]
    refine wpAny_pure (wpAny_newFunctionEnv hno (fun z hz => ?_) (fun h₁ hns hsb => ⟨lim.fresh _ hsb, ?_⟩) hk)
    · rw [show z = (x, _) from List.mem_singleton.mp hz]; exact hx
    · have kp : ∀ b o, s.heap.get? b = some o → h₁.get? b = some o := fun b o e => hsb.extBut b o (Nat.ne_of_lt (Heap.lt_size e)) (Heap.get?_push_of_some _ e)
      refine PySem.W.kla_codeExpr (wpAny_mono (pair_body (E := fun _ _ => False) (c := c) (a := a) (items := items) (j := j) (i := i) (u := u) (t1 := t1) hk hx hns (by simp [List.lookup]) hy hc (hcell.keeps kp) (hT.keeps kp) hj hz dx dy cy) (fun v s' hq => ⟨v, rfl, hq.from kp⟩) fun _ _ z => z.elim)
  refine wpAny_call (codeAny_mono rc fun r s' hq => ?_)
  obtain ⟨v, rfl, hq⟩ := hq
  exact hq
end
def keyN (ns : List Int) (t : Int) : PyData := .tuple [.int (ns.getD t.toNat 0), .int t]
def keyLe (ns : List Int) (p q : Int) : Bool := decide (ns.getD p.toNat 0 < ns.getD q.toNat 0 ∨ (ns.getD p.toNat 0 = ns.getD q.toNat 0 ∧ p ≤ q))
def upto (m : Nat) : List Int := (List.range m).map fun k : Nat => (k : Int)
def sortK (ns : List Int) (m : Nat) : List Int := (upto m).mergeSort (keyLe ns)
theorem keyLe_eq (ns : List Int) : PySem.W.dataLe false (keyN ns) = keyLe ns := PySem.W.dataLe_ii (β := Int) (fun t => ns.getD t.toNat 0) (fun t => t)
theorem sortK_length (ns : List Int) (m : Nat) : (sortK ns m).length = m := by
  unfold sortK upto
  rw [List.length_mergeSort, List.length_map, List.length_range]
theorem each_ints : ∀ {us : List Value} {ns : List Int}, PySem.W.EachIs (fun (v : Value) (i : Int) => ∃ t, v = .int i t) us ns → Vals (ns.map V.int) us
  | _, _, .nil => .nil
  | _, _, .cons h r => .cons h (each_ints r)
theorem each_upto {acc : Array Value} {m : Nat} (h : ItemsOf (fun i v => ∃ t, v = Value.int (0 + i * 1) t) acc m) : PySem.W.EachIs (fun (v : Value) (i : Int) => ∃ t, v = .int i t) acc.toList (upto m) := by
  have go : ∀ (us : List Value) (f : Nat → Int), (∀ (j : Nat) (u : Value), us[j]? = some u → ∃ t, u = Value.int (f j) t) → PySem.W.EachIs (fun (v : Value) (i : Int) => ∃ t, v = .int i t) us ((List.range us.length).map f) := by
    intro us
    induction us with
    | nil => intro f _; exact .nil
    | cons u us ih =>
      intro f hf
      rw [List.length_cons, List.range_succ_eq_map, List.map_cons, List.map_map]
      exact .cons (hf 0 u rfl) (ih (f ∘ Nat.succ) fun j v e => hf (j + 1) v e)
  have e : acc.toList.length = m := by rw [Array.length_toList]; exact h.1
  unfold upto
  rw [← e]
  refine go acc.toList _ fun j u hj => ?_
  obtain ⟨t, rfl⟩ := h.2 j u (by rw [← hj, Array.getElem?_toList])
  exact ⟨t, by rw [Int.mul_one, Int.zero_add]⟩
section
variable {X : Cx} {tl : TL} {pins : List (Addr × Obj)} {s : Shared} {σ : L2.St} {H : Hp} {Q : VK}
theorem PairNew.key {i t : Int} {ns : List Int} {v : Value} {s' : Shared} (e : i = ns.getD t.toNat 0) (h : PairNew i t s v s') : PySem.W.KeyPure (keyN ns t) s v s' := by
  obtain ⟨h', tk, rfl, kp, p, t1, t2, rfl, hp⟩ := h
  subst e
  obtain ⟨ob, ho, hc, n, hs⟩ := hp
  exact ⟨h', tk, rfl, kp, reads_tuple_at ho hc hs (by
    show ReadsAll h' [.int _ t1, .int t t2] [.int _, .int t] ([] ++ ([] ++ []))
    exact .cons (.int _ _) (.cons (.int _ _) .nil))⟩
theorem sorted_keyed {r f c' a c : Addr} {n : Int} {t u v : Tok} {ns : List Int} {x y q : Str} {params : Arguments} {scope : Scope} {cl : List (Str × Addr)} {pm ctv : Value} {items : Array Value} {p1 p2 p3 p4 p5 : Pos} {kk : Nat} (hA : X.A.handled = none) (room : X.A.depth < recursionLimit) (hu : X.A.units + 64 < cLine)
    (I : Inv X pins σ H s) (hr : IsRange s.heap r 0 n 1 t u v) (ok : RgOk 0 n)
    (hf : s.heap.get? f = some (PySem.W.kla_obj "<lambda>" q params (.Tuple [.Subscript (.Name y p1) (.Name x p2) p3, .Name x p4] kk p5) scope cl pm c' ctv)) (hco : H c' = some (CodeO c' q))
    (hk : scope.kind = .function) (ho : scope.isCoroutine = false) (hgen : scope.isGenerator = false) (hno : ∀ z ∈ scope.names, z.2 ≠ .cell) (hx : scope.names.lookup x = some .local) (hy : scope.names.lookup y = some .free)
    (hbind : ∀ (c' : Addr) v, bindArgs (PySem.W.kla_fn "<lambda>" q params (.Tuple [.Subscript (.Name y p1) (.Name x p2) p3, .Name x p4] kk p5) scope cl pm (.ref c') ctv) ⟨[v], []⟩ = pure [(x, v)])
    (hc : cl.lookup y = some c) (hcell : s.heap.IsCell c (some (.ref a))) (hT : IsTup s.heap a items) (hi : Vals (ns.map V.int) items.toList) (hn : n.toNat ≤ ns.length)
    (dx : (x == ("__debug__" : Str)) = false) (dy : (y == ("__debug__" : Str)) = false) (cy : (y == ("__classdict__" : Str)) = false)
    (k : ∀ p, H p = none → Q (.ref p) (upd H p (.lst ((sortK ns n.toNat).map V.int)))) :
    wpAny (model X.prog X.w) X.A (call (.builtin "sorted") [.ref r] [(Str.ofString "key", .ref f)]) (EP X pins σ Q) X.xe s := by
  obtain ⟨b1, b2, b3, b4, b5⟩ := ok
  have hsz := sizeLine_eq
  have e0 : (n - 0).toNat = n.toNat := by rw [Int.sub_zero]
  have lu : (upto n.toNat).length = n.toNat := by unfold upto; rw [List.length_map, List.length_range]
  refine sorted_from (R := fun us => PySem.W.EachIs (fun (v : Value) (i : Int) => ∃ t, v = .int i t) us (upto n.toNat)) (fun us hR => by rw [hR.length, lu]; omega) (PyProof.Rows.ksk_s1 _ _) (fun _ => PyProof.Rows.ksk_l1 _ _) (fun Q' q' => collect_range (n := n.toNat) hA hr (small_one b1 b2 b3 b4) (by rw [← e0]; exact rangeSize_nat 0 n) (by omega) fun h' tk acc kp hit => q' h' tk _ kp (each_upto hit)) fun h' tk us E' kp hR => ?_
  rw [PyProof.Rows.ksk_t1]
  have hob : (h'.push (seqObj "list" us.toArray 0)).get? h'.objs.size = some (seqObj "list" us.toArray 0) := Heap.get?_push_size _ rfl
  have old : ∀ {g : Heap}, PySem.W.KeepsBut h'.objs.size (h'.push (seqObj "list" us.toArray 0)) g → ∀ b o, s.heap.get? b = some o → g.get? b = some o := fun {g} kb b o e => kb b o (Nat.ne_of_lt (Heap.lt_size (kp b o e))) (Heap.get?_push_of_some _ (kp b o e))
  refine PySem.W.keyH_tree (kz := (upto n.toNat).map (keyN ns)) (s := { s with heap := h'.push (seqObj "list" us.toArray 0), toks := tk }) hob (by rw [List.length_map]; exact hR.length.symm) (by rw [hR.length, lu]; omega) (PySem.W.AllAlike.of fun _ _ => by simp [PySem.W.alike, PySem.W.alikeAll, keyN]) (PySem.W.Sortable.tuples fun _ => ⟨_, _, rfl⟩) (fun d hd => ?_)
    (PySem.W.keyH_turns (s := { s with heap := h'.push (seqObj "list" us.toArray 0), toks := tk }) hR fun w i hw hi2 g tg kb => ?_) fun h2 tk2 out c2 kb hD ko => ⟨rfl, ?_⟩
  · obtain ⟨i, _, rfl⟩ := List.mem_map.mp hd
    have hd2 : (keyN ns i).depth = 1 := by simp [keyN, PyData.depth, PyData.depthAll]
    rw [hd2]
    show X.A.units + 1 + 1 + 1 < cLine
    omega
  · obtain ⟨t3, rfl⟩ := hw
    obtain ⟨j, hj, rfl⟩ : ∃ j, j < n.toNat ∧ i = (j : Int) := by
      unfold upto at hi2
      obtain ⟨j, hj, rfl⟩ := List.mem_map.mp hi2
      exact ⟨j, List.mem_range.mp hj, rfl⟩
    have kg := old kb
    obtain ⟨oc, vs, tq, o1, o2, o3⟩ := (I.hok c' _ hco).1
    obtain ⟨w3, hw3, rw3⟩ := hi.get (i := j) (x := V.int (ns.getD j 0)) (by rw [List.getElem?_map, List.getElem?_eq_getElem (by omega)]; simp [List.getD_eq_getElem?_getD, List.getElem?_eq_getElem (show j < ns.length by omega)])
    obtain ⟨t4, rfl⟩ := rw3
    refine wpAny_mono (pair_call (s := { s with heap := g, toks := tg }) (i := ns.getD j 0) (j := j) (u := t3) (t1 := t4) (c := c) (a := a) (items := items) (by exact room) (kg _ _ hf) ⟨oc, vs, tq, kg _ _ o1, o2, o3⟩ (I.nolimit.keeps kg) hk ho hgen hno hx hy (hbind c') hc (hcell.keeps kg) (hT.keeps kg) (by rw [← hw3, Array.getElem?_toList]) (by omega) dx dy cy) (fun v s' h => h.key (by simp)) fun _ _ z => z
  · have out1 := PySem.W.keyedOut_each (keyN ns) ko hR
    rw [keyLe_eq] at out1
    have I1 : Inv X pins σ H { s with heap := h', toks := tk } := I.kept kp
    refine ⟨.ref _, upd H h'.objs.size (.lst ((sortK ns n.toNat).map V.int)), I1.laid (t' := tk2) (fun b o e => kb b o (Nat.ne_of_lt (Heap.lt_size e)) (Heap.get?_push_of_some _ e)) (Nat.le_refl _) ⟨?_, out, c2, each_ints out1, hD⟩, rfl, k _ (I1.hok.fresh (Nat.le_refl _))⟩
    rw [List.length_map, sortK_length]; omega
end
/-- sorted(range(n), key=..): n, then the slot of the row -/
def srtKD (f : ED) (j : Nat) : ED := fun ρ => (f ρ).bind fun p => match p.1, p.2.getD j .no with
  | .cl (.int n), .cl (.tuple ds) => (intsOf ds).bind fun ns => if (-lim ≤ n ∧ n ≤ lim) ∧ n.toNat ≤ ns.length then some (.own ((sortK ns n.toNat).map .int), p.2) else none
  | _, _ => none
section
variable {X : Cx} {tl : TL} {a : Expr} {f : ED} {x y : Str} {params : Arguments} {scope : Scope} {pos p p2 pos2 lpos kpos p1 q2 p3 p4 p5 : Pos} {kk : Nat}
theorem d_srtK (j : Nat) {c P : Addr} (TB : TabB X.base X.mg c P) (hcode : X.env.code = .ref c) (hP : P ∈ tl) (hq : nameAt P = X.env.qual ++ "<lambda>") (room : X.A.depth < recursionLimit) (hu : X.A.units + 64 < cLine)
    (hc : X.calm = true) (hg : Gl X "sorted") (hm : X.mg "sorted" = none) (hg2 : Gl X "range") (hm2 : X.mg "range" = none) (ha : PE X a (RD (X.D tl) f))
    (hN : X.N[j]? = some y := by rfl) (hcl : X.env.scope.names.lookup y = some .cell := by rfl) (hlook : (cloFrom X.env.cells scope.names []).lookup y = some ((X.env.cells.lookup y).getD 0) := by rfl)
    (hdef : defaultsOf params X.env = ([], []) := by rfl) (hfree : ∀ z ∈ scope.names, z.2 = .free → z.1 = y := by decide)
    (hk : scope.kind = .function := by rfl) (ho : scope.isCoroutine = false := by rfl) (hgen : scope.isGenerator = false := by rfl) (hno : ∀ z ∈ scope.names, z.2 ≠ .cell := by decide) (hx : scope.names.lookup x = some .local := by rfl) (hy : scope.names.lookup y = some .free := by rfl)
    (hbind : ∀ (pm ctv : Value) (c' : Addr) v, bindArgs (PySem.W.kla_fn "<lambda>" (nameAt P) params (.Tuple [.Subscript (.Name y p1) (.Name x q2) p3, .Name x p4] kk p5) scope (cloFrom X.env.cells scope.names []) pm (.ref c') ctv) ⟨[v], []⟩ = pure [(x, v)] := by intros; rfl)
    (dx : (x == ("__debug__" : Str)) = false := by decide) (dy : (y == ("__debug__" : Str)) = false := by decide) (cy : (y == ("__classdict__" : Str)) = false := by decide)
    (na : starEach [a] X.env = (false, eval a X.env) :: starEach [] X.env := by rfl)
    (nb : starEach [.Call (.Name "range" p2) [a] [] pos2] X.env = (false, eval (.Call (.Name "range" p2) [a] [] pos2) X.env) :: starEach [] X.env := by rfl) :
    PE X (.Call (.Name "sorted" p) [.Call (.Name "range" p2) [a] [] pos2] [⟨some "key", .Lambda params (.Tuple [.Subscript (.Name y p1) (.Name x q2) p3, .Name x p4] kk p5) scope lpos, kpos⟩] pos) (RD (X.D tl) (srtKD f j)) := by
  refine ⟨fun pins s σ H Q I h => ?_⟩
  obtain ⟨P0, B, L, ρ, r, ρ', R0, e, k⟩ := h
  obtain ⟨⟨r1, ρ1⟩, e1, e2⟩ := Option.bind_eq_some_iff.mp e
  simp only at e2
  split at e2
  case h_2 => cases e2
  rename_i n ds h2
  obtain ⟨ns, e3, e4⟩ := Option.bind_eq_some_iff.mp e2
  split at e4
  case isFalse => cases e4
  rename_i hz
  cases e4
  have hlim := lim_eq
  have ok : RgOk 0 n := ⟨by omega, by omega, by omega, by omega, by omega⟩
  refine wpAny_Call_Name_kw (ld_blt I hg hm boot_sorted ?_)
  refine callWith_kw ?_ (by rw [nb]; rfl) (by rw [nb]; rfl) (by rfl) (by rfl)
  have hr1 : tRg1 (RD (X.D tl) f) σ H fun b d H1 => b = 0 ∧ d = n ∧ ∃ L1 E1, Post (X.D tl) P0 B L σ H [] ρ' H1 L1 E1 := ⟨P0, B, L, ρ, _, ρ', R0, e1, fun x' H1 La Ea p1 v1 => ⟨n, v1.int, rfl, rfl, La, Ea, p1⟩⟩
  rw [nb]
  refine Calls.spliced_cons (thn (prg_1 hg2 hm2 ha na pins s σ H _ I hr1) fun xv s1 ⟨r, b, d, t, u, v, H1, ex, hr, I1, eb, ed, L1, E1, p1⟩ => Calls.spliced_nil ?_)
  subst ex eb
  cases ed
  show wpAny _ _ (evalAll ((do let v ← eval (.Lambda params (.Tuple [.Subscript (.Name y _) (.Name x q2) p3, .Name x p4] kk p5) scope lpos) X.env; standAt pos; pure v) :: [])) _ _ s1
  have tabs : Tabs tl H1 := p1.rep.tabs
  obtain ⟨cy', hcy⟩ := I1.ok.has y (.inl hcl)
  have hfr : ∀ z ∈ scope.names, z.2 = .free → ∃ c, X.env.cells.lookup z.1 = some c := fun z hz e => ⟨cy', by rw [hfree z hz e]; exact hcy⟩
  obtain ⟨ps, hps, _⟩ := tabs P hP
  refine wpAny_evalAll_cons (wpAny_bind (lam_made I1 TB hcode (tabs P hP) hq hdef hfr fun fa c' pm ctv H2 s2 I2 kp raw hf hco => wpAny_bind (wpAny_standAt (wpAny_pure (wpAny_evalAll_nil ?_)))))
  have rP : r ≠ P := fun z => by
    have q1 := I1.hok P _ hps
    rw [← z] at q1
    have q2 : s1.heap.get? r = some _ := hr
    rw [q1] at q2
    cases q2
  have hr2 := raw r _ rP hr
  have R2 := p1.rep.same kp
  -- the row
  have rowOk := R2.ok j
  rw [h2] at rowOk
  obtain ⟨vr, ev, dv⟩ := rowOk
  obtain ⟨vs', rfl⟩ : ∃ b, vr = V.ref b := by cases dv; exact ⟨_, rfl⟩
  obtain ⟨xs, hTd, dAll⟩ : ∃ xs, TupD H2 vs' xs ∧ DqA (X.D tl) H2 (E1 ++ P0 ++ B ++ L1) xs ds := by
    cases dv with
    | tup h1 h3 => exact ⟨_, h1, h3⟩
  obtain ⟨rfl, rfl⟩ := ints_of dAll e3
  obtain ⟨its, rv, hT, _⟩ := I2.tuple (hTd.sq (K := X.K))
  obtain ⟨m, _, hl⟩ := I2.loc
  obtain ⟨w, rw', l⟩ := hl j y _ hN ev (.inr (.inl hcl))
  cases rw'
  have cell : s2.heap.IsCell cy' (some (.ref vs')) := by
    rcases l with ⟨hk', _⟩ | ⟨_, c3, hc3, hcell⟩
    · rw [show X.env.kindOf y = _ from hcl] at hk'; cases hk'
    · rw [hcy] at hc3; cases hc3; exact hcell
  have hlk : (cloFrom X.env.cells scope.names []).lookup y = some cy' := by rw [hlook, hcy]; rfl
  exact sorted_keyed (I2.ok.hd hc) room hu I2 hr2 ok hf hco hk ho hgen hno hx hy (hbind pm ctv) hlk cell hT (by simpa using rv) hz.2 dx dy cy fun p' hp' => ((k.after p1).after (Post.same p1.rep kp)).lst R2 (DqA.of_ints _) hp'
end
end DL
end
noncomputable section
namespace DL
open PySem PySem.Spec PyProof.Rows L2
/-- a block within a block: the outer one's names -/
def relab (sc scope : Scope) : Scope := { scope with names := scope.names.map fun y => if (y.2 == .free && sc.kind == .function && sc.names.lookup y.1 == some .cell) then (y.1, .cell) else y }
theorem relab_eq (scope : Scope) (env : PySem.Env) : relabel scope env = relab env.scope scope := by
  unfold relabel relab
  congr 1
theorem blkOk_nest {X : Cx} {N : List Str} {sc : Scope} {s : Shared} {H : Hp} {scope0 scope : Scope} {C : Addr} {cl : List (Str × Addr)} {fp : List Addr} {own : List (Str × Nat)} (hN : X.N = N) (hs : X.env.scope = sc) (h : blkC N (relab sc scope0) scope own = true) :
    BlkOk (X.blk s H scope0 (compEnvC scope0 cl C X.env) fp).N (X.blk s H scope0 (compEnvC scope0 cl C X.env) fp).env.scope scope own := by
  subst hN hs
  show BlkOk X.N (relabel scope0 X.env) scope own
  rw [relab_eq]
  exact blkOk_by h
structure DefC (K : Fg) (mg : Str → Option Value) (x : Str) (st : Stmt) (ps : List Str) (c : Addr) : Prop where
  ex : ∃ f fd, Fun K x x st f fd ∧ mg x = some (.ref f) ∧ PySem.W.keepIn K (.ref f) = true ∧ Binds K fd ps [] ∧ fd.code = .ref c
theorem Ok.pureC {P : Program} {w : World} {K : Fg} {mg : Str → Option Value} {base : Heap} {x : Str} {st : Stmt} {N ps : List Str} {c : Addr} {k n : Nat} {g : SD} (D : DefC K mg x st ps c) (S : FnScope N ps (defScope st)) (hn : ps.length = n) (hN : n ≤ N.length)
    (hb : ∀ (f : Addr) (A : Around) (outer : List PySem.Env) (s : Shared) (H : Hp) (E : XK), (A.deeper (envOfC x (defScope st) s.heap.objs.size f (.ref c))).guards = some [] → Room k (A.deeper (envOfC x (defScope st) s.heap.objs.size f (.ref c))) →
      PSs (cxOf CX0 P w K mg base N x (defScope st) f (.ref c) A outer s H E).nox (defBody st) (RS K g)) : Ok P w K mg base (k + 1) x ps (spP K n (runP N.length g)) := by
  obtain ⟨f, fd, F, h1, h2, h3, h4⟩ := D.ex
  refine ⟨f, fd, FnG.body F S (fun vs H Q E h => h.1.trans hn.symm) (fun cdv A outer s H vs Q E hc hA hr h => ?_), h1, h2, h3⟩
  rw [h4] at hc
  subst hc
  exact ⟨_, (hb f A outer s H E hA hr).nox, rs_runP hN h⟩
end DL
end
noncomputable section
namespace LW
open PySem L2 DL
/-- known_sizes(knowledge); slots: knowledge word -/
def g_known_sizes : SD :=
  (retS (callD (acons (lcD [1] (seqI (binD (varD 0) (conD (.int 1)) ixG)) (nameT 1) yesT (binD (varD 1) (unD (conD (.int 1)) negG) ixG)) anil) (oneG tupleG)))
def F_known_sizes : FP := runP 2 g_known_sizes
/-- greater_ones(one, other); slots: one other number more -/
def g_greater_ones : SD :=
  (retS (lcD [2, 3] (zipI (acons (varD 0) (acons (varD 1) anil))) (tupT [2, 3]) yesT (iteD (testD (binD (varD 2) (varD 3) (intG (i2b fun i j => decide (j < i))))) (varD 2) (varD 3))))
def F_greater_ones : FP := runP 4 g_greater_ones
/-- _law_take(_law_bag_here, _law_many); slots: _law_bag_here _law_many _law_cell _law_stirred _law_value _law_begin _law_second -/
def g__law_take : SD :=
  (seqS (ifS (testD (binD (binD (varD 0) (conD (.int 0)) ixG) (conD (.int 0)) (eqQ false))) (seqS (setS 2 (binD (binD (sliceD (binD (varD 0) (conD (.int 3)) ixG) (aP (binD (varD 0) (conD (.int 2)) ixG)) noP cutG) (lstD (acons (conD (.int 0)) anil)) addG) (conD (.int 0)) ixG))
    (seqS (augIx 0 (conD (.int 2)) (conD (.int 1)) (fun i j => i + j))
    (seqS (ifS (testD (binD (varD 2) (binD (conD (.int 10)) (conD (.int 18)) (intG powG)) (intG (i2b fun i j => decide (j ≤ i))))) (setIx 0 (conD (.int 0)) (varD 2)) nilS)
    (seqS (setS 3 (binD (binD (binD (binD (varD 0) (conD (.int 1)) ixG) (conD (.int 48271)) mulG) (binD (callD (acons (varD 2) anil) (oneG intTG)) (conD (.int 2147483647)) (intG modG)) addG) (binD (conD (.int 7919)) (binD (varD 0) (conD (.int 2)) ixG) mulG) addG))
    (setIx 0 (conD (.int 1)) (binD (callD (acons (varD 3) anil) (oneG intTG)) (conD (.int 2147483647)) (intG modG))))))) nilS)
    (seqS (ifS (testD (binD (binD (varD 0) (conD (.int 0)) ixG) (conD (.int 0)) (intG (i2b fun i j => decide (j < i))))) (seqS (setS 4 (binD (callD (acons (binD (varD 0) (conD (.int 0)) ixG) anil) (oneG intTG)) (varD 1) (intG modG)))
    (seqS (setIx 0 (conD (.int 0)) (binD (callD (acons (binD (varD 0) (conD (.int 0)) ixG) anil) (oneG intTG)) (varD 1) (intG fdivG)))
    (retS (varD 4)))) nilS)
    (seqS (setS 5 (binD (callD (acons (binD (binD (binD (varD 0) (conD (.int 1)) ixG) (conD (.int 1)) addG) (conD (.int 39373)) mulG) anil) (oneG intTG)) (conD (.int 1000000007)) (intG modG)))
    (seqS (setS 6 (binD (callD (acons (binD (binD (callD (acons (binD (varD 5) (varD 5) mulG) anil) (oneG intTG)) (conD (.int 998244353)) (intG modG)) (conD (.int 30011)) mulG) anil) (oneG intTG)) (conD (.int 998244353)) (intG modG)))
    (retS (binD (callD (acons (binD (varD 6) (conD (.int 7)) (intG fdivG)) anil) (oneG intTG)) (varD 1) (intG modG)))))))
def F__law_take : FM := runM 7 g__law_take
/-- _law_one(_law_bag_here, _law_things); slots: _law_bag_here _law_things -/
def g__law_one : SD :=
  (retS (binD (varD 1) (callM 0 1 F__law_take (acons (callD (acons (varD 1) anil) (oneG lenG)) anil)) ixG))
def F__law_one : FM := runM 2 g__law_one
/-- _law_tightened(_law_rows_here, _law_sizes); slots: _law_rows_here _law_sizes _law_floors _law_many _law_words _law_row _law_size _law_word _law_ahead _law_count _law_one_here _law_floor _law_more _law_other -/
def g__law_tightened : SD :=
  (seqS (parS [2, 3, 4] (acons (callD (acons (varD 0) anil) (oneG lenG)) (acons (binD (callD (acons (binD (varD 0) (conD (.int 0)) ixG) anil) (oneG lenG)) (conD (.int 1)) (intG (i2i fun i j => i - j))) (acons (lstD anil) anil))))
    (seqS (ifS (testD (binD (lcD [10, 13] (zipI (acons (binD (tupD (acons (conD (.int 0)) anil)) (varD 1) addG) (acons (varD 1) anil))) (tupT [10, 13]) (testD (binD (varD 13) (varD 10) (intG (i2b fun i j => decide (i < j))))) (conD (.int 1))) (lstD anil) (eqQ true))) (retS (conD .none)) nilS)
    (seqS (forS (zipI (acons (varD 0) (acons (varD 1) anil))) (tupT [5, 6]) (seqS (parS [7, 8] (acons (lstD anil) (acons (conD (.int 0)) anil)))
    (seqS (forS (enumI (acons (varD 5) anil)) (tupT [9, 10]) (seqS (setS 8 (callD (acons (varD 8) (acons (varD 10) (acons (binD (binD (varD 6) (varD 3) (intG (i2i fun i j => i - j))) (varD 9) addG) anil))) (threeG mx3)))
    (dropS (metD 7 (acons (varD 8) anil) appG))))
    (seqS (forS (rng3I (acons (binD (varD 3) (conD (.int 1)) (intG (i2i fun i j => i - j))) (acons (unD (conD (.int 1)) negG) (acons (unD (conD (.int 1)) negG) anil)))) (nameT 9) (setIx 7 (varD 9) (callD (acons (binD (varD 7) (varD 9) ixG) (acons (binD (binD (varD 7) (binD (varD 9) (conD (.int 1)) addG) ixG) (conD (.int 1)) (intG (i2i fun i j => i - j))) anil)) max2G)))
    (dropS (metD 4 (acons (varD 7) anil) appG))))))
    (seqS (forS (rng2I (acons (conD (.int 1)) (acons (varD 2) anil))) (nameT 11) (setIx 4 (varD 11) (lcD [10, 13] (zipI (acons (binD (varD 4) (varD 11) ixG) (acons (binD (varD 4) (binD (varD 11) (conD (.int 1)) (intG (i2i fun i j => i - j))) ixG) anil))) (tupT [10, 13]) yesT (callD (acons (varD 10) (acons (varD 13) anil)) max2G))))
    (seqS (forS (rng3I (acons (binD (varD 2) (conD (.int 2)) (intG (i2i fun i j => i - j))) (acons (unD (conD (.int 1)) negG) (acons (unD (conD (.int 1)) negG) anil)))) (nameT 11) (seqS (setS 12 (binD (binD (varD 1) (binD (varD 11) (conD (.int 1)) addG) ixG) (binD (varD 1) (varD 11) ixG) (intG (i2i fun i j => i - j))))
    (setIx 4 (varD 11) (lcD [10, 13] (zipI (acons (binD (varD 4) (varD 11) ixG) (acons (binD (varD 4) (binD (varD 11) (conD (.int 1)) addG) ixG) anil))) (tupT [10, 13]) yesT (callD (acons (varD 10) (acons (binD (varD 13) (varD 12) (intG (i2i fun i j => i - j))) anil)) max2G)))))
    (seqS (forS (zipI (acons (varD 4) (acons (varD 1) anil))) (tupT [7, 6]) (ifS (testD (binD (lcD [9, 10] (enumI (acons (varD 7) anil)) (tupT [9, 10]) (testD (binD (varD 10) (callD (acons (varD 9) (acons (varD 6) anil)) min2G) (intG (i2b fun i j => decide (j < i))))) (conD (.int 1))) (lstD anil) (eqQ true))) (retS (conD .none)) nilS))
    (retS (callD (acons (lcD [7] (seqI (varD 4)) (nameT 7) yesT (callD (acons (varD 7) anil) (oneG tupleG))) anil) (oneG tupleG)))))))))
def F__law_tightened : FP := runP 14 g__law_tightened
/-- _law_alike(_law_found, _law_due); slots: _law_found _law_due -/
def g__law_alike : SD :=
  (retS (andD (binD (varD 0) (varD 1) (eqQ false)) (binD (callD (acons (varD 0) anil) (oneG repG)) (callD (acons (varD 1) anil) (oneG repG)) (eqQ false))))
def F__law_alike : FP := runP 2 g__law_alike
/-- _law_mixed(_law_bag_here, _law_things); slots: _law_bag_here _law_things _law_found _law_thing -/
def g__law_mixed : SD :=
  (seqS (setS 2 (lstD anil))
    (seqS (forS (seqI (varD 1)) (nameT 3) (dropS (metD 2 (acons (callM 0 1 F__law_take (acons (binD (callD (acons (varD 2) anil) (oneG lenG)) (conD (.int 1)) addG) anil)) (acons (varD 3) anil)) insG)))
    (retS (varD 2))))
def F__law_mixed : FM := runM 4 g__law_mixed
/-- _law_tight_known(_law_bag_here, _law_house_here); slots: _law_bag_here _law_house_here _law_order _law_sizes _law_size _law_rooms _law_turn _law_rows_here _law_drawn _law_words _law_count _law_way -/
def g__law_tight_known : SD :=
  (seqS (parS [2, 3, 4] (acons (callD (acons (callM 0 1 F__law_mixed (acons (lstR1 (binD (varD 1) (conD (.int 0)) ixG)) anil)) anil) (oneG tupleG)) (acons (lstD anil) (acons (conD (.int 0)) anil))))
    (seqS (forS (seqI (binD (varD 1) (conD (.int 1)) ixG)) (nameT 5) (seqS (setS 4 (callD (acons (binD (varD 1) (conD (.int 0)) ixG) (acons (binD (varD 4) (callM 0 1 F__law_one (acons (lstD (acons (varD 5) (acons (varD 5) (acons (callM 0 1 F__law_take (acons (binD (varD 5) (conD (.int 1)) addG) anil)) anil)))) anil)) addG) anil)) min2G))
    (dropS (metD 3 (acons (varD 4) anil) appG))))
    (seqS (forS (rng1I (acons (conD (.int 3)) anil)) (nameT 6) (seqS (setS 7 (lstD anil))
    (seqS (forS (seqI (varD 3)) (nameT 4) (seqS (setS 8 (lcD [10] (rng1I (acons (binD (binD (varD 1) (conD (.int 0)) ixG) (conD (.int 1)) addG) anil)) (nameT 10) yesT (tupD (acons (callM 0 1 F__law_take (acons (conD (.int 3)) anil)) (acons (varD 10) anil)))))
    (dropS (metD 7 (acons (callD (acons (lcD [11, 10] (seqI (varD 8)) (tupT [11, 10]) yesT (iteD (testD (binD (varD 11) (conD (.int 0)) (eqQ false))) (callD (acons (varD 10) (acons (varD 4) (acons (callM 0 1 F__law_take (acons (binD (varD 10) (conD (.int 1)) addG) anil)) anil))) (threeG mn3)) (conD (.int 0)))) anil) (oneG tupleG)) anil) appG))))
    (seqS (setS 9 (callP 2 F__law_tightened (acons (callD (acons (varD 7) anil) (oneG tupleG)) (acons (callD (acons (varD 3) anil) (oneG tupleG)) anil))))
    (ifS (testD (binD (varD 9) (conD .none) (isNG' true))) (retS (tupD (acons (varD 2) (acons (varD 9) anil)))) nilS)))))
    (retS (tupD (acons (varD 2) (acons (callP 2 F__law_tightened (acons (binD (tupD (acons (binD (tupD (acons (conD (.int 0)) anil)) (binD (binD (varD 1) (conD (.int 0)) ixG) (conD (.int 1)) addG) mulG) anil)) (callD (acons (varD 3) anil) (oneG lenG)) mulG) (acons (callD (acons (varD 3) anil) (oneG tupleG)) anil))) anil)))))))
def F__law_tight_known : FM := runM 12 g__law_tight_known
/-- _law_house(_law_bag_here, _law_things, _law_floors, _law_rooms); slots: _law_bag_here _law_things _law_floors _law_rooms _law_many _law_found _law_left _law_floor -/
def g__law_house : SD :=
  (seqS (setS 4 (callM 0 1 F__law_one (acons (lstD (acons (varD 1) (acons (varD 1) (acons (conD (.int 3)) (acons (conD (.int 2)) (acons (conD (.int 1)) (acons (conD (.int 0)) (acons (callM 0 1 F__law_take (acons (binD (varD 1) (conD (.int 1)) addG) anil)) anil)))))))) anil)))
    (seqS (parS [5, 6] (acons (lstD anil) (acons (varD 3) anil)))
    (seqS (forS (rng1I (acons (callM 0 1 F__law_one (acons (lstD (acons (varD 2) (acons (conD (.int 2)) (acons (varD 2) (acons (conD (.int 1)) (acons (binD (conD (.int 1)) (callM 0 1 F__law_take (acons (varD 2) anil)) addG) anil)))))) anil)) anil)) (nameT 7) (ifS (andT (testD (binD (varD 6) (conD (.int 0)) (intG (i2b fun i j => decide (j < i))))) (testD (binD (varD 7) (varD 2) (intG (i2b fun i j => decide (i < j)))))) (seqS (dropS (metD 5 (acons (callD (acons (varD 6) (acons (callM 0 1 F__law_one (acons (lstD (acons (conD (.int 1)) (acons (conD (.int 2)) (acons (conD (.int 1)) (acons (conD (.int 3)) (acons (conD (.int 1)) (acons (conD (.int 2)) (acons (binD (conD (.int 1)) (callM 0 1 F__law_take (acons (varD 3) anil)) addG) anil)))))))) anil)) anil)) min2G) anil) appG))
    (augS 6 (binD (varD 5) (unD (conD (.int 1)) negG) ixG) (fun i j => i - j))) nilS))
    (retS (tupD (acons (callD (acons (varD 4) (acons (varD 1) anil)) min2G) (acons (callD (acons (varD 5) anil) (oneG tupleG)) anil)))))))
def F__law_house : FM := runM 8 g__law_house
/-- _law_flat(_law_rows); slots: _law_rows _law_found _law_row -/
def g__law_flat : SD :=
  (seqS (setS 1 (lstD anil))
    (seqS (forS (seqI (varD 0)) (nameT 2) (dropS (metD 1 (acons (varD 2) anil) extG)))
    (retS (varD 1))))
def F__law_flat : FP := runP 3 g__law_flat
/-- _law_rooms_within(_law_house); slots: _law_house _law_floor -/
def g__law_rooms_within : SD :=
  (retS (lcD [1] (rng1I (acons (callD (acons (binD (varD 0) (conD (.int 1)) ixG) anil) (oneG lenG)) anil)) (nameT 1) yesT (callD (acons (sliceD (binD (varD 0) (conD (.int 1)) ixG) noP (aP (binD (varD 1) (conD (.int 1)) addG)) cutG) anil) (oneG sumG))))
def F__law_rooms_within : FP := runP 2 g__law_rooms_within
/-- _law_within(_law_house, _law_state_here, _law_floor); slots: _law_house _law_state_here _law_floor _law_thing -/
def g__law_within : SD :=
  (retS (lcD [3] (rng1I (acons (binD (varD 0) (conD (.int 0)) ixG) anil)) (nameT 3) (testD (binD (binD (varD 1) (varD 3) ixG) (varD 2) (intG (i2b fun i j => decide (i ≤ j))))) (varD 3)))
def F__law_within : FP := runP 4 g__law_within
/-- _law_sizes(_law_house, _law_state_here); slots: _law_house _law_state_here _law_floor -/
def g__law_sizes : SD :=
  (retS (callD (acons (lcD [2] (rng1I (acons (callD (acons (binD (varD 0) (conD (.int 1)) ixG) anil) (oneG lenG)) anil)) (nameT 2) yesT (callD (acons (callP 3 F__law_within (acons (varD 0) (acons (varD 1) (acons (varD 2) anil)))) anil) (oneG lenG))) anil) (oneG tupleG)))
def F__law_sizes : FP := runP 3 g__law_sizes
/-- _law_state(_law_bag_here, _law_house); slots: _law_bag_here _law_house _law_many _law_rooms _law_left _law_way _law_state_here _law_thing _law_open_floors _law_floor _law_free -/
def g__law_state : SD :=
  (seqS (unpS (tupT [2, 3]) (varD 1))
    (seqS (parS [4, 5, 6] (acons (callD (acons (varD 3) anil) (oneG listG)) (acons (callM 0 1 F__law_take (acons (conD (.int 4)) anil)) (acons (binD (lstD (acons (callD (acons (varD 3) anil) (oneG lenG)) anil)) (varD 2) mulG) anil))))
    (seqS (forS (seqI (callM 0 1 F__law_mixed (acons (lstR1 (varD 2)) anil))) (nameT 7) (seqS (setS 8 (lcB 4 [9, 10] (tupT [9, 10]) (testD (binD (varD 10) (conD (.int 0)) (intG (i2b fun i j => decide (j < i))))) (varD 9)))
    (seqS (ifS (andT (testD (binD (varD 5) (conD (.int 1)) (eqQ false))) (testD (binD (varD 8) (lstD anil) (eqQ true)))) (setIx 6 (varD 7) (binD (varD 8) (conD (.int 0)) ixG)) (ifS (andT (testD (binD (varD 5) (conD (.int 1)) (intG (i2b fun i j => decide (j < i))))) (testD (binD (varD 8) (lstD anil) (eqQ true)))) (setIx 6 (varD 7) (callM 0 1 F__law_one (acons (binD (varD 8) (binD (lstD (acons (callD (acons (varD 3) anil) (oneG lenG)) anil)) (binD (varD 5) (conD (.int 2)) (intG (i2i fun i j => i - j))) mulG) addG) anil))) nilS))
    (ifS (testD (binD (binD (varD 6) (varD 7) ixG) (callD (acons (varD 3) anil) (oneG lenG)) (intG (i2b fun i j => decide (i < j))))) (augIx 4 (binD (varD 6) (varD 7) ixG) (conD (.int 1)) (fun i j => i - j)) nilS))))
    (retS (callD (acons (varD 6) anil) (oneG tupleG))))))
def F__law_state : FM := runM 11 g__law_state
/-- _law_full_state(_law_bag_here, _law_house); slots: _law_bag_here _law_house _law_places _law_floor _law_rooms -/
def g__law_full_state : SD :=
  (seqS (setS 2 (callP 1 F__law_flat (acons (lcD [3, 4] (enumI (acons (binD (varD 1) (conD (.int 1)) ixG) anil)) (tupT [3, 4]) yesT (binD (lstD (acons (varD 3) anil)) (varD 4) mulG)) anil)))
    (retS (callD (acons (callM 0 1 F__law_mixed (acons (binD (varD 2) (binD (lstD (acons (callD (acons (binD (varD 1) (conD (.int 1)) ixG) anil) (oneG lenG)) anil)) (binD (binD (varD 1) (conD (.int 0)) ixG) (callD (acons (varD 2) anil) (oneG lenG)) (intG (i2i fun i j => i - j))) mulG) addG) anil)) anil) (oneG tupleG))))
def F__law_full_state : FM := runM 5 g__law_full_state
/-- _law_start(_law_bag_here, _law_house); slots: _law_bag_here _law_house _law_menu -/
def g__law_start : SD :=
  (seqS (setS 2 (lstD (acons (binD (tupD (acons (callD (acons (binD (varD 1) (conD (.int 1)) ixG) anil) (oneG lenG)) anil)) (binD (varD 1) (conD (.int 0)) ixG) mulG) (acons (callM 0 1 F__law_state (acons (varD 1) anil)) (acons (callM 0 1 F__law_state (acons (varD 1) anil)) anil)))))
    (retS (callM 0 1 F__law_one (acons (binD (varD 2) (binD (lstD (acons (conD .none) anil)) (callD (acons (binD (binD (varD 1) (conD (.int 0)) ixG) (callD (acons (binD (varD 1) (conD (.int 1)) ixG) anil) (oneG sumG)) (intG (i2b fun i j => decide (j ≤ i)))) anil) (oneG intTG)) mulG) addG) anil))))
def F__law_start : FM := runM 3 g__law_start
/-- _law_done(_law_house, _law_state_here, _law_move); slots: _law_house _law_state_here _law_move _law_word _law_thing _law_downs _law_floors _law_now _law_at _law_down _law_last -/
def g__law_done : SD :=
  (seqS (unpS (tupT [3, 4, 5]) (varD 2))
    (seqS (parS [6, 7] (acons (callD (acons (binD (varD 0) (conD (.int 1)) ixG) anil) (oneG lenG)) (acons (callD (acons (varD 1) anil) (oneG listG)) anil)))
    (seqS (ifS (testD (binD (varD 3) (conD (.str ("strike" : Str))) (eqQ false))) (seqS (setIx 7 (varD 4) (varD 6))
    (retS (iteD (testD (binD (varD 5) (tupD anil) (eqQ false))) (callD (acons (varD 7) anil) (oneG tupleG)) (conD .none)))) nilS)
    (seqS (setIx 7 (varD 4) (conD (.int 0)))
    (seqS (forS (enumI (acons (varD 5) anil)) (tupT [8, 9]) (seqS (ifS (orT (testD (binD (varD 8) (varD 6) (intG (i2b fun i j => decide (j ≤ i))))) (orT (testD (binD (metV (varD 7) (varD 8) cntG) (binD (binD (varD 0) (conD (.int 1)) ixG) (varD 8) ixG) (intG (i2b fun i j => decide (i ≤ j))))) (orT (testD (binD (binD (varD 7) (varD 9) ixG) (varD 8) (eqQ true))) (andT (testD (binD (varD 8) (conD (.int 0)) (eqQ false))) (testD (binD (varD 9) (varD 4) (eqQ false))))))) (retS (conD .none)) nilS)
    (setIx 7 (varD 9) (binD (varD 8) (conD (.int 1)) addG))))
    (seqS (setS 10 (callD (acons (varD 5) anil) (oneG lenG)))
    (retS (iteD (orT (testD (binD (varD 10) (varD 6) (intG (i2b fun i j => decide (j ≤ i))))) (testD (binD (metV (varD 7) (varD 10) cntG) (binD (binD (varD 0) (conD (.int 1)) ixG) (varD 10) ixG) (intG (i2b fun i j => decide (i ≤ j)))))) (callD (acons (varD 7) anil) (oneG tupleG)) (conD .none)))))))))
def F__law_done : FP := runP 11 g__law_done
/-- _law_drawn_move(_law_bag_here, _law_house, _law_state_here, _law_thing, _law_way); slots: _law_bag_here _law_house _law_state_here _law_thing _law_way _law_downs _law_now _law_at _law_there _law_down _law_one_here -/
def g__law_drawn_move : SD :=
  (seqS (parS [5, 6] (acons (tupD anil) (acons (callD (acons (varD 2) anil) (oneG listG)) anil)))
    (seqS (setIx 6 (varD 3) (conD (.int 0)))
    (seqS (whileS 10000 (andT (testD (binD (callD (acons (varD 5) anil) (oneG lenG)) (callD (acons (binD (varD 1) (conD (.int 1)) ixG) anil) (oneG lenG)) (intG (i2b fun i j => decide (i < j))))) (testD (binD (metV (varD 6) (callD (acons (varD 5) anil) (oneG lenG)) cntG) (binD (binD (varD 1) (conD (.int 1)) ixG) (callD (acons (varD 5) anil) (oneG lenG)) ixG) (intG (i2b fun i j => decide (j < i)))))) (seqS (setS 7 (callD (acons (varD 5) anil) (oneG lenG)))
    (seqS (setS 8 (lcD [10] (rng1I (acons (binD (varD 1) (conD (.int 0)) ixG) anil)) (nameT 10) (andT (testD (binD (binD (varD 6) (varD 10) ixG) (varD 7) (eqQ false))) (orT (testD (binD (varD 7) (conD (.int 0)) (intG (i2b fun i j => decide (j < i))))) (testD (binD (varD 10) (varD 3) (eqQ true))))) (varD 10)))
    (seqS (setS 9 (iteD (testD (binD (varD 4) (conD (.int 1)) (eqQ false))) (binD (varD 8) (unD (conD (.int 1)) negG) ixG) (iteD (andT (testD (binD (varD 4) (conD (.int 2)) (eqQ false))) (testD (binD (varD 7) (conD (.int 0)) (intG (i2b fun i j => decide (j < i)))))) (binD (varD 5) (unD (conD (.int 1)) negG) ixG) (callM 0 1 F__law_one (acons (varD 8) anil)))))
    (asgNS 5 6 9 (acons (binD (varD 5) (tupD (acons (varD 9) anil)) addG) (acons (binD (varD 7) (conD (.int 1)) addG) anil)))))))
    (retS (tupD (acons (conD (.str ("ask" : Str))) (acons (varD 3) (acons (varD 5) anil))))))))
def F__law_drawn_move : FM := runM 11 g__law_drawn_move
/-- _law_run(_law_bag_here, _law_house, _law_state_here, _law_many, _law_strikes); slots: _law_bag_here _law_house _law_state_here _law_many _law_strikes _law_run_here _law_log _law_states _law_way _law_favoured _law_turn _law_thing _law_move -/
def g__law_run : SD :=
  (seqS (parS [5, 6, 7, 8] (acons (lstD anil) (acons (lstD anil) (acons (lstD (acons (varD 2) anil)) (acons (callM 0 1 F__law_one (acons (lstD (acons (conD (.int 0)) (acons (conD (.int 0)) (acons (conD (.int 1)) (acons (conD (.int 2)) anil))))) anil)) anil)))))
    (seqS (setS 9 (sliceD (callM 0 1 F__law_mixed (acons (lstR1 (binD (varD 1) (conD (.int 0)) ixG)) anil)) noP (aP (binD (conD (.int 1)) (callM 0 1 F__law_take (acons (callD (acons (conD (.int 1)) (acons (binD (varD 1) (conD (.int 0)) ixG) anil)) max2G) anil)) addG)) cutG))
    (seqS (forS (rng1I (acons (iteD (testD (binD (binD (varD 1) (conD (.int 0)) ixG) (conD (.int 0)) (intG (i2b fun i j => decide (j < i))))) (varD 3) (conD (.int 0))) anil)) (nameT 10) (seqS (setS 11 (iteD (testD (binD (callM 0 1 F__law_take (acons (conD (.int 3)) anil)) (conD (.int 0)) (intG (i2b fun i j => decide (j < i))))) (callM 0 1 F__law_one (acons (varD 9) anil)) (callM 0 1 F__law_take (acons (binD (varD 1) (conD (.int 0)) ixG) anil))))
    (seqS (setS 12 (tupD (acons (conD (.str ("strike" : Str))) (acons (varD 11) (acons (tupD anil) anil)))))
    (seqS (ifS (orT (testD (binD (varD 4) (conD (.int 0)) (eqQ false))) (testD (binD (callM 0 1 F__law_take (acons (varD 4) anil)) (conD (.int 0)) (intG (i2b fun i j => decide (j < i)))))) (setS 12 (callM 0 4 F__law_drawn_move (acons (varD 1) (acons (binD (varD 7) (unD (conD (.int 1)) negG) ixG) (acons (varD 11) (acons (varD 8) anil)))))) nilS)
    (seqS (dropS (metD 5 (acons (varD 12) anil) appG))
    (seqS (dropS (metD 6 (acons (tupD (acons (binD (varD 12) (conD (.int 0)) ixG) (acons (varD 11) (acons (binD (binD (varD 7) (unD (conD (.int 1)) negG) ixG) (varD 11) ixG) anil)))) anil) appG))
    (dropS (metD 7 (acons (callP 3 F__law_done (acons (varD 1) (acons (binD (varD 7) (unD (conD (.int 1)) negG) ixG) (acons (varD 12) anil)))) anil) appG))))))))
    (retS (tupD (acons (callD (acons (varD 5) anil) (oneG tupleG)) (acons (callD (acons (varD 6) anil) (oneG tupleG)) (acons (varD 7) anil))))))))
def F__law_run : FM := runM 13 g__law_run
/-- _law_story(_law_bag_here, _law_house, _law_start_here, _law_many, _law_strikes); slots: _law_bag_here _law_house _law_start_here _law_many _law_strikes -/
def g__law_story : SD :=
  (retS (callM 0 4 F__law_run (acons (varD 1) (acons (iteD (testD (binD (varD 2) (conD .none) (isNG' false))) (callM 0 1 F__law_full_state (acons (varD 1) anil)) (varD 2)) (acons (varD 3) (acons (varD 4) anil))))))
def F__law_story : FM := runM 5 g__law_story
/-- _law_one_more(_law_house, _law_state_here); slots: _law_house _law_state_here _law_floors _law_floor -/
def g__law_one_more : SD :=
  (seqS (setS 2 (callD (acons (binD (varD 0) (conD (.int 1)) ixG) anil) (oneG lenG)))
    (retS (lcD [3] (rng1I (acons (binD (varD 2) (conD (.int 1)) addG) anil)) (nameT 3) (orT (testD (binD (varD 3) (varD 2) (eqQ false))) (testD (binD (metV (varD 1) (varD 3) cntG) (binD (binD (varD 0) (conD (.int 1)) ixG) (varD 3) ixG) (intG (i2b fun i j => decide (i < j)))))) (binD (varD 1) (tupD (acons (varD 3) anil)) addG))))
def F__law_one_more : FP := runP 4 g__law_one_more
/-- _law_all_states(_law_house); slots: _law_house _law_found _law_thing _law_state_here -/
def g__law_all_states : SD :=
  (seqS (setS 1 (lstD (acons (tupD anil) anil)))
    (seqS (forS (rng1I (acons (binD (varD 0) (conD (.int 0)) ixG) anil)) (nameT 2) (setS 1 (callP 1 F__law_flat (acons (lcD [3] (seqI (varD 1)) (nameT 3) yesT (callP 2 F__law_one_more (acons (varD 0) (acons (varD 3) anil)))) anil))))
    (retS (varD 1))))
def F__law_all_states : FP := runP 4 g__law_all_states
/-- _law_first_known(_law_house, _law_start_here); slots: _law_house _law_start_here _law_many _law_words _law_rooms _law_order _law_size _law_count -/
def g__law_first_known : SD :=
  (seqS (parS [2, 3] (acons (binD (varD 0) (conD (.int 0)) ixG) (acons (lstD anil) anil)))
    (seqS (ifS (testD (binD (varD 1) (conD .none) (isNG' false))) (seqS (forS (seqI (callP 1 F__law_rooms_within (acons (varD 0) anil))) (nameT 4) (dropS (metD 3 (acons (callD (acons (lcD [7] (rng1I (acons (binD (varD 2) (conD (.int 1)) addG) anil)) (nameT 7) yesT (callD (acons (conD (.int 0)) (acons (binD (varD 4) (binD (varD 2) (varD 7) (intG (i2i fun i j => i - j))) (intG (i2i fun i j => i - j))) anil)) max2G)) anil) (oneG tupleG)) anil) appG)))
    (retS (tupD (acons (tupR1 (varD 2)) (acons (callD (acons (varD 3) anil) (oneG tupleG)) anil))))) nilS)
    (seqS (setS 5 (callD (acons (srtKD (varD 2) 1) anil) (oneG tupleG)))
    (seqS (forS (seqI (callP 2 F__law_sizes (acons (varD 0) (acons (varD 1) anil)))) (nameT 6) (dropS (metD 3 (acons (callD (acons (lcD [7] (rng1I (acons (binD (varD 2) (conD (.int 1)) addG) anil)) (nameT 7) yesT (callD (acons (varD 7) (acons (varD 6) anil)) min2G)) anil) (oneG tupleG)) anil) appG)))
    (retS (tupD (acons (varD 5) (acons (callD (acons (varD 3) anil) (oneG tupleG)) anil))))))))
def F__law_first_known : FP := runP 8 g__law_first_known
/-- _law_led(_law_house, _law_known_here, _law_entry); slots: _law_house _law_known_here _law_entry _law_order _law_words _law_word _law_thing _law_found _law_place _law_sizes_here _law_rows _law_floor _law_row _law_less _law_later _law_tight _law_rest _law_is_less _law_one_here -/
def g__law_led : SD :=
  (seqS (unpS (tupT [3, 4]) (varD 1))
    (seqS (unpS (tupT [5, 6, 7]) (varD 2))
    (seqS (parS [8, 9, 10] (acons (metV (varD 3) (varD 6) idxG) (acons (callD (acons (callP 1 F_known_sizes (acons (varD 1) anil)) anil) (oneG listG)) (acons (lstD anil) anil))))
    (seqS (forS (enumI (acons (varD 4) anil)) (tupT [11, 12]) (seqS (setS 13 (callD (acons (binD (varD 11) (varD 7) (intG (i2b fun i j => decide (j ≤ i)))) anil) (oneG intTG)))
    (seqS (setS 14 (lcD [18] (seqI (sliceD (varD 12) (aP (binD (varD 8) (conD (.int 1)) addG)) noP cutG)) (nameT 18) yesT (binD (varD 18) (varD 13) (intG (i2i fun i j => i - j)))))
    (seqS (dropS (metD 10 (acons (callD (acons (binD (binD (callD (acons (sliceD (varD 12) noP (aP (varD 8)) cutG) anil) (oneG listG)) (lstD (acons (callD (acons (binD (varD 12) (varD 8) ixG) (acons (binD (varD 14) (conD (.int 0)) ixG) anil)) max2G) anil)) addG) (sliceD (varD 14) (aP (conD (.int 1))) noP cutG) addG) anil) (oneG tupleG)) anil) appG))
    (augIx 9 (varD 11) (varD 13) (fun i j => i - j))))))
    (seqS (setS 15 (callP 2 F__law_tightened (acons (callD (acons (varD 10) anil) (oneG tupleG)) (acons (callD (acons (varD 9) anil) (oneG tupleG)) anil))))
    (seqS (ifS (testD (binD (varD 15) (conD .none) (isNG' false))) (retS (conD .none)) nilS)
    (seqS (setS 16 (binD (sliceD (varD 3) noP (aP (varD 8)) cutG) (sliceD (varD 3) (aP (binD (varD 8) (conD (.int 1)) addG)) noP cutG) addG))
    (seqS (ifS (testD (binD (varD 5) (conD (.str ("strike" : Str))) (eqQ false))) (retS (tupD (acons (binD (varD 16) (tupD (acons (varD 6) anil)) addG) (acons (callD (acons (lcD [12] (seqI (varD 15)) (nameT 12) yesT (binD (varD 12) (sliceD (varD 12) (aP (unD (conD (.int 1)) negG)) noP cutG) addG)) anil) (oneG tupleG)) anil)))) nilS)
    (seqS (setS 14 (lstD anil))
    (seqS (forS (enumI (acons (varD 15) anil)) (tupT [11, 12]) (seqS (setS 17 (andD (binD (varD 11) (varD 7) (intG (i2b fun i j => decide (i < j)))) (binD (binD (varD 9) (varD 11) ixG) (callD (acons (sliceD (binD (varD 0) (conD (.int 1)) ixG) noP (aP (binD (varD 11) (conD (.int 1)) addG)) cutG) anil) (oneG sumG)) (eqQ false))))
    (dropS (metD 14 (acons (binD (tupD (acons (conD (.int 0)) anil)) (callD (acons (lcD [18] (seqI (varD 12)) (nameT 18) yesT (binD (callD (acons (conD (.int 0)) (acons (binD (varD 18) (callD (acons (varD 17) anil) (oneG intTG)) (intG (i2i fun i j => i - j))) anil)) max2G) (conD (.int 1)) addG)) anil) (oneG tupleG)) addG) anil) appG))))
    (retS (tupD (acons (binD (tupD (acons (varD 6) anil)) (varD 16) addG) (acons (callD (acons (varD 14) anil) (oneG tupleG)) anil))))))))))))))
def F__law_led : FP := runP 19 g__law_led
/-- _law_led_by(_law_house, _law_known_here, _law_log); slots: _law_house _law_known_here _law_log _law_index _law_entry _law_later -/
def g__law_led_by : SD :=
  (seqS (forS (enumI (acons (varD 2) anil)) (tupT [3, 4]) (seqS (setS 5 (callP 3 F__law_led (acons (varD 0) (acons (varD 1) (acons (varD 4) anil)))))
    (seqS (ifS (testD (binD (varD 5) (conD .none) (isNG' false))) (retS (tupD (acons (varD 1) (acons (varD 3) anil)))) nilS)
    (setS 1 (varD 5)))))
    (retS (tupD (acons (varD 1) (acons (conD .none) anil)))))
def F__law_led_by : FP := runP 6 g__law_led_by
/-- _law_fits(_law_house, _law_known_here, _law_state_here); slots: _law_house _law_known_here _law_state_here _law_floor _law_word _law_within_here _law_count _law_thing -/
def g__law_fits : SD :=
  (seqS (ifS (testD (binD (callP 2 F__law_sizes (acons (varD 0) (acons (varD 2) anil))) (callP 1 F_known_sizes (acons (varD 1) anil)) (eqQ true))) (retS (conD (.bool false))) nilS)
    (seqS (forS (enumI (acons (binD (varD 1) (conD (.int 1)) ixG) anil)) (tupT [3, 4]) (seqS (setS 5 (conD (.int 0)))
    (forS (enumI (acons (binD (varD 1) (conD (.int 0)) ixG) anil)) (tupT [6, 7]) (seqS (augS 5 (callD (acons (binD (binD (varD 2) (varD 7) ixG) (varD 3) (intG (i2b fun i j => decide (i ≤ j)))) anil) (oneG intTG)) (fun i j => i + j))
    (ifS (testD (binD (varD 5) (binD (varD 4) (binD (varD 6) (conD (.int 1)) addG) ixG) (intG (i2b fun i j => decide (i < j))))) (retS (conD (.bool false))) nilS)))))
    (retS (conD (.bool true)))))
def F__law_fits : FP := runP 8 g__law_fits
/-- _law_known(_law_bag_here, _law_house, _law_many, _law_strikes); slots: _law_bag_here _law_house _law_many _law_strikes _law_start_here _law_run_here _law_log _law_states -/
def g__law_known : SD :=
  (seqS (setS 4 (callM 0 1 F__law_start (acons (varD 1) anil)))
    (seqS (unpS (tupT [5, 6, 7]) (callM 0 4 F__law_story (acons (varD 1) (acons (varD 4) (acons (callM 0 1 F__law_one (acons (lstD (acons (varD 2) (acons (callM 0 1 F__law_take (acons (binD (varD 2) (conD (.int 1)) addG) anil)) (acons (conD (.int 0)) (acons (varD 2) anil))))) anil)) (acons (varD 3) anil))))))
    (retS (tupD (acons (varD 4) (acons (varD 6) (acons (binD (callP 3 F__law_led_by (acons (varD 1) (acons (callP 2 F__law_first_known (acons (varD 1) (acons (varD 4) anil))) (acons (varD 6) anil)))) (conD (.int 0)) ixG) anil)))))))
def F__law_known : FM := runM 8 g__law_known
/-- cuts_of(word); slots: word d -/
def g_cuts_of : SD :=
  (retS (lcD [1] (rng2I (acons (conD (.int 1)) (acons (binD (callD (acons (varD 0) anil) (oneG lenG)) (conD (.int 1)) (intG (i2i fun i j => i - j))) anil))) (nameT 1) (andT (testD (binD (binD (varD 0) (binD (varD 1) (conD (.int 1)) (intG (i2i fun i j => i - j))) ixG) (binD (varD 0) (varD 1) ixG) (intG (i2b fun i j => decide (i < j))))) (testD (binD (binD (varD 0) (varD 1) ixG) (binD (varD 0) (binD (varD 1) (conD (.int 1)) addG) ixG) (eqQ false)))) (varD 1)))
def F_cuts_of : FP := runP 2 g_cuts_of
/-- _law_all_states(_law_house_here); slots: _law_house_here _law_found _law_out _law_thing _law_more _law_state_here _law_floor _law_rooms -/
def g__law_all_states_2 : SD :=
  (seqS (parS [1, 2] (acons (lstD (acons (tupD anil) anil)) (acons (callD (acons (binD (varD 0) (conD (.int 1)) ixG) anil) (oneG lenG)) anil)))
    (seqS (forS (rng1I (acons (binD (varD 0) (conD (.int 0)) ixG) anil)) (nameT 3) (seqS (setS 4 (lstD anil))
    (seqS (forS (seqI (varD 1)) (nameT 5) (seqS (dropS (metD 4 (acons (lcD [6, 7] (enumI (acons (binD (varD 0) (conD (.int 1)) ixG) anil)) (tupT [6, 7]) (testD (binD (metV (varD 5) (varD 6) cntG) (varD 7) (intG (i2b fun i j => decide (i < j))))) (binD (varD 5) (tupD (acons (varD 6) anil)) addG)) anil) extG))
    (dropS (metD 4 (acons (binD (varD 5) (tupD (acons (varD 2) anil)) addG) anil) appG))))
    (setS 1 (varD 4)))))
    (retS (varD 1))))
def F__law_all_states_2 : FP := runP 8 g__law_all_states_2
/-- _law_led(_law_house_here, _law_known_here, _law_entry); slots: _law_house_here _law_known_here _law_entry _law_order _law_words _law_word _law_thing _law_found _law_place _law_sizes_here _law_rows _law_floor _law_row _law_less _law_later _law_tight _law_rest _law_made _law_is_less _law_one_here -/
def g__law_led_2 : SD :=
  (seqS (unpS (tupT [3, 4]) (varD 1))
    (seqS (unpS (tupT [5, 6, 7]) (varD 2))
    (seqS (parS [8, 9, 10] (acons (metV (varD 3) (varD 6) idxG) (acons (callD (acons (callP 1 F_known_sizes (acons (varD 1) anil)) anil) (oneG listG)) (acons (lstD anil) anil))))
    (seqS (forS (enumI (acons (varD 4) anil)) (tupT [11, 12]) (seqS (setS 13 (callD (acons (binD (varD 11) (varD 7) (intG (i2b fun i j => decide (j ≤ i)))) anil) (oneG intTG)))
    (seqS (setS 14 (lcD [19] (seqI (sliceD (varD 12) (aP (binD (varD 8) (conD (.int 1)) addG)) noP cutG)) (nameT 19) yesT (binD (varD 19) (varD 13) (intG (i2i fun i j => i - j)))))
    (seqS (dropS (metD 10 (acons (callD (acons (binD (binD (callD (acons (sliceD (varD 12) noP (aP (varD 8)) cutG) anil) (oneG listG)) (lstD (acons (callD (acons (binD (varD 12) (varD 8) ixG) (acons (binD (varD 14) (conD (.int 0)) ixG) anil)) max2G) anil)) addG) (sliceD (varD 14) (aP (conD (.int 1))) noP cutG) addG) anil) (oneG tupleG)) anil) appG))
    (augIx 9 (varD 11) (varD 13) (fun i j => i - j))))))
    (seqS (setS 15 (callP 2 F__law_tightened (acons (callD (acons (varD 10) anil) (oneG tupleG)) (acons (callD (acons (varD 9) anil) (oneG tupleG)) anil))))
    (seqS (ifS (testD (binD (varD 15) (conD .none) (isNG' false))) (retS (conD .none)) nilS)
    (seqS (setS 16 (binD (sliceD (varD 3) noP (aP (varD 8)) cutG) (sliceD (varD 3) (aP (binD (varD 8) (conD (.int 1)) addG)) noP cutG) addG))
    (seqS (ifS (testD (binD (varD 5) (conD (.str ("strike" : Str))) (eqQ false))) (retS (tupD (acons (binD (varD 16) (tupD (acons (varD 6) anil)) addG) (acons (callD (acons (lcD [12] (seqI (varD 15)) (nameT 12) yesT (binD (varD 12) (sliceD (varD 12) (aP (unD (conD (.int 1)) negG)) noP cutG) addG)) anil) (oneG tupleG)) anil)))) nilS)
    (seqS (setS 17 (lstD anil))
    (seqS (forS (enumI (acons (varD 15) anil)) (tupT [11, 12]) (seqS (setS 18 (andD (binD (varD 11) (varD 7) (intG (i2b fun i j => decide (i < j)))) (binD (binD (varD 9) (varD 11) ixG) (callD (acons (sliceD (binD (varD 0) (conD (.int 1)) ixG) noP (aP (binD (varD 11) (conD (.int 1)) addG)) cutG) anil) (oneG sumG)) (eqQ false))))
    (dropS (metD 17 (acons (binD (tupD (acons (conD (.int 0)) anil)) (callD (acons (lcD [19] (seqI (varD 12)) (nameT 19) yesT (binD (callD (acons (conD (.int 0)) (acons (binD (varD 19) (callD (acons (varD 18) anil) (oneG intTG)) (intG (i2i fun i j => i - j))) anil)) max2G) (conD (.int 1)) addG)) anil) (oneG tupleG)) addG) anil) appG))))
    (retS (tupD (acons (binD (tupD (acons (varD 6) anil)) (varD 16) addG) (acons (callD (acons (varD 17) anil) (oneG tupleG)) anil))))))))))))))
def F__law_led_2 : FP := runP 20 g__law_led_2
/-- _law_led_by(_law_house_here, _law_known_here, _law_log); slots: _law_house_here _law_known_here _law_log _law_index _law_entry _law_later -/
def g__law_led_by_2 : SD :=
  (seqS (forS (enumI (acons (varD 2) anil)) (tupT [3, 4]) (seqS (setS 5 (callP 3 F__law_led_2 (acons (varD 0) (acons (varD 1) (acons (varD 4) anil)))))
    (seqS (ifS (testD (binD (varD 5) (conD .none) (isNG' false))) (retS (tupD (acons (varD 1) (acons (varD 3) anil)))) nilS)
    (setS 1 (varD 5)))))
    (retS (tupD (acons (varD 1) (acons (conD .none) anil)))))
def F__law_led_by_2 : FP := runP 6 g__law_led_by_2
/-- _law_known(_law_bag_here, _law_house_here, _law_many, _law_strikes); slots: _law_bag_here _law_house_here _law_many _law_strikes _law_start_here _law_run_here _law_log _law_states -/
def g__law_known_2 : SD :=
  (seqS (setS 4 (callM 0 1 F__law_start (acons (varD 1) anil)))
    (seqS (unpS (tupT [5, 6, 7]) (callM 0 4 F__law_story (acons (varD 1) (acons (varD 4) (acons (callM 0 1 F__law_one (acons (lstD (acons (varD 2) (acons (callM 0 1 F__law_take (acons (binD (varD 2) (conD (.int 1)) addG) anil)) (acons (conD (.int 0)) (acons (varD 2) anil))))) anil)) (acons (varD 3) anil))))))
    (retS (tupD (acons (varD 4) (acons (varD 6) (acons (binD (callP 3 F__law_led_by_2 (acons (varD 1) (acons (callP 2 F__law_first_known (acons (varD 1) (acons (varD 4) anil))) (acons (varD 6) anil)))) (conD (.int 0)) ixG) anil)))))))
def F__law_known_2 : FM := runM 8 g__law_known_2
/-- _law_some_known(_law_bag_here, _law_house_here); slots: _law_bag_here _law_house_here -/
def g__law_some_known : SD :=
  (retS (iteD (testD (binD (callM 0 1 F__law_take (acons (conD (.int 3)) anil)) (conD (.int 0)) (eqQ false))) (callM 0 1 F__law_tight_known (acons (varD 1) anil)) (binD (callM 0 3 F__law_known_2 (acons (varD 1) (acons (conD (.int 12)) (acons (conD (.int 6)) anil)))) (conD (.int 2)) ixG)))
def F__law_some_known : FM := runM 2 g__law_some_known
/-- _law_states_that_fit(_law_house_here, _law_known_here); slots: _law_house_here _law_known_here _law_state_here -/
def g__law_states_that_fit : SD :=
  (retS (lcD [2] (seqI (callP 1 F__law_all_states_2 (acons (varD 0) anil))) (nameT 2) (testD (callP 3 F__law_fits (acons (varD 0) (acons (varD 1) (acons (varD 2) anil))))) (varD 2)))
def F__law_states_that_fit : FP := runP 3 g__law_states_that_fit
/-- _law_some_house(_law_bag_here, _law_menu); slots: _law_bag_here _law_menu _law_things _law_house_here -/
def g__law_some_house : SD :=
  (seqS (setS 2 (callM 0 1 F__law_one (acons (varD 1) anil)))
    (seqS (setS 3 (iteD (testD (binD (varD 2) (conD (.int 7)) (intG (i2b fun i j => decide (i < j))))) (callM 0 3 F__law_house (acons (varD 2) (acons (conD (.int 3)) (acons (conD (.int 5)) anil)))) (callM 0 3 F__law_house (acons (varD 2) (acons (conD (.int 4)) (acons (conD (.int 12)) anil))))))
    (retS (iteD (testD (binD (callM 0 1 F__law_take (acons (conD (.int 6)) anil)) (conD (.int 0)) (intG (i2b fun i j => decide (j < i))))) (tupD (acons (binD (varD 2) (callM 0 1 F__law_take (acons (conD (.int 2)) anil)) (intG (i2i fun i j => i - j))) (acons (binD (varD 3) (conD (.int 1)) ixG) anil))) (varD 3)))))
def F__law_some_house : FM := runM 4 g__law_some_house
/-- state_of_lots(house, lots); slots: house lots thing lot -/
def g_state_of_lots : SD :=
  (retS (callD (acons (lcD [2] (rng1I (acons (binD (varD 0) (conD (.int 0)) ixG) anil)) (nameT 2) yesT (callD (acons (lcD [3] (seqI (varD 1)) (nameT 3) (testD (binD (varD 2) (varD 3) (inG true))) (varD 3)) anil) (oneG lenG))) anil) (oneG tupleG)))
def F_state_of_lots : FP := runP 4 g_state_of_lots
/-- state_with_lot(house, knowledge, lot); slots: house knowledge lot order inner outer lots thing size -/
def g_state_with_lot : SD :=
  (seqS (setS 3 (binD (varD 1) (conD (.int 0)) ixG))
    (seqS (setS 4 (lcD [7] (seqI (varD 3)) (nameT 7) (testD (binD (varD 7) (varD 2) (inG false))) (varD 7)))
    (seqS (setS 5 (lcD [7] (seqI (varD 3)) (nameT 7) (testD (binD (varD 7) (varD 2) (inG true))) (varD 7)))
    (seqS (setS 6 (lcD [8] (seqI (callP 1 F_known_sizes (acons (varD 1) anil))) (nameT 8) yesT (binD (sliceD (varD 4) noP (aP (varD 8)) cutG) (sliceD (varD 5) noP (aP (callD (acons (conD (.int 0)) (acons (binD (varD 8) (callD (acons (varD 4) anil) (oneG lenG)) (intG (i2i fun i j => i - j))) anil)) max2G)) cutG) addG)))
    (retS (callP 2 F_state_of_lots (acons (varD 0) (acons (varD 6) anil))))))))
def F_state_with_lot : FP := runP 9 g_state_with_lot
/-- number_within(house, knowledge, lot, chosen); slots: house knowledge lot chosen thing -/
def g_number_within : SD :=
  (retS (tupD (acons (callD (acons (lcD [4] (seqI (varD 2)) (nameT 4) (testD (binD (varD 4) (varD 3) (inG false))) (varD 4)) anil) (oneG lenG)) (acons (callP 3 F_state_with_lot (acons (varD 0) (acons (varD 1) (acons (varD 3) anil)))) anil))))
def F_number_within : FP := runP 5 g_number_within
/-- can_be_together(order, word, lot); slots: order word lot late place -/
def g_can_be_together : SD :=
  (seqS (setS 3 (conD (.int 0)))
    (seqS (forS (rng3I (acons (binD (callD (acons (varD 0) anil) (oneG lenG)) (conD (.int 1)) (intG (i2i fun i j => i - j))) (acons (unD (conD (.int 1)) negG) (acons (unD (conD (.int 1)) negG) anil)))) (nameT 4) (seqS (ifS (testD (binD (binD (varD 0) (varD 4) ixG) (varD 2) (inG false))) (augS 3 (conD (.int 1)) (fun i j => i + j)) nilS)
    (ifS (testD (binD (varD 3) (binD (binD (varD 1) (unD (conD (.int 1)) negG) ixG) (binD (varD 1) (varD 4) ixG) (intG (i2i fun i j => i - j))) (intG (i2b fun i j => decide (j < i))))) (retS (conD (.bool false))) nilS)))
    (retS (conD (.bool true)))))
def F_can_be_together : FP := runP 5 g_can_be_together
/-- choice_within(knowledge, floor, things); slots: knowledge floor things order words chosen thing -/
def g_choice_within : SD :=
  (seqS (unpS (tupT [3, 4]) (varD 0))
    (seqS (setS 5 (lstD anil))
    (seqS (forS (seqI (varD 2)) (nameT 6) (ifS (testD (callP 3 F_can_be_together (acons (varD 3) (acons (binD (varD 4) (varD 1) ixG) (acons (binD (varD 5) (lstD (acons (varD 6) anil)) addG) anil))))) (dropS (metD 5 (acons (varD 6) anil) appG)) nilS))
    (retS (varD 5)))))
def F_choice_within : FP := runP 7 g_choice_within
/-- least_within(house, knowledge, lot, floor); slots: house knowledge lot floor others thing -/
def g_least_within : SD :=
  (seqS (setS 4 (lcD [5] (seqI (binD (varD 1) (conD (.int 0)) ixG)) (nameT 5) (testD (binD (varD 5) (varD 2) (inG true))) (varD 5)))
    (retS (callP 4 F_number_within (acons (varD 0) (acons (varD 1) (acons (varD 2) (acons (callP 3 F_choice_within (acons (varD 1) (acons (varD 3) (acons (binD (varD 4) (callD (acons (varD 2) anil) (oneG listG)) addG) anil)))) anil)))))))
def F_least_within : FP := runP 6 g_least_within
/-- state_beyond(house, one, other); slots: house one other order words floor word end number state -/
def g_state_beyond : SD :=
  (seqS (unpS (tupT [3, 4]) (varD 2))
    (seqS (forS (enumI (acons (varD 4) anil)) (tupT [5, 6]) (forS (seqI (callP 1 F_cuts_of (acons (varD 6) anil))) (nameT 7) (seqS (unpS (tupT [8, 9]) (callP 4 F_least_within (acons (varD 0) (acons (varD 1) (acons (sliceD (varD 3) noP (aP (varD 7)) cutG) (acons (varD 5) anil))))))
    (ifS (testD (binD (varD 8) (binD (varD 6) (varD 7) ixG) (intG (i2b fun i j => decide (i < j))))) (retS (varD 9)) nilS))))
    (retS (conD .none))))
def F_state_beyond : FP := runP 10 g_state_beyond
/-- lies_in(house, one, other); slots: house one other -/
def g_lies_in : SD :=
  (retS (andD (binD (callP 1 F_known_sizes (acons (varD 1) anil)) (callP 1 F_known_sizes (acons (varD 2) anil)) (eqQ false)) (binD (callP 3 F_state_beyond (acons (varD 0) (acons (varD 1) (acons (varD 2) anil)))) (conD .none) (isNG' false))))
def F_lies_in : FP := runP 3 g_lies_in
/-- joint(house, one, other); slots: house one other word more -/
def g_joint : SD :=
  (retS (tupD (acons (binD (varD 1) (conD (.int 0)) ixG) (acons (callD (acons (lcD [3, 4] (zipI (acons (binD (varD 1) (conD (.int 1)) ixG) (acons (binD (varD 2) (conD (.int 1)) ixG) anil))) (tupT [3, 4]) yesT (callD (acons (callP 2 F_greater_ones (acons (varD 3) (acons (varD 4) anil))) anil) (oneG tupleG))) anil) (oneG tupleG)) anil))))
def F_joint : FP := runP 5 g_joint
/-- _law_sharper(_law_bag_here, _law_known_here); slots: _law_bag_here _law_known_here _law_rows _law_turn _law_row _law_at _law_words _law_word -/
def g__law_sharper : SD :=
  (seqS (setS 2 (lcD [7] (seqI (binD (varD 1) (conD (.int 1)) ixG)) (nameT 7) yesT (callD (acons (varD 7) anil) (oneG listG))))
    (seqS (forS (rng1I (acons (callM 0 1 F__law_one (acons (lstD (acons (conD (.int 1)) (acons (conD (.int 1)) (acons (conD (.int 2)) anil)))) anil)) anil)) (nameT 3) (seqS (setS 4 (callM 0 1 F__law_one (acons (varD 2) anil)))
    (seqS (setS 5 (callM 0 1 F__law_take (acons (callD (acons (varD 4) anil) (oneG lenG)) anil)))
    (setIx 4 (varD 5) (binD (binD (varD 4) (varD 5) ixG) (conD (.int 1)) addG)))))
    (seqS (setS 6 (callP 2 F__law_tightened (acons (callD (acons (lcD [4] (seqI (varD 2)) (nameT 4) yesT (callD (acons (varD 4) anil) (oneG tupleG))) anil) (oneG tupleG)) (acons (callP 1 F_known_sizes (acons (varD 1) anil)) anil))))
    (retS (iteD (testD (binD (varD 6) (conD .none) (isNG' false))) (varD 1) (tupD (acons (binD (varD 1) (conD (.int 0)) ixG) (acons (varD 6) anil))))))))
def F__law_sharper : FM := runM 8 g__law_sharper
/-- _law_of_sizes(_law_bag_here, _law_house_here, _law_sizes_here); slots: _law_bag_here _law_house_here _law_sizes_here _law_order _law_rows _law_size _law_words _law_at -/
def g__law_of_sizes : SD :=
  (seqS (setS 3 (callD (acons (callM 0 1 F__law_mixed (acons (lstR1 (binD (varD 1) (conD (.int 0)) ixG)) anil)) anil) (oneG tupleG)))
    (seqS (setS 4 (lstD anil))
    (seqS (forS (seqI (varD 2)) (nameT 5) (dropS (metD 4 (acons (callD (acons (lcD [7] (rng1I (acons (binD (binD (varD 1) (conD (.int 0)) ixG) (conD (.int 1)) addG) anil)) (nameT 7) yesT (binD (callD (acons (varD 7) (acons (varD 5) (acons (callM 0 1 F__law_take (acons (binD (varD 7) (conD (.int 1)) addG) anil)) anil))) (threeG mn3)) (callD (acons (binD (callM 0 1 F__law_take (acons (conD (.int 3)) anil)) (conD (.int 0)) (eqQ false)) anil) (oneG intTG)) mulG)) anil) (oneG tupleG)) anil) appG)))
    (seqS (setS 6 (callP 2 F__law_tightened (acons (callD (acons (varD 4) anil) (oneG tupleG)) (acons (varD 2) anil))))
    (retS (tupD (acons (varD 3) (acons (iteD (testD (binD (varD 6) (conD .none) (isNG' true))) (varD 6) (callP 2 F__law_tightened (acons (binD (tupD (acons (binD (tupD (acons (conD (.int 0)) anil)) (binD (binD (varD 1) (conD (.int 0)) ixG) (conD (.int 1)) addG) mulG) anil)) (callD (acons (varD 2) anil) (oneG lenG)) mulG) (acons (varD 2) anil)))) anil))))))))
def F__law_of_sizes : FM := runM 8 g__law_of_sizes
end LW
end
noncomputable section
namespace DL
open PySem PySem.Spec PyProof.Rows L2
def tsnoc (t : AD) (i : Int) : AD := fun ρ => (t ρ).map fun p => (p.1 ++ [.cl (.int i)], p.2)
theorem VRs.len {K : Fg} {E P B L : List Addr} {σ : L2.St} {H : Hp} : ∀ {xs : List V} {rs : List Val}, VRs K E P B L σ H xs rs → xs.length = rs.length
  | _, _, .nil => rfl
  | _, _, .cons _ _ h => by rw [List.length_cons, List.length_cons, h.len]
section
variable {P : Program} {w : World} {K : PySem.W.Frag} {mg : Str → Option Value} {base : Heap} {CX : CXT}
theorem FnG.bodyD {x qual : Str} {st : Stmt} {f : Addr} {fd : FuncData} {dvs : List V} {kws : List (Str × V)} {N ps : List Str} {k : Nat} {sp : Sp} (F : FunD K x qual (defArgs st) (defBody st) (defScope st) dvs kws f fd) (S : FnScope N ps (defScope st)) (len : ∀ vs H Q E, sp vs H Q E → vs.length = ps.length)
    (hb : ∀ (cdv : Value) (A : Around) (outer : List PySem.Env) (s : Shared) (H : Hp) (vs : List V) (Q : VK) (E : XK), fd.code = cdv → (A.deeper (envOfC qual (defScope st) s.heap.objs.size f cdv)).guards = some [] → Room k (A.deeper (envOfC qual (defScope st) s.heap.objs.size f cdv)) → sp vs H Q E →
      ∃ t, PSs (cxOf CX P w K mg base N qual (defScope st) f cdv A outer s H E) (defBody st) t ∧ t { nx := fun _ H' => Q .non H', rt := Q } (start N vs) H) : FnG P w K mg base CX (k + 1) f fd ps sp := by
  obtain ⟨oc, od, dV, kV, doc, pm, an, cdv, ct, osl, rfl, lk, hcd, _, _⟩ := F.ex
  refine ⟨len, ?_⟩
  intro A outer s H args us vs Q E hA hr e0 hbind rv hsp
  have eqLen := len _ _ _ _ hsp
  have stay : ∀ b o, base.get? b = some o → s.heap.get? b = some o := fun b o e => (e0.bs b o e).1
  have inK : K.In s.heap := e0.mod.kin.keeps stay
  have noLim : s.heap.NoLimit := e0.mod.nolimit.keeps stay
  have params : ∀ y ∈ ps.zip us, (defScope st).names.lookup y.1 = some .local ∨ ((defScope st).names.lookup y.1 = some .cell ∧ ((cellsFrom (s.heap.objs.size + 1) (defScope st).names []).lookup y.1).isSome = true) := by
    intro y hy
    rcases S.par y.1 (List.of_mem_zip (a := y.1) (b := y.2) hy).1 with q | q
    · exact Or.inl q
    · exact Or.inr ⟨q, PySem.W.cellsFrom_some _ _ _ (Or.inl q)⟩
  apply codeAny_call_function hr.depth (inK _ _ lk) rfl S.co S.gen rfl (PySem.W.codeRec_of inK hcd)
  apply hbind
  apply wpAny_newFunctionEnv_cells S.kind params
  intro env henv s1 ic
  subst henv
  refine ⟨noLim.keeps ic.toInCall.keep, ?_⟩
  apply codeAny_func
  obtain ⟨t, ht, hq⟩ := hb cdv A outer s H vs Q E rfl hA (hr.deeper _) hsp
  have I := inv_start (CX := CX) (P := P) (w := w) (mg := mg) (base := base) (E := E) S hr.hd e0 eqLen rv ic
  refine wpAny_mono (ht.run [] s1 (start N vs) H _ I hq) (fun fl s' hs => ?_) (fun _ _ hs => hs)
  cases fl with
  | ret u =>
    rcases hs with ⟨v, _, H', J, rv', q⟩
    exact ⟨v, H', J.os, J.bare, J.base, J.hok, rv', q⟩
  | next =>
    rcases hs with ⟨_, H', J, q⟩
    exact ⟨V.non, H', J.os, J.bare, J.base, J.hok, rfl, q⟩
  | brk =>
    rcases hs with ⟨_, _, _, q⟩
    exact q.elim
  | cont =>
    rcases hs with ⟨_, _, _, q⟩
    exact q.elim
end
def OkD (P : Program) (w : World) (K : Fg) (mg : Str → Option Value) (base : Heap) (k : Nat) (x : Str) (ps : List Str) (sp : Sp) (i : Int) : Prop :=
  ∃ f fd, FnG P w K mg base CX0 k f fd ps sp ∧ mg x = some (.ref f) ∧ PySem.W.keepIn K (.ref f) = true ∧ Binds K fd ps [] ∧ ∃ u, RelV (.int i) u ∧ Binds K fd ps [u]
theorem OkD.ok {P : Program} {w : World} {K : Fg} {mg : Str → Option Value} {base : Heap} {k : Nat} {x : Str} {ps : List Str} {sp : Sp} {i : Int} (h : OkD P w K mg base k x ps sp i) : Ok P w K mg base k x ps sp := by
  obtain ⟨f, fd, G, h1, h2, h3, _⟩ := h
  exact ⟨f, fd, G, h1, h2, h3⟩
structure DefD (K : Fg) (mg : Str → Option Value) (x : Str) (st : Stmt) (ps : List Str) (i : Int) : Prop where
  ex : ∃ f fd, FunD K x x (defArgs st) (defBody st) (defScope st) [V.int i] [] f fd ∧ mg x = some (.ref f) ∧ PySem.W.keepIn K (.ref f) = true ∧ Binds K fd ps [] ∧ ∃ u, RelV (.int i) u ∧ Binds K fd ps [u]
section
variable {X : Cx} {tl : TL} {k n : Nat} {ps : List Str} {x y : Str} {p pos py : Pos} {e : Expr} {es : List Expr} {t : AD}
def nevS : SD := fun _ => none
end
end DL
end
noncomputable section
namespace DL
open PySem PySem.Spec PyProof.Rows L2
section
variable {X : Cx} {C : Addr} {bmB : List Value} {B newId initId : String}
theorem pmk_own0 {x : Str} {p pos : Pos} (F : ExcBaseFacts B newId initId bmB) (q : PySem.W.excIn X.K C bmB newId = true) (gC : X.mg x = some (.ref C)) (kC : PySem.W.keepIn X.K (.ref C) = true) (r : Raises X (.ref C)) (hg : Gl X x)
    (hdb : (x == ("__debug__" : Str)) = false := by decide) : PMk X (.Call (.Name x p) [] [] pos) (fun _ H Q => Q (.ref C) none H) := by
  intro pins s σ H Q I h
  refine wpAny_Call_Name_kw (ld_glob I hg gC ?_ hdb)
  refine PySem.W.callWith_K0 (I.kIn) kC ?_
  show wpAny _ _ (call (.ref C) []) _ _ _
  obtain ⟨bm, N, nm, qn, bs, hdct, sn, sub, ab, col, dd, k0, k1, k2, k3, k5, mN, hC, hN, hni, T⟩ := exc_obj I.kIn q
  obtain ⟨hp1, g1, d1, tk1, os1⟩ := s
  refine wpAny_call_exc_subT F T hC hN hni (fun h' e hm => ?_) (Nat.zero_le _)
  exact mk_of I hm r h (I.hok.gone hm.new)
end
/-- none: it raises c -/
abbrev FX := List PyData → Option (Option Val)
def spX (K : Fg) (n : Nat) (c : Value) (G : FX) : Sp := fun vs H Q E => vs.length = n ∧ ∃ P ds o, (Lists H P ∧ DL.Tabs K.T H) ∧ DqA K H P vs ds ∧ G ds = some o ∧ (match o with
  | some r => ∀ x H' E', Keep [] H H' → RRes K P H H' E' x r → Q x H'
  | none => ∀ H', Keep [] H H' → E c none H')
/-- c: raise; what is left, otherwise -/
def runX (N : Nat) (q : TD) (g : SD) : FX := fun ds => (q (argE N ds)).bind fun p => if p.1 = true then some none else (runP N (seqS (ifS q nevS nilS) g) ds).map some
theorem RS.never {K : Fg} {D : Ends} {σ : L2.St} {H : Hp} {t : TS} (h : RS K nevS D σ H) : t D σ H := by
  obtain ⟨P, B, L, ρ, o, R, e, _⟩ := h
  cases e
theorem rs_runX {K : Fg} {N : List Str} {n : Nat} {q : TD} {g : SD} {c : Value} {vs : List V} {H : Hp} {Q : VK} {E : XK} {tr : TS} (hN : n ≤ N.length) (h : spX K n c (runX N.length q g) vs H Q E) (hr : ∀ D σ H', E c none H' → tr D σ H') :
    tSeq (tIfS (RT K q) tr tNext) (RS K g) { nx := fun _ H' => Q .non H', rt := Q } (L2.start N vs) H := by
  obtain ⟨hn, P, ds, o, hl, dq, e, k⟩ := h
  obtain ⟨⟨b, ρ1⟩, e1, e2⟩ := Option.bind_eq_some_iff.mp e
  cases b with
  | true =>
    rw [if_pos rfl] at e2
    cases e2
    have hlen := dq.length
    refine ⟨P, [], [], argE N.length ds, true, ρ1, rep_argE hl dq (by omega), e1, fun H' L' E' post => ?_⟩
    show if (true : Bool) = true then tr _ _ H' else tNext _ _ H'
    rw [if_pos rfl]
    exact hr _ _ _ (k H' (by simpa using post.step.keep))
  | false =>
    rw [if_neg Bool.false_ne_true] at e2
    obtain ⟨r, e3, e4⟩ := Option.map_eq_some_iff.mp e2
    cases e4
    have r0 : RS K (seqS (ifS q nevS nilS) g) { nx := fun _ H' => Q .non H', rt := Q } (L2.start N vs) H := rs_runP (E := E) hN ⟨hn, P, ds, r, hl, dq, e3, k⟩
    have r1 := rs_seq r0
    have r2 := rs_if r1
    refine (show RT K q _ _ _ from ?_)
    obtain ⟨P1, B1, L1, ρ0, b0, ρ2, R, e5, k5⟩ := r2
    refine ⟨P1, B1, L1, ρ0, b0, ρ2, R, e5, fun H' L' E' post => ?_⟩
    have := k5 H' L' E' post
    cases b0 with
    | true =>
      rw [if_pos rfl] at this
      exact RS.never this
    | false =>
      rw [if_neg Bool.false_ne_true] at this
      show if (false : Bool) = true then tr _ _ H' else tNext _ _ H'
      rw [if_neg Bool.false_ne_true]
      exact rs_nil this
/-- an own error's class as it stands at the top -/
structure ClsD (K : Fg) (mg : Str → Option Value) (x : Str) (C : Addr) : Prop where
  g : mg x = some (.ref C)
  e : PySem.W.excIn K C [Value.type "ValueError", Value.type "Exception", Value.type "BaseException", Value.type "object"] "ValueError.__new__" = true
  k : PySem.W.keepIn K (.ref C) = true
  b : PySem.W.subIn K (.ref C) (.type "BaseException") = some true
  t : PySem.W.typeIn K (.ref C) = some (.type "type")
  m : PySem.W.exmOne K (.ref C) (.ref C) = some true
def OkX (P : Program) (w : World) (K : Fg) (mg : Str → Option Value) (base : Heap) (k : Nat) (x : Str) (ps : List Str) (sp : Sp) : Prop :=
  ∃ f fd, FnG P w K mg base (L2.CX P w) k f fd ps sp ∧ mg x = some (.ref f) ∧ PySem.W.keepIn K (.ref f) = true ∧ Binds K fd ps []
theorem OkX.of {P : Program} {w : World} {K : Fg} {mg : Str → Option Value} {base : Heap} {x y : Str} {st : Stmt} {N ps : List Str} {k n : Nat} {q : TD} {g : SD} {C : Addr} {c : Expr} {np p1 p2 p3 : Pos} {rest : List Stmt} (D : Def K mg x st ps) (S : FnScope N ps (defScope st)) (hn : ps.length = n) (hN : n ≤ N.length)
    (hbody : defBody st = .If c [.Raise (some (.Call (.Name y np) [] [] p1)) none p2] [] p3 :: rest) (cl : ClsD K mg y C)
    (hg : ∀ (f : Addr) (cdv : Value) (A : Around) (outer : List PySem.Env) (s : Shared) (H : Hp) (E : XK), Gl (cxOf (L2.CX P w) P w K mg base N x (defScope st) f cdv A outer s H E) y) (hd : (y == ("__debug__" : Str)) = false)
    (hc : ∀ (f : Addr) (cdv : Value) (A : Around) (outer : List PySem.Env) (s : Shared) (H : Hp) (E : XK), (A.deeper (envOfC x (defScope st) s.heap.objs.size f cdv)).guards = some [] → Room k (A.deeper (envOfC x (defScope st) s.heap.objs.size f cdv)) →
      PT (cxOf (L2.CX P w) P w K mg base N x (defScope st) f cdv A outer s H E).nox c (RT K q))
    (hb : ∀ (f : Addr) (cdv : Value) (A : Around) (outer : List PySem.Env) (s : Shared) (H : Hp) (E : XK), (A.deeper (envOfC x (defScope st) s.heap.objs.size f cdv)).guards = some [] → Room k (A.deeper (envOfC x (defScope st) s.heap.objs.size f cdv)) →
      PSs (cxOf (L2.CX P w) P w K mg base N x (defScope st) f cdv A outer s H E).nox rest (RS K g)) : OkX P w K mg base (k + 1) x ps (spX K n (.ref C) (runX N.length q g)) := by
  obtain ⟨f, fd, F, h1, h2, h3⟩ := D.ex
  refine ⟨f, fd, FnG.body F S (fun vs H Q E h => h.1.trans hn.symm) (fun cdv A outer s H vs Q E _ hA hr h => ?_), h1, h2, h3⟩
  rw [hbody]
  exact ⟨_, pss_cons (ps_if (hc f cdv A outer s H E hA hr).nox (pss_one (ps_raise rfl (takes_of rfl rfl rfl rfl) (pmk_own0 PySem.F.excBase_ValueError cl.e cl.g cl.k (raises_own cl.b cl.t) (hg f cdv A outer s H E) hd))) pss_nil) (hb f cdv A outer s H E hA hr).nox,
    rs_runX hN h fun D σ H' hE => hE⟩
end DL
end
noncomputable section
namespace DL
open PySem PySem.Spec PyProof.Rows L2
def tyD : PyData → Option String
  | .none => some "NoneType"
  | .bool _ => some "bool"
  | .int _ => some "int"
  | .str _ => some "str"
  | .tuple _ => some "tuple"
  | .list _ => some "list"
  | _ => none
def tyVal : Val → Option String
  | .cl d => tyD d
  | .own _ => some "list"
  | .sl _ => none
def isinD (f : ED) (T : String) : ED := fun ρ => (f ρ).bind fun p => (tyVal p.1).bind fun n => (kitB n T).map fun b => (.cl (.bool b), p.2)
end DL
end
noncomputable section
namespace DL
open PySem PySem.Spec PyProof.Rows L2
theorem intsOf_eq : ∀ {ds : List PyData} {b : List Int}, intsOf ds = some b → ds = b.map .int
  | [], _, h => by cases h; rfl
  | .int i :: ds, _, h => by
    obtain ⟨b, e1, e2⟩ := Option.map_eq_some_iff.mp h
    cases e2
    rw [intsOf_eq e1]
    rfl
  | .none :: _, _, h => nomatch h
  | .bool _ :: _, _, h => nomatch h
  | .str _ :: _, _, h => nomatch h
  | .list _ :: _, _, h => nomatch h
  | .tuple _ :: _, _, h => nomatch h
  | .dict _ :: _, _, h => nomatch h
end DL
end
noncomputable section
namespace LV
open PySem L2 DL
end LV
end
set_option maxHeartbeats 1000000
noncomputable section
namespace ZE
open PySem PySem.Spec PyProof.Rows L2
def ZTn (b1 b2 : Bool) (a1 a2 z TI TO i1 i2 N : Addr) (i : Nat) (h : Heap) : Prop := IsTupOf2 h TI (.ref i1) (.ref i2) ∧ ItB b1 h i1 a1 i ∧ ItB b2 h i2 a2 i ∧ ((IsZip h z TI TO .none ∧ ∃ x y, IsTupOf2 h TO x y) ∨ ∃ T f oT, IsZipHeld h z TI TO T f ∧ h.get? T = some oT ∧ N ≤ T)
section
variable {b1 b2 : Bool} {a1 a2 z TI TO i1 i2 N q : Addr} {i : Nat} {h h' : Heap}
theorem ZTn.at (t : ZTn b1 b2 a1 a2 z TI TO i1 i2 N i h) (hTI : TI ≠ q) (h1 : i1 ≠ q) (h2 : i2 ≠ q) (hz : z ≠ q) (hTO : TO ≠ q) (hN : q < N) (k : ∀ c o, c ≠ q → h.get? c = some o → h'.get? c = some o) : ZTn b1 b2 a1 a2 z TI TO i1 i2 N i h' := by
  obtain ⟨t1, t2, t3, t4⟩ := t
  refine ⟨k _ _ hTI t1, t2.at fun o e => k _ o h1 e, t3.at fun o e => k _ o h2 e, ?_⟩
  rcases t4 with ⟨z1, x, y, z2⟩ | ⟨T, f, oT, z1, z2, z3⟩
  · exact .inl ⟨k _ _ hz z1, x, y, k _ _ hTO z2⟩
  · exact .inr ⟨T, f, oT, k _ _ hz z1, k _ _ (Nat.ne_of_gt (Nat.lt_of_lt_of_le hN z3)) z2, z3⟩
end
end ZE
end
set_option maxHeartbeats 1000000
noncomputable section
namespace ZE
open PySem PySem.Spec PyProof.Rows L2
end ZE
end
set_option maxHeartbeats 1000000
noncomputable section
namespace ZE
open PySem PySem.Spec PyProof.Rows L2
end ZE
namespace DL
open PySem PySem.Spec PyProof.Rows L2 ZE
def zipLD (t : AD) : ED := fun ρ => (zipI t ρ).bind fun p => if p.1.length ≤ lim then some (.own p.1, p.2) else none
end DL
end
set_option maxHeartbeats 1000000
noncomputable section
namespace DL
open PySem PySem.Spec PyProof.Rows L2
/-- what the error's own __init__ does: self.fld = fld -/
def spI (C : Addr) (fld : Str) : Sp := fun vs H Q _ => ∃ a v, vs = [V.ref a, v] ∧ H a = some (exo a C none) ∧ ∀ dx, H dx = none → dx ≠ a → Q .non (upd (upd H dx (exd dx [(fld, v)])) a (exo a C (some dx)))
structure ErrD (K : Fg) (mg : Str → Option Value) (x : Str) (C : Addr) (fld : Str) : Prop where
  g : mg x = some (.ref C)
  oc : OexC K C
  xf : XfC K C
  no : PySem.W.findIn K (.ref C) fld = some none
  m : PySem.W.exmOne K (.ref C) (.ref C) = some true
  ini : ∃ fI, PySem.W.findIn K (.ref C) "__init__" = some (some (.ref fI)) ∧ PySem.W.typeIn K (.ref fI) = some (.type "function") ∧
    ∀ (P : Program) (w : World) (base : Heap), ∃ fd, FnOk P w K mg base (fun _ _ _ _ _ _ => False) 1 fI fd ["self", fld] (spI C fld) ∧ Binds K fd ["self", fld] []
abbrev SE := DL.Env → Option (Out ⊕ Int)
def EOk (K : Fg) (C : Addr) (fld : Str) (E : XK) (P B L : List Addr) (H : Hp) (D : Ends) : Out ⊕ Int → Prop
  | .inl o => OutOk K P B L H D o
  | .inr i => ∀ L' H' d, Step B L H L' H' → H' d = some (.xd [(fld, .int i)]) → E (.ref C) (some d) H'
theorem EOk.after {K : Fg} {C : Addr} {fld : Str} {E : XK} {P B L La : List Addr} {H Ha : Hp} {D : Ends} {o : Out ⊕ Int} (h : EOk K C fld E P B L H D o) (s : Step B L H La Ha) : EOk K C fld E P B La Ha D o := by
  cases o with
  | inl o => exact OutOk.after h s
  | inr i => exact fun L2 H2 d s2 q => h L2 H2 d (s.trans s2) q
def RSE (K : Fg) (C : Addr) (fld : Str) (E : XK) (g : SE) : TS := fun D σ H => ∃ P B L ρ o, Rep K P B L σ ρ H ∧ g ρ = some o ∧ EOk K C fld E P B L H D o
def pureE (g : SD) : SE := fun ρ => (g ρ).map .inl
def seqE (g : SD) (h : SE) : SE := fun ρ => (g ρ).bind fun o => match o with
  | .nx ρ' => h ρ'
  | o => some (.inl o)
def ifE (c : TD) (g h : SE) : SE := fun ρ => (c ρ).bind fun p => if p.1 = true then g p.2 else h p.2
def raiseE (f : ED) : SE := fun ρ => (f ρ).bind fun p => match p.1 with
  | .cl (.int i) => some (.inr i)
  | _ => none
end DL
end
set_option maxHeartbeats 1000000
noncomputable section
namespace DL
open PySem PySem.Spec PyProof.Rows L2
abbrev FE := List PyData → Option (Val ⊕ Int)
def REnd (K : Fg) (C : Addr) (fld : Str) (P : List Addr) (H : Hp) (Q : VK) (E : XK) : Val ⊕ Int → Prop
  | .inl r => ∀ x H' E', Keep [] H H' → RRes K P H H' E' x r → Q x H'
  | .inr i => ∀ H' d, Keep [] H H' → H' d = some (.xd [(fld, .int i)]) → E (.ref C) (some d) H'
def spE (K : Fg) (n : Nat) (C : Addr) (fld : Str) (G : FE) : Sp := fun vs H Q E => vs.length = n ∧ ∃ P ds o, (Lists H P ∧ DL.Tabs K.T H) ∧ DqA K H P vs ds ∧ G ds = some o ∧ REnd K C fld P H Q E o
def runE (N : Nat) (g : SE) : FE := fun ds => (g (argE N ds)).bind fun o => match o with
  | .inr i => some (.inr i)
  | .inl (.rt r ρ') => (retV ρ' r).map .inl
  | .inl (.nx _) => some (.inl (.cl .none))
  | _ => none
theorem rse_runE {K : Fg} {C : Addr} {fld : Str} {N : List Str} {n : Nat} {g : SE} {vs : List V} {H : Hp} {Q : VK} {E : XK} (hN : n ≤ N.length) (h : spE K n C fld (runE N.length g) vs H Q E) : RSE K C fld E g { nx := fun _ H' => Q .non H', rt := Q } (L2.start N vs) H := by
  obtain ⟨hn, P, ds, r, hl, dq, e, k⟩ := h
  obtain ⟨o, e1, e2⟩ := Option.bind_eq_some_iff.mp e
  have hlen := dq.length
  refine ⟨P, [], [], argE N.length ds, o, rep_argE hl dq (by omega), e1, ?_⟩
  have hP : ∀ a ∈ P ++ [], H a ≠ none := fun a z => by
    obtain ⟨vs, q, _⟩ := hl.1 a (by simpa using z)
    rw [q]; exact fun y => nomatch y
  have eP : P ++ [] = P := by simp
  cases o with
  | inr i =>
    cases e2
    exact fun L' H' d s q => k H' d (by simpa using s.keep) q
  | inl o =>
    cases o with
    | nx ρ' =>
      cases e2
      exact fun σ' H' L' R s => k _ H' [] (by simpa using s.keep) ⟨rfl, .non⟩
    | rt r' ρ' =>
      obtain ⟨v2, e3, rfl⟩ := Option.map_eq_some_iff.mp e2
      refine fun σ' x H' L' E' R s f v => ?_
      obtain ⟨E2, _, q⟩ := res_of R f (fun a z => (s.lsub a z).elim (fun y => nomatch y) id) hP v e3
      rw [eP] at q
      exact k x H' E2 (by simpa using s.keep) q
    | ct ρ' => cases e2
    | bk ρ' => cases e2
def OkE (P : Program) (w : World) (K : Fg) (mg : Str → Option Value) (base : Heap) (k : Nat) (x : Str) (ps : List Str) (n : Nat) (C : Addr) (fld : Str) (G : FE) : Prop :=
  ∃ f fd, FnG P w K mg base (L2.CX P w) k f fd ps (spE K n C fld G) ∧ mg x = some (.ref f) ∧ PySem.W.keepIn K (.ref f) = true ∧ Binds K fd ps []
/-- with a number by default -/
def OkED (P : Program) (w : World) (K : Fg) (mg : Str → Option Value) (base : Heap) (k : Nat) (x : Str) (ps : List Str) (n : Nat) (C : Addr) (fld : Str) (G : FE) (i : Int) : Prop :=
  ∃ f fd, FnG P w K mg base (L2.CX P w) k f fd ps (spE K n C fld G) ∧ mg x = some (.ref f) ∧ PySem.W.keepIn K (.ref f) = true ∧ Binds K fd ps [] ∧ ∃ u, RelV (.int i) u ∧ Binds K fd ps [u]
section
variable {P : Program} {w : World} {K : Fg} {mg : Str → Option Value} {base : Heap} {k n : Nat} {x : Str} {ps N : List Str} {C : Addr} {fld : Str} {G : FE} {i : Int} {st : Stmt} {g : SE}
theorem OkED.ok (h : OkED P w K mg base k x ps n C fld G i) : OkE P w K mg base k x ps n C fld G := by
  obtain ⟨f, fd, G, h1, h2, h3, _⟩ := h
  exact ⟨f, fd, G, h1, h2, h3⟩
theorem OkE.of (D : Def K mg x st ps) (S : FnScope N ps (defScope st)) (hn : ps.length = n) (hN : n ≤ N.length)
    (hb : ∀ (f : Addr) (cdv : Value) (A : Around) (outer : List PySem.Env) (s : Shared) (H : Hp) (E : XK), (A.deeper (envOfC x (defScope st) s.heap.objs.size f cdv)).guards = some [] → Room k (A.deeper (envOfC x (defScope st) s.heap.objs.size f cdv)) →
      Takes (cxOf (L2.CX P w) P w K mg base N x (defScope st) f cdv A outer s H E) (fun cls d _ H => E cls d H) → PSs (cxOf (L2.CX P w) P w K mg base N x (defScope st) f cdv A outer s H E) (defBody st) (RSE K C fld E g)) : OkE P w K mg base (k + 1) x ps n C fld (runE N.length g) := by
  obtain ⟨f, fd, F, h1, h2, h3⟩ := D.ex
  exact ⟨f, fd, FnG.body F S (fun vs H Q E h => h.1.trans hn.symm) (fun cdv A outer s H vs Q E _ hA hr h => ⟨_, hb f cdv A outer s H E hA hr (takes_of rfl rfl rfl rfl), rse_runE hN h⟩), h1, h2, h3⟩
theorem OkED.of (D : DefD K mg x st ps i) (S : FnScope N ps (defScope st)) (hn : ps.length = n) (hN : n ≤ N.length)
    (hb : ∀ (f : Addr) (cdv : Value) (A : Around) (outer : List PySem.Env) (s : Shared) (H : Hp) (E : XK), (A.deeper (envOfC x (defScope st) s.heap.objs.size f cdv)).guards = some [] → Room k (A.deeper (envOfC x (defScope st) s.heap.objs.size f cdv)) →
      Takes (cxOf (L2.CX P w) P w K mg base N x (defScope st) f cdv A outer s H E) (fun cls d _ H => E cls d H) → PSs (cxOf (L2.CX P w) P w K mg base N x (defScope st) f cdv A outer s H E) (defBody st) (RSE K C fld E g)) : OkED P w K mg base (k + 1) x ps n C fld (runE N.length g) i := by
  obtain ⟨f, fd, F, h1, h2, h3, h4⟩ := D.ex
  exact ⟨f, fd, FnG.bodyD F S (fun vs H Q E h => h.1.trans hn.symm) (fun cdv A outer s H vs Q E _ hA hr h => ⟨_, hb f cdv A outer s H E hA hr (takes_of rfl rfl rfl rfl), rse_runE hN h⟩), h1, h2, h3, h4⟩
end
section
variable {X : Cx} {tl : TL} {k n : Nat} {ps : List Str} {x y : Str} {p pos py : Pos} {e : Expr} {es : List Expr} {C : Addr} {fld : Str} {G : FE} {t : AD} {i : Int} {E : XK}
/-- a call that may raise, whatever is made of its answer -/
def exC (n : Nat) (G : FE) (t : AD) (g : SD) : SE := fun ρ => (t ρ).bind fun p => (psAll p.2 p.1).bind fun q => if q.1.length = n then (G q.1).bind fun o => match o with
  | .inl _ => (g ρ).map .inl
  | .inr i => some (.inr i)
  else none
end
end DL
end
set_option maxHeartbeats 1000000
noncomputable section
namespace DL
open PySem PySem.Spec PyProof.Rows L2 LamX
def wFirst (K : PySem.W.Frag) (c : Value) (i : Nat) (ts : Addr → Value → Option Addr → TS) (D : Ends) : WX := fun cls d σ H =>
  PySem.W.exmOne K cls c = some true ∧ ∀ a, H a = none → ts a cls d { nx := fun σ' H' => D.nx (σ'.set i none) H', rt := D.rt, bk := fun σ' H' => D.bk (σ'.set i none) H', ct := fun σ' H' => D.ct (σ'.set i none) H' } (σ.set i (some (.ref a))) H
section
variable {X : Cx} {x n : Str} {c : Value} {i : Nat} {body suite : List Stmt} {b₀ : Stmt} {hds : List ExceptHandler} {np pos pos' : Pos} {tb : WX → TS} {ts : Addr → Value → Option Addr → TS}
theorem ps_try_first (hs : X.stack = X.env :: X.outer) (hf : X.env.frame = some X.env.locals) (hN : X.N.Nodup) (hi : X.N[i]? = some n) (hln : X.env.kindOf n = some .local) (hc : Names X x c)
    (hb : ∀ (W : WX) (pn : List (Addr × Obj)) (xe : Value → Shared → Prop), Takes (X.tr pn xe) W → PSs (X.tr pn xe) body (tb W))
    (hsu : ∀ (a : Addr) (oe : Obj) (cls : Value) (d : Option Addr) (pn : List (Addr × Obj)), Zc cls d oe → (∃ vs, oe.data = .fields vs) → PSs (X.suite a ((a, oe) :: pn)) (b₀ :: suite) (ts a cls d)) :
    PS X (.Try body (.ExceptHandler (some (.Name x np)) (some n) (b₀ :: suite) pos' :: hds) [] [] pos) (fun D σ H => tb (wFirst X.K c i ts D) D σ H) := by
  refine ⟨fun pins s σ H D I h => wpAny_Try_except ?_⟩
  have frs1 : X.A.frames = some (X.env :: X.outer) := by rw [I.ok.frames, hs]
  refine wpAny_mono ((hb (wFirst X.K c i ts D) (X.pn ++ pins) (fun e s₁ => wpAny (model X.prog X.w) X.A (noteFrame e X.env) (fun _ s₂ => wpAny (model X.prog X.w) X.A (setFlight e none) (fun _ s₃ =>
    wpAny (model X.prog X.w) X.A (handleBy e X.env (.ExceptHandler (some (.Name x np)) (some n) (b₀ :: suite) pos' :: hds)) (SP X pins D) X.xe s₃) X.xe s₂) X.xe s₁) (fun u s' xx => ?_)).run [] s σ H D (I.toTry _) h) (fun f s1 q1 => ?_) (fun e s1 he => he)
  · obtain ⟨a, B, sI, pins', σ', H', cls, d, rfl, J0, nb, up, sky, na, os, ag, m1, m2⟩ := xx
    have J := J0.ofTry I.ok
    rw [hs] at sky
    refine Sky.land Zc.steady frs1 hf sky fun h3 fl3 up3 => ?_
    have J3 : Inv X pins σ' H' { s' with heap := h3 } := J.landed nb fl3.1 (up.trans up3) os ag
    obtain ⟨o3, v3, g3, z3, w3⟩ := fl3.there
    have out : a ∉ frs (X.env :: X.outer) := fun hm => by
      obtain ⟨_, o', e', hnf⟩ := fl3.2.2.1.mem hm
      rw [g3] at e'
      cases e'
      exact hnf _ w3
    have nL : a ≠ X.env.locals := fun z => out (List.mem_filterMap.mpr ⟨X.env, List.mem_cons_self, by rw [hf, z]⟩)
    have nF : a ∉ X.fs := fun hm => by
      obtain ⟨e, he, q⟩ := List.mem_filterMap.mp hm
      exact out (List.mem_filterMap.mpr ⟨e, List.mem_cons_of_mem _ he, q⟩)
    have S3 := J3.suite g3 w3 na nL nF
    refine wpAny_handleBy_cons (codeAny_handlers_test ?_) (by intro q; cases q)
    have LT : PySem.W.Looks (model X.prog X.w) h3 (typeOf (.ref a)) cls := fun A Q E s k q => wpAny_typeOf_ref (k _ _ g3) (by rw [z3.1]; exact q)
    have nm : ∀ {Q : Value → Shared → Prop} {E : Value → Shared → Prop}, Q c { s' with heap := h3 } → wpAny (model X.prog X.w) (X.A.mark (some (.ref a))) (eval (.Name x np) X.env) Q E { s' with heap := h3 } := fun q => by
      obtain ⟨hg, hdbg, hm | ⟨hm, hv, hnn⟩⟩ := hc
      · exact ld_glob (X := X.suite a ((a, o3) :: (X.pn ++ pins))) S3 hg hm q hdbg
      · exact ld_blt (X := X.suite a ((a, o3) :: (X.pn ++ pins))) S3 hg hm hv q hnn hdbg
    refine nm ((PySem.W.exm_one (M := model X.prog X.w) (J3.kIn) LT m1).here (codeAny_handlers_suite_as ?_))
    refine HandSPX.lands_againZ fl3 fun h4 fl4 up4 => ?_
    have J4 : Inv X pins σ' H' { s' with heap := h4 } := J.landed nb fl4.1 ((up.trans up3).trans up4) os ag
    obtain ⟨o4, v4, g4, z4, w4⟩ := fl4.there
    refine store_ok (X := X.suite a ((a, o4) :: (X.pn ++ pins))) (v := .ref a) (J4.suite g4 w4 na nL nF) hN hi (.inl hln) rfl (fun s5 S5 => ?_) (.inr hln)
    refine wpAny_mono ((hsu a o4 cls d (X.pn ++ pins) z4 ⟨_, w4⟩).run [] s5 _ H' _ S5 (m2 a na)) (fun f s6 q6 => ?_) (fun _ _ z => False.elim z)
    have fin : ∀ {σ6 : L2.St} {H6 : Hp} {Q : Shared → Prop}, Inv (X.suite a ((a, o4) :: (X.pn ++ pins))) [] σ6 H6 s6 → (∀ s7, Inv X pins (σ6.set i none) H6 s7 → Q s7) →
        wpAny (model X.prog X.w) X.A (do bindName X.env n .none; unbindBehindTheSuite X.env n pos') (fun _ s7 => Q s7) X.xe s6 := fun S6 hq => gone_ok (S6.unsuite I.ok) hN hi hln hq
    cases f with
    | ret u =>
      obtain ⟨v6, σ6, H6, S6, r6, q6⟩ := q6
      exact fin S6 fun s7 J7 => ⟨_, _, _, J7, r6, q6⟩
    | next => obtain ⟨σ6, H6, S6, q6⟩ := q6; exact fin S6 fun s7 J7 => ⟨_, _, J7, q6⟩
    | brk => obtain ⟨σ6, H6, S6, q6⟩ := q6; exact fin S6 fun s7 J7 => ⟨_, _, J7, q6⟩
    | cont => obtain ⟨σ6, H6, S6, q6⟩ := q6; exact fin S6 fun s7 J7 => ⟨_, _, J7, q6⟩
  · cases f with
    | ret u => obtain ⟨v, σ', H', J', r, q⟩ := q1; exact ⟨v, σ', H', J'.ofTry I.ok, r, q⟩
    | next => obtain ⟨σ', H', J', q⟩ := q1; exact wpAny_execs_nil ⟨σ', H', J'.ofTry I.ok, q⟩
    | brk => obtain ⟨σ', H', J', q⟩ := q1; exact ⟨σ', H', J'.ofTry I.ok, q⟩
    | cont => obtain ⟨σ', H', J', q⟩ := q1; exact ⟨σ', H', J'.ofTry I.ok, q⟩
theorem takes_len {W : WX} (t : Takes X W) : Takes X (fun cls d σ H => σ.length = X.N.length → W cls d σ H) := fun u s' ⟨a, B, sI, pins, σ, H, cls, d, e, I, nb, up, sky, na, os, ag, w⟩ =>
  t u s' ⟨a, B, sI, pins, σ, H, cls, d, e, I, nb, up, sky, na, os, ag, w I.len⟩
end
def THeard (C : Addr) (fld m1 m2 : Str) : (XK → Hp → VK → Prop) → Hp → VK → Prop := fun tl H Q =>
  tl (fun cls d H' => cls = .ref C ∧ ∃ dd i, d = some dd ∧ H' dd = some (.xd [(fld, .int i)]) ∧ NewT H' Q [.str m2, .int i]) H (fun v H' => [V.str m1, v].length ≤ sizeLine ∧ NewT H' Q [.str m1, v])
theorem heard_gives {X : Cx} {tl : TL} {Ng : List Str} {x a e q y fld m1 m2 : Str} {sg : Scope} {g C : Addr} {cdg : Value} {j1 j2 k1 k2 : _} {i : Nat} {hds : List ExceptHandler} {p1 p2 p3 p4 p5 p6 p7 p8 p9 p10 p11 p12 p13 : Pos}
    (cl : ErrD (X.D tl) X.mg y C fld) (hge : sg.names.lookup y = some .globalImplicit) (hde : (y == ("__debug__" : Str)) = false) (hN : Ng.Nodup) (hi : Ng[i]? = some e) (hln : sg.names.lookup e = some .local) (hd : (e == ("__debug__" : Str)) = false) (hcd : (e == ("__classdict__" : Str)) = false) (h0 : ∀ f : Addr, (L2.start Ng [V.ref f])[0]? = some (some (V.ref f))) :
    GivesTo X Ng x sg g cdg [.Try [.Return (some (.Tuple [.Constant (.str m1) j1 p1, .Call (.Name a p2) [] [] p3] k1 p4)) p5] (.ExceptHandler (some (.Name y p6)) (some e) [.Return (some (.Tuple [.Constant (.str m2) j2 p7, .Attribute (.Name e p8) fld p9] k2 p10)) p11] p12 :: hds) [] [] p13] a q (THeard C fld m1 m2) := by
  intro f c' s H Q tla act hco h
  have hgl : Gl (cxOf C8.CX0 X.prog X.w X.K X.mg X.base Ng x sg g cdg X.A X.stack s H C8.E0).nox y := hge
  refine ⟨_, pss_one (ps_try_first (X := (cxOf C8.CX0 X.prog X.w X.K X.mg X.base Ng x sg g cdg X.A X.stack s H C8.E0).nox) (c := .ref C) (i := i)
      (tb := fun W D σ H => ∃ Ech : XK, (∀ cls d σ' H', Ech cls d H' → σ'.length = Ng.length → W cls d σ' H') ∧ σ[0]? = some (some (.ref f)) ∧ H c' = some (CodeO c' q) ∧ tla Ech H fun v H' => [V.str m1, v].length ≤ sizeLine ∧ NewT H' D.rt [.str m1, v])
      rfl rfl hN hi hln ⟨hgl, hde, .inl cl.g⟩ (fun W pn xe tk => ?_) (fun a oe cls d pn hz hf => pss_one (ps_ret (pe_tupF (pa_cons pe_str (pa_cons (pe_xf cl.xf cl.no hz hf (pe_var (i := i) hi (.inl hln) hd hcd)) pa_nil)))))), ?_⟩
  · refine ⟨fun pins s' σ H' D I h' => ?_⟩
    obtain ⟨Ech, hW, h1, h2, h3⟩ := h'
    have hp := act (fun cls d σ' H' => σ'.length = Ng.length → W cls d σ' H') pn xe Ech p2 p3 (takes_len tk) (fun cls d σ' H' he hl => hW cls d σ' H' he hl)
    have hq := pss_one (ps_ret (pos := p5) (pe_tupF (x1 := k1) (pos := p4) (pa_cons (pe_str (x := m1) (j := j1) (pos := p1)) (pa_cons hp pa_nil))))
    exact hq.run pins s' σ H' D I ⟨h1, h2, h3⟩
  · refine ⟨fun cls d H' => cls = .ref C ∧ ∃ dd i, d = some dd ∧ H' dd = some (.xd [(fld, .int i)]) ∧ NewT H' Q [.str m2, .int i], ?_, h0 f, hco, h⟩
    rintro cls d σ' H' ⟨rfl, dd, iv, rfl, hx, hn⟩ hl
    refine ⟨cl.m, fun a ha => ?_⟩
    have hlt : i < σ'.length := by
      rw [hl]
      exact (List.getElem?_eq_some_iff.mp hi).1
    refine ⟨.ref a, by rw [List.getElem?_set_self hlt], rfl, rfl, dd, _, .int iv, rfl, hx, by simp [List.lookup], by rw [sizeLine_eq]; show 2 ≤ _; decide, hn⟩
end DL
end
set_option maxHeartbeats 2000000
noncomputable section
namespace DL
open PySem PySem.Spec PyProof.Rows L2 LamX
/-- the def that hears, as it stands at the top -/
def OkH (K : Fg) (mg : Str → Option Value) (x : Str) (C : Addr) (fld m1 m2 : Str) : Prop :=
  ∃ (a : Str) (g : Addr) (pg : Arguments) (bg : List Stmt) (sg : Scope) (dV kV doc pm cdv ct oc : Value) (an od : Option Addr) (osl : Array (Option Value)) (Ng : List Str), mg x = some (.ref g) ∧ PySem.W.keepIn K (.ref g) = true ∧ K.K.lookup g = some ⟨oc, od, .func (PySem.W.fnOf x x pg bg sg dV kV doc pm an cdv ct), osl⟩ ∧ PySem.W.codeIn K cdv x = true ∧
    L2.Binds K (PySem.W.fnOf x x pg bg sg dV kV doc pm an cdv ct) [a] [] ∧ FnScope Ng [a] sg ∧ Ng[0]? = some a ∧ Vis sg a ∧ (a == ("__debug__" : Str)) = false ∧ (a == ("__classdict__" : Str)) = false ∧ ∀ (X : Cx) (q : Str), X.K = K.K → X.mg = mg → GivesTo X Ng x sg g cdv bg a q (THeard C fld m1 m2)
def heardD (n : Nat) (G : FE) (t : AD) (m1 m2 : Str) : ED := fun ρ => (t ρ).bind fun p => (psAll p.2 p.1).bind fun q => if q.1.length = n then (G q.1).bind fun o => match o with
  | .inl (.cl d) => some (.cl (.tuple [.str m1, d]), q.2)
  | .inl (.own ds) => some (.cl (.tuple [.str m1, .list ds]), q.2)
  | .inl (.sl _) => none
  | .inr i => some (.cl (.tuple [.str m2, .int i]), q.2)
  else none
end DL
end
noncomputable section
namespace DL
open PySem PySem.Spec PyProof.Rows L2
end DL
end
set_option maxHeartbeats 1000000
noncomputable section
namespace DL
open PySem PySem.Spec PyProof.Rows L2 LamX
theorem OkH.mk {K : Fg} {mg : Str → Option Value} {x a e y fld m1 m2 : Str} {st : Stmt} {g C : Addr} {dV kV doc pm cdv ct oc : Value} {an od : Option Addr} {osl : Array (Option Value)} {Ng : List Str} {i : Nat} {hds : List ExceptHandler} {j1 j2 k1 k2 : _} {p1 p2 p3 p4 p5 p6 p7 p8 p9 p10 p11 p12 p13 : Pos}
    (hm : mg x = some (.ref g)) (hk : PySem.W.keepIn K (.ref g) = true) (l : K.K.lookup g = some ⟨oc, od, .func (PySem.W.fnOf x x (defArgs st) (defBody st) (defScope st) dV kV doc pm an cdv ct), osl⟩) (c : PySem.W.codeIn K cdv x = true)
    (b : L2.Binds K (PySem.W.fnOf x x (defArgs st) (defBody st) (defScope st) dV kV doc pm an cdv ct) [a] []) (S : FnScope Ng [a] (defScope st)) (n0 : Ng[0]? = some a)
    (cl : ErrD K mg y C fld)
    (hb : defBody st = [.Try [.Return (some (.Tuple [.Constant (.str m1) j1 p1, .Call (.Name a p2) [] [] p3] k1 p4)) p5] (.ExceptHandler (some (.Name y p6)) (some e) [.Return (some (.Tuple [.Constant (.str m2) j2 p7, .Attribute (.Name e p8) fld p9] k2 p10)) p11] p12 :: hds) [] [] p13])
    (hge : (defScope st).names.lookup y = some .globalImplicit) (hi : Ng[i]? = some e) (hln : (defScope st).names.lookup e = some .local) (i0 : 0 < i)
    (v0 : Vis (defScope st) a := by first | exact Or.inl rfl | exact Or.inr (Or.inl rfl) | exact Or.inr (Or.inr rfl))
    (d1 : (a == ("__debug__" : Str)) = false := by decide) (d2 : (a == ("__classdict__" : Str)) = false := by decide) (d3 : (y == ("__debug__" : Str)) = false := by decide) (d4 : (e == ("__debug__" : Str)) = false := by decide) (d5 : (e == ("__classdict__" : Str)) = false := by decide) :
    OkH K mg x C fld m1 m2 := by
  refine ⟨a, g, defArgs st, defBody st, defScope st, dV, kV, doc, pm, cdv, ct, oc, an, od, osl, Ng, hm, hk, l, c, b, S, n0, v0, d1, d2, fun X q hK hM => ?_⟩
  rw [hb]
  have cl' : ErrD (X.D K.T) X.mg y C fld := by
    have e1 : X.D K.T = K := by show (⟨X.K, K.T⟩ : Fg) = K; rw [hK]
    rw [e1, hM]; exact cl
  refine heard_gives cl' hge d3 S.nd hi hln d4 d5 fun f => ?_
  rw [start_get]
  simp
theorem tabsN {h : Heap} (cs : List (Addr × Addr)) (t : ∀ P ∈ cs.map (·.2), h.get? P = some (PySem.W.tabObj #[])) : ∀ p ∈ cs, h.get? p.2 = some { cls := .none, data := .fields #[] } := fun p hp => t p.2 (List.mem_map_of_mem hp)
end DL
end
set_option maxHeartbeats 1000000
noncomputable section
namespace DL
open PySem PySem.Spec PyProof.Rows L2 LamX
def isKey (k : Key) : PyData → Bool
  | .int i => decide (k = .inl i)
  | .str x => decide (k = .inr x)
  | _ => false
def lookD (k : Key) : List (PyData × PyData) → Option PyData
  | [] => none
  | p :: r => if isKey k p.1 = true then some p.2 else lookD k r
def keyOf : PyData → Option Key
  | .int i => some (.inl i)
  | .str x => some (.inr x)
  | _ => none
def inDG (neg : Bool) : DL.Env → Val → Val → Option (Val × DL.Env) := fun ρ a b => match a, b with
  | .cl d, .cl (.dict ds) => (keyOf d).map fun k => (.cl (.bool (neg ^^ (lookD k ds).isSome)), ρ)
  | _, _ => none
def ixDG : DL.Env → Val → Val → Option (Val × DL.Env) := fun ρ a b => match a, b with
  | .cl (.dict ds), .cl d => (keyOf d).bind fun k => (lookD k ds).map fun r => (.cl r, ρ)
  | _, _ => none
section
variable {X : Cx} {tl : TL} {a b : Expr} {f1 f2 : ED} {pos : Pos}
/-- {x: y}, names both -/
def dicV (i j : Nat) : ED := fun ρ => match ρ.getD i .no, ρ.getD j .no with
  | .cl d, .cl e => (keyOf d).map fun _ => (.cl (.dict [(d, e)]), ρ)
  | _, _ => none
end
end DL
end
set_option maxHeartbeats 1000000
noncomputable section
namespace DL
open PySem PySem.Spec PyProof.Rows L2 LamX
structure Sw (H H2 : Hp) (d : Addr) (kvs : List (Key × V)) : Prop where
  out : ∀ b, b ≠ d → H2 b = H b
  a : Rd H d (.dK kvs)
  b : Rd H2 d (.dK kvs)
theorem Rd.dK_inj {H : Hp} {a : Addr} {k1 k2 : List (Key × V)} (h1 : Rd H a (.dK k1)) (h2 : Rd H a (.dK k2)) : k1 = k2 := by
  rcases h1 with h1 | ⟨o1, h1⟩ <;> rcases h2 with h2 | ⟨o2, h2⟩ <;> rw [h1] at h2 <;> cases h2 <;> rfl
section
variable {K : Fg} {H H2 : Hp} {W : List Addr} {d : Addr} {kvs : List (Key × V)}
theorem Sw.lst (s : Sw H H2 d kvs) {a : Addr} {xs : List V} (h : H a = some (.lst xs)) : H2 a = some (.lst xs) := by
  rw [s.out a, h]
  rintro rfl
  rcases s.a with z | ⟨o, z⟩ <;> rw [h] at z <;> cases z
theorem Sw.tup (s : Sw H H2 d kvs) {a : Addr} {xs : List V} (h : TupD H a xs) : TupD H2 a xs := by
  obtain ⟨o, h, p⟩ := h
  refine ⟨o, ?_, p⟩
  rw [s.out a, h]
  rintro rfl
  rcases s.a with z | ⟨o, z⟩ <;> rw [h] at z <;> cases z
theorem Sw.dic (s : Sw H H2 d kvs) {a : Addr} {ks : List (Key × V)} (h : DicD H a ks) : DicD H2 a ks := by
  by_cases e : a = d
  · subst e
    have := Rd.dK_inj h.rd s.a
    subst this
    exact ⟨s.b⟩
  · refine ⟨?_⟩
    unfold Rd
    rw [s.out a e]
    exact h.rd
theorem Sw.tabs (s : Sw H H2 d kvs) {T : TL} (t : Tabs T H) : Tabs T H2 := fun p hp => TabS.extB (t p hp) fun b o e h => by
  rw [s.out b, e]
  rintro rfl
  rcases s.a with z | ⟨o2, z⟩ <;> rw [e] at z <;> cases z <;> rcases h with ⟨ps, h⟩ | ⟨c, q, h⟩ <;> cases h
variable {P B L E : List Addr} {σ : L2.St} {ρ : DL.Env}
end
def keyI (j : Nat) : ID := fun ρ => match ρ.getD j .no with
  | .cl (.dict ds) => some (ds.map (·.1), ρ)
  | _ => none
end DL
end
set_option maxHeartbeats 1000000
noncomputable section
namespace DL
open PySem PySem.Spec PyProof.Rows L2 LamX
end DL
end
set_option maxHeartbeats 1000000
noncomputable section
namespace DL
open PySem PySem.Spec PyProof.Rows L2 LamX
section
variable {X : Cx} {tl : TL} {pins : List (Addr × Obj)} {s : Shared} {σ : L2.St} {H : Hp} {W : List Addr} {a : Addr} {es : List (NestedKey × Addr × V)} {ds : List (PyData × PyData)}
theorem DqT.length {K : Fg} : ∀ {es : List (NestedKey × Addr × V)} {ds : List (PyData × PyData)}, DqT K H W es ds → es.length = ds.length
  | _, _, .nil => rfl
  | _, _, .cons h1 h2 h3 h4 h5 => by rw [List.length_cons, List.length_cons, DqT.length h5]
def putT (ds : List (PyData × PyData)) (k : NestedKey) (dk dv : PyData) : List (PyData × PyData) :=
  if (ds.any fun p => decide (nkey p.1 = some k)) = true then ds.map fun p => if nkey p.1 = some k then (p.1, dv) else p else ds ++ [(dk, dv)]
theorem DqT.any {K : Fg} (k : NestedKey) : ∀ {es : List (NestedKey × Addr × V)} {ds : List (PyData × PyData)}, DqT K H W es ds → (es.any fun x => decide (x.1 = k)) = ds.any fun p => decide (nkey p.1 = some k)
  | _, _, .nil => rfl
  | _, _, .cons h1 h2 h3 h4 h5 => by
    rw [List.any_cons, List.any_cons, DqT.any k h5, h2]
    congr 1
    exact decide_eq_decide.mpr ⟨fun z => congrArg some z, fun z => Option.some.inj z⟩
end
/-- x = {}: a dict whose keys will be tuples -/
def newT (i : Nat) : SD := fun ρ => some (.nx (ρ.set i (.dk true [])))
/-- x = {}: a dict whose keys will be ints and texts -/
def newK (i : Nat) : SD := fun ρ => some (.nx (ρ.set i (.dk false [])))
def putK (ds : List (PyData × PyData)) (k : Key) (dk dv : PyData) : List (PyData × PyData) :=
  if (ds.any fun p => isKey k p.1) = true then ds.map fun p => if isKey k p.1 = true then (p.1, dv) else p else ds ++ [(dk, dv)]
def isTupD : PyData → Bool
  | .tuple _ => true
  | _ => false
def putP (t : Bool) (ds : List (PyData × PyData)) (dk dv : PyData) : Option (List (PyData × PyData)) := match t with
  | true => (nkey dk).bind fun k => if isTupD dk = true ∧ k.depth ≤ 8 ∧ ds.length < lim then some (putT ds k dk dv) else none
  | false => (keyOf dk).bind fun k => if ds.length < lim then some (putK ds k dk dv) else none
/-- x[k] = v, x a dict of the frame -/
def putS (j : Nat) (fk fv : ED) : SD := fun ρ => (fv ρ).bind fun p => match p.2.getD j .no with
  | .dk _ _ => (fk p.2).bind fun q => match q.1 with
    | .cl dk => (psV q.2 p.1).bind fun s => match s.2.getD j .no with
      | .dk t ds => (putP t ds dk s.1).map fun ds' => .nx (s.2.set j (.dk t ds'))
      | _ => none
    | _ => none
  | _ => none
end DL
end
set_option maxHeartbeats 1000000
noncomputable section
namespace DL
open PySem PySem.Spec PyProof.Rows L2 LamX
end DL
end
noncomputable section
namespace DL
open PySem PySem.Spec PyProof.Rows L2 LamX
end DL
end
noncomputable section
namespace DL
open PySem PySem.Spec PyProof.Rows L2
end DL
end
noncomputable section
namespace DL
open PySem PySem.Spec PyProof.Rows L2
end DL
end
noncomputable section
namespace DL
open PySem PySem.Spec PyProof.Rows L2
end DL
end
set_option maxHeartbeats 1000000
noncomputable section
namespace DL
open PySem PySem.Spec PyProof.Rows L2
end DL
end
set_option maxHeartbeats 1000000
noncomputable section
namespace DL
open PySem PySem.Spec PyProof.Rows L2
end DL
end
noncomputable section
namespace DL
open PySem PySem.Spec PyProof.Rows L2
end DL
end
set_option maxHeartbeats 1000000
noncomputable section
namespace DL
open PySem PySem.Spec PyProof.Rows L2
/-- the defs that draw: a thing of a list is told by its place -/
def spItem (K : Fg) (F : FM) : Sp := fun vs H Q _ => ∃ (P : List Addr) (b : Addr) (us : List V) (a : Addr) (xs : List V) (cs : List PyData) (k : Int) (cs' : List PyData), vs = [V.ref b, V.ref a] ∧ (Lists H P ∧ DL.Tabs K.T H) ∧ b ∉ P ∧ a ≠ b ∧ H b = some (.lst us) ∧ DqA K H (P ++ [b]) us cs ∧ H a = some (.lst xs) ∧
  F cs [.int xs.length] = some (.cl (.int k), cs') ∧ (0 ≤ k ∧ k.toNat < xs.length) ∧ ∀ H' us' x, Keep [b] H H' → H' b = some (.lst us') → DqA K H' (P ++ [b]) us' cs' → xs[k.toNat]? = some x → Q x H'
section
variable {K : Fg} {P B L E : List Addr} {σ : L2.St} {ρ : DL.Env} {H H' : Hp}
theorem set_same {ρ : DL.Env} {i : Nat} {c : Cell} (h : ρ.getD i .no = c) (hi : i < ρ.length) : ρ.set i c = ρ := by
  apply List.ext_getElem?
  intro j
  rw [List.getElem?_set]
  by_cases e : i = j
  · subst e
    rw [if_pos rfl, if_pos hi, ← h, List.getD_eq_getElem?_getD, List.getElem?_eq_getElem hi]
    rfl
  · rw [if_neg e]
theorem Rep.setFree (R : Rep K P B L σ ρ H) (i : Nat) (x : Option V) (h : ρ.getD i .no = .no) : Rep K P B L (σ.set i x) ρ H := by
  by_cases hi : i < ρ.length
  · have := R.setNo i x
    rwa [set_same h hi] at this
  · have e : σ.set i x = σ := List.set_eq_of_length_le (by rw [R.len]; omega)
    rw [e]; exact R
/-- a list that is shut out is written -/
theorem Rep.wrP {b : Addr} {us vs : List V} (R : Rep K P B L σ ρ H) (hb : b ∈ P) (hh : H b = some (.lst us)) : Rep K P B L σ ρ (upd H b (.lst vs)) := by
  have kp : Keep [b] H (upd H b (.lst vs)) := keep_wrD hh (.lst us)
  have hW : b ∈ P ++ B ++ L := mem3.mpr (.inl hb)
  have nd := R.nd.1 b hb
  have hl : Lists H [b] := fun c z => ⟨_, by rw [show c = b by simpa using z]; exact hh, .lst us⟩
  have hs : ∀ c ∈ [b], c ∈ P ++ B ++ L := fun c z => (show c = b by simpa using z) ▸ hW
  have mv : ∀ {v : V} {d : PyData}, Dq K H (P ++ B ++ L) v d → Dq K (upd H b (.lst vs)) (P ++ B ++ L) v d := fun h => h.move hl hs kp fun c z => .inl z
  have mvA : ∀ {v : List V} {d : List PyData}, DqA K H (P ++ B ++ L) v d → DqA K (upd H b (.lst vs)) (P ++ B ++ L) v d := fun h => h.move hl hs kp fun c z => .inl z
  refine ⟨R.len, fun c hc => ?_, R.nd, fun i => ?_, R.inj, kp.tab _ R.tabs⟩
  · by_cases z : c = b
    · exact ⟨_, by rw [z]; exact upd_same, .lst vs⟩
    · obtain ⟨u, q, ou⟩ := R.wl c hc
      exact ⟨u, by rw [upd_ne z]; exact q, ou⟩
  · have q := R.ok i
    revert q
    generalize ρ.getD i .no = c
    intro q
    cases c with
    | no => trivial
    | cl d => obtain ⟨v, e2, h⟩ := q; exact ⟨v, e2, mv h⟩
    | op fs =>
      obtain ⟨c, ws, e2, h1, h2, h3⟩ := q
      exact ⟨c, ws, e2, h1, by rw [upd_ne fun (z : c = b) => nd.2 (z ▸ h1)]; exact h2, mvA h3⟩
    | pm fs =>
      obtain ⟨c, ws, e2, h1, h2, h3⟩ := q
      exact ⟨c, ws, e2, h1, by rw [upd_ne fun (z : c = b) => nd.1 (z ▸ h1)]; exact h2, mvA h3⟩
    | dk t fs =>
      obtain ⟨c, ws, e2, h1, h2, h3⟩ := q
      exact ⟨c, ws, e2, h1, by rw [upd_ne fun (z : c = b) => nd.2 (z ▸ h1)]; exact h2, h3.move hl hs kp fun c z => .inl z⟩
/-- what is new may be written -/
theorem keep_fresh {b : Addr} {us vs : List V} (k : Keep [] H H') (hb : H b = none) (hh : H' b = some (.lst us)) : Keep [] H (upd H' b (.lst vs)) := by
  have kp : Keep [b] H' (upd H' b (.lst vs)) := keep_wrD hh (.lst us)
  refine ⟨fun c o e z ho => ?_, fun T t => kp.tab T (k.tab T t), fun c h => kp.nn c (k.nn c h)⟩
  have h1 := k.old c o e z ho
  rw [upd_ne fun y => by rw [y, hb] at e; cases e]
  exact h1
theorem step_fresh {M L' : List Addr} {b : Addr} {us vs : List V} (s : Step M L H L' H') (hb : H b = none ∨ b ∈ M) (hh : H' b = some (.lst us)) : Step M L H L' (upd H' b (.lst vs)) := by
  have kp : Keep [b] H' (upd H' b (.lst vs)) := keep_wrD hh (.lst us)
  refine ⟨⟨fun c o e z ho => ?_, fun T t => kp.tab T (s.keep.tab T t), fun c h => kp.nn c (s.keep.nn c h)⟩, s.lsub, fun c h => kp.nn c (s.ne c h)⟩
  have h1 := s.keep.old c o e z ho
  rw [upd_ne fun y => ?_]
  · exact h1
  · subst y
    rcases hb with hb | hb
    · rw [hb] at e; cases e
    · exact z (List.mem_append_left _ hb)
/-- a list of lists of ints -/
structure RowsAt (H : Hp) (D : Addr) (bs : List Addr) (rows : List (List Int)) : Prop where
  outer : H D = some (.lst (bs.map V.ref))
  len : bs.length = rows.length
  inner : ∀ (j : Nat) (b : Addr) (r : List Int), bs[j]? = some b → rows[j]? = some r → H b = some (.lst (r.map V.int))
theorem RowsAt.keep {D : Addr} {bs : List Addr} {rows : List (List Int)} {M : List Addr} (A : RowsAt H D bs rows) (k : Keep M H H') (h : ∀ b ∈ D :: bs, b ∉ M) : RowsAt H' D bs rows :=
  ⟨k.at A.outer (h D (List.mem_cons_self ..)) (fun _ z => nomatch z), A.len, fun j b r h1 h2 => k.at (A.inner j b r h1 h2) (h b (List.mem_cons_of_mem _ (List.mem_of_getElem? h1))) (fun _ z => nomatch z)⟩
theorem RowsAt.write {D : Addr} {bs : List Addr} {rows : List (List Int)} {j : Nat} {b : Addr} {r : List Int} (A : RowsAt H D bs rows) (nd : (D :: bs).Nodup) (hj : bs[j]? = some b) : RowsAt (upd H b (.lst (r.map V.int))) D bs (rows.set j r) := by
  obtain ⟨n1, n2⟩ := List.nodup_cons.mp nd
  have hb : b ∈ bs := List.mem_of_getElem? hj
  refine ⟨by rw [upd_ne fun z : D = b => n1 (z ▸ hb)]; exact A.outer, by rw [List.length_set]; exact A.len, fun i c q h1 h2 => ?_⟩
  rw [List.getElem?_set] at h2
  by_cases e : j = i
  · subst e
    rw [hj] at h1
    cases h1
    rw [if_pos rfl] at h2
    split at h2
    · cases h2; exact upd_same
    · cases h2
  · rw [if_neg e] at h2
    have hne : c ≠ b := fun z => by
      subst z
      obtain ⟨x1, y1⟩ := List.getElem?_eq_some_iff.mp hj
      obtain ⟨x2, y2⟩ := List.getElem?_eq_some_iff.mp h1
      exact e ((List.getElem_inj n2).mp (y1.trans y2.symm))
    rw [upd_ne hne]
    exact A.inner i c q h1 h2
end
def bump1 (Ft : FM) (s : List PyData × List (List Int)) : Option (List PyData × List (List Int)) :=
  match Ft s.1 [.int s.2.length] with
  | some (.cl (.int k), cs1) => if 0 ≤ k ∧ k.toNat < s.2.length then
      match Ft cs1 [.int (s.2.getD k.toNat []).length] with
      | some (.cl (.int i), cs2) => if 0 ≤ i ∧ i.toNat < (s.2.getD k.toNat []).length then some (cs2, s.2.set k.toNat ((s.2.getD k.toNat []).set i.toNat ((s.2.getD k.toNat []).getD i.toNat 0 + 1))) else none
      | _ => none
    else none
  | _ => none
def bumpN (Ft : FM) : Nat → List PyData × List (List Int) → Option (List PyData × List (List Int))
  | 0, s => some s
  | n + 1, s => (bumpN Ft n s).bind (bump1 Ft)
theorem bumpN_pre {Ft : FM} {s t : List PyData × List (List Int)} : ∀ {n i : Nat}, bumpN Ft n s = some t → i < n → ∃ u v, bumpN Ft i s = some u ∧ bump1 Ft u = some v
  | 0, i, _, h => absurd h (Nat.not_lt_zero i)
  | n + 1, i, e, h => by
    obtain ⟨u, e1, e2⟩ := Option.bind_eq_some_iff.mp e
    by_cases q : i = n
    · subst q
      exact ⟨u, t, e1, e2⟩
    · exact bumpN_pre e1 (by omega)
def rowsOf : List PyData → Option (List (List Int))
  | [] => some []
  | .tuple ds :: r => (intsOf ds).bind fun ns => (rowsOf r).map fun rs => ns :: rs
  | _ => none
theorem rowsOf_eq : ∀ {ds : List PyData} {rs : List (List Int)}, rowsOf ds = some rs → ds = rs.map fun r => .tuple (r.map .int)
  | [], _, e => by cases e; rfl
  | d :: ds, rs, e => by
    unfold rowsOf at e
    split at e
    · rename_i e2; cases e2
    · rename_i e2
      cases e2
      obtain ⟨ns, e1, e3⟩ := Option.bind_eq_some_iff.mp e
      obtain ⟨r, e4, e5⟩ := Option.map_eq_some_iff.mp e3
      subst e5
      rw [List.map_cons, ← rowsOf_eq e4, intsOf_eq e1]
    · cases e
def noAt (ρ : DL.Env) (is : List Nat) : Bool := is.all fun i => match ρ.getD i .no with
  | .no => true
  | _ => false
theorem noAt_of {ρ : DL.Env} {is : List Nat} {i : Nat} (h : noAt ρ is = true) (hi : i ∈ is) : ρ.getD i .no = .no := by
  have := List.all_eq_true.mp h i hi
  revert this
  cases ρ.getD i .no <;> simp
/-- rows = [list(w) for w in e1]; for .. in ..: row = one(bag, rows); at = take(bag, len(row)); row[at] = row[at] + 1; words = FT(tuple([tuple(row) for row in rows]), e2) -/
def sharpS (f1 : ED) (fi : ID) (fz : ED) (Ft : FM) (FT : FP) : SD := fun ρ => if noAt ρ [2, 3, 4, 5] = true then
  match f1 ρ with
  | some (.cl (.tuple ws), ρ1) => (rowsOf ws).bind fun rows => if rows.length ≤ 1000 ∧ noAt ρ1 [2, 3, 4, 5] = true then
      (fi ρ1).bind fun p => match p.2.getD 0 .no with
        | .pm cs => if noAt p.2 [2, 3, 4, 5] = true then (bumpN Ft p.1.length (cs, rows)).bind fun s => match fz (p.2.set 0 (.pm s.1)) with
            | some (.cl z, ρ5) => if noAt ρ5 [2, 3, 4, 5] = true then match FT [.tuple (s.2.map fun r => .tuple (r.map .int)), z] with
                | some (.cl w) => some (.nx (ρ5.set 6 (.cl w)))
                | _ => none
              else none
            | _ => none
          else none
        | _ => none
    else none
  | _ => none
  else none
end DL
end
set_option maxHeartbeats 1000000
noncomputable section
namespace DL
open PySem PySem.Spec PyProof.Rows L2
def rLst (K : Fg) : List V → Hp → VK → Prop := fun xs H Q => ∃ x, xs = [x] ∧ ∃ p ys, x = .ref p ∧ (SqL K H p ys ∨ SqT K H p ys) ∧ ∀ l, H l = none → Q (.ref l) (upd H l (.lst ys))
def rTpl (K : Fg) : List V → Hp → VK → Prop := fun xs H Q => ∃ x, xs = [x] ∧ ∃ p ys, x = .ref p ∧ ((SqL K H p ys ∧ NewT H Q ys) ∨ (SqT K H p ys ∧ Q (.ref p) H))
def rLen (K : Fg) : List V → Hp → VK → Prop := fun xs H Q => ∃ x, xs = [x] ∧ ∃ n, LenV K x H n ∧ Q (.int n) H
section
variable {K : Fg} {P B L : List Addr} {σ : L2.St} {ρ : DL.Env} {H H1 : Hp} {Q : VK}
theorem wipe_one {x : V} (h : 7 < σ.length) {j : Nat} : L2.wipe ((L2.wipe σ [j]).set j (some x)) [j] = L2.wipe σ [j] := by
  refine wipe_eq (by rw [List.length_set, wipe_length]) fun k hk => ?_
  rw [List.getElem?_set_ne (fun z => hk (by simp [z]))]
theorem yes_ite {p q : Hp → Prop} (h : p H) : tYes σ H fun b H3 => if b = true then p H3 else q H3 := by
  show (if true = true then p H else q H)
  rw [if_pos rfl]
  exact h
theorem fill_rows {J : It} {rows : List (List Int)} (h7 : 7 < σ.length) (hr : rows.length ≤ 1000) (wk : WalksA K P B L H1 J (rows.map fun r => .tuple (r.map .int))) {D : Addr} (hD : H1 D = none)
    (k : ∀ bs H', (D :: bs).Nodup → (∀ b ∈ D :: bs, H1 b = none) → RowsAt H' D bs rows → Keep [] H1 H' → Q (.ref D) H') :
    ∃ W : Nat → Nat → Hp → Prop, (∃ m, W 0 m (upd H1 D (.lst []))) ∧ ∀ i m H, W i m H →
      (J.stop i H ∧ Q (.ref D) H) ∨ (J.go i H ∧ ∃ Nx : Hp → Prop, (∀ H', Nx H' → ∃ m', m' < m ∧ W (i + 1) m' H') ∧ ∀ x H', J.yld i H x H' → gName 7 x (L2.wipe σ [7]) H' fun σ2 H2 => L2.wipe σ2 [7] = L2.wipe σ [7] ∧ tYes σ2 H2 fun b H3 =>
        if b = true then (tCB (rLst K) (tCons (tVar 7) tNil)) σ2 H3 (fun y H4 => ∃ acc, H4 D = some (.lst acc) ∧ acc.length < sizeLine ∧ Nx (upd H4 D (.lst (acc ++ [y])))) else Nx H3) := by
  have hz : sizeLine = 16777216 := sizeLine_eq
  refine ⟨fun i m H' => i + m = rows.length ∧ ∃ bs, (D :: bs).Nodup ∧ (∀ b ∈ D :: bs, H1 b = none) ∧ RowsAt H' D bs (rows.take i) ∧ Keep [] H1 H', ⟨rows.length, by omega, [], by simp, fun b hb => by rw [show b = D by simpa using hb]; exact hD, ⟨upd_same, rfl, fun j b r h => by simp at h⟩, Keep.new hD⟩, fun i m H' ⟨hm, bs, nd, fr, A, kp⟩ => ?_⟩
  have st : Step (P ++ B) L H1 L H' := Step.of_same kp
  have w := wk H' L [] st (fun _ z => nomatch z)
  by_cases h0 : m = 0
  · left
    have hi : i = rows.length := by omega
    subst hi
    rw [List.take_length] at A
    have w2 := w.2
    rw [List.length_map] at w2
    exact ⟨w2, k bs H' nd fr A kp⟩
  · right
    have hi : i < rows.length := by omega
    obtain ⟨w1, w2⟩ := w.1 i (.tuple (rows[i].map .int)) (by rw [List.getElem?_map, List.getElem?_eq_getElem hi]; rfl)
    refine ⟨w1, fun H'' => i + 1 + (m - 1) = rows.length ∧ ∃ bs, (D :: bs).Nodup ∧ (∀ b ∈ D :: bs, H1 b = none) ∧ RowsAt H'' D bs (rows.take (i + 1)) ∧ Keep [] H1 H'', fun H'' q => ⟨m - 1, by omega, q⟩, fun x H3 hy => ?_⟩
    obtain ⟨k3, dq⟩ := w2 x H3 hy
    refine ⟨wipe_one h7, ?_⟩
    refine yes_ite ?_
    refine ⟨x, by rw [List.getElem?_set]; simp [wipe_length, h7], ?_⟩
    cases dq with
    | tup hT hA =>
      rename_i c xs
      have ex := DqA.ints hA
      subst ex
      refine ⟨_, rfl, c, rows[i].map V.int, rfl, .inr hT.sq, fun l hl => ?_⟩
      have A3 := A.keep k3 fun _ _ z => nomatch z
      have hDl : D ≠ l := fun z => by
        have := A3.outer
        rw [z, hl] at this
        cases this
      have k4 : Keep [] H1 (upd H3 l (.lst (rows[i].map V.int))) := (kp.tr k3).tr (Keep.new hl)
      have hl1 : H1 l = none := by
        cases e : H1 l with
        | none => rfl
        | some o => exact absurd hl ((kp.tr k3).nn l (by rw [e]; exact fun z => nomatch z))
      have oD : (upd H3 l (.lst (rows[i].map V.int))) D = some (.lst (bs.map V.ref)) := by rw [upd_ne hDl]; exact A3.outer
      refine ⟨bs.map V.ref, oD, by rw [List.length_map, A.len, List.length_take]; omega, by omega, bs ++ [l], ?_, ?_, ⟨?_, ?_, ?_⟩, keep_fresh k4 hD oD⟩
      · have hlb : l ∉ D :: bs := fun z => by
          rcases List.mem_cons.mp z with z | z
          · exact hDl z.symm
          · obtain ⟨j, hj, ej⟩ := List.mem_iff_getElem.mp z
            have hj2 : j < (rows.take i).length := by rw [← A.len]; exact hj
            have := A3.inner j l _ (by rw [List.getElem?_eq_getElem hj, ej]) (List.getElem?_eq_getElem hj2)
            rw [hl] at this
            cases this
        rw [← List.cons_append]
        exact List.nodup_append.mpr ⟨nd, by simp, fun a ha b hb e => by rw [show b = l by simpa using hb] at e; exact hlb (e ▸ ha)⟩
      · intro b hb
        rw [← List.cons_append] at hb
        rcases List.mem_append.mp hb with z | z
        · exact fr b z
        · rw [show b = l by simpa using z]; exact hl1
      · rw [upd_same, List.map_append]
        rfl
      · rw [List.length_append, A.len, List.length_take, List.length_take]
        simp
        omega
      · intro j b r h1 h2
        have hbl : bs.length = i := by rw [A.len, List.length_take]; omega
        have nD : b ≠ D := fun z => by
          have hb : b ∈ bs ++ [l] := List.mem_of_getElem? h1
          rcases List.mem_append.mp hb with y | y
          · exact (List.nodup_cons.mp nd).1 (z ▸ y)
          · rw [show b = l by simpa using y] at z; exact hDl z.symm
        rw [upd_ne nD]
        by_cases hj : j < i
        · rw [List.getElem?_append_left (by omega)] at h1
          have nl : b ≠ l := fun z => by
            have hj2 : j < (rows.take i).length := by rw [← A.len]; omega
            have := A3.inner j b _ h1 (List.getElem?_eq_getElem hj2)
            rw [z, hl] at this
            cases this
          rw [upd_ne nl]
          refine A3.inner j b r h1 ?_
          rw [List.getElem?_take] at h2 ⊢
          rw [if_pos (by omega)] at h2
          rw [if_pos hj]
          exact h2
        · have hj2 : j = i := by
            have := (List.getElem?_eq_some_iff.mp h1).1
            rw [List.length_append, hbl] at this
            simp at this
            omega
          subst hj2
          rw [List.getElem?_append_right (by omega), hbl] at h1
          simp at h1
          subst h1
          rw [upd_same]
          rw [List.getElem?_take, if_pos (by omega), List.getElem?_eq_getElem hi] at h2
          cases h2
          rfl
end
end DL
end
set_option maxHeartbeats 1000000
noncomputable section
namespace DL
open PySem PySem.Spec PyProof.Rows L2
def tOne (K : Fg) (Ft : FM) : TE := fun σ H Q => tCons (tVar 0) (tCons (tVar 2) tNil) σ H fun vs H1 => spItem K Ft vs H1 Q E0
def tTake (K : Fg) (Ft : FM) : TE := fun σ H Q => tCons (tVar 0) (tCons (tCB (rLen K) (tCons (tVar 4) tNil)) tNil) σ H fun vs H1 => spM K 1 Ft vs H1 Q E0
def tBump (K : Fg) (Ft : FM) : TS := tSeq (tAsg (tOne K Ft) (gName 4)) (tSeq (tAsg (tTake K Ft) (gName 5)) (tAsg (tOp (rI0 fun i j => .int (i + j)) (tOp (rIxL K) (tVar 4) (tVar 5)) (tC (.int 1))) (gSub (tVar 4) (tVar 5) L2.rSetL)))
section
variable {K : Fg} {P B L : List Addr} {σ : L2.St} {ρ : DL.Env} {H : Hp}
theorem ixN_nat' {n : Nat} {i : Int} (h0 : 0 ≤ i) (h : i.toNat < n) : ixN n i = some i.toNat := by
  unfold ixN
  simp [h0, show i < (n : Int) by omega]
theorem opAt_pm {cs : List PyData} (h : ρ.getD 0 .no = .pm cs) : opAt ρ 0 = some (false, cs) := by
  unfold opAt
  rw [h]
theorem no_set {cs : List PyData} (h : noAt ρ [2, 3, 4, 5] = true) {i : Nat} (hi : i ∈ [2, 3, 4, 5]) : (ρ.set 0 (.pm cs)).getD i .no = .no := by
  rw [getD_set, if_neg fun z => ?_]
  · exact noAt_of h hi
  · obtain ⟨z, _⟩ := z
    subst z
    simp at hi
theorem less_all {b : Addr} {W : List Addr} : ∀ a ∈ W, a ∈ less W b ++ [b] := fun a z => by
  by_cases e : a = b
  · exact List.mem_append_right _ (by simp [e])
  · exact List.mem_append_left _ (mem_less.mpr ⟨z, e⟩)
theorem less_back {b : Addr} {W : List Addr} (hb : b ∈ W) : ∀ a ∈ less W b ++ [b], a ∈ W := fun a z => by
  rcases List.mem_append.mp z with z | z
  · exact (mem_less.mp z).1
  · rw [show a = b by simpa using z]; exact hb
/-- behind a draw -/
theorem drawn {b : Addr} {us' : List V} {cs cs' : List PyData} {H' : Hp} (h0 : 0 < ρ.length) (R : Rep K P B L σ (ρ.set 0 (.pm cs)) H) (e0 : σ[0]? = some (some (V.ref b))) (hb : b ∈ B) (kp : Keep [b] H H') (hh : H' b = some (.lst us')) (d : DqA K H' (less (P ++ B ++ L) b ++ [b]) us' cs') :
    Rep K P B L σ (ρ.set 0 (.pm cs')) H' ∧ ∀ M L0 H0, (∀ a ∈ B, a ∈ M) → Step M L0 H0 L H → Step M L0 H0 L H' := by
  have hc : (ρ.set 0 (.pm cs)).getD 0 .no = .pm cs := by rw [getD_set, if_pos ⟨rfl, h0⟩]
  obtain ⟨q1, q2⟩ := R.wr (N := []) (opAt_pm hc) e0 kp hh (fun _ z => nomatch z) (d.sub fun a z => by
    have : a ∈ P ++ B ++ L := by simpa using z
    exact less_all a this)
  refine ⟨by simpa [opSet, List.set_set] using q1, fun M L0 H0 hM s => s.trans ?_⟩
  exact ⟨q2.keep.mono fun a z => (List.mem_append.mp z).elim (fun z => List.mem_append_left _ (hM a z)) (List.mem_append_right _), q2.lsub, q2.ne⟩
/-- one turn -/
theorem bump_turn {Ft : FM} {D : Addr} {bs : List Addr} {rows : List (List Int)} {cs : List PyData} {t : List PyData × List (List Int)} {DE : Ends} {H0 : Hp} {Lq : List Addr} {L0 : List Addr} {Hq : Hp}
    (hl : 5 < σ.length) (hn : noAt ρ [2, 3, 4, 5] = true) (h0 : 0 < ρ.length) (nd : (D :: bs).Nodup) (hP : ∀ b ∈ D :: bs, b ∈ P) (e2 : σ[2]? = some (some (V.ref D))) (R : Rep K P B L σ (ρ.set 0 (.pm cs)) H) (A : RowsAt H D bs rows)
    (S1 : Step B L0 H0 L H) (fr : ∀ b ∈ bs, H0 b = none) (S2 : Step (P ++ B) Lq Hq L H) (e : bump1 Ft (cs, rows) = some t)
    (k : ∀ σ' H', Rep K P B L σ' (ρ.set 0 (.pm t.1)) H' → RowsAt H' D bs t.2 → Step B L0 H0 L H' → Step (P ++ B) Lq Hq L H' → σ'[2]? = some (some (V.ref D)) → σ'.length = σ.length → DE.nx σ' H') : tBump K Ft DE σ H := by
  have hc : (ρ.set 0 (.pm cs)).getD 0 .no = .pm cs := by rw [getD_set, if_pos ⟨rfl, h0⟩]
  obtain ⟨b, us, e0, hB, hb, dq⟩ := (show CellOk K P B L H σ[0]? (.pm cs) from hc ▸ R.ok 0)
  have hbP : b ∉ P := fun z => (R.nd.1 b z).1 hB
  have hbl : b ∈ P ++ B ++ L := mem3.mpr (.inr (.inl hB))
  have rb : ∀ c ∈ D :: bs, c ∉ [b] := fun c hc z => hbP ((show c = b by simpa using z) ▸ hP c hc)
  have lists : ∀ {σ : L2.St} {ρ : DL.Env} {H : Hp}, Rep K P B L σ ρ H → Lists H (less (P ++ B ++ L) b) ∧ DL.Tabs K.T H := fun R => ⟨fun a z => R.wl a (mem_less.mp z).1, R.tabs⟩
  have nl : b ∉ less (P ++ B ++ L) b := fun z => (mem_less.mp z).2 rfl
  unfold bump1 at e
  split at e
  · rename_i kk cs1 eF
    split at e
    · rename_i hk
      split at e
      · rename_i ii cs2 eG
        split at e
        · rename_i hi
          cases e
          obtain ⟨k0, k1⟩ := hk
          obtain ⟨i0, i1⟩ := hi
          -- row = one(bag, rows)
          refine ⟨V.ref b, e0, V.ref D, e2, less (P ++ B ++ L) b, b, us, D, bs.map V.ref, cs, kk, cs1, rfl, lists R, nl, fun z => rb D (List.mem_cons_self ..) (by simp [z]), hb, dq.sub (less_back hbl), A.outer, by rw [List.length_map, A.len]; exact eF, ⟨k0, by rw [List.length_map, A.len]; exact k1⟩, fun H1 us1 x kp1 h1 d1 hx => ?_⟩
          obtain ⟨R1, s1⟩ := drawn h0 R e0 hB kp1 h1 d1
          have A1 := A.keep kp1 rb
          have hj : kk.toNat < bs.length := by rw [A.len]; exact k1
          have ex : x = V.ref bs[kk.toNat] := by
            rw [List.getElem?_map, List.getElem?_eq_getElem hj] at hx
            exact (Option.some.inj hx).symm
          subst ex
          have R2 := R1.setFree 4 (some (V.ref bs[kk.toNat])) (no_set hn (by simp))
          have row1 := A1.inner kk.toNat bs[kk.toNat] rows[kk.toNat] (List.getElem?_eq_getElem hj) (List.getElem?_eq_getElem k1)
          have rr : rows.getD kk.toNat [] = rows[kk.toNat] := by rw [List.getD_eq_getElem?_getD, List.getElem?_eq_getElem k1]; rfl
          simp only [rr] at eG i1 k ⊢
          -- at = take(bag, len(row))
          have g0 : (σ.set 4 (some (V.ref bs[kk.toNat])))[0]? = some (some (V.ref b)) := by rw [List.getElem?_set_ne (by omega)]; exact e0
          have g4 : (σ.set 4 (some (V.ref bs[kk.toNat])))[4]? = some (some (V.ref bs[kk.toNat])) := by rw [List.getElem?_set]; simp; omega
          have hc1 : (ρ.set 0 (.pm cs1)).getD 0 .no = .pm cs1 := by rw [getD_set, if_pos ⟨rfl, h0⟩]
          refine ⟨V.ref b, g0, V.ref bs[kk.toNat], g4, V.ref bs[kk.toNat], rfl, rows[kk.toNat].length, .inl ⟨_, .inl (.inl row1), by rw [List.length_map]⟩, rfl, less (P ++ B ++ L) b, b, us1, [V.int rows[kk.toNat].length], cs1, [.int rows[kk.toNat].length], .cl (.int ii), cs2, rfl, lists R2, nl, h1, d1, .cons (.int _) .nil, eG, fun y H2 us2 E2 kp2 h2 d2 rv => ?_⟩
          obtain ⟨hE, dy⟩ := rv
          subst hE
          have ey : y = V.int ii := by cases dy; rfl
          subst ey
          obtain ⟨R3, s2⟩ := drawn h0 R2 g0 hB kp2 h2 (by simpa using d2)
          have A2 := A1.keep kp2 rb
          have R4 := R3.setFree 5 (some (V.int ii)) (no_set hn (by simp))
          have row2 := A2.inner kk.toNat bs[kk.toNat] rows[kk.toNat] (List.getElem?_eq_getElem hj) (List.getElem?_eq_getElem k1)
          -- row[at] = row[at] + 1
          have f4 : ((σ.set 4 (some (V.ref bs[kk.toNat]))).set 5 (some (V.int ii)))[4]? = some (some (V.ref bs[kk.toNat])) := by rw [List.getElem?_set_ne (by omega)]; exact g4
          have f5 : ((σ.set 4 (some (V.ref bs[kk.toNat]))).set 5 (some (V.int ii)))[5]? = some (some (V.int ii)) := by rw [List.getElem?_set]; simp; omega
          have at1 : atI (rows[kk.toNat].map V.int) ii = some (V.int rows[kk.toNat][ii.toNat]) := by
            unfold atI
            rw [ixN_nat' i0 (by rw [List.length_map]; exact i1)]
            show (rows[kk.toNat].map V.int)[ii.toNat]? = _
            rw [List.getElem?_map, List.getElem?_eq_getElem i1]
            rfl
          refine ⟨V.ref bs[kk.toNat], f4, V.int ii, f5, bs[kk.toNat], rows[kk.toNat].map V.int, ii, V.int rows[kk.toNat][ii.toNat], rfl, rfl, .inl (.inl row2), at1, rows[kk.toNat][ii.toNat], 1, rfl, rfl, ?_⟩
          refine ⟨V.ref bs[kk.toNat], f4, V.int ii, f5, bs[kk.toNat], rows[kk.toNat].map V.int, ii, ii.toNat, rfl, rfl, row2, by rw [List.length_map]; exact ixN_nat' i0 i1, ?_⟩
          have hbk : bs[kk.toNat] ∈ D :: bs := List.mem_cons_of_mem _ (List.getElem_mem hj)
          have ri : rows[kk.toNat].getD ii.toNat 0 = rows[kk.toNat][ii.toNat] := by rw [List.getD_eq_getElem?_getD, List.getElem?_eq_getElem i1]; rfl
          have es : (rows[kk.toNat].map V.int).set ii.toNat (V.int (rows[kk.toNat][ii.toNat] + 1)) = (rows[kk.toNat].set ii.toNat (rows[kk.toNat].getD ii.toNat 0 + 1)).map V.int := by rw [List.map_set, ri]
          rw [es]
          have A3 := A2.write (r := rows[kk.toNat].set ii.toNat (rows[kk.toNat].getD ii.toNat 0 + 1)) nd (List.getElem?_eq_getElem hj)
          have R5 := R4.wrP (vs := (rows[kk.toNat].set ii.toNat (rows[kk.toNat].getD ii.toNat 0 + 1)).map V.int) (hP _ hbk) row2
          refine k _ _ R5 A3 (step_fresh (s2 B L0 H0 (fun a z => z) (s1 B L0 H0 (fun a z => z) S1)) (.inl (fr _ (List.getElem_mem hj))) row2) (step_fresh (s2 (P ++ B) Lq Hq (fun a z => List.mem_append_right _ z) (s1 (P ++ B) Lq Hq (fun a z => List.mem_append_right _ z) S2)) (.inr (List.mem_append_left _ (hP _ hbk))) row2) ?_ ?_
          · rw [List.getElem?_set_ne (by omega), List.getElem?_set_ne (by omega)]; exact e2
          · rw [List.length_set, List.length_set]
        · cases e
      · cases e
    · cases e
  · cases e
end
end DL
end
set_option maxHeartbeats 1000000
noncomputable section
namespace DL
open PySem PySem.Spec PyProof.Rows L2
def tRows (K : Fg) : TE := tCB (rTpl K) (tCons (tLc (iList K (tVar 2)) (gName 4) tYes (tCB (rTpl K) (tCons (tVar 4) tNil)) [4]) tNil)
section
variable {K : Fg} {P B L : List Addr} {σ : L2.St} {ρ : DL.Env} {H : Hp} {Q : VK} {W : List Addr}
theorem dqa_ints : ∀ {r : List Int}, DqA K H W (r.map V.int) (r.map .int)
  | [] => .nil
  | i :: r => .cons (.int i) dqa_ints
theorem dqa_tups : ∀ {ts : List Addr} {rows : List (List Int)}, ts.length = rows.length → (∀ (j : Nat) (t : Addr) (r : List Int), ts[j]? = some t → rows[j]? = some r → TupD H t (r.map V.int)) → DqA K H W (ts.map V.ref) (rows.map fun r => .tuple (r.map .int))
  | [], [], _, _ => .nil
  | t :: ts, r :: rows, h, g => .cons (.tup (g 0 t r rfl rfl) dqa_ints) (dqa_tups (by simpa using h) fun j u q h1 h2 => g (j + 1) u q h1 h2)
  | [], _ :: _, h, _ => by simp at h
  | _ :: _, [], h, _ => by simp at h
theorem tup_rows {D : Addr} {bs : List Addr} {rows : List (List Int)} (hl : 7 < σ.length) (e2 : σ[2]? = some (some (V.ref D))) (A : RowsAt H D bs rows) (hr : rows.length ≤ 1000)
    (k : ∀ v H', Keep [] H H' → (∀ W, Dq K H' W v (.tuple (rows.map fun r => .tuple (r.map .int)))) → Q v H') : tRows K σ H Q := by
  have hz : sizeLine = 16777216 := sizeLine_eq
  refine ⟨V.ref D, e2, D, rfl, ⟨_, .inl (.inl A.outer)⟩, fun D2 hD => ⟨fun i m H' => i + m = rows.length ∧ ∃ ts : List Addr, H' D2 = some (.lst (ts.map V.ref)) ∧ ts.length = i ∧ (∀ (j : Nat) (t : Addr) (r : List Int), ts[j]? = some t → rows[j]? = some r → TupD H' t (r.map V.int)) ∧ Keep [] H H',
    ⟨rows.length, by omega, [], upd_same, rfl, fun j t r h => by simp at h, Keep.new hD⟩, fun i m H' ⟨hm, ts, hts, hlt, hT, kp⟩ => ?_⟩⟩
  have A1 := A.keep kp fun _ _ z => nomatch z
  by_cases h0 : m = 0
  · left
    have hi : i = rows.length := by omega
    refine ⟨⟨_, .inl (.inl A1.outer), by rw [List.length_map, A.len]; omega⟩, V.ref D2, rfl, D2, ts.map V.ref, rfl, .inl ⟨.inl (.inl hts), fun p o hp po => ?_⟩⟩
    refine k _ _ (kp.tr (Keep.new hp)) fun W => .tup ⟨o, upd_same, po⟩ (dqa_tups (by omega) fun j t r h1 h2 => ?_)
    obtain ⟨u, q1, q2⟩ := hT j t r h1 h2
    exact ⟨u, by rw [upd_ne fun z : t = p => by rw [z, hp] at q1; cases q1]; exact q1, q2⟩
  · right
    have hi : i < rows.length := by omega
    have hb : i < bs.length := by rw [A.len]; exact hi
    have sq : SqL K H' D (bs.map V.ref) := .inl (.inl A1.outer)
    refine ⟨⟨_, _, sq, by rw [List.getElem?_map, List.getElem?_eq_getElem hb]; rfl⟩, fun H'' => i + 1 + (m - 1) = rows.length ∧ ∃ ts : List Addr, H'' D2 = some (.lst (ts.map V.ref)) ∧ ts.length = i + 1 ∧ (∀ (j : Nat) (t : Addr) (r : List Int), ts[j]? = some t → rows[j]? = some r → TupD H'' t (r.map V.int)) ∧ Keep [] H H'', fun H'' q => ⟨m - 1, by omega, q⟩, fun x H3 hy => ?_⟩
    obtain ⟨rfl, hy⟩ := hy
    have ex : x = V.ref bs[i] := by
      have := hy _ sq
      rw [List.getElem?_map, List.getElem?_eq_getElem hb] at this
      exact (Option.some.inj this).symm
    subst ex
    refine ⟨wipe_one hl, yes_ite ?_⟩
    have row := A1.inner i bs[i] rows[i] (List.getElem?_eq_getElem hb) (List.getElem?_eq_getElem hi)
    refine ⟨V.ref bs[i], by rw [List.getElem?_set]; simp [wipe_length]; omega, V.ref bs[i], rfl, bs[i], _, rfl, .inl ⟨.inl (.inl row), fun p o hp po => ?_⟩⟩
    have hDp : D2 ≠ p := fun z => by rw [z, hp] at hts; cases hts
    have oD : (upd H3 p (.frz o (.tup (rows[i].map V.int)))) D2 = some (.lst (ts.map V.ref)) := by rw [upd_ne hDp]; exact hts
    refine ⟨ts.map V.ref, oD, by rw [List.length_map]; omega, by omega, ts ++ [p], ?_, by rw [List.length_append, hlt]; rfl, fun j t r h1 h2 => ?_, keep_fresh (kp.tr (Keep.new hp)) hD oD⟩
    · rw [upd_same, List.map_append]
      rfl
    · by_cases hj : j < i
      · rw [List.getElem?_append_left (by omega)] at h1
        obtain ⟨u, q1, q2⟩ := hT j t r h1 h2
        have n1 : t ≠ D2 := fun z => by rw [z, hts] at q1; cases q1
        have n2 : t ≠ p := fun z => by rw [z, hp] at q1; cases q1
        refine ⟨u, ?_, q2⟩
        rw [upd_ne n1, upd_ne n2]
        exact q1
      · have hj2 : j = i := by
          have := (List.getElem?_eq_some_iff.mp h1).1
          rw [List.length_append, hlt] at this
          simp at this
          omega
        subst hj2
        rw [List.getElem?_append_right (by omega), hlt] at h1
        simp at h1
        subst h1
        rw [List.getElem?_eq_getElem hi] at h2
        cases h2
        exact ⟨o, by rw [upd_ne hDp.symm]; exact upd_same, po⟩
end
end DL
end
set_option maxHeartbeats 1000000
noncomputable section
namespace DL
open PySem PySem.Spec PyProof.Rows L2
def tSh1 (K : Fg) (f1 : ED) : TS := tAsg (tLc (RI K (seqI f1)) (gName 7) tYes (tCB (rLst K) (tCons (tVar 7) tNil)) [7]) (gName 2)
def tSh2 (K : Fg) (fi : ID) (Ft : FM) : TS := tFor (RI K fi) (gName 3) (tBump K Ft)
def tSh3 (K : Fg) (fz : ED) (FT : FP) : TS := tAsg (fun σ H Q => tCons (tRows K) (tCons (RD K fz) tNil) σ H fun vs H1 => spP K 2 FT vs H1 Q E0) (gName 6)
section
variable {K : Fg}
theorem sharp_core {f1 fz : ED} {fi : ID} {Ft : FM} {FT : FP} {g : SD} {D : Ends} {σ : L2.St} {H : Hp} (hl : 7 < σ.length) (h : RS K (seqS (sharpS f1 fi fz Ft FT) g) D σ H) :
    tSeq (tSh1 K f1) (tSeq (tSh2 K fi Ft) (tSeq (tSh3 K fz FT) (RS K g))) D σ H := by
  obtain ⟨P, B, L, ρ, o, R0, e, k⟩ := h
  obtain ⟨o1, e1, e⟩ := Option.bind_eq_some_iff.mp e
  unfold sharpS at e1
  split at e1
  case isFalse => cases e1
  rename_i hn0
  split at e1
  case h_2 => cases e1
  rename_i ws ρ1 ef1
  obtain ⟨rows, er, e1⟩ := Option.bind_eq_some_iff.mp e1
  split at e1
  case isFalse => cases e1
  rename_i hz
  obtain ⟨hr, hn1⟩ := hz
  obtain ⟨⟨ds, ρ3⟩, ei, e1⟩ := Option.bind_eq_some_iff.mp e1
  simp only at e1
  split at e1
  case h_2 => cases e1
  rename_i cs hcs
  split at e1
  case isFalse => cases e1
  rename_i hn3
  obtain ⟨⟨cs', rows'⟩, eb, e1⟩ := Option.bind_eq_some_iff.mp e1
  simp only at e1
  split at e1
  case h_2 => cases e1
  rename_i z ρ5 ez
  split at e1
  case isFalse => cases e1
  rename_i hn5
  split at e1
  case h_2 => cases e1
  rename_i w ew
  cases e1
  have ew' := rowsOf_eq er
  subst ew'
  have hseq : seqI f1 ρ = some (rows.map fun r => .tuple (r.map .int), ρ1) := by
    unfold seqI
    rw [ef1]
    rfl
  have h03 : 0 < ρ3.length := by
    by_cases q : 0 < ρ3.length
    · exact q
    · rw [List.getD_eq_getElem?_getD, List.getElem?_eq_none (by omega)] at hcs
      cases hcs
  -- rows = [list(w) for w in ..]
  refine ⟨P, B, L, ρ, _, ρ1, R0, hseq, fun J H1 L1 E1 p1 wk => fun Dd hD => fill_rows (Q := fun x H1 => gName 2 x σ H1 (tSeq (tSh2 K fi Ft) (tSeq (tSh3 K fz FT) (RS K g)) D)) hl hr wk hD fun bs H2 nd fr A kp => ?_⟩
  have R2 : Rep K ((Dd :: bs) ++ (E1 ++ P)) B L1 σ ρ1 H2 := p1.rep.move kp fun b hb => ⟨fr b hb, by
    rcases List.mem_cons.mp hb with q | q
    · rw [q]; exact ⟨_, A.outer⟩
    · obtain ⟨j, hj, ej⟩ := List.mem_iff_getElem.mp q
      have hj2 : j < rows.length := by rw [← A.len]; exact hj
      exact ⟨_, A.inner j b _ (by rw [List.getElem?_eq_getElem hj, ej]) (List.getElem?_eq_getElem hj2)⟩⟩
  have R3 := R2.setFree 2 (some (V.ref Dd)) (noAt_of hn1 (by simp))
  have fr0 : ∀ b ∈ Dd :: bs, H b = none := fun b hb => by
    cases q : H b with
    | none => rfl
    | some u => exact absurd (fr b hb) (p1.step.ne b (by rw [q]; exact fun y => nomatch y))
  have S2 : Step B L H L1 H2 := p1.step.trans (Step.of_same kp)
  have n2 : (σ.set 2 (some (V.ref Dd)))[2]? = some (some (V.ref Dd)) := by rw [List.getElem?_set]; simp; omega
  -- for .. in range(..)
  refine ⟨(Dd :: bs) ++ (E1 ++ P), B, L1, ρ1, ds, ρ3, R3, ei, fun J2 H3 L3 E3 p3 wk2 => ?_⟩
  have hP : ∀ b ∈ Dd :: bs, b ∈ E3 ++ ((Dd :: bs) ++ (E1 ++ P)) := fun b hb => List.mem_append_right _ (List.mem_append_left _ hb)
  have rb : ∀ b ∈ Dd :: bs, b ∉ B ++ L1 := fun b hb q => by
    have := R3.nd.1 b (List.mem_append_left _ hb)
    exact (List.mem_append.mp q).elim this.1 this.2
  have A3 := A.keep p3.step.keep rb
  have S3 : Step B L H L3 H3 := S2.trans p3.step
  refine ⟨fun i m σ' H' => i + m = ds.length ∧ ∃ ci ri L', bumpN Ft i (cs, rows) = some (ci, ri) ∧ Rep K (E3 ++ ((Dd :: bs) ++ (E1 ++ P))) B L' σ' (ρ3.set 0 (.pm ci)) H' ∧ RowsAt H' Dd bs ri ∧ Step B L H L' H' ∧ Step ((E3 ++ ((Dd :: bs) ++ (E1 ++ P))) ++ B) L3 H3 L' H' ∧ σ'[2]? = some (some (V.ref Dd)) ∧ σ'.length = σ.length,
    ⟨ds.length, by omega, cs, rows, L3, rfl, by rw [set_same hcs h03]; exact p3.rep, A3, S3, Step.refl, n2, by rw [List.length_set]⟩, fun i m σ' H' ⟨hm, ci, ri, L', eb', R', A', S', T', n', l'⟩ => ?_⟩
  have wkk := wk2 H' L' [] T' (fun _ y => nomatch y)
  by_cases h0 : m = 0
  · left
    have hi : i = ds.length := by omega
    subst hi
    refine ⟨wkk.2, ?_⟩
    rw [eb] at eb'
    cases eb'
    have hlen' : rows'.length = rows.length := by
      rw [← A'.len, A.len]
    -- words = ..
    refine tup_rows (by rw [l']; exact hl) n' A' (by omega) fun v H4 kp4 dv => ?_
    have R4 := R'.same kp4
    refine ⟨_, B, L', _, _, ρ5, R4, ez, fun x H5 L5 E5 p5 v5 => ?_⟩
    have S5 : Step B L H L5 H5 := (S'.trans (Step.of_same kp4)).trans p5.step
    have dz : Dq K H5 (E5 ++ (E3 ++ ((Dd :: bs) ++ (E1 ++ P))) ++ B ++ L5) x z := v5
    have dv5 : Dq K H5 (E5 ++ (E3 ++ ((Dd :: bs) ++ (E1 ++ P))) ++ B ++ L5) v (.tuple (rows'.map fun r => .tuple (r.map .int))) := by
      have q1 : VR K [] (E3 ++ ((Dd :: bs) ++ (E1 ++ P))) B L' σ' H4 v (.cl (.tuple (rows'.map fun r => .tuple (r.map .int)))) := dv _
      have q2 := VR.later (E1 := []) R4 p5 q1
      exact (show Dq K H5 _ v _ from q2).sub fun a y => by simpa using y
    refine ⟨rfl, _, [_, z], .cl w, ⟨p5.rep.wl, p5.rep.tabs⟩, .cons dv5 (.cons dz .nil), ew, fun y H6 E6 kp6 rv => ?_⟩
    obtain ⟨_, dy⟩ := rv
    have R6 : Rep K P B L5 σ' ρ5 H6 := (p5.rep.same kp6).weakP fun a q => List.mem_append_right _ (List.mem_append_right _ (List.mem_append_right _ (List.mem_append_right _ q)))
    have R7 := R6.setCl 6 (x := y) (d := w) (dy.sub fun a q => by
      rcases mem3.mp q with q | q | q
      · exact mem4.mpr (.inr (.inl (List.mem_append_right _ (List.mem_append_right _ (List.mem_append_right _ q)))))
      · exact mem4.mpr (.inr (.inr (.inl q)))
      · exact mem4.mpr (.inr (.inr (.inr q))))
    exact ⟨P, B, L5, _, o, R7, e, k.after (S5.trans (Step.of_same kp6))⟩
  · right
    have hi : i < ds.length := by omega
    obtain ⟨u, v, eu, ev⟩ := bumpN_pre eb hi
    rw [eb'] at eu
    cases eu
    obtain ⟨g1, g2⟩ := wkk.1 i ds[i] (List.getElem?_eq_getElem hi)
    refine ⟨g1, _, fun σ2 H2' q => ⟨m - 1, by omega, by omega, q⟩, fun x H4 hy => ?_⟩
    obtain ⟨kp4, _⟩ := g2 x H4 hy
    have R4 := (R'.same kp4).setFree 3 (some x) (no_set hn3 (by simp))
    refine bump_turn (σ := σ'.set 3 (some x)) (by rw [List.length_set, l']; omega) hn3 h03 nd hP (by rw [List.getElem?_set_ne (by omega)]; exact n') R4 (A'.keep kp4 fun _ _ y => nomatch y) (S'.trans (Step.of_same kp4)) (fun b hb => fr0 b (List.mem_cons_of_mem _ hb)) (T'.trans (Step.of_same kp4)) ev
      fun σ3 H5 Rq Aq Sq Tq nq lq => ⟨v.1, v.2, L', ?_, Rq, Aq, Sq, Tq, nq, by rw [lq, List.length_set, l']⟩
    show (bumpN Ft i (cs, rows)).bind (bump1 Ft) = _
    rw [eb']
    exact ev
end
end DL
end
set_option maxHeartbeats 1000000
noncomputable section
namespace DL
open PySem PySem.Spec PyProof.Rows L2
def tTk (K : Fg) (Ft : FM) : TE := fun σ H Q => tCons (tVar 0) (tCons (tCB (rLen K) (tCons (tVar 1) tNil)) tNil) σ H fun vs H1 => spM K 1 Ft vs H1 Q E0
section
variable {K : Fg}
theorem item_imp {N : List Str} {Ft : FM} {vs : List V} {H : Hp} {Q : VK} {E : XK} {D : Ends} (hN : 2 ≤ N.length) (h : spItem K Ft vs H Q E) (hD : D.rt = Q) : tRet (tOp (rIxL K) (tVar 1) (tTk K Ft)) D (L2.start N vs) H := by
  obtain ⟨P, b, us, a, xs, cs, k, cs', rfl, hl, hb, hab, h1, d1, h2, e, ⟨k0, k1⟩, c⟩ := h
  have s0 : (L2.start N [V.ref b, V.ref a])[0]? = some (some (V.ref b)) := by rw [start_get, if_pos (by simp)]; rfl
  have s1 : (L2.start N [V.ref b, V.ref a])[1]? = some (some (V.ref a)) := by rw [start_get, if_pos (by simp)]; rfl
  refine ⟨V.ref a, s1, V.ref b, s0, V.ref a, s1, V.ref a, rfl, xs.length, .inl ⟨xs, .inl (.inl h2), rfl⟩, rfl, P, b, us, [V.int xs.length], cs, [.int xs.length], .cl (.int k), cs', rfl, hl, hb, h1, d1, .cons (.int _) .nil, e, fun y H2 us2 E2 kp q1 q2 rv => ?_⟩
  obtain ⟨hE, dy⟩ := rv
  subst hE
  have ey : y = V.int k := by cases dy; rfl
  subst ey
  have q3 : H2 a = some (.lst xs) := kp.at h2 (by simpa using hab) (fun _ z => nomatch z)
  refine ⟨a, xs, k, xs[k.toNat], rfl, rfl, .inl (.inl q3), ?_, ?_⟩
  · unfold atI
    rw [ixN_nat' k0 k1]
    exact List.getElem?_eq_getElem k1
  · rw [hD]
    exact c H2 us2 _ kp q1 (by simpa using q2) (List.getElem?_eq_getElem k1)
theorem Ok.item {P : Program} {w : World} {mg : Str → Option Value} {base : Heap} {x : Str} {st : Stmt} {N ps : List Str} {k : Nat} {Ft : FM} (D : Def K mg x st ps) (S : FnScope N ps (defScope st)) (hn : ps.length = 2) (hN : 2 ≤ N.length)
    (hb : ∀ (f : Addr) (cdv : Value) (A : Around) (outer : List PySem.Env) (s : Shared) (H : Hp) (E : XK), (A.deeper (envOfC x (defScope st) s.heap.objs.size f cdv)).guards = some [] → Room k (A.deeper (envOfC x (defScope st) s.heap.objs.size f cdv)) →
      PSs (cxOf CX0 P w K mg base N x (defScope st) f cdv A outer s H E).nox (defBody st) (tRet (tOp (rIxL K) (tVar 1) (tTk K Ft)))) : Ok P w K mg base (k + 1) x ps (spItem K Ft) := by
  obtain ⟨f, fd, F, h1, h2, h3⟩ := D.ex
  refine ⟨f, fd, FnG.body F S (fun vs H Q E h => ?_) (fun cdv A outer s H vs Q E _ hA hr h => ⟨_, (hb f cdv A outer s H E hA hr).nox, item_imp hN h rfl⟩), h1, h2, h3⟩
  obtain ⟨_, _, _, _, _, _, _, _, rfl, _⟩ := h
  exact hn.symm
end
section
variable {X : Cx} {tl : TL} {k : Nat} {ps : List Str} {x y z : Str} {p pos py pz : Pos}
theorem p_var (i : Nat) (hN : X.N[i]? = some x := by rfl) (hv : Vis X.env.scope x := by first | exact Or.inl rfl | exact Or.inr (Or.inl rfl) | exact Or.inr (Or.inr rfl)) (hd : (x == ("__debug__" : Str)) = false := by decide) (hcd : (x == ("__classdict__" : Str)) = false := by decide) : PE X (.Name x pos) (tVar i) := pe_var hN hv hd hcd
theorem p_set (i : Nat) {a : Expr} {te : TE} {pos' : Pos} (he : PE X a te) (hN : X.N.Nodup) (hi : X.N[i]? = some x := by rfl) (hx : Loc X.env.scope x := by first | exact Or.inl rfl | exact Or.inr rfl) (hs : swapsWith a (some (.Name x pos')) pos.line X.env = pure false := by rfl) (hf : X.fn x = true ∨ X.env.scope.names.lookup x = some .local := by first | exact .inl rfl | exact .inr rfl) :
    PS X (.Assign [.Name x pos'] a pos) (tAsg te (gName i)) := ps_set hN hi hx he hs hf
theorem p_item {Ft : FM} {ea eb : Expr} {ta tb : TE} (O : Ok X.prog X.w (X.D tl) X.mg X.base k x ps (spItem (X.D tl) Ft)) (hA : X.A.guards = some []) (hr : Room k X.A) (ha : PE X ea ta) (hb : PE X eb tb) (hg : Gl X x := by rfl) (hdb : (x == ("__debug__" : Str)) = false := by decide)
    (he : starEach [ea, eb] X.env = (false, eval ea X.env) :: starEach [eb] X.env := by rfl) (he2 : starEach [eb] X.env = (false, eval eb X.env) :: starEach [] X.env := by rfl) (hpl : (backTo pos (starEach [eb] X.env)).any (·.1) = false := by rfl) :
    PE X (.Call (.Name x p) [ea, eb] [] pos) (fun σ H Q => tCons ta (tCons tb tNil) σ H fun vs H1 => spItem (X.D tl) Ft vs H1 Q E0) := by
  obtain ⟨f, fd, G, h1, h2, h3⟩ := O
  exact g_call (p := p) G hA hr hg h1 h2 h3 pass0 (pa_cons ha (pa_cons hb pa_nil he2) he) hdb he hpl
theorem p_mut {n : Nat} {Ft : FM} {ea eb : Expr} {ta tb : TE} (O : Ok X.prog X.w (X.D tl) X.mg X.base k x ps (spM (X.D tl) n Ft)) (hA : X.A.guards = some []) (hr : Room k X.A) (ha : PE X ea ta) (hb : PE X eb tb) (hg : Gl X x := by rfl) (hdb : (x == ("__debug__" : Str)) = false := by decide)
    (he : starEach [ea, eb] X.env = (false, eval ea X.env) :: starEach [eb] X.env := by rfl) (he2 : starEach [eb] X.env = (false, eval eb X.env) :: starEach [] X.env := by rfl) (hpl : (backTo pos (starEach [eb] X.env)).any (·.1) = false := by rfl) :
    PE X (.Call (.Name x p) [ea, eb] [] pos) (fun σ H Q => tCons ta (tCons tb tNil) σ H fun vs H1 => spM (X.D tl) n Ft vs H1 Q E0) := by
  obtain ⟨f, fd, G, h1, h2, h3⟩ := O
  exact g_call (p := p) G hA hr hg h1 h2 h3 pass0 (pa_cons ha (pa_cons hb pa_nil he2) he) hdb he hpl
theorem p_pure {n : Nat} {F : FP} {ea eb : Expr} {ta tb : TE} (O : Ok X.prog X.w (X.D tl) X.mg X.base k x ps (spP (X.D tl) n F)) (hA : X.A.guards = some []) (hr : Room k X.A) (ha : PE X ea ta) (hb : PE X eb tb) (hg : Gl X x := by rfl) (hdb : (x == ("__debug__" : Str)) = false := by decide)
    (he : starEach [ea, eb] X.env = (false, eval ea X.env) :: starEach [eb] X.env := by rfl) (he2 : starEach [eb] X.env = (false, eval eb X.env) :: starEach [] X.env := by rfl) (hpl : (backTo pos (starEach [eb] X.env)).any (·.1) = false := by rfl) :
    PE X (.Call (.Name x p) [ea, eb] [] pos) (fun σ H Q => tCons ta (tCons tb tNil) σ H fun vs H1 => spP (X.D tl) n F vs H1 Q E0) := by
  obtain ⟨f, fd, G, h1, h2, h3⟩ := O
  exact g_call (p := p) G hA hr hg h1 h2 h3 pass0 (pa_cons ha (pa_cons hb pa_nil he2) he) hdb he hpl
theorem p_ty {T : String} {R : List V → Hp → VK → Prop} {ea : Expr} {ta : TE} (hc : CallR X (.type T) R) (hg : Gl X x) (hm : X.mg x = none) (hv : bootBuiltins x = some (.type T)) (ha : PE X ea ta) (hn : x ≠ "__name__" := by decide) (hdb : (x == ("__debug__" : Str)) = false := by decide)
    (he : starEach [ea] X.env = (false, eval ea X.env) :: starEach [] X.env := by rfl) (hpl : (backTo pos (starEach [] X.env)).any (·.1) = false := by rfl) : PE X (.Call (.Name x p) [ea] [] pos) (tCB R (tCons ta tNil)) :=
  pe_callTy hc hg hm hv (pa_cons ha pa_nil he) hn hdb he hpl
theorem p_bl {T : String} {R : List V → Hp → VK → Prop} {ea : Expr} {ta : TE} (hc : CallR X (.builtin T) R) (hg : Gl X x) (hm : X.mg x = none) (hv : bootBuiltins x = some (.builtin T)) (ha : PE X ea ta) (hn : x ≠ "__name__" := by decide) (hdb : (x == ("__debug__" : Str)) = false := by decide)
    (he : starEach [ea] X.env = (false, eval ea X.env) :: starEach [] X.env := by rfl) (hpl : (backTo pos (starEach [] X.env)).any (·.1) = false := by rfl) : PE X (.Call (.Name x p) [ea] [] pos) (tCB R (tCons ta tNil)) :=
  pe_callB hc hg hm hv (pa_cons ha pa_nil he) hn hdb he hpl
/-- the frame has slots enough -/
def sharpD (f1 : ED) (fi : ID) (fz : ED) (Ft : FM) (FT : FP) : SD := fun ρ => if 7 < ρ.length then sharpS f1 fi fz Ft FT ρ else none
theorem s_sharp {st1 st2 st3 : Stmt} {rest : List Stmt} {f1 fz : ED} {fi : ID} {Ft : FM} {FT : FP} {g : SD} (h1 : PS X st1 (tSh1 (X.D tl) f1)) (h2 : PS X st2 (tSh2 (X.D tl) fi Ft)) (h3 : PS X st3 (tSh3 (X.D tl) fz FT)) (hr : PSs X rest (RS (X.D tl) g)) :
    PSs X (st1 :: st2 :: st3 :: rest) (RS (X.D tl) (seqS (sharpD f1 fi fz Ft FT) g)) := by
  have T := pss_cons h1 (pss_cons h2 (pss_cons h3 hr))
  refine ⟨fun pins s σ H D I h => T.run pins s σ H D I ?_⟩
  obtain ⟨P, B, L, ρ, o, R0, e, k⟩ := h
  obtain ⟨o1, e1, e⟩ := Option.bind_eq_some_iff.mp e
  unfold sharpD at e1
  split at e1
  · rename_i hl
    exact sharp_core (by rw [R0.len]; exact hl) ⟨P, B, L, ρ, o, R0, Option.bind_eq_some_iff.mpr ⟨o1, e1, e⟩, k⟩
  · cases e1
end
end DL
end
noncomputable section
namespace LT
open PySem L2 DL
/-- _law_sharper(_law_bag_here, _law_known_here); slots: _law_bag_here _law_known_here _law_rows _law_turn _law_row _law_at _law_words _law_word -/
def g__law_sharper : SD :=
  (seqS (sharpD (binD (varD 1) (conD (.int 1)) ixG) (rng1I (acons (callM 0 1 LW.F__law_one (acons (lstD (acons (conD (.int 1)) (acons (conD (.int 1)) (acons (conD (.int 2)) anil)))) anil)) anil)) (callP 1 LW.F_known_sizes (acons (varD 1) anil)) LW.F__law_take LW.F__law_tightened)
    (retS (iteD (testD (binD (varD 6) (conD .none) (isNG' false))) (varD 1) (tupD (acons (binD (varD 1) (conD (.int 0)) ixG) (acons (varD 6) anil))))))
def F__law_sharper : FM := runM 8 g__law_sharper
end LT
end
noncomputable section
namespace K37
open PySem L2 DL
abbrev F_known_sizes : FP := LW.F_known_sizes
abbrev F_greater_ones : FP := LW.F_greater_ones
abbrev F_state_of_lots : FP := LW.F_state_of_lots
abbrev F_state_with_lot : FP := LW.F_state_with_lot
abbrev F_number_within : FP := LW.F_number_within
abbrev F_can_be_together : FP := LW.F_can_be_together
abbrev F_choice_within : FP := LW.F_choice_within
abbrev F_least_within : FP := LW.F_least_within
abbrev F_cuts_of : FP := LW.F_cuts_of
abbrev F_state_beyond : FP := LW.F_state_beyond
abbrev F_lies_in : FP := LW.F_lies_in
abbrev F_joint : FP := LW.F_joint
abbrev F__law_take : FM := LW.F__law_take
abbrev F__law_one : FM := LW.F__law_one
abbrev F__law_mixed : FM := LW.F__law_mixed
abbrev F__law_alike : FP := LW.F__law_alike
abbrev F__law_flat : FP := LW.F__law_flat
abbrev F__law_house : FM := LW.F__law_house
abbrev F__law_rooms_within : FP := LW.F__law_rooms_within
abbrev F__law_within : FP := LW.F__law_within
abbrev F__law_sizes : FP := LW.F__law_sizes
abbrev F__law_state : FM := LW.F__law_state
abbrev F__law_full_state : FM := LW.F__law_full_state
abbrev F__law_start : FM := LW.F__law_start
abbrev F__law_done : FP := LW.F__law_done
abbrev F__law_drawn_move : FM := LW.F__law_drawn_move
abbrev F__law_run : FM := LW.F__law_run
abbrev F__law_story : FM := LW.F__law_story
abbrev F__law_all_states : FP := LW.F__law_all_states_2
abbrev F__law_first_known : FP := LW.F__law_first_known
abbrev F__law_tightened : FP := LW.F__law_tightened
abbrev F__law_known_sizes : FP := LW.F_known_sizes
abbrev F__law_led : FP := LW.F__law_led_2
abbrev F__law_led_by : FP := LW.F__law_led_by_2
abbrev F__law_fits : FP := LW.F__law_fits
abbrev F__law_tight_known : FM := LW.F__law_tight_known
abbrev F__law_known : FM := LW.F__law_known_2
abbrev F__law_sharper : FM := LT.F__law_sharper
abbrev F__law_of_sizes : FM := LW.F__law_of_sizes
abbrev F__law_some_known : FM := LW.F__law_some_known
abbrev F__law_states_that_fit : FP := LW.F__law_states_that_fit
abbrev F__law_some_house : FM := LW.F__law_some_house
/-- law, behind its first row; slots: _law_script _law_bag_here _law_turn _law_house_here _law_one_here _law_other _law_rows _law_words _law_shown _law_due _law_found _law_both _law_word _law_its _law_a _law_b _law_state_here -/
def g_law : SD :=
  (seqS (forS (rng1I (acons (conD (.int 6)) anil)) (nameT 2) (seqS (setS 3 (callM 1 1 F__law_some_house (acons (lstD (acons (conD (.int 5)) (acons (conD (.int 16)) (acons (conD (.int 5)) (acons (conD (.int 8)) anil))))) anil)))
    (seqS (setS 4 (callM 1 1 F__law_some_known (acons (varD 3) anil)))
    (seqS (setS 5 (tupD (acons (binD (varD 4) (conD (.int 0)) ixG) (acons (binD (callM 1 2 F__law_of_sizes (acons (varD 3) (acons (callP 1 F__law_known_sizes (acons (varD 4) anil)) anil))) (conD (.int 1)) ixG) anil))))
    (seqS (ifS (testD (binD (callM 1 1 F__law_take (acons (conD (.int 2)) anil)) (conD (.int 0)) (eqQ false))) (setS 5 (callM 1 1 F__law_sharper (acons (callM 1 1 F__law_sharper (acons (iteD (testD (binD (callM 1 1 F__law_take (acons (conD (.int 2)) anil)) (conD (.int 0)) (eqQ false))) (varD 5) (varD 4)) anil)) anil))) nilS)
    (seqS (setS 6 (lcD [12, 13] (zipI (acons (binD (varD 4) (conD (.int 1)) ixG) (acons (binD (varD 5) (conD (.int 1)) ixG) anil))) (tupT [12, 13]) yesT (callD (acons (lcD [14, 15] (zipI (acons (varD 12) (acons (varD 13) anil))) (tupT [14, 15]) yesT (callD (acons (varD 14) (acons (varD 15) anil)) max2G)) anil) (oneG tupleG))))
    (seqS (parS [7, 8] (acons (callP 2 F__law_tightened (acons (callD (acons (varD 6) anil) (oneG tupleG)) (acons (callP 1 F__law_known_sizes (acons (varD 4) anil)) anil))) (acons (callD (acons (lstD (acons (varD 4) (acons (varD 5) anil))) anil) (oneG repG)) anil)))
    (seqS (setS 9 (iteD (testD (binD (varD 7) (conD .none) (isNG' false))) (conD .none) (tupD (acons (binD (varD 4) (conD (.int 0)) ixG) (acons (varD 7) anil)))))
    (seqS (setS 10 (lstD (acons (callP 3 F_joint (acons (varD 3) (acons (varD 4) (acons (varD 5) anil)))) (acons (callP 3 F_joint (acons (varD 3) (acons (varD 5) (acons (varD 4) anil)))) (acons (callP 3 F_joint (acons (varD 3) (acons (varD 4) (acons (varD 5) anil)))) anil)))))
    (seqS (ifS (orT (notT (testD (callP 2 F__law_alike (acons (varD 10) (acons (binD (lstD (acons (varD 9) anil)) (conD (.int 3)) mulG) anil))))) (testD (binD (callD (acons (lstD (acons (varD 4) (acons (varD 5) anil))) anil) (oneG repG)) (varD 8) (eqQ true)))) (retS (conD (.bool false))) nilS)
    (seqS (ifS (andT (testD (binD (binD (varD 3) (conD (.int 0)) ixG) (conD (.int 6)) (intG (i2b fun i j => decide (i < j))))) (andT (testD (binD (callD (acons (binD (varD 3) (conD (.int 1)) ixG) anil) (oneG sumG)) (conD (.int 7)) (intG (i2b fun i j => decide (i < j))))) (testD (binD (callD (acons (binD (varD 3) (conD (.int 1)) ixG) anil) (oneG lenG)) (conD (.int 4)) (intG (i2b fun i j => decide (i < j))))))) (seqS (setS 11 (lcD [16] (seqI (callP 2 F__law_states_that_fit (acons (varD 3) (acons (varD 4) anil)))) (nameT 16) (testD (callP 3 F__law_fits (acons (varD 3) (acons (varD 5) (acons (varD 16) anil))))) (varD 16)))
    (ifS (testD (binD (varD 11) (iteD (testD (binD (varD 9) (conD .none) (isNG' false))) (lstD anil) (callP 2 F__law_states_that_fit (acons (varD 3) (acons (varD 9) anil)))) (eqQ true))) (retS (conD (.bool false))) nilS)) nilS)
    (ifS (andT (testD (binD (varD 9) (conD .none) (isNG' true))) (notT (testD (callP 2 F__law_alike (acons (lstD (acons (callP 3 F_lies_in (acons (varD 3) (acons (binD (varD 10) (conD (.int 0)) ixG) (acons (varD 4) anil)))) (acons (callP 3 F_lies_in (acons (varD 3) (acons (binD (varD 10) (conD (.int 0)) ixG) (acons (varD 5) anil)))) anil))) (acons (lstD (acons (conD (.bool true)) (acons (conD (.bool true)) anil))) anil)))))) (retS (conD (.bool false))) nilS))))))))))))
    (retS (conD (.bool true))))
end K37
end
noncomputable section
namespace DL
open PySem PySem.Spec PyProof.Rows L2
section
variable {P : Program} {w : World} {K : PySem.W.Frag} {cs : List (Addr × Addr)} {mg mb : Str → Option Value} {CX : CXT} {k : Nat} {fa a : Addr} {fd : FuncData} {x : Str} {sp : Sp} {s : Shared} {us : List Value} {ns : List Int}
/-- the tables of the makers, empty, and where they stand -/
structure Makers (K : PySem.W.Frag) (cs : List (Addr × Addr)) (h : Heap) : Prop where
  tab : ∀ p ∈ cs, h.get? p.2 = some { cls := .none, data := .fields #[] }
  code : ∀ p ∈ cs, PySem.W.CodeHd h p.1 p.2
  out : ∀ p ∈ cs, K.lookup p.2 = none
/-- an abstract heap that tracks the tables, and the script at most -/
structure Tracks (cs : List (Addr × Addr)) (a : Addr) (H : Hp) : Prop where
  tabs : ∀ p ∈ cs, H p.2 = some (.tbl #[])
  only : ∀ b, H b = none ∨ (∃ p ∈ cs, p.2 = b) ∨ (b = a ∧ ∃ o xs, H b = some (.frz o (.lst xs)))
theorem lawCore (H : Hp) (hO : Tracks cs a H) (hok : HOk P w H s.heap) (out : H a ≠ none → K.lookup a = none) (mk : Makers K cs s.heap)
    (inK : K.In s.heap) (nsG : s.heap.Ns mainGlobals mg) (nsB : s.heap.Ns builtinsNs mb) (plain : ∀ y : Str, y ≠ "__name__" → mb y = bootBuiltins y) (nolim : s.heap.NoLimit) (nogen : s.gens = #[])
    (bmain : ∃ (bm : Addr) (ob : Obj), mg "__builtins__" = some (.ref bm) ∧ bm ≠ builtinsNs ∧ s.heap.get? bm = some ob ∧ ob.cls = .type "module" ∧ ob.dict = some builtinsNs ∧ ob.data = .plain)
    (isA : s.heap.get? a = some { cls := .type "list", data := .seq us.toArray }) (room : Room k callerA) (guards : callerA.guards = some [])
    (F : ∀ base : Heap, K.In base → base.Ns mainGlobals mg → (∀ p ∈ cs, LamX.TabB base mg p.1 p.2) → FnG P w K mg base CX k fa fd [x] sp) (bind : ∀ (t : Shared) (u : Value), BindsTo t fd ⟨[u], []⟩ [(x, u)])
    (hsp : sp [.ref a] H (fun v _ => v = .bl true) fun _ _ _ => False) (hCX : ∀ e t, CX [] H s (fun _ _ _ => False) e t → False) :
    codeAny (model P w) callerA (.call (.ref fa) ⟨[.ref a], []⟩) (fun r t => r = .ok (.ret (.bool true)) ∧ OldK s.heap t.heap ∧ t.os = s.os ∧ AllBare t.gens) s := by
  -- what is neither the script nor a table is not tracked
  have free : ∀ {b : Addr} {o : Obj}, s.heap.get? b = some o → (∀ ys n, o.data ≠ .seq ys n) → o.data ≠ .fields #[] → H b = none := fun {b o} e h1 h2 => by
    rcases hO.only b with z | ⟨p, hp, rfl⟩ | ⟨rfl, _⟩
    · exact z
    · rw [mk.tab p hp] at e
      cases e
      exact (h2 rfl).elim
    · rw [isA] at e
      cases e
      exact (h1 _ _ rfl).elim
  have ns' : ∀ {b : Addr} {m : Str → Option Value}, s.heap.Ns b m → (hidT s.heap H).Ns b m := fun {b m} z => by
    obtain ⟨o, es, ep, e, d, r⟩ := z
    exact ⟨o, es, ep, hidT_get e (free e (fun ys n q => by rw [d] at q; cases q) (fun q => by rw [d] at q; cases q)), d, r⟩
  have inK' : K.In (hidT s.heap H) := fun b o e => hidT_get (inK b o e) (by
    rcases hO.only b with z | ⟨p, hp, rfl⟩ | ⟨rfl, _, _, z⟩
    · exact z
    · rw [mk.out p hp] at e; cases e
    · rw [out fun q => by rw [z] at q; cases q] at e
      cases e)
  have M : Mod K mg (hidT s.heap H) := by
    obtain ⟨mc, l1, l2⟩ := nolim
    exact ⟨inK', ns' nsG, ⟨mb, ns' nsB, plain⟩, ⟨mc, ns' l1, l2⟩⟩
  have tb : ∀ p ∈ cs, LamX.TabB (hidT s.heap H) mg p.1 p.2 := fun p hp => by
    have at2 := mk.tab p hp
    obtain ⟨o, vs, fl, tf, n7, tg, b9, n10, tt, c1, c2, c3, c4, c5⟩ := mk.code p hp
    obtain ⟨bm, ob, m1, m2, m3, m4, m5, m6⟩ := bmain
    obtain ⟨og, eg, epg, g1, g2, _⟩ := nsG
    have notG : ∀ q : Addr, s.heap.get? q = s.heap.get? mainGlobals → q = mainGlobals → True := fun _ _ _ => trivial
    refine ⟨⟨o, vs, fl, tf, n7, tg, b9, n10, tt, hidT_get c1 (free c1 (fun ys n z => by rw [c3] at z; cases z) fun z => by rw [c3] at z; cases z; simp at c4), c2, c3, c4, c5⟩, ⟨bm, ob, m1, m2, ?_, ?_, hidT_get m3 (free m3 (fun ys n z => by rw [m6] at z; cases z) fun z => by rw [m6] at z; cases z), m4, m5, m6⟩, ?_⟩
    · intro z
      subst z
      rw [g1] at m3
      cases m3
      rw [g2] at m6; cases m6
    · intro z
      subst z
      rw [at2] at m3
      cases m3
      cases m6
    · intro z
      rw [← z, g1] at at2
      cases at2
      cases g2
  have e0 : Env0 P w K mg (hidT s.heap H) callerA [] s H := by
    refine ⟨rfl, M, fun b o e => of_hidT e, Nat.le_of_eq (hidT_size _ _), trivial, fun b hb => ?_, hok, .of_eq nogen⟩
    exact absurd (show b ∈ ([] : List Addr) from hb) (by simp)
  have go := (F _ inK' (ns' nsG) tb).go callerA [] s H ⟨[.ref a], []⟩ [.ref a] [.ref a] _ _ guards room e0 (bind s (.ref a)) (.cons rfl .nil) hsp
  refine codeAny_mono go ?_
  intro r t h
  cases r with
  | error e => exact (hCX e t h).elim
  | ok fl =>
    cases fl with
    | next => exact False.elim h
    | brk => exact False.elim h
    | cont => exact False.elim h
    | ret u =>
      obtain ⟨v, H', hos, hbare, hun, hok', hr, hv⟩ := h
      have hv' : v = .bl true := hv
      subst hv'
      have hu : u = Value.bool true := hr
      subst hu
      -- object by object
      have each : ∀ b o, s.heap.get? b = some o → t.heap.get? b = some o ∨ ∃ p ∈ cs, p.2 = b ∧ ∃ more : Array Value, t.heap.get? b = some { cls := .none, data := .fields more } := fun b o e => by
        rcases hO.only b with z | ⟨p, hp, rfl⟩ | ⟨_, o', ys, z⟩
        · exact .inl (hun.keep b o e z (fun q => absurd (show b ∈ ([] : List Addr) from q) (by simp)) (by simp))
        · obtain ⟨more, q⟩ := hun.tbls p.2 #[] (hO.tabs p hp)
          exact .inr ⟨p, hp, rfl, _, hok' p.2 _ q⟩
        · have z' := hun.frzs b o' _ z
          have f1 := (hok b _ z).1
          have f2 := (hok' b _ z').1
          rw [e] at f1
          cases f1
          exact .inl f2
      refine ⟨rfl, ⟨fun b o e => ?_, fun b o e => ?_⟩, hos, hbare⟩
      · rcases each b o e with z | ⟨p, hp, rfl, more, z⟩
        · exact .inl z
        · have at2 := mk.tab p hp
          rw [at2] at e
          cases e
          exact .inr (.inl ⟨((mk.code p hp).tab at2).isCodeTable, rfl, #[], more, rfl, by rw [Array.empty_append]; exact z⟩)
      · rcases each b o e with z | ⟨_, _, _, _, z⟩
        · exact ⟨_, z⟩
        · exact ⟨_, z⟩
theorem ints_vals : ∀ {us : List Value} {ns : List Int}, IntsAre us ns → Vals (ns.map V.int) us
  | _, _, .nil => .nil
  | _, _, .cons n t h => .cons ⟨t, rfl⟩ (ints_vals h)
theorem lawD (mk : Makers K cs s.heap) (inK : K.In s.heap) (nsG : s.heap.Ns mainGlobals mg) (nsB : s.heap.Ns builtinsNs mb) (plain : ∀ y : Str, y ≠ "__name__" → mb y = bootBuiltins y) (nolim : s.heap.NoLimit) (nogen : s.gens = #[])
    (bmain : ∃ (bm : Addr) (ob : Obj), mg "__builtins__" = some (.ref bm) ∧ bm ≠ builtinsNs ∧ s.heap.get? bm = some ob ∧ ob.cls = .type "module" ∧ ob.dict = some builtinsNs ∧ ob.data = .plain)
    (isA : s.heap.get? a = some { cls := .type "list", data := .seq us.toArray }) (hi : IntsAre us ns) (hl : ns.length ≤ sizeLine) (room : Room k callerA) (guards : callerA.guards = some [])
    (F : ∀ base : Heap, K.In base → base.Ns mainGlobals mg → (∀ p ∈ cs, LamX.TabB base mg p.1 p.2) → FnG P w K mg base CX k fa fd [x] sp) (bind : ∀ (t : Shared) (u : Value), BindsTo t fd ⟨[u], []⟩ [(x, u)])
    (hsp : ∀ H : Hp, Tabs (cs.map (·.2)) H → SqL K H a (ns.map V.int) → sp [.ref a] H (fun v _ => v = .bl true) fun _ _ _ => False) (hCX : ∀ H e t, CX [] H s (fun _ _ _ => False) e t → False) :
    codeAny (model P w) callerA (.call (.ref fa) ⟨[.ref a], []⟩) (fun r t => r = .ok (.ret (.bool true)) ∧ OldK s.heap t.heap ∧ t.os = s.os ∧ AllBare t.gens) s := by
  have lu : us.length = ns.length := hi.length
  have rv := ints_vals hi
  have aT : ∀ p ∈ cs, p.2 ≠ a := fun p hp z => by
    have q := mk.tab p hp
    rw [z, isA] at q
    cases q
  have tabs : ∀ H : Hp, Tracks cs a H → Tabs (cs.map (·.2)) H := fun H t q hq => by
    obtain ⟨p, hp, rfl⟩ := List.mem_map.mp hq
    exact LamX.TabS.nil (t.tabs p hp)
  have tob : ∀ (H : Hp) (b : Addr) (u : HO), (∃ p ∈ cs, p.2 = b) → H b = some (.tbl #[]) → H b = some u → ObjOk P w H s.heap b u := fun H b u hb e z => by
    obtain ⟨p, hp, rfl⟩ := hb
    rw [e] at z
    cases z
    exact mk.tab p hp
  by_cases hk : ∃ o, K.lookup a = some o
  · obtain ⟨o, hk⟩ := hk
    have e := inK a o hk
    rw [isA] at e
    cases e
    have tr : Tracks cs a (fun b => open Classical in if ∃ p ∈ cs, p.2 = b then some (.tbl #[]) else none) := ⟨fun p hp => if_pos ⟨p, hp, rfl⟩, fun b => by
      by_cases hb : ∃ p ∈ cs, p.2 = b
      · exact .inr (.inl hb)
      · exact .inl (if_neg hb)⟩
    have na : (fun b => open Classical in if ∃ p ∈ cs, p.2 = b then some (HO.tbl #[]) else none) a = none := if_neg fun ⟨p, hp, z⟩ => aT p hp z
    have hS : ∀ H : Hp, SqL K H a (ns.map V.int) := fun H => .inr ⟨_, us.toArray, _, hk, rfl, rfl, rfl, by rw [List.size_toArray, lu]; exact hl, by simpa using rv⟩
    refine lawCore _ tr (fun b u z => ?_) (fun z => absurd na z) mk inK nsG nsB plain nolim nogen bmain isA room guards F bind (hsp _ (tabs _ tr) (hS _)) (hCX _)
    by_cases hb : ∃ p ∈ cs, p.2 = b
    · exact tob _ b u hb (if_pos hb) z
    · exact absurd ((if_neg hb).symm.trans z) (fun q => nomatch q)
  · have hk : K.lookup a = none := by
      cases e : K.lookup a with
      | none => rfl
      | some o => exact absurd ⟨o, e⟩ hk
    have tr : Tracks cs a (fun b => open Classical in if b = a then some (HO.frz { cls := .type "list", data := .seq us.toArray } (.lst (ns.map V.int))) else if ∃ p ∈ cs, p.2 = b then some (.tbl #[]) else none) := ⟨fun p hp => (if_neg (aT p hp)).trans (if_pos ⟨p, hp, rfl⟩), fun b => by
      by_cases ha : b = a
      · exact .inr (.inr ⟨ha, _, _, if_pos ha⟩)
      · by_cases hb : ∃ p ∈ cs, p.2 = b
        · exact .inr (.inl hb)
        · exact .inl ((if_neg ha).trans (if_neg hb))⟩
    have hA : (fun b => open Classical in if b = a then some (HO.frz { cls := .type "list", data := .seq us.toArray } (.lst (ns.map V.int))) else if ∃ p ∈ cs, p.2 = b then some (.tbl #[]) else none) a = some (HO.frz { cls := .type "list", data := .seq us.toArray } (.lst (ns.map V.int))) := if_pos rfl
    refine lawCore _ tr (fun b u z => ?_) (fun _ => hk) mk inK nsG nsB plain nolim nogen bmain isA room guards F bind (hsp _ (tabs _ tr) (.inl (.inr ⟨_, hA⟩))) (hCX _)
    by_cases ha : b = a
    · subst ha
      have z' := hA.symm.trans z
      cases z'
      exact ⟨isA, by rw [List.length_map]; exact hl, us, _, rv, isA⟩
    · by_cases hb : ∃ p ∈ cs, p.2 = b
      · exact tob _ b u hb ((if_neg ha).trans (if_pos hb)) z
      · exact absurd (((if_neg ha).trans (if_neg hb)).symm.trans z) (fun q => nomatch q)
theorem noTab_of {h : Heap} {Q : Addr} (X : K.In h) (e : PySem.W.noTabs K = true) (hQ : h.get? Q = some { cls := .none, data := .fields #[] }) : K.lookup Q = none := by
  cases l : K.lookup Q with
  | none => rfl
  | some o =>
    have q := X Q o l
    rw [hQ] at q
    cases q
    have z := List.all_eq_true.mp e _ (PySem.W.mem_of_lookupK l)
    exact absurd (show false = true from z) Bool.false_ne_true
/-- the end: with makers -/
theorem walkT {l : PySem.W.OpenLaw} {n k : Nat} {q : Program} {loose : List Str} {XP : (Str → Option Value) → Heap → Prop} {YP : World → Heap → Prop} {d : DefRec} {K : Params → PySem.W.Frag} {sp : Fg → Sp} {x : Str} (cs : List (Addr × Addr))
    (hn : l.most = some n) (hn2 : n ≤ sizeLine) (hdf : d.params.defaults = []) (hr : Room k callerA) (hg : callerA.guards = some [])
    (hY : ∀ (w : World) (h : Heap), YP w h → (K w.params).In h) (hT : ∀ (w : World) (h : Heap), YP w h → ∀ p ∈ cs, h.get? p.2 = some { cls := .none, data := .fields #[] })
    (hN : ∀ w : World, PySem.W.noTabs (K w.params) = true) (hC : ∀ w : World, ∀ p ∈ cs, PySem.W.codeHdIn (K w.params) p.1 p.2 = true)
    (F : ∀ (w : World) (mg : Str → Option Value) (fa : Addr) (h : Heap), (K w.params).In h → h.Ns mainGlobals mg → mg d.name = some (.ref fa) →
      ∃ fd : FuncData, (∀ (t : Shared) (u : Value), BindsTo t fd ⟨[u], []⟩ [(x, u)]) ∧ ∀ base : Heap, (K w.params).In base → base.Ns mainGlobals mg → (∀ p ∈ cs, LamX.TabB base mg p.1 p.2) → FnG l.prog w (K w.params) mg base CX0 k fa fd [x] (sp ⟨K w.params, cs.map (·.2)⟩))
    (hsp : ∀ (K : Fg) (H : Hp) (a : Addr) (ns : List Int), ns.length ≤ n → Tabs K.T H → SqL K H a (ns.map V.int) → sp K [.ref a] H (fun v _ => v = .bl true) fun _ _ _ => False) :
    PySem.W.WalkO q loose XP YP l.row.toRowW d [] (fun f vs => PySem.call f vs) := by
  refine Att.attach_call hn hdf fun w s₀ s₁ mg mb fa o pm cd doc a vs ns G Y ho hd hcd hmg hobj hints hlen hgn => ?_
  have KX := hY w _ Y
  have at2 := hT w _ Y
  obtain ⟨fd, hb, hF⟩ := F w mg fa _ KX G.T.g hmg
  exact lawD (cs := cs) ⟨at2, fun p hp => PySem.W.codeHd_of_K KX (hC w p hp), fun p hp => noTab_of KX (hN w) (at2 p hp)⟩ KX G.T.g G.T.b G.T.builtins G.T.nolimit hgn G.T.bmain hobj hints (Nat.le_trans hlen hn2) hr hg hF hb (fun H hT hS => hsp ⟨K w.params, cs.map (·.2)⟩ H a ns hlen hT hS) fun H e t z => z
end
def RIs (K : Fg) (ns : List Int) : TI := fun σ H R => ∃ P B L ρ a, Rep K P B L σ ρ H ∧ σ[0]? = some (some (V.ref a)) ∧ SqL K H a (ns.map V.int) ∧
  ∀ J H' L' E', Post K P B L σ H [] ρ H' L' E' → WalksA K (E' ++ P) B L' H' J ((ns.take 63).map .int) → R J H'
theorem cut63 (ns : List Int) : cutV (ns.map V.int) none (some 63) = (ns.take 63).map V.int := by
  unfold cutV
  rw [HT.sIx_none, show HT.sIx (ns.map V.int).length (ns.map V.int).length (some 63) = min 63 (ns.map V.int).length from HT.sIx_nat _ _ 63, List.drop_zero, Nat.sub_zero, List.map_take]
  by_cases h : 63 ≤ (ns.map V.int).length
  · rw [Nat.min_eq_left h]
  · rw [Nat.min_eq_right (by omega), List.take_of_length_le (Nat.le_refl _), List.take_of_length_le (by omega)]
section
variable {X : Cx} {tl : TL} {tgE : Expr} {x : Str} {p pos p2 ip : Pos} {ik : Option Str} {ns : List Int}
theorem i_scr {kk} (hN : X.N[0]? = some x := by rfl) (hv : Vis X.env.scope x := by first | exact Or.inl rfl | exact Or.inr (Or.inl rfl) | exact Or.inr (Or.inr rfl)) (hd : (x == ("__debug__" : Str)) = false := by decide) (hcd : (x == ("__classdict__" : Str)) = false := by decide) :
    PI X tgE (.Subscript (.Name x p) (.Slice none (some (.Constant (.int 63) kk ip)) none p2) pos) (RIs (X.D tl) ns) :=
  (pi_list (pe_slice sl_list (pe_var hN hv hd hcd) po_none (po_some pe_int))).imp fun σ H R h => by
    obtain ⟨P, B, L, ρ, a, R0, e1, hS, k⟩ := h
    refine ⟨.ref a, e1, 63, rfl, a, ns.map V.int, rfl, hS, fun c hc => ?_⟩
    rw [cut63]
    have kp : Keep [] H (upd H c (.lst ((ns.take 63).map V.int))) := Keep.new hc
    have R1 := R0.same kp
    refine ⟨c, rfl, ⟨_, .of upd_same⟩, k _ _ L [] (.same (E := []) R0 kp) (walks_l R1 (.lst (fun z => ?_) upd_same (DqA.of_ints _)))⟩
    obtain ⟨vs, q, _⟩ := R0.wl c z
    rw [hc] at q
    cases q
theorem lc_scr {own is : List Nat} {K : Fg} {tg : GD} {tt : TD} {te : ED} (hin : ∀ i ∈ is, i ∈ own) {σ : L2.St} {H : Hp} {Q : VK} (h : (∃ a, σ[0]? = some (some (V.ref a)) ∧ SqL K H a (ns.map V.int)) ∧ RD K (lcD own (fun ρ => some ((ns.take 63).map .int, ρ)) tg tt te) σ H Q) :
    tLc (RIs K ns) (RG K is tg) (RT K tt) (RD K te) own σ H Q := by
  obtain ⟨⟨a, e1, hS⟩, h⟩ := h
  obtain ⟨P, B, L, ρ, ds, ρ', R0, e, k⟩ := lc_imp hin h
  cases e
  exact ⟨P, B, L, ρ, a, R0, e1, hS, k⟩
end
/-- what the first row makes of a script -/
def bagD (ns : List Int) : List PyData := [.int 0, .int 1234567891, .int 0, .list (((ns.take 63).map fun i => if i < 0 then -i else i).map .int)]
def spB (K : Fg) : Sp := fun vs H Q _ => ∃ (a : Addr) (ns : List Int), vs = [.ref a] ∧ SqL K H a (ns.map V.int) ∧ Tabs K.T H ∧ ∀ b us H', Keep [] H H' → H b = none → H' b = some (.lst us) → DqA K H' [b] us (bagD ns) → Q (.ref b) H'
/-- what law(script) promises -/
def spL (K : Fg) : Sp := fun vs H Q _ => ∃ (a : Addr) (ns : List Int), vs = [.ref a] ∧ SqL K H a (ns.map V.int) ∧ ns.length ≤ 63 ∧ Tabs K.T H ∧ ∀ H', Q (.bl true) H'
theorem bag_lc (ns : List Int) {ρ : DL.Env} (h : (ρ.getD 1 .no).isOpen = false) (hl : 1 < ρ.length) : lcD [1] (fun ρ => some ((ns.take 63).map .int, ρ)) (nameT 1) yesT (callD (acons (varD 1) anil) (oneG absG)) ρ = some (.own (((ns.take 63).map fun i => if i < 0 then -i else i).map .int), restE (wipeE ρ [1]) ρ [1]) := by
  have go : ∀ (l : List Int) (acc : List PyData), acc.length + l.length < 1000 → lcLoop [1] (nameT 1) yesT (callD (acons (varD 1) anil) (oneG absG)) acc (l.map .int) (wipeE ρ [1]) = some (acc ++ (l.map fun i => if i < 0 then -i else i).map .int, wipeE ρ [1]) := by
    intro l
    induction l with
    | nil => intro acc _; simp [lcLoop]
    | cons i l ih =>
      intro acc ha
      have e1 : (varD 1) ((wipeE ρ [1]).set 1 (.cl (.int i))) = some (.cl (.int i), (wipeE ρ [1]).set 1 (.cl (.int i))) := by
        unfold varD
        rw [getD_set, if_pos ⟨rfl, by simp [wipeE]; omega⟩]
      have e2 : (callD (acons (varD 1) anil) (oneG absG)) ((wipeE ρ [1]).set 1 (.cl (.int i))) = some (.cl (.int (if i < 0 then -i else i)), (wipeE ρ [1]).set 1 (.cl (.int i))) := by
        show ((acons (varD 1) anil) _).bind _ = _
        unfold acons
        rw [e1]
        rfl
      have e3 : wipeE ((wipeE ρ [1]).set 1 (.cl (.int i))) [1] = wipeE ρ [1] := by
        simp [wipeE, List.set_set]
      show (some ((wipeE ρ [1]).set 1 (.cl (.int i)))).bind _ = _
      simp only [Option.bind_some]
      show (some (true, (wipeE ρ [1]).set 1 (.cl (.int i)))).bind _ = _
      simp only [Option.bind_some, if_true]
      rw [e2]
      simp only [Option.bind_some, psV]
      rw [if_pos (show acc.length < lim by rw [lim_eq]; rw [List.length_cons] at ha; omega), e3, ih (acc ++ [_]) (by rw [List.length_append, List.length_cons, List.length_nil]; rw [List.length_cons] at ha; omega)]
      simp
  show (some ((ns.take 63).map PyData.int, ρ)).bind _ = _
  simp only [Option.bind_some]
  rw [if_pos (by simpa using h), go _ _ (by rw [List.length_take]; simp; omega)]
  rfl
section
variable {K : Fg} {N : List Str} {a : Addr} {ns : List Int} {H : Hp} {Q : VK}
theorem rep_no {P B L : List Addr} (h : ∀ b ∈ P ++ B ++ L, ∃ u, H b = some u ∧ OwnO u) (nd : (∀ b ∈ P, b ∉ B ∧ b ∉ L) ∧ ∀ b ∈ B, b ∉ L) (ht : Tabs K.T H) (σ : L2.St) : Rep K P B L σ (List.replicate σ.length .no) H := by
  have e : ∀ i, (List.replicate σ.length Cell.no).getD i .no = .no := fun i => by
    rw [List.getD_eq_getElem?_getD, List.getElem?_replicate]
    split <;> rfl
  refine ⟨by simp, h, nd, fun i => ?_, fun i j b _ h1 _ _ _ => ?_, ht⟩
  · rw [e]; trivial
  · rw [e] at h1; cases h1
theorem bag_read (hN : N.length = 2) (hS : SqL K H a (ns.map V.int)) (ht : Tabs K.T H) (k : ∀ b us H', Keep [] H H' → H b = none → H' b = some (.lst us) → DqA K H' [b] us (bagD ns) → Q (.ref b) H') :
    (tRet (tLst (tCons (tC (.int 0)) (tCons (tC (.int 1234567891)) (tCons (tC (.int 0)) (tCons (fun σ H Q => (∃ a, σ[0]? = some (some (V.ref a)) ∧ SqL K H a (ns.map V.int)) ∧ RD K (lcD [1] (fun ρ => some ((ns.take 63).map .int, ρ)) (nameT 1) yesT (callD (acons (varD 1) anil) (oneG absG))) σ H Q) tNil))))))
      { nx := fun _ H' => Q .non H', rt := Q } (L2.start N [V.ref a]) H := by
  have hl : (L2.start N [V.ref a]).length = 2 := by rw [start_len (by rw [hN]; exact (by decide : 1 ≤ 2)), hN]
  have R0 := rep_no (K := K) (H := H) (P := []) (B := []) (L := []) (fun _ z => nomatch z) ⟨(fun _ z => nomatch z), (fun _ z => nomatch z)⟩ ht (L2.start N [V.ref a])
  rw [hl] at R0
  refine ⟨⟨a, rfl, hS⟩, [], [], [], _, _, _, R0, bag_lc ns rfl (by decide), fun x H' L' E' p v => ?_⟩
  obtain ⟨c, vs, rfl, hc, _, hh, dq⟩ := v
  refine ⟨by show 4 ≤ sizeLine; rw [sizeLine_eq]; decide, fun b hb => ?_⟩
  have kp : Keep [] H H' := p.step.keep
  have hb0 : H b = none := by
    cases e : H b with
    | none => rfl
    | some o => exact absurd hb (p.step.ne b (by rw [e]; exact fun z => nomatch z))
  have cb : c ≠ b := fun z => by rw [z, hb] at hh; cases hh
  refine k b _ _ (kp.tr (Keep.new hb)) hb0 upd_same ?_
  refine .cons (.int 0) (.cons (.int _) (.cons (.int 0) (.cons (.lst (by simpa using cb) (by rw [upd_ne cb]; exact hh) ?_) .nil)))
  rw [DqA.ints dq]
  exact DqA.of_ints _
theorem law_read {g : SD} (hN : 2 ≤ N.length) (hS : SqL K H a (ns.map V.int)) (ht : Tabs K.T H) (q : ∀ H', Q (.bl true) H') (hg : ∃ ρ', g (Cell.no :: Cell.op (bagD ns) :: List.replicate (N.length - 2) .no) = some (.rt (.cl (.bool true)) ρ')) {E : XK} :
    (tSeq (tAsg (fun σ H Q => (tCons (tVar 0) tNil) σ H fun vs H1 => spB K vs H1 Q E) (gName 1)) (RS K g)) { nx := fun _ H' => Q .non H', rt := Q } (L2.start N [V.ref a]) H := by
  have hl : (L2.start N [V.ref a]).length = N.length := start_len (by show 1 ≤ _; omega)
  refine ⟨.ref a, by show (L2.start N [V.ref a])[0]? = _; rfl, a, ns, rfl, hS, ht, fun b us H' kp hb hb' dq => ?_⟩
  obtain ⟨ρ', e⟩ := hg
  show RS K g _ ((L2.start N [V.ref a]).set 1 (some (V.ref b))) H'
  have gd : ∀ i, (Cell.no :: Cell.op (bagD ns) :: List.replicate (N.length - 2) Cell.no).getD i .no = if i = 1 then .op (bagD ns) else .no := fun i => by
    match i with
    | 0 => rfl
    | 1 => rfl
    | i + 2 =>
      rw [if_neg (by omega), List.getD_eq_getElem?_getD, List.getElem?_cons_succ, List.getElem?_cons_succ, List.getElem?_replicate]
      split <;> rfl
  refine ⟨[], [], [b], _, _, ⟨?_, ?_, ⟨(fun _ z => nomatch z), (fun _ z => nomatch z)⟩, fun i => ?_, fun i j c hij h1 h2 _ _ => ?_, kp.tab _ ht⟩, e, ?_⟩
  · rw [List.length_set, hl]
    simp
    omega
  · intro c hc
    have : c = b := by simpa using hc
    subst this
    exact ⟨_, hb', .lst us⟩
  · rw [gd]
    by_cases hi : i = 1
    · subst hi
      rw [if_pos rfl]
      refine ⟨b, us, ?_, by simp, hb', by simpa using dq⟩
      rw [getS_set, if_pos ⟨rfl, by rw [hl]; omega⟩]
    · rw [if_neg hi]; trivial
  · rw [gd] at h1 h2
    by_cases hi : i = 1
    · by_cases hj : j = 1
      · exact hij (hi.trans hj.symm)
      · rw [if_neg hj] at h2; cases h2
    · rw [if_neg hi] at h1; cases h1
  · intro σ' x H2 L' E' R s f v
    rw [v.bl]
    exact q H2
end
end DL
end
namespace K37
open PySem PySem.Spec PyProof.Rows L2 DL
def topS (i : Nat) : Stmt := PySem.Challenge.pw_floorkeepers_k37_joint_knowledges.main.body.getD i (.Pass ⟨0, 0, 0, 0⟩)
abbrev s_known_sizes : Stmt := topS 1
abbrev N_known_sizes : List Str := ["knowledge", "word"]
abbrev P_known_sizes : List Str := ["knowledge"]
theorem sc_known_sizes : FnScope N_known_sizes P_known_sizes (defScope s_known_sizes) := ⟨rfl, rfl, rfl, by decide +kernel, rfl, by decide +kernel, by decide +kernel⟩
theorem ok_known_sizes {P : Program} {w : World} {K : Fg} {mg : Str → Option Value} {base : Heap} (B : Blt mg) (D : Def K mg "known_sizes" s_known_sizes P_known_sizes)  :
    Ok P w K mg base 1 "known_sizes" P_known_sizes (spP K 1 F_known_sizes) :=
  Ok.pure (N := N_known_sizes) D sc_known_sizes rfl (by decide) fun f cdv A outer s H E hA hr =>
    have hu := hu64 hr
    (s_one (s_ret (d_callTy c_tuple (loc_one loc_tuple) (by rfl) B.tuple boot_tuple (a_cons (d_lc (own := [(("word" : Str), 1)]) rfl sc_known_sizes.nd (i_seq (d_ix ix_both loc_ix (d_var 0) d_int (fun _ _ => rfl))) (blkOk_by (N := N_known_sizes) (sc := defScope s_known_sizes) (by decide +kernel)) (by decide) (fun _ _ _ _ _ => (g_name 1 sc_known_sizes.nd)) (fun _ _ _ _ _ => i_yes) (fun _ _ _ _ _ => (d_ix ix_both loc_ix (d_var 1) (d_un un_neg loc_neg d_int) (fun _ _ => rfl)))) a_nil))))
abbrev s_greater_ones : Stmt := topS 2
abbrev N_greater_ones : List Str := ["one", "other", "number", "more"]
abbrev P_greater_ones : List Str := ["one", "other"]
theorem sc_greater_ones : FnScope N_greater_ones P_greater_ones (defScope s_greater_ones) := ⟨rfl, rfl, rfl, by decide +kernel, rfl, by decide +kernel, by decide +kernel⟩
theorem ok_greater_ones {P : Program} {w : World} {K : Fg} {mg : Str → Option Value} {base : Heap} (B : Blt mg) (D : Def K mg "greater_ones" s_greater_ones P_greater_ones)  :
    Ok P w K mg base 1 "greater_ones" P_greater_ones (spP K 2 F_greater_ones) :=
  Ok.pure (N := N_greater_ones) D sc_greater_ones rfl (by decide) fun f cdv A outer s H E hA hr =>
    have hu := hu64 hr
    (s_one (s_ret (d_lc (own := [(("number" : Str), 2), (("more" : Str), 3)]) rfl sc_greater_ones.nd (i_zip (by rfl) B.zip (a_cons (d_var 0) (a_cons (d_var 1) a_nil))) (blkOk_by (N := N_greater_ones) (sc := defScope s_greater_ones) (by decide +kernel)) (by decide) (fun _ _ _ _ _ => (g_tup rfl (pgs_cons (h_name 2 sc_greater_ones.nd) (pgs_cons (h_name 3 sc_greater_ones.nd) pgs_nil)) rfl)) (fun _ _ _ _ _ => i_yes) (fun _ _ _ _ _ => (d_ite (t_cmp op_gt loc_i2b (d_var 2) (d_var 3) (nomark _)) (d_var 2) (d_var 3))))))
abbrev s_state_of_lots : Stmt := topS 5
abbrev N_state_of_lots : List Str := ["house", "lots", "thing", "lot"]
abbrev P_state_of_lots : List Str := ["house", "lots"]
theorem sc_state_of_lots : FnScope N_state_of_lots P_state_of_lots (defScope s_state_of_lots) := ⟨rfl, rfl, rfl, by decide +kernel, rfl, by decide +kernel, by decide +kernel⟩
theorem ok_state_of_lots {P : Program} {w : World} {K : Fg} {mg : Str → Option Value} {base : Heap} (B : Blt mg) (D : Def K mg "state_of_lots" s_state_of_lots P_state_of_lots)  :
    Ok P w K mg base 1 "state_of_lots" P_state_of_lots (spP K 2 F_state_of_lots) :=
  Ok.pure (N := N_state_of_lots) D sc_state_of_lots rfl (by decide) fun f cdv A outer s H E hA hr =>
    have hu := hu64 hr
    (s_one (s_ret (d_callTy c_tuple (loc_one loc_tuple) (by rfl) B.tuple boot_tuple (a_cons (d_lc (own := [(("thing" : Str), 2)]) rfl sc_state_of_lots.nd (i_rng1 (by rfl) B.range (a_cons (d_ix ix_both loc_ix (d_var 0) d_int (fun _ _ => rfl)) a_nil)) (blkOk_by (N := N_state_of_lots) (sc := defScope s_state_of_lots) (by decide +kernel)) (by decide) (fun _ _ _ _ _ => (g_name 2 sc_state_of_lots.nd)) (fun _ _ _ _ _ => i_yes) (fun _ _ _ _ _ => (d_callB c_len (loc_one loc_len) (by rfl) B.len PySem.boot_len (a_cons (d_lc (own := [(("lot" : Str), 3)]) rfl sc_state_of_lots.nd (i_seq (d_var 1)) (blkOk_nest (N := N_state_of_lots) (sc := defScope s_state_of_lots) rfl rfl (by decide +kernel)) (by decide) (fun _ _ _ _ _ => (g_name 3 sc_state_of_lots.nd)) (fun _ _ _ _ _ => (i_one (t_cmp op_notIn_seq loc_in (d_var 2) (d_var 3) (by with_unfolding_all rfl)))) (fun _ _ _ _ _ => (d_var 3))) a_nil)))) a_nil))))
abbrev s_state_with_lot : Stmt := topS 4
abbrev N_state_with_lot : List Str := ["house", "knowledge", "lot", "order", "inner", "outer", "lots", "thing", "size"]
abbrev P_state_with_lot : List Str := ["house", "knowledge", "lot"]
theorem sc_state_with_lot : FnScope N_state_with_lot P_state_with_lot (defScope s_state_with_lot) := ⟨rfl, rfl, rfl, by decide +kernel, rfl, by decide +kernel, by decide +kernel⟩
theorem ok_state_with_lot {P : Program} {w : World} {K : Fg} {mg : Str → Option Value} {base : Heap} (B : Blt mg) (D : Def K mg "state_with_lot" s_state_with_lot P_state_with_lot) (O_state_of_lots : Ok P w K mg base 1 "state_of_lots" P_state_of_lots (spP K 2 F_state_of_lots)) (O_known_sizes : Ok P w K mg base 1 "known_sizes" P_known_sizes (spP K 1 F_known_sizes)) :
    Ok P w K mg base 2 "state_with_lot" P_state_with_lot (spP K 3 F_state_with_lot) :=
  Ok.pure (N := N_state_with_lot) D sc_state_with_lot rfl (by decide) fun f cdv A outer s H E hA hr =>
    have hu := hu64 hr
    (s_cons (s_set 3 (d_ix ix_both loc_ix (d_var 1) d_int (fun _ _ => rfl)) sc_state_with_lot.nd)
    (s_cons (s_set 4 (d_lc (own := [(("thing" : Str), 7)]) rfl sc_state_with_lot.nd (i_seq (d_var 3)) (blkOk_by (N := N_state_with_lot) (sc := defScope s_state_with_lot) (by decide +kernel)) (by decide) (fun _ _ _ _ _ => (g_name 7 sc_state_with_lot.nd)) (fun _ _ _ _ _ => (i_one (t_cmp op_in_seq loc_in (d_var 7) (d_var 2) (by with_unfolding_all rfl)))) (fun _ _ _ _ _ => (d_var 7))) sc_state_with_lot.nd)
    (s_cons (s_set 5 (d_lc (own := [(("thing" : Str), 7)]) rfl sc_state_with_lot.nd (i_seq (d_var 3)) (blkOk_by (N := N_state_with_lot) (sc := defScope s_state_with_lot) (by decide +kernel)) (by decide) (fun _ _ _ _ _ => (g_name 7 sc_state_with_lot.nd)) (fun _ _ _ _ _ => (i_one (t_cmp op_notIn_seq loc_in (d_var 7) (d_var 2) (by with_unfolding_all rfl)))) (fun _ _ _ _ _ => (d_var 7))) sc_state_with_lot.nd)
    (s_cons (s_setLc 6 (own := [(("size" : Str), 8)]) rfl sc_state_with_lot.nd (sw_true rfl rfl rfl (by decide +kernel)) (i_seq (e_P O_known_sizes hA (hr.mono (by decide)) (a_cons (d_var 1) a_nil))) (blkOk_by (N := N_state_with_lot) (sc := defScope s_state_with_lot) (by decide +kernel)) (by decide) (fun _ _ _ _ _ => (g_name 8 sc_state_with_lot.nd)) (fun _ _ _ _ _ => i_yes) (fun _ _ _ _ _ => (d_bin op_addAll loc_add (d_slice (d_var 4) o_none (o_some (d_var 8))) (d_slice (d_var 5) o_none (o_some (d_callB (c_max2 rfl) loc_max2 (by rfl) B.max boot_max (a_cons d_int (a_cons (d_bin op_sub loc_i2i (d_var 8) (d_callB c_len (loc_one loc_len) (by rfl) B.len PySem.boot_len (a_cons (d_var 4) a_nil))) a_nil))))))))
    (s_one (s_ret (e_P O_state_of_lots hA (hr.mono (by decide)) (a_cons (d_var 0) (a_cons (d_var 6) a_nil)))))))))
abbrev s_number_within : Stmt := topS 8
abbrev N_number_within : List Str := ["house", "knowledge", "lot", "chosen", "thing"]
abbrev P_number_within : List Str := ["house", "knowledge", "lot", "chosen"]
theorem sc_number_within : FnScope N_number_within P_number_within (defScope s_number_within) := ⟨rfl, rfl, rfl, by decide +kernel, rfl, by decide +kernel, by decide +kernel⟩
theorem ok_number_within {P : Program} {w : World} {K : Fg} {mg : Str → Option Value} {base : Heap} (B : Blt mg) (D : Def K mg "number_within" s_number_within P_number_within) (O_state_with_lot : Ok P w K mg base 2 "state_with_lot" P_state_with_lot (spP K 3 F_state_with_lot)) :
    Ok P w K mg base 3 "number_within" P_number_within (spP K 4 F_number_within) :=
  Ok.pure (N := N_number_within) D sc_number_within rfl (by decide) fun f cdv A outer s H E hA hr =>
    have hu := hu64 hr
    (s_one (s_ret (d_tup (a_cons (d_callB c_len (loc_one loc_len) (by rfl) B.len PySem.boot_len (a_cons (d_lc (own := [(("thing" : Str), 4)]) rfl sc_number_within.nd (i_seq (d_var 2)) (blkOk_by (N := N_number_within) (sc := defScope s_number_within) (by decide +kernel)) (by decide) (fun _ _ _ _ _ => (g_name 4 sc_number_within.nd)) (fun _ _ _ _ _ => (i_one (t_cmp op_in_seq loc_in (d_var 4) (d_var 3) (by with_unfolding_all rfl)))) (fun _ _ _ _ _ => (d_var 4))) a_nil)) (a_cons (e_P O_state_with_lot hA (hr.mono (by decide)) (a_cons (d_var 0) (a_cons (d_var 1) (a_cons (d_var 3) a_nil)))) a_nil)))))
abbrev s_can_be_together : Stmt := topS 10
abbrev N_can_be_together : List Str := ["order", "word", "lot", "late", "place"]
abbrev P_can_be_together : List Str := ["order", "word", "lot"]
theorem sc_can_be_together : FnScope N_can_be_together P_can_be_together (defScope s_can_be_together) := ⟨rfl, rfl, rfl, by decide +kernel, rfl, by decide +kernel, by decide +kernel⟩
theorem ok_can_be_together {P : Program} {w : World} {K : Fg} {mg : Str → Option Value} {base : Heap} (B : Blt mg) (D : Def K mg "can_be_together" s_can_be_together P_can_be_together)  :
    Ok P w K mg base 1 "can_be_together" P_can_be_together (spP K 3 F_can_be_together) :=
  Ok.pure (N := N_can_be_together) D sc_can_be_together rfl (by decide) fun f cdv A outer s H E hA hr =>
    have hu := hu64 hr
    (s_cons (s_set 3 d_int sc_can_be_together.nd)
    (s_cons (s_for PassesOwn.never rfl (i_rng3 (by rfl) B.range (a_cons (d_bin op_sub loc_i2i (d_callB c_len (loc_one loc_len) (by rfl) B.len PySem.boot_len (a_cons (d_var 0) a_nil)) d_int) (a_cons (d_un un_neg loc_neg d_int) (a_cons (d_un un_neg loc_neg d_int) a_nil)))) (g_name 4 sc_can_be_together.nd) (s_cons (s_if (t_cmp op_in_seq loc_in (d_ix ix_both loc_ix (d_var 0) (d_var 4) (fun _ _ => rfl)) (d_var 2) (by with_unfolding_all rfl)) (s_one (s_aug 3 ip_add d_int sc_can_be_together.nd)) s_nil)
    (s_one (s_if (t_cmp op_gt loc_i2b (d_var 3) (d_bin op_sub loc_i2i (d_ix ix_both loc_ix (d_var 1) (d_un un_neg loc_neg d_int) (fun _ _ => rfl)) (d_ix ix_both loc_ix (d_var 1) (d_var 4) (fun _ _ => rfl))) (nomark _)) (s_one (s_ret d_bl)) s_nil))))
    (s_one (s_ret d_bl))))
abbrev s_choice_within : Stmt := topS 9
abbrev N_choice_within : List Str := ["knowledge", "floor", "things", "order", "words", "chosen", "thing"]
abbrev P_choice_within : List Str := ["knowledge", "floor", "things"]
theorem sc_choice_within : FnScope N_choice_within P_choice_within (defScope s_choice_within) := ⟨rfl, rfl, rfl, by decide +kernel, rfl, by decide +kernel, by decide +kernel⟩
theorem ok_choice_within {P : Program} {w : World} {K : Fg} {mg : Str → Option Value} {base : Heap} (B : Blt mg) (D : Def K mg "choice_within" s_choice_within P_choice_within) (O_can_be_together : Ok P w K mg base 1 "can_be_together" P_can_be_together (spP K 3 F_can_be_together)) :
    Ok P w K mg base 2 "choice_within" P_choice_within (spP K 3 F_choice_within) :=
  Ok.pure (N := N_choice_within) D sc_choice_within rfl (by decide) fun f cdv A outer s H E hA hr =>
    have hu := hu64 hr
    (s_cons (s_unp (d_var 0) (g_tup rfl (pgs_cons (h_name 3 sc_choice_within.nd) (pgs_cons (h_name 4 sc_choice_within.nd) pgs_nil)) rfl))
    (s_cons (s_set 5 (d_lst a_nil) sc_choice_within.nd)
    (s_cons (s_for PassesOwn.never rfl (i_seq (d_var 2)) (g_name 6 sc_choice_within.nd) (s_one (s_if (t_val (e_P O_can_be_together hA (hr.mono (by decide)) (a_cons (d_var 3) (a_cons (d_ix ix_both loc_ix (d_var 4) (d_var 1) (fun _ _ => rfl)) (a_cons (d_bin op_addAll loc_add (d_var 5) (d_lst (a_cons (d_var 6) a_nil))) a_nil))))) (s_one (s_expr (d_met (T := "list") 5 PySem.F.slot_list_append PySem.F.type_list_append mt_append locM_app (a_cons (d_var 6) a_nil)))) s_nil)))
    (s_one (s_ret (d_var 5))))))
abbrev s_least_within : Stmt := topS 7
abbrev N_least_within : List Str := ["house", "knowledge", "lot", "floor", "others", "thing"]
abbrev P_least_within : List Str := ["house", "knowledge", "lot", "floor"]
theorem sc_least_within : FnScope N_least_within P_least_within (defScope s_least_within) := ⟨rfl, rfl, rfl, by decide +kernel, rfl, by decide +kernel, by decide +kernel⟩
theorem ok_least_within {P : Program} {w : World} {K : Fg} {mg : Str → Option Value} {base : Heap} (B : Blt mg) (D : Def K mg "least_within" s_least_within P_least_within) (O_number_within : Ok P w K mg base 3 "number_within" P_number_within (spP K 4 F_number_within)) (O_choice_within : Ok P w K mg base 2 "choice_within" P_choice_within (spP K 3 F_choice_within)) :
    Ok P w K mg base 4 "least_within" P_least_within (spP K 4 F_least_within) :=
  Ok.pure (N := N_least_within) D sc_least_within rfl (by decide) fun f cdv A outer s H E hA hr =>
    have hu := hu64 hr
    (s_cons (s_setLc 4 (own := [(("thing" : Str), 5)]) rfl sc_least_within.nd (sw_true rfl rfl rfl (by decide +kernel)) (i_seq (d_ix ix_both loc_ix (d_var 1) d_int (fun _ _ => rfl))) (blkOk_by (N := N_least_within) (sc := defScope s_least_within) (by decide +kernel)) (by decide) (fun _ _ _ _ _ => (g_name 5 sc_least_within.nd)) (fun _ _ _ _ _ => (i_one (t_cmp op_notIn_seq loc_in (d_var 5) (d_var 2) (by with_unfolding_all rfl)))) (fun _ _ _ _ _ => (d_var 5)))
    (s_one (s_ret (e_P O_number_within hA (hr.mono (by decide)) (a_cons (d_var 0) (a_cons (d_var 1) (a_cons (d_var 2) (a_cons (e_P O_choice_within hA (hr.mono (by decide)) (a_cons (d_var 1) (a_cons (d_var 3) (a_cons (d_bin op_addAll loc_add (d_var 4) (d_callTy c_list (loc_one loc_list) (by rfl) B.list boot_list (a_cons (d_var 2) a_nil))) a_nil)))) a_nil))))))))
abbrev s_cuts_of : Stmt := topS 12
abbrev N_cuts_of : List Str := ["word", "d"]
abbrev P_cuts_of : List Str := ["word"]
theorem sc_cuts_of : FnScope N_cuts_of P_cuts_of (defScope s_cuts_of) := ⟨rfl, rfl, rfl, by decide +kernel, rfl, by decide +kernel, by decide +kernel⟩
theorem ok_cuts_of {P : Program} {w : World} {K : Fg} {mg : Str → Option Value} {base : Heap} (B : Blt mg) (D : Def K mg "cuts_of" s_cuts_of P_cuts_of)  :
    Ok P w K mg base 1 "cuts_of" P_cuts_of (spP K 1 F_cuts_of) :=
  Ok.pure (N := N_cuts_of) D sc_cuts_of rfl (by decide) fun f cdv A outer s H E hA hr =>
    have hu := hu64 hr
    (s_one (s_ret (d_lc (own := [(("d" : Str), 1)]) rfl sc_cuts_of.nd (i_rng2 (by rfl) B.range (a_cons d_int (a_cons (d_bin op_sub loc_i2i (d_callB c_len (loc_one loc_len) (by rfl) B.len PySem.boot_len (a_cons (d_var 0) a_nil)) d_int) a_nil))) (blkOk_by (N := N_cuts_of) (sc := defScope s_cuts_of) (by decide +kernel)) (by decide) (fun _ _ _ _ _ => (g_name 1 sc_cuts_of.nd)) (fun _ _ _ _ _ => (i_one ((t_and (t_cmp op_lt loc_i2b (d_ix ix_both loc_ix (d_var 0) (d_bin op_sub loc_i2i (d_var 1) d_int) (fun _ _ => rfl)) (d_ix ix_both loc_ix (d_var 0) (d_var 1) (fun _ _ => rfl)) (nomark _)) (t_and1 (t_cmp (op_eqQ hu) loc_eqQ (d_ix ix_both loc_ix (d_var 0) (d_var 1) (fun _ _ => rfl)) (d_ix ix_both loc_ix (d_var 0) (d_bin op_addAll loc_add (d_var 1) d_int) (fun _ _ => rfl)) (nomark _))))).pt)) (fun _ _ _ _ _ => (d_var 1)))))
abbrev s_state_beyond : Stmt := topS 14
abbrev N_state_beyond : List Str := ["house", "one", "other", "order", "words", "floor", "word", "end", "number", "state"]
abbrev P_state_beyond : List Str := ["house", "one", "other"]
theorem sc_state_beyond : FnScope N_state_beyond P_state_beyond (defScope s_state_beyond) := ⟨rfl, rfl, rfl, by decide +kernel, rfl, by decide +kernel, by decide +kernel⟩
theorem ok_state_beyond {P : Program} {w : World} {K : Fg} {mg : Str → Option Value} {base : Heap} (B : Blt mg) (D : Def K mg "state_beyond" s_state_beyond P_state_beyond) (O_cuts_of : Ok P w K mg base 1 "cuts_of" P_cuts_of (spP K 1 F_cuts_of)) (O_least_within : Ok P w K mg base 4 "least_within" P_least_within (spP K 4 F_least_within)) :
    Ok P w K mg base 5 "state_beyond" P_state_beyond (spP K 3 F_state_beyond) :=
  Ok.pure (N := N_state_beyond) D sc_state_beyond rfl (by decide) fun f cdv A outer s H E hA hr =>
    have hu := hu64 hr
    (s_cons (s_unp (d_var 2) (g_tup rfl (pgs_cons (h_name 3 sc_state_beyond.nd) (pgs_cons (h_name 4 sc_state_beyond.nd) pgs_nil)) rfl))
    (s_cons (s_for PassesOwn.never rfl (i_enum (by rfl) B.enumerate (a_cons (d_var 4) a_nil)) (g_tup rfl (pgs_cons (h_name 5 sc_state_beyond.nd) (pgs_cons (h_name 6 sc_state_beyond.nd) pgs_nil)) rfl) (s_one (s_for PassesOwn.never rfl (i_seq (e_P O_cuts_of hA (hr.mono (by decide)) (a_cons (d_var 6) a_nil))) (g_name 7 sc_state_beyond.nd) (s_cons (s_unp (e_P O_least_within hA (hr.mono (by decide)) (a_cons (d_var 0) (a_cons (d_var 1) (a_cons (d_slice (d_var 3) o_none (o_some (d_var 7))) (a_cons (d_var 5) a_nil))))) (g_tup rfl (pgs_cons (h_name 8 sc_state_beyond.nd) (pgs_cons (h_name 9 sc_state_beyond.nd) pgs_nil)) rfl))
    (s_one (s_if (t_cmp op_lt loc_i2b (d_var 8) (d_ix ix_both loc_ix (d_var 6) (d_var 7) (fun _ _ => rfl)) (nomark _)) (s_one (s_ret (d_var 9))) s_nil))))))
    (s_one (s_ret d_non))))
abbrev s_lies_in : Stmt := topS 13
abbrev N_lies_in : List Str := ["house", "one", "other"]
abbrev P_lies_in : List Str := ["house", "one", "other"]
theorem sc_lies_in : FnScope N_lies_in P_lies_in (defScope s_lies_in) := ⟨rfl, rfl, rfl, by decide +kernel, rfl, by decide +kernel, by decide +kernel⟩
theorem ok_lies_in {P : Program} {w : World} {K : Fg} {mg : Str → Option Value} {base : Heap} (B : Blt mg) (D : Def K mg "lies_in" s_lies_in P_lies_in) (O_known_sizes : Ok P w K mg base 1 "known_sizes" P_known_sizes (spP K 1 F_known_sizes)) (O_state_beyond : Ok P w K mg base 5 "state_beyond" P_state_beyond (spP K 3 F_state_beyond)) :
    Ok P w K mg base 6 "lies_in" P_lies_in (spP K 3 F_lies_in) :=
  Ok.pure (N := N_lies_in) D sc_lies_in rfl (by decide) fun f cdv A outer s H E hA hr =>
    have hu := hu64 hr
    (s_one (s_ret (d_and (d_cmp (op_eqQ hu) loc_eqQ (e_P O_known_sizes hA (hr.mono (by decide)) (a_cons (d_var 1) a_nil)) (e_P O_known_sizes hA (hr.mono (by decide)) (a_cons (d_var 2) a_nil)) (nomark _)) (d_one (d_cmp op_isN loc_isN (e_P O_state_beyond hA (hr.mono (by decide)) (a_cons (d_var 0) (a_cons (d_var 1) (a_cons (d_var 2) a_nil)))) d_non (nomark _))))))
abbrev s_joint : Stmt := topS 15
abbrev N_joint : List Str := ["house", "one", "other", "word", "more"]
abbrev P_joint : List Str := ["house", "one", "other"]
theorem sc_joint : FnScope N_joint P_joint (defScope s_joint) := ⟨rfl, rfl, rfl, by decide +kernel, rfl, by decide +kernel, by decide +kernel⟩
theorem ok_joint {P : Program} {w : World} {K : Fg} {mg : Str → Option Value} {base : Heap} (B : Blt mg) (D : Def K mg "joint" s_joint P_joint) (O_greater_ones : Ok P w K mg base 1 "greater_ones" P_greater_ones (spP K 2 F_greater_ones)) :
    Ok P w K mg base 2 "joint" P_joint (spP K 3 F_joint) :=
  Ok.pure (N := N_joint) D sc_joint rfl (by decide) fun f cdv A outer s H E hA hr =>
    have hu := hu64 hr
    (s_one (s_ret (d_tup (a_cons (d_ix ix_both loc_ix (d_var 1) d_int (fun _ _ => rfl)) (a_cons (d_callTy c_tuple (loc_one loc_tuple) (by rfl) B.tuple boot_tuple (a_cons (d_lc (own := [(("word" : Str), 3), (("more" : Str), 4)]) rfl sc_joint.nd (i_zip (by rfl) B.zip (a_cons (d_ix ix_both loc_ix (d_var 1) d_int (fun _ _ => rfl)) (a_cons (d_ix ix_both loc_ix (d_var 2) d_int (fun _ _ => rfl)) a_nil))) (blkOk_by (N := N_joint) (sc := defScope s_joint) (by decide +kernel)) (by decide) (fun _ _ _ _ _ => (g_tup rfl (pgs_cons (h_name 3 sc_joint.nd) (pgs_cons (h_name 4 sc_joint.nd) pgs_nil)) rfl)) (fun _ _ _ _ _ => i_yes) (fun _ _ _ _ _ => (d_callTy c_tuple (loc_one loc_tuple) (by rfl) B.tuple boot_tuple (a_cons (e_P O_greater_ones hA (hr.mono (by decide)) (a_cons (d_var 3) (a_cons (d_var 4) a_nil))) a_nil)))) a_nil)) a_nil)))))
abbrev s__law_take : Stmt := topS 18
abbrev N__law_take : List Str := ["_law_bag_here", "_law_many", "_law_cell", "_law_stirred", "_law_value", "_law_begin", "_law_second"]
abbrev P__law_take : List Str := ["_law_bag_here", "_law_many"]
theorem sc__law_take : FnScope N__law_take P__law_take (defScope s__law_take) := ⟨rfl, rfl, rfl, by decide +kernel, rfl, by decide +kernel, by decide +kernel⟩
theorem ok__law_take {P : Program} {w : World} {K : Fg} {mg : Str → Option Value} {base : Heap} (B : Blt mg) (D : Def K mg "_law_take" s__law_take P__law_take)  :
    Ok P w K mg base 1 "_law_take" P__law_take (spM K 1 F__law_take) :=
  Ok.mut (N := N__law_take) D sc__law_take rfl (by decide) fun f cdv A outer s H E hA hr =>
    have hu := hu64 hr
    (s_cons (s_if (t_cmp (op_eqQ hu) loc_eqQ (d_ix ix_both loc_ix (d_var 0) d_int (fun _ _ => rfl)) d_int (nomark _)) (s_cons (s_set 2 (d_ix ix_both loc_ix (d_bin op_addAll loc_add (d_slice (d_ix ix_both loc_ix (d_var 0) d_int (fun _ _ => rfl)) (o_some (d_ix ix_both loc_ix (d_var 0) d_int (fun _ _ => rfl))) o_none) (d_lst (a_cons d_int a_nil))) d_int (fun _ _ => rfl)) sc__law_take.nd)
    (s_cons (s_augIx 0 ip_add d_int d_int)
    (s_cons (s_if (t_cmp op_ge loc_i2b (d_var 2) (d_bin op_pow loc_pow d_int d_int) (nomark _)) (s_one (s_setIx 0 (d_var 2) d_int)) s_nil)
    (s_cons (s_set 3 (d_bin op_addAll loc_add (d_bin op_addAll loc_add (d_bin op_mulAll loc_mul (d_ix ix_both loc_ix (d_var 0) d_int (fun _ _ => rfl)) d_int) (d_bin op_mod loc_mod (d_callTy c_intT (loc_one loc_intT) (by rfl) B.int boot_int (a_cons (d_var 2) a_nil)) d_int)) (d_bin op_mulAll loc_mul d_int (d_ix ix_both loc_ix (d_var 0) d_int (fun _ _ => rfl)))) sc__law_take.nd)
    (s_one (s_setIx 0 (d_bin op_mod loc_mod (d_callTy c_intT (loc_one loc_intT) (by rfl) B.int boot_int (a_cons (d_var 3) a_nil)) d_int) d_int)))))) s_nil)
    (s_cons (s_if (t_cmp op_gt loc_i2b (d_ix ix_both loc_ix (d_var 0) d_int (fun _ _ => rfl)) d_int (nomark _)) (s_cons (s_set 4 (d_bin op_mod loc_mod (d_callTy c_intT (loc_one loc_intT) (by rfl) B.int boot_int (a_cons (d_ix ix_both loc_ix (d_var 0) d_int (fun _ _ => rfl)) a_nil)) (d_var 1)) sc__law_take.nd)
    (s_cons (s_setIx 0 (d_bin op_fdivW loc_fdiv (d_callTy c_intT (loc_one loc_intT) (by rfl) B.int boot_int (a_cons (d_ix ix_both loc_ix (d_var 0) d_int (fun _ _ => rfl)) a_nil)) (d_var 1)) d_int)
    (s_one (s_ret (d_var 4))))) s_nil)
    (s_cons (s_set 5 (d_bin op_mod loc_mod (d_callTy c_intT (loc_one loc_intT) (by rfl) B.int boot_int (a_cons (d_bin op_mulAll loc_mul (d_bin op_addAll loc_add (d_ix ix_both loc_ix (d_var 0) d_int (fun _ _ => rfl)) d_int) d_int) a_nil)) d_int) sc__law_take.nd)
    (s_cons (s_set 6 (d_bin op_mod loc_mod (d_callTy c_intT (loc_one loc_intT) (by rfl) B.int boot_int (a_cons (d_bin op_mulAll loc_mul (d_bin op_mod loc_mod (d_callTy c_intT (loc_one loc_intT) (by rfl) B.int boot_int (a_cons (d_bin op_mulAll loc_mul (d_var 5) (d_var 5)) a_nil)) d_int) d_int) a_nil)) d_int) sc__law_take.nd)
    (s_one (s_ret (d_bin op_mod loc_mod (d_callTy c_intT (loc_one loc_intT) (by rfl) B.int boot_int (a_cons (d_bin op_fdivW loc_fdiv (d_var 6) d_int) a_nil)) (d_var 1))))))))
abbrev s__law_one : Stmt := topS 19
abbrev N__law_one : List Str := ["_law_bag_here", "_law_things"]
abbrev P__law_one : List Str := ["_law_bag_here", "_law_things"]
theorem sc__law_one : FnScope N__law_one P__law_one (defScope s__law_one) := ⟨rfl, rfl, rfl, by decide +kernel, rfl, by decide +kernel, by decide +kernel⟩
theorem ok__law_one {P : Program} {w : World} {K : Fg} {mg : Str → Option Value} {base : Heap} (B : Blt mg) (D : Def K mg "_law_one" s__law_one P__law_one) (O__law_take : Ok P w K mg base 1 "_law_take" P__law_take (spM K 1 F__law_take)) :
    Ok P w K mg base 2 "_law_one" P__law_one (spM K 1 F__law_one) :=
  Ok.mut (N := N__law_one) D sc__law_one rfl (by decide) fun f cdv A outer s H E hA hr =>
    have hu := hu64 hr
    (s_one (s_ret (d_ix ix_both loc_ix (d_var 1) (e_M 0 O__law_take hA (hr.mono (by decide)) (a_cons (d_callB c_len (loc_one loc_len) (by rfl) B.len PySem.boot_len (a_cons (d_var 1) a_nil)) a_nil)) (fun _ _ => rfl))))
theorem ok_item__law_one {P : Program} {w : World} {K : Fg} {mg : Str → Option Value} {base : Heap} (B : Blt mg) (D : Def K mg "_law_one" s__law_one P__law_one) (O__law_take : Ok P w K mg base 1 "_law_take" P__law_take (spM K 1 F__law_take)) :
    Ok P w K mg base 2 "_law_one" P__law_one (spItem K F__law_take) :=
  Ok.item (N := N__law_one) D sc__law_one rfl (by decide) fun f cdv A outer s H E hA hr =>
    (pss_one (ps_ret (pe_ix ix_list (p_var 1) (p_mut O__law_take hA (hr.mono (by decide)) (p_var 0) (p_bl c_len (by rfl) B.len PySem.boot_len (p_var 1))) (fun _ _ => rfl))))
abbrev s__law_mixed : Stmt := topS 20
abbrev N__law_mixed : List Str := ["_law_bag_here", "_law_things", "_law_found", "_law_thing"]
abbrev P__law_mixed : List Str := ["_law_bag_here", "_law_things"]
theorem sc__law_mixed : FnScope N__law_mixed P__law_mixed (defScope s__law_mixed) := ⟨rfl, rfl, rfl, by decide +kernel, rfl, by decide +kernel, by decide +kernel⟩
theorem ok__law_mixed {P : Program} {w : World} {K : Fg} {mg : Str → Option Value} {base : Heap} (B : Blt mg) (D : Def K mg "_law_mixed" s__law_mixed P__law_mixed) (O__law_take : Ok P w K mg base 1 "_law_take" P__law_take (spM K 1 F__law_take)) :
    Ok P w K mg base 2 "_law_mixed" P__law_mixed (spM K 1 F__law_mixed) :=
  Ok.mut (N := N__law_mixed) D sc__law_mixed rfl (by decide) fun f cdv A outer s H E hA hr =>
    have hu := hu64 hr
    (s_cons (s_set 2 (d_lst a_nil) sc__law_mixed.nd)
    (s_cons (s_for PassesOwn.never rfl (i_seq (d_var 1)) (g_name 3 sc__law_mixed.nd) (s_one (s_expr (d_met (T := "list") 2 PySem.F.slot_list_insert PySem.F.type_list_insert mt_insert locM_ins (a_cons (e_M 0 O__law_take hA (hr.mono (by decide)) (a_cons (d_bin op_addAll loc_add (d_callB c_len (loc_one loc_len) (by rfl) B.len PySem.boot_len (a_cons (d_var 2) a_nil)) d_int) a_nil)) (a_cons (d_var 3) a_nil))))))
    (s_one (s_ret (d_var 2)))))
abbrev s__law_alike : Stmt := topS 21
abbrev N__law_alike : List Str := ["_law_found", "_law_due"]
abbrev P__law_alike : List Str := ["_law_found", "_law_due"]
theorem sc__law_alike : FnScope N__law_alike P__law_alike (defScope s__law_alike) := ⟨rfl, rfl, rfl, by decide +kernel, rfl, by decide +kernel, by decide +kernel⟩
theorem ok__law_alike {P : Program} {w : World} {K : Fg} {mg : Str → Option Value} {base : Heap} (B : Blt mg) (D : Def K mg "_law_alike" s__law_alike P__law_alike)  :
    Ok P w K mg base 1 "_law_alike" P__law_alike (spP K 2 F__law_alike) :=
  Ok.pure (N := N__law_alike) D sc__law_alike rfl (by decide) fun f cdv A outer s H E hA hr =>
    have hu := hu64 hr
    (s_one (s_ret (d_and (d_cmp (op_eqQ hu) loc_eqQ (d_var 0) (d_var 1) (nomark _)) (d_one (d_cmp (op_eqQ hu) loc_eqQ (d_callB (c_repr hA hu) (loc_one loc_repr) (by rfl) B.repr boot_repr (a_cons (d_var 0) a_nil)) (d_callB (c_repr hA hu) (loc_one loc_repr) (by rfl) B.repr boot_repr (a_cons (d_var 1) a_nil)) (nomark _))))))
abbrev s__law_flat : Stmt := topS 22
abbrev N__law_flat : List Str := ["_law_rows", "_law_found", "_law_row"]
abbrev P__law_flat : List Str := ["_law_rows"]
theorem sc__law_flat : FnScope N__law_flat P__law_flat (defScope s__law_flat) := ⟨rfl, rfl, rfl, by decide +kernel, rfl, by decide +kernel, by decide +kernel⟩
theorem ok__law_flat {P : Program} {w : World} {K : Fg} {mg : Str → Option Value} {base : Heap} (B : Blt mg) (D : Def K mg "_law_flat" s__law_flat P__law_flat)  :
    Ok P w K mg base 1 "_law_flat" P__law_flat (spP K 1 F__law_flat) :=
  Ok.pure (N := N__law_flat) D sc__law_flat rfl (by decide) fun f cdv A outer s H E hA hr =>
    have hu := hu64 hr
    (s_cons (s_set 1 (d_lst a_nil) sc__law_flat.nd)
    (s_cons (s_for PassesOwn.never rfl (i_seq (d_var 0)) (g_name 2 sc__law_flat.nd) (s_one (s_expr (d_met (T := "list") 1 PySem.F.slot_list_extend PySem.F.type_list_extend mt_extend locM_ext (a_cons (d_var 2) a_nil)))))
    (s_one (s_ret (d_var 1)))))
abbrev s__law_house : Stmt := topS 23
abbrev N__law_house : List Str := ["_law_bag_here", "_law_things", "_law_floors", "_law_rooms", "_law_many", "_law_found", "_law_left", "_law_floor"]
abbrev P__law_house : List Str := ["_law_bag_here", "_law_things", "_law_floors", "_law_rooms"]
theorem sc__law_house : FnScope N__law_house P__law_house (defScope s__law_house) := ⟨rfl, rfl, rfl, by decide +kernel, rfl, by decide +kernel, by decide +kernel⟩
theorem ok__law_house {P : Program} {w : World} {K : Fg} {mg : Str → Option Value} {base : Heap} (B : Blt mg) (D : Def K mg "_law_house" s__law_house P__law_house) (O__law_one : Ok P w K mg base 2 "_law_one" P__law_one (spM K 1 F__law_one)) (O__law_take : Ok P w K mg base 1 "_law_take" P__law_take (spM K 1 F__law_take)) :
    Ok P w K mg base 3 "_law_house" P__law_house (spM K 3 F__law_house) :=
  Ok.mut (N := N__law_house) D sc__law_house rfl (by decide) fun f cdv A outer s H E hA hr =>
    have hu := hu64 hr
    (s_cons (s_set 4 (e_M 0 O__law_one hA (hr.mono (by decide)) (a_cons (d_lst (a_cons (d_var 1) (a_cons (d_var 1) (a_cons d_int (a_cons d_int (a_cons d_int (a_cons d_int (a_cons (e_M 0 O__law_take hA (hr.mono (by decide)) (a_cons (d_bin op_addAll loc_add (d_var 1) d_int) a_nil)) a_nil)))))))) a_nil)) sc__law_house.nd)
    (s_cons (s_par2 rfl (by decide) sc__law_house.nd (a_cons (d_lst a_nil) (a_cons (d_var 3) a_nil)))
    (s_cons (s_for PassesOwn.never rfl (i_rng1 (by rfl) B.range (a_cons (e_M 0 O__law_one hA (hr.mono (by decide)) (a_cons (d_lst (a_cons (d_var 2) (a_cons d_int (a_cons (d_var 2) (a_cons d_int (a_cons (d_bin op_addAll loc_add d_int (e_M 0 O__law_take hA (hr.mono (by decide)) (a_cons (d_var 2) a_nil))) a_nil)))))) a_nil)) a_nil)) (g_name 7 sc__law_house.nd) (s_one (s_if ((t_and (t_cmp op_gt loc_i2b (d_var 6) d_int (nomark _)) (t_and1 (t_cmp op_lt loc_i2b (d_var 7) (d_var 2) (nomark _))))).pt (s_cons (s_expr (d_met (T := "list") 5 PySem.F.slot_list_append PySem.F.type_list_append mt_append locM_app (a_cons (d_callB (c_min2 rfl) loc_min2 (by rfl) B.min boot_min (a_cons (d_var 6) (a_cons (e_M 0 O__law_one hA (hr.mono (by decide)) (a_cons (d_lst (a_cons d_int (a_cons d_int (a_cons d_int (a_cons d_int (a_cons d_int (a_cons d_int (a_cons (d_bin op_addAll loc_add d_int (e_M 0 O__law_take hA (hr.mono (by decide)) (a_cons (d_var 3) a_nil))) a_nil)))))))) a_nil)) a_nil))) a_nil)))
    (s_one (s_aug 6 ip_sub (d_ix ix_both loc_ix (d_var 5) (d_un un_neg loc_neg d_int) (fun _ _ => rfl)) sc__law_house.nd))) s_nil)))
    (s_one (s_ret (d_tup (a_cons (d_callB (c_min2 rfl) loc_min2 (by rfl) B.min boot_min (a_cons (d_var 4) (a_cons (d_var 1) a_nil))) (a_cons (d_callTy c_tuple (loc_one loc_tuple) (by rfl) B.tuple boot_tuple (a_cons (d_var 5) a_nil)) a_nil))))))))
abbrev s__law_rooms_within : Stmt := topS 24
abbrev N__law_rooms_within : List Str := ["_law_house_here", "_law_floor"]
abbrev P__law_rooms_within : List Str := ["_law_house_here"]
theorem sc__law_rooms_within : FnScope N__law_rooms_within P__law_rooms_within (defScope s__law_rooms_within) := ⟨rfl, rfl, rfl, by decide +kernel, rfl, by decide +kernel, by decide +kernel⟩
theorem ok__law_rooms_within {P : Program} {w : World} {K : Fg} {mg : Str → Option Value} {base : Heap} (B : Blt mg) (D : Def K mg "_law_rooms_within" s__law_rooms_within P__law_rooms_within)  :
    Ok P w K mg base 1 "_law_rooms_within" P__law_rooms_within (spP K 1 F__law_rooms_within) :=
  Ok.pure (N := N__law_rooms_within) D sc__law_rooms_within rfl (by decide) fun f cdv A outer s H E hA hr =>
    have hu := hu64 hr
    (s_one (s_ret (d_lc (own := [(("_law_floor" : Str), 1)]) rfl sc__law_rooms_within.nd (i_rng1 (by rfl) B.range (a_cons (d_callB c_len (loc_one loc_len) (by rfl) B.len PySem.boot_len (a_cons (d_ix ix_both loc_ix (d_var 0) d_int (fun _ _ => rfl)) a_nil)) a_nil)) (blkOk_by (N := N__law_rooms_within) (sc := defScope s__law_rooms_within) (by decide +kernel)) (by decide) (fun _ _ _ _ _ => (g_name 1 sc__law_rooms_within.nd)) (fun _ _ _ _ _ => i_yes) (fun _ _ _ _ _ => (d_callB (c_sum rfl) (loc_one loc_sum) (by rfl) B.sum boot_sum (a_cons (d_slice (d_ix ix_both loc_ix (d_var 0) d_int (fun _ _ => rfl)) o_none (o_some (d_bin op_addAll loc_add (d_var 1) d_int))) a_nil))))))
abbrev s__law_within : Stmt := topS 25
abbrev N__law_within : List Str := ["_law_house_here", "_law_state_here", "_law_floor", "_law_thing"]
abbrev P__law_within : List Str := ["_law_house_here", "_law_state_here", "_law_floor"]
theorem sc__law_within : FnScope N__law_within P__law_within (defScope s__law_within) := ⟨rfl, rfl, rfl, by decide +kernel, rfl, by decide +kernel, by decide +kernel⟩
theorem ok__law_within {P : Program} {w : World} {K : Fg} {mg : Str → Option Value} {base : Heap} (B : Blt mg) (D : Def K mg "_law_within" s__law_within P__law_within)  :
    Ok P w K mg base 1 "_law_within" P__law_within (spP K 3 F__law_within) :=
  Ok.pure (N := N__law_within) D sc__law_within rfl (by decide) fun f cdv A outer s H E hA hr =>
    have hu := hu64 hr
    (s_one (s_ret (d_lc (own := [(("_law_thing" : Str), 3)]) rfl sc__law_within.nd (i_rng1 (by rfl) B.range (a_cons (d_ix ix_both loc_ix (d_var 0) d_int (fun _ _ => rfl)) a_nil)) (blkOk_by (N := N__law_within) (sc := defScope s__law_within) (by decide +kernel)) (by decide) (fun _ _ _ _ _ => (g_name 3 sc__law_within.nd)) (fun _ _ _ _ _ => (i_one (t_cmp op_le loc_i2b (d_ix ix_both loc_ix (d_var 1) (d_var 3) (fun _ _ => rfl)) (d_var 2) (nomark _)))) (fun _ _ _ _ _ => (d_var 3)))))
abbrev s__law_sizes : Stmt := topS 26
abbrev N__law_sizes : List Str := ["_law_house_here", "_law_state_here", "_law_floor"]
abbrev P__law_sizes : List Str := ["_law_house_here", "_law_state_here"]
theorem sc__law_sizes : FnScope N__law_sizes P__law_sizes (defScope s__law_sizes) := ⟨rfl, rfl, rfl, by decide +kernel, rfl, by decide +kernel, by decide +kernel⟩
theorem ok__law_sizes {P : Program} {w : World} {K : Fg} {mg : Str → Option Value} {base : Heap} (B : Blt mg) (D : Def K mg "_law_sizes" s__law_sizes P__law_sizes) (O__law_within : Ok P w K mg base 1 "_law_within" P__law_within (spP K 3 F__law_within)) :
    Ok P w K mg base 2 "_law_sizes" P__law_sizes (spP K 2 F__law_sizes) :=
  Ok.pure (N := N__law_sizes) D sc__law_sizes rfl (by decide) fun f cdv A outer s H E hA hr =>
    have hu := hu64 hr
    (s_one (s_ret (d_callTy c_tuple (loc_one loc_tuple) (by rfl) B.tuple boot_tuple (a_cons (d_lc (own := [(("_law_floor" : Str), 2)]) rfl sc__law_sizes.nd (i_rng1 (by rfl) B.range (a_cons (d_callB c_len (loc_one loc_len) (by rfl) B.len PySem.boot_len (a_cons (d_ix ix_both loc_ix (d_var 0) d_int (fun _ _ => rfl)) a_nil)) a_nil)) (blkOk_by (N := N__law_sizes) (sc := defScope s__law_sizes) (by decide +kernel)) (by decide) (fun _ _ _ _ _ => (g_name 2 sc__law_sizes.nd)) (fun _ _ _ _ _ => i_yes) (fun _ _ _ _ _ => (d_callB c_len (loc_one loc_len) (by rfl) B.len PySem.boot_len (a_cons (e_P O__law_within hA (hr.mono (by decide)) (a_cons (d_var 0) (a_cons (d_var 1) (a_cons (d_var 2) a_nil)))) a_nil)))) a_nil))))
abbrev s__law_state : Stmt := topS 27
abbrev N__law_state : List Str := ["_law_bag_here", "_law_house_here", "_law_many", "_law_rooms", "_law_left", "_law_way", "_law_state_here", "_law_thing", "_law_open_floors", "_law_floor", "_law_free"]
abbrev P__law_state : List Str := ["_law_bag_here", "_law_house_here"]
theorem sc__law_state : FnScope N__law_state P__law_state (defScope s__law_state) := ⟨rfl, rfl, rfl, by decide +kernel, rfl, by decide +kernel, by decide +kernel⟩
theorem ok__law_state {P : Program} {w : World} {K : Fg} {mg : Str → Option Value} {base : Heap} (B : Blt mg) (D : Def K mg "_law_state" s__law_state P__law_state) (O__law_mixed : Ok P w K mg base 2 "_law_mixed" P__law_mixed (spM K 1 F__law_mixed)) (O__law_one : Ok P w K mg base 2 "_law_one" P__law_one (spM K 1 F__law_one)) (O__law_take : Ok P w K mg base 1 "_law_take" P__law_take (spM K 1 F__law_take)) :
    Ok P w K mg base 3 "_law_state" P__law_state (spM K 1 F__law_state) :=
  Ok.mut (N := N__law_state) D sc__law_state rfl (by decide) fun f cdv A outer s H E hA hr =>
    have hu := hu64 hr
    (s_cons (s_unp (d_var 1) (g_tup rfl (pgs_cons (h_name 2 sc__law_state.nd) (pgs_cons (h_name 3 sc__law_state.nd) pgs_nil)) rfl))
    (s_cons (s_par3 rfl (by decide) (by decide) (by decide) sc__law_state.nd (a_cons (d_callTy c_list (loc_one loc_list) (by rfl) B.list boot_list (a_cons (d_var 3) a_nil)) (a_cons (e_M 0 O__law_take hA (hr.mono (by decide)) (a_cons d_int a_nil)) (a_cons (d_bin op_mulAll loc_mul (d_lst (a_cons (d_callB c_len (loc_one loc_len) (by rfl) B.len PySem.boot_len (a_cons (d_var 3) a_nil)) a_nil)) (d_var 2)) a_nil))))
    (s_cons (s_for PassesOwn.never rfl (i_seq (e_M 0 O__law_mixed hA (hr.mono (by decide)) (a_cons (d_lstR1 (by rfl) B.list (by rfl) B.range rfl (d_var 2)) a_nil))) (g_name 7 sc__law_state.nd) (s_cons (s_setLcB 8 (own := [(("_law_floor" : Str), 9), (("_law_free" : Str), 10)]) rfl sc__law_state.nd (sw_true rfl rfl rfl (by decide +kernel)) (i_lent 4 (by rfl) B.enumerate) (blkOk_by (N := N__law_state) (sc := defScope s__law_state) (by decide +kernel)) (by decide) (fun _ _ _ _ _ => (g_tup rfl (pgs_cons (h_name 9 sc__law_state.nd) (pgs_cons (h_name 10 sc__law_state.nd) pgs_nil)) rfl)) (fun _ _ _ _ _ => (i_one (t_cmp op_gt loc_i2b (d_var 10) d_int (nomark _)))) (fun _ _ _ _ _ => (d_var 9)))
    (s_cons (s_if ((t_and (t_cmp (op_eqQ hu) loc_eqQ (d_var 5) d_int (nomark _)) (t_and1 (t_cmp (op_neQ hu) loc_neQ (d_var 8) (d_lst a_nil) (nomark _))))).pt (s_one (s_setIx 6 (d_ix ix_both loc_ix (d_var 8) d_int (fun _ _ => rfl)) (d_var 7))) (s_one (s_if ((t_and (t_cmp op_gt loc_i2b (d_var 5) d_int (nomark _)) (t_and1 (t_cmp (op_neQ hu) loc_neQ (d_var 8) (d_lst a_nil) (nomark _))))).pt (s_one (s_setIx 6 (e_M 0 O__law_one hA (hr.mono (by decide)) (a_cons (d_bin op_addAll loc_add (d_var 8) (d_bin op_mulAll loc_mul (d_lst (a_cons (d_callB c_len (loc_one loc_len) (by rfl) B.len PySem.boot_len (a_cons (d_var 3) a_nil)) a_nil)) (d_bin op_sub loc_i2i (d_var 5) d_int))) a_nil)) (d_var 7))) s_nil)))
    (s_one (s_if (t_cmp op_lt loc_i2b (d_ix ix_both loc_ix (d_var 6) (d_var 7) (fun _ _ => rfl)) (d_callB c_len (loc_one loc_len) (by rfl) B.len PySem.boot_len (a_cons (d_var 3) a_nil)) (nomark _)) (s_one (s_augIx 4 ip_sub (d_ix ix_both loc_ix (d_var 6) (d_var 7) (fun _ _ => rfl)) d_int)) s_nil)))))
    (s_one (s_ret (d_callTy c_tuple (loc_one loc_tuple) (by rfl) B.tuple boot_tuple (a_cons (d_var 6) a_nil)))))))
abbrev s__law_full_state : Stmt := topS 28
abbrev N__law_full_state : List Str := ["_law_bag_here", "_law_house_here", "_law_places", "_law_floor", "_law_rooms"]
abbrev P__law_full_state : List Str := ["_law_bag_here", "_law_house_here"]
theorem sc__law_full_state : FnScope N__law_full_state P__law_full_state (defScope s__law_full_state) := ⟨rfl, rfl, rfl, by decide +kernel, rfl, by decide +kernel, by decide +kernel⟩
theorem ok__law_full_state {P : Program} {w : World} {K : Fg} {mg : Str → Option Value} {base : Heap} (B : Blt mg) (D : Def K mg "_law_full_state" s__law_full_state P__law_full_state) (O__law_mixed : Ok P w K mg base 2 "_law_mixed" P__law_mixed (spM K 1 F__law_mixed)) (O__law_flat : Ok P w K mg base 1 "_law_flat" P__law_flat (spP K 1 F__law_flat)) :
    Ok P w K mg base 3 "_law_full_state" P__law_full_state (spM K 1 F__law_full_state) :=
  Ok.mut (N := N__law_full_state) D sc__law_full_state rfl (by decide) fun f cdv A outer s H E hA hr =>
    have hu := hu64 hr
    (s_cons (s_set 2 (e_P O__law_flat hA (hr.mono (by decide)) (a_cons (d_lc (own := [(("_law_floor" : Str), 3), (("_law_rooms" : Str), 4)]) rfl sc__law_full_state.nd (i_enum (by rfl) B.enumerate (a_cons (d_ix ix_both loc_ix (d_var 1) d_int (fun _ _ => rfl)) a_nil)) (blkOk_by (N := N__law_full_state) (sc := defScope s__law_full_state) (by decide +kernel)) (by decide) (fun _ _ _ _ _ => (g_tup rfl (pgs_cons (h_name 3 sc__law_full_state.nd) (pgs_cons (h_name 4 sc__law_full_state.nd) pgs_nil)) rfl)) (fun _ _ _ _ _ => i_yes) (fun _ _ _ _ _ => (d_bin op_mulAll loc_mul (d_lst (a_cons (d_var 3) a_nil)) (d_var 4)))) a_nil)) sc__law_full_state.nd)
    (s_one (s_ret (d_callTy c_tuple (loc_one loc_tuple) (by rfl) B.tuple boot_tuple (a_cons (e_M 0 O__law_mixed hA (hr.mono (by decide)) (a_cons (d_bin op_addAll loc_add (d_var 2) (d_bin op_mulAll loc_mul (d_lst (a_cons (d_callB c_len (loc_one loc_len) (by rfl) B.len PySem.boot_len (a_cons (d_ix ix_both loc_ix (d_var 1) d_int (fun _ _ => rfl)) a_nil)) a_nil)) (d_bin op_sub loc_i2i (d_ix ix_both loc_ix (d_var 1) d_int (fun _ _ => rfl)) (d_callB c_len (loc_one loc_len) (by rfl) B.len PySem.boot_len (a_cons (d_var 2) a_nil))))) a_nil)) a_nil)))))
abbrev s__law_start : Stmt := topS 29
abbrev N__law_start : List Str := ["_law_bag_here", "_law_house_here", "_law_menu"]
abbrev P__law_start : List Str := ["_law_bag_here", "_law_house_here"]
theorem sc__law_start : FnScope N__law_start P__law_start (defScope s__law_start) := ⟨rfl, rfl, rfl, by decide +kernel, rfl, by decide +kernel, by decide +kernel⟩
theorem ok__law_start {P : Program} {w : World} {K : Fg} {mg : Str → Option Value} {base : Heap} (B : Blt mg) (D : Def K mg "_law_start" s__law_start P__law_start) (O__law_one : Ok P w K mg base 2 "_law_one" P__law_one (spM K 1 F__law_one)) (O__law_state : Ok P w K mg base 3 "_law_state" P__law_state (spM K 1 F__law_state)) :
    Ok P w K mg base 4 "_law_start" P__law_start (spM K 1 F__law_start) :=
  Ok.mut (N := N__law_start) D sc__law_start rfl (by decide) fun f cdv A outer s H E hA hr =>
    have hu := hu64 hr
    (s_cons (s_set 2 (d_lst (a_cons (d_bin op_mulAll loc_mul (d_tup (a_cons (d_callB c_len (loc_one loc_len) (by rfl) B.len PySem.boot_len (a_cons (d_ix ix_both loc_ix (d_var 1) d_int (fun _ _ => rfl)) a_nil)) a_nil)) (d_ix ix_both loc_ix (d_var 1) d_int (fun _ _ => rfl))) (a_cons (e_M 0 O__law_state hA (hr.mono (by decide)) (a_cons (d_var 1) a_nil)) (a_cons (e_M 0 O__law_state hA (hr.mono (by decide)) (a_cons (d_var 1) a_nil)) a_nil)))) sc__law_start.nd)
    (s_one (s_ret (e_M 0 O__law_one hA (hr.mono (by decide)) (a_cons (d_bin op_addAll loc_add (d_var 2) (d_bin op_mulAll loc_mul (d_lst (a_cons d_non a_nil)) (d_callTy c_intT (loc_one loc_intT) (by rfl) B.int boot_int (a_cons (d_cmp op_ge loc_i2b (d_ix ix_both loc_ix (d_var 1) d_int (fun _ _ => rfl)) (d_callB (c_sum rfl) (loc_one loc_sum) (by rfl) B.sum boot_sum (a_cons (d_ix ix_both loc_ix (d_var 1) d_int (fun _ _ => rfl)) a_nil)) (nomark _)) a_nil)))) a_nil)))))
abbrev s__law_done : Stmt := topS 30
abbrev N__law_done : List Str := ["_law_house_here", "_law_state_here", "_law_move", "_law_word", "_law_thing", "_law_downs", "_law_floors", "_law_now", "_law_at", "_law_down", "_law_last"]
abbrev P__law_done : List Str := ["_law_house_here", "_law_state_here", "_law_move"]
theorem sc__law_done : FnScope N__law_done P__law_done (defScope s__law_done) := ⟨rfl, rfl, rfl, by decide +kernel, rfl, by decide +kernel, by decide +kernel⟩
theorem ok__law_done {P : Program} {w : World} {K : Fg} {mg : Str → Option Value} {base : Heap} (B : Blt mg) (D : Def K mg "_law_done" s__law_done P__law_done)  :
    Ok P w K mg base 1 "_law_done" P__law_done (spP K 3 F__law_done) :=
  Ok.pure (N := N__law_done) D sc__law_done rfl (by decide) fun f cdv A outer s H E hA hr =>
    have hu := hu64 hr
    (s_cons (s_unp (d_var 2) (g_tup rfl (pgs_cons (h_name 3 sc__law_done.nd) (pgs_cons (h_name 4 sc__law_done.nd) (pgs_cons (h_name 5 sc__law_done.nd) pgs_nil))) rfl))
    (s_cons (s_par2 rfl (by decide) sc__law_done.nd (a_cons (d_callB c_len (loc_one loc_len) (by rfl) B.len PySem.boot_len (a_cons (d_ix ix_both loc_ix (d_var 0) d_int (fun _ _ => rfl)) a_nil)) (a_cons (d_callTy c_list (loc_one loc_list) (by rfl) B.list boot_list (a_cons (d_var 1) a_nil)) a_nil)))
    (s_cons (s_if (t_cmp (op_eqQ hu) loc_eqQ (d_var 3) d_str (nomark _)) (s_cons (s_setIx 7 (d_var 6) (d_var 4))
    (s_one (s_ret (d_ite (t_cmp (op_eqQ hu) loc_eqQ (d_var 5) (d_tup a_nil) (nomark _)) (d_callTy c_tuple (loc_one loc_tuple) (by rfl) B.tuple boot_tuple (a_cons (d_var 7) a_nil)) d_non)))) s_nil)
    (s_cons (s_setIx 7 d_int (d_var 4))
    (s_cons (s_for PassesOwn.never rfl (i_enum (by rfl) B.enumerate (a_cons (d_var 5) a_nil)) (g_tup rfl (pgs_cons (h_name 8 sc__law_done.nd) (pgs_cons (h_name 9 sc__law_done.nd) pgs_nil)) rfl) (s_cons (s_if ((t_or (t_cmp op_ge loc_i2b (d_var 8) (d_var 6) (nomark _)) (t_or (t_cmp op_le loc_i2b (d_cnt (d_var 7) (d_var 8)) (d_ix ix_both loc_ix (d_ix ix_both loc_ix (d_var 0) d_int (fun _ _ => rfl)) (d_var 8) (fun _ _ => rfl)) (nomark _)) (t_or (t_cmp (op_neQ hu) loc_neQ (d_ix ix_both loc_ix (d_var 7) (d_var 9) (fun _ _ => rfl)) (d_var 8) (nomark _)) (t_or1 ((t_and (t_cmp (op_eqQ hu) loc_eqQ (d_var 8) d_int (nomark _)) (t_and1 (t_cmp (op_eqQ hu) loc_eqQ (d_var 9) (d_var 4) (nomark _))))).pt))))).pt (s_one (s_ret d_non)) s_nil)
    (s_one (s_setIx 7 (d_bin op_addAll loc_add (d_var 8) d_int) (d_var 9)))))
    (s_cons (s_set 10 (d_callB c_len (loc_one loc_len) (by rfl) B.len PySem.boot_len (a_cons (d_var 5) a_nil)) sc__law_done.nd)
    (s_one (s_ret (d_ite ((t_or (t_cmp op_ge loc_i2b (d_var 10) (d_var 6) (nomark _)) (t_or1 (t_cmp op_le loc_i2b (d_cnt (d_var 7) (d_var 10)) (d_ix ix_both loc_ix (d_ix ix_both loc_ix (d_var 0) d_int (fun _ _ => rfl)) (d_var 10) (fun _ _ => rfl)) (nomark _))))).pt (d_callTy c_tuple (loc_one loc_tuple) (by rfl) B.tuple boot_tuple (a_cons (d_var 7) a_nil)) d_non)))))))))
abbrev s__law_drawn_move : Stmt := topS 31
abbrev N__law_drawn_move : List Str := ["_law_bag_here", "_law_house_here", "_law_state_here", "_law_thing", "_law_way", "_law_downs", "_law_now", "_law_at", "_law_there", "_law_down", "_law_one_here"]
abbrev P__law_drawn_move : List Str := ["_law_bag_here", "_law_house_here", "_law_state_here", "_law_thing", "_law_way"]
theorem sc__law_drawn_move : FnScope N__law_drawn_move P__law_drawn_move (defScope s__law_drawn_move) := ⟨rfl, rfl, rfl, by decide +kernel, rfl, by decide +kernel, by decide +kernel⟩
theorem ok__law_drawn_move {P : Program} {w : World} {K : Fg} {mg : Str → Option Value} {base : Heap} (B : Blt mg) (D : Def K mg "_law_drawn_move" s__law_drawn_move P__law_drawn_move) (O__law_one : Ok P w K mg base 2 "_law_one" P__law_one (spM K 1 F__law_one)) :
    Ok P w K mg base 3 "_law_drawn_move" P__law_drawn_move (spM K 4 F__law_drawn_move) :=
  Ok.mut (N := N__law_drawn_move) D sc__law_drawn_move rfl (by decide) fun f cdv A outer s H E hA hr =>
    have hu := hu64 hr
    (s_cons (s_par rfl (a_cons (d_tup a_nil) (a_cons (d_callTy c_list (loc_one loc_list) (by rfl) B.list boot_list (a_cons (d_var 2) a_nil)) a_nil)) (pgs_cons (h_name 5 sc__law_drawn_move.nd) (pgs_cons (h_name 6 sc__law_drawn_move.nd) pgs_nil)) rfl)
    (s_cons (s_setIx 6 d_int (d_var 3))
    (s_cons (s_while 10000 PassesOwn.never ((t_and (t_cmp op_lt loc_i2b (d_callB c_len (loc_one loc_len) (by rfl) B.len PySem.boot_len (a_cons (d_var 5) a_nil)) (d_callB c_len (loc_one loc_len) (by rfl) B.len PySem.boot_len (a_cons (d_ix ix_both loc_ix (d_var 1) d_int (fun _ _ => rfl)) a_nil)) (nomark _)) (t_and1 (t_cmp op_gt loc_i2b (d_cnt (d_var 6) (d_callB c_len (loc_one loc_len) (by rfl) B.len PySem.boot_len (a_cons (d_var 5) a_nil))) (d_ix ix_both loc_ix (d_ix ix_both loc_ix (d_var 1) d_int (fun _ _ => rfl)) (d_callB c_len (loc_one loc_len) (by rfl) B.len PySem.boot_len (a_cons (d_var 5) a_nil)) (fun _ _ => rfl)) (nomark _))))).pt (s_cons (s_set 7 (d_callB c_len (loc_one loc_len) (by rfl) B.len PySem.boot_len (a_cons (d_var 5) a_nil)) sc__law_drawn_move.nd)
    (s_cons (s_setLc 8 (own := [(("_law_one_here" : Str), 10)]) rfl sc__law_drawn_move.nd (sw_true rfl rfl rfl (by decide +kernel)) (i_rng1 (by rfl) B.range (a_cons (d_ix ix_both loc_ix (d_var 1) d_int (fun _ _ => rfl)) a_nil)) (blkOk_by (N := N__law_drawn_move) (sc := defScope s__law_drawn_move) (by decide +kernel)) (by decide) (fun _ _ _ _ _ => (g_name 10 sc__law_drawn_move.nd)) (fun _ _ _ _ _ => (i_one ((t_and (t_cmp (op_eqQ hu) loc_eqQ (d_ix ix_both loc_ix (d_var 6) (d_var 10) (fun _ _ => rfl)) (d_var 7) (nomark _)) (t_and1 ((t_or (t_cmp op_gt loc_i2b (d_var 7) d_int (nomark _)) (t_or1 (t_cmp (op_neQ hu) loc_neQ (d_var 10) (d_var 3) (nomark _))))).pt))).pt)) (fun _ _ _ _ _ => (d_var 10)))
    (s_cons (s_set 9 (d_ite (t_cmp (op_eqQ hu) loc_eqQ (d_var 4) d_int (nomark _)) (d_ix ix_both loc_ix (d_var 8) (d_un un_neg loc_neg d_int) (fun _ _ => rfl)) (d_ite ((t_and (t_cmp (op_eqQ hu) loc_eqQ (d_var 4) d_int (nomark _)) (t_and1 (t_cmp op_gt loc_i2b (d_var 7) d_int (nomark _))))).pt (d_ix ix_both loc_ix (d_var 5) (d_un un_neg loc_neg d_int) (fun _ _ => rfl)) (e_M 0 O__law_one hA (hr.mono (by decide)) (a_cons (d_var 8) a_nil)))) sc__law_drawn_move.nd)
    (s_one (s_asgNS 5 6 9 rfl (a_cons (d_bin op_addAll loc_add (d_var 5) (d_tup (a_cons (d_var 9) a_nil))) (a_cons (d_bin op_addAll loc_add (d_var 7) d_int) a_nil)) (h_name 5 sc__law_drawn_move.nd)))))))
    (s_one (s_ret (d_tup (a_cons d_str (a_cons (d_var 3) (a_cons (d_var 5) a_nil)))))))))
abbrev s__law_run : Stmt := topS 32
abbrev N__law_run : List Str := ["_law_bag_here", "_law_house_here", "_law_state_here", "_law_many", "_law_strikes", "_law_run_here", "_law_log", "_law_states", "_law_way", "_law_favoured", "_law_turn", "_law_thing", "_law_move"]
abbrev P__law_run : List Str := ["_law_bag_here", "_law_house_here", "_law_state_here", "_law_many", "_law_strikes"]
theorem sc__law_run : FnScope N__law_run P__law_run (defScope s__law_run) := ⟨rfl, rfl, rfl, by decide +kernel, rfl, by decide +kernel, by decide +kernel⟩
theorem ok__law_run {P : Program} {w : World} {K : Fg} {mg : Str → Option Value} {base : Heap} (B : Blt mg) (D : Def K mg "_law_run" s__law_run P__law_run) (O__law_done : Ok P w K mg base 1 "_law_done" P__law_done (spP K 3 F__law_done)) (O__law_take : Ok P w K mg base 1 "_law_take" P__law_take (spM K 1 F__law_take)) (O__law_drawn_move : Ok P w K mg base 3 "_law_drawn_move" P__law_drawn_move (spM K 4 F__law_drawn_move)) (O__law_one : Ok P w K mg base 2 "_law_one" P__law_one (spM K 1 F__law_one)) (O__law_mixed : Ok P w K mg base 2 "_law_mixed" P__law_mixed (spM K 1 F__law_mixed)) :
    Ok P w K mg base 4 "_law_run" P__law_run (spM K 4 F__law_run) :=
  Ok.mut (N := N__law_run) D sc__law_run rfl (by decide) fun f cdv A outer s H E hA hr =>
    have hu := hu64 hr
    (s_cons (s_par rfl (a_cons (d_lst a_nil) (a_cons (d_lst a_nil) (a_cons (d_lst (a_cons (d_var 2) a_nil)) (a_cons (e_M 0 O__law_one hA (hr.mono (by decide)) (a_cons (d_lst (a_cons d_int (a_cons d_int (a_cons d_int (a_cons d_int a_nil))))) a_nil)) a_nil)))) (pgs_cons (h_name 5 sc__law_run.nd) (pgs_cons (h_name 6 sc__law_run.nd) (pgs_cons (h_name 7 sc__law_run.nd) (pgs_cons (h_name 8 sc__law_run.nd) pgs_nil)))) rfl)
    (s_cons (s_set 9 (d_slice (e_M 0 O__law_mixed hA (hr.mono (by decide)) (a_cons (d_lstR1 (by rfl) B.list (by rfl) B.range rfl (d_ix ix_both loc_ix (d_var 1) d_int (fun _ _ => rfl))) a_nil)) o_none (o_some (d_bin op_addAll loc_add d_int (e_M 0 O__law_take hA (hr.mono (by decide)) (a_cons (d_callB (c_max2 rfl) loc_max2 (by rfl) B.max boot_max (a_cons d_int (a_cons (d_ix ix_both loc_ix (d_var 1) d_int (fun _ _ => rfl)) a_nil))) a_nil))))) sc__law_run.nd)
    (s_cons (s_for PassesOwn.never rfl (i_rng1 (by rfl) B.range (a_cons (d_ite (t_cmp op_gt loc_i2b (d_ix ix_both loc_ix (d_var 1) d_int (fun _ _ => rfl)) d_int (nomark _)) (d_var 3) d_int) a_nil)) (g_name 10 sc__law_run.nd) (s_cons (s_set 11 (d_ite (t_cmp op_gt loc_i2b (e_M 0 O__law_take hA (hr.mono (by decide)) (a_cons d_int a_nil)) d_int (nomark _)) (e_M 0 O__law_one hA (hr.mono (by decide)) (a_cons (d_var 9) a_nil)) (e_M 0 O__law_take hA (hr.mono (by decide)) (a_cons (d_ix ix_both loc_ix (d_var 1) d_int (fun _ _ => rfl)) a_nil))) sc__law_run.nd)
    (s_cons (s_set 12 (d_tup (a_cons d_str (a_cons (d_var 11) (a_cons (d_tup a_nil) a_nil)))) sc__law_run.nd)
    (s_cons (s_if ((t_or (t_cmp (op_eqQ hu) loc_eqQ (d_var 4) d_int (nomark _)) (t_or1 (t_cmp op_gt loc_i2b (e_M 0 O__law_take hA (hr.mono (by decide)) (a_cons (d_var 4) a_nil)) d_int (nomark _))))).pt (s_one (s_set 12 (e_M 0 O__law_drawn_move hA (hr.mono (by decide)) (a_cons (d_var 1) (a_cons (d_ix ix_both loc_ix (d_var 7) (d_un un_neg loc_neg d_int) (fun _ _ => rfl)) (a_cons (d_var 11) (a_cons (d_var 8) a_nil))))) sc__law_run.nd)) s_nil)
    (s_cons (s_expr (d_met (T := "list") 5 PySem.F.slot_list_append PySem.F.type_list_append mt_append locM_app (a_cons (d_var 12) a_nil)))
    (s_cons (s_expr (d_met (T := "list") 6 PySem.F.slot_list_append PySem.F.type_list_append mt_append locM_app (a_cons (d_tup (a_cons (d_ix ix_both loc_ix (d_var 12) d_int (fun _ _ => rfl)) (a_cons (d_var 11) (a_cons (d_ix ix_both loc_ix (d_ix ix_both loc_ix (d_var 7) (d_un un_neg loc_neg d_int) (fun _ _ => rfl)) (d_var 11) (fun _ _ => rfl)) a_nil)))) a_nil)))
    (s_one (s_expr (d_met (T := "list") 7 PySem.F.slot_list_append PySem.F.type_list_append mt_append locM_app (a_cons (e_P O__law_done hA (hr.mono (by decide)) (a_cons (d_var 1) (a_cons (d_ix ix_both loc_ix (d_var 7) (d_un un_neg loc_neg d_int) (fun _ _ => rfl)) (a_cons (d_var 12) a_nil)))) a_nil))))))))))
    (s_one (s_ret (d_tup (a_cons (d_callTy c_tuple (loc_one loc_tuple) (by rfl) B.tuple boot_tuple (a_cons (d_var 5) a_nil)) (a_cons (d_callTy c_tuple (loc_one loc_tuple) (by rfl) B.tuple boot_tuple (a_cons (d_var 6) a_nil)) (a_cons (d_var 7) a_nil)))))))))
abbrev s__law_story : Stmt := topS 33
abbrev N__law_story : List Str := ["_law_bag_here", "_law_house_here", "_law_start_here", "_law_many", "_law_strikes"]
abbrev P__law_story : List Str := ["_law_bag_here", "_law_house_here", "_law_start_here", "_law_many", "_law_strikes"]
theorem sc__law_story : FnScope N__law_story P__law_story (defScope s__law_story) := ⟨rfl, rfl, rfl, by decide +kernel, rfl, by decide +kernel, by decide +kernel⟩
theorem ok__law_story {P : Program} {w : World} {K : Fg} {mg : Str → Option Value} {base : Heap} (B : Blt mg) (D : Def K mg "_law_story" s__law_story P__law_story) (O__law_run : Ok P w K mg base 4 "_law_run" P__law_run (spM K 4 F__law_run)) (O__law_full_state : Ok P w K mg base 3 "_law_full_state" P__law_full_state (spM K 1 F__law_full_state)) :
    Ok P w K mg base 5 "_law_story" P__law_story (spM K 4 F__law_story) :=
  Ok.mut (N := N__law_story) D sc__law_story rfl (by decide) fun f cdv A outer s H E hA hr =>
    have hu := hu64 hr
    (s_one (s_ret (e_M 0 O__law_run hA (hr.mono (by decide)) (a_cons (d_var 1) (a_cons (d_ite (t_cmp op_isN loc_isN (d_var 2) d_non (nomark _)) (e_M 0 O__law_full_state hA (hr.mono (by decide)) (a_cons (d_var 1) a_nil)) (d_var 2)) (a_cons (d_var 3) (a_cons (d_var 4) a_nil)))))))
abbrev s__law_all_states : Stmt := topS 34
abbrev N__law_all_states : List Str := ["_law_house_here", "_law_found", "_law_out", "_law_thing", "_law_more", "_law_state_here", "_law_floor", "_law_rooms"]
abbrev P__law_all_states : List Str := ["_law_house_here"]
theorem sc__law_all_states : FnScope N__law_all_states P__law_all_states (defScope s__law_all_states) := ⟨rfl, rfl, rfl, by decide +kernel, rfl, by decide +kernel, by decide +kernel⟩
theorem ok__law_all_states {P : Program} {w : World} {K : Fg} {mg : Str → Option Value} {base : Heap} (B : Blt mg) (D : Def K mg "_law_all_states" s__law_all_states P__law_all_states)  :
    Ok P w K mg base 1 "_law_all_states" P__law_all_states (spP K 1 F__law_all_states) :=
  Ok.pure (N := N__law_all_states) D sc__law_all_states rfl (by decide) fun f cdv A outer s H E hA hr =>
    have hu := hu64 hr
    (s_cons (s_par2 rfl (by decide) sc__law_all_states.nd (a_cons (d_lst (a_cons (d_tup a_nil) a_nil)) (a_cons (d_callB c_len (loc_one loc_len) (by rfl) B.len PySem.boot_len (a_cons (d_ix ix_both loc_ix (d_var 0) d_int (fun _ _ => rfl)) a_nil)) a_nil)))
    (s_cons (s_for PassesOwn.never rfl (i_rng1 (by rfl) B.range (a_cons (d_ix ix_both loc_ix (d_var 0) d_int (fun _ _ => rfl)) a_nil)) (g_name 3 sc__law_all_states.nd) (s_cons (s_set 4 (d_lst a_nil) sc__law_all_states.nd)
    (s_cons (s_for PassesOwn.never rfl (i_seq (d_var 1)) (g_name 5 sc__law_all_states.nd) (s_cons (s_expr (d_met (T := "list") 4 PySem.F.slot_list_extend PySem.F.type_list_extend mt_extend locM_ext (a_cons (d_lc (own := [(("_law_floor" : Str), 6), (("_law_rooms" : Str), 7)]) rfl sc__law_all_states.nd (i_enum (by rfl) B.enumerate (a_cons (d_ix ix_both loc_ix (d_var 0) d_int (fun _ _ => rfl)) a_nil)) (blkOk_by (N := N__law_all_states) (sc := defScope s__law_all_states) (by decide +kernel)) (by decide) (fun _ _ _ _ _ => (g_tup rfl (pgs_cons (h_name 6 sc__law_all_states.nd) (pgs_cons (h_name 7 sc__law_all_states.nd) pgs_nil)) rfl)) (fun _ _ _ _ _ => (i_one (t_cmp op_lt loc_i2b (d_cnt (d_var 5) (d_var 6)) (d_var 7) (nomark _)))) (fun _ _ _ _ _ => (d_bin op_addAll loc_add (d_var 5) (d_tup (a_cons (d_var 6) a_nil))))) a_nil)))
    (s_one (s_expr (d_met (T := "list") 4 PySem.F.slot_list_append PySem.F.type_list_append mt_append locM_app (a_cons (d_bin op_addAll loc_add (d_var 5) (d_tup (a_cons (d_var 2) a_nil))) a_nil))))))
    (s_one (s_set 1 (d_var 4) sc__law_all_states.nd)))))
    (s_one (s_ret (d_var 1)))))
abbrev s__law_first_known : Stmt := topS 35
abbrev N__law_first_known : List Str := ["_law_house_here", "_law_start_here", "_law_many", "_law_words", "_law_rooms", "_law_order", "_law_size", "_law_count"]
abbrev P__law_first_known : List Str := ["_law_house_here", "_law_start_here"]
theorem sc__law_first_known : FnScope N__law_first_known P__law_first_known (defScope s__law_first_known) := ⟨rfl, rfl, rfl, by decide +kernel, rfl, by decide +kernel, by decide +kernel⟩
theorem ok__law_first_known {P : Program} {w : World} {K : Fg} {mg : Str → Option Value} {base : Heap} {lc lp : Addr} (TB : LamX.TabB base mg lc lp) (hP : lp ∈ K.T) (hq : nameAt lp = "_law_first_known.<locals>.<lambda>") (B : Blt mg) (D : DefC K mg "_law_first_known" s__law_first_known P__law_first_known lc) (O__law_sizes : Ok P w K mg base 2 "_law_sizes" P__law_sizes (spP K 2 F__law_sizes)) (O__law_rooms_within : Ok P w K mg base 1 "_law_rooms_within" P__law_rooms_within (spP K 1 F__law_rooms_within)) :
    Ok P w K mg base 3 "_law_first_known" P__law_first_known (spP K 2 F__law_first_known) :=
  Ok.pureC (N := N__law_first_known) D sc__law_first_known rfl (by decide) fun f A outer s H E hA hr =>
    have hu := hu64 hr
    (s_cons (s_par rfl (a_cons (d_ix ix_both loc_ix (d_var 0) d_int (fun _ _ => rfl)) (a_cons (d_lst a_nil) a_nil)) (pgs_cons (h_name 2 sc__law_first_known.nd) (pgs_cons (h_name 3 sc__law_first_known.nd) pgs_nil)) rfl)
    (s_cons (s_if (t_cmp op_isN loc_isN (d_var 1) d_non (nomark _)) (s_cons (s_for PassesOwn.never rfl (i_seq (e_P O__law_rooms_within hA (hr.mono (by decide)) (a_cons (d_var 0) a_nil))) (g_name 4 sc__law_first_known.nd) (s_one (s_expr (d_met (T := "list") 3 PySem.F.slot_list_append PySem.F.type_list_append mt_append locM_app (a_cons (d_callTy c_tuple (loc_one loc_tuple) (by rfl) B.tuple boot_tuple (a_cons (d_lc (own := [(("_law_count" : Str), 7)]) rfl sc__law_first_known.nd (i_rng1 (by rfl) B.range (a_cons (d_bin op_addAll loc_add (d_var 2) d_int) a_nil)) (blkOk_by (N := N__law_first_known) (sc := defScope s__law_first_known) (by decide +kernel)) (by decide) (fun _ _ _ _ _ => (g_name 7 sc__law_first_known.nd)) (fun _ _ _ _ _ => i_yes) (fun _ _ _ _ _ => (d_callB (c_max2 rfl) loc_max2 (by rfl) B.max boot_max (a_cons d_int (a_cons (d_bin op_sub loc_i2i (d_var 4) (d_bin op_sub loc_i2i (d_var 2) (d_var 7))) a_nil))))) a_nil)) a_nil)))))
    (s_one (s_ret (d_tup (a_cons (d_tupR1 (by rfl) B.tuple (by rfl) B.range rfl (d_var 2)) (a_cons (d_callTy c_tuple (loc_one loc_tuple) (by rfl) B.tuple boot_tuple (a_cons (d_var 3) a_nil)) a_nil)))))) s_nil)
    (s_cons (s_set 5 (d_callTy c_tuple (loc_one loc_tuple) (by rfl) B.tuple boot_tuple (a_cons (d_srtK 1 TB rfl hP hq hr.depth hu rfl (by rfl) B.sorted (by rfl) B.range (d_var 2)) a_nil)) sc__law_first_known.nd)
    (s_cons (s_for PassesOwn.never rfl (i_seq (e_P O__law_sizes hA (hr.mono (by decide)) (a_cons (d_var 0) (a_cons (d_var 1) a_nil)))) (g_name 6 sc__law_first_known.nd) (s_one (s_expr (d_met (T := "list") 3 PySem.F.slot_list_append PySem.F.type_list_append mt_append locM_app (a_cons (d_callTy c_tuple (loc_one loc_tuple) (by rfl) B.tuple boot_tuple (a_cons (d_lc (own := [(("_law_count" : Str), 7)]) rfl sc__law_first_known.nd (i_rng1 (by rfl) B.range (a_cons (d_bin op_addAll loc_add (d_var 2) d_int) a_nil)) (blkOk_by (N := N__law_first_known) (sc := defScope s__law_first_known) (by decide +kernel)) (by decide) (fun _ _ _ _ _ => (g_name 7 sc__law_first_known.nd)) (fun _ _ _ _ _ => i_yes) (fun _ _ _ _ _ => (d_callB (c_min2 rfl) loc_min2 (by rfl) B.min boot_min (a_cons (d_var 7) (a_cons (d_var 6) a_nil))))) a_nil)) a_nil)))))
    (s_one (s_ret (d_tup (a_cons (d_var 5) (a_cons (d_callTy c_tuple (loc_one loc_tuple) (by rfl) B.tuple boot_tuple (a_cons (d_var 3) a_nil)) a_nil)))))))))
abbrev s__law_tightened : Stmt := topS 36
abbrev N__law_tightened : List Str := ["_law_rows", "_law_sizes_here", "_law_floors", "_law_many", "_law_words", "_law_row", "_law_size", "_law_word", "_law_ahead", "_law_count", "_law_one_here", "_law_floor", "_law_more", "_law_other"]
abbrev P__law_tightened : List Str := ["_law_rows", "_law_sizes_here"]
theorem sc__law_tightened : FnScope N__law_tightened P__law_tightened (defScope s__law_tightened) := ⟨rfl, rfl, rfl, by decide +kernel, rfl, by decide +kernel, by decide +kernel⟩
theorem ok__law_tightened {P : Program} {w : World} {K : Fg} {mg : Str → Option Value} {base : Heap} (B : Blt mg) (D : Def K mg "_law_tightened" s__law_tightened P__law_tightened)  :
    Ok P w K mg base 1 "_law_tightened" P__law_tightened (spP K 2 F__law_tightened) :=
  Ok.pure (N := N__law_tightened) D sc__law_tightened rfl (by decide) fun f cdv A outer s H E hA hr =>
    have hu := hu64 hr
    (s_cons (s_par3 rfl (by decide) (by decide) (by decide) sc__law_tightened.nd (a_cons (d_callB c_len (loc_one loc_len) (by rfl) B.len PySem.boot_len (a_cons (d_var 0) a_nil)) (a_cons (d_bin op_sub loc_i2i (d_callB c_len (loc_one loc_len) (by rfl) B.len PySem.boot_len (a_cons (d_ix ix_both loc_ix (d_var 0) d_int (fun _ _ => rfl)) a_nil)) d_int) (a_cons (d_lst a_nil) a_nil))))
    (s_cons (s_if (t_cmp (op_neQ hu) loc_neQ (d_lc (own := [(("_law_one_here" : Str), 10), (("_law_other" : Str), 13)]) rfl sc__law_tightened.nd (i_zip (by rfl) B.zip (a_cons (d_bin op_addAll loc_add (d_tup (a_cons d_int a_nil)) (d_var 1)) (a_cons (d_var 1) a_nil))) (blkOk_by (N := N__law_tightened) (sc := defScope s__law_tightened) (by decide +kernel)) (by decide) (fun _ _ _ _ _ => (g_tup rfl (pgs_cons (h_name 10 sc__law_tightened.nd) (pgs_cons (h_name 13 sc__law_tightened.nd) pgs_nil)) rfl)) (fun _ _ _ _ _ => (i_one (t_cmp op_lt loc_i2b (d_var 13) (d_var 10) (nomark _)))) (fun _ _ _ _ _ => d_int)) (d_lst a_nil) (nomark _)) (s_one (s_ret d_non)) s_nil)
    (s_cons (s_for PassesOwn.never rfl (i_zip (by rfl) B.zip (a_cons (d_var 0) (a_cons (d_var 1) a_nil))) (g_tup rfl (pgs_cons (h_name 5 sc__law_tightened.nd) (pgs_cons (h_name 6 sc__law_tightened.nd) pgs_nil)) rfl) (s_cons (s_par2 rfl (by decide) sc__law_tightened.nd (a_cons (d_lst a_nil) (a_cons d_int a_nil)))
    (s_cons (s_for PassesOwn.never rfl (i_enum (by rfl) B.enumerate (a_cons (d_var 5) a_nil)) (g_tup rfl (pgs_cons (h_name 9 sc__law_tightened.nd) (pgs_cons (h_name 10 sc__law_tightened.nd) pgs_nil)) rfl) (s_cons (s_set 8 (d_callB (c_max3 rfl) loc_three (by rfl) B.max boot_max (a_cons (d_var 8) (a_cons (d_var 10) (a_cons (d_bin op_addAll loc_add (d_bin op_sub loc_i2i (d_var 6) (d_var 3)) (d_var 9)) a_nil)))) sc__law_tightened.nd)
    (s_one (s_expr (d_met (T := "list") 7 PySem.F.slot_list_append PySem.F.type_list_append mt_append locM_app (a_cons (d_var 8) a_nil))))))
    (s_cons (s_for PassesOwn.never rfl (i_rng3 (by rfl) B.range (a_cons (d_bin op_sub loc_i2i (d_var 3) d_int) (a_cons (d_un un_neg loc_neg d_int) (a_cons (d_un un_neg loc_neg d_int) a_nil)))) (g_name 9 sc__law_tightened.nd) (s_one (s_setIx 7 (d_callB (c_max2 rfl) loc_max2 (by rfl) B.max boot_max (a_cons (d_ix ix_both loc_ix (d_var 7) (d_var 9) (fun _ _ => rfl)) (a_cons (d_bin op_sub loc_i2i (d_ix ix_both loc_ix (d_var 7) (d_bin op_addAll loc_add (d_var 9) d_int) (fun _ _ => rfl)) d_int) a_nil))) (d_var 9))))
    (s_one (s_expr (d_met (T := "list") 4 PySem.F.slot_list_append PySem.F.type_list_append mt_append locM_app (a_cons (d_var 7) a_nil))))))))
    (s_cons (s_for PassesOwn.never rfl (i_rng2 (by rfl) B.range (a_cons d_int (a_cons (d_var 2) a_nil))) (g_name 11 sc__law_tightened.nd) (s_one (s_setIx 4 (d_lc (own := [(("_law_one_here" : Str), 10), (("_law_other" : Str), 13)]) rfl sc__law_tightened.nd (i_zip (by rfl) B.zip (a_cons (d_ix ix_both loc_ix (d_var 4) (d_var 11) (fun _ _ => rfl)) (a_cons (d_ix ix_both loc_ix (d_var 4) (d_bin op_sub loc_i2i (d_var 11) d_int) (fun _ _ => rfl)) a_nil))) (blkOk_by (N := N__law_tightened) (sc := defScope s__law_tightened) (by decide +kernel)) (by decide) (fun _ _ _ _ _ => (g_tup rfl (pgs_cons (h_name 10 sc__law_tightened.nd) (pgs_cons (h_name 13 sc__law_tightened.nd) pgs_nil)) rfl)) (fun _ _ _ _ _ => i_yes) (fun _ _ _ _ _ => (d_callB (c_max2 rfl) loc_max2 (by rfl) B.max boot_max (a_cons (d_var 10) (a_cons (d_var 13) a_nil))))) (d_var 11))))
    (s_cons (s_for PassesOwn.never rfl (i_rng3 (by rfl) B.range (a_cons (d_bin op_sub loc_i2i (d_var 2) d_int) (a_cons (d_un un_neg loc_neg d_int) (a_cons (d_un un_neg loc_neg d_int) a_nil)))) (g_name 11 sc__law_tightened.nd) (s_cons (s_set 12 (d_bin op_sub loc_i2i (d_ix ix_both loc_ix (d_var 1) (d_bin op_addAll loc_add (d_var 11) d_int) (fun _ _ => rfl)) (d_ix ix_both loc_ix (d_var 1) (d_var 11) (fun _ _ => rfl))) sc__law_tightened.nd)
    (s_one (s_setIx 4 (d_lc (own := [(("_law_one_here" : Str), 10), (("_law_other" : Str), 13)]) rfl sc__law_tightened.nd (i_zip (by rfl) B.zip (a_cons (d_ix ix_both loc_ix (d_var 4) (d_var 11) (fun _ _ => rfl)) (a_cons (d_ix ix_both loc_ix (d_var 4) (d_bin op_addAll loc_add (d_var 11) d_int) (fun _ _ => rfl)) a_nil))) (blkOk_by (N := N__law_tightened) (sc := defScope s__law_tightened) (by decide +kernel)) (by decide) (fun _ _ _ _ _ => (g_tup rfl (pgs_cons (h_name 10 sc__law_tightened.nd) (pgs_cons (h_name 13 sc__law_tightened.nd) pgs_nil)) rfl)) (fun _ _ _ _ _ => i_yes) (fun _ _ _ _ _ => (d_callB (c_max2 rfl) loc_max2 (by rfl) B.max boot_max (a_cons (d_var 10) (a_cons (d_bin op_sub loc_i2i (d_var 13) (d_var 12)) a_nil))))) (d_var 11)))))
    (s_cons (s_for PassesOwn.never rfl (i_zip (by rfl) B.zip (a_cons (d_var 4) (a_cons (d_var 1) a_nil))) (g_tup rfl (pgs_cons (h_name 7 sc__law_tightened.nd) (pgs_cons (h_name 6 sc__law_tightened.nd) pgs_nil)) rfl) (s_one (s_if (t_cmp (op_neQ hu) loc_neQ (d_lc (own := [(("_law_count" : Str), 9), (("_law_one_here" : Str), 10)]) rfl sc__law_tightened.nd (i_enum (by rfl) B.enumerate (a_cons (d_var 7) a_nil)) (blkOk_by (N := N__law_tightened) (sc := defScope s__law_tightened) (by decide +kernel)) (by decide) (fun _ _ _ _ _ => (g_tup rfl (pgs_cons (h_name 9 sc__law_tightened.nd) (pgs_cons (h_name 10 sc__law_tightened.nd) pgs_nil)) rfl)) (fun _ _ _ _ _ => (i_one (t_cmp op_gt loc_i2b (d_var 10) (d_callB (c_min2 rfl) loc_min2 (by rfl) B.min boot_min (a_cons (d_var 9) (a_cons (d_var 6) a_nil))) (nomark _)))) (fun _ _ _ _ _ => d_int)) (d_lst a_nil) (nomark _)) (s_one (s_ret d_non)) s_nil)))
    (s_one (s_ret (d_callTy c_tuple (loc_one loc_tuple) (by rfl) B.tuple boot_tuple (a_cons (d_lc (own := [(("_law_word" : Str), 7)]) rfl sc__law_tightened.nd (i_seq (d_var 4)) (blkOk_by (N := N__law_tightened) (sc := defScope s__law_tightened) (by decide +kernel)) (by decide) (fun _ _ _ _ _ => (g_name 7 sc__law_tightened.nd)) (fun _ _ _ _ _ => i_yes) (fun _ _ _ _ _ => (d_callTy c_tuple (loc_one loc_tuple) (by rfl) B.tuple boot_tuple (a_cons (d_var 7) a_nil)))) a_nil))))))))))
abbrev s__law_known_sizes : Stmt := topS 37
abbrev N__law_known_sizes : List Str := ["_law_known_here", "_law_word"]
abbrev P__law_known_sizes : List Str := ["_law_known_here"]
theorem sc__law_known_sizes : FnScope N__law_known_sizes P__law_known_sizes (defScope s__law_known_sizes) := ⟨rfl, rfl, rfl, by decide +kernel, rfl, by decide +kernel, by decide +kernel⟩
theorem ok__law_known_sizes {P : Program} {w : World} {K : Fg} {mg : Str → Option Value} {base : Heap} (B : Blt mg) (D : Def K mg "_law_known_sizes" s__law_known_sizes P__law_known_sizes)  :
    Ok P w K mg base 1 "_law_known_sizes" P__law_known_sizes (spP K 1 F__law_known_sizes) :=
  Ok.pure (N := N__law_known_sizes) D sc__law_known_sizes rfl (by decide) fun f cdv A outer s H E hA hr =>
    have hu := hu64 hr
    (s_one (s_ret (d_callTy c_tuple (loc_one loc_tuple) (by rfl) B.tuple boot_tuple (a_cons (d_lc (own := [(("_law_word" : Str), 1)]) rfl sc__law_known_sizes.nd (i_seq (d_ix ix_both loc_ix (d_var 0) d_int (fun _ _ => rfl))) (blkOk_by (N := N__law_known_sizes) (sc := defScope s__law_known_sizes) (by decide +kernel)) (by decide) (fun _ _ _ _ _ => (g_name 1 sc__law_known_sizes.nd)) (fun _ _ _ _ _ => i_yes) (fun _ _ _ _ _ => (d_ix ix_both loc_ix (d_var 1) (d_un un_neg loc_neg d_int) (fun _ _ => rfl)))) a_nil))))
abbrev s__law_led : Stmt := topS 38
abbrev N__law_led : List Str := ["_law_house_here", "_law_known_here", "_law_entry", "_law_order", "_law_words", "_law_word", "_law_thing", "_law_found", "_law_place", "_law_sizes_here", "_law_rows", "_law_floor", "_law_row", "_law_less", "_law_later", "_law_tight", "_law_rest", "_law_made", "_law_is_less", "_law_one_here"]
abbrev P__law_led : List Str := ["_law_house_here", "_law_known_here", "_law_entry"]
theorem sc__law_led : FnScope N__law_led P__law_led (defScope s__law_led) := ⟨rfl, rfl, rfl, by decide +kernel, rfl, by decide +kernel, by decide +kernel⟩
theorem ok__law_led {P : Program} {w : World} {K : Fg} {mg : Str → Option Value} {base : Heap} (B : Blt mg) (D : Def K mg "_law_led" s__law_led P__law_led) (O__law_tightened : Ok P w K mg base 1 "_law_tightened" P__law_tightened (spP K 2 F__law_tightened)) (O__law_known_sizes : Ok P w K mg base 1 "_law_known_sizes" P__law_known_sizes (spP K 1 F__law_known_sizes)) :
    Ok P w K mg base 2 "_law_led" P__law_led (spP K 3 F__law_led) :=
  Ok.pure (N := N__law_led) D sc__law_led rfl (by decide) fun f cdv A outer s H E hA hr =>
    have hu := hu64 hr
    (s_cons (s_unp (d_var 1) (g_tup rfl (pgs_cons (h_name 3 sc__law_led.nd) (pgs_cons (h_name 4 sc__law_led.nd) pgs_nil)) rfl))
    (s_cons (s_unp (d_var 2) (g_tup rfl (pgs_cons (h_name 5 sc__law_led.nd) (pgs_cons (h_name 6 sc__law_led.nd) (pgs_cons (h_name 7 sc__law_led.nd) pgs_nil))) rfl))
    (s_cons (s_par3 rfl (by decide) (by decide) (by decide) sc__law_led.nd (a_cons (d_idx (d_var 3) (d_var 6)) (a_cons (d_callTy c_list (loc_one loc_list) (by rfl) B.list boot_list (a_cons (e_P O__law_known_sizes hA (hr.mono (by decide)) (a_cons (d_var 1) a_nil)) a_nil)) (a_cons (d_lst a_nil) a_nil))))
    (s_cons (s_for PassesOwn.never rfl (i_enum (by rfl) B.enumerate (a_cons (d_var 4) a_nil)) (g_tup rfl (pgs_cons (h_name 11 sc__law_led.nd) (pgs_cons (h_name 12 sc__law_led.nd) pgs_nil)) rfl) (s_cons (s_set 13 (d_callTy c_intT (loc_one loc_intT) (by rfl) B.int boot_int (a_cons (d_cmp op_ge loc_i2b (d_var 11) (d_var 7) (nomark _)) a_nil)) sc__law_led.nd)
    (s_cons (s_setLc 14 (own := [(("_law_one_here" : Str), 19)]) rfl sc__law_led.nd (sw_true rfl rfl rfl (by decide +kernel)) (i_seq (d_slice (d_var 12) (o_some (d_bin op_addAll loc_add (d_var 8) d_int)) o_none)) (blkOk_by (N := N__law_led) (sc := defScope s__law_led) (by decide +kernel)) (by decide) (fun _ _ _ _ _ => (g_name 19 sc__law_led.nd)) (fun _ _ _ _ _ => i_yes) (fun _ _ _ _ _ => (d_bin op_sub loc_i2i (d_var 19) (d_var 13))))
    (s_cons (s_expr (d_met (T := "list") 10 PySem.F.slot_list_append PySem.F.type_list_append mt_append locM_app (a_cons (d_callTy c_tuple (loc_one loc_tuple) (by rfl) B.tuple boot_tuple (a_cons (d_bin op_addAll loc_add (d_bin op_addAll loc_add (d_callTy c_list (loc_one loc_list) (by rfl) B.list boot_list (a_cons (d_slice (d_var 12) o_none (o_some (d_var 8))) a_nil)) (d_lst (a_cons (d_callB (c_max2 rfl) loc_max2 (by rfl) B.max boot_max (a_cons (d_ix ix_both loc_ix (d_var 12) (d_var 8) (fun _ _ => rfl)) (a_cons (d_ix ix_both loc_ix (d_var 14) d_int (fun _ _ => rfl)) a_nil))) a_nil))) (d_slice (d_var 14) (o_some d_int) o_none)) a_nil)) a_nil)))
    (s_one (s_augIx 9 ip_sub (d_var 11) (d_var 13)))))))
    (s_cons (s_set 15 (e_P O__law_tightened hA (hr.mono (by decide)) (a_cons (d_callTy c_tuple (loc_one loc_tuple) (by rfl) B.tuple boot_tuple (a_cons (d_var 10) a_nil)) (a_cons (d_callTy c_tuple (loc_one loc_tuple) (by rfl) B.tuple boot_tuple (a_cons (d_var 9) a_nil)) a_nil))) sc__law_led.nd)
    (s_cons (s_if (t_cmp op_isN loc_isN (d_var 15) d_non (nomark _)) (s_one (s_ret d_non)) s_nil)
    (s_cons (s_set 16 (d_bin op_addAll loc_add (d_slice (d_var 3) o_none (o_some (d_var 8))) (d_slice (d_var 3) (o_some (d_bin op_addAll loc_add (d_var 8) d_int)) o_none)) sc__law_led.nd)
    (s_cons (s_if (t_cmp (op_eqQ hu) loc_eqQ (d_var 5) d_str (nomark _)) (s_one (s_ret (d_tup (a_cons (d_bin op_addAll loc_add (d_var 16) (d_tup (a_cons (d_var 6) a_nil))) (a_cons (d_callTy c_tuple (loc_one loc_tuple) (by rfl) B.tuple boot_tuple (a_cons (d_lc (own := [(("_law_row" : Str), 12)]) rfl sc__law_led.nd (i_seq (d_var 15)) (blkOk_by (N := N__law_led) (sc := defScope s__law_led) (by decide +kernel)) (by decide) (fun _ _ _ _ _ => (g_name 12 sc__law_led.nd)) (fun _ _ _ _ _ => i_yes) (fun _ _ _ _ _ => (d_bin op_addAll loc_add (d_var 12) (d_slice (d_var 12) (o_some (d_un un_neg loc_neg d_int)) o_none)))) a_nil)) a_nil))))) s_nil)
    (s_cons (s_set 17 (d_lst a_nil) sc__law_led.nd)
    (s_cons (s_for PassesOwn.never rfl (i_enum (by rfl) B.enumerate (a_cons (d_var 15) a_nil)) (g_tup rfl (pgs_cons (h_name 11 sc__law_led.nd) (pgs_cons (h_name 12 sc__law_led.nd) pgs_nil)) rfl) (s_cons (s_set 18 (d_and (d_cmp op_lt loc_i2b (d_var 11) (d_var 7) (nomark _)) (d_one (d_cmp (op_eqQ hu) loc_eqQ (d_ix ix_both loc_ix (d_var 9) (d_var 11) (fun _ _ => rfl)) (d_callB (c_sum rfl) (loc_one loc_sum) (by rfl) B.sum boot_sum (a_cons (d_slice (d_ix ix_both loc_ix (d_var 0) d_int (fun _ _ => rfl)) o_none (o_some (d_bin op_addAll loc_add (d_var 11) d_int))) a_nil)) (nomark _)))) sc__law_led.nd)
    (s_one (s_expr (d_met (T := "list") 17 PySem.F.slot_list_append PySem.F.type_list_append mt_append locM_app (a_cons (d_bin op_addAll loc_add (d_tup (a_cons d_int a_nil)) (d_callTy c_tuple (loc_one loc_tuple) (by rfl) B.tuple boot_tuple (a_cons (d_lc (own := [(("_law_one_here" : Str), 19)]) rfl sc__law_led.nd (i_seq (d_var 12)) (blkOk_by (N := N__law_led) (sc := defScope s__law_led) (by decide +kernel)) (by decide) (fun _ _ _ _ _ => (g_name 19 sc__law_led.nd)) (fun _ _ _ _ _ => i_yes) (fun _ _ _ _ _ => (d_bin op_addAll loc_add (d_callB (c_max2 rfl) loc_max2 (by rfl) B.max boot_max (a_cons d_int (a_cons (d_bin op_sub loc_i2i (d_var 19) (d_callTy c_intT (loc_one loc_intT) (by rfl) B.int boot_int (a_cons (d_var 18) a_nil))) a_nil))) d_int))) a_nil))) a_nil))))))
    (s_one (s_ret (d_tup (a_cons (d_bin op_addAll loc_add (d_tup (a_cons (d_var 6) a_nil)) (d_var 16)) (a_cons (d_callTy c_tuple (loc_one loc_tuple) (by rfl) B.tuple boot_tuple (a_cons (d_var 17) a_nil)) a_nil)))))))))))))))
abbrev s__law_led_by : Stmt := topS 39
abbrev N__law_led_by : List Str := ["_law_house_here", "_law_known_here", "_law_log", "_law_index", "_law_entry", "_law_later"]
abbrev P__law_led_by : List Str := ["_law_house_here", "_law_known_here", "_law_log"]
theorem sc__law_led_by : FnScope N__law_led_by P__law_led_by (defScope s__law_led_by) := ⟨rfl, rfl, rfl, by decide +kernel, rfl, by decide +kernel, by decide +kernel⟩
theorem ok__law_led_by {P : Program} {w : World} {K : Fg} {mg : Str → Option Value} {base : Heap} (B : Blt mg) (D : Def K mg "_law_led_by" s__law_led_by P__law_led_by) (O__law_led : Ok P w K mg base 2 "_law_led" P__law_led (spP K 3 F__law_led)) :
    Ok P w K mg base 3 "_law_led_by" P__law_led_by (spP K 3 F__law_led_by) :=
  Ok.pure (N := N__law_led_by) D sc__law_led_by rfl (by decide) fun f cdv A outer s H E hA hr =>
    have hu := hu64 hr
    (s_cons (s_for PassesOwn.never rfl (i_enum (by rfl) B.enumerate (a_cons (d_var 2) a_nil)) (g_tup rfl (pgs_cons (h_name 3 sc__law_led_by.nd) (pgs_cons (h_name 4 sc__law_led_by.nd) pgs_nil)) rfl) (s_cons (s_set 5 (e_P O__law_led hA (hr.mono (by decide)) (a_cons (d_var 0) (a_cons (d_var 1) (a_cons (d_var 4) a_nil)))) sc__law_led_by.nd)
    (s_cons (s_if (t_cmp op_isN loc_isN (d_var 5) d_non (nomark _)) (s_one (s_ret (d_tup (a_cons (d_var 1) (a_cons (d_var 3) a_nil))))) s_nil)
    (s_one (s_set 1 (d_var 5) sc__law_led_by.nd)))))
    (s_one (s_ret (d_tup (a_cons (d_var 1) (a_cons d_non a_nil))))))
abbrev s__law_fits : Stmt := topS 40
abbrev N__law_fits : List Str := ["_law_house_here", "_law_known_here", "_law_state_here", "_law_floor", "_law_word", "_law_within_here", "_law_count", "_law_thing"]
abbrev P__law_fits : List Str := ["_law_house_here", "_law_known_here", "_law_state_here"]
theorem sc__law_fits : FnScope N__law_fits P__law_fits (defScope s__law_fits) := ⟨rfl, rfl, rfl, by decide +kernel, rfl, by decide +kernel, by decide +kernel⟩
theorem ok__law_fits {P : Program} {w : World} {K : Fg} {mg : Str → Option Value} {base : Heap} (B : Blt mg) (D : Def K mg "_law_fits" s__law_fits P__law_fits) (O__law_sizes : Ok P w K mg base 2 "_law_sizes" P__law_sizes (spP K 2 F__law_sizes)) (O__law_known_sizes : Ok P w K mg base 1 "_law_known_sizes" P__law_known_sizes (spP K 1 F__law_known_sizes)) :
    Ok P w K mg base 3 "_law_fits" P__law_fits (spP K 3 F__law_fits) :=
  Ok.pure (N := N__law_fits) D sc__law_fits rfl (by decide) fun f cdv A outer s H E hA hr =>
    have hu := hu64 hr
    (s_cons (s_if (t_cmp (op_neQ hu) loc_neQ (e_P O__law_sizes hA (hr.mono (by decide)) (a_cons (d_var 0) (a_cons (d_var 2) a_nil))) (e_P O__law_known_sizes hA (hr.mono (by decide)) (a_cons (d_var 1) a_nil)) (nomark _)) (s_one (s_ret d_bl)) s_nil)
    (s_cons (s_for PassesOwn.never rfl (i_enum (by rfl) B.enumerate (a_cons (d_ix ix_both loc_ix (d_var 1) d_int (fun _ _ => rfl)) a_nil)) (g_tup rfl (pgs_cons (h_name 3 sc__law_fits.nd) (pgs_cons (h_name 4 sc__law_fits.nd) pgs_nil)) rfl) (s_cons (s_set 5 d_int sc__law_fits.nd)
    (s_one (s_for PassesOwn.never rfl (i_enum (by rfl) B.enumerate (a_cons (d_ix ix_both loc_ix (d_var 1) d_int (fun _ _ => rfl)) a_nil)) (g_tup rfl (pgs_cons (h_name 6 sc__law_fits.nd) (pgs_cons (h_name 7 sc__law_fits.nd) pgs_nil)) rfl) (s_cons (s_aug 5 ip_add (d_callTy c_intT (loc_one loc_intT) (by rfl) B.int boot_int (a_cons (d_cmp op_le loc_i2b (d_ix ix_both loc_ix (d_var 2) (d_var 7) (fun _ _ => rfl)) (d_var 3) (nomark _)) a_nil)) sc__law_fits.nd)
    (s_one (s_if (t_cmp op_lt loc_i2b (d_var 5) (d_ix ix_both loc_ix (d_var 4) (d_bin op_addAll loc_add (d_var 6) d_int) (fun _ _ => rfl)) (nomark _)) (s_one (s_ret d_bl)) s_nil)))))))
    (s_one (s_ret d_bl))))
abbrev s__law_tight_known : Stmt := topS 41
abbrev N__law_tight_known : List Str := ["_law_bag_here", "_law_house_here", "_law_order", "_law_sizes_here", "_law_size", "_law_rooms", "_law_turn", "_law_rows", "_law_drawn", "_law_words", "_law_count", "_law_way"]
abbrev P__law_tight_known : List Str := ["_law_bag_here", "_law_house_here"]
theorem sc__law_tight_known : FnScope N__law_tight_known P__law_tight_known (defScope s__law_tight_known) := ⟨rfl, rfl, rfl, by decide +kernel, rfl, by decide +kernel, by decide +kernel⟩
theorem ok__law_tight_known {P : Program} {w : World} {K : Fg} {mg : Str → Option Value} {base : Heap} (B : Blt mg) (D : Def K mg "_law_tight_known" s__law_tight_known P__law_tight_known) (O__law_tightened : Ok P w K mg base 1 "_law_tightened" P__law_tightened (spP K 2 F__law_tightened)) (O__law_take : Ok P w K mg base 1 "_law_take" P__law_take (spM K 1 F__law_take)) (O__law_one : Ok P w K mg base 2 "_law_one" P__law_one (spM K 1 F__law_one)) (O__law_mixed : Ok P w K mg base 2 "_law_mixed" P__law_mixed (spM K 1 F__law_mixed)) :
    Ok P w K mg base 3 "_law_tight_known" P__law_tight_known (spM K 1 F__law_tight_known) :=
  Ok.mut (N := N__law_tight_known) D sc__law_tight_known rfl (by decide) fun f cdv A outer s H E hA hr =>
    have hu := hu64 hr
    (s_cons (s_par rfl (a_cons (d_callTy c_tuple (loc_one loc_tuple) (by rfl) B.tuple boot_tuple (a_cons (e_M 0 O__law_mixed hA (hr.mono (by decide)) (a_cons (d_lstR1 (by rfl) B.list (by rfl) B.range rfl (d_ix ix_both loc_ix (d_var 1) d_int (fun _ _ => rfl))) a_nil)) a_nil)) (a_cons (d_lst a_nil) (a_cons d_int a_nil))) (pgs_cons (h_name 2 sc__law_tight_known.nd) (pgs_cons (h_name 3 sc__law_tight_known.nd) (pgs_cons (h_name 4 sc__law_tight_known.nd) pgs_nil))) rfl)
    (s_cons (s_for PassesOwn.never rfl (i_seq (d_ix ix_both loc_ix (d_var 1) d_int (fun _ _ => rfl))) (g_name 5 sc__law_tight_known.nd) (s_cons (s_set 4 (d_callB (c_min2 rfl) loc_min2 (by rfl) B.min boot_min (a_cons (d_ix ix_both loc_ix (d_var 1) d_int (fun _ _ => rfl)) (a_cons (d_bin op_addAll loc_add (d_var 4) (e_M 0 O__law_one hA (hr.mono (by decide)) (a_cons (d_lst (a_cons (d_var 5) (a_cons (d_var 5) (a_cons (e_M 0 O__law_take hA (hr.mono (by decide)) (a_cons (d_bin op_addAll loc_add (d_var 5) d_int) a_nil)) a_nil)))) a_nil))) a_nil))) sc__law_tight_known.nd)
    (s_one (s_expr (d_met (T := "list") 3 PySem.F.slot_list_append PySem.F.type_list_append mt_append locM_app (a_cons (d_var 4) a_nil))))))
    (s_cons (s_for PassesOwn.never rfl (i_rng1 (by rfl) B.range (a_cons d_int a_nil)) (g_name 6 sc__law_tight_known.nd) (s_cons (s_set 7 (d_lst a_nil) sc__law_tight_known.nd)
    (s_cons (s_for PassesOwn.never rfl (i_seq (d_var 3)) (g_name 4 sc__law_tight_known.nd) (s_cons (s_setLc 8 (own := [(("_law_count" : Str), 10)]) rfl sc__law_tight_known.nd (sw_true rfl rfl rfl (by decide +kernel)) (i_rng1 (by rfl) B.range (a_cons (d_bin op_addAll loc_add (d_ix ix_both loc_ix (d_var 1) d_int (fun _ _ => rfl)) d_int) a_nil)) (blkOk_by (N := N__law_tight_known) (sc := defScope s__law_tight_known) (by decide +kernel)) (by decide) (fun _ _ _ _ _ => (g_name 10 sc__law_tight_known.nd)) (fun _ _ _ _ _ => i_yes) (fun _ _ _ _ _ => (d_tup (a_cons (e_M 0 O__law_take hA (hr.mono (by decide)) (a_cons d_int a_nil)) (a_cons (d_var 10) a_nil)))))
    (s_one (s_expr (d_met (T := "list") 7 PySem.F.slot_list_append PySem.F.type_list_append mt_append locM_app (a_cons (d_callTy c_tuple (loc_one loc_tuple) (by rfl) B.tuple boot_tuple (a_cons (d_lc (own := [(("_law_way" : Str), 11), (("_law_count" : Str), 10)]) rfl sc__law_tight_known.nd (i_seq (d_var 8)) (blkOk_by (N := N__law_tight_known) (sc := defScope s__law_tight_known) (by decide +kernel)) (by decide) (fun _ _ _ _ _ => (g_tup rfl (pgs_cons (h_name 11 sc__law_tight_known.nd) (pgs_cons (h_name 10 sc__law_tight_known.nd) pgs_nil)) rfl)) (fun _ _ _ _ _ => i_yes) (fun _ _ _ _ _ => (d_ite (t_cmp (op_eqQ hu) loc_eqQ (d_var 11) d_int (nomark _)) (d_callB (c_min3 rfl) loc_three (by rfl) B.min boot_min (a_cons (d_var 10) (a_cons (d_var 4) (a_cons (e_M 0 O__law_take hA (hr.mono (by decide)) (a_cons (d_bin op_addAll loc_add (d_var 10) d_int) a_nil)) a_nil)))) d_int))) a_nil)) a_nil))))))
    (s_cons (s_set 9 (e_P O__law_tightened hA (hr.mono (by decide)) (a_cons (d_callTy c_tuple (loc_one loc_tuple) (by rfl) B.tuple boot_tuple (a_cons (d_var 7) a_nil)) (a_cons (d_callTy c_tuple (loc_one loc_tuple) (by rfl) B.tuple boot_tuple (a_cons (d_var 3) a_nil)) a_nil))) sc__law_tight_known.nd)
    (s_one (s_if (t_cmp op_notN loc_notN (d_var 9) d_non (nomark _)) (s_one (s_ret (d_tup (a_cons (d_var 2) (a_cons (d_var 9) a_nil))))) s_nil))))))
    (s_one (s_ret (d_tup (a_cons (d_var 2) (a_cons (e_P O__law_tightened hA (hr.mono (by decide)) (a_cons (d_bin op_mulAll loc_mul (d_tup (a_cons (d_bin op_mulAll loc_mul (d_tup (a_cons d_int a_nil)) (d_bin op_addAll loc_add (d_ix ix_both loc_ix (d_var 1) d_int (fun _ _ => rfl)) d_int)) a_nil)) (d_callB c_len (loc_one loc_len) (by rfl) B.len PySem.boot_len (a_cons (d_var 3) a_nil))) (a_cons (d_callTy c_tuple (loc_one loc_tuple) (by rfl) B.tuple boot_tuple (a_cons (d_var 3) a_nil)) a_nil))) a_nil))))))))
abbrev s__law_known : Stmt := topS 42
abbrev N__law_known : List Str := ["_law_bag_here", "_law_house_here", "_law_many", "_law_strikes", "_law_start_here", "_law_run_here", "_law_log", "_law_states"]
abbrev P__law_known : List Str := ["_law_bag_here", "_law_house_here", "_law_many", "_law_strikes"]
theorem sc__law_known : FnScope N__law_known P__law_known (defScope s__law_known) := ⟨rfl, rfl, rfl, by decide +kernel, rfl, by decide +kernel, by decide +kernel⟩
theorem ok__law_known {P : Program} {w : World} {K : Fg} {mg : Str → Option Value} {base : Heap} (B : Blt mg) (D : Def K mg "_law_known" s__law_known P__law_known) (O__law_led_by : Ok P w K mg base 3 "_law_led_by" P__law_led_by (spP K 3 F__law_led_by)) (O__law_first_known : Ok P w K mg base 3 "_law_first_known" P__law_first_known (spP K 2 F__law_first_known)) (O__law_story : Ok P w K mg base 5 "_law_story" P__law_story (spM K 4 F__law_story)) (O__law_one : Ok P w K mg base 2 "_law_one" P__law_one (spM K 1 F__law_one)) (O__law_take : Ok P w K mg base 1 "_law_take" P__law_take (spM K 1 F__law_take)) (O__law_start : Ok P w K mg base 4 "_law_start" P__law_start (spM K 1 F__law_start)) :
    Ok P w K mg base 6 "_law_known" P__law_known (spM K 3 F__law_known) :=
  Ok.mut (N := N__law_known) D sc__law_known rfl (by decide) fun f cdv A outer s H E hA hr =>
    have hu := hu64 hr
    (s_cons (s_set 4 (e_M 0 O__law_start hA (hr.mono (by decide)) (a_cons (d_var 1) a_nil)) sc__law_known.nd)
    (s_cons (s_unp (e_M 0 O__law_story hA (hr.mono (by decide)) (a_cons (d_var 1) (a_cons (d_var 4) (a_cons (e_M 0 O__law_one hA (hr.mono (by decide)) (a_cons (d_lst (a_cons (d_var 2) (a_cons (e_M 0 O__law_take hA (hr.mono (by decide)) (a_cons (d_bin op_addAll loc_add (d_var 2) d_int) a_nil)) (a_cons d_int (a_cons (d_var 2) a_nil))))) a_nil)) (a_cons (d_var 3) a_nil))))) (g_tup rfl (pgs_cons (h_name 5 sc__law_known.nd) (pgs_cons (h_name 6 sc__law_known.nd) (pgs_cons (h_name 7 sc__law_known.nd) pgs_nil))) rfl))
    (s_one (s_ret (d_tup (a_cons (d_var 4) (a_cons (d_var 6) (a_cons (d_ix ix_both loc_ix (e_P O__law_led_by hA (hr.mono (by decide)) (a_cons (d_var 1) (a_cons (e_P O__law_first_known hA (hr.mono (by decide)) (a_cons (d_var 1) (a_cons (d_var 4) a_nil))) (a_cons (d_var 6) a_nil)))) d_int (fun _ _ => rfl)) a_nil))))))))
abbrev s__law_sharper : Stmt := topS 43
abbrev N__law_sharper : List Str := ["_law_bag_here", "_law_known_here", "_law_rows", "_law_turn", "_law_row", "_law_at", "_law_words", "_law_word"]
abbrev P__law_sharper : List Str := ["_law_bag_here", "_law_known_here"]
theorem sc__law_sharper : FnScope N__law_sharper P__law_sharper (defScope s__law_sharper) := ⟨rfl, rfl, rfl, by decide +kernel, rfl, by decide +kernel, by decide +kernel⟩
theorem ok__law_sharper {P : Program} {w : World} {K : Fg} {mg : Str → Option Value} {base : Heap} (B : Blt mg) (D : Def K mg "_law_sharper" s__law_sharper P__law_sharper) (D1 : Def K mg "_law_one" s__law_one P__law_one) (O__law_tightened : Ok P w K mg base 1 "_law_tightened" P__law_tightened (spP K 2 F__law_tightened)) (O__law_known_sizes : Ok P w K mg base 1 "_law_known_sizes" P__law_known_sizes (spP K 1 F__law_known_sizes)) (O__law_one : Ok P w K mg base 2 "_law_one" P__law_one (spM K 1 F__law_one)) (O__law_take : Ok P w K mg base 1 "_law_take" P__law_take (spM K 1 F__law_take)) :
    Ok P w K mg base 3 "_law_sharper" P__law_sharper (spM K 1 F__law_sharper) :=
  Ok.mut (N := N__law_sharper) D sc__law_sharper rfl (by decide) fun f cdv A outer s H E hA hr =>
    have hu := hu64 hr
    (s_sharp (ps_setLc (i := 2) (own := [(("_law_word" : Str), 7)]) rfl sc__law_sharper.nd rfl rfl (sw_true rfl rfl rfl (by decide +kernel)) (i_seq (d_ix ix_both loc_ix (d_var 1) d_int (fun _ _ => rfl))) (blkOk_by (N := N__law_sharper) (sc := defScope s__law_sharper) (by decide +kernel)) (fun _ _ _ _ _ => h_name 7 sc__law_sharper.nd) (fun _ _ _ _ _ => pts_nil) (fun _ _ _ _ _ => p_ty c_list (by rfl) B.list boot_list (p_var 7)))
    (ps_for PassesOwn.never rfl (i_rng1 (by rfl) B.range (a_cons (e_M 0 O__law_one hA (hr.mono (by decide)) (a_cons (d_lst (a_cons d_int (a_cons d_int (a_cons d_int a_nil)))) a_nil)) a_nil)) (h_name 3 sc__law_sharper.nd) (pss_cons (p_set 4 (p_item (ok_item__law_one B D1 O__law_take) hA (hr.mono (by decide)) (p_var 0) (p_var 2)) sc__law_sharper.nd) (pss_cons (p_set 5 (p_mut O__law_take hA (hr.mono (by decide)) (p_var 0) (p_bl c_len (by rfl) B.len PySem.boot_len (p_var 4))) sc__law_sharper.nd) (pss_one (ps_asg (pe_op L2.op_add (pe_ix ix_list (p_var 4) (p_var 5) (fun _ _ => rfl)) pe_int) (pg_sub (p_var 4) (p_var 5) set_list (by intro _; rfl)))))))
    (p_set 6 (p_pure O__law_tightened hA (hr.mono (by decide)) (p_ty c_tuple (by rfl) B.tuple boot_tuple (pe_lc (own := [(("_law_row" : Str), 4)]) rfl sc__law_sharper.nd (pi_list (p_var 2)) (blkOk_by (N := N__law_sharper) (sc := defScope s__law_sharper) (by decide +kernel)) (fun _ _ _ _ _ => h_name 4 sc__law_sharper.nd) (fun _ _ _ _ _ => pts_nil) (fun _ _ _ _ _ => p_ty c_tuple (by rfl) B.tuple boot_tuple (p_var 4)))) (e_P O__law_known_sizes hA (hr.mono (by decide)) (a_cons (d_var 1) a_nil))) sc__law_sharper.nd)
    (s_one (s_ret (d_ite (t_cmp op_isN loc_isN (d_var 6) d_non (nomark _)) (d_var 1) (d_tup (a_cons (d_ix ix_both loc_ix (d_var 1) d_int (fun _ _ => rfl)) (a_cons (d_var 6) a_nil)))))))
abbrev s__law_of_sizes : Stmt := topS 44
abbrev N__law_of_sizes : List Str := ["_law_bag_here", "_law_house_here", "_law_sizes_here", "_law_order", "_law_rows", "_law_size", "_law_words", "_law_at"]
abbrev P__law_of_sizes : List Str := ["_law_bag_here", "_law_house_here", "_law_sizes_here"]
theorem sc__law_of_sizes : FnScope N__law_of_sizes P__law_of_sizes (defScope s__law_of_sizes) := ⟨rfl, rfl, rfl, by decide +kernel, rfl, by decide +kernel, by decide +kernel⟩
theorem ok__law_of_sizes {P : Program} {w : World} {K : Fg} {mg : Str → Option Value} {base : Heap} (B : Blt mg) (D : Def K mg "_law_of_sizes" s__law_of_sizes P__law_of_sizes) (O__law_tightened : Ok P w K mg base 1 "_law_tightened" P__law_tightened (spP K 2 F__law_tightened)) (O__law_take : Ok P w K mg base 1 "_law_take" P__law_take (spM K 1 F__law_take)) (O__law_mixed : Ok P w K mg base 2 "_law_mixed" P__law_mixed (spM K 1 F__law_mixed)) :
    Ok P w K mg base 3 "_law_of_sizes" P__law_of_sizes (spM K 2 F__law_of_sizes) :=
  Ok.mut (N := N__law_of_sizes) D sc__law_of_sizes rfl (by decide) fun f cdv A outer s H E hA hr =>
    have hu := hu64 hr
    (s_cons (s_set 3 (d_callTy c_tuple (loc_one loc_tuple) (by rfl) B.tuple boot_tuple (a_cons (e_M 0 O__law_mixed hA (hr.mono (by decide)) (a_cons (d_lstR1 (by rfl) B.list (by rfl) B.range rfl (d_ix ix_both loc_ix (d_var 1) d_int (fun _ _ => rfl))) a_nil)) a_nil)) sc__law_of_sizes.nd)
    (s_cons (s_set 4 (d_lst a_nil) sc__law_of_sizes.nd)
    (s_cons (s_for PassesOwn.never rfl (i_seq (d_var 2)) (g_name 5 sc__law_of_sizes.nd) (s_one (s_expr (d_met (T := "list") 4 PySem.F.slot_list_append PySem.F.type_list_append mt_append locM_app (a_cons (d_callTy c_tuple (loc_one loc_tuple) (by rfl) B.tuple boot_tuple (a_cons (d_lc (own := [(("_law_at" : Str), 7)]) rfl sc__law_of_sizes.nd (i_rng1 (by rfl) B.range (a_cons (d_bin op_addAll loc_add (d_ix ix_both loc_ix (d_var 1) d_int (fun _ _ => rfl)) d_int) a_nil)) (blkOk_by (N := N__law_of_sizes) (sc := defScope s__law_of_sizes) (by decide +kernel)) (by decide) (fun _ _ _ _ _ => (g_name 7 sc__law_of_sizes.nd)) (fun _ _ _ _ _ => i_yes) (fun _ _ _ _ _ => (d_bin op_mulAll loc_mul (d_callB (c_min3 rfl) loc_three (by rfl) B.min boot_min (a_cons (d_var 7) (a_cons (d_var 5) (a_cons (e_M 0 O__law_take hA (hr.mono (by decide)) (a_cons (d_bin op_addAll loc_add (d_var 7) d_int) a_nil)) a_nil)))) (d_callTy c_intT (loc_one loc_intT) (by rfl) B.int boot_int (a_cons (d_cmp (op_eqQ hu) loc_eqQ (e_M 0 O__law_take hA (hr.mono (by decide)) (a_cons d_int a_nil)) d_int (nomark _)) a_nil))))) a_nil)) a_nil)))))
    (s_cons (s_set 6 (e_P O__law_tightened hA (hr.mono (by decide)) (a_cons (d_callTy c_tuple (loc_one loc_tuple) (by rfl) B.tuple boot_tuple (a_cons (d_var 4) a_nil)) (a_cons (d_var 2) a_nil))) sc__law_of_sizes.nd)
    (s_one (s_ret (d_tup (a_cons (d_var 3) (a_cons (d_ite (t_cmp op_notN loc_notN (d_var 6) d_non (nomark _)) (d_var 6) (e_P O__law_tightened hA (hr.mono (by decide)) (a_cons (d_bin op_mulAll loc_mul (d_tup (a_cons (d_bin op_mulAll loc_mul (d_tup (a_cons d_int a_nil)) (d_bin op_addAll loc_add (d_ix ix_both loc_ix (d_var 1) d_int (fun _ _ => rfl)) d_int)) a_nil)) (d_callB c_len (loc_one loc_len) (by rfl) B.len PySem.boot_len (a_cons (d_var 2) a_nil))) (a_cons (d_var 2) a_nil)))) a_nil)))))))))
abbrev s__law_some_known : Stmt := topS 45
abbrev N__law_some_known : List Str := ["_law_bag_here", "_law_house_here"]
abbrev P__law_some_known : List Str := ["_law_bag_here", "_law_house_here"]
theorem sc__law_some_known : FnScope N__law_some_known P__law_some_known (defScope s__law_some_known) := ⟨rfl, rfl, rfl, by decide +kernel, rfl, by decide +kernel, by decide +kernel⟩
theorem ok__law_some_known {P : Program} {w : World} {K : Fg} {mg : Str → Option Value} {base : Heap} (B : Blt mg) (D : Def K mg "_law_some_known" s__law_some_known P__law_some_known) (O__law_take : Ok P w K mg base 1 "_law_take" P__law_take (spM K 1 F__law_take)) (O__law_tight_known : Ok P w K mg base 3 "_law_tight_known" P__law_tight_known (spM K 1 F__law_tight_known)) (O__law_known : Ok P w K mg base 6 "_law_known" P__law_known (spM K 3 F__law_known)) :
    Ok P w K mg base 7 "_law_some_known" P__law_some_known (spM K 1 F__law_some_known) :=
  Ok.mut (N := N__law_some_known) D sc__law_some_known rfl (by decide) fun f cdv A outer s H E hA hr =>
    have hu := hu64 hr
    (s_one (s_ret (d_ite (t_cmp (op_eqQ hu) loc_eqQ (e_M 0 O__law_take hA (hr.mono (by decide)) (a_cons d_int a_nil)) d_int (nomark _)) (e_M 0 O__law_tight_known hA (hr.mono (by decide)) (a_cons (d_var 1) a_nil)) (d_ix ix_both loc_ix (e_M 0 O__law_known hA (hr.mono (by decide)) (a_cons (d_var 1) (a_cons d_int (a_cons d_int a_nil)))) d_int (fun _ _ => rfl)))))
abbrev s__law_states_that_fit : Stmt := topS 46
abbrev N__law_states_that_fit : List Str := ["_law_house_here", "_law_known_here", "_law_state_here"]
abbrev P__law_states_that_fit : List Str := ["_law_house_here", "_law_known_here"]
theorem sc__law_states_that_fit : FnScope N__law_states_that_fit P__law_states_that_fit (defScope s__law_states_that_fit) := ⟨rfl, rfl, rfl, by decide +kernel, rfl, by decide +kernel, by decide +kernel⟩
theorem ok__law_states_that_fit {P : Program} {w : World} {K : Fg} {mg : Str → Option Value} {base : Heap} (B : Blt mg) (D : Def K mg "_law_states_that_fit" s__law_states_that_fit P__law_states_that_fit) (O__law_all_states : Ok P w K mg base 1 "_law_all_states" P__law_all_states (spP K 1 F__law_all_states)) (O__law_fits : Ok P w K mg base 3 "_law_fits" P__law_fits (spP K 3 F__law_fits)) :
    Ok P w K mg base 4 "_law_states_that_fit" P__law_states_that_fit (spP K 2 F__law_states_that_fit) :=
  Ok.pure (N := N__law_states_that_fit) D sc__law_states_that_fit rfl (by decide) fun f cdv A outer s H E hA hr =>
    have hu := hu64 hr
    (s_one (s_ret (d_lc (own := [(("_law_state_here" : Str), 2)]) rfl sc__law_states_that_fit.nd (i_seq (e_P O__law_all_states hA (hr.mono (by decide)) (a_cons (d_var 0) a_nil))) (blkOk_by (N := N__law_states_that_fit) (sc := defScope s__law_states_that_fit) (by decide +kernel)) (by decide) (fun _ _ _ _ _ => (g_name 2 sc__law_states_that_fit.nd)) (fun _ _ _ _ _ => (i_one (t_val (e_P O__law_fits hA (hr.mono (by decide)) (a_cons (d_var 0) (a_cons (d_var 1) (a_cons (d_var 2) a_nil))))))) (fun _ _ _ _ _ => (d_var 2)))))
abbrev s__law_some_house : Stmt := topS 47
abbrev N__law_some_house : List Str := ["_law_bag_here", "_law_menu", "_law_things", "_law_house_here"]
abbrev P__law_some_house : List Str := ["_law_bag_here", "_law_menu"]
theorem sc__law_some_house : FnScope N__law_some_house P__law_some_house (defScope s__law_some_house) := ⟨rfl, rfl, rfl, by decide +kernel, rfl, by decide +kernel, by decide +kernel⟩
theorem ok__law_some_house {P : Program} {w : World} {K : Fg} {mg : Str → Option Value} {base : Heap} (B : Blt mg) (D : Def K mg "_law_some_house" s__law_some_house P__law_some_house) (O__law_take : Ok P w K mg base 1 "_law_take" P__law_take (spM K 1 F__law_take)) (O__law_house : Ok P w K mg base 3 "_law_house" P__law_house (spM K 3 F__law_house)) (O__law_one : Ok P w K mg base 2 "_law_one" P__law_one (spM K 1 F__law_one)) :
    Ok P w K mg base 4 "_law_some_house" P__law_some_house (spM K 1 F__law_some_house) :=
  Ok.mut (N := N__law_some_house) D sc__law_some_house rfl (by decide) fun f cdv A outer s H E hA hr =>
    have hu := hu64 hr
    (s_cons (s_set 2 (e_M 0 O__law_one hA (hr.mono (by decide)) (a_cons (d_var 1) a_nil)) sc__law_some_house.nd)
    (s_cons (s_set 3 (d_ite (t_cmp op_lt loc_i2b (d_var 2) d_int (nomark _)) (e_M 0 O__law_house hA (hr.mono (by decide)) (a_cons (d_var 2) (a_cons d_int (a_cons d_int a_nil)))) (e_M 0 O__law_house hA (hr.mono (by decide)) (a_cons (d_var 2) (a_cons d_int (a_cons d_int a_nil))))) sc__law_some_house.nd)
    (s_one (s_ret (d_ite (t_cmp op_gt loc_i2b (e_M 0 O__law_take hA (hr.mono (by decide)) (a_cons d_int a_nil)) d_int (nomark _)) (d_tup (a_cons (d_bin op_sub loc_i2i (d_var 2) (e_M 0 O__law_take hA (hr.mono (by decide)) (a_cons d_int a_nil))) (a_cons (d_ix ix_both loc_ix (d_var 3) d_int (fun _ _ => rfl)) a_nil))) (d_var 3))))))
abbrev s__law_bag : Stmt := topS 17
abbrev N__law_bag : List Str := ["_law_script", "_law_cell"]
abbrev P__law_bag : List Str := ["_law_script"]
theorem sc__law_bag : FnScope N__law_bag P__law_bag (defScope s__law_bag) := ⟨rfl, rfl, rfl, by decide +kernel, rfl, by decide +kernel, by decide +kernel⟩
theorem ok__law_bag {P : Program} {w : World} {K : Fg} {mg : Str → Option Value} {base : Heap} (B : Blt mg) (D : Def K mg "_law_bag" s__law_bag P__law_bag) : Ok P w K mg base 1 "_law_bag" P__law_bag (spB K) := by
  obtain ⟨f, fd, F, h1, h2, h3⟩ := D.ex
  refine ⟨f, fd, FnG.body (N := N__law_bag) F sc__law_bag (fun vs H Q E h => ?_) (fun cdv A outer s H vs Q E _ hA hr h => ?_), h1, h2, h3⟩
  · obtain ⟨a, ns, rfl, _⟩ := h; rfl
  · obtain ⟨a, ns, rfl, hS, ht, k⟩ := h
    refine ⟨_, pss_one (ps_ret (pe_lst (pa_cons pe_int (pa_cons pe_int (pa_cons pe_int (pa_cons ((pe_lc (own := [(("_law_cell" : Str), 1)]) rfl sc__law_bag.nd (i_scr (tl := K.T) (ns := ns)) (blkOk_by (N := N__law_bag) (sc := defScope s__law_bag) (by decide +kernel)) (fun _ _ _ _ _ => g_name 1 sc__law_bag.nd) (fun _ _ _ _ _ => i_yes)
      (fun _ _ _ _ _ => d_callB c_abs (loc_one loc_abs) (by rfl) B.abs boot_abs (a_cons (d_var 1) a_nil))).imp fun _ _ _ h => lc_scr (ns := ns) (by decide) h) pa_nil)))))), ?_⟩
    exact bag_read rfl hS ht k
abbrev s_law : Stmt := topS 48
abbrev N_law : List Str := ["_law_script", "_law_bag_here", "_law_turn", "_law_house_here", "_law_one_here", "_law_other", "_law_rows", "_law_words", "_law_shown", "_law_due", "_law_found", "_law_both", "_law_word", "_law_its", "_law_a", "_law_b", "_law_state_here"]
abbrev P_law : List Str := ["_law_script"]
theorem sc_law : FnScope N_law P_law (defScope s_law) := ⟨rfl, rfl, rfl, by decide +kernel, rfl, by decide +kernel, by decide +kernel⟩
theorem rest_law {P : Program} {w : World} {K : Fg} {mg : Str → Option Value} {base : Heap} (B : Blt mg) (O__law_alike : Ok P w K mg base 1 "_law_alike" P__law_alike (spP K 2 F__law_alike)) (O_lies_in : Ok P w K mg base 6 "lies_in" P_lies_in (spP K 3 F_lies_in)) (O__law_states_that_fit : Ok P w K mg base 4 "_law_states_that_fit" P__law_states_that_fit (spP K 2 F__law_states_that_fit)) (O__law_fits : Ok P w K mg base 3 "_law_fits" P__law_fits (spP K 3 F__law_fits)) (O_joint : Ok P w K mg base 2 "joint" P_joint (spP K 3 F_joint)) (O__law_tightened : Ok P w K mg base 1 "_law_tightened" P__law_tightened (spP K 2 F__law_tightened)) (O__law_known_sizes : Ok P w K mg base 1 "_law_known_sizes" P__law_known_sizes (spP K 1 F__law_known_sizes)) (O__law_take : Ok P w K mg base 1 "_law_take" P__law_take (spM K 1 F__law_take)) (O__law_sharper : Ok P w K mg base 3 "_law_sharper" P__law_sharper (spM K 1 F__law_sharper)) (O__law_of_sizes : Ok P w K mg base 3 "_law_of_sizes" P__law_of_sizes (spM K 2 F__law_of_sizes)) (O__law_some_known : Ok P w K mg base 7 "_law_some_known" P__law_some_known (spM K 1 F__law_some_known)) (O__law_some_house : Ok P w K mg base 4 "_law_some_house" P__law_some_house (spM K 1 F__law_some_house)) (f : Addr) (cdv : Value) (A : Around) (outer : List PySem.Env) (s : Shared) (H : Hp) (E : XK) (hA : (A.deeper (envOfC "law" (defScope s_law) s.heap.objs.size f cdv)).guards = some []) (hr : Room 7 (A.deeper (envOfC "law" (defScope s_law) s.heap.objs.size f cdv))) :
    PSs (cxOf CX0 P w K mg base N_law "law" (defScope s_law) f cdv A outer s H E).nox (defBody s_law).tail (RS K g_law) :=
    have hu := hu64 hr
    (s_cons (s_for PassesOwn.never rfl (i_rng1 (by rfl) B.range (a_cons d_int a_nil)) (g_name 2 sc_law.nd) (s_cons (s_set 3 (e_M 1 O__law_some_house hA (hr.mono (by decide)) (a_cons (d_lst (a_cons d_int (a_cons d_int (a_cons d_int (a_cons d_int a_nil))))) a_nil)) sc_law.nd)
    (s_cons (s_set 4 (e_M 1 O__law_some_known hA (hr.mono (by decide)) (a_cons (d_var 3) a_nil)) sc_law.nd)
    (s_cons (s_set 5 (d_tup (a_cons (d_ix ix_both loc_ix (d_var 4) d_int (fun _ _ => rfl)) (a_cons (d_ix ix_both loc_ix (e_M 1 O__law_of_sizes hA (hr.mono (by decide)) (a_cons (d_var 3) (a_cons (e_P O__law_known_sizes hA (hr.mono (by decide)) (a_cons (d_var 4) a_nil)) a_nil))) d_int (fun _ _ => rfl)) a_nil))) sc_law.nd)
    (s_cons (s_if (t_cmp (op_eqQ hu) loc_eqQ (e_M 1 O__law_take hA (hr.mono (by decide)) (a_cons d_int a_nil)) d_int (nomark _)) (s_one (s_set 5 (e_M 1 O__law_sharper hA (hr.mono (by decide)) (a_cons (e_M 1 O__law_sharper hA (hr.mono (by decide)) (a_cons (d_ite (t_cmp (op_eqQ hu) loc_eqQ (e_M 1 O__law_take hA (hr.mono (by decide)) (a_cons d_int a_nil)) d_int (nomark _)) (d_var 5) (d_var 4)) a_nil)) a_nil)) sc_law.nd)) s_nil)
    (s_cons (s_setLc 6 (own := [(("_law_word" : Str), 12), (("_law_its" : Str), 13)]) rfl sc_law.nd (sw_true rfl rfl rfl (by decide +kernel)) (i_zip (by rfl) B.zip (a_cons (d_ix ix_both loc_ix (d_var 4) d_int (fun _ _ => rfl)) (a_cons (d_ix ix_both loc_ix (d_var 5) d_int (fun _ _ => rfl)) a_nil))) (blkOk_by (N := N_law) (sc := defScope s_law) (by decide +kernel)) (by decide) (fun _ _ _ _ _ => (g_tup rfl (pgs_cons (h_name 12 sc_law.nd) (pgs_cons (h_name 13 sc_law.nd) pgs_nil)) rfl)) (fun _ _ _ _ _ => i_yes) (fun _ _ _ _ _ => (d_callTy c_tuple (loc_one loc_tuple) (by rfl) B.tuple boot_tuple (a_cons (d_lc (own := [(("_law_a" : Str), 14), (("_law_b" : Str), 15)]) rfl sc_law.nd (i_zip (by rfl) B.zip (a_cons (d_var 12) (a_cons (d_var 13) a_nil))) (blkOk_nest (N := N_law) (sc := defScope s_law) rfl rfl (by decide +kernel)) (by decide) (fun _ _ _ _ _ => (g_tup rfl (pgs_cons (h_name 14 sc_law.nd) (pgs_cons (h_name 15 sc_law.nd) pgs_nil)) rfl)) (fun _ _ _ _ _ => i_yes) (fun _ _ _ _ _ => (d_callB (c_max2 rfl) loc_max2 (by rfl) B.max boot_max (a_cons (d_var 14) (a_cons (d_var 15) a_nil))))) a_nil))))
    (s_cons (s_par2 rfl (by decide) sc_law.nd (a_cons (e_P O__law_tightened hA (hr.mono (by decide)) (a_cons (d_callTy c_tuple (loc_one loc_tuple) (by rfl) B.tuple boot_tuple (a_cons (d_var 6) a_nil)) (a_cons (e_P O__law_known_sizes hA (hr.mono (by decide)) (a_cons (d_var 4) a_nil)) a_nil))) (a_cons (d_callB (c_repr hA hu) (loc_one loc_repr) (by rfl) B.repr boot_repr (a_cons (d_lst (a_cons (d_var 4) (a_cons (d_var 5) a_nil))) a_nil)) a_nil)))
    (s_cons (s_set 9 (d_ite (t_cmp op_isN loc_isN (d_var 7) d_non (nomark _)) d_non (d_tup (a_cons (d_ix ix_both loc_ix (d_var 4) d_int (fun _ _ => rfl)) (a_cons (d_var 7) a_nil)))) sc_law.nd)
    (s_cons (s_set 10 (d_lst (a_cons (e_P O_joint hA (hr.mono (by decide)) (a_cons (d_var 3) (a_cons (d_var 4) (a_cons (d_var 5) a_nil)))) (a_cons (e_P O_joint hA (hr.mono (by decide)) (a_cons (d_var 3) (a_cons (d_var 5) (a_cons (d_var 4) a_nil)))) (a_cons (e_P O_joint hA (hr.mono (by decide)) (a_cons (d_var 3) (a_cons (d_var 4) (a_cons (d_var 5) a_nil)))) a_nil)))) sc_law.nd)
    (s_cons (s_if ((t_or (t_not (t_val (e_P O__law_alike hA (hr.mono (by decide)) (a_cons (d_var 10) (a_cons (d_bin op_mulAll loc_mul (d_lst (a_cons (d_var 9) a_nil)) d_int) a_nil))))) (t_or1 (t_cmp (op_neQ hu) loc_neQ (d_callB (c_repr hA hu) (loc_one loc_repr) (by rfl) B.repr boot_repr (a_cons (d_lst (a_cons (d_var 4) (a_cons (d_var 5) a_nil))) a_nil)) (d_var 8) (nomark _))))).pt (s_one (s_ret d_bl)) s_nil)
    (s_cons (s_if ((t_and (t_cmp op_lt loc_i2b (d_ix ix_both loc_ix (d_var 3) d_int (fun _ _ => rfl)) d_int (nomark _)) (t_and (t_cmp op_lt loc_i2b (d_callB (c_sum rfl) (loc_one loc_sum) (by rfl) B.sum boot_sum (a_cons (d_ix ix_both loc_ix (d_var 3) d_int (fun _ _ => rfl)) a_nil)) d_int (nomark _)) (t_and1 (t_cmp op_lt loc_i2b (d_callB c_len (loc_one loc_len) (by rfl) B.len PySem.boot_len (a_cons (d_ix ix_both loc_ix (d_var 3) d_int (fun _ _ => rfl)) a_nil)) d_int (nomark _)))))).pt (s_cons (s_setLc 11 (own := [(("_law_state_here" : Str), 16)]) rfl sc_law.nd (sw_true rfl rfl rfl (by decide +kernel)) (i_seq (e_P O__law_states_that_fit hA (hr.mono (by decide)) (a_cons (d_var 3) (a_cons (d_var 4) a_nil)))) (blkOk_by (N := N_law) (sc := defScope s_law) (by decide +kernel)) (by decide) (fun _ _ _ _ _ => (g_name 16 sc_law.nd)) (fun _ _ _ _ _ => (i_one (t_val (e_P O__law_fits hA (hr.mono (by decide)) (a_cons (d_var 3) (a_cons (d_var 5) (a_cons (d_var 16) a_nil))))))) (fun _ _ _ _ _ => (d_var 16)))
    (s_one (s_if (t_cmp (op_neQ hu) loc_neQ (d_var 11) (d_ite (t_cmp op_isN loc_isN (d_var 9) d_non (nomark _)) (d_lst a_nil) (e_P O__law_states_that_fit hA (hr.mono (by decide)) (a_cons (d_var 3) (a_cons (d_var 9) a_nil)))) (nomark _)) (s_one (s_ret d_bl)) s_nil))) s_nil)
    (s_one (s_if ((t_and (t_cmp op_notN loc_notN (d_var 9) d_non (nomark _)) (t_and1 (t_not (t_val (e_P O__law_alike hA (hr.mono (by decide)) (a_cons (d_lst (a_cons (e_P O_lies_in hA (hr.mono (by decide)) (a_cons (d_var 3) (a_cons (d_ix ix_both loc_ix (d_var 10) d_int (fun _ _ => rfl)) (a_cons (d_var 4) a_nil)))) (a_cons (e_P O_lies_in hA (hr.mono (by decide)) (a_cons (d_var 3) (a_cons (d_ix ix_both loc_ix (d_var 10) d_int (fun _ _ => rfl)) (a_cons (d_var 5) a_nil)))) a_nil))) (a_cons (d_lst (a_cons d_bl (a_cons d_bl a_nil))) a_nil)))))))).pt (s_one (s_ret d_bl)) s_nil)))))))))))))
    (s_one (s_ret d_bl)))
theorem ok_law {P : Program} {w : World} {K : Fg} {mg : Str → Option Value} {base : Heap} {f : Addr} {fd : FuncData} (B : Blt mg) (F : Fun K "law" "law" s_law f fd) (O__law_bag : Ok P w K mg base 1 "_law_bag" P__law_bag (spB K)) (O__law_alike : Ok P w K mg base 1 "_law_alike" P__law_alike (spP K 2 F__law_alike)) (O_lies_in : Ok P w K mg base 6 "lies_in" P_lies_in (spP K 3 F_lies_in)) (O__law_states_that_fit : Ok P w K mg base 4 "_law_states_that_fit" P__law_states_that_fit (spP K 2 F__law_states_that_fit)) (O__law_fits : Ok P w K mg base 3 "_law_fits" P__law_fits (spP K 3 F__law_fits)) (O_joint : Ok P w K mg base 2 "joint" P_joint (spP K 3 F_joint)) (O__law_tightened : Ok P w K mg base 1 "_law_tightened" P__law_tightened (spP K 2 F__law_tightened)) (O__law_known_sizes : Ok P w K mg base 1 "_law_known_sizes" P__law_known_sizes (spP K 1 F__law_known_sizes)) (O__law_take : Ok P w K mg base 1 "_law_take" P__law_take (spM K 1 F__law_take)) (O__law_sharper : Ok P w K mg base 3 "_law_sharper" P__law_sharper (spM K 1 F__law_sharper)) (O__law_of_sizes : Ok P w K mg base 3 "_law_of_sizes" P__law_of_sizes (spM K 2 F__law_of_sizes)) (O__law_some_known : Ok P w K mg base 7 "_law_some_known" P__law_some_known (spM K 1 F__law_some_known)) (O__law_some_house : Ok P w K mg base 4 "_law_some_house" P__law_some_house (spM K 1 F__law_some_house))
    (hg : ∀ ns : List Int, ns.length ≤ 63 → ∃ ρ', g_law (Cell.no :: Cell.op (bagD ns) :: List.replicate (N_law.length - 2) .no) = some (.rt (.cl (.bool true)) ρ')) : FnG P w K mg base CX0 8 f fd P_law (spL K) := by
  obtain ⟨fb, fdb, Gb, b1, b2, b3⟩ := O__law_bag
  refine FnG.body (N := N_law) F sc_law (fun vs H Q E h => ?_) (fun cdv A outer s H vs Q E _ hA hr h => ?_)
  · obtain ⟨a, ns, rfl, _⟩ := h; rfl
  · obtain ⟨a, ns, rfl, hS, hl, ht, q⟩ := h
    refine ⟨_, pss_cons (ps_set (i := 1) sc_law.nd rfl (Or.inl rfl) (g_call Gb hA (hr.mono (by decide)) rfl b1 b2 b3 pass0 (pa_cons (pe_var (i := 0) rfl (by first | exact Or.inl rfl | exact Or.inr (Or.inl rfl))) pa_nil))) (rest_law B O__law_alike O_lies_in O__law_states_that_fit O__law_fits O_joint O__law_tightened O__law_known_sizes O__law_take O__law_sharper O__law_of_sizes O__law_some_known O__law_some_house f cdv A outer s H E hA hr).nox, ?_⟩
    exact law_read (by decide) hS ht q (hg ns hl)
structure Tops (K : Fg) (mg : Str → Option Value) (lc__law_first_known : Addr) : Prop where
  blt : Blt mg
  D_known_sizes : Def K mg "known_sizes" s_known_sizes P_known_sizes
  D_greater_ones : Def K mg "greater_ones" s_greater_ones P_greater_ones
  D_state_of_lots : Def K mg "state_of_lots" s_state_of_lots P_state_of_lots
  D_state_with_lot : Def K mg "state_with_lot" s_state_with_lot P_state_with_lot
  D_number_within : Def K mg "number_within" s_number_within P_number_within
  D_can_be_together : Def K mg "can_be_together" s_can_be_together P_can_be_together
  D_choice_within : Def K mg "choice_within" s_choice_within P_choice_within
  D_least_within : Def K mg "least_within" s_least_within P_least_within
  D_cuts_of : Def K mg "cuts_of" s_cuts_of P_cuts_of
  D_state_beyond : Def K mg "state_beyond" s_state_beyond P_state_beyond
  D_lies_in : Def K mg "lies_in" s_lies_in P_lies_in
  D_joint : Def K mg "joint" s_joint P_joint
  D__law_take : Def K mg "_law_take" s__law_take P__law_take
  D__law_one : Def K mg "_law_one" s__law_one P__law_one
  D__law_mixed : Def K mg "_law_mixed" s__law_mixed P__law_mixed
  D__law_alike : Def K mg "_law_alike" s__law_alike P__law_alike
  D__law_flat : Def K mg "_law_flat" s__law_flat P__law_flat
  D__law_house : Def K mg "_law_house" s__law_house P__law_house
  D__law_rooms_within : Def K mg "_law_rooms_within" s__law_rooms_within P__law_rooms_within
  D__law_within : Def K mg "_law_within" s__law_within P__law_within
  D__law_sizes : Def K mg "_law_sizes" s__law_sizes P__law_sizes
  D__law_state : Def K mg "_law_state" s__law_state P__law_state
  D__law_full_state : Def K mg "_law_full_state" s__law_full_state P__law_full_state
  D__law_start : Def K mg "_law_start" s__law_start P__law_start
  D__law_done : Def K mg "_law_done" s__law_done P__law_done
  D__law_drawn_move : Def K mg "_law_drawn_move" s__law_drawn_move P__law_drawn_move
  D__law_run : Def K mg "_law_run" s__law_run P__law_run
  D__law_story : Def K mg "_law_story" s__law_story P__law_story
  D__law_all_states : Def K mg "_law_all_states" s__law_all_states P__law_all_states
  D__law_first_known : DefC K mg "_law_first_known" s__law_first_known P__law_first_known lc__law_first_known
  D__law_tightened : Def K mg "_law_tightened" s__law_tightened P__law_tightened
  D__law_known_sizes : Def K mg "_law_known_sizes" s__law_known_sizes P__law_known_sizes
  D__law_led : Def K mg "_law_led" s__law_led P__law_led
  D__law_led_by : Def K mg "_law_led_by" s__law_led_by P__law_led_by
  D__law_fits : Def K mg "_law_fits" s__law_fits P__law_fits
  D__law_tight_known : Def K mg "_law_tight_known" s__law_tight_known P__law_tight_known
  D__law_known : Def K mg "_law_known" s__law_known P__law_known
  D__law_sharper : Def K mg "_law_sharper" s__law_sharper P__law_sharper
  D__law_of_sizes : Def K mg "_law_of_sizes" s__law_of_sizes P__law_of_sizes
  D__law_some_known : Def K mg "_law_some_known" s__law_some_known P__law_some_known
  D__law_states_that_fit : Def K mg "_law_states_that_fit" s__law_states_that_fit P__law_states_that_fit
  D__law_some_house : Def K mg "_law_some_house" s__law_some_house P__law_some_house
  D__law_bag : Def K mg "_law_bag" s__law_bag P__law_bag
theorem whole {P : Program} {w : World} {K : Fg} {mg : Str → Option Value} {base : Heap} {f : Addr} {fd : FuncData} {lc__law_first_known lp__law_first_known : Addr} (TB__law_first_known : LamX.TabB base mg lc__law_first_known lp__law_first_known) (hP__law_first_known : lp__law_first_known ∈ K.T) (hq__law_first_known : nameAt lp__law_first_known = "_law_first_known.<locals>.<lambda>") (T : Tops K mg lc__law_first_known) (F : Fun K "law" "law" s_law f fd)
    (hg : ∀ ns : List Int, ns.length ≤ 63 → ∃ ρ', g_law (Cell.no :: Cell.op (bagD ns) :: List.replicate (N_law.length - 2) .no) = some (.rt (.cl (.bool true)) ρ')) : FnG P w K mg base CX0 8 f fd P_law (spL K) := by
  have O_known_sizes := ok_known_sizes (P := P) (w := w) (base := base) T.blt T.D_known_sizes 
  have O_greater_ones := ok_greater_ones (P := P) (w := w) (base := base) T.blt T.D_greater_ones 
  have O_state_of_lots := ok_state_of_lots (P := P) (w := w) (base := base) T.blt T.D_state_of_lots 
  have O_state_with_lot := ok_state_with_lot (P := P) (w := w) (base := base) T.blt T.D_state_with_lot O_state_of_lots O_known_sizes
  have O_number_within := ok_number_within (P := P) (w := w) (base := base) T.blt T.D_number_within O_state_with_lot
  have O_can_be_together := ok_can_be_together (P := P) (w := w) (base := base) T.blt T.D_can_be_together 
  have O_choice_within := ok_choice_within (P := P) (w := w) (base := base) T.blt T.D_choice_within O_can_be_together
  have O_least_within := ok_least_within (P := P) (w := w) (base := base) T.blt T.D_least_within O_number_within O_choice_within
  have O_cuts_of := ok_cuts_of (P := P) (w := w) (base := base) T.blt T.D_cuts_of 
  have O_state_beyond := ok_state_beyond (P := P) (w := w) (base := base) T.blt T.D_state_beyond O_cuts_of O_least_within
  have O_lies_in := ok_lies_in (P := P) (w := w) (base := base) T.blt T.D_lies_in O_known_sizes O_state_beyond
  have O_joint := ok_joint (P := P) (w := w) (base := base) T.blt T.D_joint O_greater_ones
  have O__law_take := ok__law_take (P := P) (w := w) (base := base) T.blt T.D__law_take 
  have O__law_one := ok__law_one (P := P) (w := w) (base := base) T.blt T.D__law_one O__law_take
  have O__law_mixed := ok__law_mixed (P := P) (w := w) (base := base) T.blt T.D__law_mixed O__law_take
  have O__law_alike := ok__law_alike (P := P) (w := w) (base := base) T.blt T.D__law_alike 
  have O__law_flat := ok__law_flat (P := P) (w := w) (base := base) T.blt T.D__law_flat 
  have O__law_house := ok__law_house (P := P) (w := w) (base := base) T.blt T.D__law_house O__law_one O__law_take
  have O__law_rooms_within := ok__law_rooms_within (P := P) (w := w) (base := base) T.blt T.D__law_rooms_within 
  have O__law_within := ok__law_within (P := P) (w := w) (base := base) T.blt T.D__law_within 
  have O__law_sizes := ok__law_sizes (P := P) (w := w) (base := base) T.blt T.D__law_sizes O__law_within
  have O__law_state := ok__law_state (P := P) (w := w) (base := base) T.blt T.D__law_state O__law_mixed O__law_one O__law_take
  have O__law_full_state := ok__law_full_state (P := P) (w := w) (base := base) T.blt T.D__law_full_state O__law_mixed O__law_flat
  have O__law_start := ok__law_start (P := P) (w := w) (base := base) T.blt T.D__law_start O__law_one O__law_state
  have O__law_done := ok__law_done (P := P) (w := w) (base := base) T.blt T.D__law_done 
  have O__law_drawn_move := ok__law_drawn_move (P := P) (w := w) (base := base) T.blt T.D__law_drawn_move O__law_one
  have O__law_run := ok__law_run (P := P) (w := w) (base := base) T.blt T.D__law_run O__law_done O__law_take O__law_drawn_move O__law_one O__law_mixed
  have O__law_story := ok__law_story (P := P) (w := w) (base := base) T.blt T.D__law_story O__law_run O__law_full_state
  have O__law_all_states := ok__law_all_states (P := P) (w := w) (base := base) T.blt T.D__law_all_states 
  have O__law_first_known := ok__law_first_known (P := P) (w := w) (base := base) TB__law_first_known hP__law_first_known hq__law_first_known T.blt T.D__law_first_known O__law_sizes O__law_rooms_within
  have O__law_tightened := ok__law_tightened (P := P) (w := w) (base := base) T.blt T.D__law_tightened 
  have O__law_known_sizes := ok__law_known_sizes (P := P) (w := w) (base := base) T.blt T.D__law_known_sizes 
  have O__law_led := ok__law_led (P := P) (w := w) (base := base) T.blt T.D__law_led O__law_tightened O__law_known_sizes
  have O__law_led_by := ok__law_led_by (P := P) (w := w) (base := base) T.blt T.D__law_led_by O__law_led
  have O__law_fits := ok__law_fits (P := P) (w := w) (base := base) T.blt T.D__law_fits O__law_sizes O__law_known_sizes
  have O__law_tight_known := ok__law_tight_known (P := P) (w := w) (base := base) T.blt T.D__law_tight_known O__law_tightened O__law_take O__law_one O__law_mixed
  have O__law_known := ok__law_known (P := P) (w := w) (base := base) T.blt T.D__law_known O__law_led_by O__law_first_known O__law_story O__law_one O__law_take O__law_start
  have O__law_sharper := ok__law_sharper (P := P) (w := w) (base := base) T.blt T.D__law_sharper T.D__law_one O__law_tightened O__law_known_sizes O__law_one O__law_take
  have O__law_of_sizes := ok__law_of_sizes (P := P) (w := w) (base := base) T.blt T.D__law_of_sizes O__law_tightened O__law_take O__law_mixed
  have O__law_some_known := ok__law_some_known (P := P) (w := w) (base := base) T.blt T.D__law_some_known O__law_take O__law_tight_known O__law_known
  have O__law_states_that_fit := ok__law_states_that_fit (P := P) (w := w) (base := base) T.blt T.D__law_states_that_fit O__law_all_states O__law_fits
  have O__law_some_house := ok__law_some_house (P := P) (w := w) (base := base) T.blt T.D__law_some_house O__law_take O__law_house O__law_one
  exact ok_law T.blt F (ok__law_bag T.blt T.D__law_bag) O__law_alike O_lies_in O__law_states_that_fit O__law_fits O_joint O__law_tightened O__law_known_sizes O__law_take O__law_sharper O__law_of_sizes O__law_some_known O__law_some_house hg
end K37
noncomputable section
namespace DL
open PySem L2
def MulOk (a q : Int) : Prop := a.natAbs.log2 + q.natAbs.log2 < 1000000 ∨ a.natAbs < 2 ^ 64 ∨ q.natAbs < 2 ^ 64
@[simp] theorem mulOk_r {a q : Int} (h : q.natAbs < 2 ^ 64) : MulOk a q := .inr (.inr h)
@[simp] theorem mulOk_l {a q : Int} (h : a.natAbs < 2 ^ 64) : MulOk a q := .inr (.inl h)
@[simp] theorem mulOk_mod {a k q : Int} (h0 : 0 < k) (h : k ≤ 2 ^ 64) : MulOk (a % k) q := by
  have h1 := Int.emod_nonneg a (show k ≠ 0 by omega)
  have h2 := Int.emod_lt_of_pos a h0
  exact .inr (.inl (by omega))
def kU (x : Option (Val × DL.Env)) (k : DL.Env → Val → Option (Val × DL.Env)) : Option (Val × DL.Env) := x.bind fun p => k p.2 p.1
def kB1 (x : Option (Val × DL.Env)) (f2 : ED) (k : DL.Env → Val → Val → Option (Val × DL.Env)) : Option (Val × DL.Env) := x.bind fun p => (f2 p.2).bind fun q => k q.2 p.1 q.1
def kB2 (x : Option (Val × DL.Env)) (r1 : Val) (k : DL.Env → Val → Val → Option (Val × DL.Env)) : Option (Val × DL.Env) := x.bind fun q => k q.2 r1 q.1
def kC1 (x : Option (Val × DL.Env)) (t : AD) : Option (List Val × DL.Env) := x.bind fun p => (t p.2).bind fun q => some (p.1 :: q.1, q.2)
def kC2 (x : Option (List Val × DL.Env)) (r : Val) : Option (List Val × DL.Env) := x.bind fun q => some (r :: q.1, q.2)
def kK (x : Option (List Val × DL.Env)) (k : DL.Env → List Val → Option (Val × DL.Env)) : Option (Val × DL.Env) := x.bind fun p => k p.2 p.1
def kT (x : Option (Val × DL.Env)) : Option (Bool × DL.Env) := x.bind fun p => match p.1 with
  | .cl (.bool b) => some (b, p.2)
  | _ => none
def kNot (x : Option (Bool × DL.Env)) : Option (Bool × DL.Env) := x.bind fun p => some (!p.1, p.2)
def kAnd (x : Option (Bool × DL.Env)) (c : TD) : Option (Bool × DL.Env) := x.bind fun p => if p.1 = true then c p.2 else some (false, p.2)
def kOr (x : Option (Bool × DL.Env)) (c : TD) : Option (Bool × DL.Env) := x.bind fun p => if p.1 = true then some (true, p.2) else c p.2
def kIf (x : Option (Bool × DL.Env)) (f g : ED) : Option (Val × DL.Env) := x.bind fun p => if p.1 = true then f p.2 else g p.2
def kAndD (x : Option (Val × DL.Env)) (f : ED) : Option (Val × DL.Env) := x.bind fun p => (boolOf p.1).bind fun b => if b = true then f p.2 else some (.cl (.bool false), p.2)
def kH1 (x : Option (Val × DL.Env)) (g h : ED) (k l : DL.Env → Val → Val → Option (Val × DL.Env)) : Option (Val × DL.Env) := x.bind fun p => (g p.2).bind fun q => if flatV' q.1 = false then none else (k q.2 p.1 q.1).bind fun s => (boolOf s.1).bind fun b =>
  if b = true then (h s.2).bind fun t => l t.2 q.1 t.1 else some (.cl (.bool false), s.2)
def kH2 (x : Option (Val × DL.Env)) (r : Val) (h : ED) (k l : DL.Env → Val → Val → Option (Val × DL.Env)) : Option (Val × DL.Env) := x.bind fun q => if flatV' q.1 = false then none else (k q.2 r q.1).bind fun s => (boolOf s.1).bind fun b =>
  if b = true then (h s.2).bind fun t => l t.2 q.1 t.1 else some (.cl (.bool false), s.2)
def kH3 (x : Option (Val × DL.Env)) (r : Val) (h : ED) (l : DL.Env → Val → Val → Option (Val × DL.Env)) : Option (Val × DL.Env) := x.bind fun s => (boolOf s.1).bind fun b =>
  if b = true then (h s.2).bind fun t => l t.2 r t.1 else some (.cl (.bool false), s.2)
def kS1 (x : Option (Val × DL.Env)) (lo hi : PD) (k : DL.Env → Val → Option Int → Option Int → Option (Val × DL.Env)) : Option (Val × DL.Env) := x.bind fun p => (lo p.2).bind fun q => (hi q.2).bind fun s => k s.2 p.1 q.1 s.1
def kS2 (x : Option (Option Int × DL.Env)) (r : Val) (hi : PD) (k : DL.Env → Val → Option Int → Option Int → Option (Val × DL.Env)) : Option (Val × DL.Env) := x.bind fun q => (hi q.2).bind fun s => k s.2 r q.1 s.1
def kS3 (x : Option (Option Int × DL.Env)) (r : Val) (o : Option Int) (k : DL.Env → Val → Option Int → Option Int → Option (Val × DL.Env)) : Option (Val × DL.Env) := x.bind fun s => k s.2 r o s.1
def kP (x : Option (Val × DL.Env)) : Option (Option Int × DL.Env) := x.bind fun p => match p.1 with
  | .cl (.int i) => some (some i, p.2)
  | _ => none
def kTup (x : Option (List PyData × DL.Env)) : Option (Val × DL.Env) := x.bind fun q => if q.1.length ≤ lim then some (.cl (.tuple q.1), q.2) else none
def kLst (x : Option (List PyData × DL.Env)) : Option (Val × DL.Env) := x.bind fun q => if q.1.length ≤ lim then some (.own q.1, q.2) else none
def kPs (x : Option (List Val × DL.Env)) : Option (List PyData × DL.Env) := x.bind fun p => psAll p.2 p.1
def kQ1 (x : Option (PyData × DL.Env)) (rs : List Val) : Option (List PyData × DL.Env) := x.bind fun p => (psAll p.2 rs).bind fun q => some (p.1 :: q.1, q.2)
def kQ2 (x : Option (List PyData × DL.Env)) (d : PyData) : Option (List PyData × DL.Env) := x.bind fun q => some (d :: q.1, q.2)
def kV (x : Option Val) (ρ1 ρ2 : DL.Env) : Option (Val × DL.Env) := x.bind fun r => if flatV' r = true then some (r, ρ1) else some (r, ρ2)
def kF (x : Option (List PyData × DL.Env)) (ρ1 : DL.Env) (n : Nat) (F : FP) : Option (Val × DL.Env) := x.bind fun q => if q.1.length = n then kV (F q.1) ρ1 q.2 else none
def kF0 (x : Option (List Val × DL.Env)) (n : Nat) (F : FP) : Option (Val × DL.Env) := x.bind fun p => kF (psAll p.2 p.1) p.2 n F
def kW (x : Option (Val × List PyData)) (ρ : DL.Env) (j : Nat) (k : Bool) : Option (Val × DL.Env) := x.bind fun s => some (s.1, opSet ρ j k s.2)
def kM2 (x : Option (Bool × List PyData)) (ρ : DL.Env) (j : Nat) (ds : List PyData) (n : Nat) (F : FM) : Option (Val × DL.Env) := x.bind fun c => if ds.length = n then kW (F c.2 ds) ρ j c.1 else none
def kM1 (x : Option (List PyData × DL.Env)) (j n : Nat) (F : FM) : Option (Val × DL.Env) := x.bind fun q => kM2 (opAt q.2 j) q.2 j q.1 n F
def kM0 (x : Option (Bool × List PyData)) (j n : Nat) (F : FM) (y : Option (List PyData × DL.Env)) : Option (Val × DL.Env) := x.bind fun _ => kM1 y j n F
def kSq (x : Option Out) (h : SD) : Option Out := x.bind fun o => match o with
  | .nx ρ' => h ρ'
  | o => some o
def kIS (x : Option (Bool × DL.Env)) (g h : SD) : Option Out := x.bind fun p => if p.1 = true then g p.2 else h p.2
def kR (x : Option (Val × DL.Env)) : Option Out := x.bind fun p => some (.rt p.1 p.2)
def kD (x : Option (Val × DL.Env)) : Option Out := x.bind fun p => some (.nx p.2)
def kN (x : Option DL.Env) : Option Out := x.map .nx
def kSet (x : Option (Val × DL.Env)) (i : Nat) : Option Out := x.bind fun p => kN (stV p.2 i p.1)
def kStA (x : Option DL.Env) (is : List Nat) (rs : List Val) : Option DL.Env := x.bind fun ρ => stAll ρ is rs
def kStV (x : Option (PyData × DL.Env)) (i : Nat) : Option DL.Env := x.map fun p => p.2.set i (.cl p.1)
def kAug (x : Option (Val × DL.Env)) (i : Nat) (a : Int) (k : Int → Int → Int) : Option Out := x.bind fun p => match p.1 with
    | .cl (.int b) => some (.nx (p.2.set i (.cl (.int (k a b)))))
    | _ => none
def kUn2 (x : Option (PyData × DL.Env)) (tg : GD) : Option Out := x.bind fun q => kN (tg q.2 q.1)
def kUn1 (x : Option (Val × DL.Env)) (tg : GD) : Option Out := x.bind fun p => kUn2 (psV p.2 p.1) tg
def kPar (x : Option (List Val × DL.Env)) (is : List Nat) : Option Out := x.bind fun p => if p.1.all notSl = true ∧ p.1.length ≤ lim then kN (stAll p.2 is p.1) else none
def kI4 (m : Option Nat) (ρ : DL.Env) (j : Nat) (k : Bool) (ds : List PyData) (d : PyData) : Option Out := m.bind fun m => some (.nx (opSet ρ j k (ds.set m d)))
def kI3 (x : Option (Bool × List PyData)) (ρ : DL.Env) (j : Nat) (i : Int) (d : PyData) : Option Out := x.bind fun c => kI4 (ixN c.2.length i) ρ j c.1 c.2 d
def kI2 (x : Option (PyData × DL.Env)) (j : Nat) (i : Int) : Option Out := x.bind fun s => kI3 (opAt s.2 j) s.2 j i s.1
def kI1 (x : Option (Val × DL.Env)) (r : Val) (j : Nat) : Option Out := x.bind fun q => match q.1 with
  | .cl (.int i) => kI2 (psV q.2 r) j i
  | _ => none
def kI0 (x : Option (Val × DL.Env)) (fi : ED) (j : Nat) : Option Out := x.bind fun p => (opAt p.2 j).bind fun _ => kI1 (fi p.2) p.1 j
def kA3 (x : Option (Val × DL.Env)) (j : Nat) (i : Int) (b : Int) (k : Int → Int → Int) : Option Out := x.bind fun p => match p.1 with
  | .cl (.int c) => kI3 (opAt p.2 j) p.2 j i (.int (k b c))
  | _ => none
def kA2 (x : Option PyData) (ρ : DL.Env) (f : ED) (j : Nat) (i : Int) (k : Int → Int → Int) : Option Out := x.bind fun d => match d with
  | .int b => kA3 (f ρ) j i b k
  | _ => none
def kA1 (x : Option (Val × DL.Env)) (f : ED) (j : Nat) (k : Int → Int → Int) : Option Out := x.bind fun q => match q.1 with
  | .cl (.int i) => (opAt q.2 j).bind fun c => kA2 (atI c.2 i) q.2 f j i k
  | _ => none
def kE3 (x : Option (Val × List PyData × DL.Env)) (j : Nat) : Option (Val × DL.Env) := x.bind fun q => (opAt q.2.2 j).bind fun c => some (q.1, opSet q.2.2 j c.1 q.2.1)
def kE1 (x : Option (List Val × DL.Env)) (j : Nat) (k : MG) : Option (Val × DL.Env) := x.bind fun p => (opAt p.2 j).bind fun c => kE3 (k p.2 c.2 p.1) j
def kAp (x : Option (PyData × DL.Env)) (ds : List PyData) : Option (Val × List PyData × DL.Env) := x.bind fun p => if ds.length < lim then some (.cl .none, ds ++ [p.1], p.2) else none
def kIn (x : Option (PyData × DL.Env)) (ds : List PyData) (k : Int) : Option (Val × List PyData × DL.Env) := x.bind fun p => if ds.length < lim ∧ 0 ≤ k ∧ k ≤ lim then some (.cl .none, ds.take k.toNat ++ [p.1] ++ ds.drop k.toNat, p.2) else none
def kFor (x : Option (List PyData × DL.Env)) (tg : GD) (g : SD) : Option Out := x.bind fun p => loopD tg g p.1 p.2
def kG1 (x : Option (List Val × DL.Env)) : Option (List PyData × DL.Env) := x.bind fun p => match p.1 with
  | [.cl (.int j)] => if -lim ≤ j ∧ j ≤ lim then some (rngD 0 j.toNat 1, p.2) else none
  | _ => none
def kG2 (x : Option (List Val × DL.Env)) : Option (List PyData × DL.Env) := x.bind fun p => match p.1 with
  | [.cl (.int i), .cl (.int j)] => if (-lim ≤ i ∧ i ≤ lim) ∧ -lim ≤ j ∧ j ≤ lim then some (rngD i (j - i).toNat 1, p.2) else none
  | _ => none
def kG3 (x : Option (List Val × DL.Env)) : Option (List PyData × DL.Env) := x.bind fun p => match p.1 with
  | [.cl (.int i), .cl (.int j), .cl (.int c)] => if ((-lim ≤ i ∧ i ≤ lim) ∧ -lim ≤ j ∧ j ≤ lim) ∧ c = -1 then some (rngD i (i - j).toNat (-1), p.2) else none
  | _ => none
def kIt (x : Option (PyData × DL.Env)) : Option (List PyData × DL.Env) := x.bind fun q => match q.1 with
  | .list ds => some (ds, q.2)
  | .tuple ds => some (ds, q.2)
  | _ => none
def kPv (x : Option (Val × DL.Env)) : Option (PyData × DL.Env) := x.bind fun p => psV p.2 p.1
def kZp (x : Option (List PyData × DL.Env)) : Option (List PyData × DL.Env) := x.bind fun q => match q.1 with
  | [x, y] => (itemsOf x).bind fun xs => (itemsOf y).map fun ys => (zipD xs ys, q.2)
  | _ => none
def kEn (x : Option (List PyData × DL.Env)) : Option (List PyData × DL.Env) := x.bind fun q => match q.1 with
  | [x] => (itemsOf x).map fun xs => (enumD xs, q.2)
  | _ => none
def kRg (x : Option (Val × DL.Env)) (mk : List PyData → Val) : Option (Val × DL.Env) := x.bind fun p => match p.1 with
  | .cl (.int n) => if -lim ≤ n ∧ n ≤ lim then some (mk (rngD 0 n.toNat 1), p.2) else none
  | _ => none
def kXt (x : Option PyData) (ρ : DL.Env) : Option (Val × DL.Env) := x.map fun d => (.cl d, ρ)
def kIx (x : Option (Bool × List PyData)) (ρ : DL.Env) (i : Int) : Option (Val × DL.Env) := x.bind fun q => kXt (atI q.2 i) ρ
def kCu (x : Option (Bool × List PyData)) (ρ : DL.Env) (lo hi : Option Int) : Option (Val × DL.Env) := x.bind fun q => if q.1 = true then some (.own (cutD q.2 lo hi), ρ) else some (.cl (.tuple (cutD q.2 lo hi)), ρ)
def kLn (x : Option (Bool × List PyData)) (ρ : DL.Env) : Option (Val × DL.Env) := x.map fun p => (.cl (.int p.2.length), ρ)
def kLs (x : Option (Bool × List PyData)) (ρ : DL.Env) : Option (Val × DL.Env) := x.map fun p => (.own p.2, ρ)
def kTp (x : Option (Bool × List PyData)) (ρ : DL.Env) : Option (Val × DL.Env) := x.map fun p => (.cl (.tuple p.2), ρ)
def kBl (x : Option (List Bool)) (ρ : DL.Env) (k : List Bool → Bool) : Option (Val × DL.Env) := x.map fun bs => (.cl (.bool (k bs)), ρ)
section
variable {ρ ρ' ρ1 : DL.Env} {f f1 f2 : ED} {t : AD} {c c1 c2 : TD} {g h : SD} {i j n : Nat} {r r1 : Val} {rs : List Val} {d : PyData} {ds : List PyData} {b : Bool} {lo hi : PD} {o : Option Int} {tg : GD}
@[simp] theorem open_no : Cell.isOpen .no = false := rfl
@[simp] theorem open_cl : Cell.isOpen (.cl d) = false := rfl
@[simp] theorem open_op : Cell.isOpen (.op ds) = true := rfl
@[simp] theorem open_pm : Cell.isOpen (.pm ds) = true := rfl
@[simp] theorem open_dk {t : Bool} {es : List (PyData × PyData)} : Cell.isOpen (.dk t es) = true := rfl
@[simp] theorem e_var : varD i ρ = match ρ.getD i .no with
  | .no => none
  | .cl d => some (.cl d, ρ)
  | .op _ => some (.sl i, ρ)
  | .pm _ => some (.sl i, ρ)
  | .dk _ _ => none := rfl
@[simp] theorem e_con : conD d ρ = some (.cl d, ρ) := rfl
@[simp] theorem e_un {k} : unD f k ρ = kU (f ρ) k := rfl
@[simp] theorem e_bin {k} : binD f1 f2 k ρ = kB1 (f1 ρ) f2 k := rfl
@[simp] theorem e_nil : anil ρ = some ([], ρ) := rfl
@[simp] theorem e_cons : acons f t ρ = kC1 (f ρ) t := rfl
@[simp] theorem e_call {k} : callD t k ρ = kK (t ρ) k := rfl
@[simp] theorem e_test : testD f ρ = kT (f ρ) := rfl
@[simp] theorem e_not : notT c ρ = kNot (c ρ) := rfl
@[simp] theorem e_and : andT c1 c2 ρ = kAnd (c1 ρ) c2 := rfl
@[simp] theorem e_or : orT c1 c2 ρ = kOr (c1 ρ) c2 := rfl
@[simp] theorem e_ite : iteD c f1 f2 ρ = kIf (c ρ) f1 f2 := rfl
@[simp] theorem e_yes : yesT ρ = some (true, ρ) := rfl
@[simp] theorem e_andD : andD f1 f2 ρ = kAndD (f1 ρ) f2 := rfl
@[simp] theorem e_chain {k l} : chainD f f1 f2 k l ρ = kH1 (f ρ) f1 f2 k l := rfl
@[simp] theorem e_slice {k} : sliceD f lo hi k ρ = kS1 (f ρ) lo hi k := rfl
@[simp] theorem e_noP : noP ρ = some (none, ρ) := rfl
@[simp] theorem e_aP : aP f ρ = kP (f ρ) := rfl
@[simp] theorem e_tup : tupD t ρ = kTup (kPs (t ρ)) := by
  unfold tupD callD kTup kPs
  cases t ρ <;> rfl
@[simp] theorem e_lst : lstD t ρ = kLst (kPs (t ρ)) := by
  unfold lstD callD kLst kPs
  cases t ρ <;> rfl
@[simp] theorem e_ps0 : psAll ρ [] = some ([], ρ) := rfl
@[simp] theorem e_ps1 : psAll ρ (r :: rs) = kQ1 (psV ρ r) rs := rfl
@[simp] theorem e_psC : psV ρ (.cl d) = some (d, ρ) := rfl
@[simp] theorem e_psO : psV ρ (.own ds) = some (.list ds, ρ) := rfl
@[simp] theorem e_psS : psV ρ (.sl i) = match ρ.getD i .no with
  | .op ds => some (.list ds, ρ.set i (.cl (.list ds)))
  | .cl d => some (d, ρ)
  | _ => none := rfl
@[simp] theorem e_callP {F : FP} : callP n F t ρ = kF0 (t ρ) n F := rfl
@[simp] theorem e_callM {F : FM} : callM j n F t ρ = kM0 (opAt ρ j) j n F (kPs (t ρ)) := by
  unfold callM kM0 kPs kM1
  cases opAt ρ j with
  | none => rfl
  | some c => cases t ρ <;> rfl
@[simp] theorem e_opAt : opAt ρ j = match ρ.getD j .no with
  | .op ds => some (true, ds)
  | .pm ds => some (false, ds)
  | _ => none := rfl
@[simp] theorem e_opSetT : opSet ρ j true ds = ρ.set j (.op ds) := rfl
@[simp] theorem e_opSetF : opSet ρ j false ds = ρ.set j (.pm ds) := rfl
@[simp] theorem e_nilS : nilS ρ = some (.nx ρ) := rfl
@[simp] theorem e_seq : seqS g h ρ = kSq (g ρ) h := rfl
@[simp] theorem e_ifS : ifS c g h ρ = kIS (c ρ) g h := rfl
@[simp] theorem e_ret : retS f ρ = kR (f ρ) := rfl
@[simp] theorem e_drop : dropS f ρ = kD (f ρ) := rfl
@[simp] theorem e_set : setS i f ρ = kSet (f ρ) i := rfl
@[simp] theorem e_stC : stV ρ i (.cl d) = some (ρ.set i (.cl d)) := rfl
@[simp] theorem e_stO : stV ρ i (.own ds) = some (ρ.set i (.op ds)) := rfl
@[simp] theorem e_stS : stV ρ i (.sl j) = kStV (psV ρ (.sl j)) i := rfl
@[simp] theorem e_stN : stAll ρ [] [] = some ρ := rfl
@[simp] theorem e_stA {is : List Nat} : stAll ρ (i :: is) (r :: rs) = kStA (stV ρ i r) is rs := rfl
@[simp] theorem e_aug {k : Int → Int → Int} : augS i f k ρ = match ρ.getD i .no with
  | .cl (.int a) => kAug (f ρ) i a k
  | _ => none := rfl
@[simp] theorem e_unp : unpS tg f ρ = kUn1 (f ρ) tg := rfl
@[simp] theorem e_par {is : List Nat} : parS is t ρ = kPar (t ρ) is := rfl
@[simp] theorem e_notSlC : notSl (.cl d) = true := rfl
@[simp] theorem e_notSlO : notSl (.own ds) = true := rfl
@[simp] theorem e_name : nameT i ρ d = some (ρ.set i (.cl d)) := rfl
@[simp] theorem e_tupT {is : List Nat} : tupT is ρ (.tuple ds) = if ds.length = is.length then some (setCls ρ is ds) else none := rfl
@[simp] theorem e_setCls {is : List Nat} : setCls ρ (i :: is) (d :: ds) = setCls (ρ.set i (.cl d)) is ds := rfl
@[simp] theorem e_setCls0 : setCls ρ [] ds = ρ := by cases ds <;> rfl
@[simp] theorem e_setIx : setIx j f1 f ρ = kI0 (f ρ) f1 j := by
  unfold setIx kI0
  cases f ρ with
  | none => rfl
  | some p =>
    show (opAt p.2 j).bind _ = (opAt p.2 j).bind _
    congr 1
    funext _
    unfold kI1
    cases f1 p.2 with
    | none => rfl
    | some q =>
      show (match q.1 with | .cl (.int i) => _ | _ => none) = (match q.1 with | .cl (.int i) => _ | _ => none)
      split
      · rename_i i
        unfold kI2
        cases psV q.2 p.1 with
        | none => rfl
        | some s =>
          unfold kI3
          show (match opAt s.2 j with | some (k, ds) => _ | none => none) = (opAt s.2 j).bind _
          cases opAt s.2 j <;> rfl
      · rfl
@[simp] theorem e_augIx {k : Int → Int → Int} : augIx j f1 f k ρ = (match opAt ρ j with
  | some _ => kA1 (f1 ρ) f j k
  | none => none) := by
  unfold augIx
  cases opAt ρ j with
  | none => rfl
  | some c0 =>
    show (f1 ρ).bind _ = _
    unfold kA1
    cases f1 ρ with
    | none => rfl
    | some q =>
      show (match q.1 with | .cl (.int i) => _ | _ => none) = (match q.1 with | .cl (.int i) => _ | _ => none)
      split
      · rename_i i _
        cases opAt q.2 j with
        | none => rfl
        | some c =>
          show (match atI c.2 i with | some (.int b) => _ | _ => none) = _
          show _ = kA2 (atI c.2 i) q.2 f j i k
          unfold kA2
          cases atI c.2 i with
          | none => rfl
          | some d =>
            cases d with
            | int b =>
              show (f q.2).bind _ = kA3 (f q.2) j i b k
              unfold kA3
              cases f q.2 with
              | none => rfl
              | some p =>
                show (match p.1 with | .cl (.int c) => _ | _ => none) = (match p.1 with | .cl (.int c) => _ | _ => none)
                split
                · unfold kI3
                  cases opAt p.2 j <;> rfl
                · rfl
            | _ => rfl
      · rfl
@[simp] theorem e_met {k : MG} : metD j t k ρ = (match opAt ρ j with
  | some _ => kE1 (t ρ) j k
  | none => none) := by
  unfold metD
  cases opAt ρ j with
  | none => rfl
  | some c0 =>
    show (t ρ).bind _ = _
    unfold kE1
    cases t ρ with
    | none => rfl
    | some p =>
      show (match opAt p.2 j with | some (_, ds) => _ | none => none) = (opAt p.2 j).bind _
      cases opAt p.2 j with
      | none => rfl
      | some c =>
        show (k p.2 c.2 p.1).bind _ = kE3 (k p.2 c.2 p.1) j
        unfold kE3
        cases k p.2 c.2 p.1 with
        | none => rfl
        | some q =>
          show (match opAt q.2.2 j with | some (kk, _) => _ | none => none) = (opAt q.2.2 j).bind _
          cases opAt q.2.2 j <;> rfl
@[simp] theorem e_app : appG ρ ds [r] = kAp (psV ρ r) ds := rfl
@[simp] theorem e_ins {k : Int} : insG ρ ds [.cl (.int k), r] = kIn (psV ρ r) ds k := rfl
@[simp] theorem e_for {fi : ID} : forS fi tg g ρ = kFor (fi ρ) tg g := rfl
@[simp] theorem e_rng1 : rng1I t ρ = kG1 (t ρ) := rfl
@[simp] theorem e_rng2 : rng2I t ρ = kG2 (t ρ) := rfl
@[simp] theorem e_rng3 : rng3I t ρ = kG3 (t ρ) := rfl
@[simp] theorem e_seqI : seqI f ρ = kIt (kPv (f ρ)) := by
  unfold seqI kPv kIt
  cases f ρ <;> rfl
@[simp] theorem e_zip : zipI t ρ = kZp (kPs (t ρ)) := by
  unfold zipI kPs kZp
  cases t ρ <;> rfl
@[simp] theorem e_enum : enumI t ρ = kEn (kPs (t ρ)) := by
  unfold enumI kPs kEn
  cases t ρ <;> rfl
@[simp] theorem e_itL : itemsOf (.list ds) = some ds := rfl
@[simp] theorem e_itT : itemsOf (.tuple ds) = some ds := rfl
@[simp] theorem e_rg1 {mk : List PyData → Val} : rg1 f mk ρ = kRg (f ρ) mk := rfl
@[simp] theorem e_lstR1 : lstR1 f ρ = kRg (f ρ) .own := rfl
@[simp] theorem e_tupR1 : tupR1 f ρ = kRg (f ρ) fun ds => .cl (.tuple ds) := rfl
@[simp] theorem s_U {k} : kU (some (r, ρ)) k = k ρ r := rfl
@[simp] theorem s_B1 {k} : kB1 (some (r, ρ)) f2 k = kB2 (f2 ρ) r k := rfl
@[simp] theorem s_B2 {k} : kB2 (some (r, ρ)) r1 k = k ρ r1 r := rfl
@[simp] theorem s_C1 : kC1 (some (r, ρ)) t = kC2 (t ρ) r := rfl
@[simp] theorem s_C2 : kC2 (some (rs, ρ)) r = some (r :: rs, ρ) := rfl
@[simp] theorem s_K {k} : kK (some (rs, ρ)) k = k ρ rs := rfl
@[simp] theorem s_T : kT (some (.cl (.bool b), ρ)) = some (b, ρ) := rfl
@[simp] theorem s_Not : kNot (some (b, ρ)) = some (!b, ρ) := rfl
@[simp] theorem s_And : kAnd (some (b, ρ)) c = if b = true then c ρ else some (false, ρ) := rfl
@[simp] theorem s_Or : kOr (some (b, ρ)) c = if b = true then some (true, ρ) else c ρ := rfl
@[simp] theorem s_If : kIf (some (b, ρ)) f1 f2 = if b = true then f1 ρ else f2 ρ := rfl
@[simp] theorem s_AndD : kAndD (some (.cl (.bool b), ρ)) f = if b = true then f ρ else some (.cl (.bool false), ρ) := rfl
@[simp] theorem s_H1 {k l} : kH1 (some (r, ρ)) f1 f2 k l = kH2 (f1 ρ) r f2 k l := rfl
@[simp] theorem s_H2 {k l} {a : Int} : kH2 (some (.cl (.int a), ρ)) r f2 k l = kH3 (k ρ r (.cl (.int a))) (.cl (.int a)) f2 l := rfl
@[simp] theorem s_H3 {l} : kH3 (some (.cl (.bool b), ρ)) r f2 l = if b = true then kB2 (f2 ρ) r l else some (.cl (.bool false), ρ) := rfl
@[simp] theorem s_S1 {k} : kS1 (some (r, ρ)) lo hi k = kS2 (lo ρ) r hi k := rfl
@[simp] theorem s_S2 {k} : kS2 (some (o, ρ)) r hi k = kS3 (hi ρ) r o k := rfl
@[simp] theorem s_S3 {k} {o' : Option Int} : kS3 (some (o', ρ)) r o k = k ρ r o o' := rfl
@[simp] theorem s_P {a : Int} : kP (some (.cl (.int a), ρ)) = some (some a, ρ) := rfl
@[simp] theorem s_Tup (h : ds.length ≤ 1000000) : kTup (some (ds, ρ)) = some (.cl (.tuple ds), ρ) := if_pos (by first | exact h | (rw [lim_eq]; exact h))
@[simp] theorem s_Lst (h : ds.length ≤ 1000000) : kLst (some (ds, ρ)) = some (.own ds, ρ) := if_pos (by first | exact h | (rw [lim_eq]; exact h))
@[simp] theorem s_Ps : kPs (some (rs, ρ)) = psAll ρ rs := rfl
@[simp] theorem s_Q1 : kQ1 (some (d, ρ)) rs = kQ2 (psAll ρ rs) d := rfl
@[simp] theorem s_Q2 : kQ2 (some (ds, ρ)) d = some (d :: ds, ρ) := rfl
@[simp] theorem s_F0 {F : FP} : kF0 (some (rs, ρ)) n F = kF (psAll ρ rs) ρ n F := rfl
@[simp] theorem s_F {F : FP} : kF (some (ds, ρ)) ρ1 n F = if ds.length = n then kV (F ds) ρ1 ρ else none := rfl
@[simp] theorem s_V : kV (some r) ρ ρ1 = if flatV' r = true then some (r, ρ) else some (r, ρ1) := rfl
@[simp] theorem s_W {k : Bool} : kW (some (r, ds)) ρ j k = some (r, opSet ρ j k ds) := rfl
@[simp] theorem s_M0 {F : FM} {q : Bool × List PyData} {y} : kM0 (some q) j n F y = kM1 y j n F := rfl
@[simp] theorem s_M1 {F : FM} : kM1 (some (ds, ρ)) j n F = kM2 (opAt ρ j) ρ j ds n F := rfl
@[simp] theorem s_M2 {F : FM} {k : Bool} {cs : List PyData} : kM2 (some (k, cs)) ρ j ds n F = if ds.length = n then kW (F cs ds) ρ j k else none := rfl
@[simp] theorem s_SqN : kSq (some (.nx ρ)) h = h ρ := rfl
@[simp] theorem s_SqR : kSq (some (.rt r ρ)) h = some (.rt r ρ) := rfl
@[simp] theorem s_SqC : kSq (some (.ct ρ)) h = some (.ct ρ) := rfl
@[simp] theorem s_SqB : kSq (some (.bk ρ)) h = some (.bk ρ) := rfl
@[simp] theorem s_IS : kIS (some (b, ρ)) g h = if b = true then g ρ else h ρ := rfl
@[simp] theorem s_R : kR (some (r, ρ)) = some (.rt r ρ) := rfl
@[simp] theorem s_D : kD (some (r, ρ)) = some (.nx ρ) := rfl
@[simp] theorem s_N : kN (some ρ) = some (.nx ρ) := rfl
@[simp] theorem s_Set : kSet (some (r, ρ)) i = kN (stV ρ i r) := rfl
@[simp] theorem s_StA {is : List Nat} : kStA (some ρ) is rs = stAll ρ is rs := rfl
@[simp] theorem s_StV : kStV (some (d, ρ)) i = some (ρ.set i (.cl d)) := rfl
@[simp] theorem s_Aug {a q : Int} {k : Int → Int → Int} : kAug (some (.cl (.int q), ρ)) i a k = some (.nx (ρ.set i (.cl (.int (k a q))))) := rfl
@[simp] theorem s_Un1 : kUn1 (some (r, ρ)) tg = kUn2 (psV ρ r) tg := rfl
@[simp] theorem s_Un2 : kUn2 (some (d, ρ)) tg = kN (tg ρ d) := rfl
@[simp] theorem s_Par {is : List Nat} (h1 : rs.all notSl = true) (h2 : rs.length ≤ 1000000) : kPar (some (rs, ρ)) is = kN (stAll ρ is rs) := if_pos ⟨h1, by rw [lim_eq]; exact h2⟩
@[simp] theorem s_I4 {m : Nat} {k : Bool} : kI4 (some m) ρ j k ds d = some (.nx (opSet ρ j k (ds.set m d))) := rfl
@[simp] theorem s_I3 {a : Int} {k : Bool} : kI3 (some (k, ds)) ρ j a d = kI4 (ixN ds.length a) ρ j k ds d := rfl
@[simp] theorem s_I2 {a : Int} : kI2 (some (d, ρ)) j a = kI3 (opAt ρ j) ρ j a d := rfl
@[simp] theorem s_I1 {a : Int} : kI1 (some (.cl (.int a), ρ)) r j = kI2 (psV ρ r) j a := rfl
@[simp] theorem s_I0 : kI0 (some (r, ρ)) f j = (match opAt ρ j with
  | some _ => kI1 (f ρ) r j
  | none => none) := by
  show (opAt ρ j).bind _ = _
  cases opAt ρ j <;> rfl
@[simp] theorem s_A3 {a q z : Int} {k : Int → Int → Int} : kA3 (some (.cl (.int q), ρ)) j a z k = kI3 (opAt ρ j) ρ j a (.int (k z q)) := rfl
@[simp] theorem s_A2 {a z : Int} {k : Int → Int → Int} : kA2 (some (.int z)) ρ f j a k = kA3 (f ρ) j a z k := rfl
@[simp] theorem s_A1 {a : Int} {k : Int → Int → Int} : kA1 (some (.cl (.int a), ρ)) f j k = (match opAt ρ j with
  | some c => kA2 (atI c.2 a) ρ f j a k
  | none => none) := by
  show (opAt ρ j).bind _ = _
  cases opAt ρ j <;> rfl
@[simp] theorem s_E3 : kE3 (some (r, ds, ρ)) j = (match opAt ρ j with
  | some c => some (r, opSet ρ j c.1 ds)
  | none => none) := by
  show (opAt ρ j).bind _ = _
  cases opAt ρ j <;> rfl
@[simp] theorem s_E1 {k : MG} : kE1 (some (rs, ρ)) j k = (match opAt ρ j with
  | some c => kE3 (k ρ c.2 rs) j
  | none => none) := by
  show (opAt ρ j).bind _ = _
  cases opAt ρ j <;> rfl
@[simp] theorem s_Ap (h : ds.length < 1000000) : kAp (some (d, ρ)) ds = some (.cl .none, ds ++ [d], ρ) := if_pos (by first | exact h | (rw [lim_eq]; exact h))
@[simp] theorem s_In {k : Int} (h1 : ds.length < 1000000) (h2 : 0 ≤ k) (h3 : k ≤ 1000000) : kIn (some (d, ρ)) ds k = some (.cl .none, ds.take k.toNat ++ [d] ++ ds.drop k.toNat, ρ) := if_pos ⟨by rw [lim_eq]; exact h1, h2, by rw [lim_eq]; exact h3⟩
@[simp] theorem s_For : kFor (some (ds, ρ)) tg g = loopD tg g ds ρ := rfl
@[simp] theorem s_G1 {a : Int} (h1 : -1000000 ≤ a) (h2 : a ≤ 1000000) : kG1 (some ([.cl (.int a)], ρ)) = some (rngD 0 a.toNat 1, ρ) := if_pos ⟨by rw [lim_eq]; exact h1, by rw [lim_eq]; exact h2⟩
@[simp] theorem s_G2 {a q : Int} (h1 : -1000000 ≤ a) (h2 : a ≤ 1000000) (h3 : -1000000 ≤ q) (h4 : q ≤ 1000000) : kG2 (some ([.cl (.int a), .cl (.int q)], ρ)) = some (rngD a (q - a).toNat 1, ρ) := if_pos ⟨⟨by rw [lim_eq]; exact h1, by rw [lim_eq]; exact h2⟩, by rw [lim_eq]; exact h3, by rw [lim_eq]; exact h4⟩
@[simp] theorem s_G3 {a q : Int} (h1 : -1000000 ≤ a) (h2 : a ≤ 1000000) (h3 : -1000000 ≤ q) (h4 : q ≤ 1000000) : kG3 (some ([.cl (.int a), .cl (.int q), .cl (.int (-1))], ρ)) = some (rngD a (a - q).toNat (-1), ρ) := if_pos ⟨⟨⟨by rw [lim_eq]; exact h1, by rw [lim_eq]; exact h2⟩, by rw [lim_eq]; exact h3, by rw [lim_eq]; exact h4⟩, rfl⟩
@[simp] theorem s_ItL : kIt (some (.list ds, ρ)) = some (ds, ρ) := rfl
@[simp] theorem s_ItT : kIt (some (.tuple ds, ρ)) = some (ds, ρ) := rfl
@[simp] theorem s_Pv : kPv (some (r, ρ)) = psV ρ r := rfl
@[simp] theorem s_Zp {x y : PyData} : kZp (some ([x, y], ρ)) = (itemsOf x).bind fun xs => (itemsOf y).map fun ys => (zipD xs ys, ρ) := rfl
@[simp] theorem s_En {x : PyData} : kEn (some ([x], ρ)) = (itemsOf x).map fun xs => (enumD xs, ρ) := rfl
@[simp] theorem s_Rg {a : Int} {mk : List PyData → Val} (h1 : -1000000 ≤ a) (h2 : a ≤ 1000000) : kRg (some (.cl (.int a), ρ)) mk = some (mk (rngD 0 a.toNat 1), ρ) := if_pos ⟨by rw [lim_eq]; exact h1, by rw [lim_eq]; exact h2⟩
@[simp] theorem s_Xt : kXt (some d) ρ = some (.cl d, ρ) := rfl
@[simp] theorem s_Ix {a : Int} : kIx (some (b, ds)) ρ a = kXt (atI ds a) ρ := rfl
@[simp] theorem s_CuT {o' : Option Int} : kCu (some (true, ds)) ρ o o' = some (.own (cutD ds o o'), ρ) := rfl
@[simp] theorem s_CuF {o' : Option Int} : kCu (some (false, ds)) ρ o o' = some (.cl (.tuple (cutD ds o o')), ρ) := rfl
@[simp] theorem s_Ln : kLn (some (b, ds)) ρ = some (.cl (.int ds.length), ρ) := rfl
@[simp] theorem s_Ls : kLs (some (b, ds)) ρ = some (.own ds, ρ) := rfl
@[simp] theorem s_Tp : kTp (some (b, ds)) ρ = some (.cl (.tuple ds), ρ) := rfl
@[simp] theorem s_Bl {k : List Bool → Bool} {bs : List Bool} : kBl (some bs) ρ k = some (.cl (.bool (k bs)), ρ) := rfl
@[simp] theorem e_flatI {a : Int} : flatV' (.cl (.int a)) = true := rfl
@[simp] theorem e_flatB : flatV' (.cl (.bool b)) = true := rfl
@[simp] theorem e_flatN : flatV' (.cl .none) = true := rfl
@[simp] theorem e_flatS {x : Str} : flatV' (.cl (.str x)) = true := rfl
@[simp] theorem e_flatT : flatV' (.cl (.tuple ds)) = false := rfl
@[simp] theorem e_flatL : flatV' (.cl (.list ds)) = false := rfl
@[simp] theorem e_flatO : flatV' (.own ds) = false := rfl
@[simp] theorem e_int {k : Int → Int → Option PyData} {a q : Int} : intG k ρ (.cl (.int a)) (.cl (.int q)) = kXt (k a q) ρ := rfl
@[simp] theorem e_neg {a : Int} : negG ρ (.cl (.int a)) = some (.cl (.int (-a)), ρ) := rfl
@[simp] theorem e_add {a q : Int} : addG ρ (.cl (.int a)) (.cl (.int q)) = some (.cl (.int (a + q)), ρ) := rfl
@[simp] theorem e_mulI {a q : Int} (h : MulOk a q) : mulG ρ (.cl (.int a)) (.cl (.int q)) = some (.cl (.int (a * q)), ρ) := if_pos (by first | exact h | (rw [lim_eq]; exact h))
@[simp] theorem e_addT {xs ys : List PyData} (h : xs.length + ys.length ≤ 1000000) : addG ρ (.cl (.tuple xs)) (.cl (.tuple ys)) = some (.cl (.tuple (xs ++ ys)), ρ) := if_pos (by first | exact h | (rw [lim_eq]; exact h))
@[simp] theorem e_addO {xs ys : List PyData} (h : xs.length + ys.length ≤ 1000000) : addG ρ (.own xs) (.own ys) = some (.own (xs ++ ys), ρ) := if_pos (by first | exact h | (rw [lim_eq]; exact h))
@[simp] theorem e_mulT {xs : List PyData} {a : Int} (h1 : -1000 ≤ a) (h2 : a ≤ 1000) (h3 : xs.length ≤ 1000) : mulG ρ (.cl (.tuple xs)) (.cl (.int a)) = some (.cl (.tuple (List.replicate a.toNat xs).flatten), ρ) := if_pos ⟨h1, h2, h3⟩
@[simp] theorem e_seqC : seqOf ρ (.cl (.list ds)) = some (true, ds) := rfl
@[simp] theorem e_seqT : seqOf ρ (.cl (.tuple ds)) = some (false, ds) := rfl
@[simp] theorem e_seqO : seqOf ρ (.own ds) = some (true, ds) := rfl
@[simp] theorem e_seqS : seqOf ρ (.sl i) = match ρ.getD i .no with
    | .op ds => some (true, ds)
    | .pm ds => some (true, ds)
    | .cl (.list ds) => some (true, ds)
    | _ => none := rfl
@[simp] theorem e_datC : datOf ρ (.cl d) = some d := rfl
@[simp] theorem e_datO : datOf ρ (.own ds) = some (.list ds) := rfl
@[simp] theorem e_datS : datOf ρ (.sl i) = match ρ.getD i .no with
    | .op ds => some (.list ds)
    | .pm ds => some (.list ds)
    | .cl d => some d
    | _ => none := rfl
@[simp] theorem e_ix {a : Val} {k : Int} : ixG ρ a (.cl (.int k)) = kIx (seqOf ρ a) ρ k := by
  unfold ixG
  cases seqOf ρ a <;> rfl
@[simp] theorem e_cut {a : Val} {o' : Option Int} : cutG ρ a o o' = kCu (seqOf ρ a) ρ o o' := by
  unfold cutG
  cases seqOf ρ a with
  | none => rfl
  | some q => obtain ⟨b, ds⟩ := q; cases b <;> rfl
@[simp] theorem e_one {k} {a : Val} : oneG k ρ [a] = k ρ a := rfl
@[simp] theorem e_two {k} {a q : Val} : twoG k ρ [a, q] = k ρ a q := rfl
@[simp] theorem e_max2 {a q : Int} : max2G ρ [.cl (.int a), .cl (.int q)] = some (.cl (.int (max a q)), ρ) := by
  show some (Val.cl (.int (if q > a then q else a)), ρ) = _
  congr 4
  simp only [Int.max_def]
  split <;> split <;> omega
@[simp] theorem e_min2 {a q : Int} : min2G ρ [.cl (.int a), .cl (.int q)] = some (.cl (.int (min a q)), ρ) := by
  show some (Val.cl (.int (if q < a then q else a)), ρ) = _
  congr 4
  simp only [Int.min_def]
  split <;> split <;> omega
@[simp] theorem e_max3 {a q k : Int} : threeG mx3 ρ [.cl (.int a), .cl (.int q), .cl (.int k)] = some (.cl (.int (max (max a q) k)), ρ) := by
  show some (Val.cl (.int (mx3 a q k)), ρ) = _
  congr 4
  simp only [mx3, Int.max_def]
  (repeat' split) <;> omega
@[simp] theorem e_min3 {a q k : Int} : threeG mn3 ρ [.cl (.int a), .cl (.int q), .cl (.int k)] = some (.cl (.int (min (min a q) k)), ρ) := by
  show some (Val.cl (.int (mn3 a q k)), ρ) = _
  congr 4
  simp only [mn3, Int.min_def]
  (repeat' split) <;> omega
@[simp] theorem e_lenT : lenG ρ (.cl (.tuple ds)) = some (.cl (.int ds.length), ρ) := rfl
@[simp] theorem e_lenL : lenG ρ (.cl (.list ds)) = some (.cl (.int ds.length), ρ) := rfl
@[simp] theorem e_lenO : lenG ρ (.own ds) = some (.cl (.int ds.length), ρ) := rfl
@[simp] theorem e_lenS : lenG ρ (.sl i) = kLn (seqOf ρ (.sl i)) ρ := rfl
@[simp] theorem e_abs {a : Int} : absG ρ (.cl (.int a)) = some (.cl (.int (if a < 0 then -a else a)), ρ) := rfl
@[simp] theorem e_intT {a : Int} : intTG ρ (.cl (.int a)) = some (.cl (.int a), ρ) := rfl
@[simp] theorem e_intB : intTG ρ (.cl (.bool b)) = some (.cl (.int (if b then 1 else 0)), ρ) := rfl
@[simp] theorem e_list {a : Val} : listG ρ a = kLs (seqOf ρ a) ρ := rfl
@[simp] theorem e_tuple {a : Val} : tupleG ρ a = kTp (seqOf ρ a) ρ := rfl
@[simp] theorem e_qua {k : List Bool → Bool} : quaG k ρ (.own ds) = kBl (blsOf ds) ρ k := rfl
@[simp] theorem e_any {a : Val} : anyG ρ [a] = quaG (fun bs => bs.any id) ρ a := rfl
@[simp] theorem e_all {a : Val} : allG ρ [a] = quaG (fun bs => bs.all id) ρ a := rfl
@[simp] theorem e_isN {neg : Bool} : isNG' neg ρ (.cl d) (.cl .none) = some (.cl (.bool (neg ^^ isNV (.cl d))), ρ) := rfl
@[simp] theorem e_isN0 : isNV (.cl .none) = true := rfl
@[simp] theorem e_isN1 : isNV (.cl (.tuple ds)) = false := rfl
@[simp] theorem e_isN2 {k : Int} : isNV (.cl (.int k)) = false := rfl
@[simp] theorem e_eqI {k : Bool} {a q : Int} : eqQ k ρ (.cl (.int a)) (.cl (.int q)) = some (.cl (.bool (k ^^ decide (a = q))), ρ) := by
  show (if SeqAt.shaped (.int a) = true ∧ SeqAt.shaped (.int q) = true then some (Val.cl (.bool (k ^^ PyData.eqv (.int a) (.int q))), ρ) else none) = _
  rw [if_pos ⟨rfl, rfl⟩]
  rfl
@[simp] theorem e_eqS {k : Bool} {a q : Str} : eqQ k ρ (.cl (.str a)) (.cl (.str q)) = some (.cl (.bool (k ^^ decide (a = q))), ρ) := rfl
theorem atI_nat' {α : Type} {xs : List α} {k : Int} {n : Nat} (h : k = n) (hn : n < xs.length) : atI xs k = xs[n]? := by
  subst h
  rw [List.getElem?_eq_getElem hn]
  exact atI_nat (List.getElem?_eq_getElem hn)
theorem ixN_nat {n m : Nat} {k : Int} (h : k = m) (hm : m < n) : ixN n k = some m := by
  subst h
  unfold ixN
  simp only [Int.natCast_nonneg, if_true, Int.toNat_natCast]
  rw [if_pos]
  exact_mod_cast hm
@[simp] theorem atI0 {α : Type} {x : α} {l : List α} : atI (x :: l) 0 = some x := atI_nat (j := 0) rfl
@[simp] theorem atI1 {α : Type} {x y : α} {l : List α} : atI (x :: y :: l) 1 = some y := atI_nat (j := 1) rfl
@[simp] theorem atI2 {α : Type} {x y z : α} {l : List α} : atI (x :: y :: z :: l) 2 = some z := atI_nat (j := 2) rfl
@[simp] theorem atI3 {α : Type} {x y z u : α} {l : List α} : atI (x :: y :: z :: u :: l) 3 = some u := atI_nat (j := 3) rfl
theorem ixN0 {n : Nat} (h : 0 < n) : ixN n 0 = some 0 := ixN_nat rfl h
theorem ixN1 {n : Nat} (h : 1 < n) : ixN n 1 = some 1 := ixN_nat rfl h
theorem ixN2 {n : Nat} (h : 2 < n) : ixN n 2 = some 2 := ixN_nat rfl h
@[simp] theorem e_mod {a q : Int} : modG a q = if 0 < q then some (.int (a % q)) else none := rfl
@[simp] theorem e_pow18 : powG 10 18 = some (.int 1000000000000000000) := rfl
@[simp] theorem e_fdiv {a q : Int} (h0 : 0 < q) (h1 : q ≤ 4611686018427387904) : fdivG a q = some (.int (a / q)) := by
  refine if_pos ⟨h0, ?_⟩
  have h2 : q.natAbs < 2 ^ 8999 := Nat.lt_of_le_of_lt (show q.natAbs ≤ 4611686018427387904 by omega) (by decide)
  rw [Nat.log2_lt (by omega)]
  exact Nat.lt_trans h2 (by decide)
def kMr (x : Option Val) (cs : List PyData) : Option (Val × List PyData) := x.map fun v => (v, cs)
def kM (x : Option Out) : Option (Val × List PyData) := x.bind fun o => match o with
  | .rt r ρ' => match ρ'.getD 0 .no with
    | .pm cs' => kMr (retV ρ' r) cs'
    | _ => none
  | .nx ρ' => match ρ'.getD 0 .no with
    | .pm cs' => some (.cl .none, cs')
    | _ => none
  | _ => none
def kPu (x : Option Out) : Option Val := x.bind fun o => match o with
  | .rt r ρ' => retV ρ' r
  | .nx _ => some (.cl .none)
  | _ => none
theorem e_runM {cs : List PyData} : runM n g cs ds = kM (g (argM n cs ds)) := rfl
theorem e_runP : runP n g ds = kPu (g (argE n ds)) := rfl
@[simp] theorem s_M {cs : List PyData} {l : DL.Env} : kM (some (.rt r (.pm cs :: l))) = kMr (retV (.pm cs :: l) r) cs := rfl
@[simp] theorem s_Mn {cs : List PyData} {l : DL.Env} : kM (some (.nx (.pm cs :: l))) = some (.cl .none, cs) := rfl
@[simp] theorem s_Mr {cs : List PyData} : kMr (some r) cs = some (r, cs) := rfl
@[simp] theorem s_Pr : kPu (some (.rt r ρ)) = retV ρ r := rfl
@[simp] theorem s_Pn : kPu (some (.nx ρ)) = some (.cl .none) := rfl
@[simp] theorem e_retC : retV ρ (.cl d) = some (.cl d) := rfl
@[simp] theorem e_retO : retV ρ (.own ds) = some (.own ds) := rfl
@[simp] theorem e_retS : retV ρ (.sl i) = match ρ.getD i .no with
    | .op ds => some (.own ds)
    | .cl d => some (.cl d)
    | _ => none := rfl
end
theorem cutD_from {α : List PyData} {o : Option Int} : ∃ k, cutD α o none = α.drop k := ⟨_, by
  unfold cutD
  rw [HT.sIx_none]
  exact List.take_of_length_le (by rw [List.length_drop]; exact Nat.le_refl _)⟩
end DL
end
namespace LW
open PySem L2 DL
structure Bag where
  a : Int
  b : Int
  c : Int
  ns : List Int
  h : ns.length ≤ 63
def Bag.toD (B : Bag) : List PyData := [.int B.a, .int B.b, .int B.c, .list (B.ns.map .int)]
theorem head_int (ns : List Int) (k : Nat) : ∃ z, atI ((ns.map PyData.int).drop k ++ [.int 0]) 0 = some (.int z) := by
  rw [← List.map_drop]
  cases ns.drop k with
  | nil => exact ⟨0, by simp⟩
  | cons a l => exact ⟨a, by simp⟩
theorem take_ok (B : Bag) (m : Int) (hm : 0 < m) (hl : m ≤ 4611686018427387904) : ∃ v B', F__law_take B.toD [.int m] = some (.cl (.int v), Bag.toD B') ∧ 0 ≤ v ∧ v < m := by
  obtain ⟨a, b, c, ns, hns⟩ := B
  unfold F__law_take g__law_take
  rw [e_runM]
  have hmod : ∀ x : Int, 0 ≤ x % m ∧ x % m < m := fun x => ⟨Int.emod_nonneg _ (by omega), Int.emod_lt_of_pos _ hm⟩
  have fin : ∀ (x : Option (Val × List PyData)) (v a' b' c' : Int), x = some (.cl (.int (v % m)), [.int a', .int b', .int c', .list (ns.map .int)]) → ∃ v B', x = some (.cl (.int v), Bag.toD B') ∧ 0 ≤ v ∧ v < m :=
    fun x v a' b' c' h => ⟨v % m, ⟨a', b', c', ns, hns⟩, h, hmod v⟩
  by_cases h1 : a = 0
  · obtain ⟨k, hk⟩ := cutD_from (α := ns.map PyData.int) (o := some c)
    obtain ⟨z, hz⟩ := head_int ns k
    have hlen : (ns.length - k) + 1 ≤ 1000000 := by omega
    subst h1
    by_cases h2 : z ≥ 1000000000000000000
    · have h3 : 0 < z := by omega
      apply fin
      simp [argM, Bag.toD, ixN0, ixN1, ixN2, hk, hz, h2, hlen, h3, hm, hl]
      first | exact ⟨rfl, rfl, rfl, rfl⟩ | rfl
    · apply fin
      simp [argM, Bag.toD, ixN0, ixN1, ixN2, hk, hz, h2, hlen, hm, hl]
      first | exact ⟨rfl, rfl, rfl, rfl⟩ | rfl
  · by_cases h2 : 0 < a
    · apply fin
      simp [argM, Bag.toD, ixN0, ixN1, ixN2, h1, h2, hm, hl]
      first | exact ⟨rfl, rfl, rfl, rfl⟩ | rfl
    · apply fin
      simp [argM, Bag.toD, ixN0, ixN1, ixN2, h1, h2, hm, hl]
      first | exact ⟨rfl, rfl, rfl, rfl⟩ | rfl
end LW
noncomputable section
namespace DL
open PySem L2
section
variable {tg : GD} {body : SD}
inductive Goes (I : DL.Env → Prop) (R : Val → DL.Env → Prop) : Out → Prop
  | nx {ρ} : I ρ → Goes I R (.nx ρ)
  | ct {ρ} : I ρ → Goes I R (.ct ρ)
  | rt {r ρ} : R r ρ → Goes I R (.rt r ρ)
theorem loop_any (I : Nat → DL.Env → Prop) (R : Val → DL.Env → Prop) : ∀ (ds : List PyData) (k : Nat) (ρ : DL.Env), I k ρ →
    (∀ i d ρ, ds[i]? = some d → I (k + i) ρ → ∃ ρ1 o, tg ρ d = some ρ1 ∧ body ρ1 = some o ∧ Goes (I (k + i + 1)) R o) →
    ∃ o, loopD tg body ds ρ = some o ∧ ((∃ ρ', o = .nx ρ' ∧ I (k + ds.length) ρ') ∨ ∃ r ρ', o = .rt r ρ' ∧ R r ρ')
  | [], k, ρ, h, _ => ⟨.nx ρ, rfl, .inl ⟨ρ, rfl, h⟩⟩
  | d :: ds, k, ρ, h, hs => by
    obtain ⟨ρ1, o, e1, e2, g⟩ := hs 0 d ρ rfl h
    have hs' : ∀ i d' ρ, ds[i]? = some d' → I (k + 1 + i) ρ → ∃ ρ1 o, tg ρ d' = some ρ1 ∧ body ρ1 = some o ∧ Goes (I (k + 1 + i + 1)) R o := fun i d' ρ e hi => by
      have := hs (i + 1) d' ρ (by simpa using e) (by rwa [show k + (i + 1) = k + 1 + i by omega])
      rwa [show k + (i + 1) + 1 = k + 1 + i + 1 by omega] at this
    have el : k + 1 + ds.length = k + (d :: ds).length := by rw [List.length_cons]; omega
    cases g with
    | nx hi =>
      obtain ⟨o', e3, h3⟩ := loop_any I R ds (k + 1) _ hi hs'
      rw [el] at h3
      refine ⟨o', ?_, h3⟩
      show (tg ρ d).bind _ = _
      rw [e1]
      show (body ρ1).bind _ = _
      rw [e2]
      exact e3
    | ct hi =>
      obtain ⟨o', e3, h3⟩ := loop_any I R ds (k + 1) _ hi hs'
      rw [el] at h3
      refine ⟨o', ?_, h3⟩
      show (tg ρ d).bind _ = _
      rw [e1]
      show (body ρ1).bind _ = _
      rw [e2]
      exact e3
    | rt hr =>
      rename_i r ρ'
      refine ⟨.rt r ρ', ?_, .inr ⟨r, ρ', rfl, hr⟩⟩
      show (tg ρ d).bind _ = _
      rw [e1]
      show (body ρ1).bind _ = _
      rw [e2]
      rfl
/-- a loop that never leaves -/
theorem loop_all (I : Nat → DL.Env → Prop) {ds : List PyData} {ρ : DL.Env} (h0 : I 0 ρ)
    (hs : ∀ i d ρ, ds[i]? = some d → I i ρ → ∃ ρ1 ρ2, tg ρ d = some ρ1 ∧ body ρ1 = some (.nx ρ2) ∧ I (i + 1) ρ2) : ∃ ρ', loopD tg body ds ρ = some (.nx ρ') ∧ I ds.length ρ' := by
  obtain ⟨o, e, h⟩ := loop_any (tg := tg) (body := body) I (fun _ _ => False) ds 0 ρ h0 (fun i d ρ hd hi => by
    rw [Nat.zero_add] at hi
    obtain ⟨ρ1, ρ2, e1, e2, h⟩ := hs i d ρ hd hi
    exact ⟨ρ1, _, e1, e2, .nx (by rwa [Nat.zero_add])⟩)
  rcases h with ⟨ρ', rfl, h⟩ | ⟨_, _, _, z⟩
  · exact ⟨ρ', e, by rwa [Nat.zero_add] at h⟩
  · exact z.elim
theorem rngD_len (a : Int) (n : Nat) (c : Int) : (rngD a n c).length = n := by
  unfold rngD
  rw [List.length_map, List.length_range]
/-- over a range -/
theorem loop_rg (I : Nat → DL.Env → Prop) {a c : Int} {n : Nat} {ρ : DL.Env} (h0 : I 0 ρ)
    (hs : ∀ i ρ, i < n → I i ρ → ∃ ρ1 ρ2, tg ρ (.int (a + i * c)) = some ρ1 ∧ body ρ1 = some (.nx ρ2) ∧ I (i + 1) ρ2) : ∃ ρ', loopD tg body (rngD a n c) ρ = some (.nx ρ') ∧ I n ρ' := by
  obtain ⟨ρ', e, h⟩ := loop_all (tg := tg) (body := body) I (ds := rngD a n c) h0 (fun i d ρ hd hi => by
    obtain ⟨h1, rfl⟩ := rng_get hd
    exact hs i ρ h1 hi)
  exact ⟨ρ', e, by rwa [rngD_len] at h⟩
end
@[simp] theorem e_wipe0 {ρ : DL.Env} : wipeE ρ [] = ρ := rfl
@[simp] theorem e_wipe {ρ : DL.Env} {v : Nat} {vs : List Nat} : wipeE ρ (v :: vs) = (wipeE ρ vs).set v .no := rfl
@[simp] theorem e_rest0 {ρ ρ0 : DL.Env} : restE ρ ρ0 [] = ρ := rfl
@[simp] theorem e_rest {ρ ρ0 : DL.Env} {v : Nat} {vs : List Nat} : restE ρ ρ0 (v :: vs) = (restE ρ ρ0 vs).set v (ρ0.getD v .no) := rfl
section
variable {own : List Nat} {fi : ID} {tg : GD} {tt : TD} {te : ED}
theorem lcL (I : Nat → List PyData → DL.Env → Prop) : ∀ (ds : List PyData) (k : Nat) (acc : List PyData) (ρ : DL.Env), I k acc ρ →
    (∀ i d acc ρ, ds[i]? = some d → I (k + i) acc ρ → ∃ ρ1 b ρ2, tg ρ d = some ρ1 ∧ tt ρ1 = some (b, ρ2) ∧
      if b = true then ∃ r ρ3 x ρ4, te ρ2 = some (r, ρ3) ∧ psV ρ3 r = some (x, ρ4) ∧ acc.length < lim ∧ I (k + i + 1) (acc ++ [x]) (wipeE ρ4 own) else I (k + i + 1) acc (wipeE ρ2 own)) →
    ∃ acc' ρ', lcLoop own tg tt te acc ds ρ = some (acc', ρ') ∧ I (k + ds.length) acc' ρ'
  | [], k, acc, ρ, h, _ => ⟨acc, ρ, rfl, h⟩
  | d :: ds, k, acc, ρ, h, hs => by
    obtain ⟨ρ1, b, ρ2, e1, e2, g⟩ := hs 0 d acc ρ rfl h
    have el : k + 1 + ds.length = k + (d :: ds).length := by rw [List.length_cons]; omega
    have hs' : ∀ i d' acc ρ, ds[i]? = some d' → I (k + 1 + i) acc ρ → ∃ ρ1 b ρ2, tg ρ d' = some ρ1 ∧ tt ρ1 = some (b, ρ2) ∧
        if b = true then ∃ r ρ3 x ρ4, te ρ2 = some (r, ρ3) ∧ psV ρ3 r = some (x, ρ4) ∧ acc.length < lim ∧ I (k + 1 + i + 1) (acc ++ [x]) (wipeE ρ4 own) else I (k + 1 + i + 1) acc (wipeE ρ2 own) := fun i d' acc ρ e hi => by
      have := hs (i + 1) d' acc ρ (by simpa using e) (by rwa [show k + (i + 1) = k + 1 + i by omega])
      rwa [show k + (i + 1) + 1 = k + 1 + i + 1 by omega] at this
    rw [← el]
    cases b with
    | true =>
      rw [if_pos rfl] at g
      obtain ⟨r, ρ3, x, ρ4, e3, e4, hl, hi⟩ := g
      obtain ⟨acc', ρ', e5, h5⟩ := lcL I ds (k + 1) (acc ++ [x]) _ hi hs'
      refine ⟨acc', ρ', ?_, h5⟩
      show (tg ρ d).bind _ = _
      rw [e1]
      show (tt ρ1).bind _ = _
      rw [e2]
      show (te ρ2).bind _ = _
      rw [e3]
      show (psV ρ3 r).bind _ = _
      rw [e4]
      show (if acc.length < lim then _ else none) = _
      rw [if_pos hl]
      exact e5
    | false =>
      rw [if_neg Bool.false_ne_true] at g
      obtain ⟨acc', ρ', e5, h5⟩ := lcL I ds (k + 1) acc _ g hs'
      refine ⟨acc', ρ', ?_, h5⟩
      show (tg ρ d).bind _ = _
      rw [e1]
      show (tt ρ1).bind _ = _
      rw [e2]
      exact e5
theorem lc_any (I : Nat → List PyData → DL.Env → Prop) {ds : List PyData} {ρ ρ0 : DL.Env} (hf : fi ρ = some (ds, ρ0)) (ho : own.all (fun i => !(ρ0.getD i .no).isOpen) = true) (h0 : I 0 [] (wipeE ρ0 own))
    (hs : ∀ i d acc ρ, ds[i]? = some d → I i acc ρ → ∃ ρ1 b ρ2, tg ρ d = some ρ1 ∧ tt ρ1 = some (b, ρ2) ∧
      if b = true then ∃ r ρ3 x ρ4, te ρ2 = some (r, ρ3) ∧ psV ρ3 r = some (x, ρ4) ∧ acc.length < lim ∧ I (i + 1) (acc ++ [x]) (wipeE ρ4 own) else I (i + 1) acc (wipeE ρ2 own)) :
    ∃ acc ρ', lcD own fi tg tt te ρ = some (.own acc, restE ρ' ρ0 own) ∧ I ds.length acc ρ' := by
  obtain ⟨acc, ρ', e, h⟩ := lcL (own := own) (tg := tg) (tt := tt) (te := te) I ds 0 [] _ h0 (fun i d acc ρ hd hi => by
    rw [Nat.zero_add] at hi
    have := hs i d acc ρ hd hi
    simpa only [Nat.zero_add] using this)
  rw [Nat.zero_add] at h
  refine ⟨acc, ρ', ?_, h⟩
  show (fi ρ).bind _ = _
  rw [hf]
  show (if own.all (fun i => !(ρ0.getD i .no).isOpen) = true then _ else none) = _
  rw [if_pos ho, e]
  rfl
end
def turn (tg : GD) (body : SD) (ρ : DL.Env) (d : PyData) : Option Out := (tg ρ d).bind body
def kTu (x : Option DL.Env) (body : SD) : Option Out := x.bind body
@[simp] theorem e_turn {tg : GD} {body : SD} {ρ : DL.Env} {d : PyData} : turn tg body ρ d = kTu (tg ρ d) body := rfl
@[simp] theorem s_Tu {body : SD} {ρ : DL.Env} : kTu (some ρ) body = body ρ := rfl
/-- a loop over a range, all told -/
theorem loop_eq {tg : GD} {body : SD} {ρ : DL.Env} {a c : Int} {n : Nat} (E : Nat → DL.Env) (h0 : ρ = E 0) (hs : ∀ i, i < n → turn tg body (E i) (.int (a + i * c)) = some (.nx (E (i + 1)))) :
    loopD tg body (rngD a n c) ρ = some (.nx (E n)) := by
  obtain ⟨ρ', e, h⟩ := loop_rg (tg := tg) (body := body) (a := a) (c := c) (n := n) (ρ := ρ) (fun i ρ => ρ = E i) h0 (fun i ρ hi h => by
    subst h
    obtain ⟨ρ1, e1, e2⟩ := Option.bind_eq_some_iff.mp (hs i hi)
    exact ⟨ρ1, _, e1, e2, rfl⟩)
  rw [e, h]
/-- a loop over anything, all told -/
theorem loop_eqL {tg : GD} {body : SD} {ρ : DL.Env} {ds : List PyData} (E : Nat → DL.Env) (h0 : ρ = E 0) (hs : ∀ i d, ds[i]? = some d → turn tg body (E i) d = some (.nx (E (i + 1)))) :
    loopD tg body ds ρ = some (.nx (E ds.length)) := by
  obtain ⟨ρ', e, h⟩ := loop_all (tg := tg) (body := body) (ds := ds) (ρ := ρ) (fun i ρ => ρ = E i) h0 (fun i d ρ hd h => by
    subst h
    obtain ⟨ρ1, e1, e2⟩ := Option.bind_eq_some_iff.mp (hs i d hd)
    exact ⟨ρ1, _, e1, e2, rfl⟩)
  rw [e, h]
/-- the loop's variable behind i turns -/
def lv (c0 : Cell) (a c : Int) : Nat → Cell
  | 0 => c0
  | i + 1 => .cl (.int (a + i * c))
@[simp] theorem lv0 {c0 : Cell} {a c : Int} : lv c0 a c 0 = c0 := rfl
@[simp] theorem lvS {c0 : Cell} {a c : Int} {i : Nat} : lv c0 a c (i + 1) = .cl (.int (a + i * c)) := rfl
/-- a turn that goes on -/
def Turns (I : DL.Env → Prop) (x : Option Out) : Prop := ∃ ρ2, x = some (.nx ρ2) ∧ I ρ2
theorem turns_nx {I : DL.Env → Prop} {ρ : DL.Env} (h : I ρ) : Turns I (some (.nx ρ)) := ⟨ρ, rfl, h⟩
/-- a loop that may hang on anything: what holds behind it -/
theorem use_loop {P : Option Out → Prop} {tg : GD} {body : SD} {ρ : DL.Env} {ds : List PyData} (I : Nat → DL.Env → Prop) (h0 : I 0 ρ) (hs : ∀ i d ρ, ds[i]? = some d → I i ρ → Turns (I (i + 1)) (turn tg body ρ d))
    (hk : ∀ ρ', I ds.length ρ' → P (some (.nx ρ'))) : P (loopD tg body ds ρ) := by
  obtain ⟨ρ', e, h⟩ := loop_all (tg := tg) (body := body) (ds := ds) (ρ := ρ) I h0 (fun i d ρ hd h => by
    obtain ⟨ρ2, e, h2⟩ := hs i d ρ hd h
    obtain ⟨ρ1, e1, e2⟩ := Option.bind_eq_some_iff.mp e
    exact ⟨ρ1, ρ2, e1, e2, h2⟩)
  rw [e]
  exact hk ρ' h
theorem use_loopR {P : Option Out → Prop} {tg : GD} {body : SD} {ρ : DL.Env} {ds : List PyData} (I : Nat → DL.Env → Prop) (R : Val → DL.Env → Prop) (h0 : I 0 ρ) (hs : ∀ i d ρ, ds[i]? = some d → I i ρ → ∃ o, turn tg body ρ d = some o ∧ Goes (I (i + 1)) R o)
    (hk : ∀ ρ', I ds.length ρ' → P (some (.nx ρ'))) (hr : ∀ r ρ', R r ρ' → P (some (.rt r ρ'))) : P (loopD tg body ds ρ) := by
  obtain ⟨o, e, h⟩ := loop_any (tg := tg) (body := body) I R ds 0 ρ h0 (fun i d ρ hd h => by
    rw [Nat.zero_add] at h ⊢
    obtain ⟨o, e, h2⟩ := hs i d ρ hd h
    obtain ⟨ρ1, e1, e2⟩ := Option.bind_eq_some_iff.mp e
    exact ⟨ρ1, o, e1, e2, h2⟩)
  rw [Nat.zero_add] at h
  rw [e]
  rcases h with ⟨ρ', rfl, h⟩ | ⟨r, ρ', rfl, h⟩
  · exact hk ρ' h
  · exact hr r ρ' h
def lcGo (own : List Nat) (tg : GD) (tt : TD) (te : ED) (ds : List PyData) (ρ0 : DL.Env) : Option (Val × DL.Env) := if own.all (fun i => !(ρ0.getD i .no).isOpen) = true then
    (lcLoop own tg tt te [] ds (wipeE ρ0 own)).bind fun q => some (.own q.1, restE q.2 ρ0 own)
  else none
def kLc (x : Option (List PyData × DL.Env)) (own : List Nat) (tg : GD) (tt : TD) (te : ED) : Option (Val × DL.Env) := x.bind fun p => lcGo own tg tt te p.1 p.2
@[simp] theorem e_lc {own : List Nat} {fi : ID} {tg : GD} {tt : TD} {te : ED} {ρ : DL.Env} : lcD own fi tg tt te ρ = kLc (fi ρ) own tg tt te := rfl
@[simp] theorem s_Lc {own : List Nat} {tg : GD} {tt : TD} {te : ED} {ρ : DL.Env} {ds : List PyData} : kLc (some (ds, ρ)) own tg tt te = lcGo own tg tt te ds ρ := rfl
/-- one item: what it adds, and the slots behind it -/
def kJ3 (x : Option (PyData × DL.Env)) (own : List Nat) : Option (Option PyData × DL.Env) := x.map fun p => (some p.1, wipeE p.2 own)
def kJ2 (x : Option (Bool × DL.Env)) (te : ED) (own : List Nat) : Option (Option PyData × DL.Env) := x.bind fun p => if p.1 = true then kJ3 (kPv (te p.2)) own else some (none, wipeE p.2 own)
def kJ1 (x : Option DL.Env) (tt : TD) (te : ED) (own : List Nat) : Option (Option PyData × DL.Env) := x.bind fun ρ => kJ2 (tt ρ) te own
def lcItem (own : List Nat) (tg : GD) (tt : TD) (te : ED) (ρ : DL.Env) (d : PyData) : Option (Option PyData × DL.Env) := kJ1 (tg ρ d) tt te own
@[simp] theorem e_item {own : List Nat} {tg : GD} {tt : TD} {te : ED} {ρ : DL.Env} {d : PyData} : lcItem own tg tt te ρ d = kJ1 (tg ρ d) tt te own := rfl
@[simp] theorem s_J1 {own : List Nat} {tt : TD} {te : ED} {ρ : DL.Env} : kJ1 (some ρ) tt te own = kJ2 (tt ρ) te own := rfl
@[simp] theorem s_J2 {own : List Nat} {te : ED} {ρ : DL.Env} {b : Bool} : kJ2 (some (b, ρ)) te own = if b = true then kJ3 (kPv (te ρ)) own else some (none, wipeE ρ own) := rfl
@[simp] theorem s_J3 {own : List Nat} {ρ : DL.Env} {d : PyData} : kJ3 (some (d, ρ)) own = some (some d, wipeE ρ own) := rfl
theorem item_of {own : List Nat} {tg : GD} {tt : TD} {te : ED} {ρ ρ' : DL.Env} {d : PyData} {o : Option PyData} (h : lcItem own tg tt te ρ d = some (o, ρ')) :
    ∃ ρ1 b ρ2, tg ρ d = some ρ1 ∧ tt ρ1 = some (b, ρ2) ∧ if b = true then ∃ r ρ3 x ρ4, te ρ2 = some (r, ρ3) ∧ psV ρ3 r = some (x, ρ4) ∧ o = some x ∧ wipeE ρ4 own = ρ' else o = none ∧ wipeE ρ2 own = ρ' := by
  obtain ⟨ρ1, e1, h⟩ := Option.bind_eq_some_iff.mp h
  obtain ⟨⟨b, ρ2⟩, e2, h⟩ := Option.bind_eq_some_iff.mp h
  refine ⟨ρ1, b, ρ2, e1, e2, ?_⟩
  cases b with
  | true =>
    rw [if_pos rfl]
    simp only [if_true] at h
    obtain ⟨⟨x, ρ4⟩, e3, h⟩ := Option.map_eq_some_iff.mp h
    obtain ⟨⟨r, ρ3⟩, e4, e5⟩ := Option.bind_eq_some_iff.mp e3
    cases h
    exact ⟨r, ρ3, x, ρ4, e4, e5, rfl, rfl⟩
  | false =>
    rw [if_neg Bool.false_ne_true]
    simp only [Bool.false_eq_true, if_false] at h
    cases h
    exact ⟨rfl, rfl⟩
/-- nothing changes but the slots of the block -/
theorem lc_eq {own : List Nat} {tg : GD} {tt : TD} {te : ED} {ρ : DL.Env} {ds : List PyData} (n : Nat) (g : Nat → PyData) (f : Nat → Option PyData) (hd : ds = (List.range n).map g) (ho : own.all (fun i => !(ρ.getD i .no).isOpen) = true) (hn : n ≤ 1000000)
    (hr : restE (wipeE ρ own) ρ own = ρ) (hs : ∀ k, k < n → lcItem own tg tt te (wipeE ρ own) (g k) = some (f k, wipeE ρ own)) : lcGo own tg tt te ds ρ = some (.own ((List.range n).filterMap f), ρ) := by
  subst hd
  have := lc_any (own := own) (fi := fun ρ' => some ((List.range n).map g, ρ')) (tg := tg) (tt := tt) (te := te) (ρ := ρ) (ρ0 := ρ) (fun i acc ρ' => acc = ((List.range n).take i).filterMap f ∧ ρ' = wipeE ρ own) rfl ho ⟨rfl, rfl⟩ (fun i d acc ρ' hd hi => by
    obtain ⟨rfl, rfl⟩ := hi
    rw [List.getElem?_map] at hd
    obtain ⟨k, hk, rfl⟩ := Option.map_eq_some_iff.mp hd
    have hkn : k < n := List.mem_range.mp (List.mem_of_getElem? hk)
    have hin : i < n := by
      have := (List.getElem?_eq_some_iff.mp hk).1
      simpa using this
    have et : (List.range n).take (i + 1) = (List.range n).take i ++ [k] := by rw [List.take_add_one, hk]; rfl
    obtain ⟨ρ1, b, ρ2, e1, e2, h⟩ := item_of (hs k hkn)
    refine ⟨ρ1, b, ρ2, e1, e2, ?_⟩
    cases b with
    | true =>
      rw [if_pos rfl] at h ⊢
      obtain ⟨r, ρ3, x, ρ4, e3, e4, e5, e6⟩ := h
      refine ⟨r, ρ3, x, ρ4, e3, e4, ?_, ?_, e6⟩
      · have hl := lim_eq
        have := List.length_filterMap_le f ((List.range n).take i)
        rw [List.length_take, List.length_range] at this
        rw [lim_eq]
        omega
      · rw [et, List.filterMap_append]
        simp [e5]
    | false =>
      rw [if_neg Bool.false_ne_true] at h ⊢
      refine ⟨?_, h.2⟩
      rw [et, List.filterMap_append]
      simp [h.1])
  obtain ⟨acc, ρ', e, rfl, rfl⟩ := this
  rw [List.length_map, List.take_length, hr] at e
  exact e
theorem lc_map {own : List Nat} {tg : GD} {tt : TD} {te : ED} {ρ : DL.Env} {ds : List PyData} (n : Nat) (g u : Nat → PyData) (hd : ds = (List.range n).map g) (ho : own.all (fun i => !(ρ.getD i .no).isOpen) = true) (hn : n ≤ 1000000)
    (hr : restE (wipeE ρ own) ρ own = ρ) (hs : ∀ k, k < n → lcItem own tg tt te (wipeE ρ own) (g k) = some (some (u k), wipeE ρ own)) : lcGo own tg tt te ds ρ = some (.own ((List.range n).map u), ρ) := by
  rw [lc_eq n g (fun k => some (u k)) hd ho hn hr hs, List.filterMap_eq_map']
def iv (n : Nat) (w : Nat → Int) : List PyData := (List.range n).map fun k => .int (w k)
section
variable {n : Nat} {w v : Nat → Int}
@[simp] theorem iv_len : (iv n w).length = n := by simp [iv]
theorem iv_get {k : Nat} (h : k < n) : (iv n w)[k]? = some (.int (w k)) := by simp [iv, h]
theorem iv_mem {d : PyData} (h : d ∈ iv n w) : ∃ k, k < n ∧ d = .int (w k) := by
  simp only [iv, List.mem_map, List.mem_range] at h
  obtain ⟨k, h1, h2⟩ := h
  exact ⟨k, h1, h2.symm⟩
theorem iv_get' {k : Nat} {d : PyData} (h : (iv n w)[k]? = some d) : k < n ∧ d = .int (w k) := by
  have h1 := (List.getElem?_eq_some_iff.mp h).1
  rw [iv_len] at h1
  rw [iv_get h1] at h
  exact ⟨h1, (Option.some.inj h).symm⟩
theorem iv_at {k : Nat} {i : Int} (e : i = k) (h : k < n) : atI (iv n w) i = some (.int (w k)) := by
  rw [atI_nat' e (by simpa using h), iv_get h]
theorem iv_last : atI (iv (n + 1) w) (-1) = some (.int (w n)) := by
  have : iv (n + 1) w = iv n w ++ [.int (w n)] := by simp [iv, List.range_succ]
  rw [this]
  exact atI_last _ _
theorem ixN_last : ixN (n + 1) (-1) = some n := by
  unfold ixN
  rw [if_neg (by omega), if_pos (by omega)]
  congr 1
  omega
theorem iv_congr (h : ∀ k, k < n → w k = v k) : iv n w = iv n v := by
  unfold iv
  apply List.map_congr_left
  intro k hk
  rw [h k (List.mem_range.mp hk)]
def put (w : Nat → Int) (m : Nat) (x : Int) : Nat → Int := fun k => if k = m then x else w k
theorem iv_set {m : Nat} {x : Int} : (iv n w).set m (.int x) = iv n (put w m x) := by
  apply List.ext_getElem?
  intro k
  rw [List.getElem?_set]
  by_cases hk : k < n
  · rw [iv_get hk, iv_get hk]
    unfold put
    by_cases h : m = k
    · subst h
      simp [hk]
    · rw [if_neg h, if_neg (fun z => h z.symm)]
  · have e : ∀ u : Nat → Int, (iv n u)[k]? = none := fun u => List.getElem?_eq_none (by simp; omega)
    rw [e, e]
    by_cases h : m = k
    · subst h
      simp [hk]
    · rw [if_neg h]
theorem iv_zip : zipD (iv n w) (iv n v) = (List.range n).map fun k => .tuple [.int (w k), .int (v k)] := by
  unfold zipD
  apply List.ext_getElem?
  intro k
  rw [List.getElem?_zipWith, List.getElem?_map]
  by_cases hk : k < n
  · rw [iv_get hk, iv_get hk]
    simp [hk]
  · have e : ∀ u : Nat → Int, (iv n u)[k]? = none := fun u => List.getElem?_eq_none (by simp; omega)
    rw [e]
    simp [hk]
end
/-- over a row of integers, to one -/
theorem lc_iv {own : List Nat} {tg : GD} {tt : TD} {te : ED} {ρ : DL.Env} {n : Nat} {w : Nat → Int} (u : Nat → Int) (ho : own.all (fun i => !(ρ.getD i .no).isOpen) = true) (hn : n ≤ 1000000)
    (hr : restE (wipeE ρ own) ρ own = ρ) (hs : ∀ k, k < n → lcItem own tg tt te (wipeE ρ own) (.int (w k)) = some (some (.int (u k)), wipeE ρ own)) : lcGo own tg tt te (iv n w) ρ = some (.own (iv n u), ρ) :=
  lc_map n _ (fun k => .int (u k)) rfl ho hn hr hs
/-- over two rows -/
theorem lc_iv2 {own : List Nat} {tg : GD} {tt : TD} {te : ED} {ρ : DL.Env} {n : Nat} {w v : Nat → Int} (u : Nat → Int) (ho : own.all (fun i => !(ρ.getD i .no).isOpen) = true) (hn : n ≤ 1000000)
    (hr : restE (wipeE ρ own) ρ own = ρ) (hs : ∀ k, k < n → lcItem own tg tt te (wipeE ρ own) (.tuple [.int (w k), .int (v k)]) = some (some (.int (u k)), wipeE ρ own)) : lcGo own tg tt te (zipD (iv n w) (iv n v)) ρ = some (.own (iv n u), ρ) :=
  lc_map n _ (fun k => .int (u k)) iv_zip ho hn hr hs
def gl (n : Nat) (g : Nat → PyData) : List PyData := (List.range n).map g
section
variable {n : Nat} {g h : Nat → PyData}
@[simp] theorem gl_len : (gl n g).length = n := by simp [gl]
theorem gl_get {k : Nat} (hk : k < n) : (gl n g)[k]? = some (g k) := by simp [gl, hk]
theorem gl_get' {k : Nat} {d : PyData} (e : (gl n g)[k]? = some d) : k < n ∧ d = g k := by
  have h1 := (List.getElem?_eq_some_iff.mp e).1
  rw [gl_len] at h1
  rw [gl_get h1] at e
  exact ⟨h1, (Option.some.inj e).symm⟩
theorem gl_at {k : Nat} {i : Int} (e : i = k) (hk : k < n) : atI (gl n g) i = some (g k) := by
  rw [atI_nat' e (by simpa using hk), gl_get hk]
theorem gl_congr (e : ∀ k, k < n → g k = h k) : gl n g = gl n h := by
  unfold gl
  exact List.map_congr_left fun k hk => e k (List.mem_range.mp hk)
def putD (g : Nat → PyData) (m : Nat) (x : PyData) : Nat → PyData := fun k => if k = m then x else g k
theorem gl_set {m : Nat} {x : PyData} : (gl n g).set m x = gl n (putD g m x) := by
  apply List.ext_getElem?
  intro k
  rw [List.getElem?_set]
  by_cases hk : k < n
  · rw [gl_get hk, gl_get hk]
    unfold putD
    by_cases h : m = k
    · subst h
      simp [hk]
    · rw [if_neg h, if_neg (fun z => h z.symm)]
  · have e : ∀ u : Nat → PyData, (gl n u)[k]? = none := fun u => List.getElem?_eq_none (by simp; omega)
    rw [e, e]
    by_cases h : m = k
    · subst h
      simp [hk]
    · rw [if_neg h]
theorem gl_zip : zipD (gl n g) (gl n h) = gl n fun k => .tuple [g k, h k] := by
  unfold zipD
  apply List.ext_getElem?
  intro k
  rw [List.getElem?_zipWith]
  by_cases hk : k < n
  · rw [gl_get hk, gl_get hk, gl_get hk]
  · have e : ∀ u : Nat → PyData, (gl n u)[k]? = none := fun u => List.getElem?_eq_none (by simp; omega)
    rw [e, e, e]
theorem gl_zip_iv {w : Nat → Int} : zipD (gl n g) (iv n w) = gl n fun k => .tuple [g k, .int (w k)] := gl_zip (h := fun k => .int (w k))
theorem lc_glf {own : List Nat} {tg : GD} {tt : TD} {te : ED} {ρ : DL.Env} (f : Nat → Option PyData) (ho : own.all (fun i => !(ρ.getD i .no).isOpen) = true) (hn : n ≤ 1000000)
    (hr : restE (wipeE ρ own) ρ own = ρ) (hs : ∀ k, k < n → lcItem own tg tt te (wipeE ρ own) (g k) = some (f k, wipeE ρ own)) : lcGo own tg tt te (gl n g) ρ = some (.own ((List.range n).filterMap f), ρ) :=
  lc_eq n g f rfl ho hn hr hs
theorem enum_gl : enumD (gl n g) = gl n fun k => .tuple [.int (k : Nat), g k] := by
  unfold enumD
  apply List.ext_getElem?
  intro k
  rw [List.getElem?_mapIdx]
  by_cases hk : k < n
  · rw [gl_get hk, gl_get hk]; rfl
  · have e : ∀ u : Nat → PyData, (gl n u)[k]? = none := fun u => List.getElem?_eq_none (by simp; omega)
    rw [e, e]; rfl
theorem enum_iv {w : Nat → Int} : enumD (iv n w) = gl n fun k => .tuple [.int (k : Nat), .int (w k)] := enum_gl (g := fun k => .int (w k))
theorem gl_succ : gl (n + 1) g = gl n g ++ [g n] := by simp [gl, List.range_succ]
theorem iv_succ {w : Nat → Int} : iv (n + 1) w = iv n w ++ [.int (w n)] := by simp [iv, List.range_succ]
theorem lc_gl {own : List Nat} {tg : GD} {tt : TD} {te : ED} {ρ : DL.Env} (u : Nat → PyData) (ho : own.all (fun i => !(ρ.getD i .no).isOpen) = true) (hn : n ≤ 1000000)
    (hr : restE (wipeE ρ own) ρ own = ρ) (hs : ∀ k, k < n → lcItem own tg tt te (wipeE ρ own) (g k) = some (some (u k), wipeE ρ own)) : lcGo own tg tt te (gl n g) ρ = some (.own (gl n u), ρ) :=
  lc_map n g u rfl ho hn hr hs
end
end DL
end
namespace DL
open PySem L2
def Items (I : List PyData → DL.Env → Prop) (acc : List PyData) (x : Option (Option PyData × DL.Env)) : Prop := ∃ o ρ2, x = some (o, ρ2) ∧ I (acc ++ o.toList) ρ2
theorem items_some {I : List PyData → DL.Env → Prop} {acc : List PyData} {d : PyData} {ρ : DL.Env} (h : I (acc ++ [d]) ρ) : Items I acc (some (some d, ρ)) := ⟨some d, ρ, rfl, h⟩
theorem use_lc {P : Option (Val × DL.Env) → Prop} {own : List Nat} {tg : GD} {tt : TD} {te : ED} {ρ : DL.Env} {ds : List PyData} (I : Nat → List PyData → DL.Env → Prop) (hl : ds.length ≤ 1000000)
    (ho : own.all (fun i => !(ρ.getD i .no).isOpen) = true) (h0 : I 0 [] (wipeE ρ own)) (hs : ∀ i d acc ρ', ds[i]? = some d → I i acc ρ' → Items (I (i + 1)) acc (lcItem own tg tt te ρ' d))
    (hk : ∀ acc ρ', I ds.length acc ρ' → P (some (.own acc, restE ρ' ρ own))) : P (lcGo own tg tt te ds ρ) := by
  have := lc_any (own := own) (fi := fun ρ' => some (ds, ρ')) (tg := tg) (tt := tt) (te := te) (ρ := ρ) (ρ0 := ρ) (fun i acc ρ' => acc.length ≤ i ∧ I i acc ρ') rfl ho ⟨Nat.le_refl _, h0⟩ (fun i d acc ρ' hd hi => by
    obtain ⟨hi, h⟩ := hi
    have hin := (List.getElem?_eq_some_iff.mp hd).1
    obtain ⟨o, ρ9, e, h2⟩ := hs i d acc ρ' hd h
    obtain ⟨ρ1, b, ρ2, e1, e2, g⟩ := item_of e
    refine ⟨ρ1, b, ρ2, e1, e2, ?_⟩
    cases b with
    | true =>
      rw [if_pos rfl] at g ⊢
      obtain ⟨r, ρ3, x, ρ4, e3, e4, rfl, rfl⟩ := g
      refine ⟨r, ρ3, x, ρ4, e3, e4, ?_, ?_, h2⟩
      · rw [lim_eq]; omega
      · rw [List.length_append]; show acc.length + 1 ≤ i + 1; omega
    | false =>
      rw [if_neg Bool.false_ne_true] at g ⊢
      obtain ⟨rfl, rfl⟩ := g
      exact ⟨by omega, by simpa using h2⟩)
  obtain ⟨acc, ρ', e, _, h⟩ := this
  have e2 : lcGo own tg tt te ds ρ = some (.own acc, restE ρ' ρ own) := e
  rw [e2]
  exact hk acc ρ' h
/-- a turn that goes on or leaves -/
def TurnsR (I : DL.Env → Prop) (R : Val → DL.Env → Prop) (x : Option Out) : Prop := ∃ o, x = some o ∧ Goes I R o
theorem turnsR_nx {I : DL.Env → Prop} {R : Val → DL.Env → Prop} {ρ : DL.Env} (h : I ρ) : TurnsR I R (some (.nx ρ)) := ⟨_, rfl, .nx h⟩
theorem turnsR_rt {I : DL.Env → Prop} {R : Val → DL.Env → Prop} {r : Val} {ρ : DL.Env} (h : R r ρ) : TurnsR I R (some (.rt r ρ)) := ⟨_, rfl, .rt h⟩
theorem use_loopT {P : Option Out → Prop} {tg : GD} {body : SD} {ρ : DL.Env} {ds : List PyData} (I : Nat → DL.Env → Prop) (R : Val → DL.Env → Prop) (h0 : I 0 ρ) (hs : ∀ i d ρ, ds[i]? = some d → I i ρ → TurnsR (I (i + 1)) R (turn tg body ρ d))
    (hk : ∀ ρ', I ds.length ρ' → P (some (.nx ρ'))) (hr : ∀ r ρ', R r ρ' → P (some (.rt r ρ'))) : P (loopD tg body ds ρ) := use_loopR I R h0 hs hk hr
end DL
noncomputable section
namespace DL
open PySem L2
section
variable {ρ : DL.Env} {a b r r1 r2 : Val} {b1 b2 : Bool} {ds : List PyData} {ns : List Int} {k : Int}
def kSm2 (x : Option (List Int)) (ρ : DL.Env) : Option (Val × DL.Env) := x.map fun ns => (.cl (.int ns.sum), ρ)
def kSm (x : Option (Bool × List PyData)) (ρ : DL.Env) : Option (Val × DL.Env) := x.bind fun q => kSm2 (intsOf q.2) ρ
@[simp] theorem e_sum : sumG ρ a = kSm (seqOf ρ a) ρ := rfl
@[simp] theorem s_Sm : kSm (some (b1, ds)) ρ = kSm2 (intsOf ds) ρ := rfl
@[simp] theorem s_Sm2 : kSm2 (some ns) ρ = some (.cl (.int ns.sum), ρ) := rfl
def kSo2 (x : Option (List Int)) (ρ : DL.Env) : Option (Val × DL.Env) := x.map fun ns => (.own ((sortI ns).map .int), ρ)
def kSo (x : Option (Bool × List PyData)) (ρ : DL.Env) : Option (Val × DL.Env) := x.bind fun q => kSo2 (intsOf q.2) ρ
@[simp] theorem e_sorted : sortG ρ a = kSo (seqOf ρ a) ρ := rfl
@[simp] theorem s_So : kSo (some (b1, ds)) ρ = kSo2 (intsOf ds) ρ := rfl
@[simp] theorem s_So2 : kSo2 (some ns) ρ = some (.own ((sortI ns).map .int), ρ) := rfl
def kUq2 (x : Option (List Int)) (ρ : DL.Env) : Option (Val × DL.Env) := x.bind fun ns => if ns.length ≤ 4000 ∧ (dd ns).length < 64 then some (.own ((sortU ns).map .int), ρ) else none
def kUq (x : Option (Bool × List PyData)) (ρ : DL.Env) : Option (Val × DL.Env) := x.bind fun q => if q.1 = true then kUq2 (intsOf q.2) ρ else none
@[simp] theorem e_uni : uniG ρ a = kUq (seqOf ρ a) ρ := by
  unfold uniG kUq
  cases seqOf ρ a with
  | none => rfl
  | some q =>
    obtain ⟨b, ds⟩ := q
    cases b <;> rfl
@[simp] theorem s_Uq : kUq (some (true, ds)) ρ = kUq2 (intsOf ds) ρ := rfl
@[simp] theorem s_Uq2 (h1 : ns.length ≤ 4000) (h2 : (dd ns).length < 64) : kUq2 (some ns) ρ = some (.own ((sortU ns).map .int), ρ) := if_pos ⟨h1, h2⟩
def kV4 (x : Option (Bool × List PyData)) (b : Bool) (g : M1) (ρ : DL.Env) (r2 : Val) : Option (Val × DL.Env) := x.bind fun k2 => if k2.1 = b then g ρ k2.2 r2 else none
def kV3 (x : Option (Val × DL.Env)) (r : Val) (b : Bool) (g : M1) : Option (Val × DL.Env) := x.bind fun q => kV4 (seqOf q.2 r) b g q.2 q.1
def kV2 (x : Option (Bool × List PyData)) (ρ : DL.Env) (r : Val) (f2 : ED) (g : M1) : Option (Val × DL.Env) := x.bind fun k => kV3 (f2 ρ) r k.1 g
def kV1 (x : Option (Val × DL.Env)) (f2 : ED) (g : M1) : Option (Val × DL.Env) := x.bind fun p => kV2 (seqOf p.2 p.1) p.2 p.1 f2 g
variable {f1 f2 : ED} {g : M1}
@[simp] theorem e_metV : metV f1 f2 g ρ = kV1 (f1 ρ) f2 g := rfl
@[simp] theorem s_V1 : kV1 (some (r, ρ)) f2 g = kV2 (seqOf ρ r) ρ r f2 g := rfl
@[simp] theorem s_V2 : kV2 (some (b1, ds)) ρ r f2 g = kV3 (f2 ρ) r b1 g := rfl
@[simp] theorem s_V3 : kV3 (some (r2, ρ)) r b1 g = kV4 (seqOf ρ r) b1 g ρ r2 := rfl
@[simp] theorem s_V4 : kV4 (some (b1, ds)) b1 g ρ r2 = g ρ ds r2 := if_pos rfl
def kCn (x : Option (List Int)) (k : Int) (ρ : DL.Env) : Option (Val × DL.Env) := x.map fun ns => (.cl (.int (ns.count k : Nat)), ρ)
@[simp] theorem e_cnt : cntG ρ ds (.cl (.int k)) = kCn (intsOf ds) k ρ := rfl
@[simp] theorem s_Cn : kCn (some ns) k ρ = some (.cl (.int (ns.count k : Nat)), ρ) := rfl
def kIdx (x : Option (List Int)) (k : Int) (ρ : DL.Env) : Option (Val × DL.Env) := x.bind fun ns => if k ∈ ns then some (.cl (.int (ns.idxOf k : Nat)), ρ) else none
@[simp] theorem e_idx : idxG ρ ds (.cl (.int k)) = kIdx (intsOf ds) k ρ := rfl
@[simp] theorem s_Idx (h : k ∈ ns) : kIdx (some ns) k ρ = some (.cl (.int (ns.idxOf k : Nat)), ρ) := if_pos h
@[simp] theorem ints_map : intsOf (ns.map .int) = some ns := intsOf_map ns
@[simp] theorem ints_iv {n : Nat} {w : Nat → Int} : intsOf (iv n w) = some ((List.range n).map w) := by
  have : iv n w = ((List.range n).map w).map .int := by simp [iv]
  rw [this, intsOf_map]
theorem flats_ints : ∀ (ns : List Int), flatsOf (ns.map .int) = some (ns.map V.int)
  | [] => rfl
  | n :: ns => by
    show (flatOf (.int n)).bind _ = _
    show (flatsOf (ns.map .int)).map _ = _
    rw [flats_ints ns]; rfl
theorem in_ints : ∀ (ns : List Int), inV (.int k) (ns.map V.int) = decide (k ∈ ns)
  | [] => by simp [inV]
  | n :: ns => by
    have ih := in_ints ns
    show ((n == k) || inV (.int k) (ns.map V.int)) = _
    rw [ih]
    by_cases h : n = k
    · subst h; simp
    · have h2 : ¬ k = n := fun z => h z.symm
      simp [h, h2]
def kIn2 (x : Option (List V)) (v : V) (neg : Bool) (ρ : DL.Env) : Option (Val × DL.Env) := x.map fun xs => (.cl (.bool (if neg then !inV v xs else inV v xs)), ρ)
def kIn1 (x : Option (Bool × List PyData)) (v : V) (neg : Bool) (ρ : DL.Env) : Option (Val × DL.Env) := x.bind fun q => kIn2 (flatsOf q.2) v neg ρ
def kIn0 (x : Option V) (b : Val) (neg : Bool) (ρ : DL.Env) : Option (Val × DL.Env) := x.bind fun v => kIn1 (seqOf ρ b) v neg ρ
@[simp] theorem e_in {neg : Bool} {d : PyData} : inG neg ρ (.cl d) b = kIn0 (flatOf d) b neg ρ := rfl
@[simp] theorem s_In0 {neg : Bool} {v : V} : kIn0 (some v) b neg ρ = kIn1 (seqOf ρ b) v neg ρ := rfl
@[simp] theorem s_In1 {neg : Bool} {v : V} : kIn1 (some (b1, ds)) v neg ρ = kIn2 (flatsOf ds) v neg ρ := rfl
@[simp] theorem f_int : flatOf (.int k) = some (.int k) := rfl
@[simp] theorem f_str {x : Str} : flatOf (.str x) = some (.str x) := rfl
@[simp] theorem f_ints : flatsOf (ns.map .int) = some (ns.map V.int) := flats_ints ns
@[simp] theorem f_iv {n : Nat} {w : Nat → Int} : flatsOf (iv n w) = some (((List.range n).map w).map V.int) := by
  have : iv n w = ((List.range n).map w).map .int := by simp [iv]
  rw [this, flats_ints]
@[simp] theorem s_InI : kIn2 (some (ns.map V.int)) (.int k) false ρ = some (.cl (.bool (decide (k ∈ ns))), ρ) := by
  unfold kIn2
  rw [Option.map_some, in_ints]; rfl
@[simp] theorem s_NiI : kIn2 (some (ns.map V.int)) (.int k) true ρ = some (.cl (.bool (!decide (k ∈ ns))), ρ) := by
  unfold kIn2
  rw [Option.map_some, in_ints]; rfl
def kIt4 (m : Option Nat) (ρ : DL.Env) (j : Nat) (k : Bool) (ds : List PyData) (d : PyData) : Option Out := m.bind fun m => some (.nx (opSet ρ j k (ds.set m d)))
def kAs2 (x : Option (List PyData × DL.Env)) (i j k : Nat) : Option Out := x.bind fun q => match q.1 with
  | [d1, d2] => itemSt (q.2.set i (.cl d1)) j k d2
  | _ => none
@[simp] theorem e_asg {i j k : Nat} {t : AD} : asgNS i j k t ρ = kAs2 (kPs (t ρ)) i j k := by
  unfold asgNS kAs2 kPs
  cases t ρ <;> rfl
@[simp] theorem s_As2 {i j k : Nat} {d1 d2 : PyData} : kAs2 (some ([d1, d2], ρ)) i j k = itemSt (ρ.set i (.cl d1)) j k d2 := rfl
theorem item_st {j k : Nat} {i : Int} {kk : Bool} {d : PyData} (h1 : ρ.getD k .no = .cl (.int i)) (h2 : opAt ρ j = some (kk, ds)) : itemSt ρ j k d = kIt4 (ixN ds.length i) ρ j kk ds d := by
  unfold itemSt
  rw [h1, h2]; rfl
@[simp] theorem s_It4 {j m : Nat} {kk : Bool} {d : PyData} : kIt4 (some m) ρ j kk ds d = some (.nx (opSet ρ j kk (ds.set m d))) := rfl
def kEx (x : Option (Bool × List PyData)) (ds : List PyData) (ρ : DL.Env) : Option (Val × List PyData × DL.Env) := x.bind fun q => if q.1 = true then (if ds.length + q.2.length ≤ lim then some (.cl .none, ds ++ q.2, ρ) else none) else none
@[simp] theorem e_ext : extG ρ ds [r] = kEx (seqOf ρ r) ds ρ := by
  unfold kEx
  show (match seqOf ρ r with
    | some (true, es) => (if ds.length + es.length ≤ lim then some (Val.cl .none, ds ++ es, ρ) else none)
    | _ => none) = _
  cases seqOf ρ r with
  | none => rfl
  | some q =>
    obtain ⟨b, es⟩ := q
    cases b <;> rfl
@[simp] theorem s_Ex {es : List PyData} (h : ds.length + es.length ≤ 1000000) : kEx (some (true, es)) ds ρ = some (.cl .none, ds ++ es, ρ) := if_pos (by rw [lim_eq]; exact h)
end
/-- a lent list, nothing drawn -/
theorem lcB_pure {j : Nat} {own : List Nat} {tg : GD} {tt : TD} {te : ED} {ρ : DL.Env} {ds es : List PyData} (h : ρ.getD j .no = .op ds) (g : lcGo own tg tt te (enumD ds) (ρ.set j .no) = some (.own es, ρ.set j .no)) : lcB j own tg tt te ρ = some (.own es, ρ) := by
  have hl : j < ρ.length := by
    by_cases z : j < ρ.length
    · exact z
    · rw [List.getD_eq_getElem?_getD, List.getElem?_eq_none (by omega)] at h; cases h
  have hn : (ρ.set j .no).getD j .no = .no := by rw [List.getD_eq_getElem?_getD, List.getElem?_set_self hl]; rfl
  have hb : (ρ.set j .no).set j (.op ds) = ρ := by
    rw [List.set_set]
    apply List.ext_getElem?
    intro k
    rw [List.getElem?_set]
    by_cases hk : j = k
    · subst hk
      rw [if_pos rfl, if_pos hl, List.getElem?_eq_getElem hl]
      rw [List.getD_eq_getElem?_getD, List.getElem?_eq_getElem hl] at h
      exact congrArg some h.symm
    · rw [if_neg hk]
  unfold lcB
  rw [h]
  unfold lcGo at g
  simp only
  split at g
  · rename_i ha
    rw [if_pos ha]
    obtain ⟨⟨q1, q2⟩, e1, e2⟩ := Option.bind_eq_some_iff.mp g
    rw [e1]
    have e3 : q1 = es ∧ restE q2 (ρ.set j .no) own = ρ.set j .no := by
      simp only [Option.some.injEq, Prod.mk.injEq, Val.own.injEq] at e2
      exact e2
    show (match (restE q2 (ρ.set j .no) own).getD j .no with
      | .no => some (Val.own q1, (restE q2 (ρ.set j .no) own).set j (.op ds))
      | _ => none) = _
    rw [e3.2, hn, hb, e3.1]
  · cases g
@[simp] theorem e_mulO {ρ : DL.Env} {xs : List PyData} {a : Int} (h1 : -1000 ≤ a) (h2 : a ≤ 1000) (h3 : xs.length ≤ 1000) : mulG ρ (.own xs) (.cl (.int a)) = some (.own (List.replicate a.toNat xs).flatten, ρ) := if_pos ⟨h1, h2, h3⟩
theorem add_seq {ρ : DL.Env} {a b : Val} {xs ys : List PyData} (ha : seqOf ρ a = some (true, xs)) (hb : seqOf ρ b = some (true, ys)) (h : xs.length + ys.length ≤ 1000000) : addG ρ a b = some (.own (xs ++ ys), ρ) := by
  cases a with
  | cl d => cases d <;> cases b <;> rename_i d2 <;> first | (cases ha; done) | (cases d2 <;> first | (cases hb; done) | (unfold addG; simp only [ha, hb]; rw [if_pos (by rw [lim_eq]; exact h)])) | (unfold addG; simp only [ha, hb]; rw [if_pos (by rw [lim_eq]; exact h)])
  | own es => unfold addG; simp only [ha, hb]; rw [if_pos (by rw [lim_eq]; exact h)]
  | sl i => unfold addG; simp only [ha, hb]; rw [if_pos (by rw [lim_eq]; exact h)]
end DL
end
namespace LW
open PySem L2 DL
/-- the greatest so far -/
def up (w : Nat → Int) : Nat → Int
  | 0 => w 0
  | k + 1 => max (w (k + 1)) (up w k)
/-- from the end n: the value j places ahead of it -/
def dn (n : Nat) (w : Nat → Int) : Nat → Int
  | 0 => w n
  | j + 1 => max (w (n - (j + 1))) (dn n w j - 1)
/-- the row, made such that it ends at least at s -/
def fit (n : Nat) (w : Nat → Int) (s : Int) : Nat → Int := fun k => if k = n then max 0 (max (w n) s) else max 0 (w k)
def counts (n : Nat) (w : Nat → Int) (s : Int) : Nat → Int := fun k => dn n (up (fit n w s)) (n - k)
/-- turns: what is behind i, what is not yet -/
def upto (i : Nat) (a b : Nat → Int) : Nat → Int := fun k => if k ≤ i then a k else b k
def from_ (i : Nat) (a b : Nat → Int) : Nat → Int := fun k => if i ≤ k then a k else b k
theorem from_ge {i k : Nat} {a b : Nat → Int} (h : i ≤ k) : from_ i a b k = a k := if_pos h
theorem from_lt {i k : Nat} {a b : Nat → Int} (h : ¬ i ≤ k) : from_ i a b k = b k := if_neg h
theorem put_same {w : Nat → Int} {m : Nat} {x : Int} : put w m x m = x := if_pos rfl
theorem put_ne {w : Nat → Int} {m k : Nat} {x : Int} (h : k ≠ m) : put w m x k = w k := if_neg h
theorem greater_ones_ok (n : Nat) (hn : n ≤ 1000) (a b : Nat → Int) {x y : PyData} (hx : itemsOf x = some (iv n a)) (hy : itemsOf y = some (iv n b)) : F_greater_ones [x, y] = some (.own (iv n fun k => max (a k) (b k))) := by
  unfold F_greater_ones g_greater_ones
  rw [e_runP]
  simp [argE, hx, hy]
  rw [lc_iv2 (fun k => max (a k) (b k)) (by simp) (by omega) (by simp) (by
    intro k hk
    by_cases h : b k < a k
    · simp [h, Int.max_eq_left (Int.le_of_lt h)]
    · simp [h, Int.max_eq_right (Int.not_lt.mp h)])]
  simp
end LW
namespace LW
open PySem L2 DL
/-- floors from the first one on -/
def upF (W : Nat → Nat → Int) : Nat → Nat → Int := fun f k => up (fun g => W g k) f
/-- floors from the last one, F - 1, down: j floors ahead of it -/
def dnF (F : Nat) (W : Nat → Nat → Int) (S : Nat → Int) : Nat → Nat → Int
  | 0, k => W (F - 1) k
  | j + 1, k => max (W (F - 1 - (j + 1)) k) (dnF F W S j k - (S (F - 1 - j) - S (F - 1 - (j + 1))))
def floors (F : Nat) (W : Nat → Nat → Int) (S : Nat → Int) : Nat → Nat → Int := fun f k => dnF F (upF W) S (F - 1 - f) k
def rowsL (F n : Nat) (W : Nat → Nat → Int) : List PyData := gl F fun f => .list (iv n (W f))
def rowsT (F n : Nat) (W : Nat → Nat → Int) : List PyData := gl F fun f => .tuple (iv n (W f))
def uptoF (i : Nat) (a b : Nat → Nat → Int) : Nat → Nat → Int := fun f k => if f ≤ i then a f k else b f k
theorem uptoF_le {i f : Nat} {a b : Nat → Nat → Int} (h : f ≤ i) : uptoF i a b f = a f := by
  funext k; exact if_pos h
theorem uptoF_gt {i f : Nat} {a b : Nat → Nat → Int} (h : ¬ f ≤ i) : uptoF i a b f = b f := by
  funext k; exact if_neg h
def fromF (i : Nat) (a b : Nat → Nat → Int) : Nat → Nat → Int := fun f k => if i ≤ f then a f k else b f k
theorem fromF_ge {i f : Nat} {a b : Nat → Nat → Int} (h : i ≤ f) : fromF i a b f = a f := by
  funext k; exact if_pos h
theorem fromF_lt {i f : Nat} {a b : Nat → Nat → Int} (h : ¬ i ≤ f) : fromF i a b f = b f := by
  funext k; exact if_neg h
theorem rowsL_at {F n : Nat} {W : Nat → Nat → Int} {k : Nat} {i : Int} (e : i = k) (h : k < F) : atI (rowsL F n W) i = some (.list (iv n (W k))) := gl_at e h
theorem rowsL_len {F n : Nat} {W : Nat → Nat → Int} : (rowsL F n W).length = F := gl_len
theorem rowsL_congr {F n : Nat} {W V : Nat → Nat → Int} (h : ∀ f, f < F → ∀ k, k < n → W f k = V f k) : rowsL F n W = rowsL F n V := by
  unfold rowsL
  apply gl_congr
  intro f hf
  rw [iv_congr (h f hf)]
theorem rowsL_set {F n : Nat} {W : Nat → Nat → Int} {m : Nat} {v : Nat → Int} : (rowsL F n W).set m (.list (iv n v)) = rowsL F n fun f => if f = m then v else W f := by
  unfold rowsL
  rw [gl_set]
  apply gl_congr
  intro f _
  by_cases h : f = m
  · simp [putD, h]
  · simp [putD, h]
/-- of no floor's word the ends are too great -/
def good (F n : Nat) (T : Nat → Nat → Int) (S : Nat → Int) : Bool := (List.range F).all fun f => !(decide (0 < T f 0) || decide (S f < T f n))
def told (F n : Nat) (T : Nat → Nat → Int) (S : Nat → Int) : PyData := if good F n T S = true then .tuple (rowsT F (n + 1) T) else .none
def tight (F n : Nat) (R : Nat → Nat → Int) (S : Nat → Int) : Nat → Nat → Int := floors F (fun f => counts n (R f) (S f)) S
end LW
namespace LW
open PySem L2 DL
theorem shaped_ones (l : List Nat) : SeqAt.shaped (.list (l.map fun _ => .int 1)) = true := by
  have h1 : PyData.canLayAll0 (l.map fun _ => PyData.int 1) = true := by
    induction l with
    | nil => rfl
    | cons _ l ih => simp [PyData.canLayAll0, PyData.canLay0, ih]
  have h2 : PyData.depthAll (l.map fun _ => PyData.int 1) = 0 := by
    clear h1
    induction l with
    | nil => rfl
    | cons _ l ih => simp [PyData.depthAll, PyData.depth, ih]
  unfold SeqAt.shaped
  simp [PyData.canLay0, PyData.depth, h1, h2]
theorem eq_ones (l : List Nat) {ρ : DL.Env} : eqQ true ρ (.own (l.map fun _ => .int 1)) (.own []) = some (.cl (.bool (!l.isEmpty)), ρ) := by
  show (if SeqAt.shaped (.list (l.map fun _ => .int 1)) = true ∧ SeqAt.shaped (.list []) = true then some (Val.cl (.bool (true ^^ PyData.eqv (.list (l.map fun _ => .int 1)) (.list []))), ρ) else none) = _
  rw [if_pos ⟨shaped_ones l, rfl⟩]
  cases l with
  | nil => rfl
  | cons _ l => rfl
/-- [1 for .. if p] != [] over a list of places -/
theorem fm_ones (n : Nat) (p : Nat → Bool) : (List.range n).filterMap (fun k => if p k = true then some (PyData.int 1) else none) = ((List.range n).filter p).map fun _ => .int 1 := by
  induction (List.range n) with
  | nil => rfl
  | cons k l ih =>
    rw [List.filterMap_cons, List.filter_cons]
    by_cases h : p k = true
    · simp [h, ih]
    · simp [h, ih]
theorem none_left {n : Nat} {p : Nat → Bool} : (!((List.range n).filter p).isEmpty) = (List.range n).any p := by
  induction (List.range n) with
  | nil => rfl
  | cons k l ih =>
    rw [List.filter_cons, List.any_cons, ← ih]
    by_cases h : p k = true
    · simp [h]
    · simp [h]
def prev (S : Nat → Int) : Nat → Int
  | 0 => 0
  | f + 1 => S f
theorem zip_prev {F : Nat} {S : Nat → Int} : zipD (.int 0 :: iv F S) (iv F S) = gl F fun f => .tuple [.int (prev S f), .int (S f)] := by
  unfold zipD
  apply List.ext_getElem?
  intro k
  rw [List.getElem?_zipWith]
  by_cases hk : k < F
  · rw [iv_get hk, gl_get hk]
    cases k with
    | zero => rfl
    | succ k =>
      rw [List.getElem?_cons_succ, iv_get (by omega)]
      rfl
  · rw [List.getElem?_eq_none (by simp; omega : (iv F S).length ≤ k), List.getElem?_eq_none (by simp; omega : (gl F _).length ≤ k)]
    split <;> simp_all
def asc (F : Nat) (S : Nat → Int) : Bool := (List.range F).all fun f => decide (prev S f ≤ S f)
def lf (n : Nat) (w : Nat → Int) (s : Int) : Nat → Int
  | 0 => max (max 0 (w 0)) (s - n + (0 : Nat))
  | k + 1 => max (max (lf n w s k) (w (k + 1))) (s - n + (k + 1 : Nat))
def lcounts (n : Nat) (w : Nat → Int) (s : Int) : Nat → Int := fun k => dn n (lf n w s) (n - k)
def ltight (F n : Nat) (R : Nat → Nat → Int) (S : Nat → Int) : Nat → Nat → Int := floors F (fun f => lcounts n (R f) (S f)) S
def lok (n : Nat) (T : Nat → Int) (s : Int) : Bool := (List.range (n + 1)).all fun k => !decide (min (k : Int) s < T k)
def lgood (F n : Nat) (T : Nat → Nat → Int) (S : Nat → Int) : Bool := (List.range F).all fun f => lok n (T f) (S f)
def ltold (F n : Nat) (R : Nat → Nat → Int) (S : Nat → Int) : PyData := if asc F S = true ∧ lgood F n (ltight F n R S) S = true then .tuple (rowsT F (n + 1) (ltight F n R S)) else .none
theorem asc_any {F : Nat} {S : Nat → Int} : (List.range F).any (fun f => decide (S f < prev S f)) = !asc F S := by
  unfold asc
  induction (List.range F) with
  | nil => rfl
  | cons k l ih =>
    rw [List.any_cons, List.all_cons, ih]
    by_cases h : prev S k ≤ S k
    · simp [h, show ¬ S k < prev S k by omega]
    · simp [h, show S k < prev S k by omega]
theorem ltightened_ok (F n : Nat) (hF : 0 < F) (hF2 : F < 1000) (hn : n < 999) (R : Nat → Nat → Int) (S : Nat → Int) :
    F__law_tightened [.tuple (rowsT F (n + 1) R), .tuple (iv F S)] = some (.cl (ltold F n R S)) := by
  unfold F__law_tightened g__law_tightened
  rw [e_runP]
  have e0 : atI (rowsT F (n + 1) R) 0 = some (.tuple (iv (n + 1) (R 0))) := gl_at (k := 0) rfl hF
  have el : (rowsT F (n + 1) R).length = F := gl_len
  have h1 : 1 + F ≤ 1000000 := by omega
  simp [argE, e0, el, h1]
  rw [zip_prev, lc_glf (fun f => if decide (S f < prev S f) = true then some (.int 1) else none) (by simp) (by omega) (by simp) (by
    intro f hf
    by_cases h : S f < prev S f
    · simp [h]
    · simp [h]), fm_ones]
  simp only [s_B1, e_lst, e_nil, s_Ps, e_ps0, s_Lst, List.length_nil, Nat.zero_le, s_B2, eq_ones, none_left, asc_any, s_T, s_IS]
  unfold ltold
  cases hasc : asc F S with
  | false => simp
  | true =>
    simp [rowsT, gl_zip_iv]
    -- each floor's own word
    rw [loop_eqL (fun i => [.cl (.tuple (rowsT F (n + 1) R)), .cl (.tuple (iv F S)), .cl (.int F), .cl (.int n), .op (rowsL i (n + 1) fun f => lcounts n (R f) (S f)),
        (match i with | 0 => .no | j + 1 => .cl (.tuple (iv (n + 1) (R j)))), (match i with | 0 => .no | j + 1 => .cl (.int (S j))), (match i with | 0 => .no | j + 1 => .cl (.list (iv (n + 1) (lcounts n (R j) (S j))))),
        (match i with | 0 => .no | j + 1 => .cl (.int (lf n (R j) (S j) n))), (match i with | 0 => .no | j + 1 => lv (.cl (.int n)) (n - 1) (-1) n), (match i with | 0 => .no | j + 1 => .cl (.int (R j n))), .no, .no, .no])
      (by simp [rowsL, gl, rowsT])
      (by
        intro i d hd
        obtain ⟨hi, rfl⟩ := gl_get' hd
        simp
        generalize (match i with | 0 => Cell.no | j + 1 => lv (.cl (.int n)) (n - 1) (-1) n) = c9
        generalize (match i with | 0 => Cell.no | j + 1 => .cl (.int (R j n))) = c10
        rw [enum_iv, loop_eqL (fun j => [.cl (.tuple (rowsT F (n + 1) R)), .cl (.tuple (iv F S)), .cl (.int F), .cl (.int n), .op (rowsL i (n + 1) fun f => lcounts n (R f) (S f)),
            .cl (.tuple (iv (n + 1) (R i))), .cl (.int (S i)), .op (iv j (lf n (R i) (S i))), .cl (.int (match j with | 0 => 0 | k + 1 => lf n (R i) (S i) k)),
            (match j with | 0 => c9 | k + 1 => .cl (.int (k : Nat))), (match j with | 0 => c10 | k + 1 => .cl (.int (R i k))), .no, .no, .no])
          (by simp [iv])
          (by
            intro j d hd
            obtain ⟨hj, rfl⟩ := gl_get' hd
            have hj2 : j < 1000000 := by omega
            cases j with
            | zero => simp [iv_succ, lf, iv]
            | succ j => simp [iv_succ, lf, hj2])]
        have h2 : (-1000000 : Int) ≤ n - 1 ∧ (n : Int) - 1 ≤ 1000000 := by omega
        simp [h2.1, h2.2]
        rw [loop_eq (fun j => [.cl (.tuple (rowsT F (n + 1) R)), .cl (.tuple (iv F S)), .cl (.int F), .cl (.int n), .op (rowsL i (n + 1) fun f => lcounts n (R f) (S f)),
            .cl (.tuple (iv (n + 1) (R i))), .cl (.int (S i)), .op (iv (n + 1) (from_ (n - j) (lcounts n (R i) (S i)) (lf n (R i) (S i)))), .cl (.int (lf n (R i) (S i) n)),
            lv (.cl (.int n)) (n - 1) (-1) j, .cl (.int (R i n)), .no, .no, .no])
          (by
            simp
            apply iv_congr
            intro k hk
            by_cases h : n ≤ k
            · rw [from_ge h]
              have : k = n := by omega
              subst this
              unfold lcounts
              rw [Nat.sub_self]
              rfl
            · rw [from_lt h])
          (by
            intro j hj
            have e1 := iv_at (n := n + 1) (w := from_ (n - j) (lcounts n (R i) (S i)) (lf n (R i) (S i))) (k := n - (j + 1)) (i := (n : Int) - 1 + -(j : Int)) (by omega) (by omega)
            have e2 := iv_at (n := n + 1) (w := from_ (n - j) (lcounts n (R i) (S i)) (lf n (R i) (S i))) (k := n - j) (i := (n : Int) - 1 + -(j : Int) + 1) (by omega) (by omega)
            have e3 : ixN (n + 1) ((n : Int) - 1 + -(j : Int)) = some (n - (j + 1)) := ixN_nat (by omega) (by omega)
            rw [from_lt (by omega)] at e1
            rw [from_ge (by omega)] at e2
            simp [e1, e2, e3, iv_set]
            apply iv_congr
            intro k hk
            by_cases h1 : k = n - (j + 1)
            · subst h1
              rw [put_same, from_ge (by omega)]
              unfold lcounts
              rw [show n - (n - j) = j by omega, show n - (n - (j + 1)) = j + 1 by omega]
              rfl
            · rw [put_ne h1]
              by_cases h2 : n - j ≤ k
              · rw [from_ge h2, from_ge (by omega)]
              · rw [from_lt h2, from_lt (by omega)])]
        have e4 : iv (n + 1) (from_ 0 (lcounts n (R i) (S i)) (lf n (R i) (S i))) = iv (n + 1) (lcounts n (R i) (S i)) := by
          apply iv_congr
          intro k hk
          rw [from_ge (by omega)]
        have hi2 : i < 1000000 := by omega
        simp [e4, rowsL_len, hi2]
        simp [rowsL, gl_succ])]
    simp only [gl_len]
    generalize (match F with | 0 => Cell.no | j + 1 => .cl (.tuple (iv (n + 1) (R j)))) = a5
    generalize (match F with | 0 => Cell.no | j + 1 => .cl (.int (S j))) = a6
    generalize h7 : (match F with | 0 => Cell.no | j + 1 => .cl (.list (iv (n + 1) (lcounts n (R j) (S j))))) = a7
    generalize (match F with | 0 => Cell.no | j + 1 => .cl (.int (lf n (R j) (S j) n))) = a8
    generalize h9 : (match F with | 0 => Cell.no | j + 1 => lv (.cl (.int n)) (n - 1) (-1) n) = a9
    generalize h10 : (match F with | 0 => Cell.no | j + 1 => .cl (.int (R j n))) = a10
    have o7 : a7.isOpen = false := by subst h7; cases F <;> rfl
    have o9 : a9.isOpen = false := by subst h9; cases F <;> first | rfl | (cases n <;> rfl)
    have o10 : a10.isOpen = false := by subst h10; cases F <;> rfl
    generalize hW : (fun f => lcounts n (R f) (S f)) = W
    have h3 : (-1000000 : Int) ≤ F ∧ (F : Int) ≤ 1000000 := by omega
    simp [h3.1, h3.2, show ((F : Int) - 1).toNat = F - 1 by omega]
    rw [loop_eq (fun i => [.cl (.tuple (rowsT F (n + 1) R)), .cl (.tuple (iv F S)), .cl (.int F), .cl (.int n), .op (rowsL F (n + 1) (uptoF i (upF W) W)), a5, a6, a7, a8, a9, a10, lv .no 1 1 i, .no, .no])
      (by
        simp [rowsT]
        apply rowsL_congr
        intro f hf k _
        by_cases h : f ≤ 0
        · rw [uptoF_le h]
          have : f = 0 := by omega
          subst this
          rfl
        · rw [uptoF_gt h])
      (by
        intro i hi
        have e1 := rowsL_at (F := F) (n := n + 1) (W := uptoF i (upF W) W) (k := i + 1) (i := 1 + (i : Int)) (by omega) (by omega)
        have e2 := rowsL_at (F := F) (n := n + 1) (W := uptoF i (upF W) W) (k := i) (i := 1 + (i : Int) - 1) (by omega) (by omega)
        have e3 : ixN F (1 + (i : Int)) = some (i + 1) := ixN_nat (by omega) (by omega)
        rw [uptoF_gt (by omega)] at e1
        rw [uptoF_le (by omega)] at e2
        simp [e1, e2]
        rw [lc_iv2 (fun k => max (W (i + 1) k) (upF W i k)) (by simp [o10]) (by omega) (by simp) (by intro k hk; simp)]
        simp [rowsL_len, e3, rowsL_set]
        apply rowsL_congr
        intro f hf k hk
        by_cases h1 : f = i + 1
        · subst h1
          rw [if_pos rfl, uptoF_le (by omega)]
          rfl
        · rw [if_neg h1]
          by_cases h2 : f ≤ i
          · rw [uptoF_le h2, uptoF_le (by omega)]
          · rw [uptoF_gt h2, uptoF_gt (by omega)])]
    have h4 : (-1000000 : Int) ≤ F - 2 ∧ (F : Int) - 2 ≤ 1000000 := by omega
    simp [h4.1, h4.2, show ((F : Int) - 2 + 1).toNat = F - 1 by omega]
    rw [loop_eq (fun i => [.cl (.tuple (rowsT F (n + 1) R)), .cl (.tuple (iv F S)), .cl (.int F), .cl (.int n), .op (rowsL F (n + 1) (fromF (F - 1 - i) (floors F W S) (upF W))), a5, a6, a7, a8, a9, a10, lv (lv .no 1 1 (F - 1)) (F - 2) (-1) i,
        (match i with | 0 => .no | j + 1 => .cl (.int (S (F - 1 - j) - S (F - 1 - (j + 1))))), .no])
      (by
        simp
        apply rowsL_congr
        intro f hf k _
        rw [uptoF_le (by omega)]
        by_cases h : F - 1 ≤ f
        · rw [fromF_ge h]
          have : f = F - 1 := by omega
          subst this
          unfold floors
          rw [Nat.sub_self]
          rfl
        · rw [fromF_lt h])
      (by
        intro i hi
        have e1 := rowsL_at (F := F) (n := n + 1) (W := fromF (F - 1 - i) (floors F W S) (upF W)) (k := F - 1 - (i + 1)) (i := (F : Int) - 2 + -(i : Int)) (by omega) (by omega)
        have e2 := rowsL_at (F := F) (n := n + 1) (W := fromF (F - 1 - i) (floors F W S) (upF W)) (k := F - 1 - i) (i := (F : Int) - 2 + -(i : Int) + 1) (by omega) (by omega)
        have e3 : ixN F ((F : Int) - 2 + -(i : Int)) = some (F - 1 - (i + 1)) := ixN_nat (by omega) (by omega)
        have s1 := iv_at (n := F) (w := S) (k := F - 1 - (i + 1)) (i := (F : Int) - 2 + -(i : Int)) (by omega) (by omega)
        have s2 := iv_at (n := F) (w := S) (k := F - 1 - i) (i := (F : Int) - 2 + -(i : Int) + 1) (by omega) (by omega)
        rw [fromF_lt (by omega)] at e1
        rw [fromF_ge (by omega)] at e2
        simp [e1, e2, s1, s2]
        rw [lc_iv2 (fun k => max (upF W (F - 1 - (i + 1)) k) (floors F W S (F - 1 - i) k - (S (F - 1 - i) - S (F - 1 - (i + 1))))) (by simp [o10]) (by omega) (by simp) (by intro k hk; simp)]
        simp [rowsL_len, e3, rowsL_set]
        apply rowsL_congr
        intro f hf k hk
        by_cases h1 : f = F - 1 - (i + 1)
        · subst h1
          rw [if_pos rfl, fromF_ge (by omega)]
          unfold floors
          rw [show F - 1 - (F - 1 - i) = i by omega, show F - 1 - (F - 1 - (i + 1)) = i + 1 by omega]
          rfl
        · rw [if_neg h1]
          by_cases h2 : F - 1 - i ≤ f
          · rw [fromF_ge h2, fromF_ge (by omega)]
          · rw [fromF_lt h2, fromF_lt (by omega)])]
    have eW : rowsL F (n + 1) (fromF 0 (floors F W S) (upF W)) = rowsL F (n + 1) (ltight F n R S) := by
      apply rowsL_congr
      intro f hf k hk
      rw [fromF_ge (by omega)]
      unfold ltight
      rw [hW]
    simp [eW]
    unfold rowsL
    rw [gl_zip_iv]
    generalize hT : ltight F n R S = T
    have hone : ∀ f, f < F → ((List.range (n + 1)).any fun k => decide (min (k : Int) (S f) < T f k)) = !lok n (T f) (S f) := by
      intro f _
      unfold lok
      induction (List.range (n + 1)) with
      | nil => rfl
      | cons k l ih => rw [List.any_cons, List.all_cons, ih]; simp
    generalize lv (lv .no 1 1 (F - 1)) (F - 2) (-1) (F - 1) = x11
    generalize (match F - 1 with | 0 => Cell.no | j + 1 => .cl (.int (S (F - 1 - j) - S (F - 1 - (j + 1))))) = x12
    refine use_loopR (P := fun x => kPu (kSq x _) = _) (fun i ρ => (∀ f, f < i → lok n (T f) (S f) = true) ∧ ∃ b6 b7, b7.isOpen = false ∧ ρ = [.cl (.tuple (rowsT F (n + 1) R)), .cl (.tuple (iv F S)), .cl (.int F), .cl (.int n), .cl (.list (gl F fun f => .list (iv (n + 1) (T f)))), a5, b6, b7, a8, a9, a10, x11, x12, .no])
      (fun r ρ => r = .cl .none ∧ ∃ f, f < F ∧ lok n (T f) (S f) = false) ⟨fun f hf => absurd hf (by omega), a6, a7, o7, rfl⟩ ?_ ?_ ?_
    · rintro i d ρ hd ⟨hb, b6, b7, o, rfl⟩
      obtain ⟨hi, rfl⟩ := gl_get' hd
      simp [enum_iv]
      rw [lc_glf (fun k => if decide (min (k : Int) (S i) < T i k) = true then some (.int 1) else none) (by simp [o9, o10]) (by omega) (by simp) (by
        intro k hk
        by_cases h : min (k : Int) (S i) < T i k
        · simp [h]
        · simp [h]), fm_ones]
      simp only [s_B1, e_lst, e_nil, s_Ps, e_ps0, s_Lst, List.length_nil, Nat.zero_le, s_B2, eq_ones, none_left, hone i hi, s_T, s_IS]
      cases h : lok n (T i) (S i) with
      | true =>
        refine ⟨_, rfl, .nx ⟨fun f hf => ?_, _, _, ?_, rfl⟩⟩
        · by_cases z : f = i
          · rw [z]; exact h
          · exact hb f (by omega)
        · rfl
      | false =>
        refine ⟨_, rfl, .rt ⟨rfl, i, hi, h⟩⟩
    · rintro ρ' ⟨hb, b6, b7, o, rfl⟩
      rw [gl_len] at hb
      have hg : lgood F n T S = true := by
        unfold lgood
        rw [List.all_eq_true]
        intro f hf
        exact hb f (List.mem_range.mp hf)
      simp [hg]
      rw [lc_gl (fun f => .tuple (iv (n + 1) (T f))) (by simp [o]) (by omega) (by simp) (by
        intro f hf
        simp)]
      simp [rowsT]
    · rintro r ρ' ⟨rfl, f, hf, h⟩
      have hg : lgood F n T S = false := by
        unfold lgood
        rw [← Bool.not_eq_true, List.all_eq_true]
        intro z
        rw [z f (List.mem_range.mpr hf)] at h
        cases h
      simp [hg]
end LW
namespace LW
open PySem L2 DL
/-- the greatest so far, and 0 -/
def run (w : Nat → Int) : Nat → Int
  | 0 => max 0 (w 0)
  | k + 1 => max (w (k + 1)) (run w k)
theorem run_nonneg (w : Nat → Int) : ∀ k, 0 ≤ run w k
  | 0 => by unfold run; omega
  | k + 1 => by have := run_nonneg w k; unfold run; omega
theorem up_fit (n : Nat) (w : Nat → Int) (s : Int) : ∀ k, k ≤ n → up (fit n w s) k = if k = n then max (run w n) s else run w k
  | 0, h => by
    unfold up fit
    by_cases hn : 0 = n
    · subst hn
      rw [if_pos rfl, if_pos rfl]
      unfold run
      omega
    · rw [if_neg hn, if_neg hn]; rfl
  | k + 1, h => by
    have ih := up_fit n w s k (by omega)
    rw [if_neg (by omega)] at ih
    show max (fit n w s (k + 1)) (up (fit n w s) k) = _
    rw [ih]
    have hk := run_nonneg w k
    unfold fit
    by_cases hn : k + 1 = n
    · rw [if_pos hn, if_pos hn, ← hn]
      show _ = max (max (w (k + 1)) (run w k)) s
      omega
    · rw [if_neg hn, if_neg hn]
      show _ = max (w (k + 1)) (run w k)
      omega
theorem lf_run (n : Nat) (w : Nat → Int) (s : Int) : ∀ k, lf n w s k = max (run w k) (s - n + (k : Nat))
  | 0 => rfl
  | k + 1 => by
    have ih := lf_run n w s k
    show max (max (lf n w s k) (w (k + 1))) (s - n + (k + 1 : Nat)) = max (max (w (k + 1)) (run w k)) (s - n + (k + 1 : Nat))
    rw [ih]
    omega
/-- one place down -/
theorem dn_at {n k : Nat} (U : Nat → Int) (h : k < n) : dn n U (n - k) = max (U k) (dn n U (n - (k + 1)) - 1) := by
  obtain ⟨j, e⟩ : ∃ j, n - k = j + 1 := ⟨n - k - 1, by omega⟩
  rw [e, show n - (k + 1) = j by omega]
  show max (U (n - (j + 1))) _ = _
  rw [show n - (j + 1) = k by omega]
theorem dn_end {n : Nat} (U : Nat → Int) : dn n U (n - n) = U n := by rw [Nat.sub_self]; rfl
theorem counts_eq (n : Nat) (w : Nat → Int) (s : Int) : ∀ j, j ≤ n → dn n (up (fit n w s)) j = dn n (lf n w s) j ∧ s - j ≤ dn n (lf n w s) j
  | 0, _ => by
    show up (fit n w s) n = lf n w s n ∧ _ ≤ lf n w s n
    rw [up_fit n w s n (Nat.le_refl _), if_pos rfl, lf_run]
    constructor <;> omega
  | j + 1, h => by
    obtain ⟨e, l⟩ := counts_eq n w s j (by omega)
    show max (up (fit n w s) (n - (j + 1))) (dn n (up (fit n w s)) j - 1) = max (lf n w s (n - (j + 1))) (dn n (lf n w s) j - 1) ∧ _ ≤ max (lf n w s (n - (j + 1))) (dn n (lf n w s) j - 1)
    rw [up_fit n w s _ (by omega), if_neg (by omega), lf_run, e]
    constructor <;> omega
theorem counts_lcounts (n : Nat) (w : Nat → Int) (s : Int) (k : Nat) : counts n w s k = lcounts n w s k := (counts_eq n w s (n - k) (by omega)).1
/-- no step down, no step of two -/
structure Word (n : Nat) (w : Nat → Int) : Prop where
  mono : ∀ k, k < n → w k ≤ w (k + 1)
  step : ∀ k, k < n → w (k + 1) ≤ w k + 1
theorem Word.le {n : Nat} {w : Nat → Int} (W : Word n w) : ∀ {k}, k ≤ n → w 0 ≤ w k ∧ w k ≤ w 0 + k
  | 0, _ => by constructor <;> omega
  | k + 1, h => by
    have ih := W.le (k := k) (by omega)
    have h1 := W.mono k (by omega)
    have h2 := W.step k (by omega)
    constructor <;> omega
theorem Word.le_end {n : Nat} {w : Nat → Int} (W : Word n w) : ∀ {j}, j ≤ n → w (n - j) ≤ w n
  | 0, _ => by rw [Nat.sub_zero]; exact Int.le_refl _
  | j + 1, h => by
    have ih := W.le_end (j := j) (by omega)
    have h1 := W.mono (n - (j + 1)) (by omega)
    rw [show n - (j + 1) + 1 = n - j by omega] at h1
    omega
theorem run_mono (w : Nat → Int) (k : Nat) : run w k ≤ run w (k + 1) := by
  show run w k ≤ max (w (k + 1)) (run w k)
  omega
theorem counts_ge (n : Nat) (w : Nat → Int) (s : Int) {k : Nat} (h : k ≤ n) : run w k ≤ counts n w s k ∧ (k = n → s ≤ counts n w s k) := by
  by_cases hk : k = n
  · subst hk
    unfold counts
    rw [dn_end, up_fit _ _ _ _ (Nat.le_refl _), if_pos rfl]
    constructor <;> omega
  · unfold counts
    rw [dn_at _ (by omega), up_fit _ _ _ _ h, if_neg hk]
    exact ⟨by omega, fun z => absurd z hk⟩
theorem counts_word (n : Nat) (w : Nat → Int) (s : Int) : Word n (counts n w s) where
  mono k h := by
    have h1 := (counts_ge n w s (k := k + 1) (by omega)).1
    have h2 := run_mono w k
    have h3 : counts n w s k = max (run w k) (counts n w s (k + 1) - 1) := by
      unfold counts
      rw [dn_at _ h, up_fit _ _ _ _ (by omega), if_neg (by omega)]
    rw [h3]
    omega
  step k h := by
    have h3 : counts n w s k = max (run w k) (counts n w s (k + 1) - 1) := by
      unfold counts
      rw [dn_at _ h, up_fit _ _ _ _ (by omega), if_neg (by omega)]
    omega
theorem Word.max {n : Nat} {a b : Nat → Int} (A : Word n a) (B : Word n b) : Word n fun k => Max.max (a k) (b k) where
  mono k h := by have := A.mono k h; have := B.mono k h; show Max.max (a k) (b k) ≤ Max.max (a (k + 1)) (b (k + 1)); omega
  step k h := by have := A.step k h; have := B.step k h; show Max.max (a (k + 1)) (b (k + 1)) ≤ Max.max (a k) (b k) + 1; omega
theorem Word.less {n : Nat} {a : Nat → Int} (A : Word n a) (c : Int) : Word n fun k => a k - c where
  mono k h := by have := A.mono k h; show a k - c ≤ a (k + 1) - c; omega
  step k h := by have := A.step k h; show a (k + 1) - c ≤ a k - c + 1; omega
theorem upF_word {n F : Nat} {W : Nat → Nat → Int} (h : ∀ f, f < F → Word n (W f)) : ∀ f, f < F → Word n (upF W f)
  | 0, h0 => h 0 h0
  | f + 1, h1 => (h (f + 1) h1).max (upF_word h f (by omega))
theorem upF_ge (W : Nat → Nat → Int) (k : Nat) : ∀ f, W f k ≤ upF W f k
  | 0 => Int.le_refl _
  | f + 1 => by show W (f + 1) k ≤ Max.max (W (f + 1) k) (upF W f k); omega
theorem upF_mono (W : Nat → Nat → Int) (f k : Nat) : upF W f k ≤ upF W (f + 1) k := by
  show upF W f k ≤ Max.max (W (f + 1) k) (upF W f k)
  omega
theorem dnF_word {n F : Nat} {W : Nat → Nat → Int} {S : Nat → Int} (h : ∀ f, f < F → Word n (W f)) : ∀ j, j < F → Word n (dnF F W S j)
  | 0, h0 => h (F - 1) (by omega)
  | j + 1, h1 => (h _ (by omega)).max ((dnF_word h j (by omega)).less _)
theorem floors_at {F : Nat} (W : Nat → Nat → Int) (S : Nat → Int) {f : Nat} (k : Nat) (h : f + 1 < F) : floors F W S f k = Max.max (upF W f k) (floors F W S (f + 1) k - (S (f + 1) - S f)) := by
  unfold floors
  obtain ⟨j, e⟩ : ∃ j, F - 1 - f = j + 1 := ⟨F - 1 - f - 1, by omega⟩
  rw [e, show F - 1 - (f + 1) = j by omega]
  show Max.max (upF W (F - 1 - (j + 1)) k) (dnF F (upF W) S j k - (S (F - 1 - j) - S (F - 1 - (j + 1)))) = _
  rw [show F - 1 - (j + 1) = f by omega, show F - 1 - j = f + 1 by omega]
theorem floors_end {F : Nat} (W : Nat → Nat → Int) (S : Nat → Int) (k : Nat) : floors F W S (F - 1) k = upF W (F - 1) k := by
  unfold floors
  rw [Nat.sub_self]
  rfl
theorem floors_ge {F : Nat} (W : Nat → Nat → Int) (S : Nat → Int) (k : Nat) {f : Nat} (h : f < F) : upF W f k ≤ floors F W S f k := by
  by_cases hf : f + 1 < F
  · rw [floors_at W S k hf]; omega
  · have : f = F - 1 := by omega
    subst this
    rw [floors_end]
    exact Int.le_refl _
theorem upF_congr {W V : Nat → Nat → Int} {k : Nat} : ∀ f, (∀ g, g ≤ f → W g k = V g k) → upF W f k = upF V f k
  | 0, h => h 0 (Nat.le_refl _)
  | f + 1, h => by
    show Max.max (W (f + 1) k) (upF W f k) = Max.max (V (f + 1) k) (upF V f k)
    rw [h (f + 1) (Nat.le_refl _), upF_congr f fun g hg => h g (by omega)]
theorem dnF_congr {F : Nat} {W V : Nat → Nat → Int} {S : Nat → Int} {k : Nat} (h : ∀ g, g < F → W g k = V g k) : ∀ j, j < F → dnF F W S j k = dnF F V S j k
  | 0, h0 => h (F - 1) (by omega)
  | j + 1, h1 => by
    show Max.max (W (F - 1 - (j + 1)) k) (dnF F W S j k - _) = Max.max (V (F - 1 - (j + 1)) k) (dnF F V S j k - _)
    rw [h _ (by omega), dnF_congr h j (by omega)]
theorem floors_congr {F : Nat} {W V : Nat → Nat → Int} {S : Nat → Int} {k : Nat} (h : ∀ g, g < F → W g k = V g k) {f : Nat} (hf : f < F) : floors F W S f k = floors F V S f k := by
  unfold floors
  exact dnF_congr (fun g hg => upF_congr g fun g' hg' => h g' (by omega)) _ (by omega)
theorem tight_ltight (F n : Nat) (R : Nat → Nat → Int) (S : Nat → Int) {f : Nat} (hf : f < F) (k : Nat) : tight F n R S f k = ltight F n R S f k :=
  floors_congr (fun g _ => counts_lcounts n (R g) (S g) k) hf
theorem tight_word (F n : Nat) (R : Nat → Nat → Int) (S : Nat → Int) {f : Nat} (hf : f < F) : Word n (tight F n R S f) :=
  dnF_word (upF_word fun g _ => counts_word n (R g) (S g)) _ (by omega)
theorem tight_ge (F n : Nat) (R : Nat → Nat → Int) (S : Nat → Int) {f g : Nat} (hf : f < F) (hg : g ≤ f) {k : Nat} (hk : k ≤ n) : counts n (R g) (S g) k ≤ tight F n R S f k := by
  have h1 : ∀ f, g ≤ f → counts n (R g) (S g) k ≤ upF (fun f => counts n (R f) (S f)) f k := fun f => by
    induction f with
    | zero => intro z; have : g = 0 := by omega
              subst this; exact upF_ge (fun f => counts n (R f) (S f)) k 0
    | succ f ih =>
      intro z
      by_cases e : g = f + 1
      · subst e; exact upF_ge (fun f => counts n (R f) (S f)) k _
      · exact Int.le_trans (ih (by omega)) (upF_mono _ f k)
  exact Int.le_trans (h1 f hg) (floors_ge _ S k hf)
theorem good_iff (F n : Nat) (T : Nat → Nat → Int) (S : Nat → Int) : good F n T S = true ↔ ∀ f, f < F → T f 0 ≤ 0 ∧ T f n ≤ S f := by
  unfold good
  rw [List.all_eq_true]
  constructor
  · intro h f hf
    have := h f (List.mem_range.mpr hf)
    simp at this
    omega
  · intro h f hf
    have := h f (List.mem_range.mp hf)
    simp
    omega
theorem lgood_iff (F n : Nat) (T : Nat → Nat → Int) (S : Nat → Int) : lgood F n T S = true ↔ ∀ f, f < F → ∀ k, k ≤ n → T f k ≤ min (k : Int) (S f) := by
  unfold lgood lok
  simp only [List.all_eq_true, List.mem_range]
  constructor
  · intro h f hf k hk
    have := h f hf k (by omega)
    simp at this
    omega
  · intro h f hf k hk
    have := h f hf k (by omega)
    simp
    omega
theorem asc_iff (F : Nat) (S : Nat → Int) : asc F S = true ↔ ∀ f, f < F → prev S f ≤ S f := by
  unfold asc
  simp only [List.all_eq_true, List.mem_range, decide_eq_true_eq]
theorem good_asc {F n : Nat} {R : Nat → Nat → Int} {S : Nat → Int} (h : good F n (tight F n R S) S = true) : asc F S = true := by
  rw [good_iff] at h
  rw [asc_iff]
  intro f hf
  cases f with
  | zero =>
    have h1 := (counts_ge n (R 0) (S 0) (k := n) (Nat.le_refl _)).1
    have h2 := run_nonneg (R 0) n
    have h3 := tight_ge F n R S (f := 0) (g := 0) hf (Nat.le_refl _) (k := n) (Nat.le_refl _)
    have h4 := (h 0 hf).2
    show (0 : Int) ≤ S 0
    omega
  | succ f =>
    have h1 := (counts_ge n (R f) (S f) (k := n) (Nat.le_refl _)).2 rfl
    have h3 := tight_ge F n R S (f := f + 1) (g := f) hf (by omega) (k := n) (Nat.le_refl _)
    have h4 := (h (f + 1) hf).2
    show S f ≤ S (f + 1)
    omega
theorem both_good {F n : Nat} {R : Nat → Nat → Int} {S : Nat → Int} : good F n (tight F n R S) S = true ↔ asc F S = true ∧ lgood F n (ltight F n R S) S = true := by
  constructor
  · intro h
    refine ⟨good_asc h, ?_⟩
    rw [good_iff] at h
    rw [lgood_iff]
    intro f hf k hk
    rw [← tight_ltight F n R S hf k]
    have W := tight_word F n R S hf
    have h1 := h f hf
    have h2 := (W.le hk).2
    have h3 := W.le_end (j := n - k) (by omega)
    rw [show n - (n - k) = k by omega] at h3
    omega
  · rintro ⟨_, h⟩
    rw [lgood_iff] at h
    rw [good_iff]
    intro f hf
    rw [tight_ltight F n R S hf 0, tight_ltight F n R S hf n]
    have h1 := h f hf 0 (by omega)
    have h2 := h f hf n (Nat.le_refl _)
    omega
theorem rowsT_congr {F n : Nat} {W V : Nat → Nat → Int} (h : ∀ f, f < F → ∀ k, k < n → W f k = V f k) : rowsT F n W = rowsT F n V := by
  unfold rowsT
  apply gl_congr
  intro f hf
  rw [iv_congr (h f hf)]
theorem told_ltold (F n : Nat) (R : Nat → Nat → Int) (S : Nat → Int) : told F n (tight F n R S) S = ltold F n R S := by
  unfold told ltold
  by_cases h : good F n (tight F n R S) S = true
  · rw [if_pos h, if_pos (both_good.mp h), rowsT_congr fun f hf k _ => tight_ltight F n R S hf k]
  · rw [if_neg h, if_neg fun z => h (both_good.mpr z)]
structure Tight (F n : Nat) (T : Nat → Nat → Int) (S : Nat → Int) : Prop where
  word : ∀ f, f < F → Word n (T f)
  first : ∀ f, f < F → T f 0 = 0
  last : ∀ f, f < F → T f n = S f
  up : ∀ f, f + 1 < F → ∀ k, k ≤ n → T f k ≤ T (f + 1) k
  down : ∀ f, f + 1 < F → ∀ k, k ≤ n → T (f + 1) k - (S (f + 1) - S f) ≤ T f k
theorem tight_Tight {F n : Nat} {R : Nat → Nat → Int} {S : Nat → Int} (h : good F n (tight F n R S) S = true) : Tight F n (tight F n R S) S where
  word f hf := tight_word F n R S hf
  first f hf := by
    have h1 := ((good_iff ..).mp h f hf).1
    have h2 := (counts_ge n (R f) (S f) (k := 0) (Nat.zero_le _)).1
    have h3 := run_nonneg (R f) 0
    have h4 := tight_ge F n R S hf (Nat.le_refl f) (k := 0) (Nat.zero_le _)
    omega
  last f hf := by
    have h1 := ((good_iff ..).mp h f hf).2
    have h2 := (counts_ge n (R f) (S f) (k := n) (Nat.le_refl _)).2 rfl
    have h4 := tight_ge F n R S hf (Nat.le_refl f) (k := n) (Nat.le_refl _)
    omega
  up f hf k hk := by
    have h1 := (asc_iff ..).mp (good_asc h) (f + 1) hf
    have h2 : S f ≤ S (f + 1) := h1
    show floors F _ S f k ≤ floors F _ S (f + 1) k
    rw [floors_at _ S k hf]
    have h3 := upF_mono (fun f => counts n (R f) (S f)) f k
    have h4 := floors_ge (fun f => counts n (R f) (S f)) S k hf
    omega
  down f hf k hk := by
    show floors F _ S (f + 1) k - _ ≤ floors F _ S f k
    rw [floors_at _ S k hf]
    omega
section
variable {F n : Nat} {T : Nat → Nat → Int} {S : Nat → Int}
theorem Tight.nonneg (h : Tight F n T S) {f k : Nat} (hf : f < F) (hk : k ≤ n) : 0 ≤ T f k ∧ T f k ≤ S f := by
  have h1 := ((h.word f hf).le hk).1
  have h2 := (h.word f hf).le_end (j := n - k) (by omega)
  rw [show n - (n - k) = k by omega] at h2
  have h3 := h.first f hf
  have h4 := h.last f hf
  omega
theorem Tight.run (h : Tight F n T S) {f : Nat} (hf : f < F) : ∀ {k}, k ≤ n → LW.run (T f) k = T f k
  | 0, _ => by
    have := h.first f hf
    show Max.max 0 (T f 0) = T f 0
    omega
  | k + 1, hk => by
    have ih := Tight.run h hf (k := k) (by omega)
    have h1 := (h.word f hf).mono k (by omega)
    show Max.max (T f (k + 1)) (LW.run (T f) k) = T f (k + 1)
    rw [ih]
    omega
theorem Tight.counts (h : Tight F n T S) {f : Nat} (hf : f < F) : ∀ {j}, j ≤ n → LW.counts n (T f) (S f) (n - j) = T f (n - j)
  | 0, _ => by
    unfold LW.counts
    rw [Nat.sub_zero, dn_end, up_fit _ _ _ _ (Nat.le_refl _), if_pos rfl, h.run hf (Nat.le_refl _)]
    have := h.last f hf
    omega
  | j + 1, hj => by
    have ih := Tight.counts h hf (j := j) (by omega)
    unfold LW.counts at ih ⊢
    rw [dn_at _ (by omega), up_fit _ _ _ _ (by omega), if_neg (by omega), h.run hf (by omega), show n - (j + 1) + 1 = n - j by omega, ih]
    have h1 := (h.word f hf).step (n - (j + 1)) (by omega)
    rw [show n - (j + 1) + 1 = n - j by omega] at h1
    omega
theorem Tight.upF (h : Tight F n T S) {k : Nat} (hk : k ≤ n) : ∀ {f}, f < F → LW.upF T f k = T f k
  | 0, _ => rfl
  | f + 1, hf => by
    show Max.max (T (f + 1) k) (LW.upF T f k) = _
    rw [Tight.upF h hk (f := f) (by omega)]
    have := h.up f hf k hk
    omega
theorem Tight.floors (h : Tight F n T S) {k : Nat} (hk : k ≤ n) : ∀ {j}, j < F → LW.floors F T S (F - 1 - j) k = T (F - 1 - j) k
  | 0, hj => by
    rw [Nat.sub_zero, floors_end, h.upF hk (by omega)]
  | j + 1, hj => by
    have ih := Tight.floors h hk (j := j) (by omega)
    rw [floors_at T S k (by omega), h.upF hk (by omega), show F - 1 - (j + 1) + 1 = F - 1 - j by omega, ih]
    have := h.down (F - 1 - (j + 1)) (by omega) k hk
    rw [show F - 1 - (j + 1) + 1 = F - 1 - j by omega] at this
    omega
theorem Tight.tight (h : Tight F n T S) {f k : Nat} (hf : f < F) (hk : k ≤ n) : LW.tight F n T S f k = T f k := by
  unfold LW.tight
  have e : LW.floors F (fun f => LW.counts n (T f) (S f)) S f k = LW.floors F T S f k := floors_congr (fun g hg => by
    have := h.counts hg (j := n - k) (by omega)
    rwa [show n - (n - k) = k by omega] at this) hf
  rw [e]
  have := h.floors hk (j := F - 1 - f) (by omega)
  rwa [show F - 1 - (F - 1 - f) = f by omega] at this
end
end LW
noncomputable section
namespace DL
open PySem L2
structure Nice (h w : Nat) (d : PyData) : Prop where
  sh : d.showable = true
  nd : d.hasDict = false
  cl : d.canLay0 = true
  ls : d.leavesShort 13 = true
  dp : d.depth ≤ h
  wt : d.weight ≤ w
theorem Nice.mono {h h' w w' : Nat} {d : PyData} (N : Nice h w d) (a : h ≤ h') (b : w ≤ w') : Nice h' w' d := ⟨N.sh, N.nd, N.cl, N.ls, Nat.le_trans N.dp a, Nat.le_trans N.wt b⟩
theorem nice_bool (b : Bool) : Nice 0 0 (.bool b) := ⟨rfl, rfl, rfl, rfl, Nat.le_refl _, Nat.le_refl _⟩
theorem nice_int {i : Int} (h1 : -1000000 ≤ i) (h2 : i ≤ 1000000) : Nice 0 21 (.int i) := by
  have hl : i.natAbs.log2 < 20 := by
    by_cases h0 : i.natAbs = 0
    · rw [h0]; decide
    · exact (Nat.log2_lt h0).mpr (by omega)
  refine ⟨?_, by simp only [PyData.hasDict], by simp only [PyData.canLay0], ?_, by simp only [PyData.depth]; omega, ?_⟩
  · simp only [PyData.showable, decide_eq_true_eq]; omega
  · simp only [PyData.leavesShort, decide_eq_true_eq]
    exact PyData.shown_int_le2 (by omega) (by omega)
  · simp only [PyData.weight]
    split <;> omega
theorem nice_all {h w : Nat} : ∀ {xs : List PyData}, (∀ x ∈ xs, Nice h w x) → PyData.showableAll xs = true ∧ PyData.hasDictAll xs = false ∧ PyData.canLayAll0 xs = true ∧ PyData.leavesShortAll 13 xs = true ∧ PyData.depthAll xs ≤ h ∧ PyData.weightAll xs ≤ (w + 1) * xs.length
  | [], _ => ⟨rfl, rfl, rfl, rfl, Nat.zero_le _, by simp only [PyData.weightAll]; omega⟩
  | x :: xs, hx => by
    have N := hx x (List.mem_cons_self ..)
    obtain ⟨a, b, c, d, e, f⟩ := nice_all (xs := xs) fun y hy => hx y (List.mem_cons_of_mem _ hy)
    refine ⟨?_, ?_, ?_, ?_, ?_, ?_⟩
    · simp only [PyData.showableAll, N.sh, a, Bool.and_self]
    · simp only [PyData.hasDictAll, N.nd, b, Bool.or_self]
    · simp only [PyData.canLayAll0, N.cl, c, Bool.and_self]
    · simp only [PyData.leavesShortAll, N.ls, d, Bool.and_self]
    · simp only [PyData.depthAll]
      have := N.dp
      omega
    · simp only [PyData.weightAll, List.length_cons]
      have := N.wt
      have e2 : (w + 1) * (xs.length + 1) = (w + 1) * xs.length + (w + 1) := by rw [Nat.mul_add, Nat.mul_one]
      omega
theorem nice_tup {h w : Nat} {xs : List PyData} (hx : ∀ x ∈ xs, Nice h w x) : Nice (h + 1) ((w + 1) * xs.length) (.tuple xs) := by
  obtain ⟨a, b, c, d, e, f⟩ := nice_all hx
  refine ⟨by simpa only [PyData.showable] using a, by simpa only [PyData.hasDict] using b, by simpa only [PyData.canLay0] using c, by simpa only [PyData.leavesShort] using d, by simp only [PyData.depth]; omega, by simpa only [PyData.weight] using f⟩
theorem nice_lst {h w : Nat} {xs : List PyData} (hx : ∀ x ∈ xs, Nice h w x) : Nice (h + 1) ((w + 1) * xs.length) (.list xs) := by
  obtain ⟨a, b, c, d, e, f⟩ := nice_all hx
  refine ⟨by simpa only [PyData.showable] using a, by simpa only [PyData.hasDict] using b, by simpa only [PyData.canLay0] using c, by simpa only [PyData.leavesShort] using d, by simp only [PyData.depth]; omega, by simpa only [PyData.weight] using f⟩
abbrev Ok60 (d : PyData) : Prop := Nice 60 1000000 d
theorem rep_cond {d : PyData} (N : Ok60 d) : (d.showable = true ∧ d.hasDict = false) ∧ d.shown.length ≤ sizeLine ∧ d.depth ≤ 60 := by
  have h1 := PyData.shown_le 13 (by omega) d N.ls
  have h2 := N.wt
  have h3 : sizeLine = 16777216 := sizeLine_eq
  exact ⟨⟨N.sh, N.nd⟩, by omega, N.dp⟩
section
variable {ρ : DL.Env} {d e : PyData} {ds : List PyData} {k : Bool}
theorem rep_cl (N : Ok60 d) : repG ρ (.cl d) = some (.cl (.str d.shown), ρ) := if_pos (rep_cond N)
theorem rep_own (N : Ok60 (.list ds)) : repG ρ (.own ds) = some (.cl (.str (PyData.list ds).shown), ρ) := if_pos (rep_cond N)
theorem shaped_of (N : Ok60 d) : SeqAt.shaped d = true := by
  unfold SeqAt.shaped
  rw [N.cl, decide_eq_true (Nat.le_trans N.dp (by omega : 60 ≤ 64))]
  rfl
theorem eq_same2 (N : Ok60 d) : eqQ k ρ (.cl d) (.cl d) = some (.cl (.bool (k ^^ true)), ρ) := by
  have h : eqG k ρ (.cl d) (.cl d) = some (.cl (.bool (k ^^ true)), ρ) := by
    show (if SeqAt.shaped d = true ∧ SeqAt.shaped d = true then some (Val.cl (.bool (k ^^ PyData.eqv d d)), ρ) else none) = _
    rw [if_pos ⟨shaped_of N, shaped_of N⟩, PySem.SeqAt.eqv_refl d N.cl]
  unfold eqQ
  split
  · rename_i a b e1 e2
    cases e1
    cases e2
    simp
  · exact h
end
end DL
end
namespace LW
open PySem L2 DL
theorem alike_ok {d : PyData} (N : Ok60 d) : F__law_alike [d, d] = some (.cl (.bool true)) := by
  unfold F__law_alike g__law_alike
  rw [e_runP]
  simp [argE, eq_same2 N, rep_cl N]
theorem nice_row {n : Nat} {w : Nat → Int} (h : ∀ k, k < n → -1000000 ≤ w k ∧ w k ≤ 1000000) : Nice 1 (22 * n) (.tuple (iv n w)) := by
  have := nice_tup (h := 0) (w := 21) (xs := iv n w) fun x hx => by
    obtain ⟨k, hk, rfl⟩ := iv_mem hx
    exact nice_int (h k hk).1 (h k hk).2
  simpa using this
theorem nice_rows {F n : Nat} {R : Nat → Nat → Int} (h : ∀ f, f < F → ∀ k, k < n → -1000000 ≤ R f k ∧ R f k ≤ 1000000) : Nice 2 ((22 * n + 1) * F) (.tuple (rowsT F n R)) := by
  have := nice_tup (h := 1) (w := 22 * n) (xs := rowsT F n R) fun x hx => by
    unfold rowsT gl at hx
    simp only [List.mem_map, List.mem_range] at hx
    obtain ⟨f, hf, rfl⟩ := hx
    exact nice_row (h f hf)
  simpa [rowsT] using this
end LW
namespace LW
open PySem L2 DL
theorem one_ok (B : Bag) (ds : List PyData) (h : ds ≠ []) (hl : ds.length ≤ 1000000) : ∃ d B', d ∈ ds ∧ F__law_one B.toD [.list ds] = some (.cl d, Bag.toD B') := by
  have hp : 0 < ds.length := List.length_pos_iff.mpr h
  obtain ⟨v, B', e, h0, h1⟩ := take_ok B ds.length (by omega) (by omega)
  have hv : v.toNat < ds.length := by omega
  have ea : atI ds v = some ds[v.toNat] := by
    rw [atI_nat' (n := v.toNat) (by omega) hv, List.getElem?_eq_getElem hv]
  refine ⟨ds[v.toNat], B', List.getElem_mem hv, ?_⟩
  unfold F__law_one g__law_one
  rw [e_runM]
  simp [argM, e, ea]
theorem one_int (B : Bag) (ns : List Int) (h : ns ≠ []) (hl : ns.length ≤ 1000000) : ∃ z B', z ∈ ns ∧ F__law_one B.toD [.list (ns.map .int)] = some (.cl (.int z), Bag.toD B') := by
  obtain ⟨d, B', hd, e⟩ := one_ok B (ns.map .int) (by simpa using h) (by simpa using hl)
  obtain ⟨z, hz, rfl⟩ := List.mem_map.mp hd
  exact ⟨z, B', hz, e⟩
end LW
namespace LW
open PySem L2 DL
end LW
namespace LW
open PySem L2 DL
theorem run_zero : ∀ k, run (fun _ => 0) k = 0
  | 0 => rfl
  | k + 1 => by
    show max 0 (run _ k) = 0
    rw [run_zero k]
    rfl
theorem zero_counts (n : Nat) (s : Int) : ∀ j, j ≤ n → dn n (lf n (fun _ => 0) s) j ≤ max 0 (s - j)
  | 0, _ => by
    show lf n (fun _ => 0) s n ≤ _
    rw [lf_run, run_zero]
    omega
  | j + 1, h => by
    have ih := zero_counts n s j (by omega)
    show max (lf n (fun _ => 0) s (n - (j + 1))) (dn n (lf n (fun _ => 0) s) j - 1) ≤ _
    rw [lf_run, run_zero]
    omega
theorem zero_counts' (n : Nat) (s : Int) {k : Nat} (h : k ≤ n) : counts n (fun _ => 0) s k ≤ max 0 (s - n + k) := by
  rw [counts_lcounts]
  have := zero_counts n s (n - k) (by omega)
  show dn n _ (n - k) ≤ _
  omega
theorem zero_upF (F n : Nat) {S : Nat → Int} (hS : ∀ f, f + 1 < F → S f ≤ S (f + 1)) {k : Nat} (hk : k ≤ n) : ∀ f, f < F → upF (fun f => counts n (fun _ => 0) (S f)) f k ≤ max 0 (S f - n + k)
  | 0, _ => zero_counts' n (S 0) hk
  | f + 1, h => by
    have ih := zero_upF F n hS hk f (by omega)
    have h1 := hS f h
    have h2 := zero_counts' n (S (f + 1)) hk
    show max (counts n (fun _ => 0) (S (f + 1)) k) (upF (fun f => counts n (fun _ => 0) (S f)) f k) ≤ _
    omega
theorem zero_floors (F n : Nat) {S : Nat → Int} (hS : ∀ f, f + 1 < F → S f ≤ S (f + 1)) {k : Nat} (hk : k ≤ n) : ∀ j, j < F → floors F (fun f => counts n (fun _ => 0) (S f)) S (F - 1 - j) k ≤ max 0 (S (F - 1 - j) - n + k)
  | 0, h => by
    rw [Nat.sub_zero, floors_end]
    exact zero_upF F n hS hk _ (by omega)
  | j + 1, h => by
    have ih := zero_floors F n hS hk j (by omega)
    have h1 := hS (F - 1 - (j + 1)) (by omega)
    have h2 := zero_upF F n hS hk (F - 1 - (j + 1)) (by omega)
    rw [floors_at _ S k (by omega)]
    rw [show F - 1 - (j + 1) + 1 = F - 1 - j by omega] at h1 ⊢
    omega
theorem zero_good (F n : Nat) {S : Nat → Int} (hS : ∀ f, f + 1 < F → S f ≤ S (f + 1)) (h0 : ∀ f, f < F → 0 ≤ S f ∧ S f ≤ n) : good F n (tight F n (fun _ _ => 0) S) S = true := by
  rw [good_iff]
  intro f hf
  have e : f = F - 1 - (F - 1 - f) := by omega
  have a := zero_floors F n hS (k := 0) (Nat.zero_le _) (F - 1 - f) (by omega)
  have b := zero_floors F n hS (k := n) (Nat.le_refl _) (F - 1 - f) (by omega)
  rw [← e] at a b
  have := h0 f hf
  show floors F (fun f => counts n (fun _ => 0) (S f)) S f 0 ≤ 0 ∧ floors F (fun f => counts n (fun _ => 0) (S f)) S f n ≤ S f
  constructor <;> omega
theorem asc_prev {F : Nat} {S : Nat → Int} (h : ∀ f, f < F → prev S f ≤ S f) : ∀ f, f + 1 < F → S f ≤ S (f + 1) := fun f hf => h (f + 1) hf
end LW
namespace LW
open PySem L2 DL
def TurnI (house ord : PyData) (F : Nat) (S : Nat → Int) (i : Nat) (ρ : DL.Env) : Prop := ∃ (B' : Bag) (c3 c4 c5 c6 c7 c8 c9 : Cell), (c3 = .op (iv F S) ∨ c3 = .cl (.list (iv F S))) ∧
  ρ = [.pm (Bag.toD B'), .cl house, .cl ord, c3, c4, c5, c6, c7, c8, c9, .no, .no]
def EachI (house ord : PyData) (n F : Nat) (S : Nat → Int) (i : Nat) (ρ : DL.Env) : Prop := ∃ (R : Nat → Nat → Int) (B' : Bag) (c4 c5 c6 c8 c9 : Cell),
  ρ = [.pm (Bag.toD B'), .cl house, .cl ord, .cl (.list (iv F S)), c4, c5, c6, .op (rowsT i (n + 1) R), c8, c9, .no, .no]
def DrawI (r2 : DL.Env) (i : Nat) (acc : List PyData) (ρ : DL.Env) : Prop := ∃ (t : Nat → Int) (B' : Bag), acc = gl i (fun k => .tuple [.int (t k), .int (k : Nat)]) ∧ ρ = .pm (Bag.toD B') :: r2
def FitI (r2 : DL.Env) (i : Nat) (acc : List PyData) (ρ : DL.Env) : Prop := ∃ (w : Nat → Int) (B' : Bag), acc = iv i w ∧ ρ = .pm (Bag.toD B') :: r2
noncomputable def body_each : SD := (seqS (setS 8 (lcD [10] (rng1I (acons (binD (binD (varD 1) (conD (.int 0)) ixG) (conD (.int 1)) addG) anil)) (nameT 10) yesT (tupD (acons (callM 0 1 F__law_take (acons (conD (.int 3)) anil)) (acons (varD 10) anil)))))
    (dropS (metD 7 (acons (callD (acons (lcD [11, 10] (seqI (varD 8)) (tupT [11, 10]) yesT (iteD (testD (binD (varD 11) (conD (.int 0)) (eqQ false))) (callD (acons (varD 10) (acons (varD 4) (acons (callM 0 1 F__law_take (acons (binD (varD 10) (conD (.int 1)) addG) anil)) anil))) (threeG mn3)) (conD (.int 0)))) anil) (oneG tupleG)) anil) appG)))
noncomputable def body_rest : SD := (seqS (setS 9 (callP 2 F__law_tightened (acons (callD (acons (varD 7) anil) (oneG tupleG)) (acons (callD (acons (varD 3) anil) (oneG tupleG)) anil))))
    (ifS (testD (binD (varD 9) (conD .none) (isNG' true))) (retS (tupD (acons (varD 2) (acons (varD 9) anil)))) nilS))
theorem each_ok (V : List PyData) (ord : PyData) (n F : Nat) (hn : n ≤ 16) (hF : F ≤ 100) (S : Nat → Int) (j : Nat) (hj : j < F) (R : Nat → Nat → Int) (B : Bag) (c4 c5 c6 c8 c9 : Cell) :
    Turns (EachI (.tuple [.int n, .tuple V]) ord n F S (j + 1)) (turn (nameT 4) body_each [.pm (Bag.toD B), .cl (.tuple [.int n, .tuple V]), .cl ord, .cl (.list (iv F S)), c4, c5, c6, .op (rowsT j (n + 1) R), c8, c9, .no, .no] (.int (S j))) := by
  have hn4 : (-1000000 : Int) ≤ n + 1 ∧ (n : Int) + 1 ≤ 1000000 := by omega
  unfold body_each
  simp [hn4.1, hn4.2]
  refine use_lc (P := fun x => Turns _ (kSq (kSet x 8) _)) (DrawI [.cl (.tuple [.int n, .tuple V]), .cl ord, .cl (.list (iv F S)), .cl (.int (S j)), c5, c6, .op (rowsT j (n + 1) R), c8, c9, .no, .no]) (by rw [rngD_len]; omega) (by simp) ?_ ?_ ?_
  · exact ⟨fun _ => 0, B, rfl, by simp⟩
  · rintro i d acc ρ hd ⟨t, B2, rfl, rfl⟩
    obtain ⟨hi, rfl⟩ := rng_get hd
    obtain ⟨u, B3, eu, u0, u1⟩ := take_ok B2 3 (by omega) (by omega)
    simp [eu]
    refine items_some ⟨put t i u, B3, ?_, rfl⟩
    rw [gl_succ, put_same, gl_congr (g := fun k => .tuple [.int (put t i u k), .int (k : Nat)]) (h := fun k => .tuple [.int (t k), .int (k : Nat)]) fun k hk => by rw [put_ne (by omega)]]
  · rintro acc ρ ⟨t, B2, rfl, rfl⟩
    rw [rngD_len]
    simp
    refine use_lc (P := fun x => Turns _ (kD (kE1 (kC1 (kK (kC1 x _) _) _) _ _))) (FitI [.cl (.tuple [.int n, .tuple V]), .cl ord, .cl (.list (iv F S)), .cl (.int (S j)), c5, c6, .op (rowsT j (n + 1) R), .cl (.list (gl (n + 1) (fun k => .tuple [.int (t k), .int (k : Nat)]))), c9, .no, .no]) (by rw [gl_len]; omega) (by simp) ?_ ?_ ?_
    · exact ⟨fun _ => 0, B2, rfl, by simp⟩
    · rintro i d acc ρ hd ⟨w, B3, rfl, rfl⟩
      obtain ⟨hi, rfl⟩ := gl_get' hd
      have fin : ∀ (z : Int) (B9 : Bag), FitI [.cl (.tuple [.int n, .tuple V]), .cl ord, .cl (.list (iv F S)), .cl (.int (S j)), c5, c6, .op (rowsT j (n + 1) R), .cl (.list (gl (n + 1) (fun k => .tuple [.int (t k), .int (k : Nat)]))), c9, .no, .no] (i + 1) (iv i w ++ [.int z]) [.pm (Bag.toD B9), .cl (.tuple [.int n, .tuple V]), .cl ord, .cl (.list (iv F S)), .cl (.int (S j)), c5, c6, .op (rowsT j (n + 1) R), .cl (.list (gl (n + 1) (fun k => .tuple [.int (t k), .int (k : Nat)]))), c9, .no, .no] := fun z B9 => by
        refine ⟨put w i z, B9, ?_, rfl⟩
        rw [iv_succ, put_same, iv_congr (w := put w i z) (v := w) fun k hk => put_ne (by omega)]
      by_cases ht : t i = 0
      · obtain ⟨u, B4, eu, u0, u1⟩ := take_ok B3 (i + 1) (by omega) (by omega)
        simp [ht, eu]
        exact items_some (fin _ _)
      · simp [ht]
        exact items_some (fin _ _)
    · rintro acc ρ ⟨w, B3, rfl, rfl⟩
      rw [gl_len]
      have el : (rowsT j (n + 1) R).length = j := gl_len
      have hj3 : j < 1000000 := by omega
      simp [el, hj3]
      refine turns_nx ⟨fun f => if f = j then w else R f, B3, .cl (.int (S j)), c5, c6, .cl (.list (gl (n + 1) (fun k => .tuple [.int (t k), .int (k : Nat)]))), c9, ?_⟩
      have e1 : rowsT (j + 1) (n + 1) (fun f => if f = j then w else R f) = rowsT j (n + 1) R ++ [.tuple (iv (n + 1) w)] := by
        unfold rowsT
        rw [gl_succ]
        congr 1
        · apply gl_congr
          intro f hf
          simp [show f ≠ j by omega]
        · simp
      rw [e1]
end LW
namespace LW
open PySem L2 DL
theorem cut_one {ds : List PyData} (h : 1 ≤ ds.length) : cutD ds (some 1) none = ds.drop 1 := by
  unfold cutD
  rw [HT.sIx_none, show (some (1 : Int)) = some ((1 : Nat) : Int) from rfl, HT.sIx_nat, Nat.min_eq_left h]
  exact List.take_of_length_le (by rw [List.length_drop]; exact Nat.le_refl _)
theorem sizes_of (n F : Nat) (hF : F < 1000) (T : Nat → Nat → Int) (o : PyData) : F_known_sizes [.tuple [o, .tuple (rowsT F (n + 1) T)]] = some (.cl (.tuple (iv F fun f => T f n))) := by
  unfold F_known_sizes g_known_sizes
  rw [e_runP]
  simp [argE, rowsT]
  rw [lc_gl (fun f => .int (T f n)) (by simp) (by omega) (by simp) (by
    intro f hf
    simp [iv_last])]
  simp [iv, gl]
def goes (n : Nat) (a b : Nat → Int) : Bool := (List.range n).all fun k => !decide (a k < a (k + 1)) || decide (b k < b (k + 1))
theorem rng_gl {a : Int} {n : Nat} : rngD a n 1 = gl n fun k => .int (a + (k : Nat)) := by
  simp [rngD, gl]
end LW
namespace LW
open PySem L2 DL
def house (n F : Nat) (V : Nat → Int) : PyData := .tuple [.int n, .tuple (iv F V)]
def pre (V : Nat → Int) : Nat → Int
  | 0 => V 0
  | f + 1 => pre V f + V (f + 1)
theorem cut_to {ds : List PyData} {k : Nat} (h : k ≤ ds.length) : cutD ds none (some (k : Int)) = ds.take k := by
  unfold cutD
  rw [HT.sIx_none, HT.sIx_nat, Nat.min_eq_left h]
  simp
theorem iv_take {F k : Nat} {V : Nat → Int} (h : k ≤ F) : (iv F V).take k = iv k V := by
  unfold iv
  rw [← List.map_take, List.take_range, Nat.min_eq_left h]
theorem sum_pre (V : Nat → Int) : ∀ f, ((List.range (f + 1)).map V).sum = pre V f
  | 0 => by simp [pre]
  | f + 1 => by
    rw [List.range_succ, List.map_append, List.sum_append, sum_pre V f]
    simp [pre]
theorem rooms_within_ok (n F : Nat) (V : Nat → Int) (hF : F < 1000) : F__law_rooms_within [house n F V] = some (.own (iv F (pre V))) := by
  unfold F__law_rooms_within g__law_rooms_within house
  rw [e_runP]
  have h1 : (-1000000 : Int) ≤ F ∧ (F : Int) ≤ 1000000 := by omega
  simp [argE, h1.1, h1.2]
  rw [rng_gl, lc_gl (fun f => .int (pre V f)) (by simp) (by omega) (by simp) (by
    intro f hf
    have e1 : cutD (iv F V) none (some ((f : Int) + 1)) = iv (f + 1) V := by
      rw [show ((f : Int) + 1) = ((f + 1 : Nat) : Int) by omega, cut_to (by rw [iv_len]; omega), iv_take (by omega)]
    simp [e1, sum_pre])]
  simp [iv, gl]
/-- who stands at most there -/
def inside (n : Nat) (s : Nat → Int) (f : Int) : List Nat := (List.range n).filter fun k => decide (s k ≤ f)
theorem fm_filter {n : Nat} {p : Nat → Bool} {u : Nat → PyData} : (List.range n).filterMap (fun k => if p k = true then some (u k) else none) = ((List.range n).filter p).map u := by
  induction (List.range n) with
  | nil => rfl
  | cons k l ih =>
    rw [List.filterMap_cons, List.filter_cons]
    by_cases h : p k = true
    · simp [h, ih]
    · simp [h, ih]
theorem within_ok (n F : Nat) (V s : Nat → Int) (f : Int) (hn : n < 1000) : F__law_within [house n F V, .tuple (iv n s), .int f] = some (.own ((inside n s f).map fun k => .int (k : Nat))) := by
  unfold F__law_within g__law_within house
  rw [e_runP]
  have h1 : (-1000000 : Int) ≤ n ∧ (n : Int) ≤ 1000000 := by omega
  simp [argE, h1.1, h1.2]
  rw [rng_gl, lc_glf (fun k => if decide (s k ≤ f) = true then some (.int (k : Nat)) else none) (by simp) (by omega) (by simp) (by
    intro k hk
    have e1 : atI (iv n s) (k : Int) = some (.int (s k)) := iv_at rfl hk
    by_cases h : s k ≤ f
    · simp [e1, h]
    · simp [e1, h]), fm_filter]
  simp [inside]
theorem sizes_of_state (n F : Nat) (V s : Nat → Int) (hn : n < 1000) (hF : F < 1000) : F__law_sizes [house n F V, .tuple (iv n s)] = some (.cl (.tuple (iv F fun f => ((inside n s f).length : Nat)))) := by
  have hw := fun f : Int => within_ok n F V s f hn
  unfold house at hw
  unfold F__law_sizes g__law_sizes house
  rw [e_runP]
  have h1 : (-1000000 : Int) ≤ F ∧ (F : Int) ≤ 1000000 := by omega
  simp [argE, h1.1, h1.2]
  rw [rng_gl, lc_gl (fun f => .int ((inside n s f).length : Nat)) (by simp) (by omega) (by simp) (by
    intro f hf
    simp [hw])]
  simp [iv, gl]
/-- rows one behind the other -/
theorem flat_ok (rows : List (List PyData)) (h : rows.flatten.length ≤ 1000) (hr : rows.length ≤ 1000) : F__law_flat [.list (rows.map .list)] = some (.own rows.flatten) := by
  unfold F__law_flat g__law_flat
  rw [e_runP]
  simp [argE]
  rw [loop_eqL (fun i => [.cl (.list (rows.map .list)), .op (rows.take i).flatten, (match i with | 0 => .no | j + 1 => .cl (.list (rows.getD j [])))]) (by simp) (by
    intro i d hd
    rw [List.getElem?_map] at hd
    obtain ⟨row, hr2, rfl⟩ := Option.map_eq_some_iff.mp hd
    have hi := (List.getElem?_eq_some_iff.mp hr2).1
    have e1 : rows.take (i + 1) = rows.take i ++ [row] := by rw [List.take_add_one, hr2]; rfl
    have e2 : rows.getD i [] = row := by rw [List.getD_eq_getElem?_getD, hr2]; rfl
    have e3 : (rows.take i).flatten.length + row.length ≤ 1000000 := by
      have : ((rows.take i).flatten ++ row).length ≤ rows.flatten.length := by
        have e4 : rows.flatten = (rows.take (i + 1)).flatten ++ (rows.drop (i + 1)).flatten := by rw [← List.flatten_append, List.take_append_drop]
        rw [e4, e1]
        simp
      rw [List.length_append] at this
      omega
    cases i with
    | zero => simp at e3; simp [e1, hr2, e3]
    | succ i => simp at e3; simp [e1, hr2, e3])]
  simp
end LW
namespace LW
open PySem L2 DL
def MixP (xs : List PyData) (x : Option (Val × List PyData)) : Prop := ∃ ds B', x = some (.own ds, Bag.toD B') ∧ ds.Perm xs
def MixJ (xs : List PyData) (i : Nat) (ρ : DL.Env) : Prop := ∃ (ds : List PyData) (B' : Bag) (c : Cell), ds.Perm (xs.take i) ∧ ρ = [.pm (Bag.toD B'), .cl (.list xs), .op ds, c]
theorem mixed_perm (B : Bag) (xs : List PyData) (hx : xs.length ≤ 1000) : MixP xs (F__law_mixed B.toD [.list xs]) := by
  unfold F__law_mixed g__law_mixed
  rw [e_runM]
  simp [argM]
  refine use_loop (P := fun x => MixP xs (kM (kSq x _))) (MixJ xs) ?_ ?_ ?_
  · exact ⟨[], B, .no, by simp, rfl⟩
  · rintro i d ρ hd ⟨ds, B1, c, hp, rfl⟩
    have hi := (List.getElem?_eq_some_iff.mp hd).1
    have hl : ds.length = i := by rw [hp.length_eq, List.length_take]; omega
    obtain ⟨t, B2, et, t0, t1⟩ := take_ok B1 (i + 1) (by omega) (by omega)
    have h2 : i < 1000000 := by omega
    have h3 : t ≤ 1000000 := by omega
    simp [hl, et, h2, h3, t0]
    refine turns_nx ⟨_, B2, .cl d, ?_, rfl⟩
    have e1 : xs.take (i + 1) = xs.take i ++ [d] := by rw [List.take_add_one, hd]; rfl
    rw [e1]
    have e2 : (ds.take t.toNat ++ d :: ds.drop t.toNat).Perm (d :: ds) := by
      have := List.perm_middle (a := d) (l₁ := ds.take t.toNat) (l₂ := ds.drop t.toNat)
      rwa [List.take_append_drop] at this
    refine e2.trans ?_
    exact ((List.Perm.cons d hp).trans (List.perm_append_singleton d (xs.take i)).symm)
  · rintro ρ' ⟨ds, B', c, hp, rfl⟩
    rw [List.take_length] at hp
    simp
    exact ⟨ds, B', rfl, hp⟩
def on (n : Nat) (s : Nat → Int) (f : Nat) : Nat := ((List.range n).filter fun k => decide (s k = f)).length
structure Legal (n F : Nat) (V s : Nat → Int) : Prop where
  rng : ∀ k, k < n → 0 ≤ s k ∧ s k ≤ F
  fit : ∀ f, f < F → (on n s f : Int) ≤ V f
theorem on_put {n : Nat} {s : Nat → Int} {m f : Nat} {x : Int} (h : m < n) : (on n (put s m x) f : Int) = on n s f - (if s m = f then 1 else 0) + (if x = f then 1 else 0) := by
  unfold on
  induction n with
  | zero => omega
  | succ n ih =>
    rw [List.range_succ, List.filter_append, List.filter_append, List.length_append, List.length_append]
    by_cases hm : m = n
    · subst hm
      have e : (List.range m).filter (fun k => decide (put s m x k = f)) = (List.range m).filter (fun k => decide (s k = f)) := by
        apply List.filter_congr
        intro k hk
        have := List.mem_range.mp hk
        rw [put_ne (by omega)]
      rw [e]
      by_cases h1 : s m = f <;> by_cases h2 : x = f <;> simp [List.filter_cons, put_same, h1, h2] <;> omega
    · have ih := ih (by omega)
      have e : put s m x n = s n := put_ne (fun z => hm z.symm)
      by_cases h1 : s n = f <;> simp [List.filter_cons, e, h1] <;> omega
end LW
namespace LW
open PySem L2 DL
theorem nil_shaped : SeqAt.shaped (.list []) = true := rfl
theorem ne_nil {ρ : DL.Env} {a : Val} {ns : List Int} (h : datOf ρ a = some (.list (ns.map .int))) (hf : ∀ x, a ≠ .cl x) (hb : ∀ x ∈ ns, -1000000 ≤ x ∧ x ≤ 1000000) (hl : ns.length ≤ 1000) : eqQ true ρ a (.own []) = some (.cl (.bool (!ns.isEmpty)), ρ) := by
  have N : Ok60 (.list (ns.map .int)) := by
    have := nice_lst (h := 0) (w := 21) (xs := ns.map .int) fun x hx => by
      obtain ⟨k, hk, rfl⟩ := List.mem_map.mp hx
      exact nice_int (hb k hk).1 (hb k hk).2
    refine this.mono (by omega) ?_
    rw [List.length_map]
    omega
  have e : eqG true ρ a (.own []) = some (.cl (.bool (true ^^ PyData.eqv (.list (ns.map .int)) (.list []))), ρ) := by
    unfold eqG
    rw [h]
    show (if SeqAt.shaped (.list (ns.map .int)) = true ∧ SeqAt.shaped (.list []) = true then _ else _) = _
    rw [if_pos ⟨shaped_of N, nil_shaped⟩]
  have e2 : (true ^^ PyData.eqv (.list (ns.map .int)) (.list [])) = !ns.isEmpty := by
    cases ns <;> rfl
  unfold eqQ
  split
  · rename_i x y z w
    exact absurd rfl (hf _)
  · rw [e, e2]
def StateEnd (n F : Nat) (V : Nat → Int) (x : Option (Val × List PyData)) : Prop := ∃ s B', x = some (.cl (.tuple (iv n s)), Bag.toD B') ∧ Legal n F V s
def StI (n F : Nat) (V : Nat → Int) (way : Int) (ds : List PyData) (i : Nat) (ρ : DL.Env) : Prop := ∃ (s Lf : Nat → Int) (B' : Bag) (c7 c8 : Cell), (∀ k, k < n → 0 ≤ s k ∧ s k ≤ F) ∧ (∀ k, k < n → PyData.int (k : Nat) ∉ ds.take i → s k = F) ∧ (∀ f, f < F → 0 ≤ Lf f ∧ (on n s f : Int) + Lf f ≤ V f) ∧
  ρ = [.pm (Bag.toD B'), .cl (.tuple [.int n, .tuple (iv F V)]), .cl (.int n), .cl (.tuple (iv F V)), .op (iv F Lf), .cl (.int way), .op (iv n s), c7, c8, .no, .no]
theorem iv_const {n : Nat} {x : Int} : List.replicate n (PyData.int x) = iv n fun _ => x := by
  simp [iv, List.map_const']
theorem on_const {n : Nat} {x : Int} {f : Nat} (h : x ≠ f) : on n (fun _ => x) f = 0 := by
  unfold on
  simp [h]
def opn (F : Nat) (Lf : Nat → Int) : List Int := ((List.range F).filter fun f => decide (0 < Lf f)).map fun (f : Nat) => (f : Int)
theorem opn_mem {F : Nat} {Lf : Nat → Int} {x : Int} (h : x ∈ opn F Lf) : ∃ f : Nat, x = f ∧ f < F ∧ 0 < Lf f := by
  unfold opn at h
  simp only [List.mem_map, List.mem_filter, List.mem_range, decide_eq_true_eq] at h
  obtain ⟨f, ⟨h1, h2⟩, rfl⟩ := h
  exact ⟨f, rfl, h1, h2⟩
theorem opn_len {F : Nat} {Lf : Nat → Int} : (opn F Lf).length ≤ F := by
  unfold opn
  rw [List.length_map]
  have := List.length_filter_le (fun f => decide (0 < Lf f)) (List.range F)
  rwa [List.length_range] at this
theorem state_ok (B : Bag) (n F : Nat) (V : Nat → Int) (hn : n ≤ 100) (hF : F ≤ 20) (hV : ∀ f, f < F → 0 ≤ V f) : StateEnd n F V (F__law_state B.toD [house n F V]) := by
  obtain ⟨way, B1, ew, w0, w1⟩ := take_ok B 4 (by decide) (by decide)
  have hn3 : (-1000000 : Int) ≤ n ∧ (n : Int) ≤ 1000000 := by omega
  have hn4 : (-1000 : Int) ≤ n ∧ (n : Int) ≤ 1000 := by omega
  obtain ⟨ds, B2, em, hp⟩ := mixed_perm B1 (rngD 0 n 1) (by rw [rngD_len]; omega)
  have hnd : ds.Nodup := by
    rw [hp.nodup_iff, rng_gl]
    unfold gl
    refine List.Pairwise.map _ (fun a b h hab => ?_) List.nodup_range
    simp at hab
    exact h (by omega)
  have hmem : ∀ d ∈ ds, ∃ k : Nat, k < n ∧ d = .int (k : Nat) := fun d hd => by
    have := hp.mem_iff.mp hd
    rw [rng_gl] at this
    unfold gl at this
    simp only [List.mem_map, List.mem_range] at this
    obtain ⟨k, hk, rfl⟩ := this
    exact ⟨k, hk, by simp⟩
  unfold F__law_state g__law_state house
  rw [e_runM]
  simp [argM, ew, em, hn3.1, hn3.2, hn4.1, hn4.2]
  refine use_loop (P := fun x => StateEnd n F V (kM (kSq x _))) (StI n F V way ds) ?_ ?_ ?_
  · exact ⟨fun _ => F, V, B2, .no, .no, fun k _ => ⟨by show (0 : Int) ≤ F; omega, Int.le_refl _⟩, fun _ _ _ => rfl, fun f hf => ⟨hV f hf, by rw [on_const (by omega)]; omega⟩, by rw [iv_const]⟩
  · rintro i d ρ hd ⟨s, Lf, B3, c7, c8, h1, h2, h3, rfl⟩
    obtain ⟨k, hk, rfl⟩ := hmem d (List.mem_of_getElem? hd)
    have hi := (List.getElem?_eq_some_iff.mp hd).1
    have hk2 : PyData.int (k : Nat) ∉ ds.take i := fun z => by
      obtain ⟨m, hm⟩ := List.mem_iff_getElem?.mp z
      have hmi := (List.getElem?_eq_some_iff.mp hm).1
      rw [List.length_take] at hmi
      rw [List.getElem?_take_of_lt (by omega)] at hm
      have := (List.getElem?_inj hi hnd).mp (hd.trans hm.symm)
      omega
    have sk : s k = F := h2 k hk hk2
    have e8 : ∀ c7', lcB 4 [9, 10] (tupT [9, 10]) (testD (binD (varD 10) (conD (PyData.int 0)) (intG (i2b fun i j => decide (j < i))))) (varD 9)
        [Cell.pm B3.toD, Cell.cl (PyData.tuple [PyData.int ↑n, PyData.tuple (iv F V)]), Cell.cl (PyData.int ↑n), Cell.cl (PyData.tuple (iv F V)), Cell.op (iv F Lf), Cell.cl (PyData.int way), Cell.op (iv n s), c7', c8, .no, .no]
        = some (.own ((opn F Lf).map .int), [Cell.pm B3.toD, Cell.cl (PyData.tuple [PyData.int ↑n, PyData.tuple (iv F V)]), Cell.cl (PyData.int ↑n), Cell.cl (PyData.tuple (iv F V)), Cell.op (iv F Lf), Cell.cl (PyData.int way), Cell.op (iv n s), c7', c8, .no, .no]) := fun c7' => by
      refine lcB_pure rfl ?_
      rw [enum_iv, lc_glf (fun f => if decide (0 < Lf f) = true then some (.int (f : Nat)) else none) (by simp) (by omega) (by simp) (by
        intro f hf
        by_cases h : 0 < Lf f
        · simp [h]
        · simp [h]), fm_filter]
      simp [opn]
    have eB : ∀ c7', eqQ true [Cell.pm B3.toD, Cell.cl (PyData.tuple [PyData.int ↑n, PyData.tuple (iv F V)]), Cell.cl (PyData.int ↑n), Cell.cl (PyData.tuple (iv F V)), Cell.op (iv F Lf), Cell.cl (PyData.int way), Cell.op (iv n s), c7', Cell.op (List.map PyData.int (opn F Lf)), Cell.no, Cell.no] (Val.sl 8) (Val.own [])
        = some (.cl (.bool (!(opn F Lf).isEmpty)), [Cell.pm B3.toD, Cell.cl (PyData.tuple [PyData.int ↑n, PyData.tuple (iv F V)]), Cell.cl (PyData.int ↑n), Cell.cl (PyData.tuple (iv F V)), Cell.op (iv F Lf), Cell.cl (PyData.int way), Cell.op (iv n s), c7', Cell.op (List.map PyData.int (opn F Lf)), Cell.no, Cell.no]) := fun c7' =>
      ne_nil rfl (fun x z => by cases z) (fun x hx => by obtain ⟨f, rfl, hf, _⟩ := opn_mem hx; omega) (by have := opn_len (F := F) (Lf := Lf); omega)
    have ek : ixN n (k : Int) = some k := ixN_nat rfl hk
    have inv : ∀ (x : Int) (L2 : Nat → Int) (B9 : Bag) (c7 c8 : Cell), 0 ≤ x → x ≤ F → (∀ f, f < F → 0 ≤ L2 f ∧ L2 f + (if x = (f : Int) then 1 else 0) ≤ Lf f) → StI n F V way ds (i + 1) [.pm (Bag.toD B9), .cl (.tuple [.int n, .tuple (iv F V)]), .cl (.int n), .cl (.tuple (iv F V)), .op (iv F L2), .cl (.int way), .op (iv n (put s k x)), c7, c8, .no, .no] := fun x L2 B9 c7 c8 x0 x1 hL => by
      refine ⟨put s k x, L2, B9, c7, c8, fun m hm => ?_, fun m hm hm2 => ?_, fun f hf => ?_, rfl⟩
      · by_cases e : m = k
        · subst e; rw [put_same]; exact ⟨x0, x1⟩
        · rw [put_ne e]; exact h1 m hm
      · rw [List.take_add_one, hd] at hm2
        simp only [Option.toList_some, List.mem_append, List.mem_singleton, not_or] at hm2
        have e : m ≠ k := fun z => hm2.2 (by rw [z])
        rw [put_ne e]
        exact h2 m hm hm2.1
      · have a1 := hL f hf
        have a2 := h3 f hf
        have a3 := on_put (s := s) (f := f) (x := x) hk
        rw [sk] at a3
        have a4 : ¬ ((F : Int) = (f : Nat)) := by omega
        rw [if_neg a4] at a3
        refine ⟨a1.1, ?_⟩
        rw [a3]
        omega
    have same : iv n s = iv n (put s k F) := iv_congr fun m hm => by
      by_cases e : m = k
      · subst e; rw [put_same, sk]
      · rw [put_ne e]
    have stay : ∀ (B9 : Bag) (c7 c8 : Cell), StI n F V way ds (i + 1) [.pm (Bag.toD B9), .cl (.tuple [.int n, .tuple (iv F V)]), .cl (.int n), .cl (.tuple (iv F V)), .op (iv F Lf), .cl (.int way), .op (iv n (put s k F)), c7, c8, .no, .no] := fun B9 c7 c8 =>
      inv F Lf B9 c7 c8 (by omega) (Int.le_refl _) fun f hf => ⟨(h3 f hf).1, by rw [if_neg (by omega)]; omega⟩
    have goes : ∀ (f : Nat) (B9 : Bag) (c7 c8 : Cell), f < F → 0 < Lf f → StI n F V way ds (i + 1) [.pm (Bag.toD B9), .cl (.tuple [.int n, .tuple (iv F V)]), .cl (.int n), .cl (.tuple (iv F V)), .op (iv F (put Lf f (Lf f - 1))), .cl (.int way), .op (iv n (put s k f)), c7, c8, .no, .no] := fun f B9 c7 c8 hf hp =>
      inv f _ B9 c7 c8 (by omega) (by omega) fun g hg => by
        have := h3 g hg
        by_cases e : g = f
        · subst e; rw [put_same, if_pos rfl]; omega
        · rw [put_ne e, if_neg (by omega)]; omega
    have at6 : ∀ x, atI (iv n (put s k x)) (k : Int) = some (.int x) := fun x => by rw [iv_at rfl hk, put_same]
    have e0 : atI (iv n s) (k : Int) = some (.int F) := by rw [iv_at rfl hk, sk]
    cases ho : opn F Lf with
    | nil =>
      have hB : (!(opn F Lf).isEmpty) = false := by rw [ho]; rfl
      rw [hB] at eB
      rw [ho] at e8 eB
      have cs : way = 0 ∨ way = 1 ∨ 1 < way := by omega
      rcases cs with rfl | rfl | hw
      · simp [e8, e0]
        exact turns_nx (same ▸ stay _ _ _)
      · simp [e8, e0] at eB ⊢
        simp [eB, e0]
        exact turns_nx (same ▸ stay _ _ _)
      · have hw1 : ¬ way = 1 := by omega
        simp [e8, e0, hw1, hw] at eB ⊢
        simp [eB, e0]
        exact turns_nx (same ▸ stay _ _ _)
    | cons f0 rest =>
      have hB : (!(opn F Lf).isEmpty) = true := by rw [ho]; rfl
      rw [hB] at eB
      obtain ⟨f, ef, hf, hLf⟩ := opn_mem (F := F) (Lf := Lf) (x := f0) (by rw [ho]; exact List.mem_cons_self ..)
      have cs : way = 0 ∨ way = 1 ∨ 1 < way := by omega
      rcases cs with rfl | rfl | hw
      · simp [e8, e0]
        exact turns_nx (same ▸ stay _ _ _)
      · rw [ho] at e8 eB
        subst ef
        have hfF : (f : Int) < F := by omega
        have eL : atI (iv F Lf) (f : Int) = some (.int (Lf f)) := iv_at rfl hf
        have eF : ixN F (f : Int) = some f := ixN_nat rfl hf
        simp [e8, e0] at eB ⊢
        simp [eB, ek, iv_set, at6, hfF, eL, eF]
        exact turns_nx (goes f _ _ _ hf hLf)
      · have hw1 : ¬ way = 1 := by omega
        have hw2 : (-1000 : Int) ≤ way - 2 ∧ way - 2 ≤ 1000 := by omega
        have hlen := opn_len (F := F) (Lf := Lf)
        obtain ⟨x, B9, hx, ex⟩ := one_int B3 (opn F Lf ++ List.replicate (way - 2).toNat (F : Int)) (by rw [ho]; simp) (by rw [List.length_append, List.length_replicate]; omega)
        have eA : ∀ c7', addG [Cell.pm B3.toD, Cell.cl (PyData.tuple [PyData.int ↑n, PyData.tuple (iv F V)]), Cell.cl (PyData.int ↑n), Cell.cl (PyData.tuple (iv F V)), Cell.op (iv F Lf), Cell.cl (PyData.int way), Cell.op (iv n s), c7', Cell.op (List.map PyData.int (opn F Lf)), Cell.no, Cell.no] (.sl 8) (.own (List.replicate (way - 2).toNat (.int F)))
            = some (.own ((opn F Lf ++ List.replicate (way - 2).toNat (F : Int)).map .int), [Cell.pm B3.toD, Cell.cl (PyData.tuple [PyData.int ↑n, PyData.tuple (iv F V)]), Cell.cl (PyData.int ↑n), Cell.cl (PyData.tuple (iv F V)), Cell.op (iv F Lf), Cell.cl (PyData.int way), Cell.op (iv n s), c7', Cell.op (List.map PyData.int (opn F Lf)), Cell.no, Cell.no]) := fun c7' => by
          rw [add_seq (xs := (opn F Lf).map .int) (ys := List.replicate (way - 2).toNat (.int F)) rfl rfl (by rw [List.length_map, List.length_replicate]; omega)]
          simp
        rcases List.mem_append.mp hx with hx | hx
        · obtain ⟨g, rfl, hg, hLg⟩ := opn_mem hx
          have hgF : (g : Int) < F := by omega
          have eL : atI (iv F Lf) (g : Int) = some (.int (Lf g)) := iv_at rfl hg
          have eF : ixN F (g : Int) = some g := ixN_nat rfl hg
          simp [e8, e0, hw1, hw, eB, hw2.1, hw2.2, eA, -List.map_append, ex, ek, iv_set, at6, hgF, eL, eF]
          exact turns_nx (goes g _ _ _ hg hLg)
        · have hxF := List.eq_of_mem_replicate hx
          subst hxF
          simp [e8, e0, hw1, hw, eB, hw2.1, hw2.2, eA, -List.map_append, ex, ek, iv_set, at6]
          exact turns_nx (stay _ _ _)
  · rintro ρ' ⟨s, Lf, B3, c7, c8, h1, h2, h3, rfl⟩
    simp
    exact ⟨s, B3, rfl, h1, fun f hf => by have := h3 f hf; omega⟩
end LW
namespace LW
open PySem L2 DL
def Rng (n F : Nat) (s : Nat → Int) : Prop := ∀ k, k < n → 0 ≤ s k ∧ s k ≤ F
theorem iv_of_ints : ∀ {ds : List PyData} {xs : List Int}, (∀ d ∈ ds, ∃ x ∈ xs, d = .int x) → ∃ s : Nat → Int, ds = iv ds.length s ∧ ∀ k, k < ds.length → s k ∈ xs := fun {ds xs} h => by
  refine ⟨fun k => match ds[k]? with | some (.int x) => x | _ => 0, ?_, fun k hk => ?_⟩
  · refine List.ext_getElem? fun k => ?_
    by_cases hk : k < ds.length
    · rw [iv_get hk]
      obtain ⟨x, _, e⟩ := h _ (List.getElem_mem hk)
      have e2 : ds[k]? = some (.int x) := by rw [List.getElem?_eq_getElem hk, e]
      simp [e2]
    · rw [List.getElem?_eq_none (by omega), List.getElem?_eq_none (by rw [iv_len]; omega)]
  · obtain ⟨x, hx, e⟩ := h _ (List.getElem_mem hk)
    have e2 : ds[k]? = some (.int x) := by rw [List.getElem?_eq_getElem hk, e]
    simp [e2, hx]
def DrawnState (n F : Nat) (x : Option (Val × List PyData)) : Prop := ∃ s B', x = some (.cl (.tuple (iv n s)), Bag.toD B') ∧ Rng n F s
theorem sum_le (V : Nat → Int) : ∀ F, (∀ f, f < F → 0 ≤ V f) → ((List.range F).map fun f => List.replicate (V f).toNat (PyData.int (f : Nat))).flatten.length = ((List.range F).map V).sum
  | 0, _ => by simp
  | F + 1, h => by
    have ih := sum_le V F fun f hf => h f (by omega)
    have h1 := h F (by omega)
    rw [List.range_succ, List.map_append, List.flatten_append, List.length_append, List.map_append, List.sum_append]
    push_cast
    rw [ih]
    simp
    omega
theorem full_state_ok (B : Bag) (n F : Nat) (V : Nat → Int) (hn : n ≤ 100) (hF : F ≤ 20) (hV : ∀ f, f < F → 0 ≤ V f) (hs : ((List.range F).map V).sum ≤ n) : DrawnState n F (F__law_full_state B.toD [house n F V]) := by
  unfold F__law_full_state g__law_full_state house
  rw [e_runM]
  have hVf : ∀ f, f < F → V f ≤ 1000 := fun f hf => by
    have : V f ≤ ((List.range F).map V).sum := by
      have hm : V f ∈ (List.range F).map V := List.mem_map.mpr ⟨f, List.mem_range.mpr hf, rfl⟩
      have h0 : ∀ x ∈ (List.range F).map V, 0 ≤ x := fun x hx => by
        obtain ⟨g, hg, rfl⟩ := List.mem_map.mp hx
        exact hV g (List.mem_range.mp hg)
      revert hm h0
      generalize (List.range F).map V = l
      intro hm h0
      induction l with
      | nil => cases hm
      | cons a l ih =>
        rw [List.sum_cons]
        have ha := h0 a (List.mem_cons_self ..)
        have hl : 0 ≤ l.sum := by
          clear ih hm
          induction l with
          | nil => simp
          | cons b l ih =>
            rw [List.sum_cons]
            have := h0 b (by simp)
            have := ih fun x hx => h0 x (by
              rcases List.mem_cons.mp hx with z | z
              · simp [z]
              · simp [z])
            omega
        rcases List.mem_cons.mp hm with z | z
        · omega
        · have := ih z fun x hx => h0 x (List.mem_cons_of_mem _ hx)
          omega
    omega
  simp [argM]
  rw [enum_iv, lc_gl (fun f => .list (List.replicate (V f).toNat (.int (f : Nat)))) (by simp) (by omega) (by simp) (by
    intro f hf
    have a1 := hV f hf
    have a2 := hVf f hf
    have a3 : (-1000 : Int) ≤ V f := by omega
    simp [a2, a3])]
  obtain ⟨rows, hrows⟩ : ∃ rows, rows = (List.range F).map fun f => List.replicate (V f).toNat (PyData.int (f : Nat)) := ⟨_, rfl⟩
  have eg : (gl F fun f => PyData.list (List.replicate (V f).toNat (.int (f : Nat)))) = rows.map .list := by simp [gl, hrows]
  have hlen := sum_le V F hV
  rw [← hrows] at hlen
  have hfl := flat_ok rows (by omega) (by rw [hrows, List.length_map, List.length_range]; omega)
  have hit : ∀ d ∈ rows.flatten, ∃ f : Nat, f < F ∧ d = .int (f : Nat) := fun d hd => by
    rw [hrows] at hd
    simp only [List.mem_flatten, List.mem_map, List.mem_range] at hd
    obtain ⟨l, ⟨f, hf, rfl⟩, hl⟩ := hd
    exact ⟨f, hf, List.eq_of_mem_replicate hl⟩
  revert hlen hfl hit
  generalize rows.flatten = fl
  intro hlen hfl hit
  have hL : (-1000 : Int) ≤ (n : Int) - fl.length ∧ (n : Int) - fl.length ≤ 1000 := by omega
  have hadd : ∀ {ρ : DL.Env}, ρ.getD 2 .no = .op fl → addG ρ (.sl 2) (.own (List.replicate (n - fl.length) (.int F))) = some (.own (fl ++ List.replicate (n - fl.length) (.int F)), ρ) := fun {ρ} h =>
    add_seq (by unfold seqOf; simp only [h]) rfl (by rw [List.length_replicate]; omega)
  obtain ⟨ds, B2, em, hp⟩ := mixed_perm B (fl ++ List.replicate (n - fl.length) (.int F)) (by rw [List.length_append, List.length_replicate]; omega)
  simp [eg, hfl, hL.1, hL.2, hadd, em]
  have hdl : ds.length = n := by rw [hp.length_eq, List.length_append, List.length_replicate]; omega
  obtain ⟨s, e1, e2⟩ := iv_of_ints (ds := ds) (xs := (List.range (F + 1)).map fun f => ((f : Nat) : Int)) fun d hd => by
    rcases List.mem_append.mp (hp.mem_iff.mp hd) with z | z
    · obtain ⟨f, hf, rfl⟩ := hit d z
      exact ⟨f, List.mem_map.mpr ⟨f, List.mem_range.mpr (by omega), rfl⟩, rfl⟩
    · exact ⟨F, List.mem_map.mpr ⟨F, List.mem_range.mpr (by omega), rfl⟩, List.eq_of_mem_replicate z⟩
  rw [hdl] at e1 e2
  refine ⟨s, B2, by rw [e1], fun k hk => ?_⟩
  obtain ⟨f, hf, e⟩ := List.mem_map.mp (e2 k hk)
  have := List.mem_range.mp hf
  omega
def StartEnd (n F : Nat) (V : Nat → Int) (x : Option (Val × List PyData)) : Prop := ∃ d B', x = some (.cl d, Bag.toD B') ∧ ((∃ s, d = .tuple (iv n s) ∧ Legal n F V s) ∨ (d = .none ∧ ((List.range F).map V).sum ≤ n))
theorem start_ok (B : Bag) (n F : Nat) (V : Nat → Int) (hn : n ≤ 100) (hF : F ≤ 20) (hV : ∀ f, f < F → 0 ≤ V f) : StartEnd n F V (F__law_start B.toD [house n F V]) := by
  obtain ⟨s1, B1, e1, L1⟩ := state_ok B n F V hn hF hV
  obtain ⟨s2, B2, e2, L2⟩ := state_ok B1 n F V hn hF hV
  unfold house at e1 e2
  unfold F__law_start g__law_start house
  rw [e_runM]
  have hn4 : (-1000 : Int) ≤ n ∧ (n : Int) ≤ 1000 := by omega
  simp [argM, e1, e2, hn4.1, hn4.2]
  have hrep : List.replicate n (PyData.int F) = iv n fun _ => (F : Int) := iv_const
  have fin : ∀ (ds : List PyData), ds ≠ [] → ds.length ≤ 1000000 → (∀ d ∈ ds, (∃ s, d = .tuple (iv n s) ∧ Legal n F V s) ∨ (d = .none ∧ ((List.range F).map V).sum ≤ n)) → StartEnd n F V (F__law_one B2.toD [.list ds]) := fun ds h0 hl h => by
    obtain ⟨d, B3, hd, e3⟩ := one_ok B2 ds h0 hl
    exact ⟨d, B3, e3, h d hd⟩
  have r0 : (∃ s, PyData.tuple (List.replicate n (PyData.int F)) = .tuple (iv n s) ∧ Legal n F V s) := ⟨fun _ => F, by rw [hrep], fun k _ => ⟨by show (0 : Int) ≤ F; omega, Int.le_refl _⟩, fun f hf => by rw [on_const (by omega)]; exact hV f hf⟩
  have r1 : (∃ s, PyData.tuple (iv n s1) = .tuple (iv n s) ∧ Legal n F V s) := ⟨s1, rfl, L1⟩
  have r2 : (∃ s, PyData.tuple (iv n s2) = .tuple (iv n s) ∧ Legal n F V s) := ⟨s2, rfl, L2⟩
  by_cases hc : ((List.range F).map V).sum ≤ n
  · obtain ⟨d, B3, hd, e3⟩ := one_ok B2 [.tuple (List.replicate n (PyData.int F)), .tuple (iv n s1), .tuple (iv n s2), .none] (by simp) (by simp)
    have ea : ∀ {ρ : DL.Env}, ρ.getD 2 .no = .op [.tuple (List.replicate n (PyData.int F)), .tuple (iv n s1), .tuple (iv n s2)] → addG ρ (.sl 2) (.own [.none]) = some (.own [.tuple (List.replicate n (PyData.int F)), .tuple (iv n s1), .tuple (iv n s2), .none], ρ) := fun {ρ} h =>
      add_seq (xs := [.tuple (List.replicate n (PyData.int F)), .tuple (iv n s1), .tuple (iv n s2)]) (ys := [.none]) (by unfold seqOf; simp only [h]) rfl (by simp)
    simp [hc, ea, e3]
    refine ⟨d, B3, rfl, ?_⟩
    simp only [List.mem_cons, List.not_mem_nil, or_false] at hd
    rcases hd with rfl | rfl | rfl | rfl
    · exact .inl r0
    · exact .inl r1
    · exact .inl r2
    · exact .inr ⟨rfl, hc⟩
  · obtain ⟨d, B3, hd, e3⟩ := one_ok B2 [.tuple (List.replicate n (PyData.int F)), .tuple (iv n s1), .tuple (iv n s2)] (by simp) (by simp)
    have ea : ∀ {ρ : DL.Env}, ρ.getD 2 .no = .op [.tuple (List.replicate n (PyData.int F)), .tuple (iv n s1), .tuple (iv n s2)] → addG ρ (.sl 2) (.own []) = some (.own [.tuple (List.replicate n (PyData.int F)), .tuple (iv n s1), .tuple (iv n s2)], ρ) := fun {ρ} h =>
      add_seq (xs := [.tuple (List.replicate n (PyData.int F)), .tuple (iv n s1), .tuple (iv n s2)]) (ys := []) (by unfold seqOf; simp only [h]) rfl (by simp)
    simp [hc, ea, e3]
    refine ⟨d, B3, rfl, ?_⟩
    simp only [List.mem_cons, List.not_mem_nil, or_false] at hd
    rcases hd with rfl | rfl | rfl
    · exact .inl r0
    · exact .inl r1
    · exact .inl r2
end LW
noncomputable section
namespace DL
open PySem L2
section
variable {c : TD} {body : SD} {ρ : DL.Env} {n : Nat}
def kWh (x : Option Out) : Option Out := x
@[simp] theorem e_while : whileS n c body ρ = kWh (whileD c body n ρ) := rfl
/-- a loop of at most m turns: what holds at its heads, what holds behind it -/
theorem use_while {P : Option Out → Prop} (I : Nat → DL.Env → Prop) (R : DL.Env → Prop) (m : Nat) (hm : m < n) (h0 : I 0 ρ)
    (hs : ∀ i ρ, I i ρ → (∃ ρ', c ρ = some (false, ρ') ∧ R ρ') ∨ (i < m ∧ ∃ ρ1, c ρ = some (true, ρ1) ∧ Turns (I (i + 1)) (body ρ1)))
    (hk : ∀ ρ', R ρ' → P (some (.nx ρ'))) : P (kWh (whileD c body n ρ)) := by
  have go : ∀ (k i : Nat) (ρ : DL.Env), I i ρ → m < i + k → i ≤ m → ∃ ρ', whileD c body k ρ = some (.nx ρ') ∧ R ρ' := by
    intro k
    induction k with
    | zero =>
      intro i ρ hi hk hle
      omega
    | succ k ih =>
      intro i ρ hi hk hle
      rcases hs i ρ hi with ⟨ρ', e, r⟩ | ⟨h, ρ1, e, ρ2, e2, h2⟩
      · refine ⟨ρ', ?_, r⟩
        show (c ρ).bind _ = _
        rw [e]; rfl
      · obtain ⟨ρ', e3, r⟩ := ih (i + 1) ρ2 h2 (by omega) (by omega)
        refine ⟨ρ', ?_, r⟩
        show (c ρ).bind _ = _
        rw [e]
        show (body ρ1).bind _ = _
        rw [e2]
        exact e3
  by_cases hz : m < n
  · obtain ⟨ρ', e, r⟩ := go n 0 ρ h0 (by omega) (Nat.zero_le _)
    unfold kWh
    rw [e]
    exact hk ρ' r
  · exact absurd hm hz
end
section
variable {ρ : DL.Env} {f : ED} {j : Nat} {n : Int} {ds : List PyData} {ns : List Int}
def kSk3 (x : Option (List Int)) (n : Int) (ρ : DL.Env) : Option (Val × DL.Env) := x.bind fun ns => if (-lim ≤ n ∧ n ≤ lim) ∧ n.toNat ≤ ns.length then some (.own ((sortK ns n.toNat).map .int), ρ) else none
def kSk2 (c : Cell) (n : Int) (ρ : DL.Env) : Option (Val × DL.Env) := match c with
  | .cl (.tuple ds) => kSk3 (intsOf ds) n ρ
  | _ => none
def kSk (x : Option (Val × DL.Env)) (j : Nat) : Option (Val × DL.Env) := x.bind fun p => match p.1 with
  | .cl (.int n) => kSk2 (p.2.getD j .no) n p.2
  | _ => none
@[simp] theorem e_srtK : srtKD f j ρ = kSk (f ρ) j := by
  unfold srtKD kSk kSk2 kSk3
  cases f ρ with
  | none => rfl
  | some p =>
    obtain ⟨r, ρ'⟩ := p
    cases r with
    | cl d => cases d <;> simp [Option.bind] <;> split <;> simp_all
    | own d => rfl
    | sl i => rfl
@[simp] theorem s_Sk : kSk (some (.cl (.int n), ρ)) j = kSk2 (ρ.getD j .no) n ρ := rfl
@[simp] theorem s_Sk2 : kSk2 (.cl (.tuple ds)) n ρ = kSk3 (intsOf ds) n ρ := rfl
@[simp] theorem s_Sk3 (h1 : -1000000 ≤ n) (h2 : n ≤ 1000000) (h3 : n.toNat ≤ ns.length) : kSk3 (some ns) n ρ = some (.own ((sortK ns n.toNat).map .int), ρ) := by
  unfold kSk3
  show (if _ then _ else _) = _
  rw [if_pos ⟨⟨by rw [lim_eq]; omega, by rw [lim_eq]; omega⟩, h3⟩]
end
end DL
end
namespace LW
open PySem L2 DL
def nats (ds : List Nat) : List PyData := ds.map fun (k : Nat) => .int (k : Nat)
/-- what stands behind each thing that is put down; ss i: behind i of them -/
structure Steps (n F : Nat) (V : Nat → Int) (x : Nat) (s0 : Nat → Int) (ds : List Nat) (ss : Nat → Nat → Int) : Prop where
  start : ss 0 = s0
  step : ∀ i y, ds[i]? = some y → i < F ∧ V i < on n (ss i) i ∧ y < n ∧ ss i y = (i : Nat) ∧ ¬(i = 0 ∧ y = x) ∧ ss (i + 1) = put (ss i) y (i + 1)
structure Downs (n F : Nat) (V : Nat → Int) (x : Nat) (s0 : Nat → Int) (ds : List Nat) (ss : Nat → Nat → Int) : Prop extends Steps n F V x s0 ds ss where
  stop : F ≤ ds.length ∨ (on n (ss ds.length) ds.length : Int) ≤ V ds.length
def askD (x : Nat) (ds : List Nat) : PyData := .tuple [.str "ask", .int (x : Nat), .tuple (nats ds)]
def strikeD (x : Nat) : PyData := .tuple [.str "strike", .int (x : Nat), .tuple []]
theorem count_on {n : Nat} {s : Nat → Int} {f : Nat} : (((List.range n).map s).count ((f : Nat) : Int) : Int) = on n s f := by
  unfold on
  congr 1
  rw [List.count_eq_countP, List.countP_map, List.countP_eq_length_filter]
  congr 1
theorem done_ask (n F : Nat) (V s : Nat → Int) (x : Nat) (ds : List Nat) (ss : Nat → Nat → Int) (hn : n ≤ 1000) (hx : x < n) (hF : F ≤ 1000) (D : Downs n F V x (put s x 0) ds ss) :
    F__law_done [house n F V, .tuple (iv n s), askD x ds] = some (.cl (.tuple (iv n (ss ds.length)))) := by
  have hl : ds.length ≤ F := by
    rcases Nat.lt_or_ge F ds.length with z | z
    · have := (D.step F (ds[F]) (List.getElem?_eq_getElem z)).1
      omega
    · exact z
  unfold F__law_done g__law_done house askD
  rw [e_runP]
  have es : ¬ ((("ask" : Str)) = "strike") := by decide
  simp [argE, es, ixN_nat (n := n) (k := x) rfl hx, iv_set]
  rw [loop_eqL (fun i => [.cl (.tuple [.int n, .tuple (iv F V)]), .cl (.tuple (iv n s)), .cl (.tuple [.str "ask", .int (x : Nat), .tuple (nats ds)]), .cl (.str "ask"), .cl (.int (x : Nat)), .cl (.tuple (nats ds)), .cl (.int F), .op (iv n (ss i)), lv .no 0 1 i, (match i with | 0 => .no | j + 1 => .cl (.int (ds.getD j 0 : Nat))), .no]) (by simp [D.start]) (by
    intro i d hd
    unfold enumD at hd
    rw [List.getElem?_mapIdx] at hd
    obtain ⟨d', hd', rfl⟩ := Option.map_eq_some_iff.mp hd
    unfold nats at hd'
    rw [List.getElem?_map] at hd'
    obtain ⟨y, hy, rfl⟩ := Option.map_eq_some_iff.mp hd'
    obtain ⟨h1, h2, h3, h4, h5, h6⟩ := D.step i y hy
    have g1 : ¬ (F : Int) ≤ (i : Nat) := by omega
    have g2 : atI (iv F V) ((i : Nat) : Int) = some (.int (V i)) := iv_at rfl h1
    have g3 : atI (iv n (ss i)) ((y : Nat) : Int) = some (.int ((i : Nat) : Int)) := by rw [iv_at rfl h3, h4]
    have g4 : ¬ ((on n (ss i) i : Nat) : Int) ≤ V i := by omega
    have g5 : ixN n ((y : Nat) : Int) = some y := ixN_nat rfl h3
    have g6 : ds.getD i 0 = y := by rw [List.getD_eq_getElem?_getD, hy]; rfl
    have g7 : ¬ (((i : Nat) : Int) = 0 ∧ ((y : Nat) : Int) = ((x : Nat) : Int)) := fun z => h5 ⟨by omega, by omega⟩
    have g8 : ds[i]?.getD 0 = y := by rw [hy]; rfl
    by_cases hi : i = 0
    · subst hi
      have g9 : ¬ (((y : Nat) : Int) = ((x : Nat) : Int)) := fun z => h5 ⟨rfl, by omega⟩
      have g2' : atI (iv F V) 0 = some (.int (V 0)) := g2
      have g3' : atI (iv n (ss 0)) ((y : Nat) : Int) = some (.int 0) := g3
      have g4' : ¬ (((List.range n).map (ss 0)).count 0 : Int) ≤ V 0 := by
        have := count_on (n := n) (s := ss 0) (f := 0)
        simp at this
        omega
      have g1' : ¬ (F : Int) ≤ 0 := by omega
      simp at h6
      have g0 : ¬ F = 0 := by omega
      simp [g0, g1', g2', g3', g4', g5, iv_set, g8, h6, g9]
    · simp [g1, g2, g3, count_on, g4, g5, iv_set, hi, g8, h6])]
  have hle : (enumD (nats ds)).length = ds.length := by unfold enumD nats; rw [List.length_mapIdx, List.length_map]
  have hln : (nats ds).length = ds.length := by unfold nats; rw [List.length_map]
  simp [hle, hln]
  by_cases hc : F ≤ ds.length
  · have hc' : (F : Int) ≤ (ds.length : Int) := by omega
    simp [hc, hc']
  · have hstop := D.stop.resolve_left hc
    have hc' : ¬ (F : Int) ≤ (ds.length : Int) := by omega
    have g2 : atI (iv F V) ((ds.length : Nat) : Int) = some (.int (V ds.length)) := iv_at rfl (by omega)
    simp [hc, hc', g2, count_on, hstop]
theorem done_strike (n F : Nat) (V s : Nat → Int) (x : Nat) (hx : x < n) : F__law_done [house n F V, .tuple (iv n s), strikeD x] = some (.cl (.tuple (iv n (put s x F)))) := by
  have es : eqQ false [Cell.cl (.tuple [.int n, .tuple (iv F V)]), .cl (.tuple (iv n s)), .cl (.tuple [.str "strike", .int (x : Nat), .tuple []]), .cl (.str "strike"), .cl (.int (x : Nat)), .cl (.tuple []), .cl (.int F), .op (iv n (put s x F)), .no, .no, .no] (.cl (.tuple [])) (.cl (.tuple [])) = some (.cl (.bool true), [Cell.cl (.tuple [.int n, .tuple (iv F V)]), .cl (.tuple (iv n s)), .cl (.tuple [.str "strike", .int (x : Nat), .tuple []]), .cl (.str "strike"), .cl (.int (x : Nat)), .cl (.tuple []), .cl (.int F), .op (iv n (put s x F)), .no, .no, .no]) := rfl
  unfold F__law_done g__law_done house strikeD
  rw [e_runP]
  simp [argE, ixN_nat (n := n) (k := x) rfl hx, iv_set, es]
theorem add_tup {ρ : DL.Env} {xs ys : List PyData} (h : xs.length + ys.length ≤ 1000000) : addG ρ (.cl (.tuple xs)) (.cl (.tuple ys)) = some (.cl (.tuple (xs ++ ys)), ρ) := by
  unfold addG
  simp only [seqOf]
  rw [if_pos (by rw [lim_eq]; exact h)]
def MoveEnd (n F : Nat) (V s : Nat → Int) (x : Nat) (r : Option (Val × List PyData)) : Prop := ∃ ds ss B', r = some (.cl (askD x ds), Bag.toD B') ∧ Downs n F V x (put s x 0) ds ss
def MvI (n F : Nat) (V s : Nat → Int) (x : Nat) (way : Int) (i : Nat) (ρ : DL.Env) : Prop := ∃ (ds : List Nat) (ss : Nat → Nat → Int) (B' : Bag) (c7 c8 c9 : Cell), ds.length = i ∧ i ≤ F ∧ Steps n F V x (put s x 0) ds ss ∧ (0 < i → ∃ y, ds.getLast? = some y ∧ y < n ∧ ss i y = (i : Nat)) ∧ (∀ k, k < n → 0 ≤ ss i k) ∧
  ρ = [.pm (Bag.toD B'), .cl (.tuple [.int n, .tuple (iv F V)]), .cl (.tuple (iv n s)), .cl (.int (x : Nat)), .cl (.int way), .cl (.tuple (nats ds)), .op (iv n (ss i)), c7, c8, c9, .no]
def MvR (n F : Nat) (V s : Nat → Int) (x : Nat) (way : Int) (ρ : DL.Env) : Prop := ∃ (ds : List Nat) (ss : Nat → Nat → Int) (B' : Bag) (c6 c7 c8 c9 : Cell), Downs n F V x (put s x 0) ds ss ∧
  ρ = [.pm (Bag.toD B'), .cl (.tuple [.int n, .tuple (iv F V)]), .cl (.tuple (iv n s)), .cl (.int (x : Nat)), .cl (.int way), .cl (.tuple (nats ds)), c6, c7, c8, c9, .no]
def there (n : Nat) (x : Nat) (i : Nat) (s : Nat → Int) : List Nat := (List.range n).filter fun k => decide (s k = (i : Nat)) && (decide (0 < i) || !decide (k = x))
theorem there_mem {n x i y : Nat} {s : Nat → Int} : y ∈ there n x i s ↔ y < n ∧ s y = (i : Nat) ∧ ¬(i = 0 ∧ y = x) := by
  unfold there
  rw [List.mem_filter, List.mem_range]
  simp
  intro _ _
  constructor
  · rintro (h | h)
    · intro z; omega
    · exact fun _ => h
  · intro h
    by_cases hi : 0 < i
    · exact .inl hi
    · exact .inr (h (by omega))
theorem there_ne {n x i : Nat} {s : Nat → Int} (h : 2 ≤ on n s i) : there n x i s ≠ [] := fun z => by
  have h1 : ∀ y, y ∈ (List.range n).filter (fun k => decide (s k = (i : Nat))) → y = x := fun y hy => by
    rw [List.mem_filter, List.mem_range] at hy
    have hn : y ∉ there n x i s := by rw [z]; exact List.not_mem_nil
    rw [there_mem] at hn
    apply Classical.byContradiction
    intro hne
    exact hn ⟨hy.1, by simpa using hy.2, fun q => hne q.2⟩
  have nd : ((List.range n).filter (fun k => decide (s k = (i : Nat)))).Nodup := List.Pairwise.filter _ List.nodup_range
  unfold on at h
  revert h1 nd h
  generalize (List.range n).filter (fun k => decide (s k = (i : Nat))) = l
  intro h h1 nd
  match l, h, h1, nd with
  | a :: b :: l, _, h1, nd =>
    have e1 := h1 a (by simp)
    have e2 := h1 b (by simp)
    rw [e1, e2] at nd
    simp at nd
theorem atI_nats {l : List Nat} (h : l ≠ []) : ∃ y, l.getLast? = some y ∧ y ∈ l ∧ atI (nats l) (-1) = some (.int (y : Nat)) := by
  refine ⟨l.getLast h, List.getLast?_eq_some_getLast h, List.getLast_mem h, ?_⟩
  have e : l = l.dropLast ++ [l.getLast h] := (List.dropLast_concat_getLast h).symm
  have e2 : nats l = nats l.dropLast ++ [.int ((l.getLast h : Nat) : Int)] := by
    conv => lhs; rw [e]
    simp [nats]
  rw [e2]
  exact atI_last _ _
theorem steps_next {n F x i y : Nat} {V s0 : Nat → Int} {ds : List Nat} {ss : Nat → Nat → Int} (S : Steps n F V x s0 ds ss) (hl : ds.length = i) (hi : i < F) (hv : V i < on n (ss i) i) (hy : y ∈ there n x i (ss i)) :
    Steps n F V x s0 (ds ++ [y]) (fun j => if j ≤ i then ss j else put (ss i) y (i + 1)) := by
  obtain ⟨y1, y2, y3⟩ := there_mem.mp hy
  refine ⟨by simp [S.start], fun j z hz => ?_⟩
  have hj : j < (ds ++ [y]).length := (List.getElem?_eq_some_iff.mp hz).1
  rw [List.length_append, List.length_singleton] at hj
  by_cases e : j < i
  · rw [List.getElem?_append_left (by omega)] at hz
    have := S.step j z hz
    rw [if_pos (show j ≤ i by omega), if_pos (show j + 1 ≤ i by omega)]
    exact this
  · have e2 : j = i := by omega
    subst e2
    rw [List.getElem?_append_right (by omega)] at hz
    rw [hl, Nat.sub_self] at hz
    cases hz
    rw [if_pos (Nat.le_refl j), if_neg (by omega)]
    exact ⟨hi, hv, y1, y2, y3, rfl⟩
theorem drawn_ok (B : Bag) (n F : Nat) (V s : Nat → Int) (x : Nat) (way : Int) (hn : n ≤ 1000) (hF : F ≤ 1000) (hx : x < n) (hV : ∀ f, f < F → 1 ≤ V f) (hs : Rng n F s) : MoveEnd n F V s x (F__law_drawn_move B.toD [house n F V, .tuple (iv n s), .int (x : Nat), .int way]) := by
  unfold F__law_drawn_move g__law_drawn_move house
  rw [e_runM]
  simp [argM, ixN_nat (n := n) (k := x) rfl hx, iv_set]
  refine use_while (P := fun r => MoveEnd n F V s x (kM (kSq r _))) (MvI n F V s x way) (MvR n F V s x way) F (by omega) ?_ ?_ ?_
  · exact ⟨[], fun _ => put s x 0, B, .no, .no, .no, rfl, Nat.zero_le _, ⟨rfl, fun i y h => by simp at h⟩, fun h => absurd h (by omega), fun k hk => by
      show 0 ≤ put s x 0 k
      by_cases e : k = x
      · subst e; rw [put_same]; exact Int.le_refl _
      · rw [put_ne e]; exact (hs k hk).1, rfl⟩
  · rintro i ρ ⟨ds, ss, B1, c7, c8, c9, hl, hi, S, hlast, hpos, rfl⟩
    have hln : (nats ds).length = i := by unfold nats; rw [List.length_map, hl]
    by_cases h1 : i < F
    · have h1' : (i : Int) < F := by omega
      have g2 : atI (iv F V) ((i : Nat) : Int) = some (.int (V i)) := iv_at rfl h1
      by_cases h2 : V i < on n (ss i) i
      · right
        refine ⟨h1, _, by simp [hln, h1', g2, count_on, h2]; rfl, ?_⟩
        have hne : there n x i (ss i) ≠ [] := there_ne (by have := hV i h1; omega)
        have hn3 : (-1000000 : Int) ≤ n ∧ (n : Int) ≤ 1000000 := by omega
        have fin : ∀ (y : Nat) (B2 : Bag) (c7 c8 c9 : Cell), y ∈ there n x i (ss i) → MvI n F V s x way (i + 1) [.pm (Bag.toD B2), .cl (.tuple [.int n, .tuple (iv F V)]), .cl (.tuple (iv n s)), .cl (.int (x : Nat)), .cl (.int way), .cl (.tuple (nats ds ++ [.int (y : Nat)])), .op (iv n (put (ss i) y (i + 1))), c7, c8, c9, .no] := fun y B2 c7 c8 c9 hy => by
          obtain ⟨y1, y2, y3⟩ := there_mem.mp hy
          refine ⟨ds ++ [y], _, B2, c7, c8, c9, by rw [List.length_append, hl]; rfl, h1, steps_next S hl h1 h2 hy, fun _ => ⟨y, by simp, y1, by rw [if_neg (by omega), put_same]; push_cast; rfl⟩, fun k hk => ?_, ?_⟩
          · rw [if_neg (by omega)]
            by_cases e : k = y
            · subst e; rw [put_same]; omega
            · rw [put_ne e]; exact hpos k hk
          · rw [if_neg (by omega)]
            simp [nats]
        have hadd : ∀ {ρ : DL.Env} {y : Nat}, addG ρ (.cl (.tuple (nats ds))) (.cl (.tuple [.int (y : Nat)])) = some (.cl (.tuple (nats ds ++ [.int (y : Nat)])), ρ) := fun {ρ y} => add_tup (by rw [hln]; simp; omega)
        have ylt : ∀ {y}, y ∈ there n x i (ss i) → ixN n ((y : Nat) : Int) = some y := fun {y} hy => ixN_nat rfl (there_mem.mp hy).1
        simp [hln, hn3.1, hn3.2]
        rw [rng_gl, lc_glf (fun k => if (decide (ss i k = (i : Nat)) && (decide (0 < i) || !decide (k = x))) = true then some (.int (k : Nat)) else none) (by simp) (by omega) (by simp) (by
          intro k hk
          have a1 : atI (iv n (ss i)) ((k : Nat) : Int) = some (.int (ss i k)) := iv_at rfl hk
          by_cases b1 : ss i k = (i : Nat)
          · by_cases b2 : 0 < i
            · simp [a1, b1, b2]
            · by_cases b3 : k = x
              · subst b3
                simp [a1, b1, b2]
              · have b4 : ¬ ((k : Nat) : Int) = ((x : Nat) : Int) := by omega
                simp [a1, b1, b2, b3, b4]
          · simp [a1, b1]), fm_filter]
        have et : ((List.range n).filter fun k => decide (ss i k = (i : Nat)) && (decide (0 < i) || !decide (k = x))).map (fun (k : Nat) => PyData.int (k : Nat)) = nats (there n x i (ss i)) := rfl
        rw [et]
        by_cases w1 : way = 1
        · obtain ⟨y, _, hy, ey⟩ := atI_nats hne
          simp [w1, ey, hadd]
          rw [item_st rfl rfl]
          simp [ylt hy, iv_set]
          rw [w1] at fin
          exact turns_nx (fin y _ _ _ _ hy)
        · by_cases w2 : way = 2 ∧ 0 < i
          · obtain ⟨w2, wi⟩ := w2
            obtain ⟨y, hy1, hy2, hy3⟩ := hlast wi
            have hy : y ∈ there n x i (ss i) := there_mem.mpr ⟨hy2, hy3, fun z => by omega⟩
            obtain ⟨y', q1, _, ey⟩ := atI_nats (l := ds) (fun z => by rw [z] at hl; simp at hl; omega)
            rw [hy1] at q1
            cases q1
            simp [w1, w2, wi, ey, hadd]
            rw [item_st rfl rfl]
            simp [ylt hy, iv_set]
            exact turns_nx (w2 ▸ fin y _ _ _ _ hy)
          · obtain ⟨d, B2, hd, e2⟩ := one_ok B1 (nats (there n x i (ss i))) (fun z => hne (by simpa [nats] using z)) (by unfold nats there; rw [List.length_map]; have := List.length_filter_le (fun k => decide (ss i k = (i : Nat)) && (decide (0 < i) || !decide (k = x))) (List.range n); rw [List.length_range] at this; omega)
            obtain ⟨y, hy, rfl⟩ := List.mem_map.mp hd
            have w2' : way = 2 → i = 0 := fun z => Nat.le_zero.mp (Nat.not_lt.mp fun q => w2 ⟨z, q⟩)
            by_cases w3 : way = 2
            · have hi0 : ¬ 0 < i := by have := w2' w3; omega
              simp [w1, w3, hi0, e2, hadd]
              rw [item_st rfl rfl]
              simp [ylt hy, iv_set]
              exact turns_nx (w3 ▸ fin y _ _ _ _ hy)
            · simp [w1, w3, e2, hadd]
              rw [item_st rfl rfl]
              simp [ylt hy, iv_set]
              exact turns_nx (fin y _ _ _ _ hy)
      · left
        refine ⟨_, by simp [hln, h1', g2, count_on, h2]; rfl, ds, ss, B1, _, c7, c8, c9, ⟨S, .inr (by rw [hl]; omega)⟩, rfl⟩
    · left
      have h1' : ¬ (i : Int) < F := by omega
      refine ⟨_, by simp [hln, h1']; rfl, ds, ss, B1, _, c7, c8, c9, ⟨S, .inl (by rw [hl]; omega)⟩, rfl⟩
  · rintro ρ' ⟨ds, ss, B', c6, c7, c8, c9, D, rfl⟩
    simp
    exact ⟨ds, ss, B', rfl, D⟩
end LW
namespace LW
open PySem L2 DL
theorem downs_rng {n F x : Nat} {V s0 : Nat → Int} {ds : List Nat} {ss : Nat → Nat → Int} (D : Steps n F V x s0 ds ss) (h0 : Rng n F s0) : ∀ i, i ≤ ds.length → Rng n F (ss i)
  | 0, _ => by rw [D.start]; exact h0
  | i + 1, h => by
    have ih := downs_rng D h0 i (by omega)
    have hi : i < ds.length := by omega
    obtain ⟨h1, h2, h3, h4, h5, h6⟩ := D.step i ds[i] (List.getElem?_eq_getElem hi)
    rw [h6]
    intro k hk
    by_cases e : k = ds[i]
    · rw [← e, put_same]; omega
    · rw [put_ne e]; exact ih k hk
theorem rng_put {n F x : Nat} {s : Nat → Int} {v : Int} (h : Rng n F s) (h0 : 0 ≤ v) (h1 : v ≤ F) : Rng n F (put s x v) := fun k hk => by
  by_cases e : k = x
  · subst e; rw [put_same]; exact ⟨h0, h1⟩
  · rw [put_ne e]; exact h k hk
def entryD (w : Str) (x : Nat) (f : Int) : PyData := .tuple [.str w, .int (x : Nat), .int f]
def Entry (n F : Nat) (d : PyData) : Prop := ∃ w x f, d = entryD w x f ∧ (w = "ask" ∨ w = "strike") ∧ x < n ∧ 0 ≤ f ∧ f ≤ F
def RunEnd (n F : Nat) (m : Int) (r : Option (Val × List PyData)) : Prop := ∃ run log sts B', r = some (.cl (.tuple [.tuple run, .tuple log, .list sts]), Bag.toD B') ∧ (∀ e ∈ log, Entry n F e) ∧ (log.length : Int) ≤ m
def RunI (n F : Nat) (V : Nat → Int) (c2 c3 : Cell) (strikes way : Int) (fav : List Nat) (i : Nat) (ρ : DL.Env) : Prop := ∃ (run log sts : List PyData) (s : Nat → Int) (B' : Bag) (c9 c10 c11 c12 : Cell), (c9 = .op (nats fav) ∨ c9 = .cl (.list (nats fav))) ∧ run.length = i ∧ log.length = i ∧ sts.length = i ∧ (∀ e ∈ log, Entry n F e) ∧ Rng n F s ∧
  ρ = [.pm (Bag.toD B'), .cl (.tuple [.int n, .tuple (iv F V)]), c2, c3, .cl (.int strikes), .op run, .op log, .op (sts ++ [.tuple (iv n s)]), .cl (.int way), c9, c10, c11, c12]
theorem run_ok (B : Bag) (n F : Nat) (V s : Nat → Int) (many strikes : Int) (hn : n ≤ 1000) (hF : F ≤ 1000) (hV : ∀ f, f < F → 1 ≤ V f) (hs : Rng n F s) (hm0 : 0 ≤ many) (hm : many ≤ 1000) (hk0 : 0 ≤ strikes) (hk : strikes ≤ 1000000) :
    RunEnd n F many (F__law_run B.toD [house n F V, .tuple (iv n s), .int many, .int strikes]) := by
  obtain ⟨way, B1, wm, ew⟩ := one_int B [0, 0, 1, 2] (by simp) (by simp)
  obtain ⟨ds, B2, em, hp⟩ := mixed_perm B1 (rngD 0 n 1) (by rw [rngD_len]; omega)
  obtain ⟨cut, B3, ec, c0, c1⟩ := take_ok B2 (max 1 (n : Int)) (by omega) (by omega)
  obtain ⟨fav0, hfd, hfn⟩ : ∃ fav : List Nat, ds = nats fav ∧ (∀ y ∈ fav, y < n) := by
    have : ∀ d ∈ ds, ∃ k : Nat, k < n ∧ d = .int (k : Nat) := fun d hd => by
      have := hp.mem_iff.mp hd
      rw [rng_gl] at this
      unfold gl at this
      simp only [List.mem_map, List.mem_range] at this
      obtain ⟨k, hk, rfl⟩ := this
      exact ⟨k, hk, by simp⟩
    clear em hp
    induction ds with
    | nil => exact ⟨[], rfl, fun _ z => nomatch z⟩
    | cons d ds ih =>
      obtain ⟨fav, e1, e2⟩ := ih fun d hd => this d (List.mem_cons_of_mem _ hd)
      obtain ⟨k, hk, rfl⟩ := this d (List.mem_cons_self ..)
      exact ⟨k :: fav, by rw [e1]; rfl, fun y hy => (List.mem_cons.mp hy).elim (fun z => z ▸ hk) (e2 y)⟩
  have hlen : fav0.length = n := by
    have h1 := hp.length_eq
    rw [rngD_len, hfd] at h1
    simpa [nats] using h1
  obtain ⟨fav, ef, fl, f0, f9⟩ : ∃ fav : List Nat, cutD ds none (some (1 + cut)) = nats fav ∧ (∀ y ∈ fav, y < n) ∧ (0 < n → fav ≠ []) ∧ fav.length ≤ 1000 := by
    refine ⟨fav0.take (1 + cut).toNat, ?_, fun y hy => hfn y (List.mem_of_mem_take hy), fun h z => ?_, by rw [List.length_take]; omega⟩
    · have h2 := HT.sIx_nat ds.length ds.length (1 + cut).toNat
      unfold cutD
      rw [HT.sIx_none, show (1 + cut) = (((1 + cut).toNat : Nat) : Int) by omega, HT.sIx_nat, hfd]
      simp only [List.drop_zero, Nat.sub_zero]
      unfold nats
      rw [← List.map_take, List.length_map]
      congr 1
      rw [show ((((1 + cut).toNat : Nat) : Int)).toNat = (1 + cut).toNat by omega]
      by_cases hc : (1 + cut).toNat ≤ fav0.length
      · rw [Nat.min_eq_left hc]
      · rw [Nat.min_eq_right (by omega), List.take_of_length_le (Nat.le_refl _), List.take_of_length_le (by omega)]
    · have : (fav0.take (1 + cut).toNat).length = 0 := by rw [z]; rfl
      rw [List.length_take] at this
      omega
  have hn3 : (-1000000 : Int) ≤ n ∧ (n : Int) ≤ 1000000 := by omega
  unfold F__law_run g__law_run house
  rw [e_runM]
  simp at ew
  simp [argM, ew, hn3.1, hn3.2, em, ec, ef]
  by_cases h0 : 0 < n
  · have hm3 : (-1000000 : Int) ≤ many ∧ many ≤ 1000000 := by omega
    simp [h0, hm3.1, hm3.2]
    refine use_loop (P := fun r => RunEnd n F many (kM (kSq r _))) (RunI n F V (.cl (.tuple (iv n s))) (.cl (.int many)) strikes way fav) ?_ ?_ ?_
    · exact ⟨[], [], [], s, B3, _, .no, .no, .no, .inl rfl, rfl, rfl, rfl, (fun _ z => nomatch z), hs, rfl⟩
    · rintro i d ρ hd ⟨run, log, sts, s1, B4, c9, c10, c11, c12, h9, l1, l2, l3, hlog, hs1, rfl⟩
      have him : i < many.toNat := by have := (List.getElem?_eq_some_iff.mp hd).1; rwa [rngD_len] at this
      obtain ⟨t3, B5, e5, _, _⟩ := take_ok B4 3 (by decide) (by decide)
      -- the thing
      have thing : ∃ (x : Nat) (B6 : Bag), x < n ∧ (0 < t3 → F__law_one B5.toD [.list (nats fav)] = some (.cl (.int (x : Nat)), Bag.toD B6)) ∧ (¬ 0 < t3 → F__law_take B5.toD [.int n] = some (.cl (.int (x : Nat)), Bag.toD B6)) := by
        by_cases ht : 0 < t3
        · obtain ⟨d2, B6, hd2, e6⟩ := one_ok B5 (nats fav) (fun z => f0 h0 (by simpa [nats] using z)) (by unfold nats; rw [List.length_map]; omega)
          obtain ⟨x, hx, rfl⟩ := List.mem_map.mp hd2
          exact ⟨x, B6, fl x hx, fun _ => e6, fun z => absurd ht z⟩
        · obtain ⟨v, B6, e6, v0, v1⟩ := take_ok B5 n (by omega) (by omega)
          exact ⟨v.toNat, B6, by omega, fun z => absurd z ht, fun _ => by rw [show ((v.toNat : Nat) : Int) = v by omega]; exact e6⟩
      obtain ⟨x, B6, hx, x1, x2⟩ := thing
      have lst : ∀ {zs : List PyData}, atI (zs ++ [PyData.tuple (iv n s1)]) (-1) = some (.tuple (iv n s1)) := fun {zs} => atI_last _ _
      have ax : atI (iv n s1) ((x : Nat) : Int) = some (.int (s1 x)) := iv_at rfl hx
      have small : (sts.length : Nat) + 1 < 1000000 ∧ run.length < 1000000 ∧ log.length < 1000000 := by omega
      -- what both moves come to
      have fin : ∀ (w : Str) (mv : PyData) (s2 : Nat → Int) (B9 : Bag) (c9 c10 : Cell), (c9 = .op (nats fav) ∨ c9 = .cl (.list (nats fav))) → (w = "ask" ∨ w = "strike") → Rng n F s2 → RunI n F V (.cl (.tuple (iv n s))) (.cl (.int many)) strikes way fav (i + 1)
          [.pm (Bag.toD B9), .cl (.tuple [.int n, .tuple (iv F V)]), .cl (.tuple (iv n s)), .cl (.int many), .cl (.int strikes), .op (run ++ [mv]), .op (log ++ [.tuple [.str w, .int (x : Nat), .int (s1 x)]]), .op (sts ++ [.tuple (iv n s1), .tuple (iv n s2)]), .cl (.int way), c9, c10, .cl (.int (x : Nat)), .cl mv] := fun w mv s2 B9 c9 c10 h9 hw h2 => by
        refine ⟨run ++ [mv], log ++ [entryD w x (s1 x)], sts ++ [.tuple (iv n s1)], s2, B9, c9, c10, .cl (.int (x : Nat)), .cl mv, h9, by simp [l1], by simp [l2], by simp [l3], fun e he => ?_, h2, by simp [entryD]⟩
        rcases List.mem_append.mp he with z | z
        · exact hlog e z
        · rw [List.mem_singleton.mp z]
          exact ⟨w, x, s1 x, rfl, hw, hx, (hs1 x hx).1, (hs1 x hx).2⟩
      have ask : ∀ (B7 : Bag) (c10 : Cell), ∃ (ds2 : List Nat) (s2 : Nat → Int) (B8 : Bag), F__law_drawn_move B7.toD [.tuple [.int n, .tuple (iv F V)], .tuple (iv n s1), .int (x : Nat), .int way] = some (.cl (.tuple [.str "ask", .int (x : Nat), .tuple (nats ds2)]), Bag.toD B8) ∧ Rng n F s2 ∧
          F__law_done [.tuple [.int n, .tuple (iv F V)], .tuple (iv n s1), .tuple [.str "ask", .int (x : Nat), .tuple (nats ds2)]] = some (.cl (.tuple (iv n s2))) := fun B7 c10 => by
        obtain ⟨ds2, ss, B8, e8, D⟩ := drawn_ok B7 n F V s1 x way hn hF hx hV hs1
        exact ⟨ds2, ss ds2.length, B8, e8, downs_rng D.toSteps (rng_put hs1 (Int.le_refl _) (by omega)) _ (Nat.le_refl _), done_ask n F V s1 x ds2 ss hn hx hF D⟩
      have strike : F__law_done [.tuple [.int n, .tuple (iv F V)], .tuple (iv n s1), .tuple [.str "strike", .int (x : Nat), .tuple []]] = some (.cl (.tuple (iv n (put s1 x F)))) := done_strike n F V s1 x hx
      have rs : Rng n F (put s1 x F) := rng_put hs1 (by omega) (Int.le_refl _)
      have e9 : sts.length + 1 < 1000000 := small.1
      rcases h9 with rfl | rfl
      all_goals
        by_cases hz : strikes = 0
        · subst hz
          obtain ⟨ds2, s2, B8, a1, a2, a3⟩ := ask B6 .no
          by_cases ht : 0 < t3
          · simp [e5, ht, x1 ht, lst, a1, a3, small, ax]
            exact turns_nx (fin "ask" (.tuple [.str "ask", .int (x : Nat), .tuple (nats ds2)]) s2 B8 _ (.cl d) (by first | exact .inl rfl | exact .inr rfl) (.inl rfl) a2)
          · simp [e5, ht, x2 ht, lst, a1, a3, small, ax]
            exact turns_nx (fin "ask" (.tuple [.str "ask", .int (x : Nat), .tuple (nats ds2)]) s2 B8 _ (.cl d) (by first | exact .inl rfl | exact .inr rfl) (.inl rfl) a2)
        · obtain ⟨u, B7, e7, _, _⟩ := take_ok B6 strikes (by omega) (by omega)
          by_cases hu : 0 < u
          · obtain ⟨ds2, s2, B8, a1, a2, a3⟩ := ask B7 .no
            by_cases ht : 0 < t3
            · simp [e5, ht, x1 ht, hz, e7, hu, lst, a1, a3, small, ax]
              exact turns_nx (fin "ask" (.tuple [.str "ask", .int (x : Nat), .tuple (nats ds2)]) s2 B8 _ (.cl d) (by first | exact .inl rfl | exact .inr rfl) (.inl rfl) a2)
            · simp [e5, ht, x2 ht, hz, e7, hu, lst, a1, a3, small, ax]
              exact turns_nx (fin "ask" (.tuple [.str "ask", .int (x : Nat), .tuple (nats ds2)]) s2 B8 _ (.cl d) (by first | exact .inl rfl | exact .inr rfl) (.inl rfl) a2)
          · by_cases ht : 0 < t3
            · simp [e5, ht, x1 ht, hz, e7, hu, lst, strike, small, ax]
              exact turns_nx (fin "strike" (.tuple [.str "strike", .int (x : Nat), .tuple []]) _ B7 _ (.cl d) (by first | exact .inl rfl | exact .inr rfl) (.inr rfl) rs)
            · simp [e5, ht, x2 ht, hz, e7, hu, lst, strike, small, ax]
              exact turns_nx (fin "strike" (.tuple [.str "strike", .int (x : Nat), .tuple []]) _ B7 _ (.cl d) (by first | exact .inl rfl | exact .inr rfl) (.inr rfl) rs)
    · rintro ρ' ⟨run, log, sts, s1, B', c9, c10, c11, c12, h9, l1, l2, l3, hlog, hs1, rfl⟩
      rw [rngD_len] at l2
      simp
      exact ⟨run, log, _, B', rfl, hlog, by omega⟩
  · simp [h0]
    refine use_loop (P := fun r => RunEnd n F many (kM (kSq r _))) (RunI n F V (.cl (.tuple (iv n s))) (.cl (.int many)) strikes way fav) ?_ ?_ ?_
    · exact ⟨[], [], [], s, B3, _, .no, .no, .no, .inl rfl, rfl, rfl, rfl, (fun _ z => nomatch z), hs, rfl⟩
    · rintro i d ρ hd _
      have := (List.getElem?_eq_some_iff.mp hd).1
      rw [rngD_len] at this
      omega
    · rintro ρ' ⟨run, log, sts, s1, B', c9, c10, c11, c12, h9, l1, l2, l3, hlog, hs1, rfl⟩
      rw [rngD_len] at l2
      simp
      exact ⟨run, log, _, B', rfl, hlog, by omega⟩
def IsStart (n F : Nat) (V : Nat → Int) (d : PyData) : Prop := (∃ s, d = .tuple (iv n s) ∧ Legal n F V s) ∨ (d = .none ∧ ((List.range F).map V).sum ≤ n)
theorem story_ok (B : Bag) (n F : Nat) (V : Nat → Int) (d : PyData) (many strikes : Int) (hn : n ≤ 100) (hF : F ≤ 20) (hV : ∀ f, f < F → 1 ≤ V f) (hd : IsStart n F V d) (hm0 : 0 ≤ many) (hm : many ≤ 1000) (hk0 : 0 ≤ strikes) (hk : strikes ≤ 1000000) :
    RunEnd n F many (F__law_story B.toD [house n F V, d, .int many, .int strikes]) := by
  unfold F__law_story g__law_story
  rw [e_runM]
  rcases hd with ⟨s, rfl, hs⟩ | ⟨rfl, hsum⟩
  · obtain ⟨run, log, sts, B', e, h1, h2⟩ := run_ok B n F V s many strikes (by omega) (by omega) hV (fun k hk => hs.rng k hk) hm0 hm hk0 hk
    simp [argM, e]
    exact ⟨run, log, sts, B', rfl, h1, h2⟩
  · obtain ⟨s, B1, e1, hs⟩ := full_state_ok B n F V hn hF (fun f hf => by have := hV f hf; omega) hsum
    obtain ⟨run, log, sts, B', e, h1, h2⟩ := run_ok B1 n F V s many strikes (by omega) (by omega) hV hs hm0 hm hk0 hk
    simp [argM, e1, e]
    exact ⟨run, log, sts, B', rfl, h1, h2⟩
end LW
namespace LW
open PySem L2 DL
theorem iv_drop {N k : Nat} {w : Nat → Int} : (iv N w).drop k = iv (N - k) fun j => w (j + k) := by
  refine List.ext_getElem? fun j => ?_
  rw [List.getElem?_drop]
  by_cases h : j < N - k
  · rw [iv_get (by omega), iv_get h, Nat.add_comm]
  · rw [List.getElem?_eq_none (by rw [iv_len]; omega), List.getElem?_eq_none (by rw [iv_len]; omega)]
theorem iv_app {a b : Nat} {u v : Nat → Int} : iv a u ++ iv b v = iv (a + b) fun k => if k < a then u k else v (k - a) := by
  refine List.ext_getElem? fun j => ?_
  by_cases h : j < a
  · rw [List.getElem?_append_left (by rw [iv_len]; exact h), iv_get h, iv_get (by omega), if_pos h]
  · rw [List.getElem?_append_right (by rw [iv_len]; omega), iv_len]
    by_cases h2 : j < a + b
    · rw [iv_get (by omega), iv_get h2, if_neg h]
    · rw [List.getElem?_eq_none (by rw [iv_len]; omega), List.getElem?_eq_none (by rw [iv_len]; omega)]
theorem cut_from {ds : List PyData} {k : Nat} (h : k ≤ ds.length) : cutD ds (some (k : Int)) none = ds.drop k := by
  unfold cutD
  rw [HT.sIx_none, HT.sIx_nat, Nat.min_eq_left h, List.take_of_length_le (by rw [List.length_drop]; omega)]
theorem iv_one {x : Int} : [PyData.int x] = iv 1 fun _ => x := rfl
def knowD (os : List Int) (F : Nat) (T : Nat → Nat → Int) : PyData := .tuple [.tuple (os.map .int), .tuple (rowsT F (os.length + 1) T)]
def lessF (i : Int) (f : Nat) : Int := if i ≤ (f : Int) then 1 else 0
def cutR (T : Nat → Nat → Int) (e : Nat) (i : Int) (f k : Nat) : Int := if k < e then T f k else if k = e then max (T f e) (T f (e + 1) - lessF i f) else T f (k + 1) - lessF i f
def cutS (T : Nat → Nat → Int) (n : Nat) (i : Int) (f : Nat) : Int := T f n - lessF i f
theorem cut_row {n e : Nat} {T : Nat → Nat → Int} {i : Int} {f : Nat} (he : e < n) : iv e (T f) ++ PyData.int (max (T f e) (T f (e + 1) - lessF i f)) :: (iv (n - e) fun k => T f (k + (e + 1)) - lessF i f).drop 1 = iv n (cutR T e i f) := by
  have e1 : iv e (T f) ++ PyData.int (max (T f e) (T f (e + 1) - lessF i f)) :: (iv (n - e) fun k => T f (k + (e + 1)) - lessF i f).drop 1 = (iv e (T f) ++ iv 1 fun _ => max (T f e) (T f (e + 1) - lessF i f)) ++ (iv (n - e) fun k => T f (k + (e + 1)) - lessF i f).drop 1 := by
    rw [← iv_one]; simp
  rw [e1, iv_drop, iv_app, iv_app]
  have e2 : e + 1 + (n - e - 1) = n := by omega
  rw [e2]
  apply iv_congr
  intro k hk
  unfold cutR
  by_cases h1 : k < e
  · rw [if_pos (by omega), if_pos h1, if_pos h1]
  · by_cases h2 : k = e
    · rw [if_pos (by omega), if_neg h1, if_neg h1, if_pos h2]
    · rw [if_neg (by omega), if_neg h1, if_neg h2, show k - (e + 1) + 1 + (e + 1) = k + 1 by omega]
def strikeT (m : Nat) (T : Nat → Nat → Int) (f k : Nat) : Int := if k ≤ m then T f k else T f m
def lessA (V : Nat → Int) (i : Int) (S : Nat → Int) (f : Nat) : Int := if (f : Int) < i ∧ S f = pre V f then 1 else 0
def askT (V : Nat → Int) (i : Int) (S : Nat → Int) (T : Nat → Nat → Int) (f k : Nat) : Int := if k = 0 then 0 else max 0 (T f (k - 1) - lessA V i S f) + 1
def ledOk (F m e : Nat) (T : Nat → Nat → Int) (i : Int) : Prop := asc F (cutS T (m + 1) i) = true ∧ lgood F m (ltight F m (cutR T e i) (cutS T (m + 1) i)) (cutS T (m + 1) i) = true
theorem cut_last {m : Nat} {w : Nat → Int} : cutD (iv (m + 1) w) (some (-1)) none = [.int (w m)] := by
  have h : HT.sIx (m + 1) 0 (some (-1)) = m := by
    unfold HT.sIx
    simp
    omega
  unfold cutD
  rw [HT.sIx_none, iv_len, h, iv_drop, show m + 1 - m = 1 by omega]
  simp [iv]
def restL (os : List Int) (e : Nat) : List Int := os.take e ++ os.drop (e + 1)
open Classical in
noncomputable def ledD (F m e : Nat) (V : Nat → Int) (os : List Int) (T : Nat → Nat → Int) (w : Str) (x i : Int) : PyData :=
  if ledOk F m e T i then (if w = "strike" then knowD (restL os e ++ [x]) F (strikeT m (ltight F m (cutR T e i) (cutS T (m + 1) i)))
    else knowD (x :: restL os e) F (askT V i (cutS T (m + 1) i) (ltight F m (cutR T e i) (cutS T (m + 1) i)))) else .none
theorem led_ok (n F e m : Nat) (V : Nat → Int) (os : List Int) (T : Nat → Nat → Int) (w : Str) (x i : Int) (hm : n = m + 1) (hn : n < 900) (hF0 : 0 < F) (hF : F < 900) (ho : os.length = n) (hx : x ∈ os) (he : os.idxOf x = e) :
    F__law_led_2 [house n F V, knowD os F T, .tuple [.str w, .int x, .int i]] = some (.cl (ledD F m e V os T w x i)) := by
  have hen : e < n := by rw [← he, ← ho]; exact List.idxOf_lt_length_iff.mpr hx
  unfold F__law_led_2 g__law_led_2 house knowD
  rw [e_runP]
  have hk := sizes_of n F (by omega) T (.tuple (os.map .int))
  rw [ho]
  simp [argE, hx, he, hk]
  rw [show enumD (rowsT F (n + 1) T) = gl F fun f => .tuple [.int (f : Nat), .tuple (iv (n + 1) (T f))] from enum_gl]
  rw [loop_eqL (fun j => [.cl (.tuple [.int n, .tuple (iv F V)]), .cl (.tuple [.tuple (os.map .int), .tuple (rowsT F (n + 1) T)]), .cl (.tuple [.str w, .int x, .int i]), .cl (.tuple (os.map .int)), .cl (.tuple (rowsT F (n + 1) T)), .cl (.str w), .cl (.int x), .cl (.int i), .cl (.int (e : Nat)),
      .op (iv F fun f => if f < j then cutS T n i f else T f n), .op (rowsT j n (cutR T e i)), (match j with | 0 => .no | k + 1 => .cl (.int (k : Nat))), (match j with | 0 => .no | k + 1 => .cl (.tuple (iv (n + 1) (T k)))), (match j with | 0 => .no | k + 1 => .cl (.int (lessF i k))),
      (match j with | 0 => .no | k + 1 => .op (iv (n - e) fun q => T k (q + (e + 1)) - lessF i k)), .no, .no, .no, .no, .no])
    (by simp [rowsT, gl])
    (by
      intro j d hd
      obtain ⟨hj, rfl⟩ := gl_get' hd
      have hj2 : j < 1000000 := by omega
      have c1 : cutD (iv (n + 1) (T j)) (some ((e : Int) + 1)) none = iv (n - e) fun q => T j (q + (e + 1)) := by
        rw [show ((e : Int) + 1) = ((e + 1 : Nat) : Int) by omega, cut_from (by rw [iv_len]; omega), iv_drop, show n + 1 - (e + 1) = n - e by omega]
      have c2 : cutD (iv (n + 1) (T j)) none (some (e : Int)) = iv e (T j) := by
        rw [cut_to (by rw [iv_len]; omega), iv_take (by omega)]
      have a1 : atI (iv (n + 1) (T j)) (e : Int) = some (.int (T j e)) := iv_at rfl (by omega)
      have a2 : atI (iv (n - e) fun q => T j (q + (e + 1)) - lessF i j) 0 = some (.int (T j (e + 1) - lessF i j)) := (iv_at (k := 0) rfl (by omega)).trans (by rw [Nat.zero_add])
      have a3 : atI (iv F fun f => if f < j then cutS T n i f else T f n) (j : Int) = some (.int (T j n)) := by rw [iv_at rfl hj, if_neg (Nat.lt_irrefl j)]
      have c3 : cutD (iv (n - e) fun q => T j (q + (e + 1)) - lessF i j) (some 1) none = (iv (n - e) fun q => T j (q + (e + 1)) - lessF i j).drop 1 := cut_one (by rw [iv_len]; omega)
      have l1 : (rowsT j n (cutR T e i)).length = j := by unfold rowsT; rw [gl_len]
      have less : (if i ≤ (j : Int) then (1 : Int) else 0) = lessF i j := rfl
      have a5 : ixN F (j : Int) = some j := ixN_nat rfl hj
      have b1 : e + 1 ≤ 1000000 := by omega
      have b2 : e + 1 + (n - e - 1) ≤ 1000000 := by omega
      have b3 : ((iv e (T j)).length : Nat) = e := iv_len
      have fin : (iv F fun f => if f < j then cutS T n i f else T f n).set j (.int (T j n - lessF i j)) = iv F fun f => if f < j + 1 then cutS T n i f else T f n := by
        rw [iv_set]
        apply iv_congr
        intro f hf
        by_cases q : f = j
        · subst q; rw [put_same, if_pos (Nat.lt_succ_self f)]; rfl
        · rw [put_ne q]
          by_cases q2 : f < j
          · rw [if_pos q2, if_pos (by omega)]
          · rw [if_neg q2, if_neg (by omega)]
      have grow : rowsT j n (cutR T e i) ++ [.tuple (iv n (cutR T e i j))] = rowsT (j + 1) n (cutR T e i) := by unfold rowsT; rw [gl_succ]
      simp [less, c1, c2]
      generalize (match j with | 0 => Cell.no | k + 1 => Cell.op (iv (n - e) fun q => T k (q + (e + 1)) - lessF i k)) = c14
      rw [lc_iv (fun q => T j (q + (e + 1)) - lessF i j) (by simp) (by omega) (by simp) (by intro k hk; simp)]
      simp [a1, a2, a3, a5, c2, c3, b1, b2, l1, hj2]
      have row := cut_row (T := T) (i := i) (f := j) hen
      rw [List.drop_one] at row
      exact ⟨fin, by rw [row, grow]⟩)]
  have hsz : (iv F fun f => if f < F then cutS T n i f else T f n) = iv F (cutS T n i) := iv_congr fun f hf => if_pos hf
  have htl := ltightened_ok F m hF0 (by omega) (by omega) (cutR T e i) (cutS T n i)
  rw [← hm] at htl
  have glF : (gl F fun f => PyData.tuple [PyData.int (f : Nat), .tuple (iv (n + 1) (T f))]).length = F := gl_len
  rw [glF, hsz]
  generalize (match F with | 0 => Cell.no | k + 1 => Cell.cl (.int (k : Nat))) = c11
  have o12 : (match F with | 0 => Cell.no | k + 1 => Cell.cl (.tuple (iv (n + 1) (T k)))).isOpen = false := by cases F <;> rfl
  revert o12
  generalize (match F with | 0 => Cell.no | k + 1 => Cell.cl (.tuple (iv (n + 1) (T k)))) = c12
  intro o12
  generalize (match F with | 0 => Cell.no | k + 1 => Cell.cl (.int (lessF i k))) = c13
  generalize (match F with | 0 => Cell.no | k + 1 => Cell.op (iv (n - e) fun q => T k (q + (e + 1)) - lessF i k)) = c14
  have cA : cutD (os.map PyData.int) none (some (e : Int)) = (os.take e).map .int := by rw [cut_to (by rw [List.length_map]; omega), List.map_take]
  have cB : cutD (os.map PyData.int) (some ((e : Int) + 1)) none = (os.drop (e + 1)).map .int := by
    rw [show ((e : Int) + 1) = ((e + 1 : Nat) : Int) by omega, cut_from (by rw [List.length_map]; omega), List.map_drop]
  have hrl : (restL os e).length = m := by unfold restL; rw [List.length_append, List.length_take, List.length_drop]; omega
  have add1 : ∀ {ρ : DL.Env}, addG ρ (.cl (.tuple (List.take e (os.map .int)))) (.cl (.tuple (List.drop (e + 1) (os.map .int)))) = some (.cl (.tuple ((restL os e).map .int)), ρ) := fun {ρ} => by
    rw [add_tup (by rw [List.length_take, List.length_drop, List.length_map]; omega)]
    unfold restL
    rw [List.map_append, List.map_take, List.map_drop]
  have add2 : ∀ {ρ : DL.Env}, addG ρ (.cl (.tuple ((restL os e).map .int))) (.cl (.tuple [.int x])) = some (.cl (.tuple ((restL os e ++ [x]).map .int)), ρ) := fun {ρ} => by
    rw [add_tup (by rw [List.length_map, hrl]; simp; omega)]
    simp
  have add3 : ∀ {ρ : DL.Env}, addG ρ (.cl (.tuple [.int x])) (.cl (.tuple ((restL os e).map .int))) = some (.cl (.tuple ((x :: restL os e).map .int)), ρ) := fun {ρ} => by
    rw [add_tup (by rw [List.length_map, hrl]; simp; omega)]
    simp
  simp [htl]
  by_cases hok : ledOk F m e T i
  · have ht : ltold F m (cutR T e i) (cutS T n i) = .tuple (rowsT F n (ltight F m (cutR T e i) (cutS T n i))) := by
      unfold ltold
      subst hm
      exact if_pos hok
    simp [ht, cA, cB, add1]
    generalize hTT : ltight F m (cutR T e i) (cutS T n i) = TT
    by_cases hw : w = "strike"
    · simp [hw, add2, rowsT, -List.map_append]
      rw [lc_gl (fun f => .tuple (iv (n + 1) (strikeT m TT f))) (by simp [o12]) (by omega) (by simp) (by
        intro f hf
        have c9 : cutD (iv n (TT f)) (some (-1)) none = iv 1 fun _ => TT f m := by rw [hm]; exact cut_last
        have l9 : n + 1 ≤ 1000000 := by omega
        have e9 : iv n (TT f) ++ iv 1 (fun _ => TT f m) = iv (n + 1) (strikeT m TT f) := by
          rw [iv_app]
          apply iv_congr
          intro k hk
          unfold strikeT
          by_cases q : k < n
          · rw [if_pos q, if_pos (by omega)]
          · rw [if_neg q, if_neg (by omega)]
        simp [c9, l9, e9])]
      have eD : ledD F m e V os T w x i = .tuple [.tuple ((restL os e ++ [x]).map .int), .tuple (gl F fun f => .tuple (iv (n + 1) (strikeT m TT f)))] := by
        unfold ledD knowD rowsT
        rw [← hm, hTT, if_pos hok, if_pos hw, List.length_append, hrl, hm]
        rfl
      rw [← hw, eD]
      simp
    · simp [hw]
      rw [show enumD (rowsT F n TT) = gl F fun f => .tuple [.int (f : Nat), .tuple (iv n (TT f))] from enum_gl]
      rw [loop_eqL (fun j => [.cl (.tuple [.int n, .tuple (iv F V)]), .cl (.tuple [.tuple (os.map .int), .tuple (rowsT F (n + 1) T)]), .cl (.tuple [.str w, .int x, .int i]), .cl (.tuple (os.map .int)), .cl (.tuple (rowsT F (n + 1) T)), .cl (.str w), .cl (.int x), .cl (.int i), .cl (.int (e : Nat)),
          .op (iv F (cutS T n i)), .op (rowsT F n (cutR T e i)), (match j with | 0 => c11 | k + 1 => .cl (.int (k : Nat))), (match j with | 0 => c12 | k + 1 => .cl (.tuple (iv n (TT k)))), c13, c14, .cl (.tuple (rowsT F n TT)), .cl (.tuple ((restL os e).map .int)),
          .op (rowsT j (n + 1) (askT V i (cutS T n i) TT)), (match j with | 0 => .no | k + 1 => .cl (.bool (decide ((k : Int) < i) && decide (cutS T n i k = pre V k)))), .no])
        (by simp [rowsT, gl])
        (by
          intro j d hd
          obtain ⟨hj, rfl⟩ := gl_get' hd
          have hj2 : j < 1000000 := by omega
          have a3 : atI (iv F (cutS T n i)) (j : Int) = some (.int (cutS T n i j)) := iv_at rfl hj
          have c1 : cutD (iv F V) none (some ((j : Int) + 1)) = iv (j + 1) V := by
            rw [show ((j : Int) + 1) = ((j + 1 : Nat) : Int) by omega, cut_to (by rw [iv_len]; omega), iv_take (by omega)]
          have l1 : (rowsT j (n + 1) (askT V i (cutS T n i) TT)).length = j := by unfold rowsT; rw [gl_len]
          have grow : rowsT j (n + 1) (askT V i (cutS T n i) TT) ++ [.tuple (iv (n + 1) (askT V i (cutS T n i) TT j))] = rowsT (j + 1) (n + 1) (askT V i (cutS T n i) TT) := by unfold rowsT; rw [gl_succ]
          have row : PyData.int 0 :: iv n (fun k => max 0 (TT j k - lessA V i (cutS T n i) j) + 1) = iv (n + 1) (askT V i (cutS T n i) TT j) := by
            show iv 1 (fun _ => 0) ++ iv n _ = _
            rw [iv_app, Nat.add_comm 1 n]
            apply iv_congr
            intro k hk
            unfold askT
            by_cases q : k = 0
            · subst q; rfl
            · rw [if_neg (by omega), if_neg q]
          have add4 : ∀ {ρ : DL.Env} {u : Nat → Int}, addG ρ (.cl (.tuple [.int 0])) (.cl (.tuple (iv n u))) = some (.cl (.tuple (.int 0 :: iv n u)), ρ) := fun {ρ u} => add_tup (by rw [iv_len]; simp; omega)
          by_cases q1 : (j : Int) < i
          · by_cases q2 : cutS T n i j = pre V j
            · have lA : lessA V i (cutS T n i) j = 1 := if_pos ⟨q1, q2⟩
              rw [lA] at row
              simp [q1, a3, c1, sum_pre, q2]
              rw [lc_iv (fun k => max 0 (TT j k - 1) + 1) (by simp) (by omega) (by simp) (by intro k hk; simp)]
              have l2 : 1 + n ≤ 1000000 := by omega
              simp [l1, hj2, add4, row, grow]
            · have lA : lessA V i (cutS T n i) j = 0 := if_neg fun z => q2 z.2
              rw [lA] at row
              simp at row
              simp [q1, a3, c1, sum_pre, q2]
              rw [lc_iv (fun k => max 0 (TT j k - 0) + 1) (by simp) (by omega) (by simp) (by intro k hk; simp)]
              have l2 : 1 + n ≤ 1000000 := by omega
              simp [l1, hj2, add4, row, grow]
          · have lA : lessA V i (cutS T n i) j = 0 := if_neg fun z => q1 z.1
            rw [lA] at row
            simp at row
            simp [q1]
            rw [lc_iv (fun k => max 0 (TT j k - 0) + 1) (by simp) (by omega) (by simp) (by intro k hk; simp)]
            have l2 : 1 + n ≤ 1000000 := by omega
            simp [l1, hj2, add4, row, grow])]
      have eD : ledD F m e V os T w x i = .tuple [.tuple ((x :: restL os e).map .int), .tuple (rowsT F (n + 1) (askT V i (cutS T n i) TT))] := by
        unfold ledD knowD
        rw [← hm, hTT, if_pos hok, if_neg hw, List.length_cons, hrl, hm]
      rw [eD]
      simp [add3]
  · have ht : ltold F m (cutR T e i) (cutS T n i) = .none := by
      unfold ltold
      subst hm
      exact if_neg hok
    simp [ht]
    unfold ledD
    rw [if_neg hok]
end LW
namespace LW
open PySem L2 DL
structure Kn (n F : Nat) (V : Nat → Int) (os : List Int) (T : Nat → Nat → Int) : Prop where
  perm : os.Perm (DL.upto n)
  tight : Tight F n T fun f => T f n
  room : 0 < F → T 0 n ≤ V 0
  next : ∀ f, f + 1 < F → T (f + 1) n - T f n ≤ V (f + 1)
theorem upto_len (n : Nat) : (DL.upto n).length = n := by unfold DL.upto; rw [List.length_map, List.length_range]
theorem upto_mem {n : Nat} {x : Int} : x ∈ DL.upto n ↔ ∃ k : Nat, k < n ∧ x = k := by
  unfold DL.upto
  simp only [List.mem_map, List.mem_range]
  exact ⟨fun ⟨k, h, e⟩ => ⟨k, h, e.symm⟩, fun ⟨k, h, e⟩ => ⟨k, h, e.symm⟩⟩
theorem Kn.len {n F : Nat} {V : Nat → Int} {os : List Int} {T : Nat → Nat → Int} (K : Kn n F V os T) : os.length = n := by rw [K.perm.length_eq, upto_len]
theorem Tight.congr {F n : Nat} {T U : Nat → Nat → Int} {S : Nat → Int} (h : Tight F n T S) (e : ∀ f, f < F → ∀ k, U f k = T f k) : Tight F n U S where
  word f hf := ⟨fun k hk => by rw [e f hf, e f hf]; exact (h.word f hf).mono k hk, fun k hk => by rw [e f hf, e f hf]; exact (h.word f hf).step k hk⟩
  first f hf := by rw [e f hf]; exact h.first f hf
  last f hf := by rw [e f hf]; exact h.last f hf
  up f hf k hk := by rw [e f (by omega), e (f + 1) hf]; exact h.up f hf k hk
  down f hf k hk := by rw [e f (by omega), e (f + 1) hf]; exact h.down f hf k hk
theorem ltight_Tight {F n : Nat} {R : Nat → Nat → Int} {S : Nat → Int} (h : asc F S = true ∧ lgood F n (ltight F n R S) S = true) : Tight F n (ltight F n R S) S :=
  (tight_Tight (both_good.mpr h)).congr fun f hf k => (tight_ltight F n R S hf k).symm
theorem pre_ge {F : Nat} {V S : Nat → Int} (h0 : 0 < F → S 0 ≤ V 0) (h : ∀ f, f + 1 < F → S (f + 1) - S f ≤ V (f + 1)) : ∀ f, f < F → S f ≤ pre V f
  | 0, hf => h0 hf
  | f + 1, hf => by
    have ih := pre_ge h0 h f (by omega)
    have := h f hf
    show S (f + 1) ≤ pre V f + V (f + 1)
    omega
theorem restL_perm {os : List Int} {x : Int} (hx : x ∈ os) : (x :: restL os (os.idxOf x)).Perm os := by
  have h : os.idxOf x < os.length := List.idxOf_lt_length_iff.mpr hx
  have e : os[os.idxOf x] = x := List.getElem_idxOf h
  unfold restL
  have e2 : os = os.take (os.idxOf x) ++ x :: os.drop (os.idxOf x + 1) := by
    conv => lhs; rw [← List.take_append_drop (os.idxOf x) os]
    rw [List.drop_eq_getElem_cons h, e]
  conv => rhs; rw [e2]
  exact List.perm_middle.symm
section
variable {n F m e : Nat} {V : Nat → Int} {os : List Int} {T : Nat → Nat → Int} {x i : Int} {w : Str}
theorem cutS_le (K : Kn n F V os T) (i : Int) : (0 < F → cutS T n i 0 ≤ V 0) ∧ ∀ f, f + 1 < F → cutS T n i (f + 1) - cutS T n i f ≤ V (f + 1) := by
  constructor
  · intro h
    have := K.room h
    unfold cutS lessF
    split <;> omega
  · intro f hf
    have := K.next f hf
    unfold cutS lessF
    split <;> split <;> omega
theorem led_kn (K : Kn n F V os T) (hV : ∀ f, f < F → 1 ≤ V f) (hm : n = m + 1) (hx : x ∈ os) (he : os.idxOf x = e) : ledD F m e V os T w x i = .none ∨ ∃ os' T', ledD F m e V os T w x i = knowD os' F T' ∧ Kn n F V os' T' := by
  unfold ledD
  by_cases hok : ledOk F m e T i
  · rw [if_pos hok]
    right
    have TT := ltight_Tight hok
    obtain ⟨c0, c1⟩ := cutS_le K i
    rw [hm] at c0 c1
    have hpre := pre_ge c0 c1
    revert TT c0 c1 hpre
    generalize hS : cutS T (m + 1) i = S
    generalize ltight F m (cutR T e i) S = U
    intro TT c0 c1 hpre
    have up1 : ∀ f, f + 1 < F → S f ≤ S (f + 1) := fun f hf => by
      have := TT.up f hf m (Nat.le_refl m)
      rw [TT.last f (by omega), TT.last (f + 1) hf] at this
      exact this
    have pos : ∀ f, f < F → 0 ≤ S f := fun f hf => by
      have := TT.nonneg hf (k := m) (Nat.le_refl m)
      rw [TT.last f hf] at this
      exact this.1
    by_cases hw : w = "strike"
    · rw [if_pos hw]
      refine ⟨_, _, rfl, ?_, ?_, fun h => ?_, fun f hf => ?_⟩
      · have := restL_perm hx
        rw [he] at this
        exact ((List.perm_append_singleton x (restL os e)).trans this).trans K.perm
      · rw [hm]
        have last : ∀ f, strikeT m U f (m + 1) = U f m := fun f => if_neg (by omega)
        have at_ : ∀ f k, k ≤ m → strikeT m U f k = U f k := fun f k h => if_pos h
        refine ⟨fun f hf => ⟨fun k hk => ?_, fun k hk => ?_⟩, fun f hf => ?_, fun f hf => rfl, fun f hf k hk => ?_, fun f hf k hk => ?_⟩
        · by_cases q : k < m
          · rw [at_ f k (by omega), at_ f (k + 1) (by omega)]; exact (TT.word f hf).mono k q
          · have : k = m := by omega
            subst this
            rw [last, at_ f k (Nat.le_refl k)]; exact Int.le_refl _
        · by_cases q : k < m
          · rw [at_ f k (by omega), at_ f (k + 1) (by omega)]; exact (TT.word f hf).step k q
          · have : k = m := by omega
            subst this
            rw [last, at_ f k (Nat.le_refl k)]; omega
        · rw [at_ f 0 (by omega)]; exact TT.first f hf
        · by_cases q : k ≤ m
          · rw [at_ f k q, at_ (f + 1) k q]; exact TT.up f hf k q
          · have : k = m + 1 := by omega
            subst this
            rw [last, last]; exact TT.up f hf m (Nat.le_refl m)
        · rw [last, last]
          have hl := TT.last f (by omega)
          have hl2 := TT.last (f + 1) hf
          by_cases q : k ≤ m
          · rw [at_ f k q, at_ (f + 1) k q, hl, hl2]; exact TT.down f hf k q
          · have : k = m + 1 := by omega
            subst this
            rw [last, last]; omega
      · rw [hm]
        show (if m + 1 ≤ m then _ else U 0 m) ≤ V 0
        rw [if_neg (by omega), TT.last 0 h]
        exact c0 h
      · rw [hm]
        show (if m + 1 ≤ m then _ else U (f + 1) m) - (if m + 1 ≤ m then _ else U f m) ≤ V (f + 1)
        rw [if_neg (by omega), if_neg (by omega), TT.last (f + 1) hf, TT.last f (by omega)]
        exact c1 f hf
    · rw [if_neg hw]
      have lA : ∀ f, lessA V i S f = 0 ∨ (lessA V i S f = 1 ∧ (f : Int) < i ∧ S f = pre V f) := fun f => by
        unfold lessA
        by_cases q : (f : Int) < i ∧ S f = pre V f
        · rw [if_pos q]; exact .inr ⟨rfl, q⟩
        · rw [if_neg q]; exact .inl rfl
      have pre1 : ∀ f, f < F → 1 ≤ pre V f := fun f => by
        induction f with
        | zero => exact fun h => hV 0 h
        | succ f ih =>
          intro h
          have := ih (by omega)
          have := hV (f + 1) h
          show 1 ≤ pre V f + V (f + 1)
          omega
      -- who is filled up behind is so ahead
      have down1 : ∀ f, f + 1 < F → lessA V i S (f + 1) = 1 → lessA V i S f = 1 := fun f hf h => by
        rcases lA (f + 1) with z | ⟨_, z1, z2⟩
        · omega
        · have q1 := c1 f hf
          have q2 := hpre f (by omega)
          have q3 : pre V (f + 1) = pre V f + V (f + 1) := rfl
          unfold lessA
          rw [if_pos ⟨by omega, by omega⟩]
      have at_ : ∀ f k, askT V i S U f (k + 1) = max 0 (U f k - lessA V i S f) + 1 := fun f k => if_neg (by omega)
      have zero : ∀ f, askT V i S U f 0 = 0 := fun f => rfl
      have lastA : ∀ f, f < F → askT V i S U f (m + 1) = S f - lessA V i S f + 1 := fun f hf => by
        rw [at_, TT.last f hf]
        have := pos f hf
        have := pre1 f hf
        rcases lA f with z | ⟨z, _, z2⟩ <;> omega
      have step2 : ∀ f, f + 1 < F → S f - lessA V i S f ≤ S (f + 1) - lessA V i S (f + 1) := fun f hf => by
        have := up1 f hf
        rcases lA (f + 1) with z | ⟨z, _⟩
        · rcases lA f with y | ⟨y, _⟩ <;> omega
        · have := down1 f hf z
          omega
      refine ⟨_, _, rfl, ?_, ?_, fun h => ?_, fun f hf => ?_⟩
      · have := restL_perm hx
        rw [he] at this
        exact this.trans K.perm
      · rw [hm]
        refine ⟨fun f hf => ⟨fun k hk => ?_, fun k hk => ?_⟩, fun f hf => rfl, fun f hf => rfl, fun f hf k hk => ?_, fun f hf k hk => ?_⟩
        · cases k with
          | zero =>
            rw [zero, at_]; omega
          | succ k =>
            have := (TT.word f hf).mono k (by omega)
            rw [at_, at_]; omega
        · cases k with
          | zero =>
            have := TT.first f hf
            rw [zero, at_]
            rcases lA f with z | ⟨z, _⟩ <;> omega
          | succ k =>
            have := (TT.word f hf).step k (by omega)
            rw [at_, at_]; omega
        · cases k with
          | zero => rw [zero, zero]; exact Int.le_refl _
          | succ k =>
            have := TT.up f hf k (by omega)
            rw [at_, at_]
            rcases lA (f + 1) with z | ⟨z, _⟩
            · rcases lA f with y | ⟨y, _⟩ <;> omega
            · have := down1 f hf z
              omega
        · rw [lastA f (by omega), lastA (f + 1) hf]
          have := step2 f hf
          cases k with
          | zero => rw [zero, zero]; omega
          | succ k =>
            have := TT.down f hf k (by omega)
            rw [at_, at_]
            omega
      · rw [hm, lastA 0 h]
        have q1 := c0 h
        have q2 : pre V 0 = V 0 := rfl
        have q3 := K.room h
        rw [hm] at q3
        have q4 : S 0 = T 0 (m + 1) - lessF i 0 := by rw [← hS]; rfl
        rcases lA 0 with z | ⟨z, _⟩
        · by_cases hi : (0 : Int) < i
          · have : S 0 ≠ pre V 0 := fun q => by
              unfold lessA at z
              rw [if_pos ⟨by simpa using hi, q⟩] at z
              omega
            omega
          · have : lessF i 0 = 1 := by unfold lessF; rw [if_pos (by simpa using Int.not_lt.mp hi)]
            omega
        · omega
      · rw [hm, lastA f (by omega), lastA (f + 1) hf]
        have q1 := c1 f hf
        have q2 := hpre (f + 1) hf
        have q3 : pre V (f + 1) = pre V f + V (f + 1) := rfl
        have q4 := K.next f hf
        rw [hm] at q4
        have q5 : S f = T f (m + 1) - lessF i f := by rw [← hS]; rfl
        have q6 : S (f + 1) = T (f + 1) (m + 1) - lessF i (f + 1) := by rw [← hS]; rfl
        rcases lA f with z | ⟨z, z1, z2⟩
        · rcases lA (f + 1) with y | ⟨y, _⟩ <;> omega
        · rcases lA (f + 1) with y | ⟨y, _⟩
          · by_cases hi : ((f + 1 : Nat) : Int) < i
            · have : S (f + 1) ≠ pre V (f + 1) := fun q => by
                unfold lessA at y
                rw [if_pos ⟨hi, q⟩] at y
                omega
              omega
            · have h1 : lessF i (f + 1) = 1 := by unfold lessF; rw [if_pos (Int.not_lt.mp hi)]
              have h2 : lessF i f = 0 := by unfold lessF; rw [if_neg (by omega)]
              omega
          · omega
  · rw [if_neg hok]
    exact .inl rfl
end
end LW
namespace LW
open PySem L2 DL
def KnEnd (n F : Nat) (V : Nat → Int) (d : PyData) : Prop := ∃ os T, d = knowD os F T ∧ Kn n F V os T
def LedI (n F : Nat) (V : Nat → Int) (h lg : PyData) (i : Nat) (ρ : DL.Env) : Prop := ∃ (os : List Int) (T : Nat → Nat → Int) (c3 c4 c5 : Cell), Kn n F V os T ∧ ρ = [.cl h, .cl (knowD os F T), .cl lg, c3, c4, c5]
def LedR (n F : Nat) (V : Nat → Int) (r : Val) (ρ : DL.Env) : Prop := ∃ d j, r = .cl (.tuple [d, j]) ∧ KnEnd n F V d
def LedEnd (n F : Nat) (V : Nat → Int) (r : Option Val) : Prop := ∃ d j, r = some (.cl (.tuple [d, j])) ∧ KnEnd n F V d
theorem led_by_ok (n F : Nat) (V : Nat → Int) (os : List Int) (T : Nat → Nat → Int) (log : List PyData) (hn : n < 900) (hF0 : 0 < F) (hF : F < 900) (hV : ∀ f, f < F → 1 ≤ V f) (K : Kn n F V os T) (hl : ∀ e ∈ log, Entry n F e) :
    LedEnd n F V (F__law_led_by_2 [house n F V, knowD os F T, .tuple log]) := by
  unfold F__law_led_by_2 g__law_led_by_2
  rw [e_runP]
  simp [argE]
  refine use_loopT (P := fun r => LedEnd n F V (kPu (kSq r _))) (LedI n F V (house n F V) (.tuple log)) (LedR n F V) ?_ ?_ ?_ ?_
  · exact ⟨os, T, .no, .no, .no, K, rfl⟩
  · rintro j d ρ hd ⟨os1, T1, c3, c4, c5, K1, rfl⟩
    unfold enumD at hd
    rw [List.getElem?_mapIdx] at hd
    obtain ⟨d', hd', rfl⟩ := Option.map_eq_some_iff.mp hd
    obtain ⟨w, x, f, rfl, hw, hx, f0, f1⟩ := hl d' (List.mem_of_getElem? hd')
    have hxo : ((x : Nat) : Int) ∈ os1 := K1.perm.mem_iff.mpr (upto_mem.mpr ⟨x, hx, rfl⟩)
    obtain ⟨m, hm⟩ : ∃ m, n = m + 1 := ⟨n - 1, by omega⟩
    have e1 := led_ok n F (os1.idxOf ((x : Nat) : Int)) m V os1 T1 w ((x : Nat) : Int) f hm hn hF0 hF K1.len hxo rfl
    unfold entryD
    rcases led_kn (w := w) (i := f) K1 hV hm hxo rfl with z | ⟨os2, T2, z, K2⟩
    · rw [z] at e1
      simp [e1]
      exact turnsR_rt ⟨_, _, rfl, os1, T1, rfl, K1⟩
    · rw [z] at e1
      have nv : isNV (Val.cl (knowD os2 F T2)) = false := rfl
      simp [e1, nv]
      exact turnsR_nx ⟨os2, T2, _, _, _, K2, rfl⟩
  · rintro ρ' ⟨os1, T1, c3, c4, c5, K1, rfl⟩
    simp
    exact ⟨_, _, rfl, os1, T1, rfl, K1⟩
  · rintro r ρ' ⟨d, j, rfl, h⟩
    simp
    exact ⟨d, j, rfl, h⟩
theorem inside_zero {n : Nat} {s : Nat → Int} (h : ∀ k, k < n → 0 ≤ s k) : (inside n s 0).length = on n s 0 := by
  unfold inside on
  congr 1
  apply List.filter_congr
  intro k hk
  have := h k (List.mem_range.mp hk)
  by_cases q : s k = 0
  · simp [q]
  · have q2 : ¬ s k ≤ 0 := by omega
    simp [q, q2]
theorem inside_next {n f : Nat} {s : Nat → Int} : (inside n s ((f + 1 : Nat) : Int)).length = (inside n s (f : Nat)).length + on n s (f + 1) := by
  unfold inside on
  induction List.range n with
  | nil => rfl
  | cons k l ih =>
    have e : (decide (s k ≤ ((f + 1 : Nat) : Int))) = (decide (s k ≤ (f : Nat)) || decide (s k = ((f + 1 : Nat) : Int))) := by
      by_cases h1 : s k ≤ (f : Nat)
      · have h2 : s k ≤ ((f + 1 : Nat) : Int) := by omega
        simp only [h1, h2, decide_true, Bool.true_or]
      · by_cases h3 : s k = ((f + 1 : Nat) : Int)
        · have h2 : s k ≤ ((f + 1 : Nat) : Int) := by omega
          rw [decide_eq_true h2, decide_eq_true h3, Bool.or_true]
        · have h2 : ¬ s k ≤ ((f + 1 : Nat) : Int) := by omega
          simp only [h1, h2, h3, decide_false, Bool.or_false]
    rw [List.filter_cons, List.filter_cons, List.filter_cons, e]
    by_cases h1 : s k ≤ (f : Nat)
    · have h3 : ¬ s k = ((f + 1 : Nat) : Int) := by omega
      simp only [h1, h3, decide_true, decide_false, Bool.or_false, if_true, Bool.false_eq_true, if_false, List.length_cons, ih]
      omega
    · by_cases h3 : s k = ((f + 1 : Nat) : Int)
      · have d1 : decide (s k ≤ (f : Nat)) = false := decide_eq_false h1
        have d3 : decide (s k = ((f + 1 : Nat) : Int)) = true := decide_eq_true h3
        simp only [d1, d3, Bool.or_true, if_true, Bool.false_eq_true, if_false, List.length_cons, ih]
        omega
      · simp only [h1, h3, decide_false, Bool.or_false, Bool.false_eq_true, if_false, ih]
theorem inside_le {n : Nat} {s : Nat → Int} {f : Int} : (inside n s f).length ≤ n := by
  unfold inside
  have := List.length_filter_le (fun k => decide (s k ≤ f)) (List.range n)
  rwa [List.length_range] at this
theorem pre_sum (V : Nat → Int) {F : Nat} (hV : ∀ f, f < F → 1 ≤ V f) : ∀ f, f < F → 1 ≤ pre V f ∧ pre V f ≤ ((List.range F).map V).sum := fun f hf => by
  have h1 : ∀ f, f < F → 1 ≤ pre V f := fun f => by
    induction f with
    | zero => exact fun h => hV 0 h
    | succ f ih =>
      intro h
      have := ih (by omega)
      have := hV (f + 1) h
      show 1 ≤ pre V f + V (f + 1)
      omega
  refine ⟨h1 f hf, ?_⟩
  have h2 : ∀ d, f + d < F → pre V f ≤ pre V (f + d) := fun d => by
    induction d with
    | zero => exact fun _ => Int.le_refl _
    | succ d ih =>
      intro h
      have := ih (by omega)
      have := hV (f + d + 1) (by omega)
      show pre V f ≤ pre V (f + d) + V (f + d + 1)
      omega
  have h3 := h2 (F - 1 - f) (by omega)
  have h4 := sum_pre V (F - 1)
  rw [show F - 1 + 1 = F by omega] at h4
  rw [h4]
  rwa [show f + (F - 1 - f) = F - 1 by omega] at h3
def anyT (V : Nat → Int) (n f k : Nat) : Int := max 0 (pre V f - (n - (k : Nat)))
def stT (n : Nat) (s : Nat → Int) (f k : Nat) : Int := min (k : Nat) (inside n s (f : Nat)).length
theorem any_kn {n F : Nat} {V : Nat → Int} (hV : ∀ f, f < F → 1 ≤ V f) (hs : ((List.range F).map V).sum ≤ n) : Kn n F V (DL.upto n) (anyT V n) where
  perm := List.Perm.refl _
  tight := by
    have hp := pre_sum V hV
    have hn : ∀ f, f + 1 < F → pre V f ≤ pre V (f + 1) := fun f hf => by
      have := hV (f + 1) hf
      show pre V f ≤ pre V f + V (f + 1)
      omega
    refine ⟨fun f hf => ⟨fun k hk => ?_, fun k hk => ?_⟩, fun f hf => ?_, fun f hf => rfl, fun f hf k hk => ?_, fun f hf k hk => ?_⟩
    · unfold anyT; omega
    · unfold anyT; omega
    · have := hp f hf; unfold anyT; omega
    · have := hn f hf; unfold anyT; omega
    · have h1 := hn f hf
      have h2 := (hp f (by omega)).1
      unfold anyT
      omega
  room h := by
    have := hV 0 h
    show max 0 (V 0 - _) ≤ V 0
    omega
  next f hf := by
    have h1 := (pre_sum V hV f (by omega)).1
    have h2 := hV (f + 1) hf
    show max 0 (pre V f + V (f + 1) - _) - max 0 (pre V f - _) ≤ V (f + 1)
    omega
theorem sortK_perm (ns : List Int) (m : Nat) : (sortK ns m).Perm (DL.upto m) := List.mergeSort_perm ..
theorem st_kn {n F : Nat} {V s : Nat → Int} (L : Legal n F V s) : Kn n F V (sortK ((List.range n).map s) n) (stT n s) where
  perm := sortK_perm _ _
  tight := by
    have hn : ∀ f, (inside n s ((f : Nat) : Int)).length ≤ (inside n s ((f + 1 : Nat) : Int)).length := fun f => by rw [inside_next]; omega
    have hl : ∀ f, (inside n s ((f : Nat) : Int)).length ≤ n := fun f => inside_le
    refine ⟨fun f hf => ⟨fun k hk => ?_, fun k hk => ?_⟩, fun f hf => ?_, fun f hf => rfl, fun f hf k hk => ?_, fun f hf k hk => ?_⟩
    · unfold stT; omega
    · unfold stT; omega
    · unfold stT; omega
    · have := hn f; unfold stT; omega
    · have h1 := hn f
      have h2 := hl f
      have h3 := hl (f + 1)
      unfold stT
      omega
  room h := by
    have h1 := inside_zero (n := n) (s := s) fun k hk => (L.rng k hk).1
    have h2 := L.fit 0 h
    unfold stT
    have h3 : (inside n s ((0 : Nat) : Int)).length = on n s 0 := h1
    omega
  next f hf := by
    have h1 := inside_next (n := n) (f := f) (s := s)
    have h2 := L.fit (f + 1) hf
    have h3 : (inside n s ((f : Nat) : Int)).length ≤ n := inside_le
    have h4 : (inside n s ((f + 1 : Nat) : Int)).length ≤ n := inside_le
    unfold stT
    omega
theorem first_ok (n F : Nat) (V : Nat → Int) (d : PyData) (hn : n < 900) (hF0 : 0 < F) (hF : F < 900) (hV : ∀ f, f < F → 1 ≤ V f) (hd : IsStart n F V d) : ∃ d', F__law_first_known [house n F V, d] = some (.cl d') ∧ KnEnd n F V d' := by
  have hn3 : (-1000000 : Int) ≤ n ∧ (n : Int) ≤ 1000000 := by omega
  have hn4 : (-1000000 : Int) ≤ (n : Int) + 1 ∧ (n : Int) + 1 ≤ 1000000 := by omega
  rcases hd with ⟨s, rfl, L⟩ | ⟨rfl, hsum⟩
  · refine ⟨_, ?_, _, _, rfl, st_kn L⟩
    have e1 := sizes_of_state n F V s (by omega) (by omega)
    unfold house at e1
    unfold F__law_first_known g__law_first_known house
    rw [e_runP]
    simp [argE, hn3.1, hn3.2, e1]
    have hlk : (sortK ((List.range n).map s) n).length = n := sortK_length _ _
    rw [loop_eqL (fun j => [.cl (.tuple [.int n, .tuple (iv F V)]), .cl (.tuple (iv n s)), .cl (.int n), .op (rowsT j (n + 1) (stT n s)), .no, .cl (.tuple ((sortK ((List.range n).map s) n).map .int)),
        (match j with | 0 => .no | k + 1 => .cl (.int ((inside n s (k : Nat)).length : Nat))), .no])
      (by simp [rowsT, gl])
      (by
        intro j d hd
        obtain ⟨hj, rfl⟩ := iv_get' hd
        have hj2 : j < 1000000 := by omega
        have l1 : (rowsT j (n + 1) (stT n s)).length = j := by unfold rowsT; rw [gl_len]
        have grow : rowsT j (n + 1) (stT n s) ++ [.tuple (iv (n + 1) (stT n s j))] = rowsT (j + 1) (n + 1) (stT n s) := by unfold rowsT; rw [gl_succ]
        simp [hn4.1, hn4.2]
        rw [rng_gl, lc_gl (fun k => .int (stT n s j k)) (by simp) (by omega) (by simp) (by intro k hk; simp [stT])]
        have eg : (gl (n + 1) fun k => PyData.int (stT n s j k)) = iv (n + 1) (stT n s j) := rfl
        simp [eg, l1, hj2, grow])]
    unfold knowD
    simp [hlk]
  · refine ⟨_, ?_, _, _, rfl, any_kn hV hsum⟩
    have e1 := rooms_within_ok n F V (by omega)
    unfold house at e1
    unfold F__law_first_known g__law_first_known house
    rw [e_runP]
    simp [argE, e1]
    rw [loop_eqL (fun j => [.cl (.tuple [.int n, .tuple (iv F V)]), .cl .none, .cl (.int n), .op (rowsT j (n + 1) (anyT V n)), (match j with | 0 => .no | k + 1 => .cl (.int (pre V k))), .no, .no, .no])
      (by simp [rowsT, gl])
      (by
        intro j d hd
        obtain ⟨hj, rfl⟩ := iv_get' hd
        have hj2 : j < 1000000 := by omega
        have l1 : (rowsT j (n + 1) (anyT V n)).length = j := by unfold rowsT; rw [gl_len]
        have grow : rowsT j (n + 1) (anyT V n) ++ [.tuple (iv (n + 1) (anyT V n j))] = rowsT (j + 1) (n + 1) (anyT V n) := by unfold rowsT; rw [gl_succ]
        simp [hn4.1, hn4.2]
        rw [rng_gl, lc_gl (fun k => .int (anyT V n j k)) (by simp) (by omega) (by simp) (by intro k hk; simp [anyT])]
        have eg : (gl (n + 1) fun k => PyData.int (anyT V n j k)) = iv (n + 1) (anyT V n j) := rfl
        simp [eg, l1, hj2, grow])]
    have eu : rngD 0 n 1 = (DL.upto n).map .int := by
      rw [rng_gl]
      unfold gl DL.upto
      rw [List.map_map]
      apply List.map_congr_left
      intro k _
      simp [Function.comp]
    unfold knowD
    simp [hn3.1, hn3.2, eu, upto_len]
end LW
namespace LW
open PySem L2 DL
theorem rng_upto {n : Nat} : rngD 0 n 1 = (DL.upto n).map .int := by
  rw [rng_gl]
  unfold gl DL.upto
  rw [List.map_map]
  apply List.map_congr_left
  intro k _
  simp [Function.comp]
theorem perm_ints : ∀ {ds : List PyData} {xs : List Int}, ds.Perm (xs.map .int) → ∃ os : List Int, ds = os.map .int ∧ os.Perm xs := fun {ds xs} h => by
  have hm : ∀ d ∈ ds, ∃ x : Int, d = .int x := fun d hd => by
    obtain ⟨x, _, e⟩ := List.mem_map.mp (h.mem_iff.mp hd)
    exact ⟨x, e.symm⟩
  obtain ⟨os, rfl⟩ : ∃ os : List Int, ds = os.map .int := by
    clear h
    induction ds with
    | nil => exact ⟨[], rfl⟩
    | cons d ds ih =>
      obtain ⟨os, rfl⟩ := ih fun d hd => hm d (List.mem_cons_of_mem _ hd)
      obtain ⟨x, rfl⟩ := hm d (List.mem_cons_self ..)
      exact ⟨x :: os, rfl⟩
  refine ⟨os, rfl, ?_⟩
  have g : ∀ l : List Int, (l.map PyData.int).map (fun d => match d with | .int x => x | _ => 0) = l := fun l => by
    rw [List.map_map]
    conv => rhs; rw [← List.map_id l]
    rfl
  have := h.map fun d => match d with | .int x => x | _ => 0
  rwa [g, g] at this
def KnMade (n F : Nat) (V : Nat → Int) (x : Option (Val × List PyData)) : Prop := ∃ d B', x = some (.cl d, Bag.toD B') ∧ KnEnd n F V d
def RoomK (V : Nat → Int) (house ord : PyData) (n : Nat) (i : Nat) (ρ : DL.Env) : Prop := ∃ (S : Nat → Int) (z : Int) (B' : Bag) (c5 : Cell), (∀ f, f < i → prev S f ≤ S f) ∧ (∀ f, f < i → 0 ≤ S f ∧ S f ≤ n) ∧ (∀ f, f < i → S f - prev S f ≤ V f) ∧ z = prev S i ∧ 0 ≤ z ∧
  ρ = [.pm (Bag.toD B'), .cl house, .cl ord, .op (iv i S), .cl (.int z), c5, .no, .no, .no, .no, .no, .no]
def TurnK (n F : Nat) (V : Nat → Int) (r : Val) (ρ : DL.Env) : Prop := ∃ d B' rest, r = .cl d ∧ KnEnd n F V d ∧ ρ = .pm (Bag.toD B') :: rest
theorem tight_kn_ok (B : Bag) (n F : Nat) (V : Nat → Int) (hn : n ≤ 16) (hF0 : 1 ≤ F) (hF : F ≤ 4) (hV : ∀ f, f < F → 1 ≤ V f ∧ V f ≤ 12) : KnMade n F V (F__law_tight_known B.toD [.tuple [.int n, .tuple (iv F V)]]) := by
  obtain ⟨ds, B1, em, hp⟩ := mixed_perm B (rngD 0 n 1) (by rw [rngD_len]; omega)
  rw [rng_upto] at hp
  obtain ⟨os, rfl, ho⟩ := perm_ints hp
  unfold F__law_tight_known g__law_tight_known
  rw [e_runM]
  have hn3 : (-1000000 : Int) ≤ n ∧ (n : Int) ≤ 1000000 := by omega
  simp [argM, em, hn3.1, hn3.2]
  refine use_loop (P := fun x => KnMade n F V (kM (kSq x _))) (RoomK (V) (.tuple [.int n, .tuple (iv F V)]) (.tuple (os.map .int)) n) ?_ ?_ ?_
  · exact ⟨fun _ => 0, 0, B1, .no, fun f hf => absurd hf (by omega), fun f hf => absurd hf (by omega), fun f hf => absurd hf (by omega), rfl, Int.le_refl _, by simp [iv]⟩
  · rintro i d ρ hd ⟨S, z, B2, c5, h1, h2, h5, h3, h4, rfl⟩
    obtain ⟨hi, rfl⟩ := iv_get' hd
    have hv := hV i hi
    obtain ⟨t, B3, et, t0, t1⟩ := take_ok B2 (V i + 1) (by omega) (by omega)
    obtain ⟨q, B4, hq, eq⟩ := one_int B3 [V i, V i, t] (by simp) (by simp)
    have hq2 : 0 ≤ q ∧ q ≤ 12 ∧ q ≤ V i := by simp at hq; omega
    simp at eq
    have hi3 : i < 1000000 := by omega
    simp [et, eq, hi3]
    have hz : z ≤ n := by
      rw [h3]
      cases i with
      | zero => show (0 : Int) ≤ n; omega
      | succ i => exact (h2 i (by omega)).2
    refine turns_nx ⟨put S i (min ↑n (z + q)), min ↑n (z + q), B4, .cl (.int (V i)), fun f hf => ?_, fun f hf => ?_, fun f hf => ?_, ?_, by omega, ?_⟩
    · have e : prev (put S i (min ↑n (z + q))) f = prev S f := by
        cases f with
        | zero => rfl
        | succ f => exact put_ne (by omega)
      rw [e]
      by_cases hfi : f = i
      · subst hfi; rw [put_same]; omega
      · rw [put_ne hfi]; exact h1 f (by omega)
    · by_cases hfi : f = i
      · subst hfi; rw [put_same]; omega
      · rw [put_ne hfi]; exact h2 f (by omega)
    · have e : prev (put S i (min ↑n (z + q))) f = prev S f := by
        cases f with
        | zero => rfl
        | succ f => exact put_ne (by omega)
      rw [e]
      by_cases hfi : f = i
      · subst hfi; rw [put_same]; omega
      · rw [put_ne hfi]; exact h5 f (by omega)
    · show _ = put S i (min ↑n (z + q)) i
      rw [put_same]
    · rw [iv_succ, put_same, iv_congr (w := put S i (min ↑n (z + q))) (v := S) fun k hk => put_ne (by omega)]
  · intro ρ' h
    rw [iv_len] at h
    obtain ⟨S, z, B2, c5, h1, h2, h5, h3, h4, rfl⟩ := h
    have hlo : os.length = n := by rw [ho.length_eq, upto_len]
    have made : ∀ {R : Nat → Nat → Int}, good F n (tight F n R S) S = true → KnEnd n F V (.tuple [.tuple (os.map .int), .tuple (rowsT F (n + 1) (tight F n R S))]) := fun {R} hg => by
      have T := tight_Tight hg
      refine ⟨os, tight F n R S, by unfold knowD; rw [hlo], ho, ⟨T.word, T.first, fun _ _ => rfl, T.up, fun f hf k hk => ?_⟩, fun h => ?_, fun f hf => ?_⟩
      · rw [T.last f (by omega), T.last (f + 1) hf]; exact T.down f hf k hk
      · rw [T.last 0 h]
        have := h5 0 h
        have e : prev S 0 = 0 := rfl
        omega
      · rw [T.last f (by omega), T.last (f + 1) hf]
        have := h5 (f + 1) hf
        have e : prev S (f + 1) = S f := rfl
        omega
    simp
    refine use_loopT (P := fun x => KnMade n F V (kM (kSq x _))) (TurnI (.tuple [.int n, .tuple (iv F V)]) (.tuple (os.map .int)) F S) (TurnK n F V) ?_ ?_ ?_ ?_
    · exact ⟨B2, _, _, _, _, _, _, _, .inl rfl, rfl⟩
    · rintro i d ρ hd ⟨B3, c3, c4, c5, c6, c7, c8, c9, hc3, rfl⟩
      obtain ⟨hi, rfl⟩ := rng_get hd
      have step : TurnsR (TurnI (.tuple [.int n, .tuple (iv F V)]) (.tuple (os.map .int)) F S (i + 1)) (TurnK n F V) (kSq (loopD (nameT 4) body_each (iv F S) [Cell.pm B3.toD, .cl (.tuple [.int n, .tuple (iv F V)]), .cl (.tuple (os.map .int)), .cl (.list (iv F S)), c4, c5, .cl (.int i), .op [], c8, c9, .no, .no]) body_rest) := by
        refine use_loop (P := fun x => TurnsR _ _ (kSq x _)) (EachI (.tuple [.int n, .tuple (iv F V)]) (.tuple (os.map .int)) n F S) ?_ ?_ ?_
        · exact ⟨fun _ _ => 0, B3, _, _, _, _, _, rfl⟩
        · rintro j d ρ hd ⟨R, B4, c4, c5, c6, c8, c9, rfl⟩
          obtain ⟨hj, rfl⟩ := iv_get' hd
          exact each_ok _ _ n F hn (by omega) S j hj R B4 c4 c5 c6 c8 c9
        · intro ρ' h
          rw [iv_len] at h
          obtain ⟨R, B4, c4, c5, c6, c8, c9, rfl⟩ := h
          have e := ltightened_ok F n hF0 (by omega) (by omega) R S
          unfold body_rest
          simp [e]
          rw [← told_ltold]
          by_cases hg : good F n (tight F n R S) S = true
          · rw [told, if_pos hg]
            simp
            refine turnsR_rt ⟨_, B4, _, rfl, made hg, rfl⟩
          · rw [told, if_neg hg]
            simp
            exact turnsR_nx ⟨B4, _, _, _, _, _, _, _, .inr rfl, rfl⟩
      rcases hc3 with rfl | rfl <;> (simp; exact step)
    · intro ρ' h
      rw [rngD_len] at h
      obtain ⟨B3, c3, c4, c5, c6, c7, c8, c9, hc3, rfl⟩ := h
      have hn4 : (-1000 : Int) ≤ n + 1 ∧ (n : Int) + 1 ≤ 1000 := by omega
      have hF4 : (-1000 : Int) ≤ F ∧ (F : Int) ≤ 1000 := by omega
      have hg := zero_good F n (asc_prev h1) h2
      have e := ltightened_ok F n hF0 (by omega) (by omega) (fun _ _ => 0) S
      have er : rowsT F (n + 1) (fun _ _ => 0) = List.replicate F (.tuple (List.replicate (n + 1) (.int 0))) := by
        simp [rowsT, gl, iv, List.map_const']
      rw [er, ← told_ltold, told, if_pos hg] at e
      have fin : ∀ B3 : Bag, KnMade n F V (some (.cl (.tuple [.tuple (os.map .int), .tuple (rowsT F (n + 1) (tight F n (fun x x_1 => 0) S))]), B3.toD)) := fun B3 => ⟨_, B3, rfl, made hg⟩
      rcases hc3 with rfl | rfl <;> simp [hn4.1, hn4.2, hF4.1, hF4.2, e] <;> exact fin _
    · rintro r ρ' ⟨d, B3, rest, rfl, hk, rfl⟩
      simp
      exact ⟨d, B3, rfl, hk⟩
end LW
namespace LW
open PySem L2 DL
def HouseGen (things : Int) (fl rm : Nat) (x : Option (Val × List PyData)) : Prop := ∃ (n F : Nat) (V : Nat → Int) (B' : Bag), x = some (.cl (.tuple [.int n, .tuple (iv F V)]), Bag.toD B') ∧ (n : Int) ≤ things ∧ 1 ≤ F ∧ F ≤ fl ∧ ∀ f, f < F → 1 ≤ V f ∧ V f ≤ rm
def HouseJ (things : Int) (fl rm : Nat) (many : Int) (i : Nat) (ρ : DL.Env) : Prop := ∃ (F : Nat) (V : Nat → Int) (left : Int) (B' : Bag) (c : Cell), (i = 0 → F = 0 ∧ left = rm) ∧ (1 ≤ i → 1 ≤ F) ∧ F ≤ i ∧ F ≤ fl ∧ 0 ≤ left ∧ left ≤ rm ∧ (∀ f, f < F → 1 ≤ V f ∧ V f ≤ rm) ∧
  ρ = [.pm (Bag.toD B'), .cl (.int things), .cl (.int fl), .cl (.int rm), .cl (.int many), .op (iv F V), .cl (.int left), c]
theorem house_gen (B : Bag) (things : Int) (fl rm : Nat) (h0 : 0 ≤ things) (h1 : things ≤ 100) (g0 : 1 ≤ fl) (g1 : fl ≤ 20) (r0 : 1 ≤ rm) (r1 : rm ≤ 100) : HouseGen things fl rm (F__law_house B.toD [.int things, .int fl, .int rm]) := by
  obtain ⟨t, B1, et, t0, t1⟩ := take_ok B (things + 1) (by omega) (by omega)
  obtain ⟨many, B2, hm, em⟩ := one_int B1 [things, things, 3, 2, 1, 0, t] (by simp) (by simp)
  obtain ⟨u, B3, eu, u0, u1⟩ := take_ok B2 fl (by omega) (by omega)
  obtain ⟨q, B4, hq, eq⟩ := one_int B3 [(fl : Int), 2, fl, 1, 1 + u] (by simp) (by simp)
  have hm2 : 0 ≤ many ∧ many ≤ 100 := by simp at hm; omega
  have hq2 : 1 ≤ q ∧ q ≤ 100 := by simp at hq; omega
  simp at em eq
  unfold F__law_house g__law_house
  rw [e_runM]
  have hq3 : (-1000000 : Int) ≤ q ∧ q ≤ 1000000 := by omega
  simp [argM, et, em, eu, eq, hq3.1, hq3.2]
  refine use_loop (P := fun x => HouseGen things fl rm (kM (kSq x _))) (HouseJ things fl rm many) ?_ ?_ ?_
  · exact ⟨0, fun _ => 0, rm, B4, .no, fun _ => ⟨rfl, rfl⟩, fun z => absurd z (by omega), Nat.le_refl _, by omega, by omega, by omega, fun f hf => absurd hf (by omega), by simp [iv]⟩
  · rintro i d ρ hd ⟨F, V, left, B1, c, a1, a2, a3, a4, a5, a6, hV, rfl⟩
    obtain ⟨hi, rfl⟩ := rng_get hd
    by_cases hl : 0 < left ∧ (i : Int) < fl
    · obtain ⟨hl, hi4⟩ := hl
      have hi5 : i < fl := by omega
      obtain ⟨u, B2, eu, u0, u1⟩ := take_ok B1 rm (by omega) (by omega)
      obtain ⟨z, B3, hz, ez⟩ := one_int B2 [1, 2, 1, 3, 1, 2, 1 + u] (by simp) (by simp)
      have hz2 : 1 ≤ z ∧ z ≤ 200 := by simp at hz; omega
      simp at ez
      have hF : F < 1000000 := by omega
      have el : atI (iv F V ++ [.int (min left z)]) (-1) = some (.int (min left z)) := atI_last _ _
      simp [hl, hi4, hi5, eu, ez, hF, el]
      refine turns_nx ⟨F + 1, put V F (min left z), left - min left z, B3, .cl (.int i), fun z => absurd z (by omega), fun _ => by omega, by omega, by omega, by omega, by omega, fun f hf => ?_, ?_⟩
      · by_cases hf2 : f = F
        · subst hf2; rw [put_same]; omega
        · rw [put_ne hf2]; exact hV f (by omega)
      · rw [iv_succ, put_same, iv_congr (w := put V F (min left z)) (v := V) fun k hk => put_ne (by omega)]
    · by_cases hl1 : 0 < left
      · have hi5 : ¬ i < fl := fun z => hl ⟨hl1, by omega⟩
        simp [hl1, hi5]
        refine turns_nx ⟨F, V, left, B1, .cl (.int i), fun z => absurd z (by omega), fun _ => by omega, by omega, a4, a5, a6, hV, rfl⟩
      simp [hl1]
      refine turns_nx ⟨F, V, left, B1, .cl (.int i), fun z => absurd z (by omega), fun _ => by omega, by omega, a4, a5, a6, hV, rfl⟩
  · intro ρ' h
    rw [rngD_len] at h
    obtain ⟨F, V, left, B', c, a1, a2, a3, a4, a5, a6, hV, rfl⟩ := h
    simp
    refine ⟨(min many things).toNat, F, V, B', ?_, by omega, a2 (by omega), a4, hV⟩
    rw [show (((min many things).toNat : Nat) : Int) = min many things by omega]
def KnownMade (n F : Nat) (V : Nat → Int) (x : Option (Val × List PyData)) : Prop := ∃ st log d B', x = some (.cl (.tuple [st, .tuple log, d]), Bag.toD B') ∧ IsStart n F V st ∧ (∀ e ∈ log, Entry n F e) ∧ KnEnd n F V d
theorem known_ok (B : Bag) (n F : Nat) (V : Nat → Int) (many strikes : Int) (hn : n ≤ 100) (hF0 : 0 < F) (hF : F ≤ 20) (hV : ∀ f, f < F → 1 ≤ V f) (hm0 : 0 ≤ many) (hm : many ≤ 1000) (hk0 : 0 ≤ strikes) (hk : strikes ≤ 1000000) :
    KnownMade n F V (F__law_known_2 B.toD [house n F V, .int many, .int strikes]) := by
  obtain ⟨d, B1, e1, h1⟩ := start_ok B n F V hn hF fun f hf => by have := hV f hf; omega
  obtain ⟨t, B2, e2, t0, t1⟩ := take_ok B1 (many + 1) (by omega) (by omega)
  obtain ⟨k, B3, k0, e3⟩ := one_int B2 [many, t, 0, many] (by simp) (by simp)
  have k1 : 0 ≤ k ∧ k ≤ many := by simp at k0; omega
  obtain ⟨run, log, sts, B4, e4, l1, l2⟩ := story_ok B3 n F V d k strikes hn hF hV h1 k1.1 (by omega) hk0 hk
  obtain ⟨d1, e5, os, T, rfl, K⟩ := first_ok n F V d (by omega) hF0 (by omega) hV h1
  obtain ⟨d2, j, e6, K2⟩ := led_by_ok n F V os T log (by omega) hF0 (by omega) hV K l1
  simp at e3
  unfold F__law_known_2 g__law_known_2
  rw [e_runM]
  simp [argM, e1, e2, e3, e4, e5, e6]
  exact ⟨d, log, d2, B4, rfl, h1, l1, K2⟩
theorem some_known_ok (B : Bag) (n F : Nat) (V : Nat → Int) (hn : n ≤ 16) (hF0 : 1 ≤ F) (hF : F ≤ 4) (hV : ∀ f, f < F → 1 ≤ V f ∧ V f ≤ 12) : KnMade n F V (F__law_some_known B.toD [house n F V]) := by
  obtain ⟨t, B1, e1, t0, t1⟩ := take_ok B 3 (by decide) (by decide)
  unfold F__law_some_known g__law_some_known
  rw [e_runM]
  by_cases ht : t = 0
  · obtain ⟨d, B2, e2, K⟩ := tight_kn_ok B1 n F V hn hF0 hF hV
    have e2' : F__law_tight_known B1.toD [house n F V] = some (.cl d, B2.toD) := e2
    simp [argM, e1, ht, e2']
    exact ⟨d, B2, rfl, K⟩
  · obtain ⟨st, log, d, B2, e2, _, _, K⟩ := known_ok B1 n F V 12 6 (by omega) hF0 (by omega) (fun f hf => (hV f hf).1) (by decide) (by decide) (by decide) (by decide)
    simp [argM, e1, ht, e2]
    exact ⟨d, B2, rfl, K⟩
def HouseMade (x : Option (Val × List PyData)) : Prop := ∃ (n F : Nat) (V : Nat → Int) (B' : Bag), x = some (.cl (house n F V), Bag.toD B') ∧ n ≤ 16 ∧ 1 ≤ F ∧ F ≤ 4 ∧ ∀ f, f < F → 1 ≤ V f ∧ V f ≤ 12
theorem some_house_ok (B : Bag) (menu : List Int) (h0 : menu ≠ []) (hl : menu.length ≤ 100) (hm : ∀ x ∈ menu, 1 ≤ x ∧ x ≤ 16) : HouseMade (F__law_some_house B.toD [.list (menu.map .int)]) := by
  obtain ⟨things, B1, t1, e1⟩ := one_int B menu h0 (by omega)
  have ht := hm things t1
  unfold F__law_some_house g__law_some_house
  rw [e_runM]
  have fin : ∀ (n F : Nat) (V : Nat → Int) (B2 : Bag), n ≤ 16 → 1 ≤ F → F ≤ 4 → (∀ f, f < F → 1 ≤ V f ∧ V f ≤ 12) → ∀ (t : Int), 0 ≤ t → t < 2 → HouseMade (some (.cl (.tuple [.int (things - t), .tuple (iv F V)]), Bag.toD B2)) := fun n F V B2 a1 a2 a3 a4 t t0 t1 =>
    ⟨(things - t).toNat, F, V, B2, by unfold house; rw [show (((things - t).toNat : Nat) : Int) = things - t by omega], by omega, a2, a3, a4⟩
  have rest : ∀ (n F : Nat) (V : Nat → Int) (B2 : Bag), n ≤ 16 → 1 ≤ F → F ≤ 4 → (∀ f, f < F → 1 ≤ V f ∧ V f ≤ 12) →
      (∃ u B3, F__law_take B2.toD [.int 6] = some (.cl (.int u), Bag.toD B3) ∧ ((0 < u ∧ ∃ t B4, F__law_take B3.toD [.int 2] = some (.cl (.int t), Bag.toD B4) ∧ HouseMade (some (.cl (.tuple [.int (things - t), .tuple (iv F V)]), Bag.toD B4))) ∨ (¬ 0 < u ∧ HouseMade (some (.cl (house n F V), Bag.toD B3))))) := fun n F V B2 a1 a2 a3 a4 => by
    obtain ⟨u, B3, e3, _, _⟩ := take_ok B2 6 (by decide) (by decide)
    refine ⟨u, B3, e3, ?_⟩
    by_cases hu : 0 < u
    · obtain ⟨t, B4, e4, t0, t1⟩ := take_ok B3 2 (by decide) (by decide)
      exact .inl ⟨hu, t, B4, e4, fin n F V B4 a1 a2 a3 a4 t t0 t1⟩
    · exact .inr ⟨hu, n, F, V, B3, rfl, a1, a2, a3, a4⟩
  by_cases h7 : things < 7
  · obtain ⟨n, F, V, B2, e2, a1, a2, a3, a4⟩ := house_gen B1 things 3 5 (by omega) (by omega) (by decide) (by decide) (by decide) (by decide)
    have e2' : F__law_house B1.toD [.int things, .int 3, .int 5] = some (.cl (.tuple [.int n, .tuple (iv F V)]), B2.toD) := e2
    obtain ⟨u, B3, e3, ⟨hu, t, B4, e4, r⟩ | ⟨hu, r⟩⟩ := rest n F V B2 (by omega) a2 (by omega) fun f hf => by have := a4 f hf; omega
    · simp [argM, e1, h7, e2', e3, hu, e4]
      exact r
    · simp [argM, e1, h7, e2', e3, hu]
      exact r
  · obtain ⟨n, F, V, B2, e2, a1, a2, a3, a4⟩ := house_gen B1 things 4 12 (by omega) (by omega) (by decide) (by decide) (by decide) (by decide)
    have e2' : F__law_house B1.toD [.int things, .int 4, .int 12] = some (.cl (.tuple [.int n, .tuple (iv F V)]), B2.toD) := e2
    obtain ⟨u, B3, e3, ⟨hu, t, B4, e4, r⟩ | ⟨hu, r⟩⟩ := rest n F V B2 (by omega) a2 (by omega) fun f hf => by have := a4 f hf; omega
    · simp [argM, e1, h7, e2', e3, hu, e4]
      exact r
    · simp [argM, e1, h7, e2', e3, hu]
      exact r
end LW
noncomputable section
namespace DL
open PySem L2
section
variable {own : List Nat} {tg : GD} {tt : TD} {te : ED} {ρ : DL.Env} {α : Type}
theorem range_get (l : List α) (d : α) : (List.range l.length).map (fun k => l.getD k d) = l := by
  apply List.ext_getElem?
  intro k
  rw [List.getElem?_map]
  by_cases hk : k < l.length
  · simp [hk]
  · simp [hk]
theorem lc_mapF {l : List α} {g : α → PyData} (f : α → Option PyData) (ho : own.all (fun i => !(ρ.getD i .no).isOpen) = true) (hn : l.length ≤ 1000000) (hr : restE (wipeE ρ own) ρ own = ρ)
    (hs : ∀ a ∈ l, lcItem own tg tt te (wipeE ρ own) (g a) = some (f a, wipeE ρ own)) : lcGo own tg tt te (l.map g) ρ = some (.own (l.filterMap f), ρ) := by
  by_cases hl : l = []
  · subst hl
    have := lc_eq (own := own) (tg := tg) (tt := tt) (te := te) (ρ := ρ) (ds := []) 0 (fun _ => .none) (fun _ => none) rfl ho (by omega) hr (fun k hk => absurd hk (by omega))
    simpa using this
  · obtain ⟨d, hd⟩ : ∃ d, d ∈ l := by
      cases l with
      | nil => exact absurd rfl hl
      | cons a l => exact ⟨a, List.mem_cons_self ..⟩
    have e := range_get l d
    have hm : ∀ k, k < l.length → l.getD k d ∈ l := fun k hk => by
      rw [List.getD_eq_getElem?_getD, List.getElem?_eq_getElem hk]
      exact List.getElem_mem hk
    have := lc_eq (own := own) (tg := tg) (tt := tt) (te := te) (ρ := ρ) (ds := l.map g) l.length (fun k => g (l.getD k d)) (fun k => f (l.getD k d)) (by
      conv => lhs; rw [← e]
      rw [List.map_map]; rfl) ho hn hr (fun k hk => hs _ (hm k hk))
    rw [this]
    have : (List.range l.length).filterMap (fun k => f (l.getD k d)) = l.filterMap f := by
      conv => rhs; rw [← e]
      rw [List.filterMap_map]; rfl
    rw [this]
theorem lc_filL {l : List α} {g : α → PyData} (p : α → Bool) (ho : own.all (fun i => !(ρ.getD i .no).isOpen) = true) (hn : l.length ≤ 1000000) (hr : restE (wipeE ρ own) ρ own = ρ)
    (hs : ∀ a ∈ l, lcItem own tg tt te (wipeE ρ own) (g a) = some (if p a = true then some (g a) else none, wipeE ρ own)) : lcGo own tg tt te (l.map g) ρ = some (.own ((l.filter p).map g), ρ) := by
  rw [lc_mapF (fun a => if p a = true then some (g a) else none) ho hn hr hs]
  have : ∀ l : List α, l.filterMap (fun a => if p a = true then some (g a) else none) = (l.filter p).map g := fun l => by
    induction l with
    | nil => rfl
    | cons a l ih =>
      rw [List.filterMap_cons, List.filter_cons]
      by_cases h : p a = true <;> simp [h, ih]
  rw [this]
/-- a loop over the images of a list, all told: the state is a function of what was gone through -/
theorem loop_list {body : SD} {l : List α} {g : α → PyData} (E : List α → DL.Env) (h0 : ρ = E []) (hs : ∀ a l1 l2, l = l1 ++ a :: l2 → turn tg body (E l1) (g a) = some (.nx (E (l1 ++ [a])))) :
    loopD tg body (l.map g) ρ = some (.nx (E l)) := by
  rw [loop_eqL (fun i => E (l.take i)) (by simpa using h0) (fun i d hd => by
    rw [List.getElem?_map] at hd
    obtain ⟨a, ha, rfl⟩ := Option.map_eq_some_iff.mp hd
    have hi := (List.getElem?_eq_some_iff.mp ha).1
    have e1 : l.take (i + 1) = l.take i ++ [a] := by rw [List.take_add_one, ha]; rfl
    have e2 : l = l.take i ++ a :: l.drop (i + 1) := by
      conv => lhs; rw [← List.take_append_drop i l]
      rw [List.drop_eq_getElem_cons hi, (List.getElem?_eq_some_iff.mp ha).2]
    rw [e1]
    exact hs a _ _ e2)]
  rw [List.length_map, List.take_length]
end
/-- == of any two data -/
theorem eq_any {d e : PyData} {k : Bool} {ρ : DL.Env} (hd : SeqAt.shaped d = true) (he : SeqAt.shaped e = true) (hs : ∀ x, d ≠ .str x) : eqQ k ρ (.cl d) (.cl e) = some (.cl (.bool (k ^^ PyData.eqv d e)), ρ) := by
  have h : eqG k ρ (.cl d) (.cl e) = some (.cl (.bool (k ^^ PyData.eqv d e)), ρ) := by
    show (if SeqAt.shaped d = true ∧ SeqAt.shaped e = true then some (Val.cl (.bool (k ^^ PyData.eqv d e)), ρ) else none) = _
    rw [if_pos ⟨hd, he⟩]
  unfold eqQ
  split
  · rename_i a b e1 e2
    cases e1
    exact absurd rfl (hs _)
  · exact h
end DL
end
namespace LW
open PySem L2 DL
def cutB (w : Nat → Int) (k : Nat) : Bool := decide (w k < w (k + 1)) && decide (w (k + 2) = w (k + 1))
def cutL (m : Nat) (w : Nat → Int) : List Nat := ((List.range (m - 1)).filter (cutB w)).map (· + 1)
theorem cutL_mem {m d : Nat} {w : Nat → Int} : d ∈ cutL m w ↔ 0 < d ∧ d < m ∧ cutB w (d - 1) = true := by
  unfold cutL
  simp only [List.mem_map, List.mem_filter, List.mem_range]
  constructor
  · rintro ⟨k, ⟨h1, h2⟩, rfl⟩
    exact ⟨by omega, by omega, h2⟩
  · rintro ⟨h1, h2, h3⟩
    exact ⟨d - 1, ⟨by omega, h3⟩, by omega⟩
theorem cutL_asc {m : Nat} {w : Nat → Int} : (cutL m w).Pairwise (· < ·) := by
  unfold cutL
  rw [List.pairwise_map]
  exact (List.Pairwise.filter _ List.pairwise_lt_range).imp fun h => by omega
theorem fm_cuts {m : Nat} {w : Nat → Int} : (List.range (m - 1)).filterMap (fun k => if cutB w k = true then some (PyData.int (1 + (k : Nat))) else none) = nats (cutL m w) := by
  rw [fm_filter]
  unfold nats cutL
  rw [List.map_map]
  apply List.map_congr_left
  intro k _
  show PyData.int (1 + (k : Nat)) = .int ((k + 1 : Nat) : Int)
  rw [show (1 + (k : Nat) : Int) = ((k + 1 : Nat) : Int) by omega]
theorem iv_at1 {n k : Nat} {w : Nat → Int} (h : k < n) {i : Int} (e : i = k) : atI (iv n w) i = some (.int (w k)) := iv_at e h
theorem cuts_ok (m : Nat) (w : Nat → Int) (hm : m < 1000) : F_cuts_of [.tuple (iv (m + 1) w)] = some (.own (nats (cutL m w))) := by
  unfold F_cuts_of g_cuts_of
  rw [e_runP]
  have h1 : (-1000000 : Int) ≤ m ∧ (m : Int) ≤ 1000000 := by omega
  simp [argE, h1.1, h1.2]
  rw [rng_gl, lc_glf (fun k => if cutB w k = true then some (.int (1 + (k : Nat))) else none) (by simp) (by omega) (by simp) (by
    intro k hk
    have e0 : atI (iv (m + 1) w) (k : Int) = some (.int (w k)) := iv_at1 (by omega) (by omega)
    have e0' : atI (iv (m + 1) w) (1 + (k : Int) - 1) = some (.int (w k)) := iv_at1 (by omega) (by omega)
    have e1 : atI (iv (m + 1) w) (1 + (k : Int)) = some (.int (w (k + 1))) := iv_at1 (by omega) (by omega)
    have e2 : atI (iv (m + 1) w) (1 + (k : Int) + 1) = some (.int (w (k + 2))) := iv_at1 (by omega) (by omega)
    unfold cutB
    by_cases a1 : w k < w (k + 1) <;> by_cases a2 : w (k + 2) = w (k + 1) <;> simp [e0, e0', e1, e2, a1, a2] <;> (intro z; exact absurd z.symm a2))]
  rw [fm_cuts]
  simp
def prs : Nat → List Nat → List (Nat × Nat)
  | _, [] => []
  | b, e :: es => (b, e) :: prs e es
theorem prs_mem : ∀ {es : List Nat} {b : Nat} {p : Nat × Nat}, p ∈ prs b es → p.2 ∈ es ∧ (p.1 = b ∨ p.1 ∈ es)
  | [], b, p, h => absurd h (by simp [prs])
  | e :: es, b, p, h => by
    simp only [prs, List.mem_cons] at h
    rcases h with rfl | h
    · exact ⟨List.mem_cons_self .., .inl rfl⟩
    · obtain ⟨h1, h2⟩ := prs_mem h
      refine ⟨List.mem_cons_of_mem _ h1, .inr ?_⟩
      rcases h2 with rfl | h2
      · exact List.mem_cons_self ..
      · exact List.mem_cons_of_mem _ h2
def part (os : List Int) (p : Nat × Nat) : List Int := (os.drop p.1).take (p.2 - p.1)
def lot (os : List Int) (p : Nat × Nat) : List Int := sortI (part os p)
def tupI (l : List Int) : PyData := .tuple (l.map .int)
def blkD (os : List Int) (w : Nat → Int) (es : List Nat) : PyData := .tuple ((prs 0 es).map fun p => .tuple [tupI (lot os p), .int (w p.2)])
end LW
namespace LW
open PySem L2 DL
def cutsI (n F : Nat) (T : Nat → Nat → Int) : List Int := ((List.range F).flatMap fun f => cutL n (T f)).map fun k => ((k : Nat) : Int)
def allC (n F : Nat) (T : Nat → Nat → Int) : List Nat := (sortU (cutsI n F T)).map Int.toNat
theorem cutsI_mem {n F : Nat} {T : Nat → Nat → Int} {x : Int} : x ∈ cutsI n F T ↔ ∃ f d, f < F ∧ d ∈ cutL n (T f) ∧ x = ((d : Nat) : Int) := by
  unfold cutsI
  simp only [List.mem_map, List.mem_flatMap, List.mem_range]
  constructor
  · rintro ⟨d, ⟨f, hf, hd⟩, rfl⟩
    exact ⟨f, d, hf, hd, rfl⟩
  · rintro ⟨f, d, hf, hd, rfl⟩
    exact ⟨d, ⟨f, hf, hd⟩, rfl⟩
theorem allC_mem {n F : Nat} {T : Nat → Nat → Int} {d : Nat} : d ∈ allC n F T ↔ ∃ f, f < F ∧ d ∈ cutL n (T f) := by
  unfold allC
  rw [List.mem_map]
  constructor
  · rintro ⟨x, hx, rfl⟩
    obtain ⟨f, d, hf, hd, rfl⟩ := cutsI_mem.mp (sortU_mem.mp hx)
    exact ⟨f, hf, hd⟩
  · rintro ⟨f, hf, hd⟩
    exact ⟨_, sortU_mem.mpr (cutsI_mem.mpr ⟨f, d, hf, hd, rfl⟩), rfl⟩
/-- all lots' ends -/
def endsC (n F : Nat) (T : Nat → Nat → Int) : List Nat := allC n F T ++ [n]
/-- two orders with the same things in front of each end -/
structure Like (n F : Nat) (T : Nat → Nat → Int) (os os' : List Int) : Prop where
  l1 : os.length = n
  l2 : os'.length = n
  tk : ∀ d ∈ endsC n F T, (os'.take d).Perm (os.take d)
theorem Like.symm {n F : Nat} {T : Nat → Nat → Int} {os os' : List Int} (L : Like n F T os os') : Like n F T os' os := ⟨L.l2, L.l1, fun d hd => (L.tk d hd).symm⟩
theorem Like.part {n F : Nat} {T : Nat → Nat → Int} {os os' : List Int} (L : Like n F T os os') {b e : Nat} (hb : b = 0 ∨ b ∈ endsC n F T) (he : e ∈ endsC n F T) (h : b ≤ e) : (part os' (b, e)).Perm (part os (b, e)) := by
  have e1 : ∀ l : List Int, l.take e = l.take b ++ LW.part l (b, e) := fun l => by
    unfold LW.part
    show _ = l.take b ++ (l.drop b).take (e - b)
    rw [← List.take_add, show b + (e - b) = e by omega]
  have h1 := L.tk e he
  have h2 : (os'.take b).Perm (os.take b) := by
    rcases hb with rfl | hb
    · simp
    · exact L.tk b hb
  rw [e1 os, e1 os'] at h1
  exact (List.perm_append_left_iff _).mp (((h2.append_right _).symm.trans h1))
theorem sortI_eq {a b : List Int} (h : a.Perm b) : sortI a = sortI b := sorted_one ((sortI_perm a).trans (h.trans (sortI_perm b).symm)) (sortI_pair a) (sortI_pair b)
theorem prs_le : ∀ {es : List Nat} {b : Nat} {p : Nat × Nat}, (b :: es).Pairwise (· < ·) → p ∈ prs b es → p.1 ≤ p.2
  | [], b, p, _, h => absurd h (by simp [prs])
  | e :: es, b, p, ha, h => by
    simp only [prs, List.mem_cons] at h
    rcases h with rfl | h
    · exact Nat.le_of_lt ((List.pairwise_cons.mp ha).1 e (List.mem_cons_self ..))
    · exact prs_le (List.pairwise_cons.mp ha).2 h
theorem prs_le0 {es : List Nat} {p : Nat × Nat} (ha : es.Pairwise (· < ·)) (h : p ∈ prs 0 es) : p.1 ≤ p.2 := by
  cases es with
  | nil => exact absurd h (by simp [prs])
  | cons e es =>
    simp only [prs, List.mem_cons] at h
    rcases h with rfl | h
    · exact Nat.zero_le _
    · exact prs_le ha h
theorem Like.lot {n F : Nat} {T : Nat → Nat → Int} {os os' : List Int} (L : Like n F T os os') {es : List Nat} (ha : es.Pairwise (· < ·)) (hs : ∀ e ∈ es, e ∈ endsC n F T) {p : Nat × Nat} (hp : p ∈ prs 0 es) : lot os' p = lot os p := by
  obtain ⟨m1, m2⟩ := prs_mem hp
  have m3 : p.1 = 0 ∨ p.1 ∈ endsC n F T := by
    rcases m2 with z | z
    · exact .inl z
    · exact .inr (hs _ z)
  exact sortI_eq (L.part m3 (hs _ m1) (prs_le0 ha hp))
theorem Like.blk {n F : Nat} {T : Nat → Nat → Int} {os os' : List Int} (L : Like n F T os os') {f : Nat} (hf : f < F) : blkD os' (T f) (cutL n (T f)) = blkD os (T f) (cutL n (T f)) := by
  unfold blkD
  congr 1
  apply List.map_congr_left
  intro p hp
  rw [L.lot cutL_asc (fun e he => List.mem_append_left _ (allC_mem.mpr ⟨f, hf, he⟩)) hp]
end LW
noncomputable section
namespace LW
open PySem L2 DL
end LW
end
namespace LW
open PySem L2 DL
def grow1 (F : Nat) (V : Nat → Int) (l : List Int) : List (List Int) := (((List.range F).filter fun f => decide (((l.count ((f : Nat) : Int) : Nat) : Int) < V f)).map fun f => l ++ [((f : Nat) : Int)]) ++ [l ++ [(F : Int)]]
structure StL (F i : Nat) (L : List (List Int)) : Prop where
  len : ∀ l ∈ L, l.length = i
  rng : ∀ l ∈ L, ∀ x ∈ l, 0 ≤ x ∧ x ≤ (F : Int)
  many : L.length ≤ (F + 1) ^ i
theorem grow1_len {F : Nat} {V : Nat → Int} {l : List Int} : (grow1 F V l).length ≤ F + 1 := by
  unfold grow1
  rw [List.length_append, List.length_map]
  have := List.length_filter_le (fun f => decide (((l.count ((f : Nat) : Int) : Nat) : Int) < V f)) (List.range F)
  rw [List.length_range] at this
  simp
  omega
theorem grow1_mem {F : Nat} {V : Nat → Int} {l m : List Int} (h : m ∈ grow1 F V l) : ∃ x : Int, m = l ++ [x] ∧ 0 ≤ x ∧ x ≤ F := by
  unfold grow1 at h
  rcases List.mem_append.mp h with h | h
  · obtain ⟨f, hf, rfl⟩ := List.mem_map.mp h
    have := List.mem_range.mp (List.mem_filter.mp hf).1
    exact ⟨_, rfl, by omega, by omega⟩
  · rw [List.mem_singleton] at h
    exact ⟨_, h, by omega, by omega⟩
theorem StL.grow {F i : Nat} {V : Nat → Int} {L : List (List Int)} (S : StL F i L) : StL F (i + 1) (L.flatMap (grow1 F V)) where
  len l hl := by
    obtain ⟨m, hm, h⟩ := List.mem_flatMap.mp hl
    obtain ⟨x, rfl, _, _⟩ := grow1_mem h
    rw [List.length_append, S.len m hm]
    rfl
  rng l hl y hy := by
    obtain ⟨m, hm, h⟩ := List.mem_flatMap.mp hl
    obtain ⟨x, rfl, h1, h2⟩ := grow1_mem h
    rcases List.mem_append.mp hy with hy | hy
    · exact S.rng m hm y hy
    · rw [List.mem_singleton] at hy; subst hy; exact ⟨h1, h2⟩
  many := by
    have : ∀ L : List (List Int), (L.flatMap (grow1 F V)).length ≤ L.length * (F + 1) := fun L => by
      induction L with
      | nil => simp
      | cons l L ih =>
        rw [List.flatMap_cons, List.length_append, List.length_cons, Nat.succ_mul]
        have := grow1_len (F := F) (V := V) (l := l)
        omega
    rw [Nat.pow_succ]
    exact Nat.le_trans (this L) (Nat.mul_le_mul_right _ S.many)
def tups (L : List (List Int)) : List PyData := L.map tupI
def AllI (n F : Nat) (V : Nat → Int) (i : Nat) (ρ : DL.Env) : Prop := ∃ (L : List (List Int)) (c1 c3 c4 c5 : Cell), StL F i L ∧ (c1 = .op (tups L) ∨ c1 = .cl (.list (tups L))) ∧ ρ = [.cl (house n F V), c1, .cl (.int F), c3, c4, c5, .no, .no]
def AllEnd (n F : Nat) (x : Option Val) : Prop := ∃ (L : List (List Int)) (r : Val), x = some r ∧ StL F n L ∧ (r = .own (tups L) ∨ r = .cl (.list (tups L)))
theorem tups_app {L M : List (List Int)} : tups L ++ tups M = tups (L ++ M) := by unfold tups; rw [List.map_append]
theorem all_states_ok (n F : Nat) (V : Nat → Int) (hn : n ≤ 5) (hF : F ≤ 4) : AllEnd n F (F__law_all_states_2 [house n F V]) := by
  unfold F__law_all_states_2 g__law_all_states_2 house
  rw [e_runP]
  have h1 : (-1000000 : Int) ≤ n ∧ (n : Int) ≤ 1000000 := by omega
  simp [argE, h1.1, h1.2]
  refine use_loop (P := fun x => AllEnd n F (kPu (kSq x _))) (AllI n F V) ?_ ?_ ?_
  · exact ⟨[[]], _, _, _, _, ⟨fun l hl => by simp at hl; subst hl; rfl, fun l hl => by simp at hl; subst hl; simp, by simp⟩, .inl rfl, rfl⟩
  · rintro i d ρ hd ⟨L, c1, c3, c4, c5, S, hc, rfl⟩
    obtain ⟨hi, rfl⟩ := rng_get hd
    have hsmall : (F + 1) ^ (i + 1) ≤ 3125 := by
      have a1 : (F + 1) ^ (i + 1) ≤ 5 ^ (i + 1) := Nat.pow_le_pow_left (by omega) _
      have a2 : 5 ^ (i + 1) ≤ 5 ^ 5 := Nat.pow_le_pow_right (by omega) (by omega)
      omega
    have step : kSq (loopD (nameT 5) (seqS (dropS (metD 4 (acons (lcD [6, 7] (enumI (acons (binD (varD 0) (conD (.int 1)) ixG) anil)) (tupT [6, 7]) (testD (binD (metV (varD 5) (varD 6) cntG) (varD 7) (intG (i2b fun i j => decide (i < j))))) (binD (varD 5) (tupD (acons (varD 6) anil)) addG)) anil) extG))
        (dropS (metD 4 (acons (binD (varD 5) (tupD (acons (varD 2) anil)) addG) anil) appG))) (L.map tupI) [.cl (house n F V), .cl (.list (tups L)), .cl (.int F), .cl (.int i), .op (tups []), c5, .no, .no]) (setS 1 (varD 4)) =
        some (.nx [.cl (house n F V), .cl (.list (tups (L.flatMap (grow1 F V)))), .cl (.int F), .cl (.int i), .cl (.list (tups (L.flatMap (grow1 F V)))), (match L.getLast? with | none => c5 | some l => .cl (tupI l)), .no, .no]) := by
      rw [loop_list (fun M => [.cl (house n F V), .cl (.list (tups L)), .cl (.int F), .cl (.int i), .op (tups (M.flatMap (grow1 F V))), (match M.getLast? with | none => c5 | some l => .cl (tupI l)), .no, .no]) (by simp) (by
        intro l M1 M2 hM
        have hlm : l ∈ L := by rw [hM]; exact List.mem_append_right _ (List.mem_cons_self ..)
        have hll := S.len l hlm
        have hb : (tups (M1.flatMap (grow1 F V))).length ≤ 3125 := by
          unfold tups
          rw [List.length_map]
          have h3 := (S.grow (V := V)).many
          rw [hM, List.flatMap_append, List.length_append] at h3
          omega
        unfold house tupI
        simp
        rw [enum_iv, lc_glf (fun f => if decide (((l.count ((f : Nat) : Int) : Nat) : Int) < V f) = true then some (.tuple (l.map .int ++ [.int (f : Nat)])) else none) (by simp) (by omega) (by simp) (by
          intro f hf
          have hs : l.length + 1 ≤ 1000000 := by omega
          by_cases hq : ((l.count ((f : Nat) : Int) : Nat) : Int) < V f
          · simp [hq, hs]
          · simp [hq, hs]), fm_filter]
        have hs : l.length + 1 ≤ 1000000 := by omega
        have hg : (((List.range F).filter fun f => decide (((l.count ((f : Nat) : Int) : Nat) : Int) < V f)).map fun f => PyData.tuple (l.map .int ++ [.int (f : Nat)])) ++ [.tuple (l.map .int ++ [.int (F : Nat)])] = tups (grow1 F V l) := by
          unfold tups grow1 tupI
          rw [List.map_append, List.map_map]
          simp [Function.comp]
        have hx : (((List.range F).filter fun f => decide (((l.count ((f : Nat) : Int) : Nat) : Int) < V f)).map fun f => PyData.tuple (l.map .int ++ [.int (f : Nat)])).length ≤ F := by
          rw [List.length_map]
          have := List.length_filter_le (fun f => decide (((l.count ((f : Nat) : Int) : Nat) : Int) < V f)) (List.range F)
          rwa [List.length_range] at this
        generalize (((List.range F).filter fun f => decide (((l.count ((f : Nat) : Int) : Nat) : Int) < V f)).map fun f => PyData.tuple (l.map .int ++ [.int (f : Nat)])) = X at hg hx ⊢
        rw [← tups_app, ← hg]
        have b1 : (tups (M1.flatMap (grow1 F V))).length + X.length ≤ 1000000 := by omega
        have b2 : (tups (M1.flatMap (grow1 F V))).length + X.length < 1000000 := by omega
        simp [b1, b2, hs])]
      simp
    have es : tups [] = [] := rfl
    have et : L.map tupI = tups L := rfl
    rw [es, et] at step
    rcases hc with rfl | rfl
    · simp
      rw [step]
      exact turns_nx ⟨_, _, _, _, _, S.grow, .inr rfl, rfl⟩
    · simp
      rw [step]
      exact turns_nx ⟨_, _, _, _, _, S.grow, .inr rfl, rfl⟩
  · intro ρ' h
    rw [rngD_len] at h
    obtain ⟨L, c1, c3, c4, c5, S, hc, rfl⟩ := h
    rcases hc with rfl | rfl
    · simp
      exact ⟨L, _, rfl, S, .inl rfl⟩
    · simp
      exact ⟨L, _, rfl, S, .inr rfl⟩
def nth (os : List Int) (k : Nat) : Int := os.getD k 0
def cnt (s : Nat → Int) (f : Nat) (os : List Int) (k : Nat) : Nat := (os.take k).countP fun x => decide (s x.toNat ≤ (f : Int))
theorem cnt_zero {s : Nat → Int} {f : Nat} {os : List Int} : cnt s f os 0 = 0 := by simp [cnt]
theorem cnt_succ {s : Nat → Int} {f k : Nat} {os : List Int} (h : k < os.length) : cnt s f os (k + 1) = cnt s f os k + (if s (nth os k).toNat ≤ (f : Int) then 1 else 0) := by
  unfold cnt
  rw [List.take_add_one, List.getElem?_eq_getElem h, List.countP_append]
  have : nth os k = os[k] := by unfold nth; rw [List.getD_eq_getElem?_getD, List.getElem?_eq_getElem h]; rfl
  rw [this]
  by_cases q : s os[k].toNat ≤ (f : Int) <;> simp [q]
def fitW (n : Nat) (os : List Int) (T : Nat → Nat → Int) (s : Nat → Int) (f : Nat) : Bool := (List.range n).all fun k => decide (T f (k + 1) ≤ (cnt s f os (k + 1) : Int))
def sameB (n F : Nat) (T : Nat → Nat → Int) (s : Nat → Int) : Bool := PyData.eqv (.tuple (iv F fun f => ((inside n s (f : Nat)).length : Nat))) (.tuple (iv F fun f => T f n))
def fitsB (n F : Nat) (os : List Int) (T : Nat → Nat → Int) (s : Nat → Int) : Bool := sameB n F T s && (List.range F).all fun f => fitW n os T s f
theorem iv_getD {os : List Int} : os.map PyData.int = iv os.length (nth os) := by
  unfold iv
  conv => lhs; rw [← range_get os 0]
  rw [List.map_map]
  rfl
def FitO (n F : Nat) (os : List Int) (T : Nat → Nat → Int) (V s : Nat → Int) (i : Nat) (ρ : DL.Env) : Prop := (∀ f, f < i → fitW n os T s f = true) ∧ ∃ c3 c4 c5 c6 c7, ρ = [.cl (house n F V), .cl (.tuple [.tuple (iv n (nth os)), .tuple (rowsT F (n + 1) T)]), .cl (.tuple (iv n s)), c3, c4, c5, c6, c7]
def FitR (n F : Nat) (os : List Int) (T : Nat → Nat → Int) (s : Nat → Int) (r : Val) (ρ : DL.Env) : Prop := r = .cl (.bool false) ∧ ∃ f, f < F ∧ fitW n os T s f = false
def FitN (n F : Nat) (os : List Int) (T : Nat → Nat → Int) (V s : Nat → Int) (f i : Nat) (ρ : DL.Env) : Prop := (∀ k, k < i → T f (k + 1) ≤ (cnt s f os (k + 1) : Int)) ∧ ∃ c6 c7, ρ = [.cl (house n F V), .cl (.tuple [.tuple (iv n (nth os)), .tuple (rowsT F (n + 1) T)]), .cl (.tuple (iv n s)), .cl (.int f), .cl (.tuple (iv (n + 1) (T f))), .cl (.int (cnt s f os i : Nat)), c6, c7]
def FitEnd (n F : Nat) (os : List Int) (T : Nat → Nat → Int) (s : Nat → Int) (x : Option Val) : Prop := x = some (.cl (.bool (fitsB n F os T s)))
theorem fits_ok (n F : Nat) (V s : Nat → Int) (os : List Int) (T : Nat → Nat → Int) (hn : n ≤ 16) (hF : F ≤ 4) (hp : os.Perm (DL.upto n)) (hT : ∀ f, f < F → 0 ≤ T f n ∧ T f n ≤ n) : FitEnd n F os T s (F__law_fits [house n F V, knowD os F T, .tuple (iv n s)]) := by
  have hl : os.length = n := by rw [hp.length_eq, upto_len]
  have hm : ∀ k, k < n → ∃ j : Nat, j < n ∧ nth os k = j := fun k hk => by
    have : nth os k ∈ os := by
      unfold nth
      rw [List.getD_eq_getElem?_getD, List.getElem?_eq_getElem (by omega)]
      exact List.getElem_mem (by omega)
    obtain ⟨j, hj, e⟩ := upto_mem.mp (hp.mem_iff.mp this)
    exact ⟨j, hj, e⟩
  have e1 := sizes_of_state n F V s (by omega) (by omega)
  have e2 := sizes_of n F (by omega) T (.tuple (iv n (nth os)))
  have ek : knowD os F T = .tuple [.tuple (iv n (nth os)), .tuple (rowsT F (n + 1) T)] := by
    unfold knowD
    rw [iv_getD, hl]
  have N1 : Ok60 (.tuple (iv F fun f => ((inside n s (f : Nat)).length : Nat))) := (nice_row (n := F) (w := fun f => ((inside n s (f : Nat)).length : Nat)) fun k hk => by have := inside_le (n := n) (s := s) (f := (k : Nat)); omega).mono (by omega) (by omega)
  have N2 : Ok60 (.tuple (iv F fun f => T f n)) := (nice_row (n := F) (w := fun f => T f n) fun k hk => by have := hT k hk; omega).mono (by omega) (by omega)
  have eq0 : ∀ ρ : DL.Env, eqQ true ρ (.cl (.tuple (iv F fun f => ((inside n s (f : Nat)).length : Nat)))) (.cl (.tuple (iv F fun f => T f n))) = some (.cl (.bool (true ^^ sameB n F T s)), ρ) := fun ρ => eq_any (shaped_of N1) (shaped_of N2) (fun x => by simp)
  rw [ek]
  unfold F__law_fits g__law_fits
  rw [e_runP]
  by_cases hb : sameB n F T s = true
  · rw [hb] at eq0
    simp [argE, e1, e2, eq0]
    unfold rowsT
    rw [enum_gl]
    refine use_loopT (P := fun x => FitEnd n F os T s (kPu (kSq x _))) (FitO n F os T V s) (FitR n F os T s) ?_ ?_ ?_ ?_
    · exact ⟨fun f hf => absurd hf (by omega), _, _, _, _, _, rfl⟩
    · rintro f d ρ hd ⟨h, c3, c4, c5, c6, c7, rfl⟩
      obtain ⟨hf, rfl⟩ := gl_get' hd
      simp
      rw [enum_iv]
      refine use_loopT (P := fun x => TurnsR (FitO n F os T V s (f + 1)) (FitR n F os T s) x) (FitN n F os T V s f) (FitR n F os T s) ?_ ?_ ?_ ?_
      · exact ⟨fun k hk => absurd hk (by omega), _, _, by rw [cnt_zero]; rfl⟩
      · rintro k d ρ hd ⟨h2, c6, c7, rfl⟩
        obtain ⟨hk, rfl⟩ := gl_get' hd
        obtain ⟨j, hj, ej⟩ := hm k hk
        have a1 : atI (iv n s) (nth os k) = some (.int (s j)) := by rw [ej]; exact iv_at1 hj rfl
        have a2 : atI (iv (n + 1) (T f)) ((k : Int) + 1) = some (.int (T f (k + 1))) := iv_at1 (by omega) (by omega)
        have cs := cnt_succ (s := s) (f := f) (os := os) (k := k) (by omega)
        have ej2 : (nth os k).toNat = j := by rw [ej]; rfl
        rw [ej2] at cs
        simp [a1, a2]
        have cs2 : ((cnt s f os k : Int) + if s j ≤ (f : Int) then 1 else 0) = (cnt s f os (k + 1) : Nat) := by
          rw [cs]
          split <;> omega
        rw [cs2]
        split
        · rename_i hlt
          refine turnsR_rt ⟨rfl, f, hf, ?_⟩
          unfold fitW
          rw [List.all_eq_false]
          exact ⟨k, List.mem_range.mpr hk, by simp; omega⟩
        · rename_i hlt
          refine turnsR_nx ⟨fun k' hk' => ?_, _, _, rfl⟩
          by_cases hkk : k' = k
          · subst hkk; omega
          · exact h2 k' (by omega)
      · rintro ρ' ⟨h2, c6, c7, rfl⟩
        rw [gl_len] at h2
        refine turnsR_nx ⟨fun f' hf' => ?_, _, _, _, _, _, rfl⟩
        by_cases hff : f' = f
        · subst hff
          unfold fitW
          rw [List.all_eq_true]
          intro k hk
          exact decide_eq_true (h2 k (List.mem_range.mp hk))
        · exact h f' (by omega)
      · rintro r ρ' h
        exact turnsR_rt h
    · rintro ρ' ⟨h, c3, c4, c5, c6, c7, rfl⟩
      rw [gl_len] at h
      simp
      unfold FitEnd fitsB
      rw [hb, List.all_eq_true.mpr fun f hf => h f (List.mem_range.mp hf)]
      rfl
    · rintro r ρ' ⟨rfl, f, hf, h⟩
      simp
      unfold FitEnd fitsB
      have : ((List.range F).all fun f => fitW n os T s f) = false := List.all_eq_false.mpr ⟨f, List.mem_range.mpr hf, by simp [h]⟩
      rw [hb, this]
      rfl
  · have hb2 : sameB n F T s = false := by simpa using hb
    rw [hb2] at eq0
    simp [argE, e1, e2, eq0]
    simp [FitEnd, fitsB, hb2]
end LW
namespace LW
open PySem L2 DL
theorem sameB_eq {n F : Nat} {T : Nat → Nat → Int} {s : Nat → Int} (h : sameB n F T s = true) : ∀ f, f < F → ((inside n s (f : Nat)).length : Int) = T f n := by
  unfold sameB at h
  have e1 : iv F (fun f => ((inside n s (f : Nat)).length : Nat)) = ((List.range F).map fun f => (((inside n s (f : Nat)).length : Nat) : Int)).map .int := by unfold iv; rw [List.map_map]; rfl
  have e2 : iv F (fun f => T f n) = ((List.range F).map fun f => T f n).map .int := by unfold iv; rw [List.map_map]; rfl
  have h2 : PyData.eqvAll (iv F (fun f => ((inside n s (f : Nat)).length : Nat))) (iv F fun f => T f n) = true := by simpa [PyData.eqv] using h
  rw [e1, e2, PySem.W.ked_eqvAll, decide_eq_true_eq] at h2
  intro f hf
  have := congrArg (fun l => l[f]?) h2
  simpa [hf] using this
theorem Like.perm {n F : Nat} {T : Nat → Nat → Int} {os os' : List Int} (L : Like n F T os os') : os'.Perm os := by
  have := L.tk n (List.mem_append_right _ (List.mem_singleton.mpr rfl))
  rwa [List.take_of_length_le (by rw [L.l2]; exact Nat.le_refl _), List.take_of_length_le (by rw [L.l1]; exact Nat.le_refl _)] at this
def stOf (l : List Int) : Nat → Int := nth l
theorem tupI_iv {l : List Int} : tupI l = .tuple (iv l.length (stOf l)) := by
  unfold tupI
  rw [iv_getD]
  rfl
def fitting (n F : Nat) (os : List Int) (T : Nat → Nat → Int) (L : List (List Int)) : List (List Int) := L.filter fun l => fitsB n F os T (stOf l)
theorem that_fit_ok {n F : Nat} {V : Nat → Int} {os : List Int} {T : Nat → Nat → Int} (hn : n ≤ 5) (hF : F ≤ 3) (K : Kn n F V os T) {L : List (List Int)} {r : Val} (e : F__law_all_states_2 [house n F V] = some r) (S : StL F n L) (hr : r = .own (tups L) ∨ r = .cl (.list (tups L))) :
    F__law_states_that_fit [house n F V, knowD os F T] = some (.own (tups (fitting n F os T L))) := by
  have hT : ∀ f, f < F → 0 ≤ T f n ∧ T f n ≤ n := fun f hf => by
    have := (K.tight.word f hf).le (Nat.le_refl n)
    have := K.tight.first f hf
    omega
  have hs : L.length ≤ 1000000 := by
    have a1 : (F + 1) ^ n ≤ 4 ^ n := Nat.pow_le_pow_left (by omega) _
    have a2 : 4 ^ n ≤ 4 ^ 5 := Nat.pow_le_pow_right (by omega) (by omega)
    have := S.many
    omega
  have go : ∀ ρ : DL.Env, ρ = [.cl (house n F V), .cl (knowD os F T), .no] → lcGo [2] (nameT 2) (testD (callP 3 F__law_fits (acons (varD 0) (acons (varD 1) (acons (varD 2) anil))))) (varD 2) (tups L) ρ = some (.own (tups (fitting n F os T L)), ρ) := by
    rintro ρ rfl
    unfold tups fitting
    rw [lc_filL (fun l => fitsB n F os T (stOf l)) (by simp) hs (by simp) (by
      intro l hl
      have ef : F__law_fits [house n F V, knowD os F T, tupI l] = some (.cl (.bool (fitsB n F os T (stOf l)))) := by
        rw [tupI_iv, S.len l hl]
        exact fits_ok n F V (stOf l) os T (by omega) (by omega) K.perm hT
      by_cases q : fitsB n F os T (stOf l) = true
      · simp [ef, q]
      · simp [ef, q])]
  unfold F__law_states_that_fit g__law_states_that_fit
  rw [e_runP]
  rcases hr with rfl | rfl
  · simp [argE, e]
    rw [go _ rfl]
    simp
  · simp [argE, e]
    rw [go _ rfl]
    simp
end LW
namespace LW
open PySem L2 DL
theorem nth_mem {os : List Int} {k : Nat} (h : k < os.length) : nth os k ∈ os := by
  unfold nth
  rw [List.getD_eq_getElem?_getD, List.getElem?_eq_getElem h]
  exact List.getElem_mem h
theorem upto_nodup (n : Nat) : (DL.upto n).Nodup := by
  unfold DL.upto
  rw [List.nodup_iff_pairwise_ne, List.pairwise_map]
  exact List.nodup_range.imp fun h z => h (by omega)
theorem Kn.nodup {n F : Nat} {V : Nat → Int} {os : List Int} {T : Nat → Nat → Int} (K : Kn n F V os T) : os.Nodup := K.perm.nodup_iff.mpr (upto_nodup n)
theorem idx_nth {os : List Int} (hn : os.Nodup) {k : Nat} (h : k < os.length) : os.idxOf (nth os k) = k := by
  unfold nth
  rw [List.getD_eq_getElem?_getD, List.getElem?_eq_getElem h]
  exact hn.idxOf_getElem k h
theorem fits_iff {n F : Nat} {os : List Int} {T : Nat → Nat → Int} {s : Nat → Int} : fitsB n F os T s = true ↔ (∀ f, f < F → ((inside n s (f : Nat)).length : Int) = T f n) ∧ ∀ f, f < F → ∀ k, k < n → T f (k + 1) ≤ cnt s f os (k + 1) := by
  constructor
  · intro h
    unfold fitsB at h
    rw [Bool.and_eq_true] at h
    refine ⟨sameB_eq h.1, fun f hf k hk => ?_⟩
    have h2 := List.all_eq_true.mp h.2 f (List.mem_range.mpr hf)
    unfold fitW at h2
    exact of_decide_eq_true (List.all_eq_true.mp h2 k (List.mem_range.mpr hk))
  · rintro ⟨h1, h2⟩
    unfold fitsB
    rw [Bool.and_eq_true]
    refine ⟨?_, List.all_eq_true.mpr fun f hf => List.all_eq_true.mpr fun k hk => decide_eq_true (h2 f (List.mem_range.mp hf) k (List.mem_range.mp hk))⟩
    unfold sameB
    have e : (iv F fun f => (((inside n s (f : Nat)).length : Nat) : Int)) = iv F fun f => T f n := iv_congr h1
    rw [e]
    have : iv F (fun f => T f n) = ((List.range F).map fun f => T f n).map .int := by unfold iv; rw [List.map_map]; rfl
    rw [this]
    show PyData.eqv (.tuple _) (.tuple _) = true
    simp only [PyData.eqv]
    rw [PySem.W.ked_eqvAll]
    exact decide_eq_true rfl
end LW
namespace LW
open PySem L2 DL
section
variable {n F : Nat} {V : Nat → Int} {os : List Int} {T : Nat → Nat → Int}
theorem Kn.word (K : Kn n F V os T) {f : Nat} (hf : f < F) {a b : Nat} (h : a ≤ b) (hb : b ≤ n) : T f a ≤ T f b ∧ T f b ≤ T f a + (b - a : Nat) := by
  have W := K.tight.word f hf
  obtain ⟨d, rfl⟩ : ∃ d, b = a + d := ⟨b - a, by omega⟩
  clear h
  induction d with
  | zero => rw [Nat.add_zero]; exact ⟨Int.le_refl _, by omega⟩
  | succ d ih =>
    have ih := ih (by omega)
    have h1 := W.mono (a + d) (by omega)
    have h2 := W.step (a + d) (by omega)
    have e : a + (d + 1) = a + d + 1 := by omega
    rw [e]
    omega
theorem Kn.bound (K : Kn n F V os T) {f : Nat} (hf : f < F) {k : Nat} (hk : k ≤ n) : 0 ≤ T f k ∧ T f k ≤ k ∧ T f k ≤ T f n := by
  have h1 := K.word hf (Nat.zero_le k) hk
  have h2 := K.word hf hk (Nat.le_refl n)
  have h0 := K.tight.first f hf
  omega
theorem Kn.floors (K : Kn n F V os T) {f g : Nat} (h : f ≤ g) (hg : g < F) {k : Nat} (hk : k ≤ n) : T f k ≤ T g k ∧ T g k ≤ T f k + (T g n - T f n) := by
  obtain ⟨d, rfl⟩ : ∃ d, g = f + d := ⟨g - f, by omega⟩
  clear h
  induction d with
  | zero => rw [Nat.add_zero]; exact ⟨Int.le_refl _, by omega⟩
  | succ d ih =>
    have ih := ih (by omega)
    have h1 := K.tight.up (f + d) (by omega) k hk
    have h2 := K.tight.down (f + d) (by omega) k hk
    have e : f + (d + 1) = f + d + 1 := by omega
    rw [e]
    omega
/-- how many stand in front of each floor -/
def endS (n F : Nat) (T : Nat → Nat → Int) (g : Nat) : Int := if g = 0 then 0 else if g ≤ F then T (g - 1) n else n
end
end LW
namespace LW
open PySem L2 DL
theorem nice_ints {l : List Int} {m : Nat} (h : ∀ x ∈ l, 0 ≤ x ∧ x ≤ 1000) (hl : l.length ≤ m) : Nice 1 (22 * m) (tupI l) := by
  have := nice_tup (h := 0) (w := 21) (xs := l.map .int) fun x hx => by
    obtain ⟨k, hk, rfl⟩ := List.mem_map.mp hx
    have := h k hk
    exact nice_int (by omega) (by omega)
  refine this.mono (Nat.le_refl _) ?_
  rw [List.length_map]
  exact Nat.mul_le_mul_left _ hl
theorem kn_ints {n F : Nat} {V : Nat → Int} {os : List Int} {T : Nat → Nat → Int} (K : Kn n F V os T) (hn : n ≤ 16) : ∀ x ∈ os, 0 ≤ x ∧ x ≤ 1000 := fun x hx => by
  obtain ⟨k, hk, rfl⟩ := upto_mem.mp (K.perm.mem_iff.mp hx)
  omega
theorem nice_kn {n F : Nat} {V : Nat → Int} {os : List Int} {T : Nat → Nat → Int} (K : Kn n F V os T) (hn : n ≤ 16) (hF : F ≤ 4) : Nice 3 3010 (knowD os F T) := by
  have N1 := nice_ints (kn_ints K hn) (m := 16) (by rw [K.len]; exact hn)
  have N2 : Nice 2 ((22 * (os.length + 1) + 1) * F) (.tuple (rowsT F (os.length + 1) T)) := nice_rows fun f hf k hk => by
    have := (K.tight.word f hf).le (k := k) (by rw [← K.len]; omega)
    have h0 := K.tight.first f hf
    have := K.len
    omega
  have hb : (22 * (os.length + 1) + 1) * F ≤ 375 * 4 := Nat.mul_le_mul (by rw [K.len]; omega) hF
  have := nice_tup (h := 2) (w := 1500) (xs := [tupI os, .tuple (rowsT F (os.length + 1) T)]) (by
    intro x hx
    simp only [List.mem_cons, List.not_mem_nil, or_false] at hx
    rcases hx with rfl | rfl
    · exact N1.mono (by omega) (by omega)
    · exact N2.mono (Nat.le_refl _) hb)
  exact this.mono (Nat.le_refl _) (by show (1500 + 1) * 2 ≤ 3010; omega)
end LW
namespace LW
open PySem L2 DL
def cntB (b : Nat → Bool) (d : Nat) : Nat := ((List.range d).filter b).length
theorem cntB_succ {b : Nat → Bool} {d : Nat} : cntB b (d + 1) = cntB b d + (if b d = true then 1 else 0) := by
  unfold cntB
  rw [List.range_succ, List.filter_append, List.length_append]
  cases h : b d <;> simp [List.filter_cons, h]
end LW
noncomputable section
namespace DL
open PySem L2
def kIsi (x : Option (Val × DL.Env)) (T : String) : Option (Val × DL.Env) := x.bind fun p => (tyVal p.1).bind fun n => (kitB n T).map fun b => (.cl (.bool b), p.2)
section
variable {ρ : DL.Env} {f : ED} {T : String}
@[simp] theorem e_isin : isinD f T ρ = kIsi (f ρ) T := rfl
theorem kit_self {a : String} : kitB a a = some true := by
  unfold kitB
  rw [if_pos]
  exact beq_self_eq_true _
theorem kit_ib : kitB "int" "bool" = some false := by decide +kernel
@[simp] theorem s_IsiT {ds : List PyData} : kIsi (some (.cl (.tuple ds), ρ)) "tuple" = some (.cl (.bool true), ρ) := by
  unfold kIsi
  simp only [Option.bind_some, tyVal, tyD, kit_self, Option.map_some]
@[simp] theorem s_IsiI {i : Int} : kIsi (some (.cl (.int i), ρ)) "int" = some (.cl (.bool true), ρ) := by
  unfold kIsi
  simp only [Option.bind_some, tyVal, tyD, kit_self, Option.map_some]
@[simp] theorem s_IsiB {i : Int} : kIsi (some (.cl (.int i), ρ)) "bool" = some (.cl (.bool false), ρ) := by
  unfold kIsi
  simp only [Option.bind_some, tyVal, tyD, kit_ib, Option.map_some]
def kSn (x : Option (List Val × DL.Env)) (i : Int) : Option (List Val × DL.Env) := x.map fun p => (p.1 ++ [.cl (.int i)], p.2)
@[simp] theorem e_snoc {t : AD} {i : Int} : tsnoc t i ρ = kSn (t ρ) i := rfl
@[simp] theorem s_Sn {rs : List Val} {i : Int} : kSn (some (rs, ρ)) i = some (rs ++ [.cl (.int i)], ρ) := rfl
end
end DL
end
namespace LW
open PySem L2 DL
theorem cut_upto {ds : List PyData} {k : Nat} : cutD ds none (some (k : Int)) = ds.take k := by
  unfold cutD
  rw [HT.sIx_none, HT.sIx_nat]
  by_cases h : k ≤ ds.length
  · rw [Nat.min_eq_left h]; simp
  · rw [Nat.min_eq_right (by omega), List.drop_zero, Nat.sub_zero, List.take_of_length_le (Nat.le_refl _), List.take_of_length_le (by omega)]
def plc (os : List Int) (n : Nat) (b : Nat → Bool) : List Int := ((List.range n).filter b).map (nth os)
section
variable {n F : Nat} {V : Nat → Int} {os : List Int} {T : Nat → Nat → Int}
theorem plc_all (K : Kn n F V os T) : plc os n (fun _ => true) = os := by
  unfold plc
  have e : (List.range n).filter (fun _ => true) = List.range n := List.filter_eq_self.mpr fun _ _ => rfl
  rw [e, ← K.len]
  exact range_get os 0
theorem cntB_not {b : Nat → Bool} : ∀ d, cntB b d + cntB (fun k => !b k) d = d
  | 0 => rfl
  | d + 1 => by
    rw [cntB_succ, cntB_succ]
    have := cntB_not (b := b) d
    cases h : b d <;> simp <;> omega
theorem plc_len {b : Nat → Bool} : (plc os n b).length = cntB b n := by unfold plc cntB; rw [List.length_map]
end
def wr (c : Bool) (l : List Int) : PyData := if c = true then .list (l.map .int) else .tuple (l.map .int)
def notIn (lots : List (List Int)) (x : Int) : Nat := (lots.filter fun l => !decide (x ∈ l)).length
theorem not_in_wr {ρ : DL.Env} {c : Bool} {l : List Int} {x : Int} {neg : Bool} : inG neg ρ (.cl (.int x)) (.cl (wr c l)) = some (.cl (.bool (neg ^^ decide (x ∈ l))), ρ) := by
  have : ∃ k, seqOf ρ (.cl (wr c l)) = some (k, l.map .int) := by
    cases c
    · exact ⟨false, rfl⟩
    · exact ⟨true, rfl⟩
  obtain ⟨k, e⟩ := this
  rw [e_in, f_int, s_In0, e, s_In1, f_ints]
  cases neg
  · rw [s_InI]; simp
  · rw [s_NiI]; simp
theorem of_lots_ok (n F : Nat) (V : Nat → Int) (c : Bool) (lots : List (List Int)) (hn : n < 1000) (hl : lots.length ≤ 1000) : F_state_of_lots [house n F V, .list (lots.map (wr c))] = some (.cl (.tuple (iv n fun x => (notIn lots ((x : Nat) : Int) : Nat)))) := by
  unfold F_state_of_lots g_state_of_lots house
  rw [e_runP]
  have h1 : (-1000000 : Int) ≤ n ∧ (n : Int) ≤ 1000000 := by omega
  simp [argE, h1.1, h1.2]
  rw [rng_gl, lc_gl (fun x => .int (notIn lots ((x : Nat) : Int) : Nat)) (by simp) (by omega) (by simp) (by
    intro x hx
    simp
    rw [lc_filL (fun l => !decide (((x : Nat) : Int) ∈ l)) (by simp) (by omega) (by simp) (by
      intro l hl2
      have e := fun ρ => not_in_wr (ρ := ρ) (c := c) (l := l) (x := ((x : Nat) : Int)) (neg := true)
      by_cases q : ((x : Nat) : Int) ∈ l
      · simp [-e_in, e, q]
      · simp [-e_in, e, q])]
    simp [notIn])]
  simp [iv, gl]
end LW
namespace LW
open PySem L2 DL
section
variable {n F : Nat} {V : Nat → Int} {os : List Int} {T : Nat → Nat → Int}
def wlL (os : List Int) (n : Nat) (T : Nat → Nat → Int) (b : Nat → Bool) (f : Nat) : List Int := (plc os n b).take (T f n).toNat ++ (plc os n fun k => !b k).take (max 0 (T f n - cntB b n)).toNat
end
end LW
namespace LW
open PySem L2 DL
end LW
namespace LW
open PySem L2 DL
end LW
namespace LW
open PySem L2 DL
end LW
namespace LW
open PySem L2 DL
end LW
namespace LW
open PySem L2 DL
end LW
namespace LW
open PySem L2 DL
end LW
namespace LW
open PySem L2 DL
end LW
namespace LW
open PySem L2 DL
end LW
namespace LW
open PySem L2 DL
end LW
namespace LW
open PySem L2 DL
end LW
namespace LW
open PySem L2 DL
end LW
noncomputable section
namespace DL
open PySem L2
end DL
namespace LW
open PySem L2 DL
end LW
end
namespace LW
open PySem L2 DL
end LW
noncomputable section
namespace DL
open PySem L2
section
variable {ρ ρ' : DL.Env} {n : Nat} {ds : List PyData}
def kZl (x : Option (List PyData × DL.Env)) : Option (Val × DL.Env) := x.bind fun p => if p.1.length ≤ lim then some (.own p.1, p.2) else none
@[simp] theorem e_zipL {t : AD} : zipLD t ρ = kZl (zipI t ρ) := rfl
@[simp] theorem s_Zl (h : ds.length ≤ 1000000) : kZl (some (ds, ρ)) = some (.own ds, ρ) := if_pos (by rw [lim_eq]; exact h)
def kH4 (o : Option (Val ⊕ Int)) (ρ : DL.Env) (m1 m2 : Str) : Option (Val × DL.Env) := o.bind fun o => match o with
  | .inl (.cl d) => some (.cl (.tuple [.str m1, d]), ρ)
  | .inl (.own ds) => some (.cl (.tuple [.str m1, .list ds]), ρ)
  | .inl (.sl _) => none
  | .inr i => some (.cl (.tuple [.str m2, .int i]), ρ)
def kH5 (x : Option (List PyData × DL.Env)) (n : Nat) (G : FE) (m1 m2 : Str) : Option (Val × DL.Env) := x.bind fun q => if q.1.length = n then kH4 (G q.1) q.2 m1 m2 else none
@[simp] theorem e_heard {G : FE} {t : AD} {m1 m2 : Str} : heardD n G t m1 m2 ρ = kH5 (kPs (t ρ)) n G m1 m2 := by
  unfold heardD kPs kH5 kH4
  cases t ρ with
  | none => rfl
  | some p => rfl
@[simp] theorem s_H5 {G : FE} {m1 m2 : Str} (h : ds.length = n) : kH5 (some (ds, ρ)) n G m1 m2 = kH4 (G ds) ρ m1 m2 := if_pos h
@[simp] theorem s_H4c {d : PyData} {m1 m2 : Str} : kH4 (some (.inl (.cl d))) ρ m1 m2 = some (.cl (.tuple [.str m1, d]), ρ) := rfl
@[simp] theorem s_H4o {m1 m2 : Str} : kH4 (some (.inl (.own ds))) ρ m1 m2 = some (.cl (.tuple [.str m1, .list ds]), ρ) := rfl
@[simp] theorem s_H4r {i : Int} {m1 m2 : Str} : kH4 (some (.inr i)) ρ m1 m2 = some (.cl (.tuple [.str m2, .int i]), ρ) := rfl
def kRz1 (x : Option (Out ⊕ Int)) : Option (Val ⊕ Int) := x.bind fun o => match o with
  | .inr i => some (.inr i)
  | .inl (.rt r ρ') => (retV ρ' r).map .inl
  | .inl (.nx _) => some (.inl (.cl .none))
  | _ => none
def kRz2 (x : Option Out) (h : SE) : Option (Out ⊕ Int) := x.bind fun o => match o with
  | .nx ρ' => h ρ'
  | o => some (.inl o)
def kRz4 (x : Option (Bool × DL.Env)) (g h : SE) : Option (Out ⊕ Int) := x.bind fun p => if p.1 = true then g p.2 else h p.2
def kRz5 (x : Option Out) : Option (Out ⊕ Int) := x.map .inl
def kRz6 (x : Option (Val × DL.Env)) : Option (Out ⊕ Int) := x.bind fun p => match p.1 with
  | .cl (.int i) => some (.inr i)
  | _ => none
@[simp] theorem e_seqE {g : SD} {h : SE} : seqE g h ρ = kRz2 (g ρ) h := rfl
@[simp] theorem e_ifE {c : TD} {g h : SE} : ifE c g h ρ = kRz4 (c ρ) g h := rfl
@[simp] theorem e_pureE {g : SD} : pureE g ρ = kRz5 (g ρ) := rfl
@[simp] theorem e_raiE {f : ED} : raiseE f ρ = kRz6 (f ρ) := rfl
@[simp] theorem s_Rz2 {h : SE} : kRz2 (some (.nx ρ)) h = h ρ := rfl
@[simp] theorem s_Rz4t {g h : SE} : kRz4 (some (true, ρ)) g h = g ρ := rfl
@[simp] theorem s_Rz4f {g h : SE} : kRz4 (some (false, ρ)) g h = h ρ := rfl
@[simp] theorem s_Rz5 {o : Out} : kRz5 (some o) = some (.inl o) := rfl
@[simp] theorem s_Rz6 {i : Int} : kRz6 (some (.cl (.int i), ρ)) = some (.inr i) := rfl
@[simp] theorem s_Rz1r {i : Int} : kRz1 (some (.inr i)) = some (.inr i) := rfl
@[simp] theorem s_Rz1c {d : PyData} : kRz1 (some (.inl (.rt (.cl d) ρ))) = some (.inl (.cl d)) := rfl
@[simp] theorem s_Rz1o : kRz1 (some (.inl (.rt (.own ds) ρ))) = some (.inl (.own ds)) := rfl
@[simp] theorem s_Rz1s {i : Nat} : kRz1 (some (.inl (.rt (.sl i) ρ))) = match ρ.getD i .no with
  | .op ds => some (.inl (.own ds))
  | .cl d => some (.inl (.cl d))
  | _ => none := by
  show (retV ρ (.sl i)).map _ = _
  unfold retV
  simp only
  cases ρ.getD i .no <;> rfl
def kRz7 (x : Option (List PyData × DL.Env)) (n : Nat) (G : FE) (y : Option Out) : Option (Out ⊕ Int) := x.bind fun q => if q.1.length = n then (G q.1).bind fun o => match o with
  | .inl _ => y.map .inl
  | .inr i => some (.inr i)
  else none
@[simp] theorem e_exC {G : FE} {t : AD} {g : SD} : exC n G t g ρ = kRz7 (kPs (t ρ)) n G (g ρ) := by
  unfold exC kPs kRz7
  cases t ρ with
  | none => rfl
  | some p => rfl
end
end DL
end
namespace LW
open PySem L2 DL
end LW
namespace LW
open PySem L2 DL
theorem fm_ints {os : List Int} {P : Int → Bool} : (List.range os.length).filterMap (fun k => if P (nth os k) = true then some (PyData.int (nth os k)) else none) = (os.filter P).map .int := by
  have e : os = (List.range os.length).map (nth os) := by
    apply List.ext_getElem?
    intro k
    by_cases hk : k < os.length
    · rw [List.getElem?_map, List.getElem?_range hk, List.getElem?_eq_getElem hk]
      unfold nth
      simp [List.getD, List.getElem?_eq_getElem hk]
    · rw [List.getElem?_eq_none (by omega), List.getElem?_eq_none (by rw [List.length_map, List.length_range]; omega)]
  have e2 : os.filter P = ((List.range os.length).filter fun k => P (nth os k)).map (nth os) := by
    conv => lhs; rw [e]
    rw [List.filter_map]
    rfl
  rw [e2, List.map_map]
  exact fm_filter (p := fun k => P (nth os k)) (u := fun k => PyData.int (nth os k))
theorem lc_ints {own : List Nat} {tg : GD} {tt : TD} {te : ED} {ρ : DL.Env} {os : List Int} (P : Int → Bool) (ho : own.all (fun i => !(ρ.getD i .no).isOpen) = true) (hn : os.length ≤ 1000000)
    (hr : restE (wipeE ρ own) ρ own = ρ) (hs : ∀ y, y ∈ os → lcItem own tg tt te (wipeE ρ own) (.int y) = some (if P y = true then some (.int y) else none, wipeE ρ own)) : lcGo own tg tt te (os.map .int) ρ = some (.own ((os.filter P).map .int), ρ) := by
  rw [iv_getD, ← fm_ints]
  exact lc_glf (n := os.length) (g := fun k => .int (nth os k)) (fun k => if P (nth os k) = true then some (.int (nth os k)) else none) ho hn hr fun k hk => hs _ (nth_mem hk)
end LW
namespace LW
open PySem L2 DL
end LW
namespace LW
open PySem L2 DL
end LW
namespace DL
open PySem L2
end DL
namespace LW
open PySem L2 DL
end LW
namespace LW
open PySem L2 DL
end LW
namespace LW
open PySem L2 DL
end LW
namespace LW
open PySem L2 DL
end LW
namespace LW
open PySem L2 DL
end LW
namespace LW
open PySem L2 DL
end LW
namespace LW
open PySem L2 DL
end LW
namespace LW
open PySem L2 DL
end LW
namespace LW
open PySem L2 DL
end LW
namespace LW
open PySem L2 DL
section
variable {n m F e g : Nat} {V : Nat → Int} {os : List Int} {T : Nat → Nat → Int}
def less (g f : Nat) : Nat := if g ≤ f then 1 else 0
end
end LW
namespace LW
open PySem L2 DL
abbrev Dl := List (Nat × Nat)
def tolK (D : Dl) (x : Nat) : Bool := D.any fun p => decide (p.1 = x)
structure Dok (n F : Nat) (D : Dl) : Prop where
  nd : (D.map (·.1)).Nodup
  rng : ∀ p ∈ D, p.1 < n ∧ p.2 ≤ F
theorem tolK_iff {D : Dl} {x : Nat} : tolK D x = true ↔ ∃ p ∈ D, p.1 = x := by
  unfold tolK
  rw [List.any_eq_true]
  exact ⟨fun ⟨p, h, e⟩ => ⟨p, h, of_decide_eq_true e⟩, fun ⟨p, h, e⟩ => ⟨p, h, decide_eq_true e⟩⟩
section
variable {n F : Nat} {V : Nat → Int} {os : List Int} {T : Nat → Nat → Int} {D : Dl}
/-- place k is that of a thing without told floor -/
def freeB (os : List Int) (D : Dl) (k : Nat) : Bool := !tolK D (nth os k).toNat
def nTol (D : Dl) (f : Nat) : Nat := (D.filter fun p => decide (p.2 ≤ f)).length
end
end LW
namespace DL
open PySem L2
@[simp] theorem e_keyI {j : Nat} {ρ : DL.Env} : keyI j ρ = match ρ.getD j .no with
  | .cl (.dict ds) => some (ds.map (·.1), ρ)
  | _ => none := rfl
@[simp] theorem e_in1 {neg : Bool} {ρ : DL.Env} {x y : Int} {d : PyData} : inDG neg ρ (.cl (.int y)) (.cl (.dict [(.int x, d)])) = some (.cl (.bool (neg ^^ decide (x = y))), ρ) := by
  unfold inDG
  simp only [keyOf, Option.map_some]
  unfold lookD
  have : isKey (.inl y) (.int x) = decide (x = y) := by
    unfold isKey
    rw [decide_eq_decide]
    exact ⟨fun z => by cases z; rfl, fun z => by rw [z]⟩
  rw [this]
  by_cases q : x = y
  · simp [q]
  · simp [q, lookD]
@[simp] theorem e_ix1 {ρ : DL.Env} {x : Int} {d : PyData} : ixDG ρ (.cl (.dict [(.int x, d)])) (.cl (.int x)) = some (.cl d, ρ) := by
  unfold ixDG
  simp only [keyOf, Option.bind_some]
  unfold lookD
  have : isKey (.inl x) (.int x) = true := by unfold isKey; exact decide_eq_true rfl
  rw [this]
  rfl
@[simp] theorem e_dicV {i j : Nat} {ρ : DL.Env} : dicV i j ρ = match ρ.getD i .no, ρ.getD j .no with
  | .cl d, .cl e => (keyOf d).map fun _ => (.cl (.dict [(d, e)]), ρ)
  | _, _ => none := rfl
end DL
namespace LW
open PySem L2 DL
theorem add_so {ρ : DL.Env} {j : Nat} {xs ys : List PyData} (h : ρ.getD j .no = .op xs) (hl : xs.length + ys.length ≤ 1000000) : addG ρ (.sl j) (.own ys) = some (.own (xs ++ ys), ρ) := by
  unfold addG
  simp only [seqOf, h]
  rw [if_pos (by rw [lim_eq]; exact hl)]
end LW
noncomputable section
namespace DL
open PySem L2
section
variable {ρ : DL.Env} {j : Nat} {fk fv : ED} {t : Bool} {ds ds' : List (PyData × PyData)} {d dk : PyData} {r : Val}
@[simp] theorem e_newT : newT j ρ = some (.nx (ρ.set j (.dk true []))) := rfl
@[simp] theorem e_newK : newK j ρ = some (.nx (ρ.set j (.dk false []))) := rfl
def kPu4 (x : Option (List (PyData × PyData))) (ρ : DL.Env) (j : Nat) (t : Bool) : Option Out := x.map fun ds' => .nx (ρ.set j (.dk t ds'))
def kPu3 (x : Option (PyData × DL.Env)) (dk : PyData) (j : Nat) : Option Out := x.bind fun s => match s.2.getD j .no with
  | .dk t ds => kPu4 (putP t ds dk s.1) s.2 j t
  | _ => none
def kPu2 (x : Option (Val × DL.Env)) (r : Val) (j : Nat) : Option Out := x.bind fun q => match q.1 with
  | .cl dk => kPu3 (psV q.2 r) dk j
  | _ => none
def kPu1 (x : Option (Val × DL.Env)) (fk : ED) (j : Nat) : Option Out := x.bind fun p => match p.2.getD j .no with
  | .dk _ _ => kPu2 (fk p.2) p.1 j
  | _ => none
@[simp] theorem e_putS : putS j fk fv ρ = kPu1 (fv ρ) fk j := by
  unfold putS kPu1
  cases fv ρ with
  | none => rfl
  | some p =>
    show (match p.2.getD j .no with | .dk _ _ => _ | _ => none) = (match p.2.getD j .no with | .dk _ _ => _ | _ => none)
    split
    · unfold kPu2
      cases fk p.2 with
      | none => rfl
      | some q =>
        show (match q.1 with | .cl dk => _ | _ => none) = (match q.1 with | .cl dk => _ | _ => none)
        split
        · unfold kPu3
          cases psV q.2 p.1 <;> rfl
        · rfl
    · rfl
@[simp] theorem s_Pu1 : kPu1 (some (r, ρ)) fk j = match ρ.getD j .no with
  | .dk _ _ => kPu2 (fk ρ) r j
  | _ => none := rfl
@[simp] theorem s_Pu2 : kPu2 (some (.cl dk, ρ)) r j = kPu3 (psV ρ r) dk j := rfl
@[simp] theorem s_Pu3 : kPu3 (some (d, ρ)) dk j = match ρ.getD j .no with
  | .dk t ds => kPu4 (putP t ds dk d) ρ j t
  | _ => none := rfl
@[simp] theorem s_Pu4 : kPu4 (some ds') ρ j t = some (.nx (ρ.set j (.dk t ds'))) := rfl
end
end DL
end
namespace LW
open PySem L2 DL
theorem Dok.len {n F : Nat} {D : Dl} (O : Dok n F D) : D.length ≤ n := by
  have p : (D.map (·.1)).Perm ((List.range n).filter fun x => tolK D x) := by
    refine (List.perm_ext_iff_of_nodup O.nd (List.nodup_range.sublist List.filter_sublist)).mpr fun x => ?_
    rw [List.mem_map, List.mem_filter, List.mem_range, tolK_iff]
    exact ⟨fun ⟨q, hq, e⟩ => ⟨by rw [← e]; exact (O.rng q hq).1, q, hq, e⟩, fun ⟨_, q, hq, e⟩ => ⟨q, hq, e⟩⟩
  have h1 := p.length_eq
  have h2 := List.length_filter_le (fun x => tolK D x) (List.range n)
  rw [List.length_map] at h1
  rw [List.length_range] at h2
  omega
section
variable {n F : Nat} {V : Nat → Int} {os : List Int} {T : Nat → Nat → Int} {D : Dl}
def freeL (n : Nat) (os : List Int) (D : Dl) : List Int := plc os n (freeB os D)
end
end LW
namespace LW
open PySem L2 DL
def lq (n F : Nat) (T : Nat → Nat → Int) (e q : Nat) : Bool := !(decide (0 < q) && decide (T (q - 1) (e + 1) = (e : Int) + 1)) && !(decide (q < F) && decide (T q n = endS n F T q))
end LW
namespace LW
open PySem L2 DL
end LW
namespace LW
open PySem L2 DL
section
variable {n F : Nat} {V : Nat → Int} {os : List Int} {T : Nat → Nat → Int} {D : Dl}
def needD (n : Nat) (T : Nat → Nat → Int) (D : Dl) (f : Nat) : Int := T f n - (nTol D f : Nat)
def beg (n : Nat) (T : Nat → Nat → Int) (D : Dl) : Nat → Int
  | 0 => 0
  | f + 1 => needD n T D f
def Chain (n F : Nat) (os : List Int) (T : Nat → Nat → Int) (D : Dl) (j : Nat) : Prop := ∀ f, f < j → beg n T D f ≤ needD n T D f ∧ needD n T D f ≤ ((freeL n os D).length : Nat)
theorem Chain.nonneg {j : Nat} (C : Chain n F os T D j) : ∀ f, f ≤ j → 0 ≤ beg n T D f
  | 0, _ => Int.le_refl _
  | f + 1, h => by
    have := C.nonneg f (by omega)
    have := (C f (by omega)).1
    show 0 ≤ needD n T D f
    omega
theorem Chain.up {j : Nat} (C : Chain n F os T D j) {f : Nat} : ∀ g, f ≤ g → g ≤ j → beg n T D f ≤ beg n T D g
  | 0, h, _ => by rw [show f = 0 by omega]; exact Int.le_refl _
  | g + 1, h, hg => by
    by_cases q : f ≤ g
    · have := C.up g q (by omega)
      have := (C g (by omega)).1
      show beg n T D f ≤ needD n T D g
      omega
    · rw [show f = g + 1 by omega]; exact Int.le_refl _
def LsEnd (v : PyData) (x : Option Val) : Prop := x = some (.cl v)
end
end LW
namespace LW
open PySem L2 DL
end LW
namespace LW
open PySem L2 DL
end LW
namespace LW
open PySem L2 DL
section
variable {n F : Nat} {V s : Nat → Int}
def othL (n : Nat) (s : Nat → Int) (x : Nat) (f : Nat) : List Nat := (List.range n).filter fun k => decide (s k = (f : Int)) && decide (k ≠ x)
end
end LW
namespace LW
open PySem L2 DL
end LW
namespace LW
open PySem L2 DL
end LW
namespace LW
open PySem L2 DL
end LW
namespace LW
open PySem L2 DL
end LW
namespace LW
open PySem L2 DL
end LW
namespace LW
open PySem L2 DL
section
variable {n F : Nat} {V s : Nat → Int} {x : Nat} {ds : List Nat}
def moveD (w : Str) (x : Nat) (ds : List Nat) : PyData := .tuple [.str w, .int (x : Nat), .tuple (nats ds)]
end
end LW
namespace DL
open PySem L2
section
variable {ρ : DL.Env} {tg : GD} {g h body : SE} {fi : ID} {d : PyData} {l ds : List PyData}
def kLe (x : Option (Out ⊕ Int)) (k : DL.Env → Option (Out ⊕ Int)) : Option (Out ⊕ Int) := x.bind fun o => match o with
  | .inl (.nx ρ2) => k ρ2
  | .inl (.ct ρ2) => k ρ2
  | .inl (.bk ρ2) => some (.inl (.nx ρ2))
  | .inl (.rt r ρ2) => some (.inl (.rt r ρ2))
  | .inr i => some (.inr i)
@[simp] theorem s_LeN {k : DL.Env → Option (Out ⊕ Int)} : kLe (some (.inl (.nx ρ))) k = k ρ := rfl
@[simp] theorem s_LeR {k : DL.Env → Option (Out ⊕ Int)} {i : Int} : kLe (some (.inr i)) k = some (.inr i) := rfl
/-- numbered from k on -/
def en : Nat → List PyData → List PyData
  | _, [] => []
  | k, d :: l => .tuple [.int (k : Nat), d] :: en (k + 1) l
end
end DL
namespace LW
open PySem L2 DL
end LW
namespace LW
open PySem L2 DL
end LW
namespace LW
open PySem L2 DL
end LW
namespace DL
open PySem L2
end DL
namespace LW
open PySem L2 DL
end LW
namespace LW
open PySem L2 DL
end LW
namespace DL
open PySem L2
end DL
namespace LW
open PySem L2 DL
end LW
namespace LW
open PySem L2 DL
end LW
namespace LW
open PySem L2 DL
end LW
namespace LW
open PySem L2 DL
structure Asked (n F : Nat) (V s s' : Nat → Int) (x L : Nat) (d : Nat → Nat) : Prop where
  le : L ≤ F
  full : ∀ f, f < L → ((othL n s x f).length : Int) = V f
  free : L < F → ((othL n s x L).length : Int) < V L
  down : ∀ f, f < L → d f < n ∧ d f ≠ x ∧ (s (d f) = (f : Int) ∨ (0 < f ∧ d f = d (f - 1)))
  top : s' x = 0
  moved : ∀ y, y < n → y ≠ x → ∀ f : Nat, f < F → (s' y ≤ (f : Int) ↔ s y ≤ (f : Int) ∧ ¬(f < L ∧ y = d f))
section
variable {n m F : Nat} {V s s' : Nat → Int} {os ys : List Int} {T : Nat → Nat → Int} {x g e L : Nat} {d : Nat → Nat}
theorem Asked.at (A : Asked n F V s s' x L d) : ∀ {f : Nat}, f < L → s (d f) ≤ (f : Int)
  | 0, h => by rcases (A.down 0 h).2.2 with z | z <;> omega
  | f + 1, h => by
    rcases (A.down (f + 1) h).2.2 with z | ⟨_, z⟩
    · omega
    · rw [z, Nat.add_sub_cancel]
      have := A.at (f := f) (by omega)
      omega
end
end LW
namespace LW
open PySem L2 DL
end LW
namespace LW
open PySem L2 DL
end LW
namespace LW
open PySem L2 DL
end LW
namespace LW
open PySem L2 DL
end LW
namespace LW
open PySem L2 DL
end LW
namespace LW
open PySem L2 DL
end LW
namespace LW
open PySem L2 DL
end LW
namespace LW
open PySem L2 DL
end LW
namespace LW
open PySem L2 DL
end LW
namespace LW
open PySem L2 DL
section
variable {n F : Nat} {V : Nat → Int} {os : List Int} {T : Nat → Nat → Int} {D : Dl}
theorem eq_slO {k : Bool} {ρ : DL.Env} {i : Nat} {xs : List PyData} (hc : ρ.getD i .no = .op xs) (h : Ok60 (.list xs)) : eqQ k ρ (.sl i) (.own xs) = some (.cl (.bool (k ^^ true)), ρ) := by
  have e2 : datOf ρ (.sl i) = some (.list xs) := by
    show (match ρ.getD i .no with
      | .op ds => some (PyData.list ds)
      | .pm ds => some (PyData.list ds)
      | .cl d => some d
      | _ => none) = _
    rw [hc]
  show eqG k ρ (.sl i) (.own xs) = _
  unfold eqG
  rw [e2]
  show (if SeqAt.shaped (.list xs) = true ∧ SeqAt.shaped (.list xs) = true then some (Val.cl (.bool (k ^^ PyData.eqv (.list xs) (.list xs))), ρ) else none) = _
  rw [if_pos ⟨shaped_of h, shaped_of h⟩, PySem.SeqAt.eqv_refl _ h.cl]
end
end LW
namespace LW
open PySem L2 DL
end LW
namespace LW
open PySem L2 DL
end LW
namespace DL
open PySem L2
end DL
namespace LW
open PySem L2 DL LV
end LW
namespace LW
open PySem L2 DL
end LW
namespace LW
open PySem L2 DL
end LW
namespace LW
open PySem L2 DL
section
variable {n F : Nat} {V : Nat → Int}
/-- knowledges and states, side by side -/
inductive Fitted (n F : Nat) (V : Nat → Int) : List PyData → List PyData → Prop
  | nil : Fitted n F V [] []
  | cons {os : List Int} {T : Nat → Nat → Int} {s : Nat → Int} {ks ss : List PyData} : Kn n F V os T → fitsB n F os T s = true → Rng n F s → Fitted n F V ks ss → Fitted n F V (knowD os F T :: ks) (.tuple (iv n s) :: ss)
theorem Fitted.len {ks ss : List PyData} (h : Fitted n F V ks ss) : ks.length = ss.length := by
  induction h with
  | nil => rfl
  | cons _ _ _ _ ih => rw [List.length_cons, List.length_cons, ih]
theorem Fitted.get {ks ss : List PyData} (h : Fitted n F V ks ss) : ∀ {i : Nat}, i < ks.length → ∃ os T s, ks[i]? = some (knowD os F T) ∧ ss[i]? = some (.tuple (iv n s)) ∧ Kn n F V os T ∧ fitsB n F os T s = true ∧ Rng n F s := by
  induction h with
  | nil => intro i hi; exact absurd hi (Nat.not_lt_zero i)
  | @cons os T s ks ss a b c _ ih =>
    intro i hi
    cases i with
    | zero => exact ⟨os, T, s, rfl, rfl, a, b, c⟩
    | succ i => exact ih (i := i) (by simpa using hi)
end
end LW
namespace LW
open PySem L2 DL
end LW
namespace LW
open PySem L2 DL
end LW
namespace LW
open PySem L2 DL
end LW
namespace LW
open PySem L2 DL
end LW
namespace LW
open PySem L2 DL
section
variable {n F : Nat} {V : Nat → Int}
def SzMade (n F : Nat) (V S : Nat → Int) (x : Option (Val × List PyData)) : Prop := ∃ os T B', x = some (.cl (knowD os F T), Bag.toD B') ∧ Kn n F V os T ∧ ∀ f, f < F → T f n = S f
def SzI (h sz od : PyData) (n : Nat) (i : Nat) (ρ : DL.Env) : Prop := ∃ (R : Nat → Nat → Int) (B' : Bag) (c5 c7 : Cell), c7.isOpen = false ∧ ρ = [.pm (Bag.toD B'), .cl h, .cl sz, .cl od, .op (rowsT i (n + 1) R), c5, .no, c7]
theorem of_sizes_ok (B : Bag) (hn : n ≤ 16) (hF0 : 1 ≤ F) (hF : F ≤ 4) {S : Nat → Int} (h1 : ∀ f, f < F → prev S f ≤ S f) (h2 : ∀ f, f < F → 0 ≤ S f ∧ S f ≤ n) (h5 : ∀ f, f < F → S f - prev S f ≤ V f) : SzMade n F V S (F__law_of_sizes B.toD [house n F V, .tuple (iv F S)]) := by
  obtain ⟨ds, B1, em, hp⟩ := mixed_perm B (rngD 0 n 1) (by rw [rngD_len]; omega)
  rw [rng_upto] at hp
  obtain ⟨os, rfl, ho⟩ := perm_ints hp
  have hh : house n F V = .tuple [.int n, .tuple (iv F V)] := rfl
  have hn3 : (-1000000 : Int) ≤ n ∧ (n : Int) ≤ 1000000 := by omega
  have hn4 : (-1000000 : Int) ≤ n + 1 ∧ (n : Int) + 1 ≤ 1000000 := by omega
  have hlo : os.length = n := by rw [ho.length_eq, upto_len]
  have made : ∀ {R : Nat → Nat → Int}, good F n (tight F n R S) S = true → Kn n F V os (tight F n R S) ∧ ∀ f, f < F → tight F n R S f n = S f := fun {R} hg => by
    have T := tight_Tight hg
    refine ⟨⟨ho, ⟨T.word, T.first, fun _ _ => rfl, T.up, fun f hf k hk => ?_⟩, fun h => ?_, fun f hf => ?_⟩, fun f hf => T.last f hf⟩
    · rw [T.last f (by omega), T.last (f + 1) hf]; exact T.down f hf k hk
    · rw [T.last 0 h]
      have := h5 0 h
      have e : prev S 0 = 0 := rfl
      omega
    · rw [T.last f (by omega), T.last (f + 1) hf]
      have := h5 (f + 1) hf
      have e : prev S (f + 1) = S f := rfl
      omega
  unfold F__law_of_sizes g__law_of_sizes
  rw [e_runM, hh]
  simp [argM, em, hn3.1, hn3.2]
  refine use_loop (P := fun x => SzMade n F V S (kM (kSq x _))) (SzI (.tuple [.int n, .tuple (iv F V)]) (.tuple (iv F S)) (.tuple (os.map .int)) n) ?_ ?_ ?_
  · exact ⟨fun _ _ => 0, B1, .no, .no, rfl, by simp [rowsT, gl]⟩
  · rintro i d ρ hd ⟨R, B2, c5, c7, o7, rfl⟩
    obtain ⟨hi, rfl⟩ := iv_get' hd
    simp [hn4.1, hn4.2, o7]
    refine use_lc (P := fun x => Turns _ (kD (kE1 (kC1 (kK (kC1 x _) _) _) _ _))) (FitI [.cl (.tuple [.int n, .tuple (iv F V)]), .cl (.tuple (iv F S)), .cl (.tuple (os.map .int)), .op (rowsT i (n + 1) R), .cl (.int (S i)), .no, .no]) (by rw [rngD_len]; omega) (by simp [o7]) ?_ ?_ ?_
    · exact ⟨fun _ => 0, B2, rfl, by simp⟩
    · rintro j d acc ρ hd ⟨w, B3, rfl, rfl⟩
      obtain ⟨hj, rfl⟩ := rng_get hd
      obtain ⟨u, B4, eu, u0, u1⟩ := take_ok B3 (j + 1) (by omega) (by omega)
      obtain ⟨v, B5, ev, v0, v1⟩ := take_ok B4 3 (by omega) (by omega)
      have fin : ∀ (z : Int) (B9 : Bag), FitI [.cl (.tuple [.int n, .tuple (iv F V)]), .cl (.tuple (iv F S)), .cl (.tuple (os.map .int)), .op (rowsT i (n + 1) R), .cl (.int (S i)), .no, .no] (j + 1) (iv j w ++ [.int z]) [.pm (Bag.toD B9), .cl (.tuple [.int n, .tuple (iv F V)]), .cl (.tuple (iv F S)), .cl (.tuple (os.map .int)), .op (rowsT i (n + 1) R), .cl (.int (S i)), .no, .no] := fun z B9 => by
        refine ⟨put w j z, B9, ?_, rfl⟩
        rw [iv_succ, put_same, iv_congr (w := put w j z) (v := w) fun k hk => put_ne (by omega)]
      have hm : ∀ (ρ : DL.Env) (a : Int), mulG ρ (.cl (.int a)) (.cl (.int (if v = 0 then 1 else 0))) = some (.cl (.int (a * (if v = 0 then 1 else 0))), ρ) := fun ρ a => if_pos (.inr (.inr (by split <;> decide)))
      simp [eu, ev, hm]
      exact items_some (fin _ _)
    · rintro acc ρ ⟨w, B3, rfl, rfl⟩
      rw [rngD_len]
      have el : (rowsT i (n + 1) R).length = i := gl_len
      have hi3 : i < 1000000 := by omega
      simp [el, hi3]
      have e1 : rowsT (i + 1) (n + 1) (fun f => if f = i then w else R f) = rowsT i (n + 1) R ++ [.tuple (iv (n + 1) w)] := by
        unfold rowsT
        rw [gl_succ]
        congr 1
        · apply gl_congr
          intro f hf
          simp [show f ≠ i by omega]
        · simp
      exact turns_nx ⟨fun f => if f = i then w else R f, B3, .cl (.int (S i)), c7, o7, by rw [e1]⟩
  · intro ρ' h
    rw [iv_len] at h
    obtain ⟨R, B3, c5, c7, o7, rfl⟩ := h
    have e := ltightened_ok F n hF0 (by omega) (by omega) R S
    rw [← told_ltold] at e
    have hF4 : (-1000 : Int) ≤ F ∧ (F : Int) ≤ 1000 := by omega
    have hn5 : (-1000 : Int) ≤ n + 1 ∧ (n : Int) + 1 ≤ 1000 := by omega
    have hg0 := zero_good F n (asc_prev h1) h2
    have e0 := ltightened_ok F n hF0 (by omega) (by omega) (fun _ _ => 0) S
    have er : rowsT F (n + 1) (fun _ _ => 0) = List.replicate F (.tuple (List.replicate (n + 1) (.int 0))) := by
      simp [rowsT, gl, iv, List.map_const']
    rw [er, ← told_ltold, told, if_pos hg0] at e0
    by_cases hg : good F n (tight F n R S) S = true
    · rw [told, if_pos hg] at e
      simp [e]
      obtain ⟨K, hz⟩ := made hg
      exact ⟨os, _, B3, by unfold knowD; rw [hlo], K, hz⟩
    · rw [told, if_neg hg] at e
      simp [e, e0, hF4.1, hF4.2, hn5.1, hn5.2]
      obtain ⟨K, hz⟩ := made hg0
      exact ⟨os, _, B3, by unfold knowD; rw [hlo], K, hz⟩
end
end LW
namespace LW
open PySem L2 DL
section
variable {n F : Nat} {V : Nat → Int} {os : List Int} {T : Nat → Nat → Int}
/-- what the law makes tight of any rows with the same sizes -/
theorem kn_tight {R : Nat → Nat → Int} (K : Kn n F V os T) (h : asc F (fun f => T f n) = true ∧ lgood F n (ltight F n R fun f => T f n) (fun f => T f n) = true) :
    Kn n F V os (ltight F n R fun f => T f n) ∧ ∀ f, f < F → ltight F n R (fun f => T f n) f n = T f n := by
  have TT := ltight_Tight h
  refine ⟨⟨K.perm, ⟨TT.word, TT.first, fun _ _ => rfl, TT.up, fun f hf k hk => ?_⟩, fun h0 => ?_, fun f hf => ?_⟩, fun f hf => TT.last f hf⟩
  · rw [TT.last f (by omega), TT.last (f + 1) hf]; exact TT.down f hf k hk
  · rw [TT.last 0 h0]; exact K.room h0
  · rw [TT.last f (by omega), TT.last (f + 1) hf]; exact K.next f hf
def rwL (F n : Nat) (T : Nat → Nat → Int) : List (List Int) := (List.range F).map fun f => (List.range (n + 1)).map (T f)
theorem rowsOf_map {rs : List (List Int)} : rowsOf (rs.map fun r => .tuple (r.map .int)) = some rs := by
  induction rs with
  | nil => rfl
  | cons r rs ih =>
    rw [List.map_cons]
    unfold rowsOf
    rw [intsOf_map, ih]
    rfl
theorem rowsT_map : rowsT F (n + 1) T = (rwL F n T).map fun r => .tuple (r.map .int) := by
  unfold rowsT gl rwL iv
  rw [List.map_map]
  apply List.map_congr_left
  intro f _
  show _ = PyData.tuple (((List.range (n + 1)).map (T f)).map .int)
  rw [List.map_map]
  rfl
/-- F rows of n + 1 numbers -/
def Shape (F n : Nat) (rs : List (List Int)) : Prop := rs.length = F ∧ ∀ r ∈ rs, r.length = n + 1
theorem shape_rows : Shape F n (rwL F n T) := by
  refine ⟨by simp [rwL], fun r hr => ?_⟩
  obtain ⟨f, _, rfl⟩ := List.mem_map.mp hr
  simp
theorem shape_T {rs : List (List Int)} (h : Shape F n rs) : ∃ R : Nat → Nat → Int, (rs.map fun r => PyData.tuple (r.map .int)) = rowsT F (n + 1) R := by
  refine ⟨fun f k => (rs.getD f []).getD k 0, ?_⟩
  rw [rowsT_map]
  congr 1
  apply List.ext_getElem?
  intro f
  unfold rwL
  rw [List.getElem?_map]
  by_cases hf : f < F
  · have h1 : f < rs.length := by rw [h.1]; exact hf
    rw [List.getElem?_eq_getElem h1, List.getElem?_range hf]
    show some rs[f] = some _
    congr 1
    have e : rs.getD f [] = rs[f] := by rw [List.getD_eq_getElem?_getD, List.getElem?_eq_getElem h1]; rfl
    have hl := h.2 rs[f] (List.getElem_mem h1)
    show rs[f] = (List.range (n + 1)).map fun k => (rs.getD f []).getD k 0
    rw [e, ← hl]
    exact (range_get rs[f] 0).symm
  · rw [List.getElem?_eq_none (by rw [h.1]; omega), List.getElem?_eq_none (by simpa using hf)]
    rfl
theorem bump_ok (hF : 0 < F) (hF2 : F < 1000) (hn : n < 1000) : ∀ (t : Nat) (B : Bag) (rs : List (List Int)), Shape F n rs → ∃ B' rs', bumpN F__law_take t (Bag.toD B, rs) = some (Bag.toD B', rs') ∧ Shape F n rs'
  | 0, B, rs, h => ⟨B, rs, rfl, h⟩
  | t + 1, B, rs, h => by
    obtain ⟨B1, r1, e1, s1⟩ := bump_ok hF hF2 hn t B rs h
    obtain ⟨k, B2, e2, k0, k1⟩ := take_ok B1 ((r1.length : Nat) : Int) (by rw [s1.1]; omega) (by rw [s1.1]; omega)
    have hk : k.toNat < r1.length := by omega
    have er : r1.getD k.toNat [] = r1[k.toNat] := by rw [List.getD_eq_getElem?_getD, List.getElem?_eq_getElem hk]; rfl
    have hl := s1.2 r1[k.toNat] (List.getElem_mem hk)
    obtain ⟨i, B3, e3, i0, i1⟩ := take_ok B2 ((r1[k.toNat].length : Nat) : Int) (by rw [hl]; omega) (by rw [hl]; omega)
    have hi : i.toNat < r1[k.toNat].length := by omega
    refine ⟨B3, r1.set k.toNat (r1[k.toNat].set i.toNat (r1[k.toNat].getD i.toNat 0 + 1)), ?_, by rw [List.length_set]; exact s1.1, fun r hr => ?_⟩
    · show (bumpN F__law_take t (Bag.toD B, rs)).bind (bump1 F__law_take) = _
      rw [e1]
      show bump1 F__law_take (Bag.toD B1, r1) = _
      unfold bump1
      simp only [e2, er, e3]
      rw [if_pos ⟨k0, hk⟩, if_pos ⟨i0, hi⟩]
    · rcases List.mem_or_eq_of_mem_set hr with z | z
      · exact s1.2 r z
      · rw [z, List.length_set]; exact hl
def ShMade (n F : Nat) (V : Nat → Int) (os : List Int) (S : Nat → Int) (x : Option (Val × List PyData)) : Prop := ∃ T' B', x = some (.cl (knowD os F T'), Bag.toD B') ∧ Kn n F V os T' ∧ ∀ f, f < F → T' f n = S f
theorem sharper_ok (B : Bag) (K : Kn n F V os T) (hn : n ≤ 16) (hF0 : 1 ≤ F) (hF : F ≤ 4) : ShMade n F V os (fun f => T f n) (LT.F__law_sharper B.toD [knowD os F T]) := by
  have ek : knowD os F T = .tuple [.tuple (os.map .int), .tuple (rowsT F (n + 1) T)] := by unfold knowD; rw [K.len]
  have hk := sizes_of n F (by omega) T (.tuple (os.map .int))
  obtain ⟨d, B1, hd, e1⟩ := one_ok B [.int 1, .int 1, .int 2] (by simp) (by simp)
  obtain ⟨t, rfl, ht⟩ : ∃ t : Nat, d = .int t ∧ t ≤ 2 := by
    simp only [List.mem_cons, List.not_mem_nil, or_false] at hd
    rcases hd with rfl | rfl | rfl
    · exact ⟨1, rfl, by omega⟩
    · exact ⟨1, rfl, by omega⟩
    · exact ⟨2, rfl, by omega⟩
  obtain ⟨B2, rs, e2, s2⟩ := bump_ok (n := n) (F := F) (by omega) (by omega) (by omega) t B1 (rwL F n T) shape_rows
  obtain ⟨R, eR⟩ := shape_T s2
  have lt := ltightened_ok F n (by omega) (by omega) (by omega) R fun f => T f n
  have ht2 : (-1000000 : Int) ≤ t ∧ (t : Int) ≤ 1000000 := by omega
  have er : rowsOf (rowsT F (n + 1) T) = some (rwL F n T) := by rw [rowsT_map, rowsOf_map]
  have hl : (rwL F n T).length ≤ 1000 := by rw [shape_rows.1]; omega
  have hfi : rng1I (acons (callM 0 1 F__law_one (acons (lstD (acons (conD (.int 1)) (acons (conD (.int 1)) (acons (conD (.int 2)) anil)))) anil)) anil) [.pm (Bag.toD B), .cl (.tuple [.tuple (os.map .int), .tuple (rowsT F (n + 1) T)]), .no, .no, .no, .no, .no, .no] =
      some (rngD 0 t 1, [.pm (Bag.toD B1), .cl (.tuple [.tuple (os.map .int), .tuple (rowsT F (n + 1) T)]), .no, .no, .no, .no, .no, .no]) := by
    simp [e1, ht2.1, ht2.2]
  have hs : sharpD (binD (varD 1) (conD (.int 1)) ixG) (rng1I (acons (callM 0 1 F__law_one (acons (lstD (acons (conD (.int 1)) (acons (conD (.int 1)) (acons (conD (.int 2)) anil)))) anil)) anil)) (callP 1 F_known_sizes (acons (varD 1) anil)) F__law_take F__law_tightened
      [.pm (Bag.toD B), .cl (.tuple [.tuple (os.map .int), .tuple (rowsT F (n + 1) T)]), .no, .no, .no, .no, .no, .no] =
      some (.nx [.pm (Bag.toD B2), .cl (.tuple [.tuple (os.map .int), .tuple (rowsT F (n + 1) T)]), .no, .no, .no, .no, .cl (ltold F n R fun f => T f n), .no]) := by
    unfold sharpD
    rw [if_pos (show 7 < _ from by show 7 < 8; omega)]
    unfold sharpS
    rw [if_pos (show noAt _ [2, 3, 4, 5] = true from rfl)]
    have h1 : binD (varD 1) (conD (.int 1)) ixG [.pm (Bag.toD B), .cl (.tuple [.tuple (os.map .int), .tuple (rowsT F (n + 1) T)]), .no, .no, .no, .no, .no, .no] = some (.cl (.tuple (rowsT F (n + 1) T)), [.pm (Bag.toD B), .cl (.tuple [.tuple (os.map .int), .tuple (rowsT F (n + 1) T)]), .no, .no, .no, .no, .no, .no]) := by simp
    rw [h1]
    simp only [er, Option.bind_some]
    rw [if_pos ⟨hl, (show noAt _ [2, 3, 4, 5] = true from rfl)⟩, hfi]
    simp only [Option.bind_some]
    show (if noAt _ [2, 3, 4, 5] = true then _ else none) = _
    rw [if_pos (show noAt _ [2, 3, 4, 5] = true from rfl), rngD_len, e2]
    simp only [Option.bind_some]
    have h2 : callP 1 F_known_sizes (acons (varD 1) anil) [.pm (Bag.toD B2), .cl (.tuple [.tuple (os.map .int), .tuple (rowsT F (n + 1) T)]), .no, .no, .no, .no, .no, .no] = some (.cl (.tuple (iv F fun f => T f n)), [.pm (Bag.toD B2), .cl (.tuple [.tuple (os.map .int), .tuple (rowsT F (n + 1) T)]), .no, .no, .no, .no, .no, .no]) := by simp [hk]
    show (match callP 1 F_known_sizes (acons (varD 1) anil) [.pm (Bag.toD B2), .cl (.tuple [.tuple (os.map .int), .tuple (rowsT F (n + 1) T)]), .no, .no, .no, .no, .no, .no] with
      | some (.cl z, ρ5) => _
      | _ => none) = _
    rw [h2]
    simp only
    rw [if_pos (show noAt _ [2, 3, 4, 5] = true from rfl), eR, lt]
    rfl
  unfold LT.F__law_sharper LT.g__law_sharper
  rw [e_runM, ek]
  simp only [argM]
  simp [hs]
  unfold ltold
  split
  · rename_i hg
    obtain ⟨K2, hz⟩ := kn_tight K hg
    have ek2 : knowD os F (ltight F n R fun f => T f n) = .tuple [.tuple (os.map .int), .tuple (rowsT F (n + 1) (ltight F n R fun f => T f n))] := by unfold knowD; rw [K.len]
    refine ⟨_, B2, ?_, K2, hz⟩
    rw [ek2]
    simp
  · refine ⟨T, B2, ?_, K, fun _ _ => rfl⟩
    rw [ek]
    simp
end
end LW
namespace LW
open PySem L2 DL
def maxT (T U : Nat → Nat → Int) : Nat → Nat → Int := fun f k => max (T f k) (U f k)
section
variable {n F : Nat} {V : Nat → Int} {os : List Int} {T U : Nat → Nat → Int}
theorem maxT_comm : maxT T U = maxT U T := by
  funext f k
  exact Int.max_comm _ _
theorem kn_max (K : Kn n F V os T) (K2 : Kn n F V os U) (hs : ∀ f, f < F → U f n = T f n) : Kn n F V os (maxT T U) ∧ ∀ f, f < F → maxT T U f n = T f n := by
  have e : ∀ f, f < F → maxT T U f n = T f n := fun f hf => by
    have := hs f hf
    unfold maxT
    omega
  refine ⟨⟨K.perm, ⟨fun f hf => ⟨fun k hk => ?_, fun k hk => ?_⟩, fun f hf => ?_, fun f hf => rfl, fun f hf k hk => ?_, fun f hf k hk => ?_⟩, fun h0 => ?_, fun f hf => ?_⟩, e⟩
  · have := (K.tight.word f hf).mono k hk
    have := (K2.tight.word f hf).mono k hk
    unfold maxT
    omega
  · have := (K.tight.word f hf).step k hk
    have := (K2.tight.word f hf).step k hk
    unfold maxT
    omega
  · have := K.tight.first f hf
    have := K2.tight.first f hf
    unfold maxT
    omega
  · have := K.tight.up f hf k hk
    have := K2.tight.up f hf k hk
    unfold maxT
    omega
  · have h1 := K.tight.down f hf k hk
    have h2 := K2.tight.down f hf k hk
    have := hs f (by omega)
    have := hs (f + 1) hf
    simp only [e f (by omega), e (f + 1) hf]
    unfold maxT
    omega
  · rw [e 0 h0]; exact K.room h0
  · rw [e f (by omega), e (f + 1) hf]; exact K.next f hf
theorem rowsT_cong2 {m : Nat} (h : ∀ f, f < F → ∀ k, k < m → T f k = U f k) : rowsT F m T = rowsT F m U := by
  unfold rowsT gl
  apply List.map_congr_left
  intro f hf
  have hf := List.mem_range.mp hf
  congr 1
  unfold iv
  apply List.map_congr_left
  intro k hk
  rw [h f hf k (List.mem_range.mp hk)]
theorem ltold_kn (K : Kn n F V os T) {S : Nat → Int} (hS : ∀ f, f < F → S f = T f n) : ltold F n T S = .tuple (rowsT F (n + 1) T) := by
  have TT : Tight F n T S := ⟨K.tight.word, K.tight.first, fun f hf => (hS f hf).symm, K.tight.up, fun f hf k hk => by rw [hS f (by omega), hS (f + 1) hf]; exact K.tight.down f hf k hk⟩
  have e : ∀ f, f < F → ∀ k, k ≤ n → ltight F n T S f k = T f k := fun f hf k hk => by rw [← tight_ltight F n T S hf k]; exact TT.tight hf hk
  have h1 : asc F S = true := by
    unfold asc
    refine List.all_eq_true.mpr fun f hf => decide_eq_true ?_
    have hf := List.mem_range.mp hf
    cases f with
    | zero =>
      rw [hS 0 hf]
      have := K.bound hf (Nat.le_refl n)
      show (0 : Int) ≤ _
      omega
    | succ f =>
      show S f ≤ S (f + 1)
      rw [hS f (by omega), hS (f + 1) hf]
      exact K.tight.up f hf n (Nat.le_refl n)
  have h2 : lgood F n (ltight F n T S) S = true := by
    unfold lgood
    refine List.all_eq_true.mpr fun f hf => ?_
    have hf := List.mem_range.mp hf
    unfold lok
    refine List.all_eq_true.mpr fun k hk => ?_
    have hk := List.mem_range.mp hk
    rw [e f hf k (by omega), hS f hf]
    have := K.bound hf (show k ≤ n by omega)
    have : ¬ min (k : Int) (T f n) < T f k := by omega
    rw [decide_eq_false this]
    rfl
  unfold ltold
  rw [if_pos ⟨h1, h2⟩, rowsT_cong2 fun f hf k hk => e f hf k (by omega)]
theorem max_fits (hs : ∀ f, f < F → U f n = T f n) {s : Nat → Int} : (fitsB n F os T s && fitsB n F os U s) = fitsB n F os (maxT T U) s := by
  rw [Bool.eq_iff_iff, Bool.and_eq_true, fits_iff, fits_iff, fits_iff]
  constructor
  · rintro ⟨⟨a1, a2⟩, b1, b2⟩
    refine ⟨fun f hf => ?_, fun f hf k hk => ?_⟩
    · have := a1 f hf
      have := b1 f hf
      unfold maxT
      omega
    · have := a2 f hf k hk
      have := b2 f hf k hk
      unfold maxT
      omega
  · rintro ⟨a1, a2⟩
    unfold maxT at a1 a2
    refine ⟨⟨fun f hf => ?_, fun f hf k hk => ?_⟩, fun f hf => ?_, fun f hf k hk => ?_⟩
    · have := a1 f hf
      have := hs f hf
      omega
    · have := a2 f hf k hk
      omega
    · have := a1 f hf
      have := hs f hf
      omega
    · have := a2 f hf k hk
      omega
theorem joint_ok (K : Kn n F V os T) (K2 : Kn n F V os U) (hn : n ≤ 16) (hF : F ≤ 4) : F_joint [house n F V, knowD os F T, knowD os F U] = some (.cl (knowD os F (maxT T U))) := by
  have ek : ∀ W : Nat → Nat → Int, knowD os F W = .tuple [.tuple (os.map .int), .tuple (rowsT F (n + 1) W)] := fun W => by unfold knowD; rw [K.len]
  unfold F_joint g_joint
  rw [e_runP, ek, ek, ek]
  simp [argE]
  rw [show zipD (rowsT F (n + 1) T) (rowsT F (n + 1) U) = gl F fun f => .tuple [.tuple (iv (n + 1) (T f)), .tuple (iv (n + 1) (U f))] from gl_zip]
  rw [lc_gl (fun f => .tuple (iv (n + 1) (maxT T U f))) (by simp) (by omega) (by simp) (by
    intro f hf
    have g := greater_ones_ok (n + 1) (by omega) (T f) (U f) (x := .tuple (iv (n + 1) (T f))) (y := .tuple (iv (n + 1) (U f))) rfl rfl
    simp [g]
    rfl)]
  simp
  rfl
def chos (os l : List Int) (k : Nat) : Bool := decide (nth os k ∈ l)
def togB (n : Nat) (w : Nat → Int) (os l : List Int) : Bool := (List.range n).all fun p => decide (((cntB (chos os l) n : Nat) : Int) - (cntB (chos os l) p : Nat) ≤ w n - w p)
theorem togB_iff {w : Nat → Int} {l : List Int} : togB n w os l = true ↔ ∀ p, p < n → ((cntB (chos os l) n : Nat) : Int) - (cntB (chos os l) p : Nat) ≤ w n - w p := by
  unfold togB
  rw [List.all_eq_true]
  exact ⟨fun h p hp => of_decide_eq_true (h p (List.mem_range.mpr hp)), fun h p hp => decide_eq_true (h p (List.mem_range.mp hp))⟩
theorem cnt_late {a b : Nat → Bool} (h : ∀ k, a k = true → b k = true) {p : Nat} : ∀ q, p ≤ q → cntB a q - cntB a p ≤ cntB b q - cntB b p ∧ cntB a p ≤ cntB a q ∧ cntB b p ≤ cntB b q
  | 0, hq => by rw [show p = 0 by omega]; simp
  | q + 1, hq => by
    by_cases e : p = q + 1
    · subst e; omega
    · have ih := cnt_late h (p := p) q (by omega)
      rw [cntB_succ, cntB_succ]
      have := h q
      cases ha : a q with
      | true => rw [this ha]; simp; omega
      | false => cases b q <;> simp <;> omega
theorem tog_anti {w : Nat → Int} {l m : List Int} (h : ∀ x ∈ l, x ∈ m) (t : togB n w os m = true) : togB n w os l = true := by
  rw [togB_iff] at *
  intro p hp
  have := t p hp
  have := cnt_late (a := chos os l) (b := chos os m) (fun k hk => decide_eq_true (h _ (of_decide_eq_true hk))) (p := p) n (by omega)
  omega
def grd (n : Nat) (w : Nat → Int) (os : List Int) : List Int → List Int → List Int
  | acc, [] => acc
  | acc, y :: ys => if togB n w os (acc ++ [y]) = true then grd n w os (acc ++ [y]) ys else grd n w os acc ys
theorem grd_spec {w : Nat → Int} : ∀ (ys acc : List Int), togB n w os acc = true →
    (∀ x ∈ acc, x ∈ grd n w os acc ys) ∧ togB n w os (grd n w os acc ys) = true ∧ (∀ y ∈ ys, y ∈ grd n w os acc ys ∨ togB n w os (grd n w os acc ys ++ [y]) = false) ∧ ∀ x ∈ grd n w os acc ys, x ∈ acc ∨ x ∈ ys
  | [], acc, h => ⟨fun x hx => hx, h, fun y hy => (nomatch hy), fun x hx => .inl hx⟩
  | y :: ys, acc, h => by
    unfold grd
    by_cases q : togB n w os (acc ++ [y]) = true
    · rw [if_pos q]
      obtain ⟨a, b, c, d⟩ := grd_spec ys (acc ++ [y]) q
      refine ⟨fun x hx => a x (List.mem_append_left _ hx), b, fun z hz => ?_, fun x hx => ?_⟩
      · rcases List.mem_cons.mp hz with e | e
        · exact .inl (a z (List.mem_append_right _ (by simp [e])))
        · exact c z e
      · rcases d x hx with e | e
        · rcases List.mem_append.mp e with e | e
          · exact .inl e
          · exact .inr (List.mem_cons.mpr (.inl (by simpa using e)))
        · exact .inr (List.mem_cons_of_mem _ e)
    · rw [if_neg q]
      obtain ⟨a, b, c, d⟩ := grd_spec ys acc h
      refine ⟨a, b, fun z hz => ?_, fun x hx => ?_⟩
      · rcases List.mem_cons.mp hz with e | e
        · right
          cases t : togB n w os (grd n w os acc ys ++ [z]) with
          | false => rfl
          | true =>
            refine absurd (tog_anti (fun x hx => ?_) t) q
            rcases List.mem_append.mp hx with g | g
            · exact List.mem_append_left _ (a x g)
            · exact List.mem_append_right _ (by rw [e]; exact g)
        · exact c z e
      · rcases d x hx with e | e
        · exact .inl e
        · exact .inr (List.mem_cons_of_mem _ e)
/-- nothing more can be chosen: then as many are chosen as the word ends with -/
theorem full_of (K : Kn n F V os T) {f : Nat} (hf : f < F) {l : List Int} (h : togB n (T f) os l = true) (hm : ∀ k, k < n → nth os k ∈ l ∨ togB n (T f) os (l ++ [nth os k]) = false) : T f n ≤ (cntB (chos os l) n : Nat) := by
  rw [togB_iff] at h
  have all : ∀ q, q ≤ n → (∀ p, p < q → chos os l p = true) ∨ T f n ≤ (cntB (chos os l) n : Nat) := fun q => by
    induction q with
    | zero => exact fun _ => .inl fun p hp => absurd hp (by omega)
    | succ q ih =>
      intro hq
      rcases ih (by omega) with a | a
      · rcases hm q (by omega) with c | c
        · left
          intro p hp
          by_cases e : p = q
          · subst e; exact decide_eq_true c
          · exact a p (by omega)
        · right
          have hn : ¬ ∀ p, p < n → ((cntB (chos os (l ++ [nth os q])) n : Nat) : Int) - (cntB (chos os (l ++ [nth os q])) p : Nat) ≤ T f n - T f p := fun z => by
            rw [togB_iff.mpr z] at c
            cases c
          obtain ⟨r, hr⟩ := Classical.not_forall.mp hn
          obtain ⟨hr1, hr2⟩ := Classical.not_imp.mp hr
          have one : ∀ j, j ≤ n → cntB (chos os (l ++ [nth os q])) j ≤ cntB (chos os l) j + (if q < j then 1 else 0) := fun j => by
            induction j with
            | zero => intro _; simp [cntB]
            | succ j ihj =>
              intro hj
              have i1 := ihj (by omega)
              rw [cntB_succ, cntB_succ]
              by_cases e : j = q
              · subst e
                have : ¬ (j < j) := by omega
                rw [if_neg this] at i1
                rw [if_pos (show j < j + 1 by omega)]
                split <;> split <;> omega
              · have hne : chos os (l ++ [nth os q]) j = chos os l j := by
                  unfold chos
                  rw [decide_eq_decide, List.mem_append]
                  refine ⟨fun z => z.resolve_right fun y => ?_, .inl⟩
                  have y : nth os j = nth os q := by simpa using y
                  have e1 := idx_nth K.nodup (show j < os.length by rw [K.len]; omega)
                  have e2 := idx_nth K.nodup (show q < os.length by rw [K.len]; omega)
                  rw [y, e2] at e1
                  exact e e1.symm
                rw [hne]
                by_cases z : q < j
                · rw [if_pos z] at i1
                  rw [if_pos (show q < j + 1 by omega)]
                  omega
                · rw [if_neg z] at i1
                  rw [if_neg (show ¬ q < j + 1 by omega)]
                  omega
          have ge : ∀ j, cntB (chos os l) j ≤ cntB (chos os (l ++ [nth os q])) j := fun j => by
            have := (cnt_late (a := chos os l) (b := chos os (l ++ [nth os q])) (fun k hk => decide_eq_true (List.mem_append_left _ (of_decide_eq_true hk))) (p := 0) j (by omega)).1
            have e0 : cntB (chos os l) 0 = 0 := rfl
            have e1 : cntB (chos os (l ++ [nth os q])) 0 = 0 := rfl
            omega
          have g1 := ge r
          have g2 := one n (Nat.le_refl n)
          rw [if_pos (by omega)] at g2
          have g3 := h r hr1
          have hrq : r ≤ q := by
            by_cases z : r ≤ q
            · exact z
            · exfalso
              -- the place stands ahead of r: nothing is later
              have same : ∀ j, q < j → j ≤ n → cntB (chos os (l ++ [nth os q])) j = cntB (chos os l) j + (cntB (chos os (l ++ [nth os q])) (q + 1) - cntB (chos os l) (q + 1)) := fun j => by
                induction j with
                | zero => intro y; omega
                | succ j ihj =>
                  intro y1 y2
                  by_cases e : j = q
                  · subst e
                    have := ge (j + 1)
                    omega
                  · have i1 := ihj (by omega) (by omega)
                    rw [cntB_succ (d := j), cntB_succ (d := j)]
                    have hne : chos os (l ++ [nth os q]) j = chos os l j := by
                      unfold chos
                      rw [decide_eq_decide, List.mem_append]
                      refine ⟨fun z => z.resolve_right fun y => ?_, .inl⟩
                      have y : nth os j = nth os q := by simpa using y
                      have e1 := idx_nth K.nodup (show j < os.length by rw [K.len]; omega)
                      have e2 := idx_nth K.nodup (show q < os.length by rw [K.len]; omega)
                      rw [y, e2] at e1
                      exact e e1.symm
                    rw [hne]
                    omega
              have s1 := same n (by omega) (Nat.le_refl n)
              have s2 := same r (by omega) (by omega)
              omega
          have cq : ∀ j, j ≤ r → cntB (chos os l) j = j := fun j => by
            induction j with
            | zero => intro _; rfl
            | succ j ihj =>
              intro hj
              rw [cntB_succ, ihj (by omega), a j (by omega)]
              rfl
          have c1 := cq r (Nat.le_refl r)
          have b1 := K.bound hf (show r ≤ n by omega)
          omega
      · exact .inr a
  rcases all n (Nat.le_refl n) with a | a
  · have cq : ∀ j, j ≤ n → cntB (chos os l) j = j := fun j => by
      induction j with
      | zero => intro _; rfl
      | succ j ihj =>
        intro hj
        rw [cntB_succ, ihj (by omega), a j (by omega)]
        rfl
    have c1 := cq n (Nat.le_refl n)
    have b1 := K.bound hf (Nat.le_refl n)
    omega
  · exact a
/-- of the first things of the order no fewer are chosen than the word tells, whatever things come first -/
theorem grd_least (K : Kn n F V os T) {f : Nat} (hf : f < F) {ys : List Int} (hy : ∀ k, k < n → nth os k ∈ ys) {e : Nat} (he : e < n) : T f e ≤ (cntB (chos os (grd n (T f) os [] ys)) e : Nat) := by
  have h0 : togB n (T f) os [] = true := togB_iff.mpr fun p hp => by
    have e : ∀ j, cntB (chos os []) j = 0 := fun j => by
      induction j with
      | zero => rfl
      | succ j ih => rw [cntB_succ, ih]; simp [chos]
    rw [e, e]
    have := (K.word hf (show p ≤ n by omega) (Nat.le_refl n)).1
    omega
  obtain ⟨_, b, c, _⟩ := grd_spec ys [] h0
  have fu := full_of K hf b fun k hk => c _ (hy k hk)
  have := togB_iff.mp b e he
  omega
end
end LW
namespace LW
open PySem L2 DL
section
variable {n F : Nat} {V : Nat → Int} {os : List Int} {T U : Nat → Nat → Int}
theorem in_listI {ρ : DL.Env} {l : List Int} {x : Int} {neg : Bool} : inG neg ρ (.cl (.int x)) (.cl (.list (l.map .int))) = some (.cl (.bool (neg ^^ decide (x ∈ l))), ρ) := not_in_wr (c := true)
theorem in_tupI {ρ : DL.Env} {l : List Int} {x : Int} {neg : Bool} : inG neg ρ (.cl (.int x)) (.cl (.tuple (l.map .int))) = some (.cl (.bool (neg ^^ decide (x ∈ l))), ρ) := not_in_wr (c := false)
theorem iv_lastI {m : Nat} {w : Nat → Int} : atI (iv (m + 1) w) (-1) = some (.int (w m)) := by
  unfold atI
  rw [iv_len, ixN_last]
  show (iv (m + 1) w)[m]? = _
  unfold iv
  rw [List.getElem?_map, List.getElem?_range (by omega)]
  rfl
def TogI (o w l : PyData) (n : Nat) (wf : Nat → Int) (c : Nat → Bool) (i : Nat) (ρ : DL.Env) : Prop := (∀ p, n - i ≤ p → p < n → ((cntB c n : Nat) : Int) - (cntB c p : Nat) ≤ wf n - wf p) ∧ ∃ c4, ρ = [.cl o, .cl w, .cl l, .cl (.int (((cntB c n : Nat) : Int) - (cntB c (n - i) : Nat))), c4]
def TogR (n : Nat) (wf : Nat → Int) (c : Nat → Bool) (r : Val) (ρ : DL.Env) : Prop := r = .cl (.bool false) ∧ ¬ ∀ p, p < n → ((cntB c n : Nat) : Int) - (cntB c p : Nat) ≤ wf n - wf p
theorem together_ok (ho : os.length = n) (hn : n ≤ 100) {w : Nat → Int} (hw : ∀ k, k ≤ n → 0 ≤ w k ∧ w k ≤ 1000) (l : List Int) : LsEnd (.bool (togB n w os l)) (F_can_be_together [.tuple (os.map .int), .tuple (iv (n + 1) w), .list (l.map .int)]) := by
  have hn3 : (-1000000 : Int) ≤ (n : Int) - 1 ∧ (n : Int) - 1 ≤ 1000000 := by omega
  have e0 : os.map PyData.int = iv n (nth os) := by rw [iv_getD, ho]
  unfold F_can_be_together g_can_be_together
  rw [e_runP]
  simp [argE, ho, hn3.1, hn3.2]
  refine use_loopT (P := fun r => LsEnd _ (kPu (kSq r _))) (TogI (.tuple (os.map .int)) (.tuple (iv (n + 1) w)) (.list (l.map .int)) n w (chos os l)) (TogR n w (chos os l)) ?_ ?_ ?_ ?_
  · exact ⟨fun p h1 h2 => absurd h1 (by omega), .no, by simp⟩
  · rintro i d ρ hd ⟨hI, c4, rfl⟩
    obtain ⟨hi, rfl⟩ := rng_get hd
    obtain ⟨p, hp⟩ : ∃ p : Nat, n = p + i + 1 := ⟨n - i - 1, by omega⟩
    have ep : (n : Int) - 1 + (i : Int) * -1 = (p : Nat) := by omega
    rw [ep]
    have e1 : n - i = p + 1 := by omega
    have e2 : n - (i + 1) = p := by omega
    have a1 : atI (os.map PyData.int) ((p : Nat) : Int) = some (.int (nth os p)) := by rw [e0]; exact iv_at1 (by omega) rfl
    have a2 : atI (iv (n + 1) w) ((p : Nat) : Int) = some (.int (w p)) := iv_at1 (by omega) rfl
    have hc : cntB (chos os l) (p + 1) = cntB (chos os l) p + (if chos os l p = true then 1 else 0) := cntB_succ
    have hin : ∀ {ρ : DL.Env}, inG false ρ (.cl (.int (nth os p))) (.cl (.list (l.map .int))) = some (.cl (.bool (chos os l p)), ρ) := fun {ρ} => by rw [in_listI]; simp [chos]
    have nxt : ∀ z : Int, z = ((cntB (chos os l) n : Nat) : Int) - (cntB (chos os l) p : Nat) → z ≤ w n - w p → TurnsR (TogI (.tuple (os.map .int)) (.tuple (iv (n + 1) w)) (.list (l.map .int)) n w (chos os l) (i + 1)) (TogR n w (chos os l)) (some (.nx [.cl (.tuple (os.map .int)), .cl (.tuple (iv (n + 1) w)), .cl (.list (l.map .int)), .cl (.int z), .cl (.int (p : Nat))])) := fun z hz hle => by
      refine turnsR_nx ⟨fun q h1 h2 => ?_, _, by rw [e2, hz]⟩
      by_cases e : q = p
      · subst e; omega
      · exact hI q (by omega) h2
    have bad : ∀ (z : Int) (c : Cell), z = ((cntB (chos os l) n : Nat) : Int) - (cntB (chos os l) p : Nat) → ¬ z ≤ w n - w p → ∀ ρ, TurnsR (TogI (.tuple (os.map .int)) (.tuple (iv (n + 1) w)) (.list (l.map .int)) n w (chos os l) (i + 1)) (TogR n w (chos os l)) (some (.rt (.cl (.bool false)) ρ)) := fun z c hz hle ρ => turnsR_rt ⟨rfl, fun y => hle (by rw [hz]; exact y p (by omega))⟩
    rw [e1] at *
    cases hq : chos os l p with
    | true =>
      rw [hq] at hc hin
      by_cases q : ((cntB (chos os l) n : Nat) : Int) - (cntB (chos os l) (p + 1) : Nat) + 1 ≤ w n - w p
      · have q' : ¬ w n - w p < ((cntB (chos os l) n : Nat) : Int) - (cntB (chos os l) (p + 1) : Nat) + 1 := by omega
        simp [-e_in, a1, hin, a2, iv_lastI, q']
        exact nxt _ (by simp at hc; omega) q
      · have q' : w n - w p < ((cntB (chos os l) n : Nat) : Int) - (cntB (chos os l) (p + 1) : Nat) + 1 := by omega
        simp [-e_in, a1, hin, a2, iv_lastI, q']
        exact bad _ .no (by simp at hc; omega) q _
    | false =>
      rw [hq] at hc hin
      by_cases q : ((cntB (chos os l) n : Nat) : Int) - (cntB (chos os l) (p + 1) : Nat) ≤ w n - w p
      · have q' : ¬ w n - w p < ((cntB (chos os l) n : Nat) : Int) - (cntB (chos os l) (p + 1) : Nat) := by omega
        simp [-e_in, a1, hin, a2, iv_lastI, q']
        exact nxt _ (by simp at hc; omega) q
      · have q' : w n - w p < ((cntB (chos os l) n : Nat) : Int) - (cntB (chos os l) (p + 1) : Nat) := by omega
        simp [-e_in, a1, hin, a2, iv_lastI, q']
        exact bad _ .no (by simp at hc; omega) q _
  · rintro ρ' ⟨hI, c4, rfl⟩
    have t : togB n w os l = true := togB_iff.mpr fun p hp => hI p (by rw [rngD_len]; omega) hp
    rw [t]
    simp
    rfl
  · rintro r ρ' ⟨rfl, h⟩
    have t : togB n w os l = false := by
      cases q : togB n w os l with
      | false => rfl
      | true => exact absurd (togB_iff.mp q) h
    rw [t]
    simp
    rfl
theorem grd_snoc {w : Nat → Int} {y : Int} : ∀ (ys acc : List Int), grd n w os acc (ys ++ [y]) = if togB n w os (grd n w os acc ys ++ [y]) = true then grd n w os acc ys ++ [y] else grd n w os acc ys
  | [], acc => by
    show grd n w os acc [y] = _
    unfold grd
    rfl
  | x :: ys, acc => by
    rw [List.cons_append]
    unfold grd
    split
    · exact grd_snoc ys _
    · exact grd_snoc ys _
theorem grd_len {w : Nat → Int} : ∀ (ys acc : List Int), (grd n w os acc ys).length ≤ acc.length + ys.length
  | [], acc => by unfold grd; simp
  | x :: ys, acc => by
    unfold grd
    split
    · have := grd_len (w := w) ys (acc ++ [x])
      rw [List.length_append] at this
      simp at this ⊢
      omega
    · have := grd_len (w := w) ys acc
      simp
      omega
def ChI (k f t o w : PyData) (n : Nat) (wf : Nat → Int) (os ys : List Int) (i : Nat) (ρ : DL.Env) : Prop := ∃ c6, ρ = [.cl k, .cl f, .cl t, .cl o, .cl w, .op ((grd n wf os [] (ys.take i)).map .int), c6]
theorem choice_ok (K : Kn n F V os T) (hn : n ≤ 16) (hF : F ≤ 4) {f : Nat} (hf : f < F) (ys : List Int) (hy : ys.length ≤ 1000) : F_choice_within [knowD os F T, .int (f : Nat), .list (ys.map .int)] = some (.own ((grd n (T f) os [] ys).map .int)) := by
  have ek : knowD os F T = .tuple [.tuple (os.map .int), .tuple (rowsT F (n + 1) T)] := by unfold knowD; rw [K.len]
  have at1 : atI (rowsT F (n + 1) T) ((f : Nat) : Int) = some (.tuple (iv (n + 1) (T f))) := gl_at rfl hf
  have tog := fun l => together_ok (os := os) K.len (by omega) (w := T f) (fun k hk => by have := K.bound hf hk; omega) l
  unfold LsEnd at tog
  have goal : ∀ x : Option Val, x = some (.own ((grd n (T f) os [] ys).map .int)) → x = some (.own ((grd n (T f) os [] ys).map .int)) := fun _ h => h
  unfold F_choice_within g_choice_within
  rw [e_runP, ek]
  simp [argE]
  refine use_loop (P := fun x => kPu (kSq x _) = _) (ChI (.tuple [.tuple (os.map .int), .tuple (rowsT F (n + 1) T)]) (.int (f : Nat)) (.list (ys.map .int)) (.tuple (os.map .int)) (.tuple (rowsT F (n + 1) T)) n (T f) os ys) ?_ ?_ ?_
  · exact ⟨.no, by simp [grd]⟩
  · rintro i d ρ hd ⟨c6, rfl⟩
    obtain ⟨hi, e⟩ := List.getElem?_eq_some_iff.mp hd
    rw [List.getElem_map] at e
    subst e
    have hi' : i < ys.length := by simpa using hi
    have et : ys.take (i + 1) = ys.take i ++ [ys[i]] := by rw [List.take_add_one, List.getElem?_eq_getElem hi']; rfl
    have hs := grd_snoc (n := n) (os := os) (w := T f) (y := ys[i]) (ys.take i) []
    rw [← et] at hs
    have hl := grd_len (n := n) (os := os) (w := T f) (ys.take i) []
    rw [List.length_take] at hl
    simp only [List.length_nil] at hl
    have tg := tog (grd n (T f) os [] (ys.take i) ++ [ys[i]])
    rw [List.map_append] at tg
    have nxt : ∀ G : List Int, G = grd n (T f) os [] (ys.take (i + 1)) → Turns (ChI (.tuple [.tuple (os.map .int), .tuple (rowsT F (n + 1) T)]) (.int (f : Nat)) (.list (ys.map .int)) (.tuple (os.map .int)) (.tuple (rowsT F (n + 1) T)) n (T f) os ys (i + 1)) (some (.nx [.cl (.tuple [.tuple (os.map .int), .tuple (rowsT F (n + 1) T)]), .cl (.int (f : Nat)), .cl (.list (ys.map .int)), .cl (.tuple (os.map .int)), .cl (.tuple (rowsT F (n + 1) T)), .op (G.map .int), .cl (.int ys[i])])) := fun G hG => by
      rw [hG]
      exact turns_nx ⟨_, rfl⟩
    generalize hG : grd n (T f) os [] (ys.take i) = G at *
    have hadd : ∀ {ρ : DL.Env}, ρ.getD 5 .no = .op (G.map .int) → addG ρ (.sl 5) (.own [.int ys[i]]) = some (.own (G.map .int ++ [.int ys[i]]), ρ) := fun {ρ} h => add_so h (by rw [List.length_map]; simp; omega)
    have tg' : F_can_be_together [.tuple (os.map .int), .tuple (iv (n + 1) (T f)), .list (G.map .int ++ [.int ys[i]])] = some (.cl (.bool (togB n (T f) os (G ++ [ys[i]])))) := tg
    have hlt : (G.map PyData.int).length < 1000000 := by rw [List.length_map]; omega
    have hlt2 : G.length < 1000000 := by omega
    cases q : togB n (T f) os (G ++ [ys[i]]) with
    | true =>
      rw [q] at hs tg'
      rw [if_pos rfl] at hs
      simp [at1, hadd, tg', hlt2]
      have := nxt (G ++ [ys[i]]) hs.symm
      rw [List.map_append] at this
      exact this
    | false =>
      rw [q] at hs tg'
      rw [if_neg (by simp)] at hs
      simp [at1, hadd, tg']
      exact nxt G hs.symm
  · rintro ρ' ⟨c6, rfl⟩
    rw [List.length_map, List.take_length]
    simp
theorem lot_filter (K : Kn n F V os T) (l : List Int) (neg : Bool) : os.filter (fun x => neg ^^ decide (x ∈ l)) = plc os n fun k => neg ^^ chos os l k := by
  have e0 : os = (List.range n).map (nth os) := by
    conv => lhs; rw [← plc_all K]
    unfold plc
    rw [List.filter_eq_self.mpr fun _ _ => rfl]
  conv => lhs; rw [e0]
  rw [List.filter_map]
  rfl
end
end LW
namespace LW
open PySem L2 DL
section
variable {n F : Nat} {V : Nat → Int} {os : List Int} {T U : Nat → Nat → Int}
/-- the state for a lot, told in any order -/
theorem with_lot_any (K : Kn n F V os T) (l : List Int) (hn : n < 900) (hF : F < 900) : ∃ s : Nat → Int, (∀ x, 0 ≤ s x ∧ s x ≤ F) ∧ F_state_with_lot [house n F V, knowD os F T, .list (l.map .int)] = some (.cl (.tuple (iv n s))) := by
  have e1 := sizes_of n F (by omega) T (.tuple (os.map .int))
  have ek : knowD os F T = .tuple [.tuple (os.map .int), .tuple (rowsT F (n + 1) T)] := by unfold knowD; rw [K.len]
  have e2 := of_lots_ok n F V true ((List.range F).map (wlL os n T (chos os l))) (by omega) (by rw [List.length_map, List.length_range]; omega)
  rw [List.map_map] at e2
  have hl := K.len
  have p1 := lot_filter K l false
  have p2 := lot_filter K l true
  have hpl : (plc os n (chos os l)).length ≤ n := by
    rw [plc_len]
    have := cntB_not (b := chos os l) n
    omega
  have hpl2 : (plc os n fun k => !chos os l k).length ≤ n := by
    rw [plc_len]
    have := cntB_not (b := chos os l) n
    omega
  refine ⟨fun x => (notIn ((List.range F).map (wlL os n T (chos os l))) ((x : Nat) : Int) : Nat), fun x => ?_, ?_⟩
  · have := List.length_filter_le (fun l => !decide (((x : Nat) : Int) ∈ l)) ((List.range F).map (wlL os n T (chos os l)))
    rw [List.length_map, List.length_range] at this
    exact ⟨Int.natCast_nonneg _, Int.ofNat_le.mpr this⟩
  unfold F_state_with_lot g_state_with_lot
  rw [e_runP, ek]
  simp [argE]
  rw [lc_filL (fun x => false ^^ decide (x ∈ l)) (by simp) (by omega) (by simp) (by
    intro x hx
    have e : ∀ ρ : DL.Env, inG false ρ (.cl (.int x)) (.cl (.list (l.map .int))) = some (.cl (.bool (false ^^ decide (x ∈ l))), ρ) := fun ρ => in_listI
    by_cases q : x ∈ l
    · simp [-e_in, e, q]
    · simp [-e_in, e, q]), p1]
  simp
  rw [lc_filL (fun x => true ^^ decide (x ∈ l)) (by simp) (by omega) (by simp) (by
    intro x hx
    have e : ∀ ρ : DL.Env, inG true ρ (.cl (.int x)) (.cl (.list (l.map .int))) = some (.cl (.bool (true ^^ decide (x ∈ l))), ρ) := fun ρ => in_listI
    by_cases q : x ∈ l
    · simp [-e_in, e, q]
    · simp [-e_in, e, q]), p2]
  simp [e1]
  have eb : (plc os n fun k => chos os l k) = plc os n (chos os l) := rfl
  rw [eb]
  have eg : (iv F fun f => T f n) = gl F fun f => .int (T f n) := rfl
  generalize hb : chos os l = b at *
  rw [eg, lc_gl (fun f => wr true (wlL os n T b f)) (by simp) (by omega) (by simp) (by
    intro f hf
    have hb := K.bound hf (Nat.le_refl n)
    have c1 : cutD ((plc os n b).map PyData.int) none (some (T f n)) = ((plc os n b).take (T f n).toNat).map .int := by
      conv => lhs; rw [show T f n = (((T f n).toNat : Nat) : Int) by omega]
      rw [cut_upto, List.map_take]
    have c2 : cutD ((plc os n fun k => !b k).map PyData.int) none (some (max 0 (T f n - ((plc os n b).length : Nat)))) = ((plc os n fun k => !b k).take (max 0 (T f n - cntB b n)).toNat).map .int := by
      conv => lhs; rw [show max 0 (T f n - (((plc os n b).length : Nat) : Int)) = (((max 0 (T f n - cntB b n)).toNat : Nat) : Int) by rw [plc_len]; omega]
      rw [cut_upto, List.map_take]
    have ea : ∀ ρ : DL.Env, addG ρ (.own (((plc os n b).take (T f n).toNat).map .int)) (.own (((plc os n fun k => !b k).take (max 0 (T f n - cntB b n)).toNat).map .int)) = some (.own ((wlL os n T b f).map .int), ρ) := fun ρ => by
      rw [add_seq rfl rfl (by rw [List.length_map, List.length_map, List.length_take, List.length_take]; omega), ← List.map_append]
      rfl
    have b1 : -1000000 ≤ T f n ∧ T f n ≤ 1000000 := by omega
    have b2 : -1000000 ≤ max 0 (T f n - ((plc os n b).length : Nat)) ∧ max 0 (T f n - ((plc os n b).length : Nat)) ≤ 1000000 := by omega
    have ex : binD (sliceD (varD 4) noP (aP (varD 8)) cutG) (sliceD (varD 5) noP (aP (callD (acons (conD (.int 0)) (acons (binD (varD 8) (callD (acons (varD 4) anil) (oneG lenG)) (intG (i2i fun i j => i - j))) anil)) max2G)) cutG) addG
        [.cl (house n F V), .cl (.tuple [.tuple (os.map .int), .tuple (rowsT F (n + 1) T)]), .cl (.list (l.map .int)), .cl (.tuple (os.map .int)), .op ((plc os n b).map .int), .op ((plc os n fun k => !b k).map .int), .no, .no, .cl (.int (T f n))] =
        some (.own ((wlL os n T b f).map .int), [.cl (house n F V), .cl (.tuple [.tuple (os.map .int), .tuple (rowsT F (n + 1) T)]), .cl (.list (l.map .int)), .cl (.tuple (os.map .int)), .op ((plc os n b).map .int), .op ((plc os n fun k => !b k).map .int), .no, .no, .cl (.int (T f n))]) := by
      simp [b1.1, b1.2, b2.1, b2.2, c1]
      rw [c2, ← List.map_take, ea]
    simp [-e_bin, ex, wr])]
  have e2' : F_state_of_lots [house n F V, .list (gl F fun f => wr true (wlL os n T b f))] = some (.cl (.tuple (iv n fun x => (notIn ((List.range F).map (wlL os n T b)) ((x : Nat) : Int) : Nat)))) := e2
  simp [e2']
theorem take_chosen (K : Kn n F V os T) (l : List Int) : ∀ e, e ≤ n → ((os.take e).filter fun x => decide (x ∈ l)).length = cntB (chos os l) e
  | 0, _ => by simp [cntB]
  | e + 1, h => by
    have he : e < os.length := by rw [K.len]; omega
    have hx : nth os e = os[e] := by unfold nth; rw [List.getD_eq_getElem?_getD, List.getElem?_eq_getElem he]; rfl
    rw [List.take_add_one, List.getElem?_eq_getElem he, List.filter_append, List.length_append, take_chosen K l e (by omega), cntB_succ]
    congr 1
    unfold chos
    rw [hx]
    by_cases q : os[e] ∈ l <;> simp [q]
theorem number_ok (K : Kn n F V os T) (hn : n ≤ 16) (hF : F ≤ 4) (l : List Int) {e : Nat} (he : e ≤ n) : ∃ s : Nat → Int, (∀ x, 0 ≤ s x ∧ s x ≤ F) ∧ F_number_within [house n F V, knowD os F T, .tuple ((os.take e).map .int), .list (l.map .int)] = some (.cl (.tuple [.int (cntB (chos os l) e : Nat), .tuple (iv n s)])) := by
  obtain ⟨s, hs, ew⟩ := with_lot_any K l (by omega) (by omega)
  refine ⟨s, hs, ?_⟩
  have hl := K.len
  have hc := take_chosen K l e he
  have hle : (os.take e).length ≤ 16 := by rw [List.length_take]; omega
  have hfl : ((os.take e).filter fun x => decide (x ∈ l)).length ≤ 16 := Nat.le_trans (List.length_filter_le _ _) hle
  unfold F_number_within g_number_within
  rw [e_runP]
  generalize house n F V = hs at *
  generalize knowD os F T = kn at *
  simp only [argE]
  generalize os.take e = lt at *
  simp
  rw [lc_ints (fun x => decide (x ∈ l)) (by simp) (by omega) (by simp) (by
    intro x hx
    have e : ∀ ρ : DL.Env, inG false ρ (.cl (.int x)) (.cl (.list (l.map .int))) = some (.cl (.bool (false ^^ decide (x ∈ l))), ρ) := fun ρ => in_listI
    by_cases q : x ∈ l
    · simp [-e_in, e, q]
    · simp [-e_in, e, q])]
  simp [ew, hc]
theorem least_ok (K : Kn n F V os T) (hn : n ≤ 16) (hF : F ≤ 4) {f : Nat} (hf : f < F) {e : Nat} (he : e < n) : ∃ (N : Nat) (s : Nat → Int), T f e ≤ (N : Nat) ∧ N ≤ n ∧ F_least_within [house n F V, knowD os F T, .tuple ((os.take e).map .int), .int (f : Nat)] = some (.cl (.tuple [.int (N : Nat), .tuple (iv n s)])) := by
  have hl := K.len
  have ho : (os.filter fun x => decide (x ∉ os.take e)).length ≤ n := Nat.le_trans (List.length_filter_le _ _) (by omega)
  have htl : (os.take e).length ≤ n := by rw [List.length_take]; omega
  have ch := choice_ok K hn hF hf ((os.filter fun x => decide (x ∉ os.take e)) ++ os.take e) (by rw [List.length_append]; omega)
  obtain ⟨s, hs, en⟩ := number_ok K hn hF (grd n (T f) os [] ((os.filter fun x => decide (x ∉ os.take e)) ++ os.take e)) (e := e) (by omega)
  have hg := grd_least K hf (ys := (os.filter fun x => decide (x ∉ os.take e)) ++ os.take e) (fun k hk => by
    have hm : nth os k ∈ os := nth_mem (by rw [hl]; exact hk)
    by_cases q : nth os k ∈ os.take e
    · exact List.mem_append_right _ q
    · exact List.mem_append_left _ (List.mem_filter.mpr ⟨hm, decide_eq_true q⟩)) he
  have hb : cntB (chos os (grd n (T f) os [] ((os.filter fun x => decide (x ∉ os.take e)) ++ os.take e))) e ≤ n := by
    have := cntB_not (b := chos os (grd n (T f) os [] ((os.filter fun x => decide (x ∉ os.take e)) ++ os.take e))) e
    omega
  refine ⟨_, s, hg, hb, ?_⟩
  have ek : knowD os F T = .tuple [.tuple (os.map .int), .tuple (rowsT F (n + 1) T)] := by unfold knowD; rw [K.len]
  unfold F_least_within g_least_within
  rw [e_runP]
  rw [ek] at ch en ⊢
  simp only [argE]
  rw [List.map_append] at ch
  generalize hG : grd n (T f) os [] ((os.filter fun x => decide (x ∉ os.take e)) ++ os.take e) = G at *
  generalize hO : (os.filter fun x => decide (x ∉ os.take e)) = O at *
  generalize hL : os.take e = lt at *
  simp
  rw [lc_ints (fun x => decide (x ∉ lt)) (by simp) (by omega) (by simp) (by
    intro x hx
    have e : ∀ ρ : DL.Env, inG true ρ (.cl (.int x)) (.cl (.tuple (lt.map .int))) = some (.cl (.bool (true ^^ decide (x ∈ lt))), ρ) := fun ρ => in_tupI
    by_cases q : x ∈ lt
    · simp [-e_in, e, q]
    · simp [-e_in, e, q]), hO]
  have hadd : ∀ {ρ : DL.Env}, ρ.getD 4 .no = .op (O.map .int) → addG ρ (.sl 4) (.own (lt.map .int)) = some (.own (O.map .int ++ lt.map .int), ρ) := fun {ρ} h => add_so h (by rw [List.length_map, List.length_map]; omega)
  simp [hadd, ch, en]
def ByI (h k u o w : PyData) (i : Nat) (ρ : DL.Env) : Prop := ∃ c5 c6 c7 c8 c9, ρ = [.cl h, .cl k, .cl u, .cl o, .cl w, c5, c6, c7, c8, c9]
def ByJ (h k u o w r : PyData) (f : Nat) (i : Nat) (ρ : DL.Env) : Prop := ∃ c7 c8 c9, ρ = [.cl h, .cl k, .cl u, .cl o, .cl w, .cl (.int (f : Nat)), .cl r, c7, c8, c9]
theorem beyond_ok (K : Kn n F V os T) (K2 : Kn n F V os U) (hn : n ≤ 16) (hF : F ≤ 4) (h : ∀ f, f < F → ∀ k, k ≤ n → U f k ≤ T f k) : LsEnd .none (F_state_beyond [house n F V, knowD os F T, knowD os F U]) := by
  have ek : knowD os F U = .tuple [.tuple (os.map .int), .tuple (rowsT F (n + 1) U)] := by unfold knowD; rw [K.len]
  have le := fun f (hf : f < F) e (he : e < n) => least_ok K hn hF hf he
  unfold F_state_beyond g_state_beyond
  rw [e_runP, ek]
  generalize hh : house n F V = hs at *
  generalize hk : knowD os F T = kn at *
  simp [argE]
  rw [show enumD (rowsT F (n + 1) U) = gl F fun f => .tuple [.int (f : Nat), .tuple (iv (n + 1) (U f))] from enum_gl]
  refine use_loop (P := fun r => LsEnd _ (kPu (kSq r _))) (ByI hs kn (.tuple [.tuple (os.map .int), .tuple (rowsT F (n + 1) U)]) (.tuple (os.map .int)) (.tuple (rowsT F (n + 1) U))) ?_ ?_ ?_
  · exact ⟨.no, .no, .no, .no, .no, by simp⟩
  · rintro f d ρ hd ⟨c5, c6, c7, c8, c9, rfl⟩
    obtain ⟨hf, rfl⟩ := gl_get' hd
    have cu := cuts_ok n (U f) (by omega)
    simp [cu]
    refine use_loop (P := fun x => Turns _ x) (ByJ hs kn (.tuple [.tuple (os.map .int), .tuple (rowsT F (n + 1) U)]) (.tuple (os.map .int)) (.tuple (rowsT F (n + 1) U)) (.tuple (iv (n + 1) (U f))) f) ?_ ?_ ?_
    · exact ⟨_, _, _, rfl⟩
    · rintro i d ρ hd ⟨c7, c8, c9, rfl⟩
      have hd' : (cutL n (U f))[i]?.map (fun k : Nat => PyData.int (k : Int)) = some d := by
        unfold nats at hd
        rwa [List.getElem?_map] at hd
      obtain ⟨e, he, rfl⟩ := Option.map_eq_some_iff.mp hd'
      have hen : e < n := ((cutL_mem.mp (List.mem_of_getElem? he)).2).1
      obtain ⟨N, s, hN, hN2, el⟩ := le f hf e hen
      have cut : cutD (os.map PyData.int) none (some ((e : Nat) : Int)) = (os.take e).map .int := by rw [cut_upto, List.map_take]
      have a1 : atI (iv (n + 1) (U f)) ((e : Nat) : Int) = some (.int (U f e)) := iv_at1 (by omega) rfl
      have h1 := h f hf e (by omega)
      have hlt : ¬ ((N : Nat) : Int) < U f e := by omega
      generalize hL : os.take e = lt at *
      simp [cut, el, a1, hlt]
      exact turns_nx ⟨_, _, _, rfl⟩
    · rintro ρ' ⟨c7, c8, c9, rfl⟩
      exact turns_nx ⟨_, _, _, _, _, rfl⟩
  · rintro ρ' ⟨c5, c6, c7, c8, c9, rfl⟩
    simp
    rfl
theorem lies_ok (K : Kn n F V os T) (K2 : Kn n F V os U) (hn : n ≤ 16) (hF : F ≤ 4) (hs : ∀ f, f < F → T f n = U f n) (h : ∀ f, f < F → ∀ k, k ≤ n → U f k ≤ T f k) : F_lies_in [house n F V, knowD os F T, knowD os F U] = some (.cl (.bool true)) := by
  have ek : ∀ W : Nat → Nat → Int, knowD os F W = .tuple [.tuple (os.map .int), .tuple (rowsT F (n + 1) W)] := fun W => by unfold knowD; rw [K.len]
  have s1 := sizes_of n F (by omega) T (.tuple (os.map .int))
  have s2 := sizes_of n F (by omega) U (.tuple (os.map .int))
  rw [← ek] at s1 s2
  have by1 := beyond_ok K K2 hn hF h
  unfold LsEnd at by1
  have ez : (iv F fun f => U f n) = iv F fun f => T f n := by
    unfold iv
    apply List.map_congr_left
    intro f hf
    show PyData.int (U f n) = .int (T f n)
    rw [hs f (List.mem_range.mp hf)]
  rw [ez] at s2
  have N : Ok60 (.tuple (iv F fun f => T f n)) := by
    have := nice_row (n := F) (w := fun f => T f n) fun f hf => by
      have := K.bound hf (Nat.le_refl n)
      omega
    exact this.mono (by omega) (by omega)
  have e0 : ∀ {ρ : DL.Env}, eqQ false ρ (.cl (.tuple (iv F fun f => T f n))) (.cl (.tuple (iv F fun f => T f n))) = some (.cl (.bool true), ρ) := fun {ρ} => eq_same2 N
  unfold F_lies_in g_lies_in
  rw [e_runP]
  generalize knowD os F T = k1 at *
  generalize knowD os F U = k2 at *
  generalize house n F V = hs at *
  generalize (iv F fun f => T f n) = z at *
  simp [argE, s1, s2, e0, by1]
end
end LW
namespace K37
open PySem L2 DL LW
def LawI (i : Nat) (ρ : DL.Env) : Prop := ∃ (B : Bag) (c2 c3 c4 c5 c6 c7 c8 c9 c10 c11 : Cell), ρ = [.no, .op (Bag.toD B), c2, c3, c4, c5, c6, c7, c8, c9, c10, c11, .no, .no, .no, .no, .no]
def LawEnd (x : Option Out) : Prop := ∃ ρ', x = some (.rt (.cl (.bool true)) ρ')
theorem kn_perm {n F : Nat} {V : Nat → Int} {os os2 : List Int} {U : Nat → Nat → Int} (h : os.Perm (DL.upto n)) (K : Kn n F V os2 U) : Kn n F V os U := ⟨h, K.tight, K.room, K.next⟩
noncomputable def restS : SD := (seqS (setS 6 (lcD [12, 13] (zipI (acons (binD (varD 4) (conD (.int 1)) ixG) (acons (binD (varD 5) (conD (.int 1)) ixG) anil))) (tupT [12, 13]) yesT (callD (acons (lcD [14, 15] (zipI (acons (varD 12) (acons (varD 13) anil))) (tupT [14, 15]) yesT (callD (acons (varD 14) (acons (varD 15) anil)) max2G)) anil) (oneG tupleG))))
    (seqS (parS [7, 8] (acons (callP 2 F__law_tightened (acons (callD (acons (varD 6) anil) (oneG tupleG)) (acons (callP 1 F__law_known_sizes (acons (varD 4) anil)) anil))) (acons (callD (acons (lstD (acons (varD 4) (acons (varD 5) anil))) anil) (oneG repG)) anil)))
    (seqS (setS 9 (iteD (testD (binD (varD 7) (conD .none) (isNG' false))) (conD .none) (tupD (acons (binD (varD 4) (conD (.int 0)) ixG) (acons (varD 7) anil)))))
    (seqS (setS 10 (lstD (acons (callP 3 F_joint (acons (varD 3) (acons (varD 4) (acons (varD 5) anil)))) (acons (callP 3 F_joint (acons (varD 3) (acons (varD 5) (acons (varD 4) anil)))) (acons (callP 3 F_joint (acons (varD 3) (acons (varD 4) (acons (varD 5) anil)))) anil)))))
    (seqS (ifS (orT (notT (testD (callP 2 F__law_alike (acons (varD 10) (acons (binD (lstD (acons (varD 9) anil)) (conD (.int 3)) mulG) anil))))) (testD (binD (callD (acons (lstD (acons (varD 4) (acons (varD 5) anil))) anil) (oneG repG)) (varD 8) (eqQ true)))) (retS (conD (.bool false))) nilS)
    (seqS (ifS (andT (testD (binD (binD (varD 3) (conD (.int 0)) ixG) (conD (.int 6)) (intG (i2b fun i j => decide (i < j))))) (andT (testD (binD (callD (acons (binD (varD 3) (conD (.int 1)) ixG) anil) (oneG sumG)) (conD (.int 7)) (intG (i2b fun i j => decide (i < j))))) (testD (binD (callD (acons (binD (varD 3) (conD (.int 1)) ixG) anil) (oneG lenG)) (conD (.int 4)) (intG (i2b fun i j => decide (i < j))))))) (seqS (setS 11 (lcD [16] (seqI (callP 2 F__law_states_that_fit (acons (varD 3) (acons (varD 4) anil)))) (nameT 16) (testD (callP 3 F__law_fits (acons (varD 3) (acons (varD 5) (acons (varD 16) anil))))) (varD 16)))
    (ifS (testD (binD (varD 11) (iteD (testD (binD (varD 9) (conD .none) (isNG' false))) (lstD anil) (callP 2 F__law_states_that_fit (acons (varD 3) (acons (varD 9) anil)))) (eqQ true))) (retS (conD (.bool false))) nilS)) nilS)
    (ifS (andT (testD (binD (varD 9) (conD .none) (isNG' true))) (notT (testD (callP 2 F__law_alike (acons (lstD (acons (callP 3 F_lies_in (acons (varD 3) (acons (binD (varD 10) (conD (.int 0)) ixG) (acons (varD 4) anil)))) (acons (callP 3 F_lies_in (acons (varD 3) (acons (binD (varD 10) (conD (.int 0)) ixG) (acons (varD 5) anil)))) anil))) (acons (lstD (acons (conD (.bool true)) (acons (conD (.bool true)) anil))) anil)))))) (retS (conD (.bool false))) nilS)))))))
theorem rest_ok {n F : Nat} {V : Nat → Int} {os : List Int} {T U : Nat → Nat → Int} (B : Bag) (i : Nat) (c2 c6 c7 c8 c9 c10 c11 : Cell) (hn : n ≤ 16) (hF1 : 1 ≤ F) (hF : F ≤ 4) (hV : ∀ f, f < F → 1 ≤ V f ∧ V f ≤ 12) (K : Kn n F V os T) (K2 : Kn n F V os U) (hs : ∀ f, f < F → U f n = T f n) :
    Turns (LawI (i + 1)) (restS [.no, .op (Bag.toD B), c2, .cl (house n F V), .cl (knowD os F T), .cl (knowD os F U), c6, c7, c8, c9, c10, c11, .no, .no, .no, .no, .no]) := by
  have ek : ∀ W : Nat → Nat → Int, knowD os F W = .tuple [.tuple (os.map .int), .tuple (rowsT F (n + 1) W)] := fun W => by unfold knowD; rw [K.len]
  obtain ⟨KM, hM⟩ := kn_max K K2 hs
  have s1 := sizes_of n F (by omega) T (.tuple (os.map .int))
  have lt := ltightened_ok F n (by omega) (by omega) (by omega) (maxT T U) fun f => T f n
  rw [ltold_kn KM fun f hf => (hM f hf).symm] at lt
  have j1 := joint_ok (V := V) K K2 hn hF
  have j2 := joint_ok (V := V) K2 K hn hF
  rw [maxT_comm (T := U)] at j2
  have l1 := lies_ok (V := V) KM K hn hF hM (fun f hf k hk => by unfold maxT; omega)
  have l2 := lies_ok (V := V) KM K2 hn hF (fun f hf => (hM f hf).trans (hs f hf).symm) (fun f hf k hk => by unfold maxT; omega)
  have NJ := nice_kn KM hn hF
  have N1 := nice_kn K hn hF
  have N2 := nice_kn K2 hn hF
  have N3 : Ok60 (.list [knowD os F (maxT T U), knowD os F (maxT T U), knowD os F (maxT T U)]) := by
    have := nice_lst (h := 3) (w := 3010) (xs := [knowD os F (maxT T U), knowD os F (maxT T U), knowD os F (maxT T U)]) (by
      intro x hx
      simp only [List.mem_cons, List.not_mem_nil, or_false, or_self] at hx
      rw [hx]; exact NJ)
    exact this.mono (by omega) (by show (3010 + 1) * 3 ≤ 1000000; omega)
  have N4 : Ok60 (.list [knowD os F T, knowD os F U]) := by
    have := nice_lst (h := 3) (w := 3010) (xs := [knowD os F T, knowD os F U]) (by
      intro x hx
      simp only [List.mem_cons, List.not_mem_nil, or_false] at hx
      rcases hx with rfl | rfl
      · exact N1
      · exact N2)
    exact this.mono (by omega) (by show (3010 + 1) * 2 ≤ 1000000; omega)
  have N5 : Ok60 (.list [.bool true, .bool true]) := by
    have := nice_lst (h := 0) (w := 0) (xs := [.bool true, .bool true]) (by
      intro x hx
      simp only [List.mem_cons, List.not_mem_nil, or_false, or_self] at hx
      rw [hx]; exact nice_bool true)
    exact this.mono (by omega) (by show (0 + 1) * 2 ≤ 1000000; omega)
  have a3 := alike_ok N3
  have a5 := alike_ok N5
  have r4 : ∀ {ρ : DL.Env}, repG ρ (.own [knowD os F T, knowD os F U]) = some (.cl (.str (PyData.list [knowD os F T, knowD os F U]).shown), ρ) := fun {ρ} => rep_own N4
  have es : ∀ (x : Str) {ρ : DL.Env}, eqQ true ρ (.cl (.str x)) (.cl (.str x)) = some (.cl (.bool false), ρ) := fun x {ρ} => by
    show some (Val.cl (.bool (true ^^ decide (x = x))), ρ) = _
    simp
  have small : n ≤ 5 → F ≤ 3 → ∃ X : List (List Int), F__law_states_that_fit [house n F V, knowD os F (maxT T U)] = some (.own (tups X)) ∧ Ok60 (.list (tups X)) ∧ ∃ Y : List (List Int), F__law_states_that_fit [house n F V, knowD os F T] = some (.own (tups Y)) ∧ Y.length ≤ 1024 ∧ (∀ l ∈ Y, F__law_fits [house n F V, knowD os F U, tupI l] = some (.cl (.bool (fitsB n F os U (stOf l))))) ∧ Y.filter (fun l => fitsB n F os U (stOf l)) = X := fun h5 h3 => by
    obtain ⟨L, r, er, S, hr⟩ := all_states_ok n F V h5 (by omega)
    have q1 := that_fit_ok h5 h3 K er S hr
    have qM := that_fit_ok h5 h3 KM er S hr
    have hm : L.length ≤ 1024 := by
      have a1 : (F + 1) ^ n ≤ 4 ^ n := Nat.pow_le_pow_left (by omega) _
      have a2 : 4 ^ n ≤ 4 ^ 5 := Nat.pow_le_pow_right (by omega) (by omega)
      have := S.many
      omega
    refine ⟨_, qM, ?_, _, q1, ?_, fun l hl => ?_, ?_⟩
    · have := nice_lst (h := 1) (w := 22 * 5) (xs := tups (fitting n F os (maxT T U) L)) (by
        intro x hx
        obtain ⟨m, hm, rfl⟩ := List.mem_map.mp hx
        have hm := (List.mem_filter.mp hm).1
        exact nice_ints (fun y hy => by have := S.rng m hm y hy; omega) (by rw [S.len m hm]; omega))
      refine this.mono (by omega) ?_
      unfold tups
      rw [List.length_map]
      have h1 := List.length_filter_le (fun l => fitsB n F os (maxT T U) (stOf l)) L
      have : (22 * 5 + 1) * (fitting n F os (maxT T U) L).length ≤ (22 * 5 + 1) * 1024 := Nat.mul_le_mul_left _ (by unfold fitting; omega)
      omega
    · exact Nat.le_trans (List.length_filter_le _ _) hm
    · have hl := (List.mem_filter.mp hl).1
      have := fits_ok n F V (stOf l) os U hn hF K.perm (fun f hf => by have := K2.bound hf (Nat.le_refl n); omega)
      unfold FitEnd at this
      rw [tupI_iv, S.len l hl]
      exact this
    · unfold fitting
      rw [List.filter_filter]
      apply List.filter_congr
      intro l _
      rw [Bool.and_comm]
      exact max_fits hs
  have hF3 : (-1000000 : Int) ≤ F ∧ (F : Int) ≤ 1000000 := by omega
  have go : ∀ c6, lcGo [12, 13] (tupT [12, 13]) yesT (callD (acons (lcD [14, 15] (zipI (acons (varD 12) (acons (varD 13) anil))) (tupT [14, 15]) yesT (callD (acons (varD 14) (acons (varD 15) anil)) max2G)) anil) (oneG tupleG)) (gl F fun f => .tuple [.tuple (iv (n + 1) (T f)), .tuple (iv (n + 1) (U f))])
      [.no, .op (Bag.toD B), c2, .cl (house n F V), .cl (.tuple [.tuple (os.map .int), .tuple (rowsT F (n + 1) T)]), .cl (.tuple [.tuple (os.map .int), .tuple (rowsT F (n + 1) U)]), c6, c7, c8, c9, c10, c11, .no, .no, .no, .no, .no] =
      some (.own (rowsT F (n + 1) (maxT T U)), [.no, .op (Bag.toD B), c2, .cl (house n F V), .cl (.tuple [.tuple (os.map .int), .tuple (rowsT F (n + 1) T)]), .cl (.tuple [.tuple (os.map .int), .tuple (rowsT F (n + 1) U)]), c6, c7, c8, c9, c10, c11, .no, .no, .no, .no, .no]) := fun c6 => by
    rw [lc_gl (fun f => .tuple (iv (n + 1) (maxT T U f))) (by simp) (by omega) (by simp) (by
      intro f hf
      simp
      rw [lc_iv2 (n := n + 1) (w := T f) (v := U f) (maxT T U f) (by simp) (by omega) (by simp) (by
        intro k hk
        simp
        rfl)]
      simp)]
    rfl
  have hz : zipD (rowsT F (n + 1) T) (rowsT F (n + 1) U) = gl F fun f => .tuple [.tuple (iv (n + 1) (T f)), .tuple (iv (n + 1) (U f))] := gl_zip
  unfold restS
  simp only [ek] at *
  unfold house at *
  simp [hz, go, s1, lt, r4, j1, j2, a3, es, hF3.1, hF3.2]
  generalize (PyData.list [PyData.tuple [PyData.tuple (os.map .int), PyData.tuple (rowsT F (n + 1) T)], PyData.tuple [PyData.tuple (os.map .int), PyData.tuple (rowsT F (n + 1) U)]]).shown = sh at *
  by_cases c1 : (n : Int) < 6
  · by_cases c2 : ((List.range F).map V).sum < 7
    · by_cases c3 : (F : Int) < 4
      · obtain ⟨X, eX, NX, Y, eY, hY, fY, rfl⟩ := small (by omega) (by omega)
        have fm : Y.filterMap (fun l => if fitsB n F os U (stOf l) = true then some (tupI l) else none) = tups (Y.filter fun l => fitsB n F os U (stOf l)) := by
          unfold tups
          clear eX NX eY hY fY
          induction Y with
          | nil => rfl
          | cons a l ih =>
            rw [List.filterMap_cons, List.filter_cons]
            cases h : fitsB n F os U (stOf a) <;> simp [ih]
        have go2 : ∀ {c2 c6 c7 c8 c9 c10 c11 : Cell}, lcGo [16] (nameT 16) (testD (callP 3 F__law_fits (acons (varD 3) (acons (varD 5) (acons (varD 16) anil))))) (varD 16) (tups Y)
            [.no, .op (Bag.toD B), c2, .cl (.tuple [.int n, .tuple (iv F V)]), .cl (.tuple [.tuple (os.map .int), .tuple (rowsT F (n + 1) T)]), .cl (.tuple [.tuple (os.map .int), .tuple (rowsT F (n + 1) U)]), c6, c7, c8, c9, c10, c11, .no, .no, .no, .no, .no] =
            some (.own (tups (Y.filter fun l => fitsB n F os U (stOf l))), [.no, .op (Bag.toD B), c2, .cl (.tuple [.int n, .tuple (iv F V)]), .cl (.tuple [.tuple (os.map .int), .tuple (rowsT F (n + 1) T)]), .cl (.tuple [.tuple (os.map .int), .tuple (rowsT F (n + 1) U)]), c6, c7, c8, c9, c10, c11, .no, .no, .no, .no, .no]) := fun {c2 c6 c7 c8 c9 c10 c11} => by
          conv => lhs; unfold tups
          rw [lc_mapF (fun l => if fitsB n F os U (stOf l) = true then some (tupI l) else none) (by simp) (by omega) (by simp) (by
            intro l hl
            have := fY l hl
            cases q : fitsB n F os U (stOf l) with
            | true => rw [q] at this; simp [this]
            | false => rw [q] at this; simp [this]), fm]
        generalize tups (Y.filter fun l => fitsB n F os U (stOf l)) = Z at *
        have eqq : ∀ {ρ : DL.Env}, ρ.getD 11 .no = .op Z → eqQ true ρ (.sl 11) (.own Z) = some (.cl (.bool false), ρ) := fun {ρ} h => eq_slO h NX
        rw [if_pos c1, if_pos c2]
        simp [c3, eY, go2, eX, eqq, l1, l2, a5]
        exact turns_nx ⟨B, _, _, _, _, _, _, _, _, _, _, rfl⟩
      · rw [if_pos c1, if_pos c2]
        simp [c3, l1, l2, a5]
        exact turns_nx ⟨B, _, _, _, _, _, _, _, _, _, _, rfl⟩
    · rw [if_pos c1, if_neg c2]
      simp [l1, l2, a5]
      exact turns_nx ⟨B, _, _, _, _, _, _, _, _, _, _, rfl⟩
  · rw [if_neg c1]
    simp [l1, l2, a5]
    exact turns_nx ⟨B, _, _, _, _, _, _, _, _, _, _, rfl⟩
theorem law_bag (B : Bag) : LawEnd (g_law [.no, .op (Bag.toD B), .no, .no, .no, .no, .no, .no, .no, .no, .no, .no, .no, .no, .no, .no, .no]) := by
  unfold g_law
  rw [show (seqS (setS 6 (lcD [12, 13] (zipI (acons (binD (varD 4) (conD (.int 1)) ixG) (acons (binD (varD 5) (conD (.int 1)) ixG) anil))) (tupT [12, 13]) yesT (callD (acons (lcD [14, 15] (zipI (acons (varD 12) (acons (varD 13) anil))) (tupT [14, 15]) yesT (callD (acons (varD 14) (acons (varD 15) anil)) max2G)) anil) (oneG tupleG)))) _) = restS from rfl]
  simp
  refine use_loop (P := fun x => LawEnd (kSq x _)) LawI ?_ ?_ ?_
  · exact ⟨B, _, _, _, _, _, _, _, _, _, _, rfl⟩
  · rintro i d ρ hd ⟨B, c2, c3, c4, c5, c6, c7, c8, c9, c10, c11, rfl⟩
    obtain ⟨hi, rfl⟩ := rng_get hd
    obtain ⟨n, F, V, B1, e1, hn, hF1, hF, hV⟩ := some_house_ok B [5, 16, 5, 8] (by simp) (by simp) (by simp)
    obtain ⟨d, B2, e2, os, T, rfl, K⟩ := some_known_ok B1 n F V hn hF1 hF hV
    have ek : ∀ W : Nat → Nat → Int, knowD os F W = .tuple [.tuple (os.map .int), .tuple (rowsT F (n + 1) W)] := fun W => by unfold knowD; rw [K.len]
    have s1 := sizes_of n F (by omega) T (.tuple (os.map .int))
    have up : ∀ f, f < F → prev (fun f => T f n) f ≤ T f n ∧ T f n - prev (fun f => T f n) f ≤ V f := fun f hf => by
      cases f with
      | zero =>
        have h1 := K.bound hf (Nat.le_refl n)
        have h2 := K.room hf
        show (0 : Int) ≤ _ ∧ T 0 n - 0 ≤ _
        omega
      | succ f =>
        have h1 := K.tight.up f hf n (Nat.le_refl n)
        have h2 := K.next f hf
        show T f n ≤ _ ∧ T (f + 1) n - T f n ≤ _
        omega
    obtain ⟨os2, U, B3, e3, K2', hs⟩ := of_sizes_ok (V := V) B2 hn hF1 hF (S := fun f => T f n) (fun f hf => (up f hf).1) (fun f hf => by have := K.bound hf (Nat.le_refl n); omega) (fun f hf => (up f hf).2)
    have K2 := kn_perm K.perm K2'
    have ek2 : knowD os2 F U = .tuple [.tuple (os2.map .int), .tuple (rowsT F (n + 1) U)] := by unfold knowD; rw [K2'.len]
    obtain ⟨t, B4, e4, t0, t1⟩ := take_ok B3 2 (by decide) (by decide)
    have hh : house n F V = .tuple [.int n, .tuple (iv F V)] := rfl
    have e1' : F__law_some_house B.toD [.list [.int 5, .int 16, .int 5, .int 8]] = _ := e1
    have rest := fun B U' (K' : Kn n F V os U') hs' c2 c6 c7 c8 c9 c10 c11 => rest_ok B i c2 c6 c7 c8 c9 c10 c11 hn hF1 hF hV K K' hs'
    rw [ek2] at e3
    simp only [ek] at rest e2 s1
    simp [e1', e2, s1, e3, e4]
    by_cases ht : t = 0
    · obtain ⟨u, B5, e5, u0, u1⟩ := take_ok B4 2 (by decide) (by decide)
      subst ht
      simp [e5]
      by_cases hu : u = 0
      · obtain ⟨U1, B6, e6, K6, h6⟩ := sharper_ok B5 K2 hn hF1 hF
        obtain ⟨U2, B7, e7, K7, h7⟩ := sharper_ok B6 K6 hn hF1 hF
        simp only [ek] at e6 e7
        subst hu
        simp [e6, e7]
        exact rest B7 U2 K7 (fun f hf => (h7 f hf).trans ((h6 f hf).trans (hs f hf))) _ _ _ _ _ _ _
      · obtain ⟨U1, B6, e6, K6, h6⟩ := sharper_ok B5 K hn hF1 hF
        obtain ⟨U2, B7, e7, K7, h7⟩ := sharper_ok B6 K6 hn hF1 hF
        simp only [ek] at e6 e7
        simp [hu, e6, e7]
        exact rest B7 U2 K7 (fun f hf => (h7 f hf).trans (h6 f hf)) _ _ _ _ _ _ _
    · simp [ht]
      exact rest B4 U K2 hs _ _ _ _ _ _ _
  · rintro ρ' ⟨B, c2, c3, c4, c5, c6, c7, c8, c9, c10, c11, rfl⟩
    simp
    exact ⟨_, rfl⟩
theorem law_true : ∀ ns : List Int, ns.length ≤ 63 → ∃ ρ', g_law (Cell.no :: Cell.op (bagD ns) :: List.replicate 15 .no) = some (.rt (.cl (.bool true)) ρ') := by
  intro ns hns
  have e : bagD ns = Bag.toD ⟨0, 1234567891, 0, (ns.take 63).map fun i => if i < 0 then -i else i, by simp; omega⟩ := rfl
  rw [e]
  exact law_bag _
end K37
namespace K37
open PySem PySem.Spec PyProof.Rows L2 DL
theorem def_of {K : PySem.W.Frag} {T : TL} {h : Heap} {mg : Str → Option Value} (X : K.In h) (G : h.Ns mainGlobals mg) {x : Str} {st : Stmt} {ps : List Str} {f : Addr} {od an : Option Addr} {sl : Array (Option Value)} {oc kV dc pm cd ct : Value}
    (a : PySem.W.nsIn K mainGlobals x = some (some (.ref f))) (l : K.lookup f = some ⟨oc, od, .func (PySem.W.fnOf x x (defArgs st) (defBody st) (defScope st) .none kV dc pm an cd ct), sl⟩) (c : PySem.W.codeIn K cd x = true) (k : PySem.W.keepIn K (.ref f) = true)
    (hb : ∀ (kV doc pm : Value) (an : Option Addr) (cdv ct : Value) (us : List Value), us.length = ps.length → bindArgs (PySem.W.fnOf x x (defArgs st) (defBody st) (defScope st) .none kV doc pm an cdv ct) ⟨us, []⟩ = pure (ps.zip us)) : Def ⟨K, T⟩ mg x st ps :=
  have F := fun_mk (K := K) (st := st) l c k
  ⟨⟨f, _, F, PySem.W.mg_of X G a, k, F.binds hb⟩⟩
theorem def_ofC {K : PySem.W.Frag} {T : TL} {h : Heap} {mg : Str → Option Value} (X : K.In h) (G : h.Ns mainGlobals mg) {x : Str} {st : Stmt} {ps : List Str} {f lc : Addr} {od an : Option Addr} {sl : Array (Option Value)} {oc kV dc pm ct : Value}
    (a : PySem.W.nsIn K mainGlobals x = some (some (.ref f))) (l : K.lookup f = some ⟨oc, od, .func (PySem.W.fnOf x x (defArgs st) (defBody st) (defScope st) .none kV dc pm an (.ref lc) ct), sl⟩) (c : PySem.W.codeIn K (.ref lc) x = true) (k : PySem.W.keepIn K (.ref f) = true)
    (hb : ∀ (kV doc pm : Value) (an : Option Addr) (cdv ct : Value) (us : List Value), us.length = ps.length → bindArgs (PySem.W.fnOf x x (defArgs st) (defBody st) (defScope st) .none kV doc pm an cdv ct) ⟨us, []⟩ = pure (ps.zip us)) : DefC ⟨K, T⟩ mg x st ps lc :=
  have F := fun_mk (K := K) (st := st) l c k
  ⟨⟨f, _, F, PySem.W.mg_of X G a, k, F.binds hb, rfl⟩⟩
set_option maxHeartbeats 0 in
theorem all_of {P : Program} {w : World} {K : PySem.W.Frag} {h : Heap} {mg : Str → Option Value} {fa lp__law_first_known : Addr} (X : K.In h) (G : h.Ns mainGlobals mg) (hfa : mg "law" = some (.ref fa))
    {fknownusizes : Addr} {odknownusizes anknownusizes : Option Addr} {slknownusizes : Array (Option Value)} {ocknownusizes kVknownusizes dcknownusizes pmknownusizes cdknownusizes ctknownusizes : Value} (aknownusizes : PySem.W.nsIn K mainGlobals "known_sizes" = some (some (.ref fknownusizes))) (lknownusizes : K.lookup fknownusizes = some ⟨ocknownusizes, odknownusizes, .func (PySem.W.fnOf "known_sizes" "known_sizes" (defArgs s_known_sizes) (defBody s_known_sizes) (defScope s_known_sizes) .none kVknownusizes dcknownusizes pmknownusizes anknownusizes cdknownusizes ctknownusizes), slknownusizes⟩) (cknownusizes : PySem.W.codeIn K cdknownusizes "known_sizes" = true) (kknownusizes : PySem.W.keepIn K (.ref fknownusizes) = true)
    {fgreateruones : Addr} {odgreateruones angreateruones : Option Addr} {slgreateruones : Array (Option Value)} {ocgreateruones kVgreateruones dcgreateruones pmgreateruones cdgreateruones ctgreateruones : Value} (agreateruones : PySem.W.nsIn K mainGlobals "greater_ones" = some (some (.ref fgreateruones))) (lgreateruones : K.lookup fgreateruones = some ⟨ocgreateruones, odgreateruones, .func (PySem.W.fnOf "greater_ones" "greater_ones" (defArgs s_greater_ones) (defBody s_greater_ones) (defScope s_greater_ones) .none kVgreateruones dcgreateruones pmgreateruones angreateruones cdgreateruones ctgreateruones), slgreateruones⟩) (cgreateruones : PySem.W.codeIn K cdgreateruones "greater_ones" = true) (kgreateruones : PySem.W.keepIn K (.ref fgreateruones) = true)
    {fstateuofulots : Addr} {odstateuofulots anstateuofulots : Option Addr} {slstateuofulots : Array (Option Value)} {ocstateuofulots kVstateuofulots dcstateuofulots pmstateuofulots cdstateuofulots ctstateuofulots : Value} (astateuofulots : PySem.W.nsIn K mainGlobals "state_of_lots" = some (some (.ref fstateuofulots))) (lstateuofulots : K.lookup fstateuofulots = some ⟨ocstateuofulots, odstateuofulots, .func (PySem.W.fnOf "state_of_lots" "state_of_lots" (defArgs s_state_of_lots) (defBody s_state_of_lots) (defScope s_state_of_lots) .none kVstateuofulots dcstateuofulots pmstateuofulots anstateuofulots cdstateuofulots ctstateuofulots), slstateuofulots⟩) (cstateuofulots : PySem.W.codeIn K cdstateuofulots "state_of_lots" = true) (kstateuofulots : PySem.W.keepIn K (.ref fstateuofulots) = true)
    {fstateuwithulot : Addr} {odstateuwithulot anstateuwithulot : Option Addr} {slstateuwithulot : Array (Option Value)} {ocstateuwithulot kVstateuwithulot dcstateuwithulot pmstateuwithulot cdstateuwithulot ctstateuwithulot : Value} (astateuwithulot : PySem.W.nsIn K mainGlobals "state_with_lot" = some (some (.ref fstateuwithulot))) (lstateuwithulot : K.lookup fstateuwithulot = some ⟨ocstateuwithulot, odstateuwithulot, .func (PySem.W.fnOf "state_with_lot" "state_with_lot" (defArgs s_state_with_lot) (defBody s_state_with_lot) (defScope s_state_with_lot) .none kVstateuwithulot dcstateuwithulot pmstateuwithulot anstateuwithulot cdstateuwithulot ctstateuwithulot), slstateuwithulot⟩) (cstateuwithulot : PySem.W.codeIn K cdstateuwithulot "state_with_lot" = true) (kstateuwithulot : PySem.W.keepIn K (.ref fstateuwithulot) = true)
    {fnumberuwithin : Addr} {odnumberuwithin annumberuwithin : Option Addr} {slnumberuwithin : Array (Option Value)} {ocnumberuwithin kVnumberuwithin dcnumberuwithin pmnumberuwithin cdnumberuwithin ctnumberuwithin : Value} (anumberuwithin : PySem.W.nsIn K mainGlobals "number_within" = some (some (.ref fnumberuwithin))) (lnumberuwithin : K.lookup fnumberuwithin = some ⟨ocnumberuwithin, odnumberuwithin, .func (PySem.W.fnOf "number_within" "number_within" (defArgs s_number_within) (defBody s_number_within) (defScope s_number_within) .none kVnumberuwithin dcnumberuwithin pmnumberuwithin annumberuwithin cdnumberuwithin ctnumberuwithin), slnumberuwithin⟩) (cnumberuwithin : PySem.W.codeIn K cdnumberuwithin "number_within" = true) (knumberuwithin : PySem.W.keepIn K (.ref fnumberuwithin) = true)
    {fcanubeutogether : Addr} {odcanubeutogether ancanubeutogether : Option Addr} {slcanubeutogether : Array (Option Value)} {occanubeutogether kVcanubeutogether dccanubeutogether pmcanubeutogether cdcanubeutogether ctcanubeutogether : Value} (acanubeutogether : PySem.W.nsIn K mainGlobals "can_be_together" = some (some (.ref fcanubeutogether))) (lcanubeutogether : K.lookup fcanubeutogether = some ⟨occanubeutogether, odcanubeutogether, .func (PySem.W.fnOf "can_be_together" "can_be_together" (defArgs s_can_be_together) (defBody s_can_be_together) (defScope s_can_be_together) .none kVcanubeutogether dccanubeutogether pmcanubeutogether ancanubeutogether cdcanubeutogether ctcanubeutogether), slcanubeutogether⟩) (ccanubeutogether : PySem.W.codeIn K cdcanubeutogether "can_be_together" = true) (kcanubeutogether : PySem.W.keepIn K (.ref fcanubeutogether) = true)
    {fchoiceuwithin : Addr} {odchoiceuwithin anchoiceuwithin : Option Addr} {slchoiceuwithin : Array (Option Value)} {occhoiceuwithin kVchoiceuwithin dcchoiceuwithin pmchoiceuwithin cdchoiceuwithin ctchoiceuwithin : Value} (achoiceuwithin : PySem.W.nsIn K mainGlobals "choice_within" = some (some (.ref fchoiceuwithin))) (lchoiceuwithin : K.lookup fchoiceuwithin = some ⟨occhoiceuwithin, odchoiceuwithin, .func (PySem.W.fnOf "choice_within" "choice_within" (defArgs s_choice_within) (defBody s_choice_within) (defScope s_choice_within) .none kVchoiceuwithin dcchoiceuwithin pmchoiceuwithin anchoiceuwithin cdchoiceuwithin ctchoiceuwithin), slchoiceuwithin⟩) (cchoiceuwithin : PySem.W.codeIn K cdchoiceuwithin "choice_within" = true) (kchoiceuwithin : PySem.W.keepIn K (.ref fchoiceuwithin) = true)
    {fleastuwithin : Addr} {odleastuwithin anleastuwithin : Option Addr} {slleastuwithin : Array (Option Value)} {ocleastuwithin kVleastuwithin dcleastuwithin pmleastuwithin cdleastuwithin ctleastuwithin : Value} (aleastuwithin : PySem.W.nsIn K mainGlobals "least_within" = some (some (.ref fleastuwithin))) (lleastuwithin : K.lookup fleastuwithin = some ⟨ocleastuwithin, odleastuwithin, .func (PySem.W.fnOf "least_within" "least_within" (defArgs s_least_within) (defBody s_least_within) (defScope s_least_within) .none kVleastuwithin dcleastuwithin pmleastuwithin anleastuwithin cdleastuwithin ctleastuwithin), slleastuwithin⟩) (cleastuwithin : PySem.W.codeIn K cdleastuwithin "least_within" = true) (kleastuwithin : PySem.W.keepIn K (.ref fleastuwithin) = true)
    {fcutsuof : Addr} {odcutsuof ancutsuof : Option Addr} {slcutsuof : Array (Option Value)} {occutsuof kVcutsuof dccutsuof pmcutsuof cdcutsuof ctcutsuof : Value} (acutsuof : PySem.W.nsIn K mainGlobals "cuts_of" = some (some (.ref fcutsuof))) (lcutsuof : K.lookup fcutsuof = some ⟨occutsuof, odcutsuof, .func (PySem.W.fnOf "cuts_of" "cuts_of" (defArgs s_cuts_of) (defBody s_cuts_of) (defScope s_cuts_of) .none kVcutsuof dccutsuof pmcutsuof ancutsuof cdcutsuof ctcutsuof), slcutsuof⟩) (ccutsuof : PySem.W.codeIn K cdcutsuof "cuts_of" = true) (kcutsuof : PySem.W.keepIn K (.ref fcutsuof) = true)
    {fstateubeyond : Addr} {odstateubeyond anstateubeyond : Option Addr} {slstateubeyond : Array (Option Value)} {ocstateubeyond kVstateubeyond dcstateubeyond pmstateubeyond cdstateubeyond ctstateubeyond : Value} (astateubeyond : PySem.W.nsIn K mainGlobals "state_beyond" = some (some (.ref fstateubeyond))) (lstateubeyond : K.lookup fstateubeyond = some ⟨ocstateubeyond, odstateubeyond, .func (PySem.W.fnOf "state_beyond" "state_beyond" (defArgs s_state_beyond) (defBody s_state_beyond) (defScope s_state_beyond) .none kVstateubeyond dcstateubeyond pmstateubeyond anstateubeyond cdstateubeyond ctstateubeyond), slstateubeyond⟩) (cstateubeyond : PySem.W.codeIn K cdstateubeyond "state_beyond" = true) (kstateubeyond : PySem.W.keepIn K (.ref fstateubeyond) = true)
    {fliesuin : Addr} {odliesuin anliesuin : Option Addr} {slliesuin : Array (Option Value)} {ocliesuin kVliesuin dcliesuin pmliesuin cdliesuin ctliesuin : Value} (aliesuin : PySem.W.nsIn K mainGlobals "lies_in" = some (some (.ref fliesuin))) (lliesuin : K.lookup fliesuin = some ⟨ocliesuin, odliesuin, .func (PySem.W.fnOf "lies_in" "lies_in" (defArgs s_lies_in) (defBody s_lies_in) (defScope s_lies_in) .none kVliesuin dcliesuin pmliesuin anliesuin cdliesuin ctliesuin), slliesuin⟩) (cliesuin : PySem.W.codeIn K cdliesuin "lies_in" = true) (kliesuin : PySem.W.keepIn K (.ref fliesuin) = true)
    {fjoint : Addr} {odjoint anjoint : Option Addr} {sljoint : Array (Option Value)} {ocjoint kVjoint dcjoint pmjoint cdjoint ctjoint : Value} (ajoint : PySem.W.nsIn K mainGlobals "joint" = some (some (.ref fjoint))) (ljoint : K.lookup fjoint = some ⟨ocjoint, odjoint, .func (PySem.W.fnOf "joint" "joint" (defArgs s_joint) (defBody s_joint) (defScope s_joint) .none kVjoint dcjoint pmjoint anjoint cdjoint ctjoint), sljoint⟩) (cjoint : PySem.W.codeIn K cdjoint "joint" = true) (kjoint : PySem.W.keepIn K (.ref fjoint) = true)
    {fulawutake : Addr} {odulawutake anulawutake : Option Addr} {slulawutake : Array (Option Value)} {oculawutake kVulawutake dculawutake pmulawutake cdulawutake ctulawutake : Value} (aulawutake : PySem.W.nsIn K mainGlobals "_law_take" = some (some (.ref fulawutake))) (lulawutake : K.lookup fulawutake = some ⟨oculawutake, odulawutake, .func (PySem.W.fnOf "_law_take" "_law_take" (defArgs s__law_take) (defBody s__law_take) (defScope s__law_take) .none kVulawutake dculawutake pmulawutake anulawutake cdulawutake ctulawutake), slulawutake⟩) (culawutake : PySem.W.codeIn K cdulawutake "_law_take" = true) (kulawutake : PySem.W.keepIn K (.ref fulawutake) = true)
    {fulawuone : Addr} {odulawuone anulawuone : Option Addr} {slulawuone : Array (Option Value)} {oculawuone kVulawuone dculawuone pmulawuone cdulawuone ctulawuone : Value} (aulawuone : PySem.W.nsIn K mainGlobals "_law_one" = some (some (.ref fulawuone))) (lulawuone : K.lookup fulawuone = some ⟨oculawuone, odulawuone, .func (PySem.W.fnOf "_law_one" "_law_one" (defArgs s__law_one) (defBody s__law_one) (defScope s__law_one) .none kVulawuone dculawuone pmulawuone anulawuone cdulawuone ctulawuone), slulawuone⟩) (culawuone : PySem.W.codeIn K cdulawuone "_law_one" = true) (kulawuone : PySem.W.keepIn K (.ref fulawuone) = true)
    {fulawumixed : Addr} {odulawumixed anulawumixed : Option Addr} {slulawumixed : Array (Option Value)} {oculawumixed kVulawumixed dculawumixed pmulawumixed cdulawumixed ctulawumixed : Value} (aulawumixed : PySem.W.nsIn K mainGlobals "_law_mixed" = some (some (.ref fulawumixed))) (lulawumixed : K.lookup fulawumixed = some ⟨oculawumixed, odulawumixed, .func (PySem.W.fnOf "_law_mixed" "_law_mixed" (defArgs s__law_mixed) (defBody s__law_mixed) (defScope s__law_mixed) .none kVulawumixed dculawumixed pmulawumixed anulawumixed cdulawumixed ctulawumixed), slulawumixed⟩) (culawumixed : PySem.W.codeIn K cdulawumixed "_law_mixed" = true) (kulawumixed : PySem.W.keepIn K (.ref fulawumixed) = true)
    {fulawualike : Addr} {odulawualike anulawualike : Option Addr} {slulawualike : Array (Option Value)} {oculawualike kVulawualike dculawualike pmulawualike cdulawualike ctulawualike : Value} (aulawualike : PySem.W.nsIn K mainGlobals "_law_alike" = some (some (.ref fulawualike))) (lulawualike : K.lookup fulawualike = some ⟨oculawualike, odulawualike, .func (PySem.W.fnOf "_law_alike" "_law_alike" (defArgs s__law_alike) (defBody s__law_alike) (defScope s__law_alike) .none kVulawualike dculawualike pmulawualike anulawualike cdulawualike ctulawualike), slulawualike⟩) (culawualike : PySem.W.codeIn K cdulawualike "_law_alike" = true) (kulawualike : PySem.W.keepIn K (.ref fulawualike) = true)
    {fulawuflat : Addr} {odulawuflat anulawuflat : Option Addr} {slulawuflat : Array (Option Value)} {oculawuflat kVulawuflat dculawuflat pmulawuflat cdulawuflat ctulawuflat : Value} (aulawuflat : PySem.W.nsIn K mainGlobals "_law_flat" = some (some (.ref fulawuflat))) (lulawuflat : K.lookup fulawuflat = some ⟨oculawuflat, odulawuflat, .func (PySem.W.fnOf "_law_flat" "_law_flat" (defArgs s__law_flat) (defBody s__law_flat) (defScope s__law_flat) .none kVulawuflat dculawuflat pmulawuflat anulawuflat cdulawuflat ctulawuflat), slulawuflat⟩) (culawuflat : PySem.W.codeIn K cdulawuflat "_law_flat" = true) (kulawuflat : PySem.W.keepIn K (.ref fulawuflat) = true)
    {fulawuhouse : Addr} {odulawuhouse anulawuhouse : Option Addr} {slulawuhouse : Array (Option Value)} {oculawuhouse kVulawuhouse dculawuhouse pmulawuhouse cdulawuhouse ctulawuhouse : Value} (aulawuhouse : PySem.W.nsIn K mainGlobals "_law_house" = some (some (.ref fulawuhouse))) (lulawuhouse : K.lookup fulawuhouse = some ⟨oculawuhouse, odulawuhouse, .func (PySem.W.fnOf "_law_house" "_law_house" (defArgs s__law_house) (defBody s__law_house) (defScope s__law_house) .none kVulawuhouse dculawuhouse pmulawuhouse anulawuhouse cdulawuhouse ctulawuhouse), slulawuhouse⟩) (culawuhouse : PySem.W.codeIn K cdulawuhouse "_law_house" = true) (kulawuhouse : PySem.W.keepIn K (.ref fulawuhouse) = true)
    {fulawuroomsuwithin : Addr} {odulawuroomsuwithin anulawuroomsuwithin : Option Addr} {slulawuroomsuwithin : Array (Option Value)} {oculawuroomsuwithin kVulawuroomsuwithin dculawuroomsuwithin pmulawuroomsuwithin cdulawuroomsuwithin ctulawuroomsuwithin : Value} (aulawuroomsuwithin : PySem.W.nsIn K mainGlobals "_law_rooms_within" = some (some (.ref fulawuroomsuwithin))) (lulawuroomsuwithin : K.lookup fulawuroomsuwithin = some ⟨oculawuroomsuwithin, odulawuroomsuwithin, .func (PySem.W.fnOf "_law_rooms_within" "_law_rooms_within" (defArgs s__law_rooms_within) (defBody s__law_rooms_within) (defScope s__law_rooms_within) .none kVulawuroomsuwithin dculawuroomsuwithin pmulawuroomsuwithin anulawuroomsuwithin cdulawuroomsuwithin ctulawuroomsuwithin), slulawuroomsuwithin⟩) (culawuroomsuwithin : PySem.W.codeIn K cdulawuroomsuwithin "_law_rooms_within" = true) (kulawuroomsuwithin : PySem.W.keepIn K (.ref fulawuroomsuwithin) = true)
    {fulawuwithin : Addr} {odulawuwithin anulawuwithin : Option Addr} {slulawuwithin : Array (Option Value)} {oculawuwithin kVulawuwithin dculawuwithin pmulawuwithin cdulawuwithin ctulawuwithin : Value} (aulawuwithin : PySem.W.nsIn K mainGlobals "_law_within" = some (some (.ref fulawuwithin))) (lulawuwithin : K.lookup fulawuwithin = some ⟨oculawuwithin, odulawuwithin, .func (PySem.W.fnOf "_law_within" "_law_within" (defArgs s__law_within) (defBody s__law_within) (defScope s__law_within) .none kVulawuwithin dculawuwithin pmulawuwithin anulawuwithin cdulawuwithin ctulawuwithin), slulawuwithin⟩) (culawuwithin : PySem.W.codeIn K cdulawuwithin "_law_within" = true) (kulawuwithin : PySem.W.keepIn K (.ref fulawuwithin) = true)
    {fulawusizes : Addr} {odulawusizes anulawusizes : Option Addr} {slulawusizes : Array (Option Value)} {oculawusizes kVulawusizes dculawusizes pmulawusizes cdulawusizes ctulawusizes : Value} (aulawusizes : PySem.W.nsIn K mainGlobals "_law_sizes" = some (some (.ref fulawusizes))) (lulawusizes : K.lookup fulawusizes = some ⟨oculawusizes, odulawusizes, .func (PySem.W.fnOf "_law_sizes" "_law_sizes" (defArgs s__law_sizes) (defBody s__law_sizes) (defScope s__law_sizes) .none kVulawusizes dculawusizes pmulawusizes anulawusizes cdulawusizes ctulawusizes), slulawusizes⟩) (culawusizes : PySem.W.codeIn K cdulawusizes "_law_sizes" = true) (kulawusizes : PySem.W.keepIn K (.ref fulawusizes) = true)
    {fulawustate : Addr} {odulawustate anulawustate : Option Addr} {slulawustate : Array (Option Value)} {oculawustate kVulawustate dculawustate pmulawustate cdulawustate ctulawustate : Value} (aulawustate : PySem.W.nsIn K mainGlobals "_law_state" = some (some (.ref fulawustate))) (lulawustate : K.lookup fulawustate = some ⟨oculawustate, odulawustate, .func (PySem.W.fnOf "_law_state" "_law_state" (defArgs s__law_state) (defBody s__law_state) (defScope s__law_state) .none kVulawustate dculawustate pmulawustate anulawustate cdulawustate ctulawustate), slulawustate⟩) (culawustate : PySem.W.codeIn K cdulawustate "_law_state" = true) (kulawustate : PySem.W.keepIn K (.ref fulawustate) = true)
    {fulawufullustate : Addr} {odulawufullustate anulawufullustate : Option Addr} {slulawufullustate : Array (Option Value)} {oculawufullustate kVulawufullustate dculawufullustate pmulawufullustate cdulawufullustate ctulawufullustate : Value} (aulawufullustate : PySem.W.nsIn K mainGlobals "_law_full_state" = some (some (.ref fulawufullustate))) (lulawufullustate : K.lookup fulawufullustate = some ⟨oculawufullustate, odulawufullustate, .func (PySem.W.fnOf "_law_full_state" "_law_full_state" (defArgs s__law_full_state) (defBody s__law_full_state) (defScope s__law_full_state) .none kVulawufullustate dculawufullustate pmulawufullustate anulawufullustate cdulawufullustate ctulawufullustate), slulawufullustate⟩) (culawufullustate : PySem.W.codeIn K cdulawufullustate "_law_full_state" = true) (kulawufullustate : PySem.W.keepIn K (.ref fulawufullustate) = true)
    {fulawustart : Addr} {odulawustart anulawustart : Option Addr} {slulawustart : Array (Option Value)} {oculawustart kVulawustart dculawustart pmulawustart cdulawustart ctulawustart : Value} (aulawustart : PySem.W.nsIn K mainGlobals "_law_start" = some (some (.ref fulawustart))) (lulawustart : K.lookup fulawustart = some ⟨oculawustart, odulawustart, .func (PySem.W.fnOf "_law_start" "_law_start" (defArgs s__law_start) (defBody s__law_start) (defScope s__law_start) .none kVulawustart dculawustart pmulawustart anulawustart cdulawustart ctulawustart), slulawustart⟩) (culawustart : PySem.W.codeIn K cdulawustart "_law_start" = true) (kulawustart : PySem.W.keepIn K (.ref fulawustart) = true)
    {fulawudone : Addr} {odulawudone anulawudone : Option Addr} {slulawudone : Array (Option Value)} {oculawudone kVulawudone dculawudone pmulawudone cdulawudone ctulawudone : Value} (aulawudone : PySem.W.nsIn K mainGlobals "_law_done" = some (some (.ref fulawudone))) (lulawudone : K.lookup fulawudone = some ⟨oculawudone, odulawudone, .func (PySem.W.fnOf "_law_done" "_law_done" (defArgs s__law_done) (defBody s__law_done) (defScope s__law_done) .none kVulawudone dculawudone pmulawudone anulawudone cdulawudone ctulawudone), slulawudone⟩) (culawudone : PySem.W.codeIn K cdulawudone "_law_done" = true) (kulawudone : PySem.W.keepIn K (.ref fulawudone) = true)
    {fulawudrawnumove : Addr} {odulawudrawnumove anulawudrawnumove : Option Addr} {slulawudrawnumove : Array (Option Value)} {oculawudrawnumove kVulawudrawnumove dculawudrawnumove pmulawudrawnumove cdulawudrawnumove ctulawudrawnumove : Value} (aulawudrawnumove : PySem.W.nsIn K mainGlobals "_law_drawn_move" = some (some (.ref fulawudrawnumove))) (lulawudrawnumove : K.lookup fulawudrawnumove = some ⟨oculawudrawnumove, odulawudrawnumove, .func (PySem.W.fnOf "_law_drawn_move" "_law_drawn_move" (defArgs s__law_drawn_move) (defBody s__law_drawn_move) (defScope s__law_drawn_move) .none kVulawudrawnumove dculawudrawnumove pmulawudrawnumove anulawudrawnumove cdulawudrawnumove ctulawudrawnumove), slulawudrawnumove⟩) (culawudrawnumove : PySem.W.codeIn K cdulawudrawnumove "_law_drawn_move" = true) (kulawudrawnumove : PySem.W.keepIn K (.ref fulawudrawnumove) = true)
    {fulawurun : Addr} {odulawurun anulawurun : Option Addr} {slulawurun : Array (Option Value)} {oculawurun kVulawurun dculawurun pmulawurun cdulawurun ctulawurun : Value} (aulawurun : PySem.W.nsIn K mainGlobals "_law_run" = some (some (.ref fulawurun))) (lulawurun : K.lookup fulawurun = some ⟨oculawurun, odulawurun, .func (PySem.W.fnOf "_law_run" "_law_run" (defArgs s__law_run) (defBody s__law_run) (defScope s__law_run) .none kVulawurun dculawurun pmulawurun anulawurun cdulawurun ctulawurun), slulawurun⟩) (culawurun : PySem.W.codeIn K cdulawurun "_law_run" = true) (kulawurun : PySem.W.keepIn K (.ref fulawurun) = true)
    {fulawustory : Addr} {odulawustory anulawustory : Option Addr} {slulawustory : Array (Option Value)} {oculawustory kVulawustory dculawustory pmulawustory cdulawustory ctulawustory : Value} (aulawustory : PySem.W.nsIn K mainGlobals "_law_story" = some (some (.ref fulawustory))) (lulawustory : K.lookup fulawustory = some ⟨oculawustory, odulawustory, .func (PySem.W.fnOf "_law_story" "_law_story" (defArgs s__law_story) (defBody s__law_story) (defScope s__law_story) .none kVulawustory dculawustory pmulawustory anulawustory cdulawustory ctulawustory), slulawustory⟩) (culawustory : PySem.W.codeIn K cdulawustory "_law_story" = true) (kulawustory : PySem.W.keepIn K (.ref fulawustory) = true)
    {fulawuallustates : Addr} {odulawuallustates anulawuallustates : Option Addr} {slulawuallustates : Array (Option Value)} {oculawuallustates kVulawuallustates dculawuallustates pmulawuallustates cdulawuallustates ctulawuallustates : Value} (aulawuallustates : PySem.W.nsIn K mainGlobals "_law_all_states" = some (some (.ref fulawuallustates))) (lulawuallustates : K.lookup fulawuallustates = some ⟨oculawuallustates, odulawuallustates, .func (PySem.W.fnOf "_law_all_states" "_law_all_states" (defArgs s__law_all_states) (defBody s__law_all_states) (defScope s__law_all_states) .none kVulawuallustates dculawuallustates pmulawuallustates anulawuallustates cdulawuallustates ctulawuallustates), slulawuallustates⟩) (culawuallustates : PySem.W.codeIn K cdulawuallustates "_law_all_states" = true) (kulawuallustates : PySem.W.keepIn K (.ref fulawuallustates) = true)
    {fulawufirstuknown lc__law_first_known : Addr} {odulawufirstuknown anulawufirstuknown : Option Addr} {slulawufirstuknown : Array (Option Value)} {oculawufirstuknown kVulawufirstuknown dculawufirstuknown pmulawufirstuknown ctulawufirstuknown : Value} (aulawufirstuknown : PySem.W.nsIn K mainGlobals "_law_first_known" = some (some (.ref fulawufirstuknown))) (lulawufirstuknown : K.lookup fulawufirstuknown = some ⟨oculawufirstuknown, odulawufirstuknown, .func (PySem.W.fnOf "_law_first_known" "_law_first_known" (defArgs s__law_first_known) (defBody s__law_first_known) (defScope s__law_first_known) .none kVulawufirstuknown dculawufirstuknown pmulawufirstuknown anulawufirstuknown (.ref lc__law_first_known) ctulawufirstuknown), slulawufirstuknown⟩) (culawufirstuknown : PySem.W.codeIn K (.ref lc__law_first_known) "_law_first_known" = true) (kulawufirstuknown : PySem.W.keepIn K (.ref fulawufirstuknown) = true)
    {fulawutightened : Addr} {odulawutightened anulawutightened : Option Addr} {slulawutightened : Array (Option Value)} {oculawutightened kVulawutightened dculawutightened pmulawutightened cdulawutightened ctulawutightened : Value} (aulawutightened : PySem.W.nsIn K mainGlobals "_law_tightened" = some (some (.ref fulawutightened))) (lulawutightened : K.lookup fulawutightened = some ⟨oculawutightened, odulawutightened, .func (PySem.W.fnOf "_law_tightened" "_law_tightened" (defArgs s__law_tightened) (defBody s__law_tightened) (defScope s__law_tightened) .none kVulawutightened dculawutightened pmulawutightened anulawutightened cdulawutightened ctulawutightened), slulawutightened⟩) (culawutightened : PySem.W.codeIn K cdulawutightened "_law_tightened" = true) (kulawutightened : PySem.W.keepIn K (.ref fulawutightened) = true)
    {fulawuknownusizes : Addr} {odulawuknownusizes anulawuknownusizes : Option Addr} {slulawuknownusizes : Array (Option Value)} {oculawuknownusizes kVulawuknownusizes dculawuknownusizes pmulawuknownusizes cdulawuknownusizes ctulawuknownusizes : Value} (aulawuknownusizes : PySem.W.nsIn K mainGlobals "_law_known_sizes" = some (some (.ref fulawuknownusizes))) (lulawuknownusizes : K.lookup fulawuknownusizes = some ⟨oculawuknownusizes, odulawuknownusizes, .func (PySem.W.fnOf "_law_known_sizes" "_law_known_sizes" (defArgs s__law_known_sizes) (defBody s__law_known_sizes) (defScope s__law_known_sizes) .none kVulawuknownusizes dculawuknownusizes pmulawuknownusizes anulawuknownusizes cdulawuknownusizes ctulawuknownusizes), slulawuknownusizes⟩) (culawuknownusizes : PySem.W.codeIn K cdulawuknownusizes "_law_known_sizes" = true) (kulawuknownusizes : PySem.W.keepIn K (.ref fulawuknownusizes) = true)
    {fulawuled : Addr} {odulawuled anulawuled : Option Addr} {slulawuled : Array (Option Value)} {oculawuled kVulawuled dculawuled pmulawuled cdulawuled ctulawuled : Value} (aulawuled : PySem.W.nsIn K mainGlobals "_law_led" = some (some (.ref fulawuled))) (lulawuled : K.lookup fulawuled = some ⟨oculawuled, odulawuled, .func (PySem.W.fnOf "_law_led" "_law_led" (defArgs s__law_led) (defBody s__law_led) (defScope s__law_led) .none kVulawuled dculawuled pmulawuled anulawuled cdulawuled ctulawuled), slulawuled⟩) (culawuled : PySem.W.codeIn K cdulawuled "_law_led" = true) (kulawuled : PySem.W.keepIn K (.ref fulawuled) = true)
    {fulawuleduby : Addr} {odulawuleduby anulawuleduby : Option Addr} {slulawuleduby : Array (Option Value)} {oculawuleduby kVulawuleduby dculawuleduby pmulawuleduby cdulawuleduby ctulawuleduby : Value} (aulawuleduby : PySem.W.nsIn K mainGlobals "_law_led_by" = some (some (.ref fulawuleduby))) (lulawuleduby : K.lookup fulawuleduby = some ⟨oculawuleduby, odulawuleduby, .func (PySem.W.fnOf "_law_led_by" "_law_led_by" (defArgs s__law_led_by) (defBody s__law_led_by) (defScope s__law_led_by) .none kVulawuleduby dculawuleduby pmulawuleduby anulawuleduby cdulawuleduby ctulawuleduby), slulawuleduby⟩) (culawuleduby : PySem.W.codeIn K cdulawuleduby "_law_led_by" = true) (kulawuleduby : PySem.W.keepIn K (.ref fulawuleduby) = true)
    {fulawufits : Addr} {odulawufits anulawufits : Option Addr} {slulawufits : Array (Option Value)} {oculawufits kVulawufits dculawufits pmulawufits cdulawufits ctulawufits : Value} (aulawufits : PySem.W.nsIn K mainGlobals "_law_fits" = some (some (.ref fulawufits))) (lulawufits : K.lookup fulawufits = some ⟨oculawufits, odulawufits, .func (PySem.W.fnOf "_law_fits" "_law_fits" (defArgs s__law_fits) (defBody s__law_fits) (defScope s__law_fits) .none kVulawufits dculawufits pmulawufits anulawufits cdulawufits ctulawufits), slulawufits⟩) (culawufits : PySem.W.codeIn K cdulawufits "_law_fits" = true) (kulawufits : PySem.W.keepIn K (.ref fulawufits) = true)
    {fulawutightuknown : Addr} {odulawutightuknown anulawutightuknown : Option Addr} {slulawutightuknown : Array (Option Value)} {oculawutightuknown kVulawutightuknown dculawutightuknown pmulawutightuknown cdulawutightuknown ctulawutightuknown : Value} (aulawutightuknown : PySem.W.nsIn K mainGlobals "_law_tight_known" = some (some (.ref fulawutightuknown))) (lulawutightuknown : K.lookup fulawutightuknown = some ⟨oculawutightuknown, odulawutightuknown, .func (PySem.W.fnOf "_law_tight_known" "_law_tight_known" (defArgs s__law_tight_known) (defBody s__law_tight_known) (defScope s__law_tight_known) .none kVulawutightuknown dculawutightuknown pmulawutightuknown anulawutightuknown cdulawutightuknown ctulawutightuknown), slulawutightuknown⟩) (culawutightuknown : PySem.W.codeIn K cdulawutightuknown "_law_tight_known" = true) (kulawutightuknown : PySem.W.keepIn K (.ref fulawutightuknown) = true)
    {fulawuknown : Addr} {odulawuknown anulawuknown : Option Addr} {slulawuknown : Array (Option Value)} {oculawuknown kVulawuknown dculawuknown pmulawuknown cdulawuknown ctulawuknown : Value} (aulawuknown : PySem.W.nsIn K mainGlobals "_law_known" = some (some (.ref fulawuknown))) (lulawuknown : K.lookup fulawuknown = some ⟨oculawuknown, odulawuknown, .func (PySem.W.fnOf "_law_known" "_law_known" (defArgs s__law_known) (defBody s__law_known) (defScope s__law_known) .none kVulawuknown dculawuknown pmulawuknown anulawuknown cdulawuknown ctulawuknown), slulawuknown⟩) (culawuknown : PySem.W.codeIn K cdulawuknown "_law_known" = true) (kulawuknown : PySem.W.keepIn K (.ref fulawuknown) = true)
    {fulawusharper : Addr} {odulawusharper anulawusharper : Option Addr} {slulawusharper : Array (Option Value)} {oculawusharper kVulawusharper dculawusharper pmulawusharper cdulawusharper ctulawusharper : Value} (aulawusharper : PySem.W.nsIn K mainGlobals "_law_sharper" = some (some (.ref fulawusharper))) (lulawusharper : K.lookup fulawusharper = some ⟨oculawusharper, odulawusharper, .func (PySem.W.fnOf "_law_sharper" "_law_sharper" (defArgs s__law_sharper) (defBody s__law_sharper) (defScope s__law_sharper) .none kVulawusharper dculawusharper pmulawusharper anulawusharper cdulawusharper ctulawusharper), slulawusharper⟩) (culawusharper : PySem.W.codeIn K cdulawusharper "_law_sharper" = true) (kulawusharper : PySem.W.keepIn K (.ref fulawusharper) = true)
    {fulawuofusizes : Addr} {odulawuofusizes anulawuofusizes : Option Addr} {slulawuofusizes : Array (Option Value)} {oculawuofusizes kVulawuofusizes dculawuofusizes pmulawuofusizes cdulawuofusizes ctulawuofusizes : Value} (aulawuofusizes : PySem.W.nsIn K mainGlobals "_law_of_sizes" = some (some (.ref fulawuofusizes))) (lulawuofusizes : K.lookup fulawuofusizes = some ⟨oculawuofusizes, odulawuofusizes, .func (PySem.W.fnOf "_law_of_sizes" "_law_of_sizes" (defArgs s__law_of_sizes) (defBody s__law_of_sizes) (defScope s__law_of_sizes) .none kVulawuofusizes dculawuofusizes pmulawuofusizes anulawuofusizes cdulawuofusizes ctulawuofusizes), slulawuofusizes⟩) (culawuofusizes : PySem.W.codeIn K cdulawuofusizes "_law_of_sizes" = true) (kulawuofusizes : PySem.W.keepIn K (.ref fulawuofusizes) = true)
    {fulawusomeuknown : Addr} {odulawusomeuknown anulawusomeuknown : Option Addr} {slulawusomeuknown : Array (Option Value)} {oculawusomeuknown kVulawusomeuknown dculawusomeuknown pmulawusomeuknown cdulawusomeuknown ctulawusomeuknown : Value} (aulawusomeuknown : PySem.W.nsIn K mainGlobals "_law_some_known" = some (some (.ref fulawusomeuknown))) (lulawusomeuknown : K.lookup fulawusomeuknown = some ⟨oculawusomeuknown, odulawusomeuknown, .func (PySem.W.fnOf "_law_some_known" "_law_some_known" (defArgs s__law_some_known) (defBody s__law_some_known) (defScope s__law_some_known) .none kVulawusomeuknown dculawusomeuknown pmulawusomeuknown anulawusomeuknown cdulawusomeuknown ctulawusomeuknown), slulawusomeuknown⟩) (culawusomeuknown : PySem.W.codeIn K cdulawusomeuknown "_law_some_known" = true) (kulawusomeuknown : PySem.W.keepIn K (.ref fulawusomeuknown) = true)
    {fulawustatesuthatufit : Addr} {odulawustatesuthatufit anulawustatesuthatufit : Option Addr} {slulawustatesuthatufit : Array (Option Value)} {oculawustatesuthatufit kVulawustatesuthatufit dculawustatesuthatufit pmulawustatesuthatufit cdulawustatesuthatufit ctulawustatesuthatufit : Value} (aulawustatesuthatufit : PySem.W.nsIn K mainGlobals "_law_states_that_fit" = some (some (.ref fulawustatesuthatufit))) (lulawustatesuthatufit : K.lookup fulawustatesuthatufit = some ⟨oculawustatesuthatufit, odulawustatesuthatufit, .func (PySem.W.fnOf "_law_states_that_fit" "_law_states_that_fit" (defArgs s__law_states_that_fit) (defBody s__law_states_that_fit) (defScope s__law_states_that_fit) .none kVulawustatesuthatufit dculawustatesuthatufit pmulawustatesuthatufit anulawustatesuthatufit cdulawustatesuthatufit ctulawustatesuthatufit), slulawustatesuthatufit⟩) (culawustatesuthatufit : PySem.W.codeIn K cdulawustatesuthatufit "_law_states_that_fit" = true) (kulawustatesuthatufit : PySem.W.keepIn K (.ref fulawustatesuthatufit) = true)
    {fulawusomeuhouse : Addr} {odulawusomeuhouse anulawusomeuhouse : Option Addr} {slulawusomeuhouse : Array (Option Value)} {oculawusomeuhouse kVulawusomeuhouse dculawusomeuhouse pmulawusomeuhouse cdulawusomeuhouse ctulawusomeuhouse : Value} (aulawusomeuhouse : PySem.W.nsIn K mainGlobals "_law_some_house" = some (some (.ref fulawusomeuhouse))) (lulawusomeuhouse : K.lookup fulawusomeuhouse = some ⟨oculawusomeuhouse, odulawusomeuhouse, .func (PySem.W.fnOf "_law_some_house" "_law_some_house" (defArgs s__law_some_house) (defBody s__law_some_house) (defScope s__law_some_house) .none kVulawusomeuhouse dculawusomeuhouse pmulawusomeuhouse anulawusomeuhouse cdulawusomeuhouse ctulawusomeuhouse), slulawusomeuhouse⟩) (culawusomeuhouse : PySem.W.codeIn K cdulawusomeuhouse "_law_some_house" = true) (kulawusomeuhouse : PySem.W.keepIn K (.ref fulawusomeuhouse) = true)
    {fulawubag : Addr} {odulawubag anulawubag : Option Addr} {slulawubag : Array (Option Value)} {oculawubag kVulawubag dculawubag pmulawubag cdulawubag ctulawubag : Value} (aulawubag : PySem.W.nsIn K mainGlobals "_law_bag" = some (some (.ref fulawubag))) (lulawubag : K.lookup fulawubag = some ⟨oculawubag, odulawubag, .func (PySem.W.fnOf "_law_bag" "_law_bag" (defArgs s__law_bag) (defBody s__law_bag) (defScope s__law_bag) .none kVulawubag dculawubag pmulawubag anulawubag cdulawubag ctulawubag), slulawubag⟩) (culawubag : PySem.W.codeIn K cdulawubag "_law_bag" = true) (kulawubag : PySem.W.keepIn K (.ref fulawubag) = true)
    {flaw : Addr} {odlaw anlaw : Option Addr} {sllaw : Array (Option Value)} {oclaw kVlaw dclaw pmlaw cdlaw ctlaw : Value} (alaw : PySem.W.nsIn K mainGlobals "law" = some (some (.ref flaw))) (llaw : K.lookup flaw = some ⟨oclaw, odlaw, .func (PySem.W.fnOf "law" "law" (defArgs s_law) (defBody s_law) (defScope s_law) .none kVlaw dclaw pmlaw anlaw cdlaw ctlaw), sllaw⟩) (claw : PySem.W.codeIn K cdlaw "law" = true) (klaw : PySem.W.keepIn K (.ref flaw) = true)
    (hq__law_first_known : nameAt lp__law_first_known = "_law_first_known.<locals>.<lambda>")
    (zlen : PySem.W.nsIn K mainGlobals "len" = some none)
    (zrange : PySem.W.nsIn K mainGlobals "range" = some none)
    (zmax : PySem.W.nsIn K mainGlobals "max" = some none)
    (zmin : PySem.W.nsIn K mainGlobals "min" = some none)
    (zint : PySem.W.nsIn K mainGlobals "int" = some none)
    (zabs : PySem.W.nsIn K mainGlobals "abs" = some none)
    (zlist : PySem.W.nsIn K mainGlobals "list" = some none)
    (ztuple : PySem.W.nsIn K mainGlobals "tuple" = some none)
    (zrepr : PySem.W.nsIn K mainGlobals "repr" = some none)
    (zany : PySem.W.nsIn K mainGlobals "any" = some none)
    (zall : PySem.W.nsIn K mainGlobals "all" = some none)
    (zzip : PySem.W.nsIn K mainGlobals "zip" = some none)
    (zenumerate : PySem.W.nsIn K mainGlobals "enumerate" = some none)
    (zsum : PySem.W.nsIn K mainGlobals "sum" = some none)
    (zsorted : PySem.W.nsIn K mainGlobals "sorted" = some none)
    (zset : PySem.W.nsIn K mainGlobals "set" = some none)
    (zisinstance : PySem.W.nsIn K mainGlobals "isinstance" = some none)
    (zstr : PySem.W.nsIn K mainGlobals "str" = some none)
    (zbool : PySem.W.nsIn K mainGlobals "bool" = some none)
    (zdict : PySem.W.nsIn K mainGlobals "dict" = some none)
    (zreversed : PySem.W.nsIn K mainGlobals "reversed" = some none)
    : ∃ fd : FuncData, (∀ (t : Shared) (u : Value), BindsTo t fd ⟨[u], []⟩ [("_law_script", u)]) ∧ ∀ base : Heap, K.In base → base.Ns mainGlobals mg → (∀ p ∈ [(lc__law_first_known, lp__law_first_known)], LamX.TabB base mg p.1 p.2) → FnG P w K mg base CX0 8 fa fd ["_law_script"] (spL ⟨K, [lp__law_first_known]⟩) := by
  have e := hfa.symm.trans (PySem.W.mg_of X G alaw)
  cases e
  have T : Tops ⟨K, [lp__law_first_known]⟩ mg lc__law_first_known := {
    blt := {len := PySem.W.mg_none_of X G zlen, range := PySem.W.mg_none_of X G zrange, max := PySem.W.mg_none_of X G zmax, min := PySem.W.mg_none_of X G zmin, int := PySem.W.mg_none_of X G zint, abs := PySem.W.mg_none_of X G zabs, list := PySem.W.mg_none_of X G zlist, tuple := PySem.W.mg_none_of X G ztuple, repr := PySem.W.mg_none_of X G zrepr, any := PySem.W.mg_none_of X G zany, all := PySem.W.mg_none_of X G zall, zip := PySem.W.mg_none_of X G zzip, enumerate := PySem.W.mg_none_of X G zenumerate, sum := PySem.W.mg_none_of X G zsum, sorted := PySem.W.mg_none_of X G zsorted, set := PySem.W.mg_none_of X G zset, isinstance := PySem.W.mg_none_of X G zisinstance, str := PySem.W.mg_none_of X G zstr, bool := PySem.W.mg_none_of X G zbool, dict := PySem.W.mg_none_of X G zdict, reversed := PySem.W.mg_none_of X G zreversed}
    D_known_sizes := def_of (T := [lp__law_first_known]) X G aknownusizes lknownusizes cknownusizes kknownusizes fun _ _ _ _ _ _ us hl => match us, hl with | [_], _ => rfl
    D_greater_ones := def_of (T := [lp__law_first_known]) X G agreateruones lgreateruones cgreateruones kgreateruones fun _ _ _ _ _ _ us hl => match us, hl with | [_, _], _ => rfl
    D_state_of_lots := def_of (T := [lp__law_first_known]) X G astateuofulots lstateuofulots cstateuofulots kstateuofulots fun _ _ _ _ _ _ us hl => match us, hl with | [_, _], _ => rfl
    D_state_with_lot := def_of (T := [lp__law_first_known]) X G astateuwithulot lstateuwithulot cstateuwithulot kstateuwithulot fun _ _ _ _ _ _ us hl => match us, hl with | [_, _, _], _ => rfl
    D_number_within := def_of (T := [lp__law_first_known]) X G anumberuwithin lnumberuwithin cnumberuwithin knumberuwithin fun _ _ _ _ _ _ us hl => match us, hl with | [_, _, _, _], _ => rfl
    D_can_be_together := def_of (T := [lp__law_first_known]) X G acanubeutogether lcanubeutogether ccanubeutogether kcanubeutogether fun _ _ _ _ _ _ us hl => match us, hl with | [_, _, _], _ => rfl
    D_choice_within := def_of (T := [lp__law_first_known]) X G achoiceuwithin lchoiceuwithin cchoiceuwithin kchoiceuwithin fun _ _ _ _ _ _ us hl => match us, hl with | [_, _, _], _ => rfl
    D_least_within := def_of (T := [lp__law_first_known]) X G aleastuwithin lleastuwithin cleastuwithin kleastuwithin fun _ _ _ _ _ _ us hl => match us, hl with | [_, _, _, _], _ => rfl
    D_cuts_of := def_of (T := [lp__law_first_known]) X G acutsuof lcutsuof ccutsuof kcutsuof fun _ _ _ _ _ _ us hl => match us, hl with | [_], _ => rfl
    D_state_beyond := def_of (T := [lp__law_first_known]) X G astateubeyond lstateubeyond cstateubeyond kstateubeyond fun _ _ _ _ _ _ us hl => match us, hl with | [_, _, _], _ => rfl
    D_lies_in := def_of (T := [lp__law_first_known]) X G aliesuin lliesuin cliesuin kliesuin fun _ _ _ _ _ _ us hl => match us, hl with | [_, _, _], _ => rfl
    D_joint := def_of (T := [lp__law_first_known]) X G ajoint ljoint cjoint kjoint fun _ _ _ _ _ _ us hl => match us, hl with | [_, _, _], _ => rfl
    D__law_take := def_of (T := [lp__law_first_known]) X G aulawutake lulawutake culawutake kulawutake fun _ _ _ _ _ _ us hl => match us, hl with | [_, _], _ => rfl
    D__law_one := def_of (T := [lp__law_first_known]) X G aulawuone lulawuone culawuone kulawuone fun _ _ _ _ _ _ us hl => match us, hl with | [_, _], _ => rfl
    D__law_mixed := def_of (T := [lp__law_first_known]) X G aulawumixed lulawumixed culawumixed kulawumixed fun _ _ _ _ _ _ us hl => match us, hl with | [_, _], _ => rfl
    D__law_alike := def_of (T := [lp__law_first_known]) X G aulawualike lulawualike culawualike kulawualike fun _ _ _ _ _ _ us hl => match us, hl with | [_, _], _ => rfl
    D__law_flat := def_of (T := [lp__law_first_known]) X G aulawuflat lulawuflat culawuflat kulawuflat fun _ _ _ _ _ _ us hl => match us, hl with | [_], _ => rfl
    D__law_house := def_of (T := [lp__law_first_known]) X G aulawuhouse lulawuhouse culawuhouse kulawuhouse fun _ _ _ _ _ _ us hl => match us, hl with | [_, _, _, _], _ => rfl
    D__law_rooms_within := def_of (T := [lp__law_first_known]) X G aulawuroomsuwithin lulawuroomsuwithin culawuroomsuwithin kulawuroomsuwithin fun _ _ _ _ _ _ us hl => match us, hl with | [_], _ => rfl
    D__law_within := def_of (T := [lp__law_first_known]) X G aulawuwithin lulawuwithin culawuwithin kulawuwithin fun _ _ _ _ _ _ us hl => match us, hl with | [_, _, _], _ => rfl
    D__law_sizes := def_of (T := [lp__law_first_known]) X G aulawusizes lulawusizes culawusizes kulawusizes fun _ _ _ _ _ _ us hl => match us, hl with | [_, _], _ => rfl
    D__law_state := def_of (T := [lp__law_first_known]) X G aulawustate lulawustate culawustate kulawustate fun _ _ _ _ _ _ us hl => match us, hl with | [_, _], _ => rfl
    D__law_full_state := def_of (T := [lp__law_first_known]) X G aulawufullustate lulawufullustate culawufullustate kulawufullustate fun _ _ _ _ _ _ us hl => match us, hl with | [_, _], _ => rfl
    D__law_start := def_of (T := [lp__law_first_known]) X G aulawustart lulawustart culawustart kulawustart fun _ _ _ _ _ _ us hl => match us, hl with | [_, _], _ => rfl
    D__law_done := def_of (T := [lp__law_first_known]) X G aulawudone lulawudone culawudone kulawudone fun _ _ _ _ _ _ us hl => match us, hl with | [_, _, _], _ => rfl
    D__law_drawn_move := def_of (T := [lp__law_first_known]) X G aulawudrawnumove lulawudrawnumove culawudrawnumove kulawudrawnumove fun _ _ _ _ _ _ us hl => match us, hl with | [_, _, _, _, _], _ => rfl
    D__law_run := def_of (T := [lp__law_first_known]) X G aulawurun lulawurun culawurun kulawurun fun _ _ _ _ _ _ us hl => match us, hl with | [_, _, _, _, _], _ => rfl
    D__law_story := def_of (T := [lp__law_first_known]) X G aulawustory lulawustory culawustory kulawustory fun _ _ _ _ _ _ us hl => match us, hl with | [_, _, _, _, _], _ => rfl
    D__law_all_states := def_of (T := [lp__law_first_known]) X G aulawuallustates lulawuallustates culawuallustates kulawuallustates fun _ _ _ _ _ _ us hl => match us, hl with | [_], _ => rfl
    D__law_first_known := def_ofC (T := [lp__law_first_known]) X G aulawufirstuknown lulawufirstuknown culawufirstuknown kulawufirstuknown fun _ _ _ _ _ _ us hl => match us, hl with | [_, _], _ => rfl
    D__law_tightened := def_of (T := [lp__law_first_known]) X G aulawutightened lulawutightened culawutightened kulawutightened fun _ _ _ _ _ _ us hl => match us, hl with | [_, _], _ => rfl
    D__law_known_sizes := def_of (T := [lp__law_first_known]) X G aulawuknownusizes lulawuknownusizes culawuknownusizes kulawuknownusizes fun _ _ _ _ _ _ us hl => match us, hl with | [_], _ => rfl
    D__law_led := def_of (T := [lp__law_first_known]) X G aulawuled lulawuled culawuled kulawuled fun _ _ _ _ _ _ us hl => match us, hl with | [_, _, _], _ => rfl
    D__law_led_by := def_of (T := [lp__law_first_known]) X G aulawuleduby lulawuleduby culawuleduby kulawuleduby fun _ _ _ _ _ _ us hl => match us, hl with | [_, _, _], _ => rfl
    D__law_fits := def_of (T := [lp__law_first_known]) X G aulawufits lulawufits culawufits kulawufits fun _ _ _ _ _ _ us hl => match us, hl with | [_, _, _], _ => rfl
    D__law_tight_known := def_of (T := [lp__law_first_known]) X G aulawutightuknown lulawutightuknown culawutightuknown kulawutightuknown fun _ _ _ _ _ _ us hl => match us, hl with | [_, _], _ => rfl
    D__law_known := def_of (T := [lp__law_first_known]) X G aulawuknown lulawuknown culawuknown kulawuknown fun _ _ _ _ _ _ us hl => match us, hl with | [_, _, _, _], _ => rfl
    D__law_sharper := def_of (T := [lp__law_first_known]) X G aulawusharper lulawusharper culawusharper kulawusharper fun _ _ _ _ _ _ us hl => match us, hl with | [_, _], _ => rfl
    D__law_of_sizes := def_of (T := [lp__law_first_known]) X G aulawuofusizes lulawuofusizes culawuofusizes kulawuofusizes fun _ _ _ _ _ _ us hl => match us, hl with | [_, _, _], _ => rfl
    D__law_some_known := def_of (T := [lp__law_first_known]) X G aulawusomeuknown lulawusomeuknown culawusomeuknown kulawusomeuknown fun _ _ _ _ _ _ us hl => match us, hl with | [_, _], _ => rfl
    D__law_states_that_fit := def_of (T := [lp__law_first_known]) X G aulawustatesuthatufit lulawustatesuthatufit culawustatesuthatufit kulawustatesuthatufit fun _ _ _ _ _ _ us hl => match us, hl with | [_, _], _ => rfl
    D__law_some_house := def_of (T := [lp__law_first_known]) X G aulawusomeuhouse lulawusomeuhouse culawusomeuhouse kulawusomeuhouse fun _ _ _ _ _ _ us hl => match us, hl with | [_, _], _ => rfl
    D__law_bag := def_of (T := [lp__law_first_known]) X G aulawubag lulawubag culawubag kulawubag fun _ _ _ _ _ _ us hl => match us, hl with | [_], _ => rfl
  }
  have F := fun_mk (K := K) (st := s_law) llaw claw klaw
  exact ⟨_, fun s v => .of_eq rfl, fun base _ _ tb => whole (tb _ (.head _)) (.head _) hq__law_first_known T F law_true⟩
end K37
open PySem PySem.W PyProof.Rows
set_option maxRecDepth 100000 in
set_option maxHeartbeats 0 in
theorem PySem.Challenge.cw_floorkeepers_k37_joint_knowledges_holds : PySem.Challenge.rw_floorkeepers_k37_joint_knowledges.Holds := by
  w_on; o_law; k_head; (case hw => w_witness2)
  k_fill
  refine' DL.walkT (l := PySem.Challenge.rw_floorkeepers_k37_joint_knowledges) (n := 63) (k := 8) (x := "_law_script") (sp := DL.spL) [(_, _)] rfl (by rw [sizeLine_eq]; decide) rfl ⟨rfl, by decide, by decide⟩ rfl (fun w h Y => PySem.W.km_in_of Y) (fun w h Y => DL.tabsN _ (PySem.W.km_tabs_of Y)) ?hN ?hC ?F (fun K H a ns hl ht hS => ⟨a, ns, rfl, hS, hl, ht, fun _ => rfl⟩)
  case F =>
    intro w mg fa h KX G hmg
    refine' K37.all_of KX G hmg ?aknownusizes ?lknownusizes ?cknownusizes ?kknownusizes ?agreateruones ?lgreateruones ?cgreateruones ?kgreateruones ?astateuofulots ?lstateuofulots ?cstateuofulots ?kstateuofulots ?astateuwithulot ?lstateuwithulot ?cstateuwithulot ?kstateuwithulot ?anumberuwithin ?lnumberuwithin ?cnumberuwithin ?knumberuwithin ?acanubeutogether ?lcanubeutogether ?ccanubeutogether ?kcanubeutogether ?achoiceuwithin ?lchoiceuwithin ?cchoiceuwithin ?kchoiceuwithin ?aleastuwithin ?lleastuwithin ?cleastuwithin ?kleastuwithin ?acutsuof ?lcutsuof ?ccutsuof ?kcutsuof ?astateubeyond ?lstateubeyond ?cstateubeyond ?kstateubeyond ?aliesuin ?lliesuin ?cliesuin ?kliesuin ?ajoint ?ljoint ?cjoint ?kjoint ?aulawutake ?lulawutake ?culawutake ?kulawutake ?aulawuone ?lulawuone ?culawuone ?kulawuone ?aulawumixed ?lulawumixed ?culawumixed ?kulawumixed ?aulawualike ?lulawualike ?culawualike ?kulawualike ?aulawuflat ?lulawuflat ?culawuflat ?kulawuflat ?aulawuhouse ?lulawuhouse ?culawuhouse ?kulawuhouse ?aulawuroomsuwithin ?lulawuroomsuwithin ?culawuroomsuwithin ?kulawuroomsuwithin ?aulawuwithin ?lulawuwithin ?culawuwithin ?kulawuwithin ?aulawusizes ?lulawusizes ?culawusizes ?kulawusizes ?aulawustate ?lulawustate ?culawustate ?kulawustate ?aulawufullustate ?lulawufullustate ?culawufullustate ?kulawufullustate ?aulawustart ?lulawustart ?culawustart ?kulawustart ?aulawudone ?lulawudone ?culawudone ?kulawudone ?aulawudrawnumove ?lulawudrawnumove ?culawudrawnumove ?kulawudrawnumove ?aulawurun ?lulawurun ?culawurun ?kulawurun ?aulawustory ?lulawustory ?culawustory ?kulawustory ?aulawuallustates ?lulawuallustates ?culawuallustates ?kulawuallustates ?aulawufirstuknown ?lulawufirstuknown ?culawufirstuknown ?kulawufirstuknown ?aulawutightened ?lulawutightened ?culawutightened ?kulawutightened ?aulawuknownusizes ?lulawuknownusizes ?culawuknownusizes ?kulawuknownusizes ?aulawuled ?lulawuled ?culawuled ?kulawuled ?aulawuleduby ?lulawuleduby ?culawuleduby ?kulawuleduby ?aulawufits ?lulawufits ?culawufits ?kulawufits ?aulawutightuknown ?lulawutightuknown ?culawutightuknown ?kulawutightuknown ?aulawuknown ?lulawuknown ?culawuknown ?kulawuknown ?aulawusharper ?lulawusharper ?culawusharper ?kulawusharper ?aulawuofusizes ?lulawuofusizes ?culawuofusizes ?kulawuofusizes ?aulawusomeuknown ?lulawusomeuknown ?culawusomeuknown ?kulawusomeuknown ?aulawustatesuthatufit ?lulawustatesuthatufit ?culawustatesuthatufit ?kulawustatesuthatufit ?aulawusomeuhouse ?lulawusomeuhouse ?culawusomeuhouse ?kulawusomeuhouse ?aulawubag ?lulawubag ?culawubag ?kulawubag ?alaw ?llaw ?claw ?klaw ?hq__law_first_known ?zlen ?zrange ?zmax ?zmin ?zint ?zabs ?zlist ?ztuple ?zrepr ?zany ?zall ?zzip ?zenumerate ?zsum ?zsorted ?zset ?zisinstance ?zstr ?zbool ?zdict ?zreversed
    (case aknownusizes => k_is)
    (case lknownusizes => k_is)
    (case cknownusizes => k_is)
    (case kknownusizes => k_is)
    (case agreateruones => k_is)
    (case lgreateruones => k_is)
    (case cgreateruones => k_is)
    (case kgreateruones => k_is)
    (case astateuofulots => k_is)
    (case lstateuofulots => k_is)
    (case cstateuofulots => k_is)
    (case kstateuofulots => k_is)
    (case astateuwithulot => k_is)
    (case lstateuwithulot => k_is)
    (case cstateuwithulot => k_is)
    (case kstateuwithulot => k_is)
    (case anumberuwithin => k_is)
    (case lnumberuwithin => k_is)
    (case cnumberuwithin => k_is)
    (case knumberuwithin => k_is)
    (case acanubeutogether => k_is)
    (case lcanubeutogether => k_is)
    (case ccanubeutogether => k_is)
    (case kcanubeutogether => k_is)
    (case achoiceuwithin => k_is)
    (case lchoiceuwithin => k_is)
    (case cchoiceuwithin => k_is)
    (case kchoiceuwithin => k_is)
    (case aleastuwithin => k_is)
    (case lleastuwithin => k_is)
    (case cleastuwithin => k_is)
    (case kleastuwithin => k_is)
    (case acutsuof => k_is)
    (case lcutsuof => k_is)
    (case ccutsuof => k_is)
    (case kcutsuof => k_is)
    (case astateubeyond => k_is)
    (case lstateubeyond => k_is)
    (case cstateubeyond => k_is)
    (case kstateubeyond => k_is)
    (case aliesuin => k_is)
    (case lliesuin => k_is)
    (case cliesuin => k_is)
    (case kliesuin => k_is)
    (case ajoint => k_is)
    (case ljoint => k_is)
    (case cjoint => k_is)
    (case kjoint => k_is)
    (case aulawutake => k_is)
    (case lulawutake => k_is)
    (case culawutake => k_is)
    (case kulawutake => k_is)
    (case aulawuone => k_is)
    (case lulawuone => k_is)
    (case culawuone => k_is)
    (case kulawuone => k_is)
    (case aulawumixed => k_is)
    (case lulawumixed => k_is)
    (case culawumixed => k_is)
    (case kulawumixed => k_is)
    (case aulawualike => k_is)
    (case lulawualike => k_is)
    (case culawualike => k_is)
    (case kulawualike => k_is)
    (case aulawuflat => k_is)
    (case lulawuflat => k_is)
    (case culawuflat => k_is)
    (case kulawuflat => k_is)
    (case aulawuhouse => k_is)
    (case lulawuhouse => k_is)
    (case culawuhouse => k_is)
    (case kulawuhouse => k_is)
    (case aulawuroomsuwithin => k_is)
    (case lulawuroomsuwithin => k_is)
    (case culawuroomsuwithin => k_is)
    (case kulawuroomsuwithin => k_is)
    (case aulawuwithin => k_is)
    (case lulawuwithin => k_is)
    (case culawuwithin => k_is)
    (case kulawuwithin => k_is)
    (case aulawusizes => k_is)
    (case lulawusizes => k_is)
    (case culawusizes => k_is)
    (case kulawusizes => k_is)
    (case aulawustate => k_is)
    (case lulawustate => k_is)
    (case culawustate => k_is)
    (case kulawustate => k_is)
    (case aulawufullustate => k_is)
    (case lulawufullustate => k_is)
    (case culawufullustate => k_is)
    (case kulawufullustate => k_is)
    (case aulawustart => k_is)
    (case lulawustart => k_is)
    (case culawustart => k_is)
    (case kulawustart => k_is)
    (case aulawudone => k_is)
    (case lulawudone => k_is)
    (case culawudone => k_is)
    (case kulawudone => k_is)
    (case aulawudrawnumove => k_is)
    (case lulawudrawnumove => k_is)
    (case culawudrawnumove => k_is)
    (case kulawudrawnumove => k_is)
    (case aulawurun => k_is)
    (case lulawurun => k_is)
    (case culawurun => k_is)
    (case kulawurun => k_is)
    (case aulawustory => k_is)
    (case lulawustory => k_is)
    (case culawustory => k_is)
    (case kulawustory => k_is)
    (case aulawuallustates => k_is)
    (case lulawuallustates => k_is)
    (case culawuallustates => k_is)
    (case kulawuallustates => k_is)
    (case aulawufirstuknown => k_is)
    (case lulawufirstuknown => k_is)
    (case culawufirstuknown => k_is)
    (case kulawufirstuknown => k_is)
    (case aulawutightened => k_is)
    (case lulawutightened => k_is)
    (case culawutightened => k_is)
    (case kulawutightened => k_is)
    (case aulawuknownusizes => k_is)
    (case lulawuknownusizes => k_is)
    (case culawuknownusizes => k_is)
    (case kulawuknownusizes => k_is)
    (case aulawuled => k_is)
    (case lulawuled => k_is)
    (case culawuled => k_is)
    (case kulawuled => k_is)
    (case aulawuleduby => k_is)
    (case lulawuleduby => k_is)
    (case culawuleduby => k_is)
    (case kulawuleduby => k_is)
    (case aulawufits => k_is)
    (case lulawufits => k_is)
    (case culawufits => k_is)
    (case kulawufits => k_is)
    (case aulawutightuknown => k_is)
    (case lulawutightuknown => k_is)
    (case culawutightuknown => k_is)
    (case kulawutightuknown => k_is)
    (case aulawuknown => k_is)
    (case lulawuknown => k_is)
    (case culawuknown => k_is)
    (case kulawuknown => k_is)
    (case aulawusharper => k_is)
    (case lulawusharper => k_is)
    (case culawusharper => k_is)
    (case kulawusharper => k_is)
    (case aulawuofusizes => k_is)
    (case lulawuofusizes => k_is)
    (case culawuofusizes => k_is)
    (case kulawuofusizes => k_is)
    (case aulawusomeuknown => k_is)
    (case lulawusomeuknown => k_is)
    (case culawusomeuknown => k_is)
    (case kulawusomeuknown => k_is)
    (case aulawustatesuthatufit => k_is)
    (case lulawustatesuthatufit => k_is)
    (case culawustatesuthatufit => k_is)
    (case kulawustatesuthatufit => k_is)
    (case aulawusomeuhouse => k_is)
    (case lulawusomeuhouse => k_is)
    (case culawusomeuhouse => k_is)
    (case kulawusomeuhouse => k_is)
    (case aulawubag => k_is)
    (case lulawubag => k_is)
    (case culawubag => k_is)
    (case kulawubag => k_is)
    (case alaw => k_is)
    (case llaw => k_is)
    (case claw => k_is)
    (case klaw => k_is)
    (case hq__law_first_known => rfl)
    (case zlen => k_is)
    (case zrange => k_is)
    (case zmax => k_is)
    (case zmin => k_is)
    (case zint => k_is)
    (case zabs => k_is)
    (case zlist => k_is)
    (case ztuple => k_is)
    (case zrepr => k_is)
    (case zany => k_is)
    (case zall => k_is)
    (case zzip => k_is)
    (case zenumerate => k_is)
    (case zsum => k_is)
    (case zsorted => k_is)
    (case zset => k_is)
    (case zisinstance => k_is)
    (case zstr => k_is)
    (case zbool => k_is)
    (case zdict => k_is)
    (case zreversed => k_is)
  case hN => exact fun w => by kernel_rfl
  case hC =>
    intro w p hp
    rcases hp with _ | ⟨_, hp⟩
    · kernel_rfl
    cases hp
