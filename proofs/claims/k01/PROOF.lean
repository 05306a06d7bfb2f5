import PyProof.Rows.All
import Wide.All
import OpenK.AllK
import Wide.FinOn
import HandS.ForMost
import HandS.Wide
import HandS.TupAny
import HandS.TupMul
import HandS.Conv
import HandS.Lambda
import HandS.EndTab
import KE.KDictKeyed
import KE.KeyNested
import HandS.More
import HandS.Iter
import KE.GoesEnum
import HandS.Style
import HandS.SetFor
import HandS.SortInts
import KE.KTupSum
import KE.KIndexOf
import PyProof.TupleOfSeq
import KE.SortKeyHeap
import HandS.Strs
import KE.KLam
import HandS.Defaults
import HandS.ExcOwn
import HandS.TryMany
import HandS.IsInst
import KE.SortData
import KE.KDictZip
import HandS.OwnIter
import HandS.ExcInit
import HandS.ExcField
import KE.KDictSum
import HandS.Deep
import HandS.TupSets
import HandS.NoneIn
import HandS.DictComp
import KE.DataMinKey
import HandS.SortKw
import KE.KDictWalk
import KE.GoesDict
import KE.KDictDisplayH
import KE.KDictPairs
import KE.KDictItemsList
import KE.KEqNest
import PyProof.NeKinds
import KE.KNestM
import PySem.Challenge.RW_floorkeepers_k01_houses_and_states
import PyProof.P3Eq
import PyProof.Rows.ReprShort
import KE.KEqDeep
set_option Elab.async false
set_option linter.all false
set_option maxRecDepth 100000
namespace DL
open PySem PySem.Spec PyProof.Rows L2
def PlainT (o : Obj) : Prop := o.cls = .type "tuple" ∧ o.dict = none
def NewT (H : Hp) (Q : VK) (ys : List V) : Prop := ∀ (p : Addr) (o : Obj), H p = none → PlainT o → Q (.ref p) (upd H p (.frz o (.tup ys)))
section
variable {X : Cx} {pins : List (Addr × Obj)} {s : Shared} {σ : L2.St} {H : Hp} {Q : VK} {ys : List V}
/-- a new tuple at the heap's end -/
theorem new_tup {us : List Value} (I : Inv X pins σ H s) (r : Vals ys us) (hz : ys.length ≤ sizeLine) (q : NewT H Q ys) {t' : Nat} :
    EP X pins σ Q (.ref s.heap.objs.size) { s with heap := s.heap.push { cls := .type "tuple", data := .seq us.toArray }, toks := t' } :=
  ⟨.ref s.heap.objs.size, _, I.laid (t' := t') (o := .frz { cls := .type "tuple", data := .seq us.toArray } (.tup ys)) (fun b u e => Heap.get?_push_of_some _ e) (Nat.le_refl _)
    ⟨Heap.get?_push_size _ rfl, hz, us, r, ⟨_, Heap.get?_push_size _ rfl, rfl, _, rfl⟩⟩, rfl, q _ _ (I.hok.fresh (Nat.le_refl _)) ⟨rfl, rfl⟩⟩
end
section
variable {X : Cx}
def rCatF (K : PySem.W.Frag) : R2 := fun x y H Q => ∃ a b xs ys, x = .ref a ∧ y = .ref b ∧ SqT K H a xs ∧ SqT K H b ys ∧ xs.length + ys.length ≤ sizeLine ∧
  (xs = [] → Q (.ref b) H) ∧ (xs ≠ [] → ys = [] → Q (.ref a) H) ∧ (xs ≠ [] → ys ≠ [] → NewT H Q (xs ++ ys))
theorem op_catF : OpR X (binaryOp .Add) (rCatF X.K) := by
  intro pins s σ H x y v u Q I rx ry ⟨a, b, xs, ys, e1, e2, ha, hb, hz, q0, q1, q2⟩
  subst e1 e2
  cases rx
  cases ry
  obtain ⟨us, ra, pa, _⟩ := I.tuple ha
  obtain ⟨ws, rb, pb, _⟩ := I.tuple hb
  by_cases hx : xs = []
  · subst hx
    cases ra
    exact cat_tup0 pa pb ⟨.ref b, H, I, rfl, q0 rfl⟩
  · exact HT.cat_tup pa pb (fun z => hx (ra.nil_iff.mp z)) (fun z => ⟨.ref a, H, I, rfl, q1 hx (rb.nil_iff.mp z)⟩)
      (fun z => new_tup I (ra.append rb) (by rw [List.length_append]; exact hz) (q2 hx fun w => z (rb.nil_iff.mpr w)) (t' := s.toks)) (by rw [← ra.length, ← rb.length]; exact hz)
def rSlF (K : PySem.W.Frag) : V → Option Int → Option Int → Hp → VK → Prop := fun x lo hi H Q => ∃ a xs, x = .ref a ∧ SqT K H a xs ∧
  (HT.sIx xs.length 0 lo = 0 ∧ HT.sIx xs.length xs.length hi = xs.length → Q (.ref a) H) ∧ (¬ (HT.sIx xs.length 0 lo = 0 ∧ HT.sIx xs.length xs.length hi = xs.length) → NewT H Q (cutV xs lo hi))
theorem sl_tupF : SlR X (rSlF X.K) := by
  intro pins s σ H x v vl vu lo hi sl Q I rx hs pl pu ⟨a, xs, e1, hx, q1, q2⟩
  subst e1
  cases rx
  obtain ⟨us, ra, pa, hz⟩ := I.tuple hx
  have hn : us.toArray.size = xs.length := by rw [List.size_toArray, ra.length]
  refine ⟨"tuple", _, PyProof.Rows.slot_tuple_getitem.lookup, pa.typeIs, ?_⟩
  by_cases hw : HT.sIx xs.length 0 lo = 0 ∧ HT.sIx xs.length xs.length hi = xs.length
  · exact getItem_tuple_whole pa hs pl pu (by rw [hn]; exact hw) ⟨.ref a, H, I, rfl, q1 hw⟩
  · refine HT.getItem_tuple_cut pa hs pl pu (by rw [hn]; exact hw) ?_ (by rw [hn]; exact hz)
    rw [hn]
    exact new_tup I ((ra.drop (HT.sIx xs.length 0 lo)).take (HT.sIx xs.length xs.length hi - HT.sIx xs.length 0 lo)) (Nat.le_trans (cutV_length xs lo hi) hz) (q2 hw) (t' := s.toks)
theorem call_tupleF : CallR X (.type "tuple") (fun xs H Q => ∃ p ys, xs = [.ref p] ∧ ((SqL X.K H p ys ∧ NewT H Q ys) ∨ (SqT X.K H p ys ∧ Q (.ref p) H))) := by
  intro pins s σ H xs us Q I r ⟨p, ys, e1, h⟩
  subst e1
  rw [Vals.ref1 r]
  rcases h with ⟨hq, q⟩ | ⟨hq, q⟩
  · obtain ⟨ws, rw', pw, hz⟩ := I.list hq
    have hn := rw'.length
    exact call_tuple_list pw.isList (fun h' kp => new_tup (I.kept (t' := s.toks) kp) rw' hz q (t' := s.toks)) (by rw [List.size_toArray]; omega)
  · obtain ⟨ws, rw', pw, hz⟩ := I.tuple hq
    exact call_tuple_same pw ⟨.ref p, H, I, rfl, q⟩
def tTupF (t : TA) : TE := fun σ H Q => t σ H fun xs H1 => xs.length ≤ sizeLine ∧ NewT H1 Q xs
theorem pe_tupF {es : List Expr} {t : TA} {pos : Pos} {x1} (h : PA X es t) : PE X (.Tuple es x1 pos) (tTupF t) :=
  ⟨fun pins s σ H Q I hq => wpAny_Tuple_spliced (thn (h.run pos pins s σ H _ I hq) fun us s1 ⟨xs, H1, I1, r, z, q⟩ => ⟨by rw [← r.length]; exact z, new_tup I1 r z q (t' := s1.toks)⟩)⟩
def rRepF (K : PySem.W.Frag) : R2 := fun x y H Q => ∃ l k xs, x = .ref l ∧ y = .int k ∧ SqT K H l xs ∧ xs ≠ [] ∧ 2 ≤ k ∧ k ≤ 1000 ∧ xs.length ≤ 1000 ∧ NewT H Q (List.replicate k.toNat xs).flatten
theorem op_repF : OpR X (binaryOp .Mult) (rRepF X.K) := by
  intro pins s σ H x y v u Q I rx ry ⟨l, k, xs, e1, e2, hT, hne, h1, h2, hz, q⟩
  subst e1 e2
  cases rx
  obtain ⟨t, rfl⟩ := ry
  obtain ⟨us, ra, ⟨ob, ho, hc, n, hd⟩, hs⟩ := I.tuple hT
  obtain ⟨cls, dd, data, sl⟩ := ob
  have hc' : cls = .type "tuple" := hc
  have hd' : data = .seq us.toArray n := hd
  subst hc' hd'
  have hl : us.length = xs.length := ra.length.symm
  have hsz : us.toArray.size = xs.length := by rw [List.size_toArray, hl]
  have hi : us.toArray.isEmpty = false := by
    cases us with
    | nil => exact absurd (List.eq_nil_of_length_eq_zero hl.symm) hne
    | cons a b => rfl
  have a0 : k.toNat * xs.length ≤ 1000 * 1000 := Nat.mul_le_mul (by omega) hz
  have a1 : ((xs.length : Nat) : Int) * k ≤ 1000 * k := Int.mul_le_mul_of_nonneg_right (by omega) (by omega)
  have hm : ((us.toArray.size : Nat) : Int) * k ≤ 1000000 := by rw [hsz]; omega
  have flen : (List.replicate k.toNat us).flatten.length ≤ sizeLine := by rw [PyProof.Rows.lm_len_rep_flat, hl, sizeLine_eq]; omega
  have c0 : (decide (k < -(2 ^ 63)) || decide (k ≥ 2 ^ 63)) = false := by simp only [Bool.or_eq_false_iff, decide_eq_false_iff_not]; omega
  have c1 : (us.toArray.isEmpty || k == 1) = false := by
    rw [hi]
    exact beq_eq_false_iff_ne.mpr (by omega)
  have c2 : (decide (k ≤ 0) || us.toArray.isEmpty) = false := by rw [hi, Bool.or_false, decide_eq_false (by omega)]
  have c4 : Builtin.Tuple.tupleTooMany (((us.toArray.size : Nat) : Int) * k) = false := decide_eq_false (by rw [sizeLine_eq]; omega)
  refine wpAny_binaryOp_repeat_ref (T := "tuple") (U := "int") (by decide) ⟨_, ho, rfl⟩ (fun s' => typeIs_int s' k t) noFill_tuple_mul F.fills_int_mul F.slot_int_rmul repeat_tuple F.slot_int_index.lookup
    (call_meets F.slot_int_rmul (typeIs_int s k t) F.entry_int_rmul (F.args_int_rmul_2 _ _) (int_rmul_tuple k t l us.toArray n dd sl) ⟨ho, rfl, ⟨_, ho, rfl⟩,
      call_meets F.slot_tuple_mul ⟨_, ho, rfl⟩ F.entry_tuple_mul (F.args_tuple_mul_2 _ _) (tuple_mulW l us.toArray n dd sl k t c0 c1 c2 (by omega) c4 (by rw [size_rep, List.size_toArray]; exact flen)) ⟨ho, ?_⟩⟩)
  rw [size_rep]
  exact new_tup I (ra.rep k.toNat) (by rw [PyProof.Rows.lm_len_rep_flat, sizeLine_eq]; omega) q (t' := s.toks)
end
end DL
namespace DL
open PySem
/-- k01's DLT: the names that the code objects of the tables bear (addresses from the end's own print) -/
def nameAt (_ : Addr) : Str := "_law_are_states_right.<locals>.<lambda>"
end DL
namespace DL
open PySem PySem.Spec PyProof.Rows L2 LamX
abbrev TL := List Addr
/-- tables whose code objects bear their names -/
def Tabs (T : TL) (H : Hp) : Prop := ∀ P ∈ T, TabS H P (nameAt P)
theorem Tabs.ext {T : TL} {H H' : Hp} (t : Tabs T H) (e : ∀ b o, H b = some o → H' b = some o) : Tabs T H' := fun p hp => (t p hp).ext e
/-- the frozen part of the heap, and the tables of code objects -/
structure Fg where
  K : PySem.W.Frag
  T : TL
instance : Coe Fg PySem.W.Frag := ⟨Fg.K⟩
@[reducible] def _root_.L2.Cx.D (X : Cx) (T : TL) : Fg := ⟨X.K, T⟩
def TupD (H : Hp) (a : Addr) (xs : List V) : Prop := ∃ o, H a = some (.frz o (.tup xs)) ∧ PlainT o
theorem TupD.sq {K : PySem.W.Frag} {H : Hp} {a : Addr} {xs : List V} (h : TupD H a xs) : SqT K H a xs := by
  obtain ⟨o, h, _⟩ := h
  exact .inl (.inr ⟨o, h⟩)
/-- a dict with ints and texts as keys, read; a loop may walk it -/
structure DicD (H : Hp) (a : Addr) (kvs : List (Key × V)) : Prop where
  rd : Rd H a (.dK kvs)
def keyD : Key → PyData
  | .inl i => .int i
  | .inr x => .str x
mutual
/-- data as a key of a dict: ints, truths, None, tuples of such -/
def nkey : PyData → Option NestedKey
  | .none => some .none
  | .bool b => some (.num (if b = true then 1 else 0))
  | .int i => some (.num i)
  | .tuple ds => (nkeys ds).map .tup
  | .str _ => none
  | .list _ => none
  | .dict _ => none
def nkeys : List PyData → Option (List NestedKey)
  | [] => some []
  | d :: ds => (nkey d).bind fun k => (nkeys ds).map fun ks => k :: ks
end
/-- a dict whose keys are tuples of ints, None and such tuples; its entries: key, the key's address, value -/
def DicF (a : Addr) (es : List (NestedKey × Addr × V)) (h : Heap) : Prop := (a == sysModules) = false ∧ es.length ≤ sizeLine ∧ ∃ (w : World) (o : Obj) (arr : Array DictEntry) (ep : Nat) (xs : List (NestedKey × Addr × Value)), h.get? a = some o ∧ o.ExactDict ∧ o.data = .dict arr ep ∧
  Paired (fun (p : NestedKey × Addr × V) (q : NestedKey × Addr × Value) => p.1 = q.1 ∧ p.2.1 = q.2.1 ∧ RelV p.2.2 q.2.2) es xs ∧ arr.toList = xs.map (fun x => (⟨x.1.hash w, .ref x.2.1, x.2.2⟩ : DictEntry)) ∧ (es.map (·.1)).Nodup
def DicO (a : Addr) (es : List (NestedKey × Addr × V)) : HO := .ext (DicF a es)
/-- a dict with tuples as keys, read -/
structure DitD (H : Hp) (a : Addr) (es : List (NestedKey × Addr × V)) : Prop where
  rd : Rd H a (DicO a es)
/-- an entry as data -/
def prD (p : PyData × PyData) : PyData := .tuple [p.1, p.2]
mutual
/-- v is the data d in the heap H; no list or dict of it stands in W -/
inductive Dq (K : Fg) (H : Hp) (W : List Addr) : V → PyData → Prop
  | non : Dq K H W .non .none
  | bl (b : Bool) : Dq K H W (.bl b) (.bool b)
  | int (i : Int) : Dq K H W (.int i) (.int i)
  | str (x : Str) : Dq K H W (.str x) (.str x)
  | lst {a : Addr} {xs : List V} {ds : List PyData} : a ∉ W → H a = some (.lst xs) → DqA K H W xs ds → Dq K H W (.ref a) (.list ds)
  | tup {a : Addr} {xs : List V} {ds : List PyData} : TupD H a xs → DqA K H W xs ds → Dq K H W (.ref a) (.tuple ds)
  | dic {a : Addr} {kvs : List (Key × V)} {ds : List (PyData × PyData)} : a ∉ W → DicD H a kvs → DqK K H W kvs ds → Dq K H W (.ref a) (.dict ds)
  /-- a dict with tuples as keys: None as the only key marks it -/
  | dit {a : Addr} {es : List (NestedKey × Addr × V)} {ds : List (PyData × PyData)} : a ∉ W → DitD H a es → DqT K H W es ds → Dq K H W (.ref a) (.dict [(.none, .list (ds.map prD))])
inductive DqA (K : Fg) (H : Hp) (W : List Addr) : List V → List PyData → Prop
  | nil : DqA K H W [] []
  | cons {v : V} {d : PyData} {vs : List V} {ds : List PyData} : Dq K H W v d → DqA K H W vs ds → DqA K H W (v :: vs) (d :: ds)
inductive DqK (K : Fg) (H : Hp) (W : List Addr) : List (Key × V) → List (PyData × PyData) → Prop
  | nil : DqK K H W [] []
  | cons {k : Key} {v : V} {d : PyData} {vs : List (Key × V)} {ds : List (PyData × PyData)} : Dq K H W v d → DqK K H W vs ds → DqK K H W ((k, v) :: vs) ((keyD k, d) :: ds)
/-- the entries of a dict with tuples as keys -/
inductive DqT (K : Fg) (H : Hp) (W : List Addr) : List (NestedKey × Addr × V) → List (PyData × PyData) → Prop
  | nil : DqT K H W [] []
  | cons {k : NestedKey} {b : Addr} {v : V} {dk dv : PyData} {es : List (NestedKey × Addr × V)} {ds : List (PyData × PyData)} : Dq K H W (.ref b) dk → nkey dk = some k → k.depth ≤ 8 → Dq K H W v dv → DqT K H W es ds → DqT K H W ((k, b, v) :: es) ((dk, dv) :: ds)
end
/-- what stands at the addresses outside M stays -/
structure Keep (M : List Addr) (H H' : Hp) : Prop where
  old : ∀ b o, H b = some o → b ∉ M → (∀ ps, o ≠ .tbl ps) → H' b = some o
  tab : ∀ T, Tabs T H → Tabs T H'
  nn : ∀ a, H a ≠ none → H' a ≠ none
theorem Keep.at {M : List Addr} {H H' : Hp} (k : Keep M H H') {b : Addr} {o : HO} (e : H b = some o) (hb : b ∉ M) (ho : ∀ ps, o ≠ .tbl ps := by intro _ z; cases z) : H' b = some o := k.old b o e hb ho
theorem TabS.extB {H H' : Hp} {P : Addr} {q : Str} (t : TabS H P q) (e : ∀ b o, H b = some o → ((∃ ps, o = .tbl ps) ∨ ∃ c q, o = CodeO c q) → H' b = some o) : TabS H' P q := by
  obtain ⟨ps, h1, h2, h3⟩ := t
  refine ⟨ps, e _ _ h1 (.inl ⟨_, rfl⟩), h2, fun pos cv hc => ?_⟩
  obtain ⟨c, e1, e2⟩ := h3 pos cv hc
  exact ⟨c, e1, e _ _ e2 (.inr ⟨_, _, rfl⟩)⟩
/-- what a frame may own: a list, a dict -/
inductive OwnO : HO → Prop
  | lst (vs : List V) : OwnO (.lst vs)
  | dK (kvs : List (Key × V)) : OwnO (.dK kvs)
  | dT (a : Addr) (es : List (NestedKey × Addr × V)) : OwnO (DicO a es)
theorem dic_not_code {a c : Addr} {es : List (NestedKey × Addr × V)} {q : Str} (z : DicO a es = CodeO c q) : False := by
  have e : DicF a es = fun h => ∃ (oc : Obj) (vs : Array Value) (t : Tok), h.get? c = some oc ∧ oc.data = .fields vs ∧ vs[1]? = some (.str q t) := by
    unfold DicO CodeO at z
    injection z
  let oc : Obj := { cls := .none, data := .fields #[.none, .str q 0] }
  let h : Heap := { objs := Array.replicate (c + 1) oc }
  have gg : ∀ b, h.get? b = if b < c + 1 then some oc else none := fun b => by
    show (match (Array.replicate (c + 1) oc)[b]? with
      | some ⟨_, _, .freed, _⟩ => none
      | x => x) = _
    rw [Array.getElem?_replicate]
    by_cases z : b < c + 1
    · rw [if_pos z]
    · rw [if_neg z]
  have g : ∀ b o, h.get? b = some o → o = oc := fun b o e => by
    rw [gg] at e
    split at e <;> cases e
    rfl
  have gc : h.get? c = some oc := by rw [gg, if_pos (Nat.lt_succ_self c)]
  have h1 : DicF a es h := by
    rw [e]
    exact ⟨oc, #[.none, .str q 0], 0, gc, rfl, rfl⟩
  obtain ⟨_, _, _, o, arr, ep, _, g1, _, g2, _⟩ := h1
  rw [g a o g1] at g2
  cases g2
theorem OwnO.not_frz {o : Obj} {u : HO} (h : OwnO (.frz o u)) : False := by
  generalize e : HO.frz o u = x at h
  cases h <;> cases e
theorem OwnO.not_tup {xs : List V} (h : OwnO (.tup xs)) : False := by
  generalize e : HO.tup xs = x at h
  cases h <;> cases e
theorem OwnO.ntbl {u : HO} (h : OwnO u) : ∀ ps, u ≠ .tbl ps := by
  intro ps e
  cases h <;> cases e
theorem OwnO.ncode {u : HO} (h : OwnO u) {c : Addr} {q : Str} : u ≠ CodeO c q := by
  intro e
  cases h with
  | lst vs => cases e
  | dK vs => cases e
  | dT a es => exact dic_not_code e
def Lists (H : Hp) (M : List Addr) : Prop := ∀ a ∈ M, ∃ u, H a = some u ∧ OwnO u
theorem Rd.ne_none {H : Hp} {a : Addr} {u : HO} (h : Rd H a u) : H a ≠ none := by
  rcases h with h | ⟨o, h⟩ <;> rw [h] <;> exact fun e => nomatch e
theorem Rd.keep {H H' : Hp} {M : List Addr} {a : Addr} {u : HO} (hu : ∀ ps, u ≠ .tbl ps) (k : Keep M H H') (ha : a ∉ M) (h : Rd H a u) : Rd H' a u := by
  rcases h with h | ⟨o, h⟩
  · exact .inl (k.old _ _ h ha hu)
  · exact .inr ⟨o, k.at h ha⟩
theorem DicD.ne {H : Hp} {a : Addr} {kvs : List (Key × V)} (h : DicD H a kvs) : H a ≠ none := Rd.ne_none h.rd
theorem DicD.keep {H H' : Hp} {M : List Addr} (k : Keep M H H') {a : Addr} {kvs : List (Key × V)} (h : DicD H a kvs) (ha : a ∉ M) : DicD H' a kvs := ⟨Rd.keep (fun _ z => nomatch z) k ha h.rd⟩
theorem DitD.ne {H : Hp} {a : Addr} {es : List (NestedKey × Addr × V)} (h : DitD H a es) : H a ≠ none := Rd.ne_none h.rd
theorem DitD.keep {H H' : Hp} {M : List Addr} (k : Keep M H H') {a : Addr} {es : List (NestedKey × Addr × V)} (h : DitD H a es) (ha : a ∉ M) : DitD H' a es := ⟨Rd.keep (OwnO.dT a es).ntbl k ha h.rd⟩
theorem TupD.keep {H H' : Hp} {M : List Addr} (hM : Lists H M) (k : Keep M H H') {a : Addr} {xs : List V} (h : TupD H a xs) : TupD H' a xs := by
  obtain ⟨o, h, p⟩ := h
  refine ⟨o, k.at h fun hm => ?_, p⟩
  obtain ⟨u, e, ou⟩ := hM a hm
  rw [h] at e; cases e; exact ou.not_frz
theorem SqT.keep {K : PySem.W.Frag} {H H' : Hp} {M : List Addr} (hM : Lists H M) (k : Keep M H H') {a : Addr} {xs : List V} (h : SqT K H a xs) : SqT K H' a xs := by
  rcases h with (h | ⟨o, h⟩) | h
  · refine .inl (.inl (k.at h fun hm => ?_))
    obtain ⟨u, e, ou⟩ := hM a hm
    rw [h] at e; cases e; exact ou.not_tup
  · refine .inl (.inr ⟨o, k.at h fun hm => ?_⟩)
    obtain ⟨u, e, ou⟩ := hM a hm
    rw [h] at e; cases e; exact ou.not_frz
  · exact .inr h
section
variable {K : Fg} {H H' : Hp} {W W' M : List Addr}
mutual
/-- the heap turns outside of what is read; other addresses are shut out -/
theorem Dq.move (hM : Lists H M) (hW : ∀ a ∈ M, a ∈ W) (k : Keep M H H') (hw : ∀ a ∈ W', a ∈ W ∨ H a = none) : ∀ {v : V} {d : PyData}, Dq K H W v d → Dq K H' W' v d
  | _, _, .non => .non
  | _, _, .bl b => .bl b
  | _, _, .int i => .int i
  | _, _, .str x => .str x
  | _, _, .lst h1 h2 h3 => .lst (fun hm => (hw _ hm).elim h1 (fun e => by rw [h2] at e; cases e)) (k.at h2 fun hm => h1 (hW _ hm)) (DqA.move hM hW k hw h3)
  | _, _, .tup h2 h3 => .tup (TupD.keep hM k h2) (DqA.move hM hW k hw h3)
  | _, _, .dic h1 h2 h3 => .dic (fun hm => (hw _ hm).elim h1 (fun e => h2.ne e)) (h2.keep k fun hm => h1 (hW _ hm)) (DqK.move hM hW k hw h3)
  | _, _, .dit h1 h2 h3 => .dit (fun hm => (hw _ hm).elim h1 (fun e => h2.ne e)) (h2.keep k fun hm => h1 (hW _ hm)) (DqT.move hM hW k hw h3)
theorem DqA.move (hM : Lists H M) (hW : ∀ a ∈ M, a ∈ W) (k : Keep M H H') (hw : ∀ a ∈ W', a ∈ W ∨ H a = none) : ∀ {v : List V} {d : List PyData}, DqA K H W v d → DqA K H' W' v d
  | _, _, .nil => .nil
  | _, _, .cons h1 h2 => .cons (Dq.move hM hW k hw h1) (DqA.move hM hW k hw h2)
theorem DqK.move (hM : Lists H M) (hW : ∀ a ∈ M, a ∈ W) (k : Keep M H H') (hw : ∀ a ∈ W', a ∈ W ∨ H a = none) : ∀ {v : List (Key × V)} {d : List (PyData × PyData)}, DqK K H W v d → DqK K H' W' v d
  | _, _, .nil => .nil
  | _, _, .cons h1 h2 => .cons (Dq.move hM hW k hw h1) (DqK.move hM hW k hw h2)
theorem DqT.move (hM : Lists H M) (hW : ∀ a ∈ M, a ∈ W) (k : Keep M H H') (hw : ∀ a ∈ W', a ∈ W ∨ H a = none) : ∀ {v : List (NestedKey × Addr × V)} {d : List (PyData × PyData)}, DqT K H W v d → DqT K H' W' v d
  | _, _, .nil => .nil
  | _, _, .cons h1 h2 h3 h4 h5 => .cons (Dq.move hM hW k hw h1) h2 h3 (Dq.move hM hW k hw h4) (DqT.move hM hW k hw h5)
end
theorem keep_refl : Keep M H H := ⟨fun _ _ h _ _ => h, fun _ h => h, fun _ h => h⟩
theorem lists_nil : Lists H [] := fun _ h => nomatch h
theorem Dq.sub (hw : ∀ a ∈ W', a ∈ W) {v : V} {d : PyData} (h : Dq K H W v d) : Dq K H W' v d := h.move (M := []) lists_nil (fun _ z => nomatch z) keep_refl fun a z => .inl (hw a z)
theorem DqA.sub (hw : ∀ a ∈ W', a ∈ W) {v : List V} {d : List PyData} (h : DqA K H W v d) : DqA K H W' v d := h.move (M := []) lists_nil (fun _ z => nomatch z) keep_refl fun a z => .inl (hw a z)
theorem DqA.length : ∀ {vs : List V} {ds : List PyData}, DqA K H W vs ds → vs.length = ds.length
  | _, _, .nil => rfl
  | _, _, .cons _ h => by rw [List.length_cons, List.length_cons, h.length]
theorem DqA.append : ∀ {vs ws : List V} {ds es : List PyData}, DqA K H W vs ds → DqA K H W ws es → DqA K H W (vs ++ ws) (ds ++ es)
  | _, _, _, _, .nil, h => h
  | _, _, _, _, .cons h1 h2, h => .cons h1 (h2.append h)
theorem DqA.get : ∀ {vs : List V} {ds : List PyData} {i : Nat} {d : PyData}, DqA K H W vs ds → ds[i]? = some d → ∃ v, vs[i]? = some v ∧ Dq K H W v d
  | _, _, _, _, .nil, e => by simp at e
  | _, _, 0, _, .cons h1 h2, e => by
    simp at e; subst e
    exact ⟨_, rfl, h1⟩
  | _, _, i + 1, _, .cons h1 h2, e => by
    obtain ⟨v, e1, h⟩ := DqA.get (i := i) h2 (by simpa using e)
    exact ⟨v, by simpa using e1, h⟩
theorem DqA.take : ∀ {vs : List V} {ds : List PyData} (n : Nat), DqA K H W vs ds → DqA K H W (vs.take n) (ds.take n)
  | _, _, 0, _ => .nil
  | _, _, _ + 1, .nil => .nil
  | _, _, n + 1, .cons h1 h2 => .cons h1 (DqA.take n h2)
theorem DqA.drop : ∀ {vs : List V} {ds : List PyData} (n : Nat), DqA K H W vs ds → DqA K H W (vs.drop n) (ds.drop n)
  | _, _, 0, h => h
  | _, _, _ + 1, .nil => .nil
  | _, _, n + 1, .cons h1 h2 => DqA.drop n h2
theorem DqA.set {v : V} {d : PyData} (h : Dq K H W v d) : ∀ {vs : List V} {ds : List PyData} (n : Nat), DqA K H W vs ds → DqA K H W (vs.set n v) (ds.set n d)
  | _, _, _, .nil => .nil
  | _, _, 0, .cons h1 h2 => .cons h h2
  | _, _, n + 1, .cons h1 h2 => .cons h1 (DqA.set h n h2)
theorem DqA.ints : ∀ {vs : List V} {ns : List Int}, DqA K H W vs (ns.map .int) → vs = ns.map V.int
  | _, [], h => by cases h; rfl
  | _, n :: ns, h => by
    cases h with
    | cons h1 h2 =>
      cases h1
      rw [DqA.ints h2]; rfl
theorem DqA.of_ints : ∀ (ns : List Int), DqA K H W (ns.map V.int) (ns.map .int)
  | [] => .nil
  | n :: ns => .cons (.int n) (DqA.of_ints ns)
end
section
variable {K : Fg} {H H' : Hp} {W W' M : List Addr}
/-- the object u at a is a dict with the pairs ds; t: its keys are tuples, otherwise ints and texts -/
def HasD (K : Fg) (H : Hp) (W : List Addr) (t : Bool) (a : Addr) (u : HO) (ds : List (PyData × PyData)) : Prop := match t with
  | true => ∃ es, u = DicO a es ∧ DqT K H W es ds
  | false => ∃ kvs, u = .dK kvs ∧ DqK K H W kvs ds
theorem HasD.move {t : Bool} {a : Addr} {u : HO} {ds : List (PyData × PyData)} (hM : Lists H M) (hW : ∀ a ∈ M, a ∈ W) (k : Keep M H H') (hw : ∀ a ∈ W', a ∈ W ∨ H a = none) (h : HasD K H W t a u ds) : HasD K H' W' t a u ds := by
  cases t with
  | true => obtain ⟨es, e, h⟩ := h; exact ⟨es, e, h.move hM hW k hw⟩
  | false => obtain ⟨es, e, h⟩ := h; exact ⟨es, e, h.move hM hW k hw⟩
theorem HasD.sub {t : Bool} {a : Addr} {u : HO} {ds : List (PyData × PyData)} (hw : ∀ a ∈ W', a ∈ W) (h : HasD K H W t a u ds) : HasD K H W' t a u ds := h.move (M := []) lists_nil (fun _ z => nomatch z) keep_refl fun a z => .inl (hw a z)
theorem HasD.own {t : Bool} {a : Addr} {u : HO} {ds : List (PyData × PyData)} (h : HasD K H W t a u ds) : OwnO u := by
  cases t with
  | true => obtain ⟨es, rfl, h⟩ := h; exact .dT _ _
  | false => obtain ⟨es, rfl, h⟩ := h; exact .dK _
end
/-- a slot: nothing known; closed data; an open list of this frame; an open list handed in -/
inductive Cell where
  | no | cl (d : PyData) | op (ds : List PyData) | pm (ds : List PyData)
  /-- an open dict of this frame; t: its keys are tuples -/
  | dk (t : Bool) (ds : List (PyData × PyData))
def Cell.isOpen : Cell → Bool
  | .op _ | .pm _ | .dk _ _ => true
  | _ => false
def CellOk (K : Fg) (P B L : List Addr) (H : Hp) (o : Option (Option V)) : Cell → Prop
  | .no => True
  | .cl d => ∃ v, o = some (some v) ∧ Dq K H (P ++ B ++ L) v d
  | .op ds => ∃ a vs, o = some (some (.ref a)) ∧ a ∈ L ∧ H a = some (.lst vs) ∧ DqA K H (P ++ B ++ L) vs ds
  | .pm ds => ∃ a vs, o = some (some (.ref a)) ∧ a ∈ B ∧ H a = some (.lst vs) ∧ DqA K H (P ++ B ++ L) vs ds
  | .dk t ds => ∃ a u, o = some (some (.ref a)) ∧ a ∈ L ∧ H a = some u ∧ HasD K H (P ++ B ++ L) t a u ds
abbrev Env := List Cell
structure Rep (K : Fg) (P B L : List Addr) (σ : L2.St) (ρ : DL.Env) (H : Hp) : Prop where
  len : σ.length = ρ.length
  wl : Lists H (P ++ B ++ L)
  nd : (∀ a ∈ P, a ∉ B ∧ a ∉ L) ∧ ∀ a ∈ B, a ∉ L
  ok : ∀ i, CellOk K P B L H σ[i]? (ρ.getD i .no)
  inj : ∀ i j (a : Addr), i ≠ j → (ρ.getD i .no).isOpen = true → (ρ.getD j .no).isOpen = true → σ[i]? = some (some (V.ref a)) → σ[j]? = some (some (V.ref a)) → False
  tabs : Tabs K.T H
structure Step (B L : List Addr) (H : Hp) (L' : List Addr) (H' : Hp) : Prop where
  keep : Keep (B ++ L) H H'
  lsub : ∀ a ∈ L', a ∈ L ∨ H a = none
  ne : ∀ a, H a ≠ none → H' a ≠ none
theorem Step.refl {B L : List Addr} {H : Hp} : Step B L H L H := ⟨keep_refl, fun _ h => .inl h, fun _ h => h⟩
theorem Step.trans {B L L1 L2 : List Addr} {H H1 H2 : Hp} (a : Step B L H L1 H1) (b : Step B L1 H1 L2 H2) : Step B L H L2 H2 where
  keep := by
    refine ⟨fun c o e hm ho => ?_, fun T t => b.keep.tab T (a.keep.tab T t), fun c h => b.ne c (a.ne c h)⟩
    refine b.keep.old c o (a.keep.old c o e hm ho) (fun hm' => hm ?_) ho
    rcases List.mem_append.mp hm' with h | h
    · exact List.mem_append_left _ h
    · rcases a.lsub c h with h | h
      · exact List.mem_append_right _ h
      · rw [e] at h; cases h
  lsub := fun c hc => by
    rcases b.lsub c hc with h | h
    · exact a.lsub c h
    · right
      cases e : H c with
      | none => rfl
      | some o => exact absurd h (a.ne c (by rw [e]; exact fun z => nomatch z))
  ne := fun c h => b.ne c (a.ne c h)
theorem Step.of_same {B L : List Addr} {H H' : Hp} (k : Keep [] H H') : Step B L H L H' := ⟨⟨fun b o e _ ho => k.old b o e (fun z => nomatch z) ho, k.tab, k.nn⟩, fun _ h => .inl h, k.nn⟩
theorem Keep.mono {M M' : List Addr} {H H' : Hp} (k : Keep M H H') (h : ∀ a ∈ M, a ∈ M') : Keep M' H H' := ⟨fun b o e hm ho => k.old b o e (fun z => hm (h b z)) ho, k.tab, k.nn⟩
theorem Keep.new {H : Hp} {p : Addr} {o : HO} (hp : H p = none) : Keep [] H (upd H p o) := ⟨fun b u e _ _ => by
  rw [upd_ne (ne_of_none e hp)]; exact e, fun T t => t.ext fun b u e => by
  rw [upd_ne (ne_of_none e hp)]; exact e, fun b h => by
  by_cases q : b = p
  · subst q; exact absurd hp h
  · rw [upd_ne q]; exact h⟩
theorem Keep.tr {H H1 H2 : Hp} (a : Keep [] H H1) (b : Keep [] H1 H2) : Keep [] H H2 := ⟨fun c o e z ho => b.old c o (a.old c o e z ho) z ho, fun T t => b.tab T (a.tab T t), fun c h => b.nn c (a.nn c h)⟩
section
variable {K : Fg} {P B L E : List Addr} {σ : L2.St} {ρ : DL.Env} {H H' : Hp}
theorem mem3 {a : Addr} {P B L : List Addr} : a ∈ P ++ B ++ L ↔ a ∈ P ∨ a ∈ B ∨ a ∈ L := by
  rw [List.mem_append, List.mem_append, or_assoc]
/-- the heap grows; new lists are shut out -/
theorem Rep.moveD (R : Rep K P B L σ ρ H) (k : Keep [] H H') (he : ∀ a ∈ E, H a = none ∧ ∃ u, H' a = some u ∧ OwnO u) : Rep K (E ++ P) B L σ ρ H' := by
  have hw : ∀ a ∈ (E ++ P) ++ B ++ L, a ∈ P ++ B ++ L ∨ H a = none := fun a h => by
    rcases mem3.mp h with h | h | h
    · rcases List.mem_append.mp h with h | h
      · exact .inr (he a h).1
      · exact .inl (mem3.mpr (.inl h))
    · exact .inl (mem3.mpr (.inr (.inl h)))
    · exact .inl (mem3.mpr (.inr (.inr h)))
  have mv : ∀ {v : V} {d : PyData}, Dq K H (P ++ B ++ L) v d → Dq K H' ((E ++ P) ++ B ++ L) v d := fun h => h.move lists_nil (fun _ z => nomatch z) k hw
  have mvA : ∀ {v : List V} {d : List PyData}, DqA K H (P ++ B ++ L) v d → DqA K H' ((E ++ P) ++ B ++ L) v d := fun h => h.move lists_nil (fun _ z => nomatch z) k hw
  have ne : ∀ a, a ∈ E → a ∉ P ++ B ++ L := fun a h hm => by
    obtain ⟨vs, e, _⟩ := R.wl a hm
    rw [(he a h).1] at e; cases e
  refine ⟨R.len, fun a h => ?_, ⟨fun a h => ?_, R.nd.2⟩, fun i => ?_, R.inj, k.tab _ R.tabs⟩
  · rcases mem3.mp h with h | h | h
    · rcases List.mem_append.mp h with h | h
      · exact (he a h).2
      · obtain ⟨vs, e, ou⟩ := R.wl a (mem3.mpr (.inl h))
        exact ⟨vs, k.at e (fun z => nomatch z) ou.ntbl, ou⟩
    · obtain ⟨vs, e, ou⟩ := R.wl a (mem3.mpr (.inr (.inl h)))
      exact ⟨vs, k.at e (fun z => nomatch z) ou.ntbl, ou⟩
    · obtain ⟨vs, e, ou⟩ := R.wl a (mem3.mpr (.inr (.inr h)))
      exact ⟨vs, k.at e (fun z => nomatch z) ou.ntbl, ou⟩
  · rcases List.mem_append.mp h with h | h
    · exact ⟨fun z => ne a h (mem3.mpr (.inr (.inl z))), fun z => ne a h (mem3.mpr (.inr (.inr z)))⟩
    · exact R.nd.1 a h
  · have q := R.ok i
    revert q
    generalize ρ.getD i .no = c
    intro q
    cases c with
    | no => trivial
    | cl d => obtain ⟨v, e, h⟩ := q; exact ⟨v, e, mv h⟩
    | op ds => obtain ⟨a, vs, e, hm, hh, h⟩ := q; exact ⟨a, vs, e, hm, k.at hh (fun z => nomatch z), mvA h⟩
    | pm ds => obtain ⟨a, vs, e, hm, hh, h⟩ := q; exact ⟨a, vs, e, hm, k.at hh (fun z => nomatch z), mvA h⟩
    | dk t ds => obtain ⟨a, vs, e, hm, hh, h⟩ := q; exact ⟨a, vs, e, hm, k.at hh (fun z => nomatch z) h.own.ntbl, h.move lists_nil (fun _ z => nomatch z) k hw⟩
theorem Rep.move (R : Rep K P B L σ ρ H) (k : Keep [] H H') (he : ∀ a ∈ E, H a = none ∧ ∃ vs, H' a = some (.lst vs)) : Rep K (E ++ P) B L σ ρ H' := R.moveD k fun a z => ⟨(he a z).1, let ⟨vs, e⟩ := (he a z).2; ⟨_, e, .lst vs⟩⟩
theorem Rep.same (R : Rep K P B L σ ρ H) (k : Keep [] H H') : Rep K P B L σ ρ H' := R.move (E := []) k (fun _ z => nomatch z)
theorem Rep.drop (R : Rep K (E ++ P) B L σ ρ H) : Rep K P B L σ ρ H := by
  have hs : ∀ a ∈ P ++ B ++ L, a ∈ (E ++ P) ++ B ++ L := fun a h => by
    rcases mem3.mp h with h | h | h
    · exact mem3.mpr (.inl (List.mem_append_right _ h))
    · exact mem3.mpr (.inr (.inl h))
    · exact mem3.mpr (.inr (.inr h))
  refine ⟨R.len, fun a h => R.wl a (hs a h), ⟨fun a h => R.nd.1 a (List.mem_append_right _ h), R.nd.2⟩, fun i => ?_, R.inj, R.tabs⟩
  have q := R.ok i
  revert q
  generalize ρ.getD i .no = c
  intro q
  cases c with
  | no => trivial
  | cl d => obtain ⟨v, e, h⟩ := q; exact ⟨v, e, h.sub hs⟩
  | op ds => obtain ⟨a, vs, e, hm, hh, h⟩ := q; exact ⟨a, vs, e, hm, hh, h.sub hs⟩
  | pm ds => obtain ⟨a, vs, e, hm, hh, h⟩ := q; exact ⟨a, vs, e, hm, hh, h.sub hs⟩
  | dk t ds => obtain ⟨a, vs, e, hm, hh, h⟩ := q; exact ⟨a, vs, e, hm, hh, h.sub hs⟩
theorem Rep.lbl (R : Rep K P B L σ ρ H) : Lists H (B ++ L) := fun a h => R.wl a (mem3.mpr (.inr (List.mem_append.mp h)))
/-- closed data across a step -/
theorem Dq.step {L' : List Addr} (R : Rep K P B L σ ρ H) (s : Step B L H L' H') {v : V} {d : PyData} (h : Dq K H (P ++ B ++ L) v d) : Dq K H' (P ++ B ++ L') v d :=
  h.move R.lbl (fun a z => mem3.mpr (.inr (List.mem_append.mp z))) s.keep fun a z => by
    rcases mem3.mp z with z | z | z
    · exact .inl (mem3.mpr (.inl z))
    · exact .inl (mem3.mpr (.inr (.inl z)))
    · exact (s.lsub a z).imp (fun z => mem3.mpr (.inr (.inr z))) id
theorem DqA.step {L' : List Addr} (R : Rep K P B L σ ρ H) (s : Step B L H L' H') {v : List V} {d : List PyData} (h : DqA K H (P ++ B ++ L) v d) : DqA K H' (P ++ B ++ L') v d :=
  h.move R.lbl (fun a z => mem3.mpr (.inr (List.mem_append.mp z))) s.keep fun a z => by
    rcases mem3.mp z with z | z | z
    · exact .inl (mem3.mpr (.inl z))
    · exact .inl (mem3.mpr (.inr (.inl z)))
    · exact (s.lsub a z).imp (fun z => mem3.mpr (.inr (.inr z))) id
end
/-- closed data; a list made just now, held by nobody; the open list of a slot -/
inductive Val where
  | cl (d : PyData) | own (ds : List PyData) | sl (i : Nat)
def VR (K : Fg) (E P B L : List Addr) (σ : L2.St) (H : Hp) (x : V) : Val → Prop
  | .cl d => Dq K H (E ++ P ++ B ++ L) x d
  | .own ds => ∃ a vs, x = V.ref a ∧ a ∈ E ∧ a ∉ P ∧ H a = some (.lst vs) ∧ DqA K H (E ++ P ++ B ++ L) vs ds
  | .sl i => σ[i]? = some (some x)
theorem app_assoc3 (E P B L : List Addr) : E ++ P ++ B ++ L = E ++ (P ++ B ++ L) := by simp
theorem mem4 {a : Addr} {E P B L : List Addr} : a ∈ E ++ P ++ B ++ L ↔ a ∈ E ∨ a ∈ P ∨ a ∈ B ∨ a ∈ L := by
  rw [app_assoc3, List.mem_append, mem3]
structure Post (K : Fg) (P B L : List Addr) (σ : L2.St) (H : Hp) (E : List Addr) (ρ' : DL.Env) (H' : Hp) (L' E' : List Addr) : Prop where
  rep : Rep K (E' ++ P) B L' σ ρ' H'
  step : Step B L H L' H'
  esub : ∀ a ∈ E', a ∈ E ∨ H a = none
section
variable {K : Fg} {P B L L' La Lb E E' E1 E2 : List Addr} {σ : L2.St} {ρ ρ' ρ1 ρ2 : DL.Env} {H H' H1 H2 : Hp} {x : V} {r : Val}
/-- what was reckoned first, behind what was reckoned then -/
theorem VR.later (R : Rep K (E1 ++ P) B La σ ρ1 H1) (p : Post K (E1 ++ P) B La σ H1 [] ρ2 H2 Lb E2) (h : VR K E1 P B La σ H1 x r) : VR K (E2 ++ E1) P B Lb σ H2 x r := by
  have hw : ∀ a ∈ (E2 ++ E1) ++ P ++ B ++ Lb, a ∈ E1 ++ P ++ B ++ La ∨ H1 a = none := fun a z => by
    rcases mem4.mp z with z | z | z | z
    · rcases List.mem_append.mp z with z | z
      · exact (p.esub a z).elim (fun q => nomatch q) .inr
      · exact .inl (mem4.mpr (.inl z))
    · exact .inl (mem4.mpr (.inr (.inl z)))
    · exact .inl (mem4.mpr (.inr (.inr (.inl z))))
    · exact (p.step.lsub a z).imp (fun q => mem4.mpr (.inr (.inr (.inr q)))) id
  have hM : ∀ a ∈ B ++ La, a ∈ E1 ++ P ++ B ++ La := fun a z => mem4.mpr (.inr (.inr (List.mem_append.mp z)))
  cases r with
  | cl d => exact Dq.move R.lbl hM p.step.keep hw h
  | own ds =>
    obtain ⟨a, vs, e, hm, hp, hh, h⟩ := h
    refine ⟨a, vs, e, List.mem_append_right _ hm, hp, p.step.keep.at hh fun z => ?_, DqA.move R.lbl hM p.step.keep hw h⟩
    have q := R.nd.1 a (List.mem_append_left _ hm)
    exact (List.mem_append.mp z).elim q.1 q.2
  | sl i => exact h
/-- what was reckoned last -/
theorem VR.last (R : Rep K (E1 ++ P) B La σ ρ1 H1) (h : VR K E2 (E1 ++ P) B Lb σ H2 x r) : VR K (E2 ++ E1) P B Lb σ H2 x r := by
  have ee : E2 ++ (E1 ++ P) ++ B ++ Lb = (E2 ++ E1) ++ P ++ B ++ Lb := by simp
  cases r with
  | cl d => exact (show Dq K H2 _ x d from ee ▸ (show Dq K H2 (E2 ++ (E1 ++ P) ++ B ++ Lb) x d from h))
  | own ds =>
    obtain ⟨a, vs, e, hm, hp, hh, h⟩ := h
    exact ⟨a, vs, e, List.mem_append_left _ hm, fun z => hp (List.mem_append_right _ z), hh, ee ▸ h⟩
  | sl i => exact h
theorem Post.two (p1 : Post K P B L σ H [] ρ1 H1 La E1) (p2 : Post K (E1 ++ P) B La σ H1 [] ρ2 H2 Lb E2) : Post K P B L σ H [] ρ2 H2 Lb (E2 ++ E1) where
  rep := by
    have ee : (E2 ++ E1) ++ P = E2 ++ (E1 ++ P) := by simp
    rw [ee]; exact p2.rep
  step := p1.step.trans p2.step
  esub := fun a h => by
    rcases List.mem_append.mp h with h | h
    · rcases p2.esub a h with h | h
      · exact nomatch h
      · right
        cases e : H a with
        | none => rfl
        | some o => exact absurd h (p1.step.ne a (by rw [e]; exact fun z => nomatch z))
    · exact p1.esub a h
theorem Post.then (p1 : Post K P B L σ H E ρ1 H1 La E1) (p2 : Post K P B La σ H1 E1 ρ2 H2 Lb E2) : Post K P B L σ H E ρ2 H2 Lb E2 where
  rep := p2.rep
  step := p1.step.trans p2.step
  esub := fun a h => by
    rcases p2.esub a h with h | h
    · exact p1.esub a h
    · right
      cases e : H a with
      | none => rfl
      | some o => exact absurd h (p1.step.ne a (by rw [e]; exact fun z => nomatch z))
end
end DL
namespace DL
open PySem PySem.Spec PyProof.Rows L2
abbrev ED := DL.Env → Option (Val × DL.Env)
abbrev AD := DL.Env → Option (List Val × DL.Env)
abbrev TD := DL.Env → Option (Bool × DL.Env)
def Cont (K : Fg) (P B L : List Addr) (σ : L2.St) (H : Hp) (E : List Addr) (ρ' : DL.Env) (r : Val) (Q : VK) : Prop :=
  ∀ x' H' L' E', Post K P B L σ H E ρ' H' L' E' → VR K E' P B L' σ H' x' r → Q x' H'
def RD (K : Fg) (f : ED) : TE := fun σ H Q => ∃ P B L ρ r ρ', Rep K P B L σ ρ H ∧ f ρ = some (r, ρ') ∧ Cont K P B L σ H [] ρ' r Q
def RT (K : Fg) (f : TD) : TT := fun σ H Q => ∃ P B L ρ b ρ', Rep K P B L σ ρ H ∧ f ρ = some (b, ρ') ∧ ∀ H' L' E', Post K P B L σ H [] ρ' H' L' E' → Q b H'
def Val.isOwn : Val → Bool
  | .own _ => true
  | _ => false
inductive VRs (K : Fg) (E P B L : List Addr) (σ : L2.St) (H : Hp) : List V → List Val → Prop
  | nil : VRs K E P B L σ H [] []
  | cons {x : V} {r : Val} {xs : List V} {rs : List Val} : VR K E P B L σ H x r → (r.isOwn = true → ∀ p ∈ xs.zip rs, p.2.isOwn = true → p.1 ≠ x) → VRs K E P B L σ H xs rs → VRs K E P B L σ H (x :: xs) (r :: rs)
def RA (K : Fg) (f : AD) : TA := fun σ H Q => ∃ P B L ρ rs ρ', Rep K P B L σ ρ H ∧ f ρ = some (rs, ρ') ∧ ∀ xs H' L' E', Post K P B L σ H [] ρ' H' L' E' → VRs K E' P B L' σ H' xs rs → Q xs H'
theorem _root_.L2.PE.imp {X : Cx} {e : Expr} {t t' : TE} (p : PE X e t) (h : ∀ σ H Q, t' σ H Q → t σ H Q) : PE X e t' := ⟨fun pins s σ H Q I q => p.run pins s σ H Q I (h σ H Q q)⟩
theorem _root_.L2.PT.imp {X : Cx} {e : Expr} {t t' : TT} (p : PT X e t) (h : ∀ σ H Q, t' σ H Q → t σ H Q) : PT X e t' := ⟨fun pins s σ H Q I q => p.run pins s σ H Q I (h σ H Q q)⟩
theorem _root_.L2.PA.imp {X : Cx} {e : List Expr} {t t' : TA} (p : PA X e t) (h : ∀ σ H Q, t' σ H Q → t σ H Q) : PA X e t' := ⟨fun pos pins s σ H Q I q => p.run pos pins s σ H Q I (h σ H Q q)⟩
theorem _root_.L2.PS.imp {X : Cx} {e : Stmt} {t t' : TS} (p : PS X e t) (h : ∀ D σ H, t' D σ H → t D σ H) : PS X e t' := ⟨fun pins s σ H Q I q => p.run pins s σ H Q I (h Q σ H q)⟩
theorem _root_.L2.PSs.imp {X : Cx} {e : List Stmt} {t t' : TS} (p : PSs X e t) (h : ∀ D σ H, t' D σ H → t D σ H) : PSs X e t' := ⟨fun pins s σ H Q I q => p.run pins s σ H Q I (h Q σ H q)⟩
section
variable {K : Fg} {P B L E : List Addr} {σ : L2.St} {ρ ρ' : DL.Env} {H : Hp} {x : V} {r : Val} {Q : VK}
theorem Post.refl (R : Rep K (E ++ P) B L σ ρ H) : Post K P B L σ H E ρ H L E := ⟨R, Step.refl, fun _ h => .inl h⟩
theorem Post.same {H' : Hp} (R : Rep K (E ++ P) B L σ ρ H) (k : Keep [] H H') : Post K P B L σ H E ρ H' L E := ⟨R.same k, Step.of_same k, fun _ h => .inl h⟩
theorem VR.same {H' : Hp} (k : Keep [] H H') (h : VR K E P B L σ H x r) : VR K E P B L σ H' x r := by
  cases r with
  | cl d => exact Dq.move lists_nil (fun _ z => nomatch z) k (fun _ z => .inl z) h
  | own ds => obtain ⟨a, vs, e, h1, h2, h3, h4⟩ := h; exact ⟨a, vs, e, h1, h2, k.at h3 (fun z => nomatch z), DqA.move lists_nil (fun _ z => nomatch z) k (fun _ z => .inl z) h4⟩
  | sl i => exact h
/-- an answer without a new object -/
theorem Cont.here (c : Cont K P B L σ H E ρ r Q) (R : Rep K (E ++ P) B L σ ρ H) (v : VR K E P B L σ H x r) : Q x H := c x H L E (.refl R) v
theorem Cont.tup {vs : List V} {ds : List PyData} {p : Addr} (c : Cont K P B L σ H E ρ (.cl (.tuple ds)) Q) (R : Rep K (E ++ P) B L σ ρ H) (h : DqA K H (E ++ P ++ B ++ L) vs ds) {ob : Obj} (hp : H p = none) (po : PlainT ob) : Q (.ref p) (upd H p (.frz ob (.tup vs))) := by
  refine c _ _ L E (.same R (Keep.new hp)) ?_
  exact Dq.tup ⟨ob, upd_same, po⟩ (DqA.move lists_nil (fun _ z => nomatch z) (Keep.new hp) (fun _ z => .inl z) h)
theorem Cont.lst {vs : List V} {ds : List PyData} {p : Addr} (c : Cont K P B L σ H E ρ (.own ds) Q) (R : Rep K (E ++ P) B L σ ρ H) (h : DqA K H (E ++ P ++ B ++ L) vs ds) (hp : H p = none) : Q (.ref p) (upd H p (.lst vs)) := by
  have q : Rep K ([p] ++ (E ++ P)) B L σ ρ (upd H p (.lst vs)) := R.move (Keep.new hp) fun a z => by
    have e : a = p := by simpa using z
    subst e
    exact ⟨hp, vs, upd_same⟩
  refine c _ _ L (p :: E) ⟨q, .of_same (Keep.new hp), fun a z => (List.mem_cons.mp z).elim (fun e => .inr (e ▸ hp)) .inl⟩ ?_
  refine ⟨p, vs, rfl, List.mem_cons_self, fun z => ?_, upd_same, ?_⟩
  · obtain ⟨us, e, _⟩ := R.wl p (mem3.mpr (.inl (List.mem_append_right _ z)))
    rw [hp] at e; cases e
  · refine DqA.move lists_nil (fun _ z => nomatch z) (Keep.new hp) (fun a z => ?_) h
    rcases List.mem_cons.mp (show a ∈ p :: (E ++ P ++ B ++ L) from z) with z | z
    · exact .inr (z ▸ hp)
    · exact .inl z
end
def seqOf (ρ : DL.Env) : Val → Option (Bool × List PyData)
  | .cl (.list ds) => some (true, ds)
  | .cl (.tuple ds) => some (false, ds)
  | .cl _ => none
  | .own ds => some (true, ds)
  | .sl i => match ρ.getD i .no with
    | .op ds => some (true, ds)
    | .pm ds => some (true, ds)
    | .cl (.list ds) => some (true, ds)
    | _ => none
def datOf (ρ : DL.Env) : Val → Option PyData
  | .cl d => some d
  | .own ds => some (.list ds)
  | .sl i => match ρ.getD i .no with
    | .op ds => some (.list ds)
    | .pm ds => some (.list ds)
    | .cl d => some d
    | _ => none
section
variable {K : Fg} {P B L E : List Addr} {σ : L2.St} {ρ ρ' : DL.Env} {H : Hp} {x : V} {r : Val}
theorem VR.list {ds : List PyData} (R : Rep K (E ++ P) B L σ ρ H) (v : VR K E P B L σ H x r) (e : seqOf ρ r = some (true, ds)) :
    ∃ a vs, x = V.ref a ∧ H a = some (.lst vs) ∧ DqA K H (E ++ P ++ B ++ L) vs ds := by
  cases r with
  | cl d =>
    cases d <;> simp [seqOf] at e
    subst e
    cases v with
    | lst h1 h2 h3 => exact ⟨_, _, rfl, h2, h3⟩
  | own es =>
    simp only [seqOf] at e
    cases e
    obtain ⟨a, vs, e1, _, _, h1, h2⟩ := v
    exact ⟨a, vs, e1, h1, h2⟩
  | sl i =>
    have q := R.ok i
    simp only [seqOf] at e
    revert q e
    generalize ρ.getD i .no = c
    intro e q
    cases c with
    | no => cases e
    | dk t es => cases e
    | op es =>
      cases e
      obtain ⟨a, vs, e1, _, h1, h2⟩ := q
      have e2 : some (some x) = some (some (V.ref a)) := (show σ[i]? = _ from v).symm.trans e1
      cases e2
      exact ⟨a, vs, rfl, h1, h2⟩
    | pm es =>
      cases e
      obtain ⟨a, vs, e1, _, h1, h2⟩ := q
      have e2 : some (some x) = some (some (V.ref a)) := (show σ[i]? = _ from v).symm.trans e1
      cases e2
      exact ⟨a, vs, rfl, h1, h2⟩
    | cl d =>
      cases d <;> simp at e
      subst e
      obtain ⟨y, e1, h1⟩ := q
      have e2 : some (some x) = some (some y) := (show σ[i]? = _ from v).symm.trans e1
      cases e2
      cases h1 with
      | lst h1 h2 h3 => exact ⟨_, _, rfl, h2, h3⟩
theorem VR.tuple {ds : List PyData} (v : VR K E P B L σ H x r) (e : seqOf ρ r = some (false, ds)) :
    ∃ a vs, x = V.ref a ∧ TupD H a vs ∧ DqA K H (E ++ P ++ B ++ L) vs ds := by
  cases r with
  | cl d =>
    cases d <;> simp [seqOf] at e
    subst e
    cases v with
    | tup h2 h3 => exact ⟨_, _, rfl, h2, h3⟩
  | own es => simp [seqOf] at e
  | sl i =>
    simp only [seqOf] at e
    revert e
    generalize ρ.getD i .no = c
    intro e
    cases c with
    | cl d => cases d <;> simp at e
    | _ => simp at e
theorem VR.dat {d : PyData} (R : Rep K (E ++ P) B L σ ρ H) (v : VR K E P B L σ H x r) (e : datOf ρ r = some d) : Dq K H [] x d := by
  have nil : ∀ {W : List Addr} {v : V} {d : PyData}, Dq K H W v d → Dq K H [] v d := fun h => h.sub (W' := []) fun a z => absurd z List.not_mem_nil
  have nilA : ∀ {W : List Addr} {v : List V} {d : List PyData}, DqA K H W v d → DqA K H [] v d := fun h => h.sub (W' := []) fun a z => absurd z List.not_mem_nil
  cases r with
  | cl d => cases e; exact nil v
  | own es =>
    cases e
    obtain ⟨a, vs, e1, _, _, h1, h2⟩ := v
    subst e1
    exact .lst (fun z => nomatch z) h1 (nilA h2)
  | sl i =>
    have q := R.ok i
    simp only [datOf] at e
    revert q e
    generalize ρ.getD i .no = c
    intro e q
    cases c with
    | no => cases e
    | dk t es => cases e
    | op es =>
      cases e
      obtain ⟨a, vs, e1, _, h1, h2⟩ := q
      have e2 : some (some x) = some (some (V.ref a)) := (show σ[i]? = _ from v).symm.trans e1
      cases e2
      exact .lst (fun z => nomatch z) h1 (nilA h2)
    | pm es =>
      cases e
      obtain ⟨a, vs, e1, _, h1, h2⟩ := q
      have e2 : some (some x) = some (some (V.ref a)) := (show σ[i]? = _ from v).symm.trans e1
      cases e2
      exact .lst (fun z => nomatch z) h1 (nilA h2)
    | cl d =>
      cases e
      obtain ⟨y, e1, h1⟩ := q
      have e2 : some (some x) = some (some y) := (show σ[i]? = _ from v).symm.trans e1
      cases e2
      exact nil h1
theorem VR.int {i : Int} (v : VR K E P B L σ H x (.cl (.int i))) : x = V.int i := by
  have h : Dq K H _ x (.int i) := v
  cases h; rfl
theorem VR.bl {b : Bool} (v : VR K E P B L σ H x (.cl (.bool b))) : x = V.bl b := by
  have h : Dq K H _ x (.bool b) := v
  cases h; rfl
theorem VR.str {b : Str} (v : VR K E P B L σ H x (.cl (.str b))) : x = V.str b := by
  have h : Dq K H _ x (.str b) := v
  cases h; rfl
theorem VR.non (v : VR K E P B L σ H x (.cl .none)) : x = V.non := by
  have h : Dq K H _ x .none := v
  cases h; rfl
end
/-- a dict of the frame, as data -/
def dOf (t : Bool) (ds : List (PyData × PyData)) : PyData := match t with
  | true => .dict [(.none, .list (ds.map prD))]
  | false => .dict ds
def psV (ρ : DL.Env) : Val → Option (PyData × DL.Env)
  | .cl d => some (d, ρ)
  | .own ds => some (.list ds, ρ)
  | .sl i => match ρ.getD i .no with
    | .op ds => some (.list ds, ρ.set i (.cl (.list ds)))
    | .dk t ds => some (dOf t ds, ρ.set i (.cl (dOf t ds)))
    | .cl d => some (d, ρ)
    | _ => none
section
variable {K : Fg} {P B L E : List Addr} {σ : L2.St} {ρ ρ' : DL.Env} {H : Hp} {x : V} {r : Val}
def less (l : List Addr) (a : Addr) : List Addr := l.filter fun b => decide (b ≠ a)
theorem mem_less {l : List Addr} {a b : Addr} : b ∈ less l a ↔ b ∈ l ∧ b ≠ a := by simp [less]
/-- what the store leaves -/
structure Psd (K : Fg) (E P B L : List Addr) (σ : L2.St) (H : Hp) (x : V) (d : PyData) (ρ' : DL.Env) (E' L' : List Addr) : Prop where
  rep : Rep K (E' ++ P) B L' σ ρ' H
  dq : Dq K H (E' ++ P ++ B ++ L') x d
  es : ∀ a ∈ E', a ∈ E
  ls : ∀ a ∈ L', a ∈ L
theorem Rep.lessE (R : Rep K (E ++ P) B L σ ρ H) (E' : List Addr) (hs : ∀ a ∈ E', a ∈ E) : Rep K (E' ++ P) B L σ ρ H := by
  have hw : ∀ a ∈ (E' ++ P) ++ B ++ L, a ∈ (E ++ P) ++ B ++ L := fun a z => by
    rcases mem4.mp z with z | z | z | z
    · exact mem4.mpr (.inl (hs a z))
    · exact mem4.mpr (.inr (.inl z))
    · exact mem4.mpr (.inr (.inr (.inl z)))
    · exact mem4.mpr (.inr (.inr (.inr z)))
  refine ⟨R.len, fun a h => R.wl a (hw a h), ⟨fun a h => R.nd.1 a ?_, R.nd.2⟩, fun i => ?_, R.inj, R.tabs⟩
  · rcases List.mem_append.mp h with h | h
    · exact List.mem_append_left _ (hs a h)
    · exact List.mem_append_right _ h
  · have q := R.ok i
    revert q
    generalize ρ.getD i .no = c
    intro q
    cases c with
    | no => trivial
    | cl d => obtain ⟨v, e, h⟩ := q; exact ⟨v, e, h.sub hw⟩
    | op ds => obtain ⟨a, vs, e, hm, hh, h⟩ := q; exact ⟨a, vs, e, hm, hh, h.sub hw⟩
    | pm ds => obtain ⟨a, vs, e, hm, hh, h⟩ := q; exact ⟨a, vs, e, hm, hh, h.sub hw⟩
    | dk t ds => obtain ⟨a, vs, e, hm, hh, h⟩ := q; exact ⟨a, vs, e, hm, hh, h.sub hw⟩
theorem getD_set (ρ : DL.Env) (i j : Nat) (c : Cell) : (ρ.set i c).getD j .no = if i = j ∧ i < ρ.length then c else ρ.getD j .no := by
  rw [List.getD_eq_getElem?_getD, List.getD_eq_getElem?_getD, List.getElem?_set]
  by_cases h : i = j
  · subst h
    by_cases h2 : i < ρ.length
    · simp [h2]
    · simp [h2]
  · simp [h]
theorem psd_of {d : PyData} (R : Rep K (E ++ P) B L σ ρ H) (v : VR K E P B L σ H x r) (e : psV ρ r = some (d, ρ')) :
    ∃ E' L', Psd K E P B L σ H x d ρ' E' L' ∧ ∀ y s, VR K E P B L σ H y s → (r.isOwn = true → s.isOwn = true → y ≠ x) → VR K E' P B L' σ H y s := by
  cases r with
  | cl d' =>
    cases e
    exact ⟨E, L, ⟨R, v, fun _ z => z, fun _ z => z⟩, fun y s h _ => h⟩
  | own ds =>
    cases e
    obtain ⟨a, vs, rfl, hm, hp, hh, h⟩ := v
    have hw : ∀ b ∈ less E a ++ P ++ B ++ L, b ∈ E ++ P ++ B ++ L := fun b z => by
      rcases mem4.mp z with z | z | z | z
      · exact mem4.mpr (.inl (mem_less.mp z).1)
      · exact mem4.mpr (.inr (.inl z))
      · exact mem4.mpr (.inr (.inr (.inl z)))
      · exact mem4.mpr (.inr (.inr (.inr z)))
    have nd := R.nd.1 a (List.mem_append_left _ hm)
    refine ⟨less E a, L, ⟨R.lessE _ fun b z => (mem_less.mp z).1, .lst (fun z => ?_) hh (h.sub hw), fun b z => (mem_less.mp z).1, fun _ z => z⟩, fun y s q hn => ?_⟩
    · rcases mem4.mp z with z | z | z | z
      · exact (mem_less.mp z).2 rfl
      · exact hp z
      · exact nd.1 z
      · exact nd.2 z
    · cases s with
      | cl d => exact Dq.sub hw q
      | own es =>
        obtain ⟨b, us, e1, h1, h2, h3, h4⟩ := q
        exact ⟨b, us, e1, mem_less.mpr ⟨h1, fun z => hn rfl rfl (by rw [e1, z])⟩, h2, h3, h4.sub hw⟩
      | sl i => exact q
  | sl i =>
    have q := R.ok i
    simp only [psV] at e
    have hi : ρ.getD i .no ≠ .no → i < ρ.length := fun z => by
      by_cases h : i < ρ.length
      · exact h
      · rw [List.getD_eq_getElem?_getD, List.getElem?_eq_none (Nat.le_of_not_lt h)] at z
        exact absurd rfl z
    revert q e
    generalize hc : ρ.getD i .no = c
    intro e q
    cases c with
    | no => cases e
    | pm es => cases e
    | cl d' =>
      cases e
      obtain ⟨y, e1, h1⟩ := q
      have e2 : some (some x) = some (some y) := (show σ[i]? = _ from v).symm.trans e1
      cases e2
      exact ⟨E, L, ⟨R, h1, fun _ z => z, fun _ z => z⟩, fun y s h _ => h⟩
    | op es =>
      cases e
      have hil := hi (by rw [hc]; exact fun z => nomatch z)
      obtain ⟨a, vs, e1, hm, hh, h⟩ := q
      have e2 : some (some x) = some (some (V.ref a)) := (show σ[i]? = _ from v).symm.trans e1
      cases e2
      have hw : ∀ b ∈ E ++ P ++ B ++ less L a, b ∈ E ++ P ++ B ++ L := fun b z => by
        rcases mem4.mp z with z | z | z | z
        · exact mem4.mpr (.inl z)
        · exact mem4.mpr (.inr (.inl z))
        · exact mem4.mpr (.inr (.inr (.inl z)))
        · exact mem4.mpr (.inr (.inr (.inr (mem_less.mp z).1)))
      have hd : Dq K H (E ++ P ++ B ++ less L a) (V.ref a) (.list es) := .lst (fun z => by
        rcases mem4.mp z with z | z | z | z
        · exact (R.nd.1 a (List.mem_append_left _ z)).2 hm
        · exact (R.nd.1 a (List.mem_append_right _ z)).2 hm
        · exact R.nd.2 a z hm
        · exact (mem_less.mp z).2 rfl) hh (h.sub hw)
      refine ⟨E, less L a, ⟨⟨by rw [List.length_set]; exact R.len, fun b z => R.wl b (hw b z), ⟨fun b z => ⟨(R.nd.1 b z).1, fun y => (R.nd.1 b z).2 (mem_less.mp y).1⟩, fun b z y => R.nd.2 b z (mem_less.mp y).1⟩, fun j => ?_, fun j k b hjk h1 h2 => ?_, R.tabs⟩, hd, fun _ z => z, fun b z => (mem_less.mp z).1⟩, fun y s q _ => ?_⟩
      · rw [getD_set]
        by_cases hj : i = j
        · subst hj
          rw [if_pos ⟨rfl, hil⟩]
          exact ⟨_, e1, hd⟩
        · rw [if_neg fun z => hj z.1]
          have q := R.ok j
          have inj := R.inj i j a hj (by rw [hc]; rfl)
          revert q inj
          generalize ρ.getD j .no = c
          intro q inj
          cases c with
          | no => trivial
          | cl d => obtain ⟨v, e, h⟩ := q; exact ⟨v, e, h.sub hw⟩
          | op ds =>
            obtain ⟨b, us, e3, h1, h2, h3⟩ := q
            exact ⟨b, us, e3, mem_less.mpr ⟨h1, fun z => inj rfl e1 (z ▸ e3)⟩, h2, h3.sub hw⟩
          | pm ds => obtain ⟨b, us, e3, h1, h2, h3⟩ := q; exact ⟨b, us, e3, h1, h2, h3.sub hw⟩
          | dk t ds =>
            obtain ⟨b, us, e3, h1, h2, h3⟩ := q
            exact ⟨b, us, e3, mem_less.mpr ⟨h1, fun z => inj rfl e1 (z ▸ e3)⟩, h2, h3.sub hw⟩
      · have t : ∀ m, ((ρ.set i (.cl (.list es))).getD m .no).isOpen = true → (ρ.getD m .no).isOpen = true := fun m z => by
          rw [getD_set] at z
          by_cases hm : i = m ∧ i < ρ.length
          · rw [if_pos hm] at z; cases z
          · rwa [if_neg hm] at z
        exact R.inj j k b hjk (t j h1) (t k h2)
      · cases s with
        | cl d => exact Dq.sub hw q
        | own fs => obtain ⟨b, us, e3, h1, h2, h3, h4⟩ := q; exact ⟨b, us, e3, h1, h2, h3, h4.sub hw⟩
        | sl j => exact q
    | dk t es =>
      cases e
      have hil := hi (by rw [hc]; exact fun z => nomatch z)
      obtain ⟨a, u, e1, hm, hh, h⟩ := q
      have e2 : some (some x) = some (some (V.ref a)) := (show σ[i]? = _ from v).symm.trans e1
      cases e2
      have hw : ∀ b ∈ E ++ P ++ B ++ less L a, b ∈ E ++ P ++ B ++ L := fun b z => by
        rcases mem4.mp z with z | z | z | z
        · exact mem4.mpr (.inl z)
        · exact mem4.mpr (.inr (.inl z))
        · exact mem4.mpr (.inr (.inr (.inl z)))
        · exact mem4.mpr (.inr (.inr (.inr (mem_less.mp z).1)))
      have hn : a ∉ E ++ P ++ B ++ less L a := fun z => by
        rcases mem4.mp z with z | z | z | z
        · exact (R.nd.1 a (List.mem_append_left _ z)).2 hm
        · exact (R.nd.1 a (List.mem_append_right _ z)).2 hm
        · exact R.nd.2 a z hm
        · exact (mem_less.mp z).2 rfl
      have hd : Dq K H (E ++ P ++ B ++ less L a) (V.ref a) (dOf t es) := by
        cases t with
        | true =>
          obtain ⟨ks, rfl, h⟩ := h
          exact .dit hn ⟨.inl hh⟩ (h.move (M := []) lists_nil (fun _ z => nomatch z) keep_refl fun a z => .inl (hw a z))
        | false =>
          obtain ⟨ks, rfl, h⟩ := h
          exact .dic hn ⟨.inl hh⟩ (h.move (M := []) lists_nil (fun _ z => nomatch z) keep_refl fun a z => .inl (hw a z))
      refine ⟨E, less L a, ⟨⟨by rw [List.length_set]; exact R.len, fun b z => R.wl b (hw b z), ⟨fun b z => ⟨(R.nd.1 b z).1, fun y => (R.nd.1 b z).2 (mem_less.mp y).1⟩, fun b z y => R.nd.2 b z (mem_less.mp y).1⟩, fun j => ?_, fun j k b hjk h1 h2 => ?_, R.tabs⟩, hd, fun _ z => z, fun b z => (mem_less.mp z).1⟩, fun y s q _ => ?_⟩
      · rw [getD_set]
        by_cases hj : i = j
        · subst hj
          rw [if_pos ⟨rfl, hil⟩]
          exact ⟨_, e1, hd⟩
        · rw [if_neg fun z => hj z.1]
          have q := R.ok j
          have inj := R.inj i j a hj (by rw [hc]; rfl)
          revert q inj
          generalize ρ.getD j .no = c
          intro q inj
          cases c with
          | no => trivial
          | cl d => obtain ⟨v, e, h⟩ := q; exact ⟨v, e, h.sub hw⟩
          | op ds =>
            obtain ⟨b, us, e3, h1, h2, h3⟩ := q
            exact ⟨b, us, e3, mem_less.mpr ⟨h1, fun z => inj rfl e1 (z ▸ e3)⟩, h2, h3.sub hw⟩
          | pm ds => obtain ⟨b, us, e3, h1, h2, h3⟩ := q; exact ⟨b, us, e3, h1, h2, h3.sub hw⟩
          | dk t2 ds =>
            obtain ⟨b, us, e3, h1, h2, h3⟩ := q
            exact ⟨b, us, e3, mem_less.mpr ⟨h1, fun z => inj rfl e1 (z ▸ e3)⟩, h2, h3.sub hw⟩
      · have t : ∀ m, ((ρ.set i (.cl (dOf t es))).getD m .no).isOpen = true → (ρ.getD m .no).isOpen = true := fun m z => by
          rw [getD_set] at z
          by_cases hm : i = m ∧ i < ρ.length
          · rw [if_pos hm] at z; cases z
          · rwa [if_neg hm] at z
        exact R.inj j k b hjk (t j h1) (t k h2)
      · cases s with
        | cl d => exact Dq.sub hw q
        | own fs => obtain ⟨b, us, e3, h1, h2, h3, h4⟩ := q; exact ⟨b, us, e3, h1, h2, h3, h4.sub hw⟩
        | sl j => exact q
end
end DL
namespace DL
open PySem PySem.Spec PyProof.Rows L2
def varD (i : Nat) : ED := fun ρ => match ρ.getD i .no with
  | .no => none
  | .cl d => some (.cl d, ρ)
  | .op _ => some (.sl i, ρ)
  | .pm _ => some (.sl i, ρ)
  | .dk _ _ => some (.sl i, ρ)
def conD (d : PyData) : ED := fun ρ => some (.cl d, ρ)
def unD (f : ED) (g : DL.Env → Val → Option (Val × DL.Env)) : ED := fun ρ => (f ρ).bind fun p => g p.2 p.1
def binD (f1 f2 : ED) (g : DL.Env → Val → Val → Option (Val × DL.Env)) : ED := fun ρ => (f1 ρ).bind fun p => (f2 p.2).bind fun q => g q.2 p.1 q.1
def anil : AD := fun ρ => some ([], ρ)
def acons (f : ED) (t : AD) : AD := fun ρ => (f ρ).bind fun p => (t p.2).bind fun q => some (p.1 :: q.1, q.2)
def callD (t : AD) (g : DL.Env → List Val → Option (Val × DL.Env)) : ED := fun ρ => (t ρ).bind fun p => g p.2 p.1
def testD (f : ED) : TD := fun ρ => (f ρ).bind fun p => match p.1 with
  | .cl (.bool b) => some (b, p.2)
  | _ => none
def notT (f : TD) : TD := fun ρ => (f ρ).bind fun p => some (!p.1, p.2)
def andT (f g : TD) : TD := fun ρ => (f ρ).bind fun p => if p.1 = true then g p.2 else some (false, p.2)
def orT (f g : TD) : TD := fun ρ => (f ρ).bind fun p => if p.1 = true then some (true, p.2) else g p.2
def iteD (c : TD) (a b : ED) : ED := fun ρ => (c ρ).bind fun p => if p.1 = true then a p.2 else b p.2
def Loc1 (K : Fg) (R : V → Hp → VK → Prop) (g : DL.Env → Val → Option (Val × DL.Env)) : Prop :=
  ∀ {E P B L : List Addr} {σ : L2.St} {ρ ρ' : DL.Env} {H : Hp} {x : V} {r1 r : Val} {Q : VK}, Rep K (E ++ P) B L σ ρ H → VR K E P B L σ H x r1 → g ρ r1 = some (r, ρ') → Cont K P B L σ H E ρ' r Q → R x H Q
def Loc2 (K : Fg) (R : R2) (g : DL.Env → Val → Val → Option (Val × DL.Env)) : Prop :=
  ∀ {E P B L : List Addr} {σ : L2.St} {ρ ρ' : DL.Env} {H : Hp} {x y : V} {r1 r2 r : Val} {Q : VK}, Rep K (E ++ P) B L σ ρ H → VR K E P B L σ H x r1 → VR K E P B L σ H y r2 → g ρ r1 r2 = some (r, ρ') → Cont K P B L σ H E ρ' r Q → R x y H Q
def LocN (K : Fg) (R : List V → Hp → VK → Prop) (g : DL.Env → List Val → Option (Val × DL.Env)) : Prop :=
  ∀ {E P B L : List Addr} {σ : L2.St} {ρ ρ' : DL.Env} {H : Hp} {xs : List V} {rs : List Val} {r : Val} {Q : VK}, Rep K (E ++ P) B L σ ρ H → VRs K E P B L σ H xs rs → g ρ rs = some (r, ρ') → Cont K P B L σ H E ρ' r Q → R xs H Q
theorem Cont.after {K : Fg} {P B L La E Ea : List Addr} {σ : L2.St} {H Ha : Hp} {ρa ρ' : DL.Env} {r : Val} {Q : VK} (c : Cont K P B L σ H E ρ' r Q) (p : Post K P B L σ H E ρa Ha La Ea) : Cont K P B La σ Ha Ea ρ' r Q :=
  fun x' H' L' E' p' v' => c x' H' L' E' (p.then p') v'
section
variable {K : Fg} {σ : L2.St} {H : Hp} {Q : VK} {f f1 f2 : ED} {t : AD} {c c1 c2 : TD}
theorem rd_un {R : V → Hp → VK → Prop} {g : DL.Env → Val → Option (Val × DL.Env)} (loc : Loc1 K R g) (h : RD K (unD f g) σ H Q) : tUn R (RD K f) σ H Q := by
  obtain ⟨P, B, L, ρ, r, ρ', R0, e, k⟩ := h
  obtain ⟨⟨r1, ρ1⟩, e1, e2⟩ := Option.bind_eq_some_iff.mp e
  exact ⟨P, B, L, ρ, r1, ρ1, R0, e1, fun x H1 L1 E1 p1 v1 => loc p1.rep v1 e2 (k.after p1)⟩
theorem rd_bin {R : R2} {g : DL.Env → Val → Val → Option (Val × DL.Env)} (loc : Loc2 K R g) (h : RD K (binD f1 f2 g) σ H Q) : tOp R (RD K f1) (RD K f2) σ H Q := by
  obtain ⟨P, B, L, ρ, r, ρ', R0, e, k⟩ := h
  obtain ⟨⟨r1, ρ1⟩, e1, e⟩ := Option.bind_eq_some_iff.mp e
  obtain ⟨⟨r2, ρ2⟩, e2, e⟩ := Option.bind_eq_some_iff.mp e
  refine ⟨P, B, L, ρ, r1, ρ1, R0, e1, fun x H1 La Ea p1 v1 => ⟨Ea ++ P, B, La, ρ1, r2, ρ2, p1.rep, e2, fun y H2 Lb Eb p2 v2 => ?_⟩⟩
  have p := p1.two p2
  exact loc p.rep (v1.later p1.rep p2) (v2.last p1.rep) e (k.after p)
theorem rd_nil {Q : List V → Hp → Prop} (h : RA K anil σ H Q) : tNil σ H Q := by
  obtain ⟨P, B, L, ρ, rs, ρ', R0, e, k⟩ := h
  cases e
  exact k [] H L [] (.refl R0) .nil
theorem vrs_later {P B La Lb Ea Eb : List Addr} {ρa ρb : DL.Env} {Ha Hb : Hp} {x : V} {r : Val} {xs : List V} {rs : List Val} (R : Rep K (Ea ++ P) B La σ ρa Ha) (p : Post K (Ea ++ P) B La σ Ha [] ρb Hb Lb Eb)
    (v : VR K Ea P B La σ Ha x r) (vs : VRs K Eb (Ea ++ P) B Lb σ Hb xs rs) : VRs K (Eb ++ Ea) P B Lb σ Hb (x :: xs) (r :: rs) := by
  refine .cons (v.later R p) (fun ho => ?_) ?_
  · -- own ones of the tail are younger
    have hx : ∃ a, x = V.ref a ∧ a ∈ Ea ++ P := by
      cases r with
      | own ds => obtain ⟨a, _, e, h1, _⟩ := v; exact ⟨a, e, List.mem_append_left _ h1⟩
      | _ => cases ho
    obtain ⟨a, rfl, ha⟩ := hx
    clear v ho
    induction vs with
    | nil => intro q z; exact absurd z List.not_mem_nil
    | @cons y s ys ss w d _ ih =>
      intro q z hq
      rcases List.mem_cons.mp (show q ∈ (y, s) :: ys.zip ss from z) with e | z
      · subst e
        cases s with
        | own ds =>
          obtain ⟨b, _, e, _, h2, _⟩ := w
          intro e2
          rw [show y = V.ref b from e] at e2
          cases e2
          exact h2 ha
        | _ => cases hq
      · exact ih q z hq
  · clear v
    induction vs with
    | nil => exact .nil
    | cons w d _ ih => exact .cons (w.last R) d ih
theorem rd_cons {Q : List V → Hp → Prop} (h : RA K (acons f t) σ H Q) : tCons (RD K f) (RA K t) σ H Q := by
  obtain ⟨P, B, L, ρ, rs, ρ', R0, e, k⟩ := h
  obtain ⟨⟨r1, ρ1⟩, e1, e⟩ := Option.bind_eq_some_iff.mp e
  obtain ⟨⟨r2, ρ2⟩, e2, e⟩ := Option.bind_eq_some_iff.mp e
  cases e
  refine ⟨P, B, L, ρ, r1, ρ1, R0, e1, fun x H1 La Ea p1 v1 => ⟨Ea ++ P, B, La, ρ1, r2, ρ2, p1.rep, e2, fun ys H2 Lb Eb p2 v2 => ?_⟩⟩
  exact k _ _ _ _ (p1.two p2) (vrs_later p1.rep p2 v1 v2)
theorem rd_call {R : List V → Hp → VK → Prop} {g : DL.Env → List Val → Option (Val × DL.Env)} (loc : LocN K R g) (h : RD K (callD t g) σ H Q) : tCB R (RA K t) σ H Q := by
  obtain ⟨P, B, L, ρ, r, ρ', R0, e, k⟩ := h
  obtain ⟨⟨r1, ρ1⟩, e1, e2⟩ := Option.bind_eq_some_iff.mp e
  exact ⟨P, B, L, ρ, r1, ρ1, R0, e1, fun x H1 L1 E1 p1 v1 => loc p1.rep v1 e2 (k.after p1)⟩
theorem rt_test {Q : Bool → Hp → Prop} (h : RT K (testD f) σ H Q) : RD K f σ H fun x H1 => ∃ k, x = .bl k ∧ Q k H1 := by
  obtain ⟨P, B, L, ρ, b, ρ', R0, e, k⟩ := h
  obtain ⟨⟨r1, ρ1⟩, e1, e2⟩ := Option.bind_eq_some_iff.mp e
  refine ⟨P, B, L, ρ, r1, ρ1, R0, e1, fun x H1 La Ea p1 v1 => ?_⟩
  cases r1 with
  | cl d =>
    cases d <;> simp at e2
    obtain ⟨e3, e4⟩ := e2
    subst e3; subst e4
    exact ⟨_, v1.bl, k _ _ _ p1⟩
  | own ds => simp at e2
  | sl i => simp at e2
theorem rt_not {Q : Bool → Hp → Prop} (h : RT K (notT c) σ H Q) : tNot (RT K c) σ H Q := by
  obtain ⟨P, B, L, ρ, b, ρ', R0, e, k⟩ := h
  obtain ⟨⟨r1, ρ1⟩, e1, e2⟩ := Option.bind_eq_some_iff.mp e
  cases e2
  exact ⟨P, B, L, ρ, r1, ρ1, R0, e1, fun H1 La Ea p1 => k _ _ _ p1⟩
theorem two_rt {P B L La Ea : List Addr} {ρ1 : DL.Env} {H1 : Hp} {b : Bool} {ρ' : DL.Env} {Q : Bool → Hp → Prop} (p1 : Post K P B L σ H [] ρ1 H1 La Ea) (k : ∀ H' L' E', Post K P B L σ H [] ρ' H' L' E' → Q b H') (e : c ρ1 = some (b, ρ')) : RT K c σ H1 Q :=
  ⟨Ea ++ P, B, La, ρ1, b, ρ', p1.rep, e, fun H' L' E' p' => k _ _ _ (p1.two p')⟩
theorem rt_and {Q : Bool → Hp → Prop} (h : RT K (andT c1 c2) σ H Q) : tAnd (RT K c1) (RT K c2) σ H Q := by
  obtain ⟨P, B, L, ρ, b, ρ', R0, e, k⟩ := h
  obtain ⟨⟨r1, ρ1⟩, e1, e2⟩ := Option.bind_eq_some_iff.mp e
  refine ⟨P, B, L, ρ, r1, ρ1, R0, e1, fun H1 La Ea p1 => ?_⟩
  cases r1 with
  | true => rw [if_pos rfl]; exact two_rt p1 k (by simpa using e2)
  | false =>
    have e3 : false = b ∧ ρ1 = ρ' := by simpa using e2
    obtain ⟨rfl, rfl⟩ := e3
    rw [if_neg Bool.false_ne_true]
    exact k _ _ _ p1
theorem rt_or {Q : Bool → Hp → Prop} (h : RT K (orT c1 c2) σ H Q) : tOr (RT K c1) (RT K c2) σ H Q := by
  obtain ⟨P, B, L, ρ, b, ρ', R0, e, k⟩ := h
  obtain ⟨⟨r1, ρ1⟩, e1, e2⟩ := Option.bind_eq_some_iff.mp e
  refine ⟨P, B, L, ρ, r1, ρ1, R0, e1, fun H1 La Ea p1 => ?_⟩
  cases r1 with
  | false => rw [if_neg Bool.false_ne_true]; exact two_rt p1 k (by simpa using e2)
  | true =>
    have e3 : true = b ∧ ρ1 = ρ' := by simpa using e2
    obtain ⟨rfl, rfl⟩ := e3
    rw [if_pos rfl]
    exact k _ _ _ p1
theorem two_rd {P B L La Ea : List Addr} {ρ1 : DL.Env} {H1 : Hp} {r : Val} {ρ' : DL.Env} {Q : VK} (p1 : Post K P B L σ H [] ρ1 H1 La Ea) (k : Cont K P B L σ H [] ρ' r Q) (e : f ρ1 = some (r, ρ')) : RD K f σ H1 Q :=
  ⟨Ea ++ P, B, La, ρ1, r, ρ', p1.rep, e, fun x' H' L' E' p' v' => k _ _ _ _ (p1.two p') (v'.last p1.rep)⟩
end
section
variable {X : Cx} {tl : TL} {a b c : Expr} {es : List Expr} {f f1 f2 f3 : ED} {t : AD} {q q1 q2 : TD} {pos : Pos}
theorem d_var (i : Nat) {x : Str} {pos : Pos} (hN : X.N[i]? = some x := by rfl) (hv : Vis X.env.scope x := by first | exact Or.inl rfl | exact Or.inr (Or.inl rfl) | exact Or.inr (Or.inr rfl)) (hd : (x == ("__debug__" : Str)) = false := by decide)
    (hcd : (x == ("__classdict__" : Str)) = false := by decide) : PE X (.Name x pos) (RD (X.D tl) (varD i)) :=
  (pe_var hN hv hd hcd).imp fun σ H Q h => by
    obtain ⟨P, B, L, ρ, r, ρ', R0, e, k⟩ := h
    have q := R0.ok i
    unfold varD at e
    revert e q
    generalize hc : ρ.getD i .no = c
    intro e q
    cases c with
    | no => cases e
    | cl d =>
      cases e
      obtain ⟨v, e1, h1⟩ := q
      exact ⟨v, e1, k _ _ L [] (.refl R0) h1⟩
    | op ds =>
      cases e
      obtain ⟨a, vs, e1, _⟩ := q
      exact ⟨_, e1, k _ _ L [] (.refl R0) e1⟩
    | pm ds =>
      cases e
      obtain ⟨a, vs, e1, _⟩ := q
      exact ⟨_, e1, k _ _ L [] (.refl R0) e1⟩
    | dk t ds =>
      cases e
      obtain ⟨a, u, e1, _⟩ := q
      exact ⟨_, e1, k _ _ L [] (.refl R0) e1⟩
theorem con_imp {d : PyData} {v : V} (hd : ∀ {H W}, Dq (X.D tl) H W v d) {σ : L2.St} {H : Hp} {Q : VK} (h : RD (X.D tl) (conD d) σ H Q) : tC v σ H Q := by
  obtain ⟨P, B, L, ρ, r, ρ', R0, e, k⟩ := h
  cases e
  exact k _ _ L [] (.refl R0) hd
theorem d_int {i j pos} : PE X (.Constant (.int i) j pos) (RD (X.D tl) (conD (.int i))) := pe_int.imp fun _ _ _ h => con_imp (.int i) h
theorem d_bl {b j pos} : PE X (.Constant (.bool b) j pos) (RD (X.D tl) (conD (.bool b))) := pe_bl.imp fun _ _ _ h => con_imp (.bl b) h
theorem d_non {j pos} : PE X (.Constant .none j pos) (RD (X.D tl) (conD .none)) := pe_non.imp fun _ _ _ h => con_imp .non h
theorem d_str {x j pos} : PE X (.Constant (.str x) j pos) (RD (X.D tl) (conD (.str x))) := pe_str.imp fun _ _ _ h => con_imp (.str x) h
theorem d_bin {op : Operator} {R : R2} {g} (ho : OpR X (binaryOp op) R) (loc : Loc2 (X.D tl) R g) (ha : PE X a (RD (X.D tl) f1)) (hb : PE X b (RD (X.D tl) f2)) : PE X (.BinOp a op b pos) (RD (X.D tl) (binD f1 f2 g)) :=
  (pe_op ho ha hb).imp fun _ _ _ h => rd_bin loc h
theorem d_un {op : UnaryOp} {R : V → Hp → VK → Prop} {g} (ho : UnR X (unaryOp op) R) (loc : Loc1 (X.D tl) R g) (ha : PE X a (RD (X.D tl) f)) : PE X (.UnaryOp op a pos) (RD (X.D tl) (unD f g)) :=
  (pe_un ho ha).imp fun _ _ _ h => rd_un loc h
theorem d_ix {R : R2} {g} (hr : IxR X R) (loc : Loc2 (X.D tl) R g) (ha : PE X a (RD (X.D tl) f1)) (hb : PE X b (RD (X.D tl) f2)) (hs : PlainIx b) : PE X (.Subscript a b pos) (RD (X.D tl) (binD f1 f2 g)) :=
  (pe_ix hr ha hb hs).imp fun _ _ _ h => rd_bin loc h
theorem d_cmp {op : CmpOp} {R : R2} {g} (ho : OpR X (compareOp op) R) (loc : Loc2 (X.D tl) R g) (ha : PE X a (RD (X.D tl) f1)) (hb : PE X b (RD (X.D tl) f2)) (hm : behindInMarks op b = false) : PE X (.Compare a [op] [b] pos) (RD (X.D tl) (binD f1 f2 g)) :=
  (pe_cmpR ho ha hb hm).imp fun _ _ _ h => rd_bin loc h
theorem t_cmp {op : CmpOp} {R : R2} {g} (ho : OpR X (compareOp op) R) (loc : Loc2 (X.D tl) R g) (ha : PE X a (RD (X.D tl) f1)) (hb : PE X b (RD (X.D tl) f2)) (hm : behindInMarks op b = false) : PT X (.Compare a [op] [b] pos) (RT (X.D tl) (testD (binD f1 f2 g))) :=
  (pt_cmpR ho ha hb hm).imp fun _ _ _ h => rd_bin loc (rt_test h)
theorem t_val (h : PE X a (RD (X.D tl) f)) (he : ∀ whole, isTrue a X.env whole = (do let v ← whole; standAt a.pos; holding [v] (truthy v)) := by intro _; rfl) : PT X a (RT (X.D tl) (testD f)) :=
  (pt_val h he).imp fun _ _ _ h => rt_test h
theorem t_not (h : PT X a (RT (X.D tl) q)) : PT X (.UnaryOp .Not a pos) (RT (X.D tl) (notT q)) := (pt_not h).imp fun _ _ _ h => rt_not h
theorem t_and1 (h : PT X a (RT (X.D tl) q)) : PW X (.BoolOp .And [a] pos) (RT (X.D tl) q) := pw_and1 h
theorem t_or1 (h : PT X a (RT (X.D tl) q)) : PW X (.BoolOp .Or [a] pos) (RT (X.D tl) q) := pw_or1 h
theorem _root_.L2.PW.imp {X : Cx} {e : Expr} {t t' : TT} (p : PW X e t) (h : ∀ σ H Q, t' σ H Q → t σ H Q) : PW X e t' := ⟨fun wh pins s σ H Q I q => p.run wh pins s σ H Q I (h σ H Q q)⟩
theorem t_and {rest : List Expr} (ha : PT X a (RT (X.D tl) q1)) (hb : PW X (.BoolOp .And (b :: rest) pos) (RT (X.D tl) q2)) : PW X (.BoolOp .And (a :: b :: rest) pos) (RT (X.D tl) (andT q1 q2)) := (pw_and ha hb).imp fun _ _ _ h => rt_and h
theorem t_or {rest : List Expr} (ha : PT X a (RT (X.D tl) q1)) (hb : PW X (.BoolOp .Or (b :: rest) pos) (RT (X.D tl) q2)) : PW X (.BoolOp .Or (a :: b :: rest) pos) (RT (X.D tl) (orT q1 q2)) := (pw_or ha hb).imp fun _ _ _ h => rt_or h
theorem a_nil : PA X [] (RA (X.D tl) anil) := pa_nil.imp fun _ _ _ h => rd_nil h
theorem a_cons (ha : PE X a (RD (X.D tl) f)) (ht : PA X es (RA (X.D tl) t)) (hs : starEach (a :: es) X.env = (false, eval a X.env) :: starEach es X.env := by rfl) : PA X (a :: es) (RA (X.D tl) (acons f t)) :=
  (pa_cons ha ht hs).imp fun _ _ _ h => rd_cons h
theorem d_callB {x : Str} {p : Pos} {id : String} {R} {g} (hc : CallR X (.builtin id) R) (loc : LocN (X.D tl) R g) (hg : Gl X x) (hm : X.mg x = none) (hv : bootBuiltins x = some (.builtin id)) (ha : PA X (a :: es) (RA (X.D tl) t)) (hn : x ≠ "__name__" := by decide) (hdb : (x == ("__debug__" : Str)) = false := by decide)
    (he : starEach (a :: es) X.env = (false, eval a X.env) :: starEach es X.env := by rfl) (hpl : (backTo pos (starEach es X.env)).any (·.1) = false := by rfl) : PE X (.Call (.Name x p) (a :: es) [] pos) (RD (X.D tl) (callD t g)) :=
  (pe_callB hc hg hm hv ha hn hdb he hpl).imp fun _ _ _ h => rd_call loc h
theorem d_callTy {x : Str} {p : Pos} {id : String} {R} {g} (hc : CallR X (.type id) R) (loc : LocN (X.D tl) R g) (hg : Gl X x) (hm : X.mg x = none) (hv : bootBuiltins x = some (.type id)) (ha : PA X (a :: es) (RA (X.D tl) t)) (hn : x ≠ "__name__" := by decide) (hdb : (x == ("__debug__" : Str)) = false := by decide)
    (he : starEach (a :: es) X.env = (false, eval a X.env) :: starEach es X.env := by rfl) (hpl : (backTo pos (starEach es X.env)).any (·.1) = false := by rfl) : PE X (.Call (.Name x p) (a :: es) [] pos) (RD (X.D tl) (callD t g)) :=
  (pe_callTy hc hg hm hv ha hn hdb he hpl).imp fun _ _ _ h => rd_call loc h
end
end DL
noncomputable section
namespace DL
open PySem PySem.Spec PyProof.Rows L2
theorem lim_ex : ∃ n : Nat, n = 1000000 := ⟨_, rfl⟩
/-- a line that nothing reckons with -/
def lim : Nat := Classical.choose lim_ex
theorem lim_eq : lim = 1000000 := Classical.choose_spec lim_ex
theorem lim_line : lim ≤ sizeLine := by rw [sizeLine_eq, lim_eq]; decide
def intG (h : Int → Int → Option PyData) : DL.Env → Val → Val → Option (Val × DL.Env) := fun ρ a b => match a, b with
  | .cl (.int i), .cl (.int j) => (h i j).map fun d => (.cl d, ρ)
  | _, _ => none
theorem loc_int {K : Fg} {R : R2} {h : Int → Int → Option PyData} (hr : ∀ i j d, h i j = some d → ∃ v, (∀ {H W}, Dq K H W v d) ∧ ∀ (H : Hp) (Q : VK), Q v H → R (.int i) (.int j) H Q) : Loc2 K R (intG h) := by
  intro E P B L σ ρ ρ' H x y r1 r2 r Q R0 v1 v2 e c
  cases r1 with
  | cl d1 =>
    cases d1 <;> try (simp [intG] at e)
    cases r2 with
    | cl d2 =>
      cases d2 <;> try (simp [intG] at e)
      obtain ⟨d, e1, e2, e3⟩ := e
      subst e2; subst e3
      obtain ⟨v, hv, hq⟩ := hr _ _ _ e1
      rw [v1.int, v2.int]
      exact hq H Q (c.here R0 hv)
    | _ => simp [intG] at e
  | _ => simp [intG] at e
abbrev i2i (g : Int → Int → Int) : Int → Int → Option PyData := fun i j => some (.int (g i j))
abbrev i2b (g : Int → Int → Bool) : Int → Int → Option PyData := fun i j => some (.bool (g i j))
theorem loc_i2i {K : Fg} {g : Int → Int → Int} : Loc2 K (rI0 fun i j => .int (g i j)) (intG (i2i g)) := loc_int fun i j d e => by
  cases e
  exact ⟨.int (g i j), .int _, fun H Q q => ⟨i, j, rfl, rfl, q⟩⟩
theorem loc_i2b {K : Fg} {g : Int → Int → Bool} : Loc2 K (rI0 fun i j => .bl (g i j)) (intG (i2b g)) := loc_int fun i j d e => by
  cases e
  exact ⟨.bl (g i j), .bl _, fun H Q q => ⟨i, j, rfl, rfl, q⟩⟩
def modG (i j : Int) : Option PyData := if 0 < j then some (.int (i % j)) else none
def fdivG (i j : Int) : Option PyData := if 0 < j ∧ j.natAbs.log2 < 9000 then some (.int (i / j)) else none
def powG (i j : Int) : Option PyData := if 0 ≤ j ∧ j ≤ 1000 ∧ i.natAbs < 2 ^ 64 then some (.int (i ^ j.toNat)) else none
theorem loc_mod {K : Fg} : Loc2 K (rI (fun _ j => 0 < j) fun i j => .int (i % j)) (intG modG) := loc_int fun i j d e => by
  unfold modG at e
  split at e
  · cases e
    rename_i h
    exact ⟨.int _, .int _, fun H Q q => ⟨i, j, rfl, rfl, h, q⟩⟩
  · cases e
theorem loc_fdiv {K : Fg} : Loc2 K (rI CDivW fun i j => .int (i / j)) (intG fdivG) := loc_int fun i j d e => by
  unfold fdivG at e
  split at e
  · cases e
    rename_i h
    exact ⟨.int _, .int _, fun H Q q => ⟨i, j, rfl, rfl, h, q⟩⟩
  · cases e
theorem loc_pow {K : Fg} : Loc2 K (rI CPow fun i j => .int (i ^ j.toNat)) (intG powG) := loc_int fun i j d e => by
  unfold powG at e
  split at e
  · cases e
    rename_i h
    exact ⟨.int _, .int _, fun H Q q => ⟨i, j, rfl, rfl, ⟨h.1, by have := h.2.1; omega, h.2.2⟩, q⟩⟩
  · cases e
def negG : DL.Env → Val → Option (Val × DL.Env) := fun ρ a => match a with
  | .cl (.int i) => some (.cl (.int (-i)), ρ)
  | _ => none
theorem loc_neg {K : Fg} : Loc1 K (rU fun i => .int (-i)) negG := by
  intro E P B L σ ρ ρ' H x r1 r Q R0 v1 e c
  unfold negG at e
  split at e
  · cases e
    exact ⟨_, v1.int, c.here R0 (show VR K E P B L σ H _ (.cl (.int _)) from Dq.int _)⟩
  · cases e
def addG : DL.Env → Val → Val → Option (Val × DL.Env) := fun ρ a b => match a, b with
  | .cl (.int i), .cl (.int j) => some (.cl (.int (i + j)), ρ)
  | .cl (.str i), .cl (.str j) => if i.length + j.length ≤ lim then some (.cl (.str (i ++ j)), ρ) else none
  | _, _ => match seqOf ρ a, seqOf ρ b with
    | some (true, ds), some (true, es) => if ds.length + es.length ≤ lim then some (.own (ds ++ es), ρ) else none
    | some (false, ds), some (false, es) => if ds.length + es.length ≤ lim then some (.cl (.tuple (ds ++ es)), ρ) else none
    | _, _ => none
def rAddAll (K : Fg) : R2 := fun x y H Q => (rI0 fun i j => .int (i + j)) x y H Q ∨ (∃ i j, x = .str i ∧ y = .str j ∧ i.length + j.length ≤ sizeLine ∧ Q (.str (i ++ j)) H) ∨ rCat x y H Q ∨ rCatF K x y H Q
theorem op_addAll {X : Cx} {tl : TL} : OpR X (binaryOp .Add) (rAddAll (X.D tl)) := op_add.or (op_add_str.or (op_cat.or op_catF))
theorem loc_seqAdd {K : Fg} {E P B L : List Addr} {σ : L2.St} {ρ ρ' : DL.Env} {H : Hp} {x y : V} {r1 r2 r : Val} {Q : VK} (R0 : Rep K (E ++ P) B L σ ρ H) (v1 : VR K E P B L σ H x r1) (v2 : VR K E P B L σ H y r2)
    (e : (match seqOf ρ r1, seqOf ρ r2 with
    | some (true, ds), some (true, es) => if ds.length + es.length ≤ lim then some (Val.own (ds ++ es), ρ) else none
    | some (false, ds), some (false, es) => if ds.length + es.length ≤ lim then some (Val.cl (.tuple (ds ++ es)), ρ) else none
    | _, _ => none) = some (r, ρ')) (c : Cont K P B L σ H E ρ' r Q) : rAddAll K x y H Q := by
  have ll := lim_line
  split at e
  · rename_i ds es e1 e2
    split at e
    · rename_i hz
      cases e
      obtain ⟨a, vs, rfl, h1, d1⟩ := v1.list R0 e1
      obtain ⟨b, ws, rfl, h2, d2⟩ := v2.list R0 e2
      refine .inr (.inr (.inl ⟨a, b, vs, ws, rfl, rfl, h1, h2, ?_, fun p hp => c.lst R0 (d1.append d2) hp⟩))
      rw [d1.length, d2.length]; omega
    · cases e
  · rename_i ds es e1 e2
    split at e
    · rename_i hz
      cases e
      obtain ⟨a, vs, rfl, h1, d1⟩ := v1.tuple e1
      obtain ⟨b, ws, rfl, h2, d2⟩ := v2.tuple e2
      have l1 := d1.length
      have l2 := d2.length
      refine .inr (.inr (.inr ⟨a, b, vs, ws, rfl, rfl, h1.sq, h2.sq, by omega, fun q => ?_, fun q1 q2 => ?_, fun _ _ p ob hp po => c.tup R0 (d1.append d2) hp po⟩))
      · subst q
        cases d1
        exact c.here R0 (show VR K E P B L σ H _ (.cl (.tuple ([] ++ es))) from .tup h2 d2)
      · subst q2
        cases d2
        rw [List.append_nil] at c
        exact c.here R0 (show VR K E P B L σ H _ (.cl (.tuple ds)) from .tup h1 d1)
    · cases e
  · cases e
theorem loc_add {K : Fg} : Loc2 K (rAddAll K) addG := by
  intro E P B L σ ρ ρ' H x y r1 r2 r Q R0 v1 v2 e c
  have ll := lim_line
  unfold addG at e
  split at e
  · cases e
    exact .inl ⟨_, _, v1.int, v2.int, c.here R0 (show VR K E P B L σ H _ (.cl (.int _)) from Dq.int _)⟩
  · split at e
    · cases e
      exact .inr (.inl ⟨_, _, v1.str, v2.str, by omega, c.here R0 (show VR K E P B L σ H _ (.cl (.str _)) from Dq.str _)⟩)
    · cases e
  · exact loc_seqAdd R0 v1 v2 e c
def ixG : DL.Env → Val → Val → Option (Val × DL.Env) := fun ρ a b => match seqOf ρ a, b with
  | some (_, ds), .cl (.int i) => (atI ds i).map fun d => (.cl d, ρ)
  | _, _ => none
theorem atI_dq {K : Fg} {H : Hp} {W : List Addr} {vs : List V} {ds : List PyData} {i : Int} {d : PyData} (h : DqA K H W vs ds) (e : atI ds i = some d) : ∃ v, atI vs i = some v ∧ Dq K H W v d := by
  unfold atI at e ⊢
  rw [h.length]
  obtain ⟨j, e1, e2⟩ := Option.bind_eq_some_iff.mp e
  obtain ⟨v, e3, hv⟩ := h.get e2
  exact ⟨v, by rw [e1]; exact e3, hv⟩
theorem loc_ix {K : Fg} : Loc2 K (fun x y H Q => rIxL K x y H Q ∨ rIxT K x y H Q) ixG := by
  intro E P B L σ ρ ρ' H x y r1 r2 r Q R0 v1 v2 e c
  unfold ixG at e
  split at e
  · rename_i k ds i e1
    obtain ⟨d, e2, e3⟩ := Option.map_eq_some_iff.mp e
    cases e3
    cases k with
    | true =>
      obtain ⟨a, vs, rfl, h1, d1⟩ := v1.list R0 e1
      obtain ⟨v, e4, hv⟩ := atI_dq d1 e2
      exact .inl ⟨a, vs, i, v, rfl, v2.int, .of h1, e4, c.here R0 (show VR K E P B L σ H _ (.cl d) from hv)⟩
    | false =>
      obtain ⟨a, vs, rfl, h1, d1⟩ := v1.tuple e1
      obtain ⟨v, e4, hv⟩ := atI_dq d1 e2
      exact .inr ⟨a, vs, i, v, rfl, v2.int, h1.sq, e4, c.here R0 (show VR K E P B L σ H _ (.cl d) from hv)⟩
  · cases e
theorem ix_both {X : Cx} {tl : TL} : IxR X (fun x y H Q => rIxL (X.D tl) x y H Q ∨ rIxT (X.D tl) x y H Q) := ix_list.or ix_tup
abbrev PD := DL.Env → Option (Option Int × DL.Env)
def noP : PD := fun ρ => some (none, ρ)
def aP (f : ED) : PD := fun ρ => (f ρ).bind fun p => match p.1 with
  | .cl (.int i) => some (some i, p.2)
  | _ => none
def RO (K : Fg) (f : PD) : TO := fun σ H Q => ∃ P B L ρ b ρ', Rep K P B L σ ρ H ∧ f ρ = some (b, ρ') ∧ ∀ H' L' E', Post K P B L σ H [] ρ' H' L' E' → Q b H'
def sliceD (f : ED) (lo hi : PD) (g : DL.Env → Val → Option Int → Option Int → Option (Val × DL.Env)) : ED := fun ρ => (f ρ).bind fun p => (lo p.2).bind fun q => (hi q.2).bind fun s => g s.2 p.1 q.1 s.1
def cutD (ds : List PyData) (lo hi : Option Int) : List PyData := (ds.drop (HT.sIx ds.length 0 lo)).take (HT.sIx ds.length ds.length hi - HT.sIx ds.length 0 lo)
theorem cut_dq {K : Fg} {H : Hp} {W : List Addr} {vs : List V} {ds : List PyData} (h : DqA K H W vs ds) (lo hi : Option Int) : DqA K H W (cutV vs lo hi) (cutD ds lo hi) := by
  unfold cutV cutD
  rw [h.length]
  exact (h.drop _).take _
def cutG : DL.Env → Val → Option Int → Option Int → Option (Val × DL.Env) := fun ρ a lo hi => match seqOf ρ a with
  | some (true, ds) => some (.own (cutD ds lo hi), ρ)
  | some (false, ds) => some (.cl (.tuple (cutD ds lo hi)), ρ)
  | none => none
theorem _root_.L2.PO.imp {X : Cx} {e : Option Expr} {t t' : TO} (p : PO X e t) (h : ∀ σ H Q, t' σ H Q → t σ H Q) : PO X e t' := ⟨fun pins s σ H Q I q => p.run pins s σ H Q I (h σ H Q q)⟩
section
variable {X : Cx} {tl : TL} {a b c : Expr} {f : ED} {lo hi : PD} {pos p2 : Pos} {el eh : Option Expr}
theorem o_none : PO X none (RO (X.D tl) noP) := po_none.imp fun σ H Q h => by
  obtain ⟨P, B, L, ρ, b, ρ', R0, e, k⟩ := h
  cases e
  exact k H L [] (.refl R0)
theorem o_some (h : PE X a (RD (X.D tl) f)) : PO X (some a) (RO (X.D tl) (aP f)) := (po_some h).imp fun σ H Q h => by
  obtain ⟨P, B, L, ρ, b, ρ', R0, e, k⟩ := h
  obtain ⟨⟨r1, ρ1⟩, e1, e2⟩ := Option.bind_eq_some_iff.mp e
  refine ⟨P, B, L, ρ, r1, ρ1, R0, e1, fun x H1 La Ea p1 v1 => ?_⟩
  cases r1 with
  | cl d =>
    cases d <;> simp at e2
    obtain ⟨e3, e4⟩ := e2
    subst e3; subst e4
    exact ⟨_, v1.int, k _ _ _ p1⟩
  | own ds => simp at e2
  | sl i => simp at e2
theorem d_slice (he : PE X a (RD (X.D tl) f)) (hl : PO X el (RO (X.D tl) lo)) (hu : PO X eh (RO (X.D tl) hi)) : PE X (.Subscript a (.Slice el eh none p2) pos) (RD (X.D tl) (sliceD f lo hi cutG)) :=
  (pe_slice (sl_list.or sl_tupF) he hl hu).imp fun σ H Q h => by
    obtain ⟨P, B, L, ρ, r, ρ', R0, e, k⟩ := h
    obtain ⟨⟨r1, ρ1⟩, e1, e⟩ := Option.bind_eq_some_iff.mp e
    obtain ⟨⟨o1, ρ2⟩, e2, e⟩ := Option.bind_eq_some_iff.mp e
    obtain ⟨⟨o2, ρ3⟩, e3, e⟩ := Option.bind_eq_some_iff.mp e
    refine ⟨P, B, L, ρ, r1, ρ1, R0, e1, fun x H1 La Ea p1 v1 => ⟨Ea ++ P, B, La, ρ1, o1, ρ2, p1.rep, e2, fun H2 Lb Eb p2 => ?_⟩⟩
    have p12 := p1.two p2
    have v2 := v1.later p1.rep p2
    refine ⟨(Eb ++ Ea) ++ P, B, Lb, ρ2, o2, ρ3, p12.rep, e3, fun H3 Lc Ec p3 => ?_⟩
    have p := p12.two p3
    have v := v2.later p12.rep p3
    have k := k.after p
    simp only [cutG] at e
    split at e
    · rename_i ds e4
      cases e
      obtain ⟨a, vs, rfl, h1, d1⟩ := v.list p.rep e4
      exact .inl ⟨a, vs, rfl, .of h1, fun q hq => k.lst p.rep (cut_dq d1 _ _) hq⟩
    · rename_i ds e4
      cases e
      obtain ⟨a, vs, rfl, h1, d1⟩ := v.tuple e4
      refine .inr ⟨a, vs, rfl, h1.sq, fun hw => ?_, fun _ q ob hq po => k.tup p.rep (cut_dq d1 _ _) hq po⟩
      have ec : cutD ds o1 o2 = ds := by
        unfold cutD
        rw [← d1.length, hw.1, hw.2, List.drop_zero, d1.length]
        simp
      rw [ec] at k
      exact k.here p.rep (show VR (X.D tl) _ _ _ _ _ _ _ (.cl (.tuple ds)) from .tup h1 d1)
    · cases e
end
/-- a call of one argument -/
def oneG (g : DL.Env → Val → Option (Val × DL.Env)) : DL.Env → List Val → Option (Val × DL.Env) := fun ρ rs => match rs with
  | [a] => g ρ a
  | _ => none
def twoG (g : DL.Env → Val → Val → Option (Val × DL.Env)) : DL.Env → List Val → Option (Val × DL.Env) := fun ρ rs => match rs with
  | [a, b] => g ρ a b
  | _ => none
theorem loc_one {K : Fg} {R : V → Hp → VK → Prop} {g} (h : Loc1 K R g) : LocN K (fun xs H Q => ∃ x, xs = [x] ∧ R x H Q) (oneG g) := by
  intro E P B L σ ρ ρ' H xs rs r Q R0 v e c
  cases v with
  | nil => cases e
  | @cons x r1 xs rs v1 d vs =>
    cases vs with
    | nil => exact ⟨x, rfl, h R0 v1 e c⟩
    | cons _ _ _ => cases e
theorem loc_two {K : Fg} {R : R2} {g} (h : Loc2 K R g) : LocN K (fun xs H Q => ∃ x y, xs = [x, y] ∧ R x y H Q) (twoG g) := by
  intro E P B L σ ρ ρ' H xs rs r Q R0 v e c
  cases v with
  | nil => cases e
  | @cons x r1 xs rs v1 d vs =>
    cases vs with
    | nil => cases e
    | @cons y r2 xs rs v2 d2 vs =>
      cases vs with
      | nil => exact ⟨x, y, rfl, h R0 v1 v2 e c⟩
      | cons _ _ _ => cases e
theorem _root_.L2.CallR.imp {X : Cx} {f : Value} {r r' : List V → Hp → VK → Prop} (h : CallR X f r) (hi : ∀ xs H Q, r' xs H Q → r xs H Q) : CallR X f r' := fun pins s σ H xs us Q I rv q => h pins s σ H xs us Q I rv (hi xs H Q q)
def lenG : DL.Env → Val → Option (Val × DL.Env) := fun ρ a => match a with
  | .cl (.str z) => if z.length ≤ lim then some (.cl (.int z.length), ρ) else none
  | _ => (seqOf ρ a).map fun p => (.cl (.int p.2.length), ρ)
theorem loc_len {K : Fg} : Loc1 K (fun x H Q => ∃ n, LenV K x H n ∧ Q (.int n) H) lenG := by
  intro E P B L σ ρ ρ' H x r1 r Q R0 v1 e c
  have ll := lim_line
  unfold lenG at e
  split at e
  · split at e
    · cases e
      rename_i z hz
      rw [v1.str]
      exact ⟨_, ⟨by omega, rfl⟩, c.here R0 (show VR K E P B L σ H _ (.cl (.int _)) from Dq.int _)⟩
    · cases e
  · obtain ⟨⟨k, ds⟩, e1, e2⟩ := Option.map_eq_some_iff.mp e
    cases e2
    cases k with
    | true =>
      obtain ⟨a, vs, rfl, h1, d1⟩ := v1.list R0 e1
      refine ⟨vs.length, .inl ⟨vs, .of h1, rfl⟩, ?_⟩
      rw [d1.length]
      exact c.here R0 (show VR K E P B L σ H _ (.cl (.int _)) from Dq.int _)
    | false =>
      obtain ⟨a, vs, rfl, h1, d1⟩ := v1.tuple e1
      refine ⟨vs.length, .inr ⟨vs, h1.sq, rfl⟩, ?_⟩
      rw [d1.length]
      exact c.here R0 (show VR K E P B L σ H _ (.cl (.int _)) from Dq.int _)
theorem c_len {X : Cx} {tl : TL} : CallR X (.builtin "len") (fun xs H Q => ∃ x, xs = [x] ∧ ∃ n, LenV (X.D tl) x H n ∧ Q (.int n) H) := call_len.imp fun xs H Q ⟨x, e, n, h, q⟩ => ⟨x, n, e, h, q⟩
def absG : DL.Env → Val → Option (Val × DL.Env) := fun ρ a => match a with
  | .cl (.int i) => some (.cl (.int (if i < 0 then -i else i)), ρ)
  | _ => none
theorem loc_abs {K : Fg} : Loc1 K (fun x H Q => ∃ i, x = .int i ∧ Q (.int (if i < 0 then -i else i)) H) absG := by
  intro E P B L σ ρ ρ' H x r1 r Q R0 v1 e c
  unfold absG at e
  split at e
  · cases e
    exact ⟨_, v1.int, c.here R0 (show VR K E P B L σ H _ (.cl (.int _)) from Dq.int _)⟩
  · cases e
theorem c_abs {X : Cx} : CallR X (.builtin "abs") (fun xs H Q => ∃ x, xs = [x] ∧ ∃ i, x = .int i ∧ Q (.int (if i < 0 then -i else i)) H) := call_abs.imp fun xs H Q ⟨x, e, i, h, q⟩ => ⟨i, by rw [e, h], q⟩
def intTG : DL.Env → Val → Option (Val × DL.Env) := fun ρ a => match a with
  | .cl (.int i) => some (.cl (.int i), ρ)
  | .cl (.bool b) => some (.cl (.int (if b then 1 else 0)), ρ)
  | _ => none
theorem loc_intT {K : Fg} : Loc1 K (fun x H Q => (∃ i, x = .int i ∧ Q (.int i) H) ∨ ∃ k, x = .bl k ∧ Q (.int (if k then 1 else 0)) H) intTG := by
  intro E P B L σ ρ ρ' H x r1 r Q R0 v1 e c
  unfold intTG at e
  split at e
  · cases e
    exact .inl ⟨_, v1.int, c.here R0 (show VR K E P B L σ H _ (.cl (.int _)) from Dq.int _)⟩
  · cases e
    exact .inr ⟨_, v1.bl, c.here R0 (show VR K E P B L σ H _ (.cl (.int _)) from Dq.int _)⟩
  · cases e
theorem c_intT {X : Cx} : CallR X (.type "int") (fun xs H Q => ∃ x, xs = [x] ∧ ((∃ i, x = .int i ∧ Q (.int i) H) ∨ ∃ k, x = .bl k ∧ Q (.int (if k then 1 else 0)) H)) := call_int1.imp fun xs H Q ⟨x, e, h⟩ => by
  rcases h with ⟨i, h, q⟩ | ⟨i, h, q⟩
  · exact .inl ⟨i, by rw [e, h], q⟩
  · exact .inr ⟨i, by rw [e, h], q⟩
theorem c_min2 {X : Cx} (hc : X.calm = true) : CallR X (.builtin "min") (fun xs H Q => ∃ x y, xs = [x, y] ∧ (rI0 fun i j => .int (if j < i then j else i)) x y H Q) := (call_min2 hc).imp fun xs H Q ⟨x, y, e, i, j, h1, h2, q⟩ => ⟨i, j, by rw [e, h1, h2], q⟩
def max2G : DL.Env → List Val → Option (Val × DL.Env) := twoG (intG (i2i fun i j => if j > i then j else i))
def min2G : DL.Env → List Val → Option (Val × DL.Env) := twoG (intG (i2i fun i j => if j < i then j else i))
theorem loc_min2 {K : Fg} : LocN K (fun xs H Q => ∃ x y, xs = [x, y] ∧ (rI0 fun i j => .int (if j < i then j else i)) x y H Q) min2G := loc_two loc_i2i
def listG : DL.Env → Val → Option (Val × DL.Env) := fun ρ a => (seqOf ρ a).map fun p => (.own p.2, ρ)
def tupleG : DL.Env → Val → Option (Val × DL.Env) := fun ρ a => (seqOf ρ a).map fun p => (.cl (.tuple p.2), ρ)
theorem loc_list {K : Fg} : Loc1 K (fun x H Q => ∃ p ys, x = .ref p ∧ (SqL K H p ys ∨ SqT K H p ys) ∧ ∀ l, H l = none → Q (.ref l) (upd H l (.lst ys))) listG := by
  intro E P B L σ ρ ρ' H x r1 r Q R0 v1 e c
  unfold listG at e
  obtain ⟨⟨k, ds⟩, e1, e2⟩ := Option.map_eq_some_iff.mp e
  cases e2
  cases k with
  | true =>
    obtain ⟨a, vs, rfl, h1, d1⟩ := v1.list R0 e1
    exact ⟨a, vs, rfl, .inl (.of h1), fun l hl => c.lst R0 d1 hl⟩
  | false =>
    obtain ⟨a, vs, rfl, h1, d1⟩ := v1.tuple e1
    exact ⟨a, vs, rfl, .inr h1.sq, fun l hl => c.lst R0 d1 hl⟩
theorem loc_tuple {K : Fg} : Loc1 K (fun x H Q => ∃ p ys, x = .ref p ∧ ((SqL K H p ys ∧ NewT H Q ys) ∨ (SqT K H p ys ∧ Q (.ref p) H))) tupleG := by
  intro E P B L σ ρ ρ' H x r1 r Q R0 v1 e c
  unfold tupleG at e
  obtain ⟨⟨k, ds⟩, e1, e2⟩ := Option.map_eq_some_iff.mp e
  cases e2
  cases k with
  | true =>
    obtain ⟨a, vs, rfl, h1, d1⟩ := v1.list R0 e1
    exact ⟨a, vs, rfl, .inl ⟨.of h1, fun l ob hl po => c.tup R0 d1 hl po⟩⟩
  | false =>
    obtain ⟨a, vs, rfl, h1, d1⟩ := v1.tuple e1
    exact ⟨a, vs, rfl, .inr ⟨TupD.sq h1, c.here R0 (show VR K E P B L σ H _ (.cl (.tuple ds)) from .tup h1 d1)⟩⟩
theorem c_list {X : Cx} {tl : TL} : CallR X (.type "list") (fun xs H Q => ∃ x, xs = [x] ∧ ∃ p ys, x = .ref p ∧ (SqL (X.D tl) H p ys ∨ SqT (X.D tl) H p ys) ∧ ∀ l, H l = none → Q (.ref l) (upd H l (.lst ys))) := call_list_of.imp fun xs H Q ⟨x, e, p, ys, h, q⟩ => ⟨p, ys, by rw [e, h], q⟩
theorem c_tuple {X : Cx} {tl : TL} : CallR X (.type "tuple") (fun xs H Q => ∃ x, xs = [x] ∧ ∃ p ys, x = .ref p ∧ ((SqL (X.D tl) H p ys ∧ NewT H Q ys) ∨ (SqT (X.D tl) H p ys ∧ Q (.ref p) H))) := call_tupleF.imp fun xs H Q ⟨x, e, p, ys, h, q⟩ => ⟨p, ys, by rw [e, h], q⟩
def psAll (ρ : DL.Env) : List Val → Option (List PyData × DL.Env)
  | [] => some ([], ρ)
  | r :: rs => (psV ρ r).bind fun p => (psAll p.2 rs).bind fun q => some (p.1 :: q.1, q.2)
theorem vrs_psd {K : Fg} {E P B L E' L' : List Addr} {σ : L2.St} {H : Hp} {x : V} {r : Val} {xs : List V} {rs : List Val}
    (h : ∀ y s, VR K E P B L σ H y s → (r.isOwn = true → s.isOwn = true → y ≠ x) → VR K E' P B L' σ H y s) (hd : r.isOwn = true → ∀ p ∈ xs.zip rs, p.2.isOwn = true → p.1 ≠ x) (vs : VRs K E P B L σ H xs rs) : VRs K E' P B L' σ H xs rs := by
  induction vs with
  | nil => exact .nil
  | @cons y s ys ss w d _ ih => exact .cons (h y s w fun h1 h2 => hd h1 (y, s) (List.mem_cons_self ..) h2) d (ih fun h1 p hp h2 => hd h1 p (List.mem_cons_of_mem _ hp) h2)
theorem psAll_of {K : Fg} {P B : List Addr} {σ : L2.St} {H : Hp} : ∀ {E L : List Addr} {ρ ρ' : DL.Env} {xs : List V} {rs : List Val} {ds : List PyData}, Rep K (E ++ P) B L σ ρ H → VRs K E P B L σ H xs rs → psAll ρ rs = some (ds, ρ') →
    ∃ E' L', Rep K (E' ++ P) B L' σ ρ' H ∧ DqA K H (E' ++ P ++ B ++ L') xs ds ∧ (∀ a ∈ E', a ∈ E) ∧ ∀ a ∈ L', a ∈ L := by
  intro E L ρ ρ' xs rs
  induction rs generalizing E L ρ xs with
  | nil =>
    intro ds R v e
    cases v
    cases e
    exact ⟨E, L, R, .nil, fun _ z => z, fun _ z => z⟩
  | cons r rs ih =>
    intro ds R v e
    cases v with
    | cons v1 d vs =>
      obtain ⟨⟨d1, ρ1⟩, e1, e⟩ := Option.bind_eq_some_iff.mp e
      obtain ⟨⟨ds2, ρ2⟩, e2, e⟩ := Option.bind_eq_some_iff.mp e
      cases e
      obtain ⟨E1, La, p1, h1⟩ := psd_of R v1 e1
      obtain ⟨E2, Lb, R2, dq, es, ls⟩ := ih p1.rep (vrs_psd h1 d vs) e2
      refine ⟨E2, Lb, R2, .cons (p1.dq.sub fun a z => ?_) dq, fun a z => p1.es a (es a z), fun a z => p1.ls a (ls a z)⟩
      rcases mem4.mp z with z | z | z | z
      · exact mem4.mpr (.inl (es a z))
      · exact mem4.mpr (.inr (.inl z))
      · exact mem4.mpr (.inr (.inr (.inl z)))
      · exact mem4.mpr (.inr (.inr (.inr (ls a z))))
theorem Post.less {K : Fg} {E P B L E' L' : List Addr} {σ : L2.St} {ρ' : DL.Env} {H : Hp} (R : Rep K (E' ++ P) B L' σ ρ' H) (es : ∀ a ∈ E', a ∈ E) (ls : ∀ a ∈ L', a ∈ L) : Post K P B L σ H E ρ' H L' E' :=
  ⟨R, ⟨keep_refl, fun a z => .inl (ls a z), fun _ h => h⟩, fun a z => .inl (es a z)⟩
def tupD (t : AD) : ED := callD t fun ρ rs => (psAll ρ rs).bind fun p => if p.1.length ≤ lim then some (.cl (.tuple p.1), p.2) else none
def lstD (t : AD) : ED := callD t fun ρ rs => (psAll ρ rs).bind fun p => if p.1.length ≤ lim then some (.own p.1, p.2) else none
section
variable {X : Cx} {tl : TL} {es : List Expr} {t : AD} {pos : Pos}
theorem disp_core {σ : L2.St} {H : Hp} {Q : VK} {f : List PyData → Val} {New : Hp → VK → List V → Prop} (hf : ∀ {P B L E : List Addr} {ρ : DL.Env} {H : Hp} {vs : List V} {ds : List PyData}, Rep (X.D tl) (E ++ P) B L σ ρ H → DqA (X.D tl) H (E ++ P ++ B ++ L) vs ds → Cont (X.D tl) P B L σ H E ρ (f ds) Q → New H Q vs)
    (h : RD (X.D tl) (callD t fun ρ rs => (psAll ρ rs).bind fun p => if p.1.length ≤ lim then some (f p.1, p.2) else none) σ H Q) : RA (X.D tl) t σ H fun xs H1 => xs.length ≤ sizeLine ∧ New H1 Q xs := by
  have ll := lim_line
  obtain ⟨P, B, L, ρ, r, ρ', R0, e, k⟩ := h
  obtain ⟨⟨r1, ρ1⟩, e1, e⟩ := Option.bind_eq_some_iff.mp e
  obtain ⟨⟨ds, ρ2⟩, e2, e⟩ := Option.bind_eq_some_iff.mp e
  simp only at e
  split at e
  · rename_i hz
    cases e
    refine ⟨P, B, L, ρ, r1, ρ1, R0, e1, fun xs H1 La Ea p1 v1 => ?_⟩
    obtain ⟨E', L', R', dq, es, ls⟩ := psAll_of p1.rep v1 e2
    have p2 := Post.less (K := (X.D tl)) R' es ls
    have hz' : ds.length ≤ lim := hz
    refine ⟨by rw [dq.length]; omega, hf R' dq (k.after (p1.then p2))⟩
  · cases e
theorem d_tup {x1} (h : PA X es (RA (X.D tl) t)) : PE X (.Tuple es x1 pos) (RD (X.D tl) (tupD t)) := (pe_tupF h).imp fun σ H Q h => (disp_core (New := fun H Q xs => NewT H Q xs) (f := fun ds => .cl (.tuple ds)) (fun R d c p ob hp po => c.tup R d hp po) h)
theorem d_lst (h : PA X es (RA (X.D tl) t)) : PE X (.List es pos) (RD (X.D tl) (lstD t)) := (pe_lst h).imp fun σ H Q h => disp_core (New := fun H Q xs => ∀ p, H p = none → Q (.ref p) (upd H p (.lst xs))) (f := fun ds => .own ds) (fun R d c p hp => c.lst R d hp) h
end
end DL
end
noncomputable section
namespace DL
open PySem PySem.Spec PyProof.Rows L2
inductive Out where
  | nx (ρ : DL.Env) | ct (ρ : DL.Env) | bk (ρ : DL.Env) | rt (r : Val) (ρ : DL.Env)
abbrev SD := DL.Env → Option Out
def OutOk (K : Fg) (P B L : List Addr) (H : Hp) (D : Ends) : Out → Prop
  | .nx ρ' => ∀ σ' H' L', Rep K P B L' σ' ρ' H' → Step B L H L' H' → D.nx σ' H'
  | .ct ρ' => ∀ σ' H' L', Rep K P B L' σ' ρ' H' → Step B L H L' H' → D.ct σ' H'
  | .bk ρ' => ∀ σ' H' L', Rep K P B L' σ' ρ' H' → Step B L H L' H' → D.bk σ' H'
  | .rt r ρ' => ∀ σ' x H' L' E', Rep K (E' ++ P) B L' σ' ρ' H' → Step B L H L' H' → (∀ a ∈ E', H a = none) → VR K E' P B L' σ' H' x r → D.rt x H'
def RS (K : Fg) (g : SD) : TS := fun D σ H => ∃ P B L ρ o, Rep K P B L σ ρ H ∧ g ρ = some o ∧ OutOk K P B L H D o
theorem OutOk.after {K : Fg} {P B L La : List Addr} {H Ha : Hp} {D : Ends} {o : Out} (h : OutOk K P B L H D o) (s : Step B L H La Ha) : OutOk K P B La Ha D o := by
  cases o with
  | nx ρ => exact fun σ' H' L' R q => h σ' H' L' R (s.trans q)
  | ct ρ => exact fun σ' H' L' R q => h σ' H' L' R (s.trans q)
  | bk ρ => exact fun σ' H' L' R q => h σ' H' L' R (s.trans q)
  | rt r ρ => exact fun σ' x H' L' E' R q f v => h σ' x H' L' E' R (s.trans q) (fun a ha => by
      cases e : H a with
      | none => rfl
      | some u => exact absurd (f a ha) (s.ne a (by rw [e]; exact fun z => nomatch z))) v
def nilS : SD := fun ρ => some (.nx ρ)
def seqS (g h : SD) : SD := fun ρ => (g ρ).bind fun o => match o with
  | .nx ρ' => h ρ'
  | o => some o
def ifS (c : TD) (g h : SD) : SD := fun ρ => (c ρ).bind fun p => if p.1 = true then g p.2 else h p.2
def retS (f : ED) : SD := fun ρ => (f ρ).bind fun p => some (.rt p.1 p.2)
def dropS (f : ED) : SD := fun ρ => (f ρ).bind fun p => some (.nx p.2)
/-- a value comes to slot i -/
def stV (ρ : DL.Env) (i : Nat) (r : Val) : Option DL.Env := match r with
  | .own ds => some (ρ.set i (.op ds))
  | r => (psV ρ r).map fun p => p.2.set i (.cl p.1)
def setS (i : Nat) (f : ED) : SD := fun ρ => (f ρ).bind fun p => (stV p.2 i p.1).map .nx
def stAll (ρ : DL.Env) : List Nat → List Val → Option DL.Env
  | [], [] => some ρ
  | i :: is, r :: rs => (stV ρ i r).bind fun ρ' => stAll ρ' is rs
  | _, _ => none
def augS (i : Nat) (f : ED) (g : Int → Int → Int) : SD := fun ρ => match ρ.getD i .no with
  | .cl (.int a) => (f ρ).bind fun p => match p.1 with
    | .cl (.int b) => some (.nx (p.2.set i (.cl (.int (g a b)))))
    | _ => none
  | _ => none
section
variable {K : Fg} {P B L E : List Addr} {σ : L2.St} {ρ ρ' : DL.Env} {H : Hp} {x : V} {r : Val}
theorem getS_set (σ : L2.St) (i j : Nat) (x : Option V) : (σ.set i x)[j]? = if i = j ∧ i < σ.length then some x else σ[j]? := by
  rw [List.getElem?_set]
  by_cases h : i = j
  · subst h
    by_cases h2 : i < σ.length
    · simp [h2]
    · simp [h2]
  · simp [h]
/-- closed data into a slot -/
theorem Rep.setCl {d : PyData} (R : Rep K P B L σ ρ H) (i : Nat) (h : Dq K H (P ++ B ++ L) x d) : Rep K P B L (σ.set i (some x)) (ρ.set i (.cl d)) H := by
  refine ⟨by rw [List.length_set, List.length_set]; exact R.len, R.wl, R.nd, fun j => ?_, fun j k a hjk h1 h2 e1 e2 => ?_, R.tabs⟩
  · rw [getD_set, getS_set, R.len]
    by_cases hj : i = j ∧ i < ρ.length
    · rw [if_pos hj, if_pos hj]
      exact ⟨x, rfl, h⟩
    · rw [if_neg hj, if_neg hj]
      exact R.ok j
  · rw [getD_set] at h1 h2
    rw [getS_set, R.len] at e1 e2
    by_cases hj : i = j ∧ i < ρ.length
    · rw [if_pos hj] at h1; cases h1
    · by_cases hk : i = k ∧ i < ρ.length
      · rw [if_pos hk] at h2; cases h2
      · rw [if_neg hj] at h1 e1
        rw [if_neg hk] at h2 e2
        exact R.inj j k a hjk h1 h2 e1 e2
/-- a new list into a slot -/
theorem Rep.setOp {ds : List PyData} {vs : List V} {a : Addr} (R : Rep K ([a] ++ P) B L σ ρ H) (ha : a ∉ P) (i : Nat) (hh : H a = some (.lst vs)) (h : DqA K H ([a] ++ P ++ B ++ L) vs ds) : Rep K P B (a :: L) (σ.set i (some (.ref a))) (ρ.set i (.op ds)) H := by
  have hw : ∀ b ∈ P ++ B ++ (a :: L), b ∈ ([a] ++ P) ++ B ++ L := fun b z => by
    rcases mem3.mp z with z | z | z
    · exact mem4.mpr (.inr (.inl z))
    · exact mem4.mpr (.inr (.inr (.inl z)))
    · rcases List.mem_cons.mp z with z | z
      · exact mem4.mpr (.inl (by simp [z]))
      · exact mem4.mpr (.inr (.inr (.inr z)))
  have hn := R.nd.1 a (by simp)
  -- no open slot holds a
  have ns : ∀ j b, (ρ.getD j .no).isOpen = true → σ[j]? = some (some (V.ref b)) → b ≠ a := fun j b ho e => by
    have q := R.ok j
    revert q ho
    generalize ρ.getD j .no = c
    intro ho q z
    subst z
    cases c with
    | op ds => obtain ⟨a', vs', e1, h1, _⟩ := q; rw [e] at e1; cases e1; exact hn.2 h1
    | pm ds => obtain ⟨a', vs', e1, h1, _⟩ := q; rw [e] at e1; cases e1; exact hn.1 h1
    | dk t ds => obtain ⟨a', vs', e1, h1, _⟩ := q; rw [e] at e1; cases e1; exact hn.2 h1
    | _ => cases ho
  refine ⟨by rw [List.length_set, List.length_set]; exact R.len, fun b z => R.wl b (hw b z), ⟨fun b z => ?_, fun b z y => ?_⟩, fun j => ?_, fun j k b hjk h1 h2 e1 e2 => ?_, R.tabs⟩
  · have q := R.nd.1 b (List.mem_append_right _ z)
    exact ⟨q.1, fun y => (List.mem_cons.mp y).elim (fun y => ha (y ▸ z)) q.2⟩
  · exact (List.mem_cons.mp y).elim (fun y => hn.1 (y ▸ z)) (R.nd.2 b z)
  · rw [getD_set, getS_set, R.len]
    by_cases hj : i = j ∧ i < ρ.length
    · rw [if_pos hj, if_pos hj]
      exact ⟨a, vs, rfl, List.mem_cons_self .., hh, h.sub hw⟩
    · rw [if_neg hj, if_neg hj]
      have q := R.ok j
      revert q
      generalize ρ.getD j .no = c
      intro q
      cases c with
      | no => trivial
      | cl d => obtain ⟨v, e, h⟩ := q; exact ⟨v, e, h.sub hw⟩
      | op ds => obtain ⟨b, vs, e, hm, hh, h⟩ := q; exact ⟨b, vs, e, List.mem_cons_of_mem _ hm, hh, h.sub hw⟩
      | pm ds => obtain ⟨b, vs, e, hm, hh, h⟩ := q; exact ⟨b, vs, e, hm, hh, h.sub hw⟩
      | dk t ds => obtain ⟨b, vs, e, hm, hh, h⟩ := q; exact ⟨b, vs, e, List.mem_cons_of_mem _ hm, hh, h.sub hw⟩
  · rw [getD_set] at h1 h2
    rw [getS_set, R.len] at e1 e2
    by_cases hj : i = j ∧ i < ρ.length
    · rw [if_pos hj] at e1; cases e1
      by_cases hk : i = k ∧ i < ρ.length
      · exact hjk (hj.1.symm.trans hk.1)
      · rw [if_neg hk] at h2 e2
        exact ns k _ h2 e2 rfl
    · rw [if_neg hj] at h1 e1
      by_cases hk : i = k ∧ i < ρ.length
      · rw [if_pos hk] at e2; cases e2
        exact ns j _ h1 e1 rfl
      · rw [if_neg hk] at h2 e2
        exact R.inj j k b hjk h1 h2 e1 e2
/-- what a store leaves: the rest of the values as they were, but to what E', L' became -/
theorem stV_of {i : Nat} (R : Rep K (E ++ P) B L σ ρ H) (v : VR K E P B L σ H x r) (e : stV ρ i r = some ρ') :
    ∃ E' L', Rep K (E' ++ P) B L' (σ.set i (some x)) ρ' H ∧ (∀ a ∈ E', a ∈ E) ∧ (∀ a ∈ L', a ∈ L ∨ a ∈ E) ∧
      ∀ y s, VR K E P B L σ H y s → (∀ j, s ≠ .sl j) → (r.isOwn = true → s.isOwn = true → y ≠ x) → VR K E' P B L' (σ.set i (some x)) H y s := by
  by_cases ho : r.isOwn = true
  · cases r with
    | own ds =>
      cases e
      obtain ⟨a, vs, rfl, hm, hp, hh, h⟩ := v
      have hw : ∀ b ∈ [a] ++ (less E a ++ P) ++ B ++ L, b ∈ E ++ P ++ B ++ L := fun b z => by
        rcases mem4.mp z with z | z | z | z
        · exact mem4.mpr (.inl (by simpa using (show b = a by simpa using z) ▸ hm))
        · rcases List.mem_append.mp z with z | z
          · exact mem4.mpr (.inl (mem_less.mp z).1)
          · exact mem4.mpr (.inr (.inl z))
        · exact mem4.mpr (.inr (.inr (.inl z)))
        · exact mem4.mpr (.inr (.inr (.inr z)))
      have R1 : Rep K ([a] ++ (less E a ++ P)) B L σ ρ H := by
        have q := R.lessE (P := P) (a :: less E a) fun b z => by
          rcases List.mem_cons.mp z with z | z
          · exact z ▸ hm
          · exact (mem_less.mp z).1
        simpa using q
      refine ⟨less E a, a :: L, R1.setOp (fun z => ?_) i hh (h.sub hw), fun b z => (mem_less.mp z).1, fun b z => ?_, fun y s q hs hn => ?_⟩
      · rcases List.mem_append.mp z with z | z
        · exact (mem_less.mp z).2 rfl
        · exact hp z
      · rcases List.mem_cons.mp z with z | z
        · exact .inr (z ▸ hm)
        · exact .inl z
      · have hw2 : ∀ b ∈ less E a ++ P ++ B ++ (a :: L), b ∈ E ++ P ++ B ++ L := fun b z => by
          rcases mem4.mp z with z | z | z | z
          · exact mem4.mpr (.inl (mem_less.mp z).1)
          · exact mem4.mpr (.inr (.inl z))
          · exact mem4.mpr (.inr (.inr (.inl z)))
          · rcases List.mem_cons.mp z with z | z
            · exact mem4.mpr (.inl (z ▸ hm))
            · exact mem4.mpr (.inr (.inr (.inr z)))
        cases s with
        | cl d => exact Dq.sub hw2 q
        | own es => obtain ⟨b, us, e1, h1, h2, h3, h4⟩ := q; exact ⟨b, us, e1, mem_less.mpr ⟨h1, fun z => hn rfl rfl (by rw [e1, z])⟩, h2, h3, h4.sub hw2⟩
        | sl j => exact absurd rfl (hs j)
    | _ => cases ho
  · have e' : ((psV ρ r).map fun p => p.2.set i (.cl p.1)) = some ρ' := by
      cases r with
      | own ds => exact absurd rfl ho
      | _ => exact e
    obtain ⟨⟨d, ρ1⟩, e1, e2⟩ := Option.map_eq_some_iff.mp e'
    subst e2
    obtain ⟨E', L', p, hv⟩ := psd_of R v e1
    refine ⟨E', L', p.rep.setCl i p.dq, p.es, fun a z => .inl (p.ls a z), fun y s q hs hn => ?_⟩
    have q' := hv y s q hn
    cases s with
    | cl d => exact q'
    | own es => exact q'
    | sl j => exact absurd rfl (hs j)
theorem stAll_of : ∀ {is : List Nat} {rs : List Val} {E L : List Addr} {σ : L2.St} {ρ ρ' : DL.Env} {xs : List V}, Rep K (E ++ P) B L σ ρ H → VRs K E P B L σ H xs rs → (∀ r ∈ rs, ∀ j, r ≠ .sl j) → stAll ρ is rs = some ρ' →
    ∃ E' L', Rep K (E' ++ P) B L' ((is.zip xs).foldl (fun s p => s.set p.1 (some p.2)) σ) ρ' H ∧ (∀ a ∈ E', a ∈ E) ∧ (∀ a ∈ L', a ∈ L ∨ a ∈ E) ∧ is.length = xs.length
  | [], [], E, L, σ, ρ, ρ', xs, R, v, _, e => by
    cases v
    cases e
    exact ⟨E, L, R, fun _ z => z, fun _ z => .inl z, rfl⟩
  | i :: is, r :: rs, E, L, σ, ρ, ρ', xs, R, v, hs, e => by
    cases v with
    | @cons x r xs rs v1 d vs =>
      obtain ⟨ρ1, e1, e2⟩ := Option.bind_eq_some_iff.mp e
      obtain ⟨E1, La, R1, h1, h2, hv⟩ := stV_of R v1 e1
      have vs' : VRs K E1 P B La (σ.set i (some x)) H xs rs := by
        have hs' : ∀ r ∈ rs, ∀ j, r ≠ .sl j := fun r hr => hs r (List.mem_cons_of_mem _ hr)
        clear e e2 hs
        induction vs with
        | nil => exact .nil
        | @cons y s ys ss w d2 _ ih =>
          exact .cons (hv y s w (hs' s (List.mem_cons_self ..)) fun q1 q2 => d q1 (y, s) (List.mem_cons_self ..) q2) d2 (ih (fun q p hp q2 => d q p (List.mem_cons_of_mem _ hp) q2) fun r hr => hs' r (List.mem_cons_of_mem _ hr))
      obtain ⟨E2, Lb, R2, g1, g2, g3⟩ := stAll_of R1 vs' (fun r hr => hs r (List.mem_cons_of_mem _ hr)) e2
      refine ⟨E2, Lb, R2, fun a z => h1 a (g1 a z), fun a z => ?_, by rw [List.length_cons, List.length_cons, g3]⟩
      rcases g2 a z with z | z
      · exact h2 a z
      · exact .inr (h1 a z)
  | [], _ :: _, _, _, _, _, _, _, _, _, _, e => by cases e
  | _ :: _, [], _, _, _, _, _, _, _, _, _, e => by cases e
end
section
variable {K : Fg} {D : Ends} {σ : L2.St} {H : Hp} {f : ED} {t : AD} {c : TD} {g h : SD}
theorem rs_nil (h : RS K nilS D σ H) : tNext D σ H := by
  obtain ⟨P, B, L, ρ, o, R, e, k⟩ := h
  cases e
  exact k σ H L R .refl
theorem rs_seq (hh : RS K (seqS g h) D σ H) : tSeq (RS K g) (RS K h) D σ H := by
  obtain ⟨P, B, L, ρ, o, R, e, k⟩ := hh
  obtain ⟨o1, e1, e2⟩ := Option.bind_eq_some_iff.mp e
  refine ⟨P, B, L, ρ, o1, R, e1, ?_⟩
  cases o1 with
  | nx ρ1 => exact fun σ' H' L' R' s' => ⟨P, B, L', ρ1, o, R', e2, k.after s'⟩
  | ct ρ1 => cases e2; exact k
  | bk ρ1 => cases e2; exact k
  | rt r ρ1 => cases e2; exact k
theorem Post.toStep {P B L L' E' : List Addr} {ρ' : DL.Env} {H' : Hp} (p : Post K P B L σ H [] ρ' H' L' E') : Rep K P B L' σ ρ' H' := p.rep.drop
theorem rs_if (hh : RS K (ifS c g h) D σ H) : tIfS (RT K c) (RS K g) (RS K h) D σ H := by
  obtain ⟨P, B, L, ρ, o, R, e, k⟩ := hh
  obtain ⟨⟨b, ρ1⟩, e1, e2⟩ := Option.bind_eq_some_iff.mp e
  refine ⟨P, B, L, ρ, b, ρ1, R, e1, fun H1 La Ea p1 => ?_⟩
  cases b with
  | true => rw [if_pos rfl]; exact ⟨P, B, La, ρ1, o, p1.toStep, by simpa using e2, k.after p1.step⟩
  | false => rw [if_neg Bool.false_ne_true]; exact ⟨P, B, La, ρ1, o, p1.toStep, by simpa using e2, k.after p1.step⟩
theorem rs_ret (hh : RS K (retS f) D σ H) : tRet (RD K f) D σ H := by
  obtain ⟨P, B, L, ρ, o, R, e, k⟩ := hh
  obtain ⟨⟨r, ρ1⟩, e1, e2⟩ := Option.bind_eq_some_iff.mp e
  cases e2
  exact ⟨P, B, L, ρ, r, ρ1, R, e1, fun x H' L' E' p v => k σ x H' L' E' p.rep p.step (fun a z => (p.esub a z).elim (fun q => nomatch q) id) v⟩
theorem rs_drop (hh : RS K (dropS f) D σ H) : tDrop (RD K f) D σ H := by
  obtain ⟨P, B, L, ρ, o, R, e, k⟩ := hh
  obtain ⟨⟨r, ρ1⟩, e1, e2⟩ := Option.bind_eq_some_iff.mp e
  cases e2
  exact ⟨P, B, L, ρ, r, ρ1, R, e1, fun x H' L' E' p v => k σ H' L' p.toStep p.step⟩
theorem step_more {B L L1 L2 E : List Addr} {H H1 : Hp} (s : Step B L H L1 H1) (he : ∀ a ∈ E, a ∈ ([] : List Addr) ∨ H a = none) (hl : ∀ a ∈ L2, a ∈ L1 ∨ a ∈ E) : Step B L H L2 H1 :=
  ⟨s.keep, fun a z => (hl a z).elim (s.lsub a) fun z => (he a z).elim (fun q => nomatch q) .inr, s.ne⟩
theorem rs_set {i : Nat} (hh : RS K (setS i f) D σ H) : tAsg (RD K f) (gName i) D σ H := by
  obtain ⟨P, B, L, ρ, o, R, e, k⟩ := hh
  obtain ⟨⟨r, ρ1⟩, e1, e2⟩ := Option.bind_eq_some_iff.mp e
  obtain ⟨ρ2, e3, e4⟩ := Option.map_eq_some_iff.mp e2
  subst e4
  refine ⟨P, B, L, ρ, r, ρ1, R, e1, fun x H' L' E' p v => ?_⟩
  obtain ⟨E2, Lb, R2, h1, h2, _⟩ := stV_of p.rep v e3
  exact k _ H' Lb R2.drop (step_more p.step p.esub h2)
theorem rs_aug {i : Nat} {w : Int → Int → Int} (hh : RS K (augS i f w) D σ H) : tAug i (RD K f) (ipI w) D σ H := by
  obtain ⟨P, B, L, ρ, o, R, e, k⟩ := hh
  have q := R.ok i
  unfold augS at e
  revert q e
  generalize ρ.getD i .no = c
  intro e q
  cases c with
  | cl d =>
    cases d with
    | int a =>
      obtain ⟨v0, e0, h0⟩ := q
      cases h0
      obtain ⟨⟨r, ρ1⟩, e1, e2⟩ := Option.bind_eq_some_iff.mp e
      refine ⟨.int a, e0, P, B, L, ρ, r, ρ1, R, e1, fun x H' L' E' p v => ?_⟩
      cases r with
      | cl d2 =>
        cases d2 <;> simp at e2
        subst e2
        exact ⟨a, _, rfl, v.int, k _ H' L' (p.toStep.setCl i (.int _)) p.step⟩
      | _ => simp at e2
    | _ => simp at e
  | _ => simp at e
end
section
variable {X : Cx} {tl : TL} {st : Stmt} {rest : List Stmt} {a b c : Expr} {f : ED} {t : AD} {q : TD} {g h : SD} {pos : Pos}
theorem s_nil : PSs X [] (RS (X.D tl) nilS) := pss_nil.imp fun _ _ _ h => rs_nil h
theorem s_cons (h1 : PS X st (RS (X.D tl) g)) (h2 : PSs X rest (RS (X.D tl) h)) : PSs X (st :: rest) (RS (X.D tl) (seqS g h)) := (pss_cons h1 h2).imp fun _ _ _ h => rs_seq h
theorem s_one (h1 : PS X st (RS (X.D tl) g)) : PSs X [st] (RS (X.D tl) g) := pss_one h1
theorem s_if {x y : List Stmt} (hc : PT X c (RT (X.D tl) q)) (h1 : PSs X x (RS (X.D tl) g)) (h2 : PSs X y (RS (X.D tl) h)) : PS X (.If c x y pos) (RS (X.D tl) (ifS q g h)) := (ps_if hc h1 h2).imp fun _ _ _ h => rs_if h
theorem s_ret (h : PE X a (RD (X.D tl) f)) : PS X (.Return (some a) pos) (RS (X.D tl) (retS f)) := (ps_ret h).imp fun _ _ _ h => rs_ret h
theorem s_expr (h : PE X a (RD (X.D tl) f)) (hs : swapsWith a none pos.line X.env = pure false := by rfl) : PS X (.Expr a pos) (RS (X.D tl) (dropS f)) := (ps_expr h hs).imp fun _ _ _ h => rs_drop h
theorem s_set (i : Nat) {x : Str} {pos' : Pos} (he : PE X a (RD (X.D tl) f)) (hN : X.N.Nodup) (hi : X.N[i]? = some x := by rfl) (hx : Loc X.env.scope x := by first | exact Or.inl rfl | exact Or.inr rfl) (hs : swapsWith a (some (.Name x pos')) pos.line X.env = pure false := by rfl) (hf : X.fn x = true ∨ X.env.scope.names.lookup x = some .local := by first | exact .inl rfl | exact .inr rfl) :
    PS X (.Assign [.Name x pos'] a pos) (RS (X.D tl) (setS i f)) := (ps_set hN hi hx he hs hf).imp fun _ _ _ h => rs_set h
theorem s_aug (i : Nat) {x : Str} {op : Operator} {w : Int → Int → Int} {pos' : Pos} (ho : PIp X op (ipI w)) (he : PE X a (RD (X.D tl) f)) (hN : X.N.Nodup) (hi : X.N[i]? = some x := by rfl) (hx : Loc X.env.scope x := by first | exact Or.inl rfl | exact Or.inr rfl) (hf : X.fn x = true ∨ X.env.scope.names.lookup x = some .local := by first | exact .inl rfl | exact .inr rfl) :
    PS X (.AugAssign (.Name x pos') op a pos) (RS (X.D tl) (augS i f w)) := (ps_aug hN hi hx he ho hf).imp fun _ _ _ h => rs_aug h
end
end DL
end
noncomputable section
namespace DL
open PySem PySem.Spec PyProof.Rows L2
def opAt (ρ : DL.Env) (j : Nat) : Option (Bool × List PyData) := match ρ.getD j .no with
  | .op ds => some (true, ds)
  | .pm ds => some (false, ds)
  | _ => none
def opSet (ρ : DL.Env) (j : Nat) (k : Bool) (ds : List PyData) : DL.Env := ρ.set j (if k = true then .op ds else .pm ds)
section
variable {K : Fg} {P B L E : List Addr} {σ : L2.St} {ρ ρ' : DL.Env} {H : Hp} {x : V} {r : Val}
theorem opAt_of {j : Nat} {k : Bool} {ds : List PyData} (R : Rep K P B L σ ρ H) (e : opAt ρ j = some (k, ds)) :
    ∃ a vs, σ[j]? = some (some (V.ref a)) ∧ a ∈ B ++ L ∧ (if k = true then a ∈ L else a ∈ B) ∧ H a = some (.lst vs) ∧ DqA K H (P ++ B ++ L) vs ds ∧ j < ρ.length := by
  have q := R.ok j
  have hj : ρ.getD j .no ≠ .no → j < ρ.length := fun z => by
    by_cases h : j < ρ.length
    · exact h
    · rw [List.getD_eq_getElem?_getD, List.getElem?_eq_none (Nat.le_of_not_lt h)] at z
      exact absurd rfl z
  unfold opAt at e
  revert q e hj
  generalize ρ.getD j .no = c
  intro e q hj
  cases c with
  | op es =>
    cases e
    obtain ⟨a, vs, e1, h1, h2, h3⟩ := q
    exact ⟨a, vs, e1, List.mem_append_right _ h1, h1, h2, h3, hj (fun z => nomatch z)⟩
  | pm es =>
    cases e
    obtain ⟨a, vs, e1, h1, h2, h3⟩ := q
    exact ⟨a, vs, e1, List.mem_append_left _ h1, h1, h2, h3, hj (fun z => nomatch z)⟩
  | _ => cases e
theorem opAt_open {j : Nat} {k : Bool} {ds : List PyData} (e : opAt ρ j = some (k, ds)) : (ρ.getD j .no).isOpen = true := by
  unfold opAt at e
  revert e
  generalize ρ.getD j .no = c
  intro e
  cases c with
  | op es => rfl
  | pm es => rfl
  | _ => cases e
theorem keep_wrD {a : Addr} {o u0 : HO} (hh : H a = some u0) (ou : OwnO u0) : Keep [a] H (upd H a o) := ⟨fun b u e hb _ => by
  rw [upd_ne (by simpa using hb)]; exact e, fun T t p hp => TabS.extB (t p hp) fun b u e z => by
  have hb : b ≠ a := fun q => by
    subst q
    rw [hh] at e
    cases e
    rcases z with ⟨ps, z⟩ | ⟨c, q, z⟩
    · exact ou.ntbl ps z
    · exact ou.ncode z
  rw [upd_ne hb]; exact e, fun b h => by
  by_cases q : b = a
  · rw [q, upd_same]; exact fun z => nomatch z
  · rw [upd_ne q]; exact h⟩
theorem keep_wr {a : Addr} {o : HO} {us : List V} (hh : H a = some (.lst us)) : Keep [a] H (upd H a o) := keep_wrD hh (.lst us)
/-- the list of slot j is written -/
theorem Rep.write {j : Nat} {k : Bool} {ds ds' : List PyData} {a : Addr} {vs' : List V} (R : Rep K P B L σ ρ H) (e : opAt ρ j = some (k, ds)) (ea : σ[j]? = some (some (V.ref a))) (d : DqA K H (P ++ B ++ L) vs' ds') :
    Rep K P B L σ (opSet ρ j k ds') (upd H a (.lst vs')) ∧ Step B L H L (upd H a (.lst vs')) ∧ ∀ {E' P' : List Addr} {y : V} {s : Val}, P = E' ++ P' → VR K E' P' B L σ H y s → VR K E' P' B L σ (upd H a (.lst vs')) y s := by
  obtain ⟨a', vs, e1, hm, hk, hh, dq, hj⟩ := opAt_of R e
  rw [ea] at e1
  cases e1
  have hop := opAt_open e
  have hP : ∀ b ∈ P, b ≠ a := fun b hb z => by
    have q := R.nd.1 b hb
    rcases List.mem_append.mp hm with y | y
    · exact q.1 (z ▸ y)
    · exact q.2 (z ▸ y)
  have hW : a ∈ P ++ B ++ L := mem3.mpr (.inr (List.mem_append.mp hm))
  have hl : Lists H [a] := fun b z => ⟨_, by rw [show b = a by simpa using z]; exact hh, .lst vs⟩
  have hs : ∀ b ∈ [a], b ∈ P ++ B ++ L := fun b z => (show b = a by simpa using z) ▸ hW
  have mv : ∀ {v : V} {d : PyData}, Dq K H (P ++ B ++ L) v d → Dq K (upd H a (.lst vs')) (P ++ B ++ L) v d := fun h => h.move hl hs (keep_wr hh) fun b z => .inl z
  have mvA : ∀ {v : List V} {d : List PyData}, DqA K H (P ++ B ++ L) v d → DqA K (upd H a (.lst vs')) (P ++ B ++ L) v d := fun h => h.move hl hs (keep_wr hh) fun b z => .inl z
  refine ⟨⟨by rw [opSet, List.length_set]; exact R.len, fun b hb => ?_, R.nd, fun i => ?_, fun i i2 b hi h1 h2 => ?_, (keep_wr hh).tab _ R.tabs⟩, ⟨(keep_wr hh).mono fun b z => (show b = a by simpa using z) ▸ hm, fun b z => .inl z, fun b z => ?_⟩, fun {E' P' y s} eP v => ?_⟩
  · by_cases z : b = a
    · exact ⟨_, by rw [z]; exact upd_same, .lst vs'⟩
    · obtain ⟨us, q, ou⟩ := R.wl b hb
      exact ⟨us, by rw [upd_ne z]; exact q, ou⟩
  · unfold opSet
    rw [getD_set]
    by_cases hi : j = i
    · subst hi
      rw [if_pos ⟨rfl, hj⟩]
      cases k with
      | true => exact ⟨a, vs', ea, hk, upd_same, mvA d⟩
      | false => exact ⟨a, vs', ea, hk, upd_same, mvA d⟩
    · rw [if_neg fun z => hi z.1]
      have q := R.ok i
      have inj := R.inj j i a hi hop
      revert q inj
      generalize ρ.getD i .no = c
      intro q inj
      cases c with
      | no => trivial
      | cl d => obtain ⟨v, e2, h⟩ := q; exact ⟨v, e2, mv h⟩
      | op fs =>
        obtain ⟨b, us, e2, h1, h2, h3⟩ := q
        exact ⟨b, us, e2, h1, by rw [upd_ne fun z => inj rfl ea (by rw [← z]; exact e2)]; exact h2, mvA h3⟩
      | pm fs =>
        obtain ⟨b, us, e2, h1, h2, h3⟩ := q
        exact ⟨b, us, e2, h1, by rw [upd_ne fun z => inj rfl ea (by rw [← z]; exact e2)]; exact h2, mvA h3⟩
      | dk t fs =>
        obtain ⟨b, us, e2, h1, h2, h3⟩ := q
        exact ⟨b, us, e2, h1, by rw [upd_ne fun z => inj rfl ea (by rw [← z]; exact e2)]; exact h2, h3.move hl hs (keep_wr hh) fun b z => .inl z⟩
  · have t : ∀ m, ((opSet ρ j k ds').getD m .no).isOpen = true → (ρ.getD m .no).isOpen = true := fun m z => by
      unfold opSet at z
      rw [getD_set] at z
      by_cases hm : j = m ∧ j < ρ.length
      · rw [← hm.1]; exact hop
      · rwa [if_neg hm] at z
    exact R.inj i i2 b hi (t i h1) (t i2 h2)
  · by_cases q : b = a
    · rw [q, upd_same]; exact fun y => nomatch y
    · rw [upd_ne q]; exact z
  · subst eP
    cases s with
    | cl d => exact mv v
    | own es =>
      obtain ⟨b, us, e1, h1, h2, h3, h4⟩ := v
      exact ⟨b, us, e1, h1, h2, by rw [upd_ne (hP b (List.mem_append_left _ h1))]; exact h3, mvA h4⟩
    | sl i => exact v
end
/-- x.m(..) for a list in slot j: what it does to the list, what it answers -/
abbrev MG := DL.Env → List PyData → List Val → Option (Val × List PyData × DL.Env)
def metD (j : Nat) (t : AD) (g : MG) : ED := fun ρ => match opAt ρ j with
  | none => none
  | some _ => (t ρ).bind fun p => match opAt p.2 j with
    | some (_, ds) => (g p.2 ds p.1).bind fun q => match opAt q.2.2 j with
      | some (k, _) => some (q.1, opSet q.2.2 j k q.2.1)
      | none => none
    | none => none
def appG : MG := fun ρ ds rs => match rs with
  | [r] => (psV ρ r).bind fun p => if ds.length < lim then some (.cl .none, ds ++ [p.1], p.2) else none
  | _ => none
def insG : MG := fun ρ ds rs => match rs with
  | [.cl (.int i), r] => (psV ρ r).bind fun p => if ds.length < lim ∧ 0 ≤ i ∧ i ≤ lim then some (.cl .none, ds.take i.toNat ++ [p.1] ++ ds.drop i.toNat, p.2) else none
  | _ => none
def extG : MG := fun ρ ds rs => match rs with
  | [r] => match seqOf ρ r with
    | some (true, es) => if ds.length + es.length ≤ lim then some (.cl .none, ds ++ es, ρ) else none
    | _ => none
  | _ => none
/-- what a list's method asks of its rule -/
def LocM (K : Fg) (R : V → List V → Hp → VK → Prop) (g : MG) : Prop :=
  ∀ {E P B L : List Addr} {σ : L2.St} {ρ ρ' : DL.Env} {H : Hp} {l : Addr} {us : List V} {ds ds' : List PyData} {xs : List V} {rs : List Val} {r : Val}, Rep K (E ++ P) B L σ ρ H → VRs K E P B L σ H xs rs → H l = some (.lst us) → DqA K H (E ++ P ++ B ++ L) us ds → g ρ ds rs = some (r, ds', ρ') →
    ∃ us' y E' L', Rep K (E' ++ P) B L' σ ρ' H ∧ (∀ a ∈ E', a ∈ E) ∧ (∀ a ∈ L', a ∈ L) ∧ DqA K H (E' ++ P ++ B ++ L') us' ds' ∧ VR K E' P B L' σ H y r ∧ ∀ Q : VK, Q y (upd H l (.lst us')) → R (.ref l) xs H Q
section
variable {X : Cx} {tl : TL} {x : Str} {a : Expr} {es : List Expr} {t : AD} {pos apos cpos : Pos}
theorem met_core {j : Nat} {R : V → List V → Hp → VK → Prop} {g : MG} (loc : LocM (X.D tl) R g) {P B L La Ea : List Addr} {ρ1 ρ' : DL.Env} {σ : L2.St} {H H1 : Hp} {Q : VK} {rs : List Val} {r : Val} {xs : List V} {l : Addr} {us0 : List V}
    (el : σ[j]? = some (some (V.ref l))) (p1 : Post (X.D tl) P B L σ H [] ρ1 H1 La Ea) (v1 : VRs (X.D tl) Ea P B La σ H1 xs rs) (k : Cont (X.D tl) P B L σ H [] ρ' r Q)
    (e : (match opAt ρ1 j with
    | some (_, ds) => (g ρ1 ds rs).bind fun q => match opAt q.2.2 j with
      | some (k, _) => some (q.1, opSet q.2.2 j k q.2.1)
      | none => none
    | none => none) = some (r, ρ')) : R (.ref l) xs H1 Q := by
  split at e
  · rename_i kk ds e2
    obtain ⟨⟨r', ds', ρ2⟩, e3, e⟩ := Option.bind_eq_some_iff.mp e
    simp only at e
    split at e
    · rename_i k2 ds2 e4
      cases e
      obtain ⟨l', us, el', _, _, hl, dq, _⟩ := opAt_of p1.rep e2
      rw [el] at el'
      cases el'
      obtain ⟨us', y, E', L', R', es', ls', d', vy, hr⟩ := loc p1.rep v1 hl dq e3
      obtain ⟨R2, s2, hv⟩ := R'.write e4 el d'
      refine hr Q (k _ _ L' E' ⟨R2, (p1.step.trans (Post.less (K := (X.D tl)) R' es' ls').step).trans s2, fun a z => p1.esub a (es' a z)⟩ (hv rfl vy))
    · cases e
  · cases e
theorem met_imp {j : Nat} {R : V → List V → Hp → VK → Prop} {g : MG} (loc : LocM (X.D tl) R g) {σ : L2.St} {H : Hp} {Q : VK} (h : RD (X.D tl) (metD j t g) σ H Q) : tBM (X.D tl) "list" R (tVar j) (RA (X.D tl) t) σ H Q := by
  obtain ⟨P, B, L, ρ, r, ρ', R0, e, k⟩ := h
  unfold metD at e
  split at e
  · cases e
  · rename_i p0 e0
    obtain ⟨k0, ds0⟩ := p0
    obtain ⟨⟨rs, ρ1⟩, e1, e⟩ := Option.bind_eq_some_iff.mp e
    obtain ⟨l, us0, el, _, _, hl0, _, _⟩ := opAt_of R0 e0
    exact ⟨.ref l, el, .inl ⟨rfl, us0, .of hl0⟩, P, B, L, ρ, rs, ρ1, R0, e1, fun xs H1 La Ea p1 v1 => met_core loc el p1 v1 k e (us0 := us0)⟩
theorem vrs_one {K : Fg} {E P B L : List Addr} {σ : L2.St} {H : Hp} {xs : List V} {r : Val} (v : VRs K E P B L σ H xs [r]) : ∃ x, xs = [x] ∧ VR K E P B L σ H x r := by
  cases v with
  | cons v1 _ vs =>
    cases vs
    exact ⟨_, rfl, v1⟩
theorem locM_app {K : Fg} : LocM K rAppend appG := by
  intro E P B L σ ρ ρ' H l us ds ds' xs rs r R v hl dq e
  have ll := lim_line
  unfold appG at e
  split at e
  · rename_i r1
    obtain ⟨⟨d, ρ1⟩, e1, e⟩ := Option.bind_eq_some_iff.mp e
    simp only at e
    split at e
    · rename_i hz
      cases e
      obtain ⟨x, rfl, v1⟩ := vrs_one v
      obtain ⟨E', L', p, _⟩ := psd_of R v1 e1
      refine ⟨us ++ [x], .non, E', L', p.rep, p.es, p.ls, (DqA.sub (fun b z => ?_) dq).append (.cons p.dq .nil), Dq.non, fun Q q => ⟨l, us, x, rfl, rfl, hl, ?_, q⟩⟩
      · rcases mem4.mp z with z | z | z | z
        · exact mem4.mpr (.inl (p.es b z))
        · exact mem4.mpr (.inr (.inl z))
        · exact mem4.mpr (.inr (.inr (.inl z)))
        · exact mem4.mpr (.inr (.inr (.inr (p.ls b z))))
      · rw [dq.length]; omega
    · cases e
  · cases e
theorem locM_ins {K : Fg} : LocM K (fun x vs H Q => ∃ (l : Addr) (xs : List V) (i : Int) (y : V), x = .ref l ∧ vs = [.int i, y] ∧ H l = some (.lst xs) ∧ xs.length < sizeLine ∧ 0 ≤ i ∧ i < 2 ^ 63 ∧ Q .non (upd H l (.lst (xs.take i.toNat ++ [y] ++ xs.drop i.toNat)))) insG := by
  intro E P B L σ ρ ρ' H l us ds ds' xs rs r R v hl dq e
  have ll := lim_line
  unfold insG at e
  split at e
  · rename_i i r1
    obtain ⟨⟨d, ρ1⟩, e1, e⟩ := Option.bind_eq_some_iff.mp e
    simp only at e
    split at e
    · rename_i hz
      cases e
      cases v with
      | cons v0 _ v =>
        obtain ⟨x, rfl, v1⟩ := vrs_one v
        obtain ⟨E', L', p, _⟩ := psd_of R v1 e1
        have hs : ∀ b ∈ E' ++ P ++ B ++ L', b ∈ E ++ P ++ B ++ L := fun b z => by
          rcases mem4.mp z with z | z | z | z
          · exact mem4.mpr (.inl (p.es b z))
          · exact mem4.mpr (.inr (.inl z))
          · exact mem4.mpr (.inr (.inr (.inl z)))
          · exact mem4.mpr (.inr (.inr (.inr (p.ls b z))))
        have dq' := DqA.sub hs dq
        rw [v0.int]
        have hl2 : (lim : Int) < 2 ^ 63 := by rw [lim_eq]; decide
        refine ⟨us.take i.toNat ++ [x] ++ us.drop i.toNat, .non, E', L', p.rep, p.es, p.ls, ((dq'.take _).append (.cons p.dq .nil)).append (dq'.drop _), Dq.non, fun Q q => ⟨l, us, i, x, rfl, rfl, hl, ?_, hz.2.1, by have := hz.2.2; omega, q⟩⟩
        rw [dq.length]; have := hz.1; omega
    · cases e
  · cases e
theorem locM_ext {K : Fg} : LocM K rExtend extG := by
  intro E P B L σ ρ ρ' H l us ds ds' xs rs r R v hl dq e
  have ll := lim_line
  unfold extG at e
  split at e
  · rename_i r1
    split at e
    · rename_i es e1
      split at e
      · rename_i hz
        cases e
        obtain ⟨x, rfl, v1⟩ := vrs_one v
        obtain ⟨b, ws, rfl, h2, d2⟩ := v1.list R e1
        refine ⟨us ++ ws, .non, E, L, R, fun _ z => z, fun _ z => z, dq.append d2, Dq.non, fun Q q => ⟨l, b, us, ws, rfl, rfl, hl, h2, ?_, q⟩⟩
        rw [dq.length, d2.length]; omega
      · cases e
    · cases e
  · cases e
theorem d_met {T id : String} {name : Str} (j : Nat) {R : V → List V → Hp → VK → Prop} {g : MG} {px : Pos} (slot : Slot "list" name id) (hty : typeOf (.builtin id) = pure (.type "method_descriptor")) (hm : MtR X id R) (loc : LocM (X.D tl) R g) (ha : PA X (a :: es) (RA (X.D tl) t))
    (hN : X.N[j]? = some x := by rfl) (hv : Vis X.env.scope x := by first | exact Or.inl rfl | exact Or.inr (Or.inl rfl) | exact Or.inr (Or.inr rfl)) (hd : (x == ("__debug__" : Str)) = false := by decide) (hcd : (x == ("__classdict__" : Str)) = false := by decide)
    (hbase : attributeBase (.Name x px) name X.env (eval (.Name x px) X.env) = eval (.Name x px) X.env := by rfl)
    (hfew : ((backTo cpos (starEach (a :: es) X.env)).all (fun x => !x.1) && (backToKw cpos (keywordEach [] X.env)).all (fun x => x.1.isSome) && decide ((a :: es).length + ([] : List Keyword).length + (if ([] : List Keyword).isEmpty then 0 else 1) < 30)) = true := by rfl)
    (hline : (apos.endLine == cpos.line) = true := by rfl) (hs : starEach (a :: es) X.env = (false, eval a X.env) :: starEach es X.env := by rfl) (hplain : (backTo cpos (starEach es X.env)).any (·.1) = false := by rfl) :
    PE X (.Call (.Attribute (.Name x px) name apos) (a :: es) [] cpos) (RD (X.D tl) (metD j t g)) :=
  (pe_bm PySem.F.plainAttrs_list slot hty hm (pe_var hN hv hd hcd) ha hbase hfew hline hs hplain).imp fun _ _ _ h => met_imp loc h
end
def setIx (j : Nat) (fi f : ED) : SD := fun ρ => (f ρ).bind fun p => (opAt p.2 j).bind fun _ => (fi p.2).bind fun q => match q.1 with
  | .cl (.int i) => (psV q.2 p.1).bind fun s => match opAt s.2 j with
    | some (k, ds) => (ixN ds.length i).bind fun m => some (.nx (opSet s.2 j k (ds.set m s.1)))
    | none => none
  | _ => none
def augIx (j : Nat) (fi f : ED) (g : Int → Int → Int) : SD := fun ρ => (opAt ρ j).bind fun _ => (fi ρ).bind fun q => match q.1 with
  | .cl (.int i) => match opAt q.2 j with
    | some (_, ds0) => match atI ds0 i with
      | some (.int b) => (f q.2).bind fun p => match p.1 with
        | .cl (.int c) => match opAt p.2 j with
          | some (k, ds) => (ixN ds.length i).bind fun m => some (.nx (opSet p.2 j k (ds.set m (.int (g b c)))))
          | none => none
        | _ => none
      | _ => none
    | none => none
  | _ => none
section
variable {X : Cx} {tl : TL} {x : Str} {a b : Expr} {fi f : ED} {pos : Pos}
theorem get_list : PGet X (rIxL (X.D tl)) := by
  intro pins s σ H o i ov iv Q I ro ri h
  obtain ⟨p, xs, k, z, rfl, rfl, hq, he, q⟩ := h
  cases ro
  obtain ⟨t, rfl⟩ := ri
  obtain ⟨its, r, pl, hz⟩ := I.list hq
  obtain ⟨j, h1, h2, h3, h4, h5⟩ := atI_get he
  obtain ⟨w, ew, rw'⟩ := r.get h2
  have hl := r.length
  have hn := line63
  have fin : EP X pins σ Q w s := ⟨z, H, I, rw', q⟩
  by_cases h0 : 0 ≤ k
  · have hj : k.toNat = j := by
      have := h1
      rw [seqIndex_of h0 h5] at this
      exact Option.some.inj this
    refine wpAny_getItem_list pl.isList h0 (by omega) (x := w) (by rw [hj]; simpa using ew) fin
  · have hj : (k + (its.toArray.size : Int)).toNat = j := by
      have := h1
      rw [seqIndex_neg (by omega) h4] at this
      rw [List.size_toArray, ← hl]
      exact Option.some.inj this
    exact wpAny_getItem_list_neg pl.isList (by omega) (by rw [List.size_toArray] <;> omega) (by omega) (x := w) (by rw [hj]; simpa using ew) fin
theorem ix_imp {j : Nat} {D : Ends} {σ : L2.St} {H : Hp} (h : RS (X.D tl) (setIx j fi f) D σ H) : tAsg (RD (X.D tl) f) (gSub (tVar j) (RD (X.D tl) fi) rSetL) D σ H := by
  obtain ⟨P, B, L, ρ, o, R0, e, k⟩ := h
  obtain ⟨⟨r, ρ1⟩, e1, e⟩ := Option.bind_eq_some_iff.mp e
  obtain ⟨⟨k0, ds0⟩, e0, e⟩ := Option.bind_eq_some_iff.mp e
  obtain ⟨⟨ri, ρ2⟩, e2, e⟩ := Option.bind_eq_some_iff.mp e
  simp only at e
  split at e
  · rename_i i
    obtain ⟨⟨d, ρ3⟩, e3, e⟩ := Option.bind_eq_some_iff.mp e
    simp only at e
    split at e
    · rename_i kk ds e4
      obtain ⟨m, e5, e⟩ := Option.bind_eq_some_iff.mp e
      cases e
      refine ⟨P, B, L, ρ, r, ρ1, R0, e1, fun v H1 La Ea p1 v1 => ?_⟩
      obtain ⟨l, us0, el, _⟩ := opAt_of p1.rep e0
      refine ⟨V.ref l, el, Ea ++ P, B, La, ρ1, _, ρ2, p1.rep, e2, fun iv H2 Lb Eb p2 v2 => ?_⟩
      have p := p1.two p2
      obtain ⟨E', L', q, _⟩ := psd_of p.rep (v1.later p1.rep p2) e3
      obtain ⟨l', us, el', _, _, hl, dq, _⟩ := opAt_of q.rep e4
      rw [el] at el'
      cases el'
      obtain ⟨R2, s2, _⟩ := q.rep.write e4 el (dq.set q.dq m)
      refine ⟨l, us, i, m, rfl, v2.int, hl, by rw [dq.length]; exact e5, k σ _ L' R2.drop ((p.step.trans (Post.less (K := (X.D tl)) q.rep q.es q.ls).step).trans s2)⟩
    · cases e
  · cases e
theorem s_setIx (j : Nat) {px : Pos} {y : Pos} (he : PE X a (RD (X.D tl) f)) (hi : PE X b (RD (X.D tl) fi))
    (hN : X.N[j]? = some x := by rfl) (hv : Vis X.env.scope x := by first | exact Or.inl rfl | exact Or.inr (Or.inl rfl) | exact Or.inr (Or.inr rfl)) (hd : (x == ("__debug__" : Str)) = false := by decide) (hcd : (x == ("__classdict__" : Str)) = false := by decide)
    (ha : ∀ v, assign (.Subscript (.Name x px) b y) X.env v = (do
      let ov ← holding [v] (eval (.Name x px) X.env)
      let iv ← holding [v, ov] (eval b X.env)
      standAt y
      holding [v, ov, iv] (setItem ov iv v)
      release [v, ov, iv] []) := by intro _; rfl)
    (hs : swapsWithSole [.Subscript (.Name x px) b y] a pos.line X.env = pure false := by rfl) (hw : swappedStores [.Subscript (.Name x px) b y] a X.env = pure none := by rfl)
    (h1 : (assignEach [.Subscript (.Name x px) b y] X.env).map (·.2) = [assign (.Subscript (.Name x px) b y) X.env] := by rfl) :
    PS X (.Assign [.Subscript (.Name x px) b y] a pos) (RS (X.D tl) (setIx j fi f)) :=
  (ps_asg he (pg_sub (pe_var hN hv hd hcd) hi set_list ha) hs hw h1).imp fun _ _ _ h => ix_imp h
theorem aug_imp {j : Nat} {w : Int → Int → Int} {D : Ends} {σ : L2.St} {H : Hp} (h : RS (X.D tl) (augIx j fi f w) D σ H) : tAugS (tVar j) (RD (X.D tl) fi) (RD (X.D tl) f) (rIxL (X.D tl)) (ipI w) rSetL D σ H := by
  obtain ⟨P, B, L, ρ, o, R0, e, k⟩ := h
  obtain ⟨⟨k0, ds00⟩, e0, e⟩ := Option.bind_eq_some_iff.mp e
  obtain ⟨⟨ri, ρ1⟩, e1, e⟩ := Option.bind_eq_some_iff.mp e
  simp only at e
  split at e
  · rename_i i
    split at e
    · rename_i kx ds0 e2
      split at e
      · rename_i b e3
        obtain ⟨⟨r, ρ2⟩, e4, e⟩ := Option.bind_eq_some_iff.mp e
        simp only at e
        split at e
        · rename_i c
          split at e
          · rename_i kk ds e5
            obtain ⟨m, e6, e⟩ := Option.bind_eq_some_iff.mp e
            cases e
            obtain ⟨l, us0, el, _⟩ := opAt_of R0 e0
            refine ⟨V.ref l, el, P, B, L, ρ, _, ρ1, R0, e1, fun iv H1 La Ea p1 v1 => ?_⟩
            obtain ⟨l', us1, el', _, _, hl1, dq1, _⟩ := opAt_of p1.rep e2
            rw [el] at el'
            cases el'
            obtain ⟨z, ez, hz⟩ := atI_dq dq1 e3
            cases hz
            refine ⟨l, us1, i, .int b, rfl, v1.int, .of hl1, ez, Ea ++ P, B, La, ρ1, _, ρ2, p1.rep, e4, fun cv H2 Lb Eb p2 v2 => ?_⟩
            have p := p1.two p2
            obtain ⟨l', us, el', _, _, hl, dq, _⟩ := opAt_of p.rep e5
            rw [el] at el'
            cases el'
            obtain ⟨R2, s2, _⟩ := p.rep.write e5 el (dq.set (.int (w b c)) m)
            refine ⟨b, c, rfl, v2.int, l, us, i, m, rfl, v1.int, hl, by rw [dq.length]; exact e6, k σ _ Lb R2.drop (p.step.trans s2)⟩
          · cases e
        · cases e
      · cases e
    · cases e
  · cases e
theorem s_augIx (j : Nat) {op : Operator} {w : Int → Int → Int} {px y : Pos} (hp : PIp X op (ipI w)) (hi : PE X b (RD (X.D tl) fi)) (he : PE X a (RD (X.D tl) f))
    (hN : X.N[j]? = some x := by rfl) (hv : Vis X.env.scope x := by first | exact Or.inl rfl | exact Or.inr (Or.inl rfl) | exact Or.inr (Or.inr rfl)) (hd : (x == ("__debug__" : Str)) = false := by decide) (hcd : (x == ("__classdict__" : Str)) = false := by decide)
    (ha : ∀ ov iv new, augStore b ov iv new = (do holding [new, ov, iv] (setItem ov iv new); release [new, ov, iv] []; pure .next) := by intros; rfl) :
    PS X (.AugAssign (.Subscript (.Name x px) b y) op a pos) (RS (X.D tl) (augIx j fi f w)) :=
  (ps_augS (pe_var hN hv hd hcd) hi get_list he hp set_list ha).imp fun _ _ _ h => aug_imp h
end
end DL
end
noncomputable section
namespace DL
open PySem PySem.Spec PyProof.Rows L2
abbrev GD := DL.Env → PyData → Option DL.Env
def nameT (i : Nat) : GD := fun ρ d => some (ρ.set i (.cl d))
def setCls (ρ : DL.Env) (is : List Nat) (ds : List PyData) : DL.Env := (is.zip ds).foldl (fun ρ p => ρ.set p.1 (.cl p.2)) ρ
def tupT (is : List Nat) : GD := fun ρ d => match d with
  | .tuple ds => if ds.length = is.length then some (setCls ρ is ds) else none
  | _ => none
def RG (K : Fg) (is : List Nat) (tg : GD) : TG := fun v σ H Q => ∃ P B L ρ d ρ', Rep K P B L σ ρ H ∧ Dq K H (P ++ B ++ L) v d ∧ tg ρ d = some ρ' ∧ ∀ σ' : L2.St, σ'.length = σ.length → (∀ k, k ∉ is → σ'[k]? = σ[k]?) → Rep K P B L σ' ρ' H → Q σ' H
theorem _root_.L2.PG.imp {X : Cx} {e : Expr} {t t' : TG} (p : PG X e t) (h : ∀ v σ H Q, t' v σ H Q → t v σ H Q) : PG X e t' := ⟨fun pins s σ H v u Q I r q => p.run pins s σ H v u Q I r (h v σ H Q q)⟩
def gsOf : List Nat → TGs
  | [] => gNil
  | i :: is => gCons (gName i) (gsOf is)
theorem gs_run {Q : L2.St → Hp → Prop} {H : Hp} : ∀ (is : List Nat) (xs : List V) (σ : L2.St), is.length = xs.length → Q ((is.zip xs).foldl (fun s p => s.set p.1 (some p.2)) σ) H → gsOf is xs σ H Q
  | [], [], σ, _, q => ⟨rfl, q⟩
  | i :: is, x :: xs, σ, hl, q => ⟨x, xs, rfl, gs_run is xs (σ.set i (some x)) (by simpa using hl) q⟩
  | [], _ :: _, _, hl, _ => by simp at hl
  | _ :: _, [], _, hl, _ => by simp at hl
theorem setCls_of {K : Fg} {P B L : List Addr} {H : Hp} : ∀ {is : List Nat} {xs : List V} {ds : List PyData} {σ : L2.St} {ρ : DL.Env}, Rep K P B L σ ρ H → DqA K H (P ++ B ++ L) xs ds → is.length = ds.length →
    Rep K P B L ((is.zip xs).foldl (fun s p => s.set p.1 (some p.2)) σ) (setCls ρ is ds) H ∧ ((is.zip xs).foldl (fun s p => s.set p.1 (some p.2)) σ).length = σ.length ∧ ∀ k, k ∉ is → ((is.zip xs).foldl (fun (s : L2.St) p => s.set p.1 (some p.2)) σ)[k]? = σ[k]?
  | [], _, _, σ, ρ, R, _, _ => ⟨R, rfl, fun _ _ => rfl⟩
  | i :: is, _, _, σ, ρ, R, .cons (v := x) (vs := xs) (d := d) (ds := ds) h1 h2, hl => by
    obtain ⟨a, b, c⟩ := setCls_of (is := is) (R.setCl i h1) h2 (by simpa using hl)
    refine ⟨a, by rw [← b.trans (List.length_set ..)]; rfl, fun k hk => ?_⟩
    have hk' : k ≠ i ∧ k ∉ is := by simpa [not_or] using hk
    show (List.foldl (fun (s : L2.St) p => s.set p.1 (some p.2)) (σ.set i (some x)) (is.zip xs))[k]? = σ[k]?
    rw [c k hk'.2, List.getElem?_set_ne (Ne.symm hk'.1)]
  | _ :: _, _, _, _, _, _, .nil, hl => by simp at hl
section
variable {X : Cx} {tl : TL} {pos : Pos}
theorem g_name (i : Nat) {x : Str} (hN : X.N.Nodup) (hi : X.N[i]? = some x := by rfl) (hx : Loc X.env.scope x := by first | exact Or.inl rfl | exact Or.inr rfl) (hf : X.fn x = true ∨ X.env.scope.names.lookup x = some .local := by first | exact .inl rfl | exact .inr rfl) : PG X (.Name x pos) (RG (X.D tl) [i] (nameT i)) :=
  (pg_name hN hi hx hf).imp fun v σ H Q h => by
    obtain ⟨P, B, L, ρ, d, ρ', R, dq, e, k⟩ := h
    cases e
    refine k _ (by rw [List.length_set]) (fun j hj => ?_) (R.setCl i dq)
    rw [List.getElem?_set_ne (by intro z; exact hj (by simp [z]))]
theorem g_tup {es : List Expr} {is : List Nat} {kk n : Nat} (hc : X.calm = true) (h : PGs X es (gsOf is)) (hl : is.length = n) (hn : (assignEach es X.env).length = n := by rfl) (hst : (assignEach es X.env).findIdx? (·.1) = none := by rfl) : PG X (.Tuple es kk pos) (RG (X.D tl) is (tupT is)) :=
  (pg_tup hc h hn hst).imp fun v σ H Q h => by
    obtain ⟨P, B, L, ρ, d, ρ', R, dq, e, k⟩ := h
    unfold tupT at e
    split at e
    · rename_i ds
      split at e
      · rename_i hz
        cases e
        cases dq with
        | tup h1 h2 =>
          rename_i a xs
          obtain ⟨q1, q2, q3⟩ := setCls_of R h2 hz.symm
          refine ⟨a, xs, rfl, h1.sq, by rw [h2.length, hz, hl], gs_run is xs σ (by rw [h2.length, hz]) (k _ q2 q3 q1)⟩
      · cases e
    · cases e
end
def unpS (tg : GD) (f : ED) : SD := fun ρ => (f ρ).bind fun p => (psV p.2 p.1).bind fun q => (tg q.2 q.1).map .nx
def notSl : Val → Bool
  | .sl _ => false
  | _ => true
def parS (is : List Nat) (t : AD) : SD := fun ρ => (t ρ).bind fun p => if p.1.all notSl = true ∧ p.1.length ≤ lim then (stAll p.2 is p.1).map .nx else none
section
variable {X : Cx} {tl : TL} {a : Expr} {es : List Expr} {f : ED} {t : AD} {pos : Pos}
theorem unp_imp {is : List Nat} {tg : GD} {D : Ends} {σ : L2.St} {H : Hp} (h : RS (X.D tl) (unpS tg f) D σ H) : tAsg (RD (X.D tl) f) (RG (X.D tl) is tg) D σ H := by
  obtain ⟨P, B, L, ρ, o, R0, e, k⟩ := h
  obtain ⟨⟨r, ρ1⟩, e1, e⟩ := Option.bind_eq_some_iff.mp e
  obtain ⟨⟨d, ρ2⟩, e2, e⟩ := Option.bind_eq_some_iff.mp e
  obtain ⟨ρ3, e3, e4⟩ := Option.map_eq_some_iff.mp e
  subst e4
  refine ⟨P, B, L, ρ, r, ρ1, R0, e1, fun x H1 La Ea p1 v1 => ?_⟩
  obtain ⟨E', L', q, _⟩ := psd_of p1.rep v1 e2
  refine ⟨E' ++ P, B, L', ρ2, d, ρ3, q.rep, q.dq, e3, fun σ' _ _ R' => k σ' H1 L' R'.drop (p1.step.trans (Post.less (K := (X.D tl)) q.rep q.es q.ls).step)⟩
theorem s_unp {tgE : Expr} {is : List Nat} {tg : GD} (he : PE X a (RD (X.D tl) f)) (hg : PG X tgE (RG (X.D tl) is tg)) (hs : swapsWithSole [tgE] a pos.line X.env = pure false := by rfl) (hw : swappedStores [tgE] a X.env = pure none := by rfl)
    (h1 : (assignEach [tgE] X.env).map (·.2) = [assign tgE X.env] := by rfl) : PS X (.Assign [tgE] a pos) (RS (X.D tl) (unpS tg f)) :=
  (ps_asg he hg hs hw h1).imp fun _ _ _ h => unp_imp h
theorem sl_all {rs : List Val} (h : rs.all notSl = true) : ∀ r ∈ rs, ∀ j, r ≠ .sl j := fun r hr j e => by
  have := List.all_eq_true.mp h r hr
  rw [e] at this
  cases this
theorem par_core {is : List Nat} {D : Ends} {σ : L2.St} {H : Hp} (h : RS (X.D tl) (parS is t) D σ H) : RA (X.D tl) t σ H fun xs H1 => is.length = xs.length ∧ xs.length ≤ sizeLine ∧ ∀ H2, Keep [] H1 H2 → D.nx ((is.zip xs).foldl (fun s p => s.set p.1 (some p.2)) σ) H2 := by
  have ll := lim_line
  obtain ⟨P, B, L, ρ, o, R0, e, k⟩ := h
  obtain ⟨⟨rs, ρ1⟩, e1, e⟩ := Option.bind_eq_some_iff.mp e
  simp only at e
  split at e
  · rename_i hz
    obtain ⟨ρ2, e2, e3⟩ := Option.map_eq_some_iff.mp e
    subst e3
    refine ⟨P, B, L, ρ, rs, ρ1, R0, e1, fun xs H1 La Ea p1 v1 => ?_⟩
    have hlen : xs.length = rs.length := by
      clear e1 e2 hz e k
      induction v1 with
      | nil => rfl
      | cons _ _ _ ih => rw [List.length_cons, List.length_cons, ih]
    obtain ⟨E2, Lb, R2, h1, h2, h3⟩ := stAll_of p1.rep v1 (sl_all hz.1) e2
    refine ⟨h3, by rw [hlen]; have := hz.2; omega, fun H2 kp => ?_⟩
    exact k _ H2 Lb (R2.drop.same kp) ((step_more (L := L) p1.step p1.esub h2).trans (Step.of_same kp))
  · cases e
/-- two plain names, stored from the right -/
theorem s_par2 {i j : Nat} {x y : Str} {u v : Expr} {px py pt : Pos} {kt k2 : Nat} {pt2 : Pos} (hc : X.calm = true) (hij : i ≠ j) (hN : X.N.Nodup) (ha : PA X [u, v] (RA (X.D tl) t)) (hi : X.N[i]? = some x := by rfl) (hj : X.N[j]? = some y := by rfl)
    (hx : X.env.scope.names.lookup x = some .local := by rfl) (hy : X.env.scope.names.lookup y = some .local := by rfl)
    (hw : swappedStores [.Tuple [.Name x px, .Name y py] kt pt] (.Tuple [u, v] k2 pt2) X.env = pure (some [x, y]) := by rfl)
    (hs : swapsWithSole [.Tuple [.Name x px, .Name y py] kt pt] (.Tuple [u, v] k2 pt2) pos.line X.env = pure false := by rfl) :
    PS X (.Assign [.Tuple [.Name x px, .Name y py] kt pt] (.Tuple [u, v] k2 pt2) pos) (RS (X.D tl) (parS [i, j] t)) :=
  (ps_par hc hN hi hj hij hx hy ha hw hs).imp fun D σ H h => by
    obtain ⟨P, B, L, ρ, rs, ρ', R0, e, k⟩ := par_core h
    refine ⟨P, B, L, ρ, rs, ρ', R0, e, fun xs H' L' E' p v => ?_⟩
    obtain ⟨q1, q2, q3⟩ := k xs H' L' E' p v
    match xs, q1 with
    | [v1, v2], _ => exact ⟨v1, v2, rfl, q3 H' keep_refl⟩
end
def loopD (tg : GD) (body : SD) : List PyData → DL.Env → Option Out
  | [], ρ => some (.nx ρ)
  | d :: ds, ρ => (tg ρ d).bind fun ρ1 => (body ρ1).bind fun o => match o with
    | .nx ρ2 => loopD tg body ds ρ2
    | .ct ρ2 => loopD tg body ds ρ2
    | .bk ρ2 => some (.nx ρ2)
    | .rt r ρ2 => some (.rt r ρ2)
abbrev ID := DL.Env → Option (List PyData × DL.Env)
def forS (fi : ID) (tg : GD) (body : SD) : SD := fun ρ => (fi ρ).bind fun p => loopD tg body p.1 p.2
def Walks (K : Fg) (P B L : List Addr) (H : Hp) (J : It) (ds : List PyData) : Prop :=
  ∀ H2 L2 E, Step B L H L2 H2 → (∀ a ∈ E, H a = none) → (∀ i d, ds[i]? = some d → J.go i H2 ∧ ∀ x H3, J.yld i H2 x H3 → Keep [] H2 H3 ∧ Dq K H3 (E ++ P ++ B ++ L2) x d) ∧ J.stop ds.length H2
/-- the same, where lists that are shut out may change, too -/
def WalksA (K : Fg) (P B L : List Addr) (H : Hp) (J : It) (ds : List PyData) : Prop :=
  ∀ H2 L2 E, Step (P ++ B) L H L2 H2 → (∀ a ∈ E, H a = none) → (∀ i d, ds[i]? = some d → J.go i H2 ∧ ∀ x H3, J.yld i H2 x H3 → Keep [] H2 H3 ∧ Dq K H3 (E ++ P ++ B ++ L2) x d) ∧ J.stop ds.length H2
theorem Step.wide {P B L L' : List Addr} {H H' : Hp} (s : Step B L H L' H') : Step (P ++ B) L H L' H' := ⟨s.keep.mono fun a z => (List.mem_append.mp z).elim (fun z => List.mem_append_left _ (List.mem_append_right _ z)) fun z => List.mem_append_right _ z, s.lsub, s.ne⟩
theorem WalksA.walks {K : Fg} {P B L : List Addr} {H : Hp} {J : It} {ds : List PyData} (w : WalksA K P B L H J ds) : Walks K P B L H J ds := fun H2 L2 E s he => w H2 L2 E s.wide he
def RI (K : Fg) (fi : ID) : TI := fun σ H R => ∃ P B L ρ ds ρ', Rep K P B L σ ρ H ∧ fi ρ = some (ds, ρ') ∧ ∀ J H' L' E', Post K P B L σ H [] ρ' H' L' E' → WalksA K (E' ++ P) B L' H' J ds → R J H'
theorem _root_.L2.PI.imp {X : Cx} {tg e : Expr} {t t' : TI} (p : PI X tg e t) (h : ∀ σ H Q, t' σ H Q → t σ H Q) : PI X tg e t' := ⟨fun pins s σ H Q I q => p.run pins s σ H Q I (h σ H Q q)⟩
theorem _root_.L2.PI.or {X : Cx} {tg e : Expr} {t t' : TI} (p : PI X tg e t) (p' : PI X tg e t') : PI X tg e (fun σ H R => t σ H R ∨ t' σ H R) := ⟨fun pins s σ H Q I q => q.elim (p.run pins s σ H Q I) (p'.run pins s σ H Q I)⟩
section
variable {X : Cx} {tl : TL} {tgE iter : Expr} {body : List Stmt} {fi : ID} {tg : GD} {is : List Nat} {g : SD} {c : Expr} {q : TD} {pos : Pos}
theorem drop_cons {α : Type} {l : List α} {i : Nat} {d : α} (h : l[i]? = some d) : l.drop i = d :: l.drop (i + 1) := by
  obtain ⟨h1, h2⟩ := List.getElem?_eq_some_iff.mp h
  rw [← h2]
  exact List.drop_eq_getElem_cons h1
theorem hmem (E5 Ea P B L5 : List Addr) : ∀ a ∈ E5 ++ P ++ B ++ L5, a ∈ E5 ++ (Ea ++ P) ++ B ++ L5 := fun a z => by
  rcases mem4.mp z with z | z | z | z
  · exact mem4.mpr (.inl z)
  · exact mem4.mpr (.inr (.inl (List.mem_append_right _ z)))
  · exact mem4.mpr (.inr (.inr (.inl z)))
  · exact mem4.mpr (.inr (.inr (.inr z)))
theorem _root_.DL.Rep.weakP {K : Fg} {P P' B L : List Addr} {σ : L2.St} {ρ : DL.Env} {H : Hp} (R : Rep K P B L σ ρ H) (hp : ∀ a ∈ P', a ∈ P) : Rep K P' B L σ ρ H := by
  have hs : ∀ a ∈ P' ++ B ++ L, a ∈ P ++ B ++ L := fun a z => by
    rcases mem3.mp z with z | z | z
    · exact mem3.mpr (.inl (hp a z))
    · exact mem3.mpr (.inr (.inl z))
    · exact mem3.mpr (.inr (.inr z))
  refine ⟨R.len, fun a z => R.wl a (hs a z), ⟨fun a z => R.nd.1 a (hp a z), R.nd.2⟩, fun i => ?_, R.inj, R.tabs⟩
  have h0 := R.ok i
  revert h0
  generalize ρ.getD i .no = cc
  intro h0
  cases cc with
  | no => trivial
  | cl d => obtain ⟨v, e, h⟩ := h0; exact ⟨v, e, h.sub hs⟩
  | op ds => obtain ⟨a, vs, e, hm, hh, h⟩ := h0; exact ⟨a, vs, e, hm, hh, h.sub hs⟩
  | pm ds => obtain ⟨a, vs, e, hm, hh, h⟩ := h0; exact ⟨a, vs, e, hm, hh, h.sub hs⟩
  | dk t ds => obtain ⟨a, vs, e, hm, hh, h⟩ := h0; exact ⟨a, vs, e, hm, hh, h.sub hs⟩
theorem for_imp {D : Ends} {σ : L2.St} {H : Hp} (h : RS (X.D tl) (forS fi tg g) D σ H) : tFor (RI (X.D tl) fi) (RG (X.D tl) is tg) (RS (X.D tl) g) D σ H := by
  obtain ⟨P, B, L, ρ, o, R0, e, k⟩ := h
  obtain ⟨⟨ds, ρ1⟩, e1, e2⟩ := Option.bind_eq_some_iff.mp e
  refine ⟨P, B, L, ρ, ds, ρ1, R0, e1, fun J H1 La Ea p1 wk => ?_⟩
  refine ⟨fun i m σ H => m = ds.length - i ∧ i ≤ ds.length ∧ ∃ L ρ, Rep (X.D tl) (Ea ++ P) B L σ ρ H ∧ Step B La H1 L H ∧ loopD tg g (ds.drop i) ρ = some o, ⟨ds.length, by simp, Nat.zero_le _, La, ρ1, p1.rep, .refl, by simpa using e2⟩, ?_⟩
  rintro i m σ' H' ⟨rfl, hi, L', ρ', R', s', e'⟩
  obtain ⟨wgo, wst⟩ := wk.walks H' L' [] s' (fun _ z => nomatch z)
  cases hd : ds[i]? with
  | none =>
    have hz : i = ds.length := by
      have := List.getElem?_eq_none_iff.mp hd
      omega
    subst hz
    rw [List.drop_length] at e'
    cases e'
    exact .inl ⟨wst, k σ' H' L' R'.drop (p1.step.trans s')⟩
  | some d =>
    have hlt := (List.getElem?_eq_some_iff.mp hd).1
    obtain ⟨gg, gy⟩ := wgo i d hd
    rw [drop_cons hd] at e'
    obtain ⟨ρ2, e3, e4⟩ := Option.bind_eq_some_iff.mp e'
    obtain ⟨o2, e5, e6⟩ := Option.bind_eq_some_iff.mp e4
    refine .inr ⟨gg, fun σ2 H2 => ∃ L ρ, Rep (X.D tl) (Ea ++ P) B L σ2 ρ H2 ∧ Step B La H1 L H2 ∧ loopD tg g (ds.drop (i + 1)) ρ = some o, fun σ2 H2 hn => ⟨ds.length - (i + 1), by omega, rfl, hlt, hn⟩, fun x H3 hy => ?_⟩
    obtain ⟨kp, dq⟩ := gy x H3 hy
    have R3 : Rep (X.D tl) (Ea ++ P) B L' σ' ρ' H3 := R'.same kp
    have s3 : Step B La H1 L' H3 := s'.trans (Step.of_same kp)
    refine ⟨Ea ++ P, B, L', ρ', d, ρ2, R3, (show Dq (X.D tl) H3 ((Ea ++ P) ++ B ++ L') x d from dq), e3, fun σ4 _ _ R4 => ⟨Ea ++ P, B, L', ρ2, o2, R4, e5, ?_⟩⟩
    cases o2 with
    | nx ρ5 => exact fun σ5 H5 L5 R5 s5 => ⟨L5, ρ5, R5, s3.trans s5, e6⟩
    | ct ρ5 => exact fun σ5 H5 L5 R5 s5 => ⟨L5, ρ5, R5, s3.trans s5, e6⟩
    | bk ρ5 =>
      cases e6
      exact fun σ5 H5 L5 R5 s5 => k σ5 H5 L5 R5.drop (p1.step.trans (s3.trans s5))
    | rt r ρ5 =>
      cases e6
      refine fun σ5 x5 H5 L5 E5 R5 s5 f5 v5 => k σ5 x5 H5 L5 E5 ?_ (p1.step.trans (s3.trans s5)) (fun a ha => ?_) ?_
      · exact R5.weakP fun a z => (List.mem_append.mp z).elim (fun z => List.mem_append_left _ z) fun z => List.mem_append_right _ (List.mem_append_right _ z)
      · cases eh : H a with
        | none => rfl
        | some u => exact absurd (f5 a ha) ((p1.step.trans s3).ne a (by rw [eh]; exact fun z => nomatch z))
      · cases r with
        | cl d => exact Dq.sub (hmem E5 Ea P B L5) (show Dq (X.D tl) H5 (E5 ++ (Ea ++ P) ++ B ++ L5) x5 d from v5)
        | own fs =>
          obtain ⟨a, us, e1, h1, h2, h3, h4⟩ := v5
          exact ⟨a, us, e1, h1, fun z => h2 (List.mem_append_right _ z), h3, h4.sub (hmem E5 Ea P B L5)⟩
        | sl j => exact v5
theorem s_for (hp : PassesOwn (model X.prog X.w) X.A X.env X.xe) (hc : X.calm = true) (hi : PI X tgE iter (RI (X.D tl) fi)) (hg : PG X tgE (RG (X.D tl) is tg)) (hb : PSs X body (RS (X.D tl) g)) (hs : ∀ x, foldedSetIterable iter X.env x = pure x := by intro _; rfl) :
    PS X (.For tgE iter body [] pos) (RS (X.D tl) (forS fi tg g)) := (ps_for hp hc hi hg hb hs).imp fun _ _ _ h => for_imp h
def whileD (c : TD) (body : SD) : Nat → DL.Env → Option Out
  | 0, _ => none
  | n + 1, ρ => (c ρ).bind fun p => if p.1 = true then (body p.2).bind fun o => match o with
      | .nx ρ2 => whileD c body n ρ2
      | .ct ρ2 => whileD c body n ρ2
      | .bk ρ2 => some (.nx ρ2)
      | .rt r ρ2 => some (.rt r ρ2)
    else some (.nx p.2)
def whileS (n : Nat) (c : TD) (body : SD) : SD := fun ρ => whileD c body n ρ
theorem while_imp {n : Nat} {D : Ends} {σ : L2.St} {H : Hp} (h : RS (X.D tl) (whileS n q g) D σ H) : tWhile (RT (X.D tl) q) (RS (X.D tl) g) D σ H := by
  obtain ⟨P, B, L, ρ, o, R0, e, k⟩ := h
  refine ⟨fun m σ H' => ∃ La ρ, Rep (X.D tl) P B La σ ρ H' ∧ Step B L H La H' ∧ whileD q g m ρ = some o, ⟨n, L, ρ, R0, .refl, e⟩, ?_⟩
  rintro m σ1 H1 ⟨La, ρ1, R1, s1, e1⟩
  cases m with
  | zero => cases e1
  | succ m =>
    obtain ⟨⟨b, ρ2⟩, e2, e3⟩ := Option.bind_eq_some_iff.mp e1
    refine ⟨P, B, La, ρ1, b, ρ2, R1, e2, fun H2 Lb Eb p2 => ?_⟩
    cases b with
    | false =>
      have e4 : o = .nx ρ2 := (Option.some.inj (by simpa using e3)).symm
      subst e4
      rw [if_neg Bool.false_ne_true]
      exact k σ1 H2 Lb p2.toStep (s1.trans p2.step)
    | true =>
      rw [if_pos rfl]
      simp only [if_true] at e3
      obtain ⟨o2, e4, e5⟩ := Option.bind_eq_some_iff.mp e3
      refine ⟨fun σ3 H3 => ∃ Lc ρ3, Rep (X.D tl) P B Lc σ3 ρ3 H3 ∧ Step B L H Lc H3 ∧ whileD q g m ρ3 = some o, fun σ3 H3 hn => ⟨m, Nat.lt_succ_self _, hn⟩, P, B, Lb, ρ2, o2, p2.toStep, e4, ?_⟩
      cases o2 with
      | nx ρ5 => exact fun σ5 H5 L5 R5 s5 => ⟨L5, ρ5, R5, s1.trans (p2.step.trans s5), e5⟩
      | ct ρ5 => exact fun σ5 H5 L5 R5 s5 => ⟨L5, ρ5, R5, s1.trans (p2.step.trans s5), e5⟩
      | bk ρ5 =>
        cases e5
        exact fun σ5 H5 L5 R5 s5 => k σ5 H5 L5 R5 (s1.trans (p2.step.trans s5))
      | rt r ρ5 =>
        cases e5
        exact OutOk.after k (s1.trans p2.step)
theorem s_while (n : Nat) (hp : PassesOwn (model X.prog X.w) X.A X.env X.xe) (hc : PT X c (RT (X.D tl) q)) (hb : PSs X body (RS (X.D tl) g)) : PS X (.While c body [] pos) (RS (X.D tl) (whileS n q g)) := (ps_while hp hc hb).imp fun _ _ _ h => while_imp h
end
end DL
end
noncomputable section
namespace DL
open PySem PySem.Spec PyProof.Rows L2
def seqI (f : ED) : ID := fun ρ => (f ρ).bind fun p => (psV p.2 p.1).bind fun q => match q.1 with
  | .list ds => some (ds, q.2)
  | .tuple ds => some (ds, q.2)
  | _ => none
def rngD (a : Int) (n : Nat) (c : Int) : List PyData := (List.range n).map fun (k : Nat) => .int (a + k * c)
def rng1I (t : AD) : ID := fun ρ => (t ρ).bind fun p => match p.1 with
  | [.cl (.int j)] => if -lim ≤ j ∧ j ≤ lim then some (rngD 0 j.toNat 1, p.2) else none
  | _ => none
def rng2I (t : AD) : ID := fun ρ => (t ρ).bind fun p => match p.1 with
  | [.cl (.int i), .cl (.int j)] => if (-lim ≤ i ∧ i ≤ lim) ∧ -lim ≤ j ∧ j ≤ lim then some (rngD i (j - i).toNat 1, p.2) else none
  | _ => none
def rng3I (t : AD) : ID := fun ρ => (t ρ).bind fun p => match p.1 with
  | [.cl (.int i), .cl (.int j), .cl (.int c)] => if ((-lim ≤ i ∧ i ≤ lim) ∧ -lim ≤ j ∧ j ≤ lim) ∧ c = -1 then some (rngD i (i - j).toNat (-1), p.2) else none
  | _ => none
section
variable {X : Cx} {tl : TL} {tgE a b c : Expr} {f : ED} {t : AD} {pos p : Pos}
theorem Dq.stepE {K : Fg} {P B L L' E : List Addr} {σ : L2.St} {ρ : DL.Env} {H H' : Hp} (R : Rep K P B L σ ρ H) (s : Step B L H L' H') (he : ∀ a ∈ E, H a = none) {v : V} {d : PyData} (h : Dq K H (P ++ B ++ L) v d) : Dq K H' (E ++ P ++ B ++ L') v d :=
  h.move R.lbl (fun a z => mem3.mpr (.inr (List.mem_append.mp z))) s.keep fun a z => by
    rcases mem4.mp z with z | z | z | z
    · exact .inr (he a z)
    · exact .inl (mem3.mpr (.inl z))
    · exact .inl (mem3.mpr (.inr (.inl z)))
    · exact (s.lsub a z).imp (fun z => mem3.mpr (.inr (.inr z))) id
theorem Dq.stepA {K : Fg} {P B L L' E : List Addr} {σ : L2.St} {ρ : DL.Env} {H H' : Hp} (R : Rep K P B L σ ρ H) (s : Step (P ++ B) L H L' H') (he : ∀ a ∈ E, H a = none) {v : V} {d : PyData} (h : Dq K H (P ++ B ++ L) v d) : Dq K H' (E ++ P ++ B ++ L') v d :=
  h.move R.wl (fun a z => z) s.keep fun a z => by
    rcases mem4.mp z with z | z | z | z
    · exact .inr (he a z)
    · exact .inl (mem3.mpr (.inl z))
    · exact .inl (mem3.mpr (.inr (.inl z)))
    · exact (s.lsub a z).imp (fun z => mem3.mpr (.inr (.inr z))) id
theorem walks_l {K : Fg} {P B L : List Addr} {σ : L2.St} {ρ : DL.Env} {H : Hp} {l : Addr} {ds : List PyData} (R : Rep K P B L σ ρ H) (d : Dq K H (P ++ B ++ L) (.ref l) (.list ds)) : WalksA K P B L H (Itl K l) ds := fun H2 L2 E s he => by
  have d2 := Dq.stepA R s he d
  cases d2 with
  | lst h1 h2 h3 =>
    rename_i xs
    refine ⟨fun i d hd => ?_, ⟨xs, .of h2, Nat.le_of_eq h3.length⟩⟩
    obtain ⟨v, hv, dv⟩ := h3.get hd
    refine ⟨⟨xs, v, .of h2, hv⟩, fun x H3 hy => ?_⟩
    obtain ⟨rfl, hx⟩ := hy
    have := hx xs (.of h2)
    rw [hv] at this
    cases this
    exact ⟨keep_refl, dv⟩
theorem walks_t {K : Fg} {P B L : List Addr} {σ : L2.St} {ρ : DL.Env} {H : Hp} {l : Addr} {ds : List PyData} (R : Rep K P B L σ ρ H) (d : Dq K H (P ++ B ++ L) (.ref l) (.tuple ds)) : WalksA K P B L H (Itt K l) ds := fun H2 L2 E s he => by
  have d2 := Dq.stepA R s he d
  cases d2 with
  | tup h2 h3 =>
    rename_i xs
    refine ⟨fun i d hd => ?_, ⟨xs, h2.sq, Nat.le_of_eq h3.length⟩⟩
    obtain ⟨v, hv, dv⟩ := h3.get hd
    refine ⟨⟨xs, v, h2.sq, hv⟩, fun x H3 hy => ?_⟩
    obtain ⟨rfl, hx⟩ := hy
    have := hx xs h2.sq
    rw [hv] at this
    cases this
    exact ⟨keep_refl, dv⟩
theorem dq_list {K : Fg} {H : Hp} {W : List Addr} {x : V} {ds : List PyData} (d : Dq K H W x (.list ds)) : ∃ a xs, x = V.ref a ∧ SqL K H a xs := by
  cases d with
  | lst h1 h2 h3 => exact ⟨_, _, rfl, .of h2⟩
theorem dq_tup {K : Fg} {H : Hp} {W : List Addr} {x : V} {ds : List PyData} (d : Dq K H W x (.tuple ds)) : ∃ a xs, x = V.ref a ∧ SqT K H a xs := by
  cases d with
  | tup h2 h3 => exact ⟨_, _, rfl, h2.sq⟩
theorem i_seq (h : PE X a (RD (X.D tl) f)) : PI X tgE a (RI (X.D tl) (seqI f)) := ((pi_list h).or (pi_tup h)).imp fun σ H R h => by
  obtain ⟨P, B, L, ρ, ds, ρ', R0, e, k⟩ := h
  obtain ⟨⟨r, ρ1⟩, e1, e⟩ := Option.bind_eq_some_iff.mp e
  obtain ⟨⟨d, ρ2⟩, e2, e⟩ := Option.bind_eq_some_iff.mp e
  have go : ∀ {x : V} {H1 : Hp} {La Ea : List Addr}, Post (X.D tl) P B L σ H [] ρ1 H1 La Ea → VR (X.D tl) Ea P B La σ H1 x r → ∃ E' L', Post (X.D tl) P B L σ H [] ρ2 H1 L' E' ∧ Dq (X.D tl) H1 (E' ++ P ++ B ++ L') x d := fun {x H1 La Ea} p1 v1 => by
    obtain ⟨E', L', q, _⟩ := psd_of p1.rep v1 e2
    exact ⟨E', L', p1.then (Post.less q.rep q.es q.ls), q.dq⟩
  simp only at e
  split at e
  · cases e
    refine .inl ⟨P, B, L, ρ, r, ρ1, R0, e1, fun x H1 La Ea p1 v1 => ?_⟩
    obtain ⟨E', L', p2, dq⟩ := go p1 v1
    obtain ⟨l, xs, rfl, hq⟩ := dq_list dq
    exact ⟨l, rfl, ⟨xs, hq⟩, k _ _ _ _ p2 (walks_l p2.rep dq)⟩
  · cases e
    refine .inr ⟨P, B, L, ρ, r, ρ1, R0, e1, fun x H1 La Ea p1 v1 => ?_⟩
    obtain ⟨E', L', p2, dq⟩ := go p1 v1
    obtain ⟨l, xs, rfl, hq⟩ := dq_tup dq
    exact ⟨l, rfl, ⟨xs, hq⟩, k _ _ _ _ p2 (walks_t p2.rep dq)⟩
  · cases e
theorem rng_get {a : Int} {n : Nat} {c : Int} {i : Nat} {d : PyData} (h : (rngD a n c)[i]? = some d) : i < n ∧ d = .int (a + i * c) := by
  unfold rngD at h
  rw [List.getElem?_map] at h
  obtain ⟨k, h1, h2⟩ := Option.map_eq_some_iff.mp h
  obtain ⟨h3, h4⟩ := List.getElem?_eq_some_iff.mp h1
  rw [List.getElem_range] at h4
  rw [List.length_range] at h3
  subst h4
  exact ⟨h3, h2.symm⟩
theorem rng_len (a : Int) (n : Nat) (c : Int) : (rngD a n c).length = n := by unfold rngD; rw [List.length_map, List.length_range]
theorem walks_r {K : Fg} {P B L : List Addr} {H : Hp} {a : Int} {n : Nat} : WalksA K P B L H (Itr a n) (rngD a n 1) := fun H2 L2 E s he => by
  refine ⟨fun i d hd => ?_, by rw [rng_len]; exact Nat.le_refl _⟩
  obtain ⟨h1, rfl⟩ := rng_get hd
  refine ⟨h1, fun x H3 hy => ?_⟩
  obtain ⟨rfl, rfl⟩ := hy
  rw [Int.mul_one]
  exact ⟨keep_refl, .int _⟩
theorem lim62 : (lim : Int) < 2 ^ 62 := by rw [lim_eq]; decide
theorem i_rng1 (hg : Gl X "range") (hm : X.mg "range" = none) (ha : PA X [a] (RA (X.D tl) t)) (hs : starEach [a] X.env = [(false, eval a X.env)] := by rfl) : PI X tgE (.Call (.Name "range" p) [a] [] pos) (RI (X.D tl) (rng1I t)) := (pi_range1 hg hm ha hs).imp fun σ H R h => by
  have hl := lim62
  obtain ⟨P, B, L, ρ, ds, ρ', R0, e, k⟩ := h
  obtain ⟨⟨rs, ρ1⟩, e1, e⟩ := Option.bind_eq_some_iff.mp e
  simp only at e
  split at e
  · rename_i j
    split at e
    · rename_i hz
      cases e
      refine ⟨P, B, L, ρ, _, _, R0, e1, fun xs H1 La Ea p1 v1 => ?_⟩
      obtain ⟨x, rfl, v⟩ := vrs_one v1
      exact ⟨j, by rw [v.int], by omega, by omega, k _ _ _ _ p1 walks_r⟩
    · cases e
  · cases e
end
def wipeE (ρ : DL.Env) : List Nat → DL.Env
  | [] => ρ
  | v :: vs => (wipeE ρ vs).set v .no
def restE (ρ ρ0 : DL.Env) : List Nat → DL.Env
  | [] => ρ
  | v :: vs => (restE ρ ρ0 vs).set v (ρ0.getD v .no)
def lcLoop (own : List Nat) (tg : GD) (tt : TD) (te : ED) : List PyData → List PyData → DL.Env → Option (List PyData × DL.Env)
  | acc, [], ρ => some (acc, ρ)
  | acc, d :: ds, ρ => (tg ρ d).bind fun ρ1 => (tt ρ1).bind fun p => if p.1 = true then (te p.2).bind fun q => (psV q.2 q.1).bind fun s =>
      if acc.length < lim then lcLoop own tg tt te (acc ++ [s.1]) ds (wipeE s.2 own) else none
    else lcLoop own tg tt te acc ds (wipeE p.2 own)
def lcD (own : List Nat) (fi : ID) (tg : GD) (tt : TD) (te : ED) : ED := fun ρ => (fi ρ).bind fun p => if own.all (fun i => !(p.2.getD i .no).isOpen) = true then
    (lcLoop own tg tt te [] p.1 (wipeE p.2 own)).bind fun q => some (.own q.1, restE q.2 p.2 own)
  else none
def yesT : TD := fun ρ => some (true, ρ)
section
variable {K : Fg} {P B L E : List Addr} {σ : L2.St} {ρ ρ' ρ0 : DL.Env} {H : Hp}
theorem Rep.setNo (R : Rep K P B L σ ρ H) (i : Nat) (x : Option V) : Rep K P B L (σ.set i x) (ρ.set i .no) H := by
  refine ⟨by rw [List.length_set, List.length_set]; exact R.len, R.wl, R.nd, fun j => ?_, fun j k a hjk h1 h2 e1 e2 => ?_, R.tabs⟩
  · rw [getD_set, getS_set, R.len]
    by_cases hj : i = j ∧ i < ρ.length
    · rw [if_pos hj, if_pos hj]; trivial
    · rw [if_neg hj, if_neg hj]; exact R.ok j
  · rw [getD_set] at h1 h2
    rw [getS_set, R.len] at e1 e2
    by_cases hj : i = j ∧ i < ρ.length
    · rw [if_pos hj] at h1; cases h1
    · by_cases hk : i = k ∧ i < ρ.length
      · rw [if_pos hk] at h2; cases h2
      · rw [if_neg hj] at h1 e1
        rw [if_neg hk] at h2 e2
        exact R.inj j k a hjk h1 h2 e1 e2
theorem Rep.wipe (R : Rep K P B L σ ρ H) : ∀ vs : List Nat, Rep K P B L (L2.wipe σ vs) (wipeE ρ vs) H
  | [] => R
  | v :: vs => (Rep.wipe R vs).setNo v none
theorem wipe_other {σ : L2.St} : ∀ {vs : List Nat} {k : Nat}, k ∉ vs → (L2.wipe σ vs)[k]? = σ[k]?
  | [], _, _ => rfl
  | v :: vs, k, h => by
    have h' : k ≠ v ∧ k ∉ vs := by simpa [not_or] using h
    unfold L2.wipe
    rw [List.getElem?_set_ne (Ne.symm h'.1), wipe_other h'.2]
theorem wipe_in {σ : L2.St} : ∀ {vs : List Nat} {k : Nat}, k ∈ vs → (L2.wipe σ vs)[k]? = if k < σ.length then some none else none
  | v :: vs, k, h => by
    unfold L2.wipe
    by_cases e : v = k
    · subst e
      rw [List.getElem?_set, wipe_length]
      simp
    · have h' : k ∈ vs := (List.mem_cons.mp h).resolve_left (Ne.symm e)
      rw [List.getElem?_set_ne e, wipe_in h']
theorem wipe_eq {σ σ2 : L2.St} {vs : List Nat} (hl : σ2.length = σ.length) (h : ∀ k, k ∉ vs → σ2[k]? = (L2.wipe σ vs)[k]?) : L2.wipe σ2 vs = L2.wipe σ vs := by
  refine List.ext_getElem? fun k => ?_
  by_cases hk : k ∈ vs
  · rw [wipe_in hk, wipe_in hk, hl]
  · rw [wipe_other hk, h k hk]
/-- the slots of the block come back -/
theorem rest_of {L1 : List Addr} {H1 : Hp} {vs0 : List Nat} (R0 : Rep K P B L σ ρ0 H) (s : Step B L H L1 H1) (he : ∀ a ∈ E, H a = none) (hno : ∀ i ∈ vs0, (ρ0.getD i .no).isOpen = false) : ∀ (vs : List Nat), (∀ i ∈ vs, i ∈ vs0) →
    ∀ {τ : L2.St} {ρ1 : DL.Env}, Rep K (E ++ P) B L1 τ ρ1 H1 → τ.length = σ.length → (∀ k, k ∉ vs → τ[k]? = σ[k]?) → Rep K (E ++ P) B L1 σ (restE ρ1 ρ0 vs) H1 := by
  intro vs hvs τ ρ1 R1 hl hk
  -- slot by slot
  have key : ∀ (us : List Nat), (∀ i ∈ us, i ∈ vs0) → ∃ τ' : L2.St, Rep K (E ++ P) B L1 τ' (restE ρ1 ρ0 us) H1 ∧ τ'.length = σ.length ∧ (∀ k, k ∈ us → τ'[k]? = σ[k]?) ∧ ∀ k, k ∉ us → τ'[k]? = τ[k]? := by
    intro us
    induction us with
    | nil => exact fun _ => ⟨τ, R1, hl, fun _ z => absurd z List.not_mem_nil, fun _ _ => rfl⟩
    | cons v us ih =>
      intro hu
      obtain ⟨τ', R', l', a', b'⟩ := ih fun i hi => hu i (List.mem_cons_of_mem _ hi)
      have hv := hno v (hu v (List.mem_cons_self ..))
      have q := R0.ok v
      unfold restE
      refine ⟨τ'.set v (σ[v]?.getD none), ?_, by rw [List.length_set, l'], fun k hk => ?_, fun k hk => ?_⟩
      · revert hv q
        generalize ρ0.getD v .no = c
        intro hv q
        cases c with
        | no => exact R'.setNo v _
        | cl d =>
          obtain ⟨x, ex, dx⟩ := q
          rw [ex]
          exact R'.setCl v (Dq.stepE R0 s he dx)
        | op ds => cases hv
        | pm ds => cases hv
        | dk t ds => cases hv
      · by_cases e : v = k
        · subst e
          by_cases hlt : v < σ.length
          · rw [List.getElem?_set_self (by rw [l']; exact hlt), List.getElem?_eq_getElem hlt]; rfl
          · rw [List.getElem?_eq_none (by rw [List.length_set, l']; omega), List.getElem?_eq_none (by omega)]
        · rw [List.getElem?_set_ne e]
          exact a' k ((List.mem_cons.mp hk).resolve_left (Ne.symm e))
      · have h' : k ≠ v ∧ k ∉ us := by simpa [not_or] using hk
        rw [List.getElem?_set_ne (Ne.symm h'.1), b' k h'.2]
  obtain ⟨τ', R', l', a', b'⟩ := key vs hvs
  have e : τ' = σ := List.ext_getElem? fun k => by
    by_cases h : k ∈ vs
    · exact a' k h
    · rw [b' k h, hk k h]
  rw [e] at R'
  exact R'
/-- the new list of a comprehension, shut out, is written -/
theorem writeP {D : Addr} {acc' : List V} (R : Rep K P B L σ ρ H) (hD : D ∈ P) : Rep K P B L σ ρ (upd H D (.lst acc')) ∧ ∀ {vs : List V} {ds : List PyData}, DqA K H (P ++ B ++ L) vs ds → DqA K (upd H D (.lst acc')) (P ++ B ++ L) vs ds := by
  have hl : Lists H [D] := fun b z => by
    rw [show b = D by simpa using z]
    exact R.wl D (mem3.mpr (.inl hD))
  have hs : ∀ b ∈ [D], b ∈ P ++ B ++ L := fun b z => (show b = D by simpa using z) ▸ mem3.mpr (.inl hD)
  obtain ⟨us0, hh, ou⟩ := R.wl D (mem3.mpr (.inl hD))
  have mv : ∀ {v : V} {d : PyData}, Dq K H (P ++ B ++ L) v d → Dq K (upd H D (.lst acc')) (P ++ B ++ L) v d := fun h => h.move hl hs (keep_wrD hh ou) fun b z => .inl z
  have mvA : ∀ {v : List V} {d : List PyData}, DqA K H (P ++ B ++ L) v d → DqA K (upd H D (.lst acc')) (P ++ B ++ L) v d := fun h => h.move hl hs (keep_wrD hh ou) fun b z => .inl z
  refine ⟨⟨R.len, fun b hb => ?_, R.nd, fun i => ?_, R.inj, (keep_wrD hh ou).tab _ R.tabs⟩, mvA⟩
  · by_cases z : b = D
    · exact ⟨_, by rw [z]; exact upd_same, .lst acc'⟩
    · obtain ⟨us, q, ou⟩ := R.wl b hb
      exact ⟨us, by rw [upd_ne z]; exact q, ou⟩
  · have q := R.ok i
    have nd := R.nd.1 D hD
    revert q
    generalize ρ.getD i .no = c
    intro q
    cases c with
    | no => trivial
    | cl d => obtain ⟨v, e2, h⟩ := q; exact ⟨v, e2, mv h⟩
    | op fs =>
      obtain ⟨b, us, e2, h1, h2, h3⟩ := q
      exact ⟨b, us, e2, h1, by rw [upd_ne fun z => nd.2 (by rw [← z]; exact h1)]; exact h2, mvA h3⟩
    | pm fs =>
      obtain ⟨b, us, e2, h1, h2, h3⟩ := q
      exact ⟨b, us, e2, h1, by rw [upd_ne fun z => nd.1 (by rw [← z]; exact h1)]; exact h2, mvA h3⟩
    | dk t fs =>
      obtain ⟨b, us, e2, h1, h2, h3⟩ := q
      exact ⟨b, us, e2, h1, by rw [upd_ne fun z => nd.2 (by rw [← z]; exact h1)]; exact h2, h3.move hl hs (keep_wrD hh ou) fun b z => .inl z⟩
end
section
variable {K : Fg} {P B L E : List Addr} {σ : L2.St} {ρ ρ' ρ0 : DL.Env} {H : Hp}
theorem step_new {L' : List Addr} {H' : Hp} {D : Addr} {o : HO} (s : Step B L H L' H') (hD : H D = none) {us : List V} (hl : H' D = some (.lst us)) : Step B L H L' (upd H' D o) :=
  ⟨⟨fun b u e hb ho => by rw [upd_ne (ne_of_none e hD)]; exact s.keep.old b u e hb ho, fun T t => (keep_wr hl).tab T (s.keep.tab T t), fun b h => (keep_wr hl).nn b (s.ne b h)⟩, s.lsub, fun a h z => by
    by_cases q : a = D
    · subst q; exact h hD
    · rw [upd_ne q] at z; exact s.ne a h z⟩
theorem lc_tail {own is : List Nat} {tg : GD} {tt : TD} {te : ED} (hin : ∀ i ∈ is, i ∈ own) {Q : VK} {P B L : List Addr} {ρ ρ1 ρ2 : DL.Env} {ds es : List PyData} (R0 : Rep K P B L σ ρ H) (hno : own.all (fun i => !(ρ1.getD i .no).isOpen) = true)
    (e2 : lcLoop own tg tt te [] ds (wipeE ρ1 own) = some (es, ρ2)) (k : Cont K P B L σ H [] (restE ρ2 ρ1 own) (.own es) Q) (J : It) (H1 : Hp) (La Ea : List Addr) (p1 : Post K P B L σ H [] ρ1 H1 La Ea) (wk : Walks K (Ea ++ P) B La H1 J ds) :
    tLc (fun _ _ R => R J H1) (RG K is tg) (RT K tt) (RD K te) own σ H Q := by
  have ll := lim_line
  intro D hD
  have R1 : Rep K ([D] ++ (Ea ++ P)) B La σ ρ1 (upd H1 D (.lst [])) := p1.rep.move (Keep.new hD) fun a z => by
    rw [show a = D by simpa using z]
    exact ⟨hD, [], upd_same⟩
  have hDD : D ∈ [D] ++ (Ea ++ P) := by simp
  have fD : ∀ a ∈ [D], H1 a = none := fun a z => by rw [show a = D by simpa using z]; exact hD
  refine ⟨fun i m H => m = ds.length - i ∧ i ≤ ds.length ∧ ∃ Lc ρc acc fs, Rep K ([D] ++ (Ea ++ P)) B Lc (L2.wipe σ own) ρc H ∧ Step B La H1 Lc H ∧ H D = some (.lst acc) ∧ DqA K H ([D] ++ (Ea ++ P) ++ B ++ Lc) acc fs ∧ lcLoop own tg tt te fs (ds.drop i) ρc = some (es, ρ2),
    ⟨ds.length, by simp, Nat.zero_le _, La, wipeE ρ1 own, [], [], R1.wipe own, Step.of_same (Keep.new hD), upd_same, .nil, by simpa using e2⟩, ?_⟩
  rintro i m H' ⟨rfl, hi, Lc, ρc, acc, fs, Rc, sc, hacc, dacc, ec⟩
  obtain ⟨wgo, wst⟩ := wk H' Lc [D] sc fD
  cases hd : ds[i]? with
  | none =>
    have hz : i = ds.length := by
      have := List.getElem?_eq_none_iff.mp hd
      omega
    subst hz
    rw [List.drop_length] at ec
    cases ec
    refine .inl ⟨wst, k _ _ Lc (D :: Ea) ⟨?_, p1.step.trans sc, fun a z => ?_⟩ ⟨D, acc, rfl, List.mem_cons_self .., fun z => ?_, hacc, ?_⟩⟩
    · have q := rest_of (E := [D]) p1.rep sc fD (vs0 := own) (fun i hi => by
        have := List.all_eq_true.mp hno i hi
        simpa using this) own (fun _ z => z) Rc (wipe_length σ own) (fun k hk => wipe_other hk)
      simpa using q
    · rcases List.mem_cons.mp z with z | z
      · right
        cases eh : H a with
        | none => rfl
        | some u => exact absurd (z ▸ hD) (p1.step.ne a (by rw [eh]; exact fun z => nomatch z))
      · exact p1.esub a z
    · obtain ⟨vs, q, _⟩ := R0.wl D (mem3.mpr (.inl z))
      exact absurd hD (p1.step.ne D (by rw [q]; exact fun z => nomatch z))
    · have ee : [D] ++ (Ea ++ P) ++ B ++ Lc = (D :: Ea) ++ P ++ B ++ Lc := by simp
      rw [ee] at dacc
      exact dacc
  | some d =>
    have hlt := (List.getElem?_eq_some_iff.mp hd).1
    obtain ⟨gg, gy⟩ := wgo i d hd
    rw [drop_cons hd] at ec
    obtain ⟨ρ3, e3, ec⟩ := Option.bind_eq_some_iff.mp ec
    obtain ⟨⟨b, ρ4⟩, e4, ec⟩ := Option.bind_eq_some_iff.mp ec
    refine .inr ⟨gg, fun H' => ∃ Lc ρc acc fs, Rep K ([D] ++ (Ea ++ P)) B Lc (L2.wipe σ own) ρc H' ∧ Step B La H1 Lc H' ∧ H' D = some (.lst acc) ∧ DqA K H' ([D] ++ (Ea ++ P) ++ B ++ Lc) acc fs ∧ lcLoop own tg tt te fs (ds.drop (i + 1)) ρc = some (es, ρ2),
      fun H2 hn => ⟨ds.length - (i + 1), by omega, rfl, hlt, hn⟩, fun x H3 hy => ?_⟩
    obtain ⟨kp, dq⟩ := gy x H3 hy
    have R3 := Rc.same kp
    have s3 : Step B La H1 Lc H3 := sc.trans (Step.of_same kp)
    have hD3 : H3 D = some (.lst acc) := kp.at hacc (fun z => nomatch z)
    have d3 : DqA K H3 ([D] ++ (Ea ++ P) ++ B ++ Lc) acc fs := DqA.move lists_nil (fun _ z => nomatch z) kp (fun _ z => .inl z) dacc
    refine ⟨[D] ++ (Ea ++ P), B, Lc, ρc, d, ρ3, R3, dq, e3, fun σ2 hl hk R4 => ?_⟩
    have hw : L2.wipe σ2 own = L2.wipe σ own := wipe_eq (hl.trans (wipe_length σ own)) fun j hj => hk j fun z => hj (hin j z)
    refine ⟨hw, [D] ++ (Ea ++ P), B, Lc, ρ3, b, ρ4, R4, e4, fun H4 L4 E4 p4 => ?_⟩
    have s4 := s3.trans p4.step
    have nd := R3.nd.1 D hDD
    have nBL : ∀ {L'' : List Addr}, (∀ a ∈ L'', a ∈ Lc ∨ H3 a = none) → D ∉ B ++ L'' := fun {L''} hs z => by
      rcases List.mem_append.mp z with z | z
      · exact nd.1 z
      · rcases hs D z with z | z
        · exact nd.2 z
        · rw [hD3] at z; cases z
    have hD4 : H4 D = some (.lst acc) := p4.step.keep.at hD3 (nBL fun a z => .inl z)
    have d4 : DqA K H4 ([D] ++ (Ea ++ P) ++ B ++ L4) acc fs := DqA.step R3 p4.step d3
    cases b with
    | false =>
      simp only [Bool.false_eq_true, if_false] at ec
      have R5 := (p4.rep.drop).wipe own
      rw [hw] at R5
      exact iteF ⟨L4, _, acc, fs, R5, s4, hD4, d4, ec⟩
    | true =>
      refine iteT ?_
      simp only [if_true] at ec
      obtain ⟨⟨r5, ρ5⟩, e5, ec⟩ := Option.bind_eq_some_iff.mp ec
      obtain ⟨⟨d6, ρ6⟩, e6, ec⟩ := Option.bind_eq_some_iff.mp ec
      simp only at ec
      split at ec
      · rename_i hz
        refine ⟨[D] ++ (Ea ++ P), B, L4, ρ4, r5, ρ5, p4.toStep, e5, fun y H5 L5 E5 p5 v5 => ?_⟩
        obtain ⟨E6, L6, q6, _⟩ := psd_of p5.rep v5 e6
        have s5 := s4.trans p5.step
        have hD5 : H5 D = some (.lst acc) := p5.step.keep.at hD4 (nBL p4.step.lsub)
        have d5 : DqA K H5 ([D] ++ (Ea ++ P) ++ B ++ L5) acc fs := DqA.step p4.toStep p5.step d4
        have hs6 : ∀ a ∈ [D] ++ (Ea ++ P) ++ B ++ L6, a ∈ [D] ++ (Ea ++ P) ++ B ++ L5 := fun a z => by
          rcases mem4.mp z with z | z | z | z
          · exact mem4.mpr (.inl z)
          · exact mem4.mpr (.inr (.inl z))
          · exact mem4.mpr (.inr (.inr (.inl z)))
          · exact mem4.mpr (.inr (.inr (.inr (q6.ls a z))))
        have dy : Dq K H5 ([D] ++ (Ea ++ P) ++ B ++ L6) y d6 := q6.dq.sub fun a z => by
          rw [show E6 ++ ([D] ++ (Ea ++ P)) ++ B ++ L6 = E6 ++ (([D] ++ (Ea ++ P)) ++ B ++ L6) by simp]
          exact List.mem_append_right _ z
        obtain ⟨R7, mv⟩ := writeP (acc' := acc ++ [y]) (q6.rep.drop) hDD
        have R8 := R7.wipe own
        rw [hw] at R8
        refine ⟨acc, hD5, by rw [d5.length]; omega, L6, _, acc ++ [y], fs ++ [d6], R8, step_new (s5.trans (Post.less (K := K) q6.rep q6.es q6.ls).step) hD hD5, upd_same, mv ((d5.sub hs6).append (.cons dy .nil)), ec⟩
      · cases ec
theorem lc_imp {own is : List Nat} {fi : ID} {tg : GD} {tt : TD} {te : ED} (hin : ∀ i ∈ is, i ∈ own) {Q : VK} (h : RD K (lcD own fi tg tt te) σ H Q) : tLc (RI K fi) (RG K is tg) (RT K tt) (RD K te) own σ H Q := by
  have ll := lim_line
  obtain ⟨P, B, L, ρ, r, ρ', R0, e, k⟩ := h
  obtain ⟨⟨ds, ρ1⟩, e1, e⟩ := Option.bind_eq_some_iff.mp e
  simp only at e
  split at e
  · rename_i hno
    obtain ⟨⟨es, ρ2⟩, e2, e⟩ := Option.bind_eq_some_iff.mp e
    cases e
    exact ⟨P, B, L, ρ, ds, ρ1, R0, e1, fun J H1 La Ea p1 wk => lc_tail hin R0 hno e2 k J H1 La Ea p1 wk.walks⟩
  · cases e
end
section
variable {X : Cx} {tl : TL} {elt tgE iter : Expr} {ifs : List Expr} {scope : Scope} {own : List (Str × Nat)} {pos : Pos} {fi : ID} {tg : GD} {tt : TD} {te : ED} {is : List Nat}
theorem i_yes : PTs X [] (RT (X.D tl) yesT) := ⟨fun pins s σ H Q I h => pts_nil.run pins s σ H Q I (by
  obtain ⟨P, B, L, ρ, b, ρ', R0, e, k⟩ := h
  cases e
  exact k _ _ [] (.refl R0))⟩
theorem i_one {c : Expr} {q : TD} (h : PT X c (RT (X.D tl) q)) : PTs X [c] (RT (X.D tl) q) := pts_one h
theorem d_lc (hc : X.calm = true) (hN : X.N.Nodup) (hi : PI X tgE iter (RI (X.D tl) fi)) (ok : BlkOk X.N X.env.scope scope own) (hin : ∀ i ∈ is, i ∈ own.map (·.2))
    (hg : ∀ (s : Shared) (H : Hp) (C : Addr) (cl : List (Str × Addr)) (fp : List Addr), PG (X.blk s H scope (compEnvC scope cl C X.env) fp) tgE (RG (X.D tl) is tg)) (ht : ∀ (s : Shared) (H : Hp) (C : Addr) (cl : List (Str × Addr)) (fp : List Addr), PTs (X.blk s H scope (compEnvC scope cl C X.env) fp) ifs (RT (X.D tl) tt))
    (he : ∀ (s : Shared) (H : Hp) (C : Addr) (cl : List (Str × Addr)) (fp : List Addr), PE (X.blk s H scope (compEnvC scope cl C X.env) fp) elt (RD (X.D tl) te)) (hs : ∀ x, foldedSetIterable iter X.env x = pure x := by intro _; rfl) :
    PE X (.ListComp elt [⟨tgE, iter, ifs, 0⟩] scope pos) (RD (X.D tl) (lcD (own.map (·.2)) fi tg tt te)) :=
  (pe_lc hc hN hi ok hg ht he hs).imp fun _ _ _ h => lc_imp hin h
theorem s_setLc (i : Nat) {y : Str} {py spos : Pos} (hc : X.calm = true) (hN : X.N.Nodup) (hsw : swapsWith (.ListComp elt [⟨tgE, iter, ifs, 0⟩] scope pos) (some (.Name y py)) spos.line X.env = pure true) (hi : PI X tgE iter (RI (X.D tl) fi)) (ok : BlkOk X.N X.env.scope scope own) (hin : ∀ i ∈ is, i ∈ own.map (·.2))
    (hg : ∀ (s : Shared) (H : Hp) (C : Addr) (cl : List (Str × Addr)) (fp : List Addr), PG (X.blk s H scope (compEnvC scope cl C X.env) fp) tgE (RG (X.D tl) is tg)) (ht : ∀ (s : Shared) (H : Hp) (C : Addr) (cl : List (Str × Addr)) (fp : List Addr), PTs (X.blk s H scope (compEnvC scope cl C X.env) fp) ifs (RT (X.D tl) tt))
    (he : ∀ (s : Shared) (H : Hp) (C : Addr) (cl : List (Str × Addr)) (fp : List Addr), PE (X.blk s H scope (compEnvC scope cl C X.env) fp) elt (RD (X.D tl) te)) (hs : ∀ x, foldedSetIterable iter X.env x = pure x := by intro _; rfl)
    (hy : X.N[i]? = some y := by rfl) (hyl : X.env.scope.names.lookup y = some .local := by rfl) :
    PS X (.Assign [.Name y py] (.ListComp elt [⟨tgE, iter, ifs, 0⟩] scope pos) spos) (RS (X.D tl) (setS i (lcD (own.map (·.2)) fi tg tt te))) :=
  (ps_setLc hc hN hy hyl hsw hi ok hg ht he hs).imp fun D σ H h => by
    obtain ⟨P, B, L, ρ, o, R, e, k⟩ := h
    obtain ⟨⟨r, ρ1⟩, e1, e2⟩ := Option.bind_eq_some_iff.mp e
    obtain ⟨ρ2, e3, e4⟩ := Option.map_eq_some_iff.mp e2
    subst e4
    refine lc_imp hin ⟨P, B, L, ρ, r, ρ1, R, e1, fun x H' L' E' p v => ?_⟩
    obtain ⟨E2, Lb, R2, h1, h2, _⟩ := stV_of p.rep v e3
    exact k _ H' Lb R2.drop (step_more p.step p.esub h2)
end
end DL
end
noncomputable section
namespace DL
open PySem PySem.Spec PyProof.Rows L2
structure FnG (P : Program) (w : World) (K : PySem.W.Frag) (mg : Str → Option Value) (base : Heap) (CX : CXT) (k : Nat) (f : Addr) (fd : FuncData) (ps : List Str) (sp : Sp) : Prop where
  len : ∀ vs H Q E, sp vs H Q E → vs.length = ps.length
  go : ∀ (A : Around) (outer : List PySem.Env) (s : Shared) (H : Hp) (args : Args) (us : List Value) (vs : List V) (Q : VK) (E : XK), A.guards = some [] → Room k A → Env0 P w K mg base A outer s H → BindsTo s fd args (ps.zip us) → Vals vs us → sp vs H Q E →
    codeAny (model P w) A (.call (.ref f) args) (CR CX outer P w H s Q E) s
section
variable {P : Program} {w : World} {K : PySem.W.Frag} {mg : Str → Option Value} {base : Heap} {CX : CXT}
theorem FnG.up {j k : Nat} {f : Addr} {fd : FuncData} {ps : List Str} {sp : Sp} (F : FnG P w K mg base CX j f fd ps sp) (h : j ≤ k) : FnG P w K mg base CX k f fd ps sp :=
  ⟨F.len, fun A outer s H args us vs Q E hA hr => F.go A outer s H args us vs Q E hA (hr.mono h)⟩
/-- a body's reading keeps the promise -/
theorem FnG.body {x qual : Str} {st : Stmt} {f : Addr} {fd : FuncData} {N ps : List Str} {k : Nat} {sp : Sp} (F : Fun K x qual st f fd) (S : FnScope N ps (defScope st)) (len : ∀ vs H Q E, sp vs H Q E → vs.length = ps.length)
    (hb : ∀ (cdv : Value) (A : Around) (outer : List PySem.Env) (s : Shared) (H : Hp) (vs : List V) (Q : VK) (E : XK), fd.code = cdv → (A.deeper (envOfC qual (defScope st) s.heap.objs.size f cdv)).guards = some [] → Room k (A.deeper (envOfC qual (defScope st) s.heap.objs.size f cdv)) → sp vs H Q E →
      ∃ t, PSs (cxOf CX P w K mg base N qual (defScope st) f cdv A outer s H E) (defBody st) t ∧ t { nx := fun _ H' => Q .non H', rt := Q } (start N vs) H) : FnG P w K mg base CX (k + 1) f fd ps sp := by
  obtain ⟨oc, od, kV, doc, pm, an, cdv, ct, osl, rfl, lk, hcd⟩ := F.ex
  refine ⟨len, ?_⟩
  intro A outer s H args us vs Q E hA hr e0 hbind rv hsp
  have eqLen := len _ _ _ _ hsp
  have stay : ∀ b o, base.get? b = some o → s.heap.get? b = some o := fun b o e => (e0.bs b o e).1
  have inK : K.In s.heap := e0.mod.kin.keeps stay
  have noLim : s.heap.NoLimit := e0.mod.nolimit.keeps stay
  have params : ∀ y ∈ ps.zip us, (defScope st).names.lookup y.1 = some .local ∨ ((defScope st).names.lookup y.1 = some .cell ∧ ((cellsFrom (s.heap.objs.size + 1) (defScope st).names []).lookup y.1).isSome = true) := by
    intro y hy
    rcases S.par y.1 (List.of_mem_zip (a := y.1) (b := y.2) hy).1 with q | q
    · exact Or.inl q
    · exact Or.inr ⟨q, PySem.W.cellsFrom_some _ _ _ (Or.inl q)⟩
  apply codeAny_call_function hr.depth (inK _ _ lk) rfl S.co S.gen rfl (PySem.W.codeRec_of inK hcd)
  apply hbind
  apply wpAny_newFunctionEnv_cells S.kind params
  intro env henv s1 ic
  subst henv
  refine ⟨noLim.keeps ic.toInCall.keep, ?_⟩
  apply codeAny_func
  obtain ⟨t, ht, hq⟩ := hb cdv A outer s H vs Q E rfl hA (hr.deeper _) hsp
  have I := inv_start (CX := CX) (P := P) (w := w) (mg := mg) (base := base) (E := E) S hr.hd e0 eqLen rv ic
  refine wpAny_mono (ht.run [] s1 (start N vs) H _ I hq) (fun fl s' hs => ?_) (fun _ _ hs => hs)
  cases fl with
  | ret u =>
    rcases hs with ⟨v, _, H', J, rv', q⟩
    exact ⟨v, H', J.os, J.bare, J.base, J.hok, rv', q⟩
  | next =>
    rcases hs with ⟨_, H', J, q⟩
    exact ⟨V.non, H', J.os, J.bare, J.base, J.hok, rfl, q⟩
  | brk =>
    rcases hs with ⟨_, _, _, q⟩
    exact q.elim
  | cont =>
    rcases hs with ⟨_, _, _, q⟩
    exact q.elim
end
section
variable {X : Cx} {CX : CXT} {k : Nat} {f : Addr} {fd : FuncData} {ps : List Str} {sp : Sp} {E : XK} {x : Str} {p pos : Pos} {e : Expr} {es : List Expr} {t : TA}
theorem g_call (F : FnG X.prog X.w X.K X.mg X.base CX k f fd ps sp) (hA : X.A.guards = some []) (hr : Room k X.A) (hg : Gl X x) (hm : X.mg x = some (.ref f)) (hk : PySem.W.keepIn X.K (.ref f) = true) (hb : Binds X.K fd ps []) (hx : Passes CX X E) (ha : PA X (e :: es) t)
    (hdb : (x == ("__debug__" : Str)) = false := by decide) (he : starEach (e :: es) X.env = (false, eval e X.env) :: starEach es X.env := by rfl) (hpl : (backTo pos (starEach es X.env)).any (·.1) = false := by rfl) :
    PE X (.Call (.Name x p) (e :: es) [] pos) (fun σ H Q => t σ H fun vs H1 => sp vs H1 Q E) := by
  constructor
  intro pins s σ H Q I h
  apply wpAny_Call_Name_kw
  apply ld_glob I hg hm _ hdb
  apply PySem.W.callWith_K (h₀ := X.base) I.ok.mod.kin hk _ he hpl
  refine thn (ha.run pos pins s σ H _ I h) fun us s1 hq => ?_
  rcases hq with ⟨vs, H1, I1, r, q⟩
  refine ⟨I1.kIn, ?_⟩
  have lenU : us.length = ps.length := by rw [← r.length]; exact F.len _ _ _ _ q
  have bnd := hb s1 us I1.kIn (by rw [List.append_nil]; exact lenU)
  rw [List.append_nil] at bnd
  apply wpAny_call
  refine codeAny_mono (F.go X.A X.stack s1 H1 ⟨us, []⟩ us vs Q E hA hr I1.env0 bnd r q) ?_
  intro res s' hres
  cases res with
  | error e => exact hx pins σ H1 s1 e s' I1 hres
  | ok fl =>
    cases fl with
    | ret u => exact I1.after hres
    | next => exact hres.elim
    | brk => exact hres.elim
    | cont => exact hres.elim
end
end DL
end
noncomputable section
namespace DL
open PySem PySem.Spec PyProof.Rows L2
def flatV' : Val → Bool
  | .cl .none | .cl (.bool _) | .cl (.int _) | .cl (.str _) => true
  | _ => false
def RRes (K : Fg) (P : List Addr) (H H' : Hp) (E : List Addr) (x : V) : Val → Prop
  | .cl d => E = [] ∧ Dq K H' P x d
  | .own ds => ∃ a vs, E = [a] ∧ x = V.ref a ∧ H a = none ∧ H' a = some (.lst vs) ∧ DqA K H' (a :: P) vs ds
  | .sl _ => False
abbrev FP := List PyData → Option Val
abbrev FM := List PyData → List PyData → Option (Val × List PyData)
def spP (K : Fg) (n : Nat) (F : FP) : Sp := fun vs H Q _ => vs.length = n ∧ ∃ P ds r, (Lists H P ∧ DL.Tabs K.T H) ∧ DqA K H P vs ds ∧ F ds = some r ∧ ∀ x H' E, Keep [] H H' → RRes K P H H' E x r → Q x H'
def spM (K : Fg) (n : Nat) (F : FM) : Sp := fun vs H Q _ => vs.length = n + 1 ∧ ∃ P b us ws cs ds r cs', vs = V.ref b :: ws ∧ (Lists H P ∧ DL.Tabs K.T H) ∧ b ∉ P ∧ H b = some (.lst us) ∧ DqA K H (P ++ [b]) us cs ∧ DqA K H (P ++ [b]) ws ds ∧ F cs ds = some (r, cs') ∧
  ∀ x H' us' E, Keep [b] H H' → H' b = some (.lst us') → DqA K H' (E ++ (P ++ [b])) us' cs' → RRes K (P ++ [b]) H H' E x r → Q x H'
def retV (ρ : DL.Env) : Val → Option Val
  | .cl d => some (.cl d)
  | .own ds => some (.own ds)
  | .sl i => match ρ.getD i .no with
    | .op ds => some (.own ds)
    | .cl d => some (.cl d)
    | .dk t ds => some (.cl (dOf t ds))
    | _ => none
def argE (N : Nat) (ds : List PyData) : DL.Env := ds.map Cell.cl ++ List.replicate (N - ds.length) .no
def argM (N : Nat) (cs ds : List PyData) : DL.Env := Cell.pm cs :: (ds.map Cell.cl ++ List.replicate (N - (ds.length + 1)) .no)
def runP (N : Nat) (g : SD) : FP := fun ds => (g (argE N ds)).bind fun o => match o with
  | .rt r ρ' => retV ρ' r
  | .nx _ => some (.cl .none)
  | _ => none
def runM (N : Nat) (g : SD) : FM := fun cs ds => (g (argM N cs ds)).bind fun o => match o with
  | .rt r ρ' => match ρ'.getD 0 .no with
    | .pm cs' => (retV ρ' r).map fun v => (v, cs')
    | _ => none
  | .nx ρ' => match ρ'.getD 0 .no with
    | .pm cs' => some (.cl .none, cs')
    | _ => none
  | _ => none
section
variable {K : Fg} {P : List Addr} {H H' : Hp}
theorem start_get (N : List Str) (vs : List V) (i : Nat) : (L2.start N vs)[i]? = if i < vs.length then vs[i]?.map some else if i < N.length then some none else (L2.start N vs)[i]? := by
  unfold L2.start
  by_cases h : i < vs.length
  · rw [if_pos h, List.getElem?_append_left (by simpa using h), List.getElem?_map]
  · rw [if_neg h]
    by_cases h2 : i < N.length
    · rw [if_pos h2, List.getElem?_append_right (by simpa using h), List.length_map, List.getElem?_replicate]
      simp
      omega
    · rw [if_neg h2]
theorem start_len {N : List Str} {vs : List V} (h : vs.length ≤ N.length) : (L2.start N vs).length = N.length := by
  unfold L2.start
  rw [List.length_append, List.length_map, List.length_replicate]
  omega
theorem argE_get {N : Nat} {ds : List PyData} {i : Nat} : (argE N ds).getD i .no = match ds[i]? with
    | some d => .cl d
    | none => .no := by
  unfold argE
  rw [List.getD_eq_getElem?_getD]
  by_cases h : i < ds.length
  · rw [List.getElem?_append_left (by simpa using h), List.getElem?_map, List.getElem?_eq_getElem h]
    rfl
  · rw [List.getElem?_append_right (by simpa using h), List.getElem?_replicate, List.getElem?_eq_none (by omega)]
    split <;> rfl
theorem rep_argE {N : List Str} {vs : List V} {ds : List PyData} (hl : Lists H P ∧ DL.Tabs K.T H) (h : DqA K H P vs ds) (hN : ds.length ≤ N.length) : Rep K P [] [] (L2.start N vs) (argE N.length ds) H := by
  have e := h.length
  have eP : P ++ [] ++ [] = P := by simp
  refine ⟨?_, by rw [eP]; exact hl.1, ⟨fun a _ => ⟨(fun z => nomatch z), (fun z => nomatch z)⟩, (fun a z => nomatch z)⟩, fun i => ?_, fun i j a _ h1 _ _ _ => ?_, hl.2⟩
  · rw [start_len (by omega)]
    unfold argE
    rw [List.length_append, List.length_map, List.length_replicate]
    omega
  · rw [argE_get]
    cases hd : ds[i]? with
    | none => trivial
    | some d =>
      obtain ⟨v, hv, dv⟩ := h.get hd
      have hi := (List.getElem?_eq_some_iff.mp hv).1
      refine ⟨v, ?_, ?_⟩
      · rw [start_get, if_pos hi, hv]; rfl
      · rw [eP]; exact dv
  · rw [argE_get] at h1
    cases hd : ds[i]? with
    | none => rw [hd] at h1; cases h1
    | some d => rw [hd] at h1; cases h1
theorem res_of {E' L' : List Addr} {B : List Addr} {σ' : L2.St} {ρ' : DL.Env} {r v : Val} {x : V} (R : Rep K (E' ++ P) B L' σ' ρ' H') (fE : ∀ a ∈ E', H a = none) (fL : ∀ a ∈ L', H a = none) (hP : ∀ a ∈ P ++ B, H a ≠ none) (vr : VR K E' P B L' σ' H' x r) (e : retV ρ' r = some v) :
    ∃ E, (∀ a ∈ E, a ∈ E' ∨ a ∈ L') ∧ RRes K (P ++ B) H H' E x v := by
  have s1 : ∀ a ∈ P ++ B, a ∈ E' ++ P ++ B ++ L' := fun a z => by
    rcases List.mem_append.mp z with z | z
    · exact mem4.mpr (.inr (.inl z))
    · exact mem4.mpr (.inr (.inr (.inl z)))
  cases r with
  | cl d =>
    cases e
    exact ⟨[], (fun _ z => nomatch z), rfl, Dq.sub s1 vr⟩
  | own ds =>
    cases e
    obtain ⟨a, vs, rfl, h1, h2, h3, h4⟩ := vr
    refine ⟨[a], fun b z => .inl (by rw [show b = a by simpa using z]; exact h1), a, vs, rfl, rfl, fE a h1, h3, h4.sub fun b z => ?_⟩
    rcases List.mem_cons.mp z with z | z
    · exact mem4.mpr (.inl (z ▸ h1))
    · exact s1 b z
  | sl i =>
    have q := R.ok i
    simp only [retV] at e
    revert e q
    generalize ρ'.getD i .no = c
    intro e q
    cases c with
    | no => cases e
    | pm ds => cases e
    | dk t ds =>
      cases e
      obtain ⟨a, u, e1, h1, h2, h3⟩ := q
      have e2 : some (some x) = some (some (V.ref a)) := (show σ'[i]? = _ from vr).symm.trans e1
      cases e2
      have hn : a ∉ P ++ B := fun z => by
        have z' := fL a h1
        exact hP a z z'
      refine ⟨[], (fun _ z => nomatch z), rfl, ?_⟩
      cases t with
      | true =>
        obtain ⟨ks, rfl, h3⟩ := h3
        exact .dit hn ⟨.inl h2⟩ (h3.move (M := []) lists_nil (fun _ z => nomatch z) keep_refl fun a z => .inl (s1 a z))
      | false =>
        obtain ⟨ks, rfl, h3⟩ := h3
        exact .dic hn ⟨.inl h2⟩ (h3.move (M := []) lists_nil (fun _ z => nomatch z) keep_refl fun a z => .inl (s1 a z))
    | op ds =>
      cases e
      obtain ⟨a, vs, e1, h1, h2, h3⟩ := q
      have e2 : some (some x) = some (some (V.ref a)) := (show σ'[i]? = _ from vr).symm.trans e1
      cases e2
      refine ⟨[a], fun b z => .inr (by rw [show b = a by simpa using z]; exact h1), a, vs, rfl, rfl, fL a h1, h2, h3.sub fun b z => ?_⟩
      rcases List.mem_cons.mp z with z | z
      · exact mem4.mpr (.inr (.inr (.inr (z ▸ h1))))
      · exact s1 b z
    | cl d =>
      cases e
      obtain ⟨y, e1, h1⟩ := q
      have e2 : some (some x) = some (some y) := (show σ'[i]? = _ from vr).symm.trans e1
      cases e2
      exact ⟨[], (fun _ z => nomatch z), rfl, h1.sub s1⟩
theorem rs_runP {N : List Str} {n : Nat} {g : SD} {vs : List V} {Q : VK} {E : XK} (hN : n ≤ N.length) (h : spP K n (runP N.length g) vs H Q E) : RS K g { nx := fun _ H' => Q .non H', rt := Q } (L2.start N vs) H := by
  obtain ⟨hn, P, ds, r, hl, dq, e, k⟩ := h
  obtain ⟨o, e1, e2⟩ := Option.bind_eq_some_iff.mp e
  have hlen := dq.length
  refine ⟨P, [], [], argE N.length ds, o, rep_argE hl dq (by omega), e1, ?_⟩
  have hP : ∀ a ∈ P ++ [], H a ≠ none := fun a z => by
    obtain ⟨vs, q, _⟩ := hl.1 a (by simpa using z)
    rw [q]; exact fun y => nomatch y
  have eP : P ++ [] = P := by simp
  cases o with
  | nx ρ' =>
    cases e2
    exact fun σ' H' L' R s => k _ H' [] (by simpa using s.keep) ⟨rfl, .non⟩
  | rt r' ρ' =>
    refine fun σ' x H' L' E' R s f v => ?_
    obtain ⟨E2, _, q⟩ := res_of R f (fun a z => (s.lsub a z).elim (fun y => nomatch y) id) hP v e2
    rw [eP] at q
    exact k x H' E2 (by simpa using s.keep) q
  | ct ρ' => cases e2
  | bk ρ' => cases e2
theorem argM_getS {N : Nat} {cs ds : List PyData} {i : Nat} : (argM N cs ds).getD (i + 1) .no = match ds[i]? with
    | some d => .cl d
    | none => .no := by
  unfold argM
  rw [List.getD_eq_getElem?_getD, List.getElem?_cons_succ]
  by_cases h : i < ds.length
  · rw [List.getElem?_append_left (by simpa using h), List.getElem?_map, List.getElem?_eq_getElem h]
    rfl
  · rw [List.getElem?_append_right (by simpa using h), List.getElem?_replicate, List.getElem?_eq_none (by omega)]
    split <;> rfl
theorem rep_argM {N : List Str} {b : Addr} {us ws : List V} {cs ds : List PyData} (hl : Lists H P ∧ DL.Tabs K.T H) (hb : b ∉ P) (h0 : H b = some (.lst us)) (h1 : DqA K H (P ++ [b]) us cs) (h : DqA K H (P ++ [b]) ws ds) (hN : ds.length + 1 ≤ N.length) : Rep K P [b] [] (L2.start N (V.ref b :: ws)) (argM N.length cs ds) H := by
  have e := h.length
  have eP : P ++ [b] ++ [] = P ++ [b] := by simp
  have nOpen : ∀ i, ((argM N.length cs ds).getD i .no).isOpen = true → i = 0 := fun i hi => by
    cases i with
    | zero => rfl
    | succ i =>
      rw [argM_getS] at hi
      cases hd : ds[i]? with
      | none => rw [hd] at hi; cases hi
      | some d => rw [hd] at hi; cases hi
  refine ⟨?_, fun a z => ?_, ⟨fun a z => ⟨fun y => hb ((show a = b by simpa using y) ▸ z), (fun y => nomatch y)⟩, (fun a _ z => nomatch z)⟩, fun i => ?_, fun i j a hij h1 h2 _ _ => hij ((nOpen i h1).trans (nOpen j h2).symm), hl.2⟩
  · rw [start_len (by rw [List.length_cons]; omega)]
    unfold argM
    rw [List.length_cons, List.length_append, List.length_map, List.length_replicate]
    omega
  · rw [eP] at z
    rcases List.mem_append.mp z with z | z
    · exact hl.1 a z
    · exact ⟨_, by rw [show a = b by simpa using z]; exact h0, .lst us⟩
  · cases i with
    | zero =>
      refine ⟨b, us, ?_, by simp, h0, by rw [eP]; exact h1⟩
      rw [start_get, if_pos (by simp)]; rfl
    | succ i =>
      rw [argM_getS]
      cases hd : ds[i]? with
      | none => trivial
      | some d =>
        obtain ⟨v, hv, dv⟩ := h.get hd
        have hi := (List.getElem?_eq_some_iff.mp hv).1
        refine ⟨v, ?_, by rw [eP]; exact dv⟩
        rw [start_get, if_pos (by simpa using hi), List.getElem?_cons_succ, hv]; rfl
theorem rs_runM {N : List Str} {n : Nat} {g : SD} {vs : List V} {Q : VK} {E : XK} (hN : n + 1 ≤ N.length) (h : spM K n (runM N.length g) vs H Q E) : RS K g { nx := fun _ H' => Q .non H', rt := Q } (L2.start N vs) H := by
  obtain ⟨hn, P, b, us, ws, cs, ds, r, cs', rfl, hl, hb, h0, d1, d2, e, k⟩ := h
  obtain ⟨o, e1, e2⟩ := Option.bind_eq_some_iff.mp e
  have hlen := d2.length
  have hws : ws.length = n := by simpa using hn
  refine ⟨P, [b], [], argM N.length cs ds, o, rep_argM hl hb h0 d1 d2 (by omega), e1, ?_⟩
  have hP : ∀ a ∈ P ++ [b], H a ≠ none := fun a z => by
    rcases List.mem_append.mp z with z | z
    · obtain ⟨vs, q, _⟩ := hl.1 a z
      rw [q]; exact fun y => nomatch y
    · rw [show a = b by simpa using z, h0]; exact fun y => nomatch y
  have keep : ∀ {L' : List Addr} {H' : Hp}, Step [b] [] H L' H' → Keep [b] H H' := fun s => by simpa using s.keep
  -- what stands in the first slot
  have bag : ∀ {E' L' : List Addr} {σ' : L2.St} {ρ' : DL.Env} {H' : Hp} {c' : List PyData}, Rep K (E' ++ P) [b] L' σ' ρ' H' → ρ'.getD 0 .no = .pm c' → ∃ us', H' b = some (.lst us') ∧ DqA K H' ((E' ++ P) ++ [b] ++ L') us' c' := fun {E' L' σ' ρ' H' c'} R e => by
    have q := R.ok 0
    rw [e] at q
    obtain ⟨a, us', _, ha, h1, h2⟩ := q
    rw [show a = b by simpa using ha] at h1
    exact ⟨us', h1, h2⟩
  cases o with
  | nx ρ' =>
    refine fun σ' H' L' R s => ?_
    simp only at e2
    split at e2
    · rename_i c' hc
      cases e2
      obtain ⟨us', q1, q2⟩ := bag (E' := []) R hc
      exact k _ H' us' [] (keep s) q1 (q2.sub fun a z => List.mem_append_left _ (by simpa using z)) ⟨rfl, .non⟩
    · cases e2
  | rt r' ρ' =>
    refine fun σ' x H' L' E' R s f v => ?_
    simp only at e2
    split at e2
    · rename_i c' hc
      obtain ⟨v', e3, e4⟩ := Option.map_eq_some_iff.mp e2
      cases e4
      obtain ⟨us', q1, q2⟩ := bag R hc
      obtain ⟨E2, hE, q⟩ := res_of R f (fun a z => (s.lsub a z).elim (fun y => nomatch y) id) hP v e3
      refine k x H' us' E2 (keep s) q1 (q2.sub fun a z => ?_) q
      rcases List.mem_append.mp z with z | z
      · rcases hE a z with z | z
        · exact List.mem_append_left _ (List.mem_append_left _ (List.mem_append_left _ z))
        · exact List.mem_append_right _ z
      · rcases List.mem_append.mp z with z | z
        · exact List.mem_append_left _ (List.mem_append_left _ (List.mem_append_right _ z))
        · exact List.mem_append_left _ (List.mem_append_right _ z)
    · cases e2
  | ct ρ' => cases e2
  | bk ρ' => cases e2
end
end DL
end
noncomputable section
namespace DL
open PySem PySem.Spec PyProof.Rows L2
section
variable {P : Program} {w : World} {K : Fg} {mg : Str → Option Value} {base : Heap}
theorem FnG.pure {x qual : Str} {st : Stmt} {f : Addr} {fd : FuncData} {N ps : List Str} {k n : Nat} {g : SD} (F : Fun K x qual st f fd) (S : FnScope N ps (defScope st)) (hn : ps.length = n) (hN : n ≤ N.length)
    (hb : ∀ (cdv : Value) (A : Around) (outer : List PySem.Env) (s : Shared) (H : Hp) (E : XK), (A.deeper (envOfC qual (defScope st) s.heap.objs.size f cdv)).guards = some [] → Room k (A.deeper (envOfC qual (defScope st) s.heap.objs.size f cdv)) →
      PSs (cxOf CX0 P w K mg base N qual (defScope st) f cdv A outer s H E).nox (defBody st) (RS K g)) : FnG P w K mg base CX0 (k + 1) f fd ps (spP K n (runP N.length g)) :=
  FnG.body F S (fun vs H Q E h => h.1.trans hn.symm) fun cdv A outer s H vs Q E _ hA hr h => ⟨_, (hb cdv A outer s H E hA hr).nox, rs_runP hN h⟩
theorem FnG.mut {x qual : Str} {st : Stmt} {f : Addr} {fd : FuncData} {N ps : List Str} {k n : Nat} {g : SD} (F : Fun K x qual st f fd) (S : FnScope N ps (defScope st)) (hn : ps.length = n + 1) (hN : n + 1 ≤ N.length)
    (hb : ∀ (cdv : Value) (A : Around) (outer : List PySem.Env) (s : Shared) (H : Hp) (E : XK), (A.deeper (envOfC qual (defScope st) s.heap.objs.size f cdv)).guards = some [] → Room k (A.deeper (envOfC qual (defScope st) s.heap.objs.size f cdv)) →
      PSs (cxOf CX0 P w K mg base N qual (defScope st) f cdv A outer s H E).nox (defBody st) (RS K g)) : FnG P w K mg base CX0 (k + 1) f fd ps (spM K n (runM N.length g)) :=
  FnG.body F S (fun vs H Q E h => h.1.trans hn.symm) fun cdv A outer s H vs Q E _ hA hr h => ⟨_, (hb cdv A outer s H E hA hr).nox, rs_runM hN h⟩
end
def callP (n : Nat) (F : FP) (t : AD) : ED := callD t fun ρ rs => (psAll ρ rs).bind fun p => if p.1.length = n then (F p.1).bind fun r => if flatV' r = true then some (r, ρ) else some (r, p.2) else none
def callM (j n : Nat) (F : FM) (t : AD) : ED := fun ρ => (opAt ρ j).bind fun _ => (t ρ).bind fun p => (psAll p.2 p.1).bind fun q => (opAt q.2 j).bind fun c => if q.1.length = n then (F c.2 q.1).bind fun s => some (s.1, opSet q.2 j c.1 s.2) else none
section
variable {K : Fg} {P B L E : List Addr} {σ : L2.St} {ρ ρ' : DL.Env} {H H' : Hp} {x : V} {r : Val}
theorem Dq.flat {W W' : List Addr} (hf : flatV' r = true) (h : VR K E P B L σ H x r) : ∃ d, r = .cl d ∧ ∀ {H'' : Hp} {W'' : List Addr}, Dq K H'' W'' x d := by
  cases r with
  | cl d =>
    refine ⟨d, rfl, fun {H'' W''} => ?_⟩
    have h' : Dq K H _ x d := h
    cases d with
    | none => cases h'; exact .non
    | bool b => cases h'; exact .bl b
    | int i => cases h'; exact .int i
    | str s => cases h'; exact .str s
    | _ => cases hf
  | _ => cases hf
theorem flat_res {P' : List Addr} (hf : flatV' r = true) (h : RRes K P' H H' E x r) : ∃ d, r = .cl d ∧ ∀ {H'' : Hp} {W'' : List Addr}, Dq K H'' W'' x d := by
  cases r with
  | cl d =>
    refine ⟨d, rfl, fun {H'' W''} => ?_⟩
    have h' : Dq K H' _ x d := h.2
    cases d with
    | none => cases h'; exact .non
    | bool b => cases h'; exact .bl b
    | int i => cases h'; exact .int i
    | str s => cases h'; exact .str s
    | _ => cases hf
  | _ => cases hf
theorem callP_imp {n : Nat} {F : FP} {t : AD} {σ : L2.St} {H : Hp} {Q : VK} (h : RD K (callP n F t) σ H Q) : RA K t σ H fun vs H1 => spP K n F vs H1 Q E0 := by
  obtain ⟨P, B, L, ρ, r, ρ', R0, e, k⟩ := h
  obtain ⟨⟨rs, ρ1⟩, e1, e⟩ := Option.bind_eq_some_iff.mp e
  obtain ⟨⟨ds, ρ2⟩, e2, e⟩ := Option.bind_eq_some_iff.mp e
  simp only at e
  split at e
  · rename_i hn
    obtain ⟨r', e3, e⟩ := Option.bind_eq_some_iff.mp e
    refine ⟨P, B, L, ρ, rs, ρ1, R0, e1, fun xs H1 La Ea p1 v1 => ?_⟩
    obtain ⟨E', L', R', dq, es, ls⟩ := psAll_of p1.rep v1 e2
    refine ⟨by rw [dq.length]; exact hn, E' ++ P ++ B ++ L', ds, r', ⟨R'.wl, R'.tabs⟩, dq, e3, fun x H' E2 kp q => ?_⟩
    split at e
    · rename_i hf
      cases e
      obtain ⟨d, rfl, hd⟩ := flat_res hf q
      exact k x H' La Ea ⟨p1.rep.same kp, p1.step.trans (Step.of_same kp), p1.esub⟩ (show Dq K H' _ x d from hd)
    · cases e
      have p2 := p1.then (Post.less R' es ls)
      cases r with
      | cl d => exact k x H' L' E' ⟨p2.rep.same kp, p2.step.trans (Step.of_same kp), p2.esub⟩ q.2
      | own fs =>
        obtain ⟨a, vs, rfl, rfl, hn, hh, hd⟩ := q
        have R3 := R'.move (E := [a]) kp fun b z => by
          rw [show b = a by simpa using z]
          exact ⟨hn, vs, hh⟩
        refine k (V.ref a) H' L' (a :: E') ⟨by simpa using R3, p2.step.trans (Step.of_same kp), fun b z => ?_⟩ ⟨a, vs, rfl, List.mem_cons_self .., fun z => ?_, hh, by simpa using hd⟩
        · rcases List.mem_cons.mp z with z | z
          · right
            cases eh : H b with
            | none => rfl
            | some u => exact absurd (z ▸ hn) (p1.step.ne b (by rw [eh]; exact fun y => nomatch y))
          · exact p2.esub b z
        · obtain ⟨us, q, _⟩ := R'.wl a (mem4.mpr (.inr (.inl z)))
          rw [hn] at q; cases q
      | sl i => exact q.elim
  · cases e
/-- the list of slot j is written by another hand; new lists are shut out -/
theorem Rep.wr {j : Nat} {kk : Bool} {ds ds' : List PyData} {a : Addr} {vs' : List V} {N : List Addr} (R : Rep K P B L σ ρ H) (e : opAt ρ j = some (kk, ds)) (ea : σ[j]? = some (some (V.ref a))) (kp : Keep [a] H H') (ha : H' a = some (.lst vs')) (hN : ∀ b ∈ N, H b = none ∧ ∃ vs, H' b = some (.lst vs))
    (d : DqA K H' (N ++ P ++ B ++ L) vs' ds') : Rep K (N ++ P) B L σ (opSet ρ j kk ds') H' ∧ Step B L H L H' := by
  obtain ⟨a', vs, e1, hm, hk, hh, dq, hj⟩ := opAt_of R e
  rw [ea] at e1
  cases e1
  have hop := opAt_open e
  have hW : a ∈ P ++ B ++ L := mem3.mpr (.inr (List.mem_append.mp hm))
  have hl : Lists H [a] := fun b z => ⟨_, by rw [show b = a by simpa using z]; exact hh, .lst vs⟩
  have hs : ∀ b ∈ [a], b ∈ P ++ B ++ L := fun b z => (show b = a by simpa using z) ▸ hW
  have hw : ∀ b ∈ N ++ P ++ B ++ L, b ∈ P ++ B ++ L ∨ H b = none := fun b z => by
    rw [app_assoc3] at z
    exact (List.mem_append.mp z).elim (fun z => .inr (hN b z).1) .inl
  have mv : ∀ {v : V} {d : PyData}, Dq K H (P ++ B ++ L) v d → Dq K H' (N ++ P ++ B ++ L) v d := fun h => h.move hl hs kp hw
  have mvA : ∀ {v : List V} {d : List PyData}, DqA K H (P ++ B ++ L) v d → DqA K H' (N ++ P ++ B ++ L) v d := fun h => h.move hl hs kp hw
  have nN : ∀ b ∈ N, b ∉ P ++ B ++ L := fun b z y => by
    obtain ⟨us, q, _⟩ := R.wl b y
    rw [(hN b z).1] at q; cases q
  have there : ∀ b, H b ≠ none → H' b ≠ none := fun b z => by
    by_cases q : b = a
    · rw [q, ha]; exact fun y => nomatch y
    · cases eb : H b with
      | none => exact absurd eb z
      | some o => exact kp.nn b (by rw [eb]; exact fun y => nomatch y)
  refine ⟨⟨by rw [opSet, List.length_set]; exact R.len, fun b hb => ?_, ⟨fun b hb => ?_, R.nd.2⟩, fun i => ?_, fun i i2 b hi h1 h2 => ?_, kp.tab _ R.tabs⟩, ⟨kp.mono fun b z => (show b = a by simpa using z) ▸ hm, fun b z => .inl z, there⟩⟩
  · rcases hw b hb with z | z
    · by_cases q : b = a
      · exact ⟨_, by rw [q]; exact ha, .lst vs'⟩
      · obtain ⟨us, eb, ou⟩ := R.wl b z
        exact ⟨us, kp.at eb (by simpa using q) ou.ntbl, ou⟩
    · rw [app_assoc3] at hb
      rcases List.mem_append.mp hb with y | y
      · obtain ⟨us, eb⟩ := (hN b y).2
        exact ⟨_, eb, .lst us⟩
      · obtain ⟨us, eb, _⟩ := R.wl b y
        rw [z] at eb; cases eb
  · rcases List.mem_append.mp hb with z | z
    · exact ⟨fun y => nN b z (mem3.mpr (.inr (.inl y))), fun y => nN b z (mem3.mpr (.inr (.inr y)))⟩
    · exact R.nd.1 b z
  · unfold opSet
    rw [getD_set]
    by_cases hi : j = i
    · subst hi
      rw [if_pos ⟨rfl, hj⟩]
      cases kk with
      | true => exact ⟨a, vs', ea, hk, ha, d⟩
      | false => exact ⟨a, vs', ea, hk, ha, d⟩
    · rw [if_neg fun z => hi z.1]
      have q := R.ok i
      have inj := R.inj j i a hi hop
      revert q inj
      generalize ρ.getD i .no = c
      intro q inj
      cases c with
      | no => trivial
      | cl d => obtain ⟨v, e2, h⟩ := q; exact ⟨v, e2, mv h⟩
      | op fs =>
        obtain ⟨b, us, e2, h1, h2, h3⟩ := q
        exact ⟨b, us, e2, h1, kp.at h2 (by simpa using fun z : b = a => inj rfl ea (by rw [← z]; exact e2)), mvA h3⟩
      | pm fs =>
        obtain ⟨b, us, e2, h1, h2, h3⟩ := q
        exact ⟨b, us, e2, h1, kp.at h2 (by simpa using fun z : b = a => inj rfl ea (by rw [← z]; exact e2)), mvA h3⟩
      | dk t fs =>
        obtain ⟨b, us, e2, h1, h2, h3⟩ := q
        exact ⟨b, us, e2, h1, kp.at h2 (by simpa using fun z : b = a => inj rfl ea (by rw [← z]; exact e2)) h3.own.ntbl, h3.move hl hs kp hw⟩
  · have t : ∀ m, ((opSet ρ j kk ds').getD m .no).isOpen = true → (ρ.getD m .no).isOpen = true := fun m z => by
      unfold opSet at z
      rw [getD_set] at z
      by_cases hm : j = m ∧ j < ρ.length
      · rw [← hm.1]; exact hop
      · rwa [if_neg hm] at z
    exact R.inj i i2 b hi (t i h1) (t i2 h2)
theorem callM_imp {j n : Nat} {F : FM} {t : AD} {σ : L2.St} {H : Hp} {Q : VK} (h : RD K (callM j n F t) σ H Q) : tCons (tVar j) (RA K t) σ H fun vs H1 => spM K n F vs H1 Q E0 := by
  obtain ⟨P, B, L, ρ, r, ρ', R0, e, k⟩ := h
  obtain ⟨⟨k0, c0⟩, e0, e⟩ := Option.bind_eq_some_iff.mp e
  obtain ⟨⟨rs, ρ1⟩, e1, e⟩ := Option.bind_eq_some_iff.mp e
  obtain ⟨⟨ds, ρ2⟩, e2, e⟩ := Option.bind_eq_some_iff.mp e
  obtain ⟨⟨kk, cs⟩, e4, e⟩ := Option.bind_eq_some_iff.mp e
  simp only at e
  split at e
  · rename_i hn
    obtain ⟨⟨r', cs'⟩, e3, e⟩ := Option.bind_eq_some_iff.mp e
    cases e
    obtain ⟨b, us0, el, _⟩ := opAt_of R0 e0
    refine ⟨V.ref b, el, P, B, L, ρ, rs, ρ1, R0, e1, fun xs H1 La Ea p1 v1 => ?_⟩
    obtain ⟨E', L', R', dq, es, ls⟩ := psAll_of p1.rep v1 e2
    obtain ⟨b', us, el', hm, _, hl, dc, _⟩ := opAt_of R' e4
    rw [el] at el'
    cases el'
    have hbW : b ∈ E' ++ P ++ B ++ L' := mem3.mpr (.inr (List.mem_append.mp hm))
    have hsub : ∀ a ∈ less (E' ++ P ++ B ++ L') b ++ [b], a ∈ E' ++ P ++ B ++ L' := fun a z => by
      rcases List.mem_append.mp z with z | z
      · exact (mem_less.mp z).1
      · exact (show a = b by simpa using z) ▸ hbW
    have hsup : ∀ a ∈ E' ++ P ++ B ++ L', a ∈ less (E' ++ P ++ B ++ L') b ++ [b] := fun a z => by
      by_cases q : a = b
      · exact List.mem_append_right _ (by simp [q])
      · exact List.mem_append_left _ (mem_less.mpr ⟨z, q⟩)
    have p2 := p1.then (Post.less R' es ls)
    refine ⟨by rw [List.length_cons, dq.length, hn], less (E' ++ P ++ B ++ L') b, b, us, xs, cs, ds, r', cs', rfl, ⟨fun a z => R'.wl a (mem_less.mp z).1, R'.tabs⟩, fun z => (mem_less.mp z).2 rfl, hl, dc.sub hsub, dq.sub hsub, e3, fun x H' us' E2 kp hb' d' q => ?_⟩
    have hE2 : ∀ a ∈ E2, H1 a = none ∧ ∃ vs, H' a = some (.lst vs) := fun a z => by
      cases r' with
      | cl d => rw [q.1] at z; exact nomatch z
      | own fs =>
        obtain ⟨a', vs, rfl, _, h1, h2, _⟩ := q
        rw [show a = a' by simpa using z]
        exact ⟨h1, vs, h2⟩
      | sl i => exact q.elim
    have d2 : DqA K H' (E2 ++ (E' ++ P) ++ B ++ L') us' cs' := d'.sub fun a z => by
      rw [app_assoc3] at z
      rcases List.mem_append.mp z with z | z
      · exact List.mem_append_left _ z
      · exact List.mem_append_right _ (hsup a z)
    obtain ⟨R3, s3⟩ := R'.wr e4 el kp hb' hE2 d2
    refine k x H' L' (E2 ++ E') ⟨by simpa using R3, p2.step.trans s3, fun a z => ?_⟩ ?_
    · rcases List.mem_append.mp z with z | z
      · right
        cases eh : H a with
        | none => rfl
        | some u => exact absurd (hE2 a z).1 (p1.step.ne a (by rw [eh]; exact fun y => nomatch y))
      · exact p2.esub a z
    · cases r' with
      | cl d =>
        obtain ⟨rfl, h2⟩ := q
        exact Dq.sub hsup h2
      | own fs =>
        obtain ⟨a, vs, rfl, rfl, h1, h2, h3⟩ := q
        refine ⟨a, vs, rfl, by simp, fun z => ?_, h2, h3.sub fun c z => ?_⟩
        · obtain ⟨us, q, _⟩ := R'.wl a (mem4.mpr (.inr (.inl z)))
          rw [h1] at q; cases q
        · rcases List.mem_cons.mp (show c ∈ a :: (E' ++ P ++ B ++ L') by simpa using z) with z | z
          · rw [z]; exact List.mem_cons_self ..
          · exact List.mem_cons_of_mem _ (hsup c z)
      | sl i => exact q.elim
  · cases e
end
section
variable {X : Cx} {tl : TL} {k n : Nat} {f : Addr} {fd : FuncData} {ps : List Str} {x y : Str} {p pos py : Pos} {e : Expr} {es : List Expr} {t : AD}
theorem d_callP {F : FP} (G : FnG X.prog X.w (X.D tl) X.mg X.base CX0 k f fd ps (spP (X.D tl) n F)) (hA : X.A.guards = some []) (hr : Room k X.A) (hm : X.mg x = some (.ref f)) (hk : PySem.W.keepIn (X.D tl) (.ref f) = true) (hb : Binds (X.D tl) fd ps []) (ha : PA X (e :: es) (RA (X.D tl) t)) (hg : Gl X x := by rfl)
    (hdb : (x == ("__debug__" : Str)) = false := by decide) (he : starEach (e :: es) X.env = (false, eval e X.env) :: starEach es X.env := by rfl) (hpl : (backTo pos (starEach es X.env)).any (·.1) = false := by rfl) :
    PE X (.Call (.Name x p) (e :: es) [] pos) (RD (X.D tl) (callP n F t)) := (g_call G hA hr hg hm hk hb pass0 ha hdb he hpl).imp fun _ _ _ h => callP_imp h
theorem d_callM {F : FM} (j : Nat) (G : FnG X.prog X.w (X.D tl) X.mg X.base CX0 k f fd ps (spM (X.D tl) n F)) (hA : X.A.guards = some []) (hr : Room k X.A) (hm : X.mg x = some (.ref f)) (hk : PySem.W.keepIn (X.D tl) (.ref f) = true) (hb : Binds (X.D tl) fd ps []) (ha : PA X es (RA (X.D tl) t)) (hg : Gl X x := by rfl)
    (hN : X.N[j]? = some y := by rfl) (hv : Vis X.env.scope y := by first | exact Or.inl rfl | exact Or.inr (Or.inl rfl) | exact Or.inr (Or.inr rfl)) (hd : (y == ("__debug__" : Str)) = false := by decide) (hcd : (y == ("__classdict__" : Str)) = false := by decide)
    (hdb : (x == ("__debug__" : Str)) = false := by decide) (he : starEach ((.Name y py) :: es) X.env = (false, eval (.Name y py) X.env) :: starEach es X.env := by rfl) (hpl : (backTo pos (starEach es X.env)).any (·.1) = false := by rfl) :
    PE X (.Call (.Name x p) ((.Name y py) :: es) [] pos) (RD (X.D tl) (callM j n F t)) := (g_call G hA hr hg hm hk hb pass0 (pa_cons (pe_var hN hv hd hcd) ha he) hdb he hpl).imp fun _ _ _ h => callM_imp h
end
end DL
end
set_option maxHeartbeats 1000000
noncomputable section
namespace DL
open PySem PySem.Spec PyProof.Rows L2
theorem tm_same (l : Addr) (items : Array Value) (n : Nat) (dd : Option Addr) (sl : Array (Option Value)) (x : Int) (u : Tok) (c0 : (decide (x < -(2 ^ 63)) || decide (x ≥ 2 ^ 63)) = false) (c1 : (items.isEmpty || x == 1) = true) :
    Meets (Builtin.«tuple.__mul__» ⟨[.ref l, .int x u], []⟩) (fun _ R s => s.heap.get? l = some { cls := .type "tuple", dict := dd, data := .seq items n, slots := sl } ∧ R (.ok (.ret (Value.ref l))) s) :=
  .of_wp fun prog w A R s h => by
    obtain ⟨hp, g, d, tk, os⟩ := s
    obtain ⟨hl, h⟩ := h
    have f1 := AutoSeq1.idx_int
    wp_walk using wpAny_loadPart' hl
    refine wpAny_ite_false (decide_eq_false (fun z => Bool.false_ne_true (c0.symm.trans z))) ?_
    wp_walk using wpAny_loadPart' hl
    exact ⟨_, rfl, h⟩
theorem tm_none (l : Addr) (items : Array Value) (n : Nat) (dd : Option Addr) (sl : Array (Option Value)) (x : Int) (u : Tok) (c0 : (decide (x < -(2 ^ 63)) || decide (x ≥ 2 ^ 63)) = false) (c1 : (items.isEmpty || x == 1) = false) (c2 : (decide (x ≤ 0) || items.isEmpty) = true) :
    Meets (Builtin.«tuple.__mul__» ⟨[.ref l, .int x u], []⟩) (fun _ R s => s.heap.get? l = some { cls := .type "tuple", dict := dd, data := .seq items n, slots := sl } ∧
      R (.ok (.ret (Value.ref s.heap.objs.size))) { s with heap := s.heap.push { cls := Value.type "tuple", data := Data.seq #[] } }) :=
  .of_wp fun prog w A R s h => by
    obtain ⟨hp, g, d, tk, os⟩ := s
    obtain ⟨hl, h⟩ := h
    have f1 := AutoSeq1.idx_int
    wp_walk using wpAny_loadPart' hl
    refine wpAny_ite_false (decide_eq_false (fun z => Bool.false_ne_true (c0.symm.trans z))) ?_
    wp_walk using wpAny_loadPart' hl
    exact ⟨_, rfl, h⟩
def rRepS (K : Fg) : R2 := fun x y H Q => ∃ l k xs, x = .ref l ∧ y = .int k ∧ SqT K H l xs ∧ -(2 ^ 62) ≤ k ∧ k < 2 ^ 62 ∧ (if xs = [] ∨ k = 1 then Q (.ref l) H else k ≤ 0 ∧ NewT H Q [])
theorem op_repS {X : Cx} {tl : TL} : OpR X (binaryOp .Mult) (rRepS (X.D tl)) := by
  intro pins s σ H x y v u Q I rx ry h
  obtain ⟨l, k, xs, rfl, rfl, hT, hk1, hk2, q⟩ := h
  cases rx
  obtain ⟨t, rfl⟩ := ry
  obtain ⟨its, r, ⟨⟨cls, dd, data, sl⟩, ho, hc, n, hd⟩, hs⟩ := I.tuple hT
  simp only at hc hd
  subst hc hd
  have c0 : (decide (k < -(2 ^ 63)) || decide (k ≥ 2 ^ 63)) = false := by
    rw [decide_eq_false (by omega), decide_eq_false (by omega)] <;> rfl
  have hemp : its.toArray.isEmpty = decide (xs = []) := by
    cases r with
    | nil => rfl
    | cons _ _ => simp
  have fin : ∀ {Q' : Value → Shared → Prop}, wpAny (model X.prog X.w) X.A (call (.builtin "tuple.__mul__") [.ref l, .int k t]) Q' X.xe s → wpAny (model X.prog X.w) X.A (binaryOp .Mult (.ref l) (.int k t)) Q' X.xe s := fun hw =>
    wpAny_binaryOp_repeat_ref (T := "tuple") (U := "int") (by decide) ⟨_, ho, rfl⟩ (fun s' => typeIs_int s' k t) noFill_tuple_mul F.fills_int_mul F.slot_int_rmul repeat_tuple F.slot_int_index.lookup
      (call_meets F.slot_int_rmul (typeIs_int s k t) F.entry_int_rmul (F.args_int_rmul_2 _ _) (int_rmul_tuple k t l its.toArray n dd sl) ⟨ho, rfl, ⟨_, ho, rfl⟩, hw⟩)
  by_cases hw : xs = [] ∨ k = 1
  · rw [if_pos hw] at q
    have c1 : (its.toArray.isEmpty || k == 1) = true := by
      rw [hemp]
      rcases hw with e | e
      · simp [e]
      · simp [e]
    exact fin (call_meets F.slot_tuple_mul ⟨_, ho, rfl⟩ F.entry_tuple_mul (F.args_tuple_mul_2 _ _) (tm_same l its.toArray n dd sl k t c0 c1) ⟨ho, ⟨.ref l, H, I, rfl, q⟩⟩)
  · rw [if_neg hw] at q
    have c1 : (its.toArray.isEmpty || k == 1) = false := by
      rw [hemp]
      simp only [not_or] at hw
      simp [hw.1, hw.2]
    have c2 : (decide (k ≤ 0) || its.toArray.isEmpty) = true := by simp [q.1]
    refine fin (call_meets F.slot_tuple_mul ⟨_, ho, rfl⟩ F.entry_tuple_mul (F.args_tuple_mul_2 _ _) (tm_none l its.toArray n dd sl k t c0 c1 c2) ⟨ho, ?_⟩)
    exact new_tup I .nil (Nat.zero_le _) q.2 (t' := s.toks)
def mulG : DL.Env → Val → Val → Option (Val × DL.Env) := fun ρ a b => match a, b with
  | .cl (.int i), .cl (.int j) => if i.natAbs.log2 + j.natAbs.log2 < 1000000 ∨ i.natAbs < 2 ^ 64 ∨ j.natAbs < 2 ^ 64 then some (.cl (.int (i * j)), ρ) else none
  | _, .cl (.int k) => match seqOf ρ a with
    | some (true, ds) => if -1000 ≤ k ∧ k ≤ 1000 ∧ ds.length ≤ 1000 then some (.own (List.replicate k.toNat ds).flatten, ρ) else none
    | some (false, ds) => if -1000 ≤ k ∧ k ≤ 1000 ∧ ds.length ≤ 1000 then some (.cl (.tuple (List.replicate k.toNat ds).flatten), ρ) else none
    | none => none
  | _, _ => none
def CMulB (i j : Int) : Prop := CMulW i j ∨ CMul i j
theorem op_mulB {X : Cx} : OpR X (binaryOp .Mult) (rI CMulB fun i j => .int (i * j)) := opI fun _ _ _ _ _ _ _ hc q => mul_int q (hc.elim (fun z => z.ok) fun z => z.ok)
def rMulAll (K : Fg) : R2 := fun x y H Q => rI CMulB (fun i j => .int (i * j)) x y H Q ∨ rRep x y H Q ∨ rRepF K x y H Q ∨ rRepS K x y H Q
theorem op_mulAll {X : Cx} {tl : TL} : OpR X (binaryOp .Mult) (rMulAll (X.D tl)) := op_mulB.or (op_rep.or (op_repF.or op_repS))
theorem DqA.rep {K : Fg} {H : Hp} {W : List Addr} {vs : List V} {ds : List PyData} (h : DqA K H W vs ds) : ∀ k : Nat, DqA K H W (List.replicate k vs).flatten (List.replicate k ds).flatten
  | 0 => .nil
  | k + 1 => by
    rw [List.replicate_succ, List.replicate_succ, List.flatten_cons, List.flatten_cons]
    exact h.append (DqA.rep h k)
theorem loc_mul {K : Fg} : Loc2 K (rMulAll K) mulG := by
  intro E P B L σ ρ ρ' H x y r1 r2 r Q R0 v1 v2 e c
  have hl : sizeLine = 16777216 := sizeLine_eq
  unfold mulG at e
  split at e
  · split at e
    · rename_i hz
      cases e
      refine .inl ⟨_, _, v1.int, v2.int, ?_, c.here R0 (show VR K E P B L σ H _ (.cl (.int _)) from Dq.int _)⟩
      rcases hz with z | z | z
      · exact .inl z
      · exact .inr (.inl ⟨by omega, by omega⟩)
      · exact .inr (.inr ⟨by omega, by omega⟩)
    · cases e
  · rename_i k _
    split at e
    · rename_i ds e1
      split at e
      · rename_i hz
        cases e
        obtain ⟨a, vs, rfl, h1, d1⟩ := v1.list R0 e1
        refine .inr (.inl ⟨a, k, vs, rfl, v2.int, h1, by omega, by omega, ?_, fun p hp => c.lst R0 (d1.rep _) hp⟩)
        rw [d1.length]
        have : ds.length * k.toNat ≤ 1000 * 1000 := Nat.mul_le_mul hz.2.2 (by omega)
        omega
      · cases e
    · rename_i ds e1
      split at e
      · rename_i hz
        cases e
        obtain ⟨a, vs, rfl, h1, d1⟩ := v1.tuple e1
        by_cases hb : vs ≠ [] ∧ 2 ≤ k
        · exact .inr (.inr (.inl ⟨a, k, vs, rfl, v2.int, h1.sq, hb.1, hb.2, by omega, by rw [d1.length]; exact hz.2.2, fun p ob hp po => c.tup R0 (d1.rep _) hp po⟩))
        · refine .inr (.inr (.inr ⟨a, k, vs, rfl, v2.int, h1.sq, by omega, by omega, ?_⟩))
          by_cases hw : vs = [] ∨ k = 1
          · rw [if_pos hw]
            have ee : (List.replicate k.toNat ds).flatten = ds := by
              rcases hw with q | q
              · subst q
                cases d1
                simp
              · subst q; simp
            rw [ee] at c
            exact c.here R0 (show VR K E P B L σ H _ (.cl (.tuple ds)) from .tup h1 d1)
          · rw [if_neg hw]
            simp only [not_or] at hw
            have hk : k ≤ 0 := by
              have : ¬ (2 ≤ k) := fun z => hb ⟨hw.1, z⟩
              omega
            have ee : (List.replicate k.toNat ds).flatten = [] := by
              rw [show k.toNat = 0 by omega]; rfl
            rw [ee] at c
            exact ⟨hk, fun p ob hp po => c.tup R0 .nil hp po⟩
      · cases e
    · cases e
  · cases e
mutual
theorem Dq.dp {K : Fg} {H : Hp} {W : List Addr} : ∀ {v : V} {d : PyData}, Dq K H W v d → d.hasDict = false → Dp K H v d
  | _, _, .non, _ => .non
  | _, _, .bl b, _ => .bl b
  | _, _, .int i, _ => .int i
  | _, _, .str x, _ => .str x
  | _, _, .lst h1 h2 h3, h => .lst (.of h2) (DqA.dp h3 (by simpa [PyData.hasDict] using h))
  | _, _, .tup h2 h3, h => .tup h2.sq (DqA.dp h3 (by simpa [PyData.hasDict] using h))
  | _, _, .dic _ _ _, h => by simp [PyData.hasDict] at h
  | _, _, .dit _ _ _, h => by simp [PyData.hasDict] at h
theorem DqA.dp {K : Fg} {H : Hp} {W : List Addr} : ∀ {v : List V} {d : List PyData}, DqA K H W v d → PyData.hasDictAll d = false → DpAll K H v d
  | _, _, .nil, _ => .nil
  | _, _, .cons h1 h2, h => by
    rw [PyData.hasDictAll, Bool.or_eq_false_iff] at h
    exact .cons (Dq.dp h1 h.1) (DqA.dp h2 h.2)
end
theorem hasDict_shaped {d : PyData} (h : SeqAt.shaped d = true) : d.hasDict = false := by
  have h' : (d.canLay0 && decide (d.depth ≤ 64)) = true := h
  rw [Bool.and_eq_true] at h'
  exact PyData.hasDict_of_canLay d h'.1
def eqG (neg : Bool) : DL.Env → Val → Val → Option (Val × DL.Env) := fun ρ a b => match datOf ρ a, datOf ρ b with
  | some d, some e => if SeqAt.shaped d = true ∧ SeqAt.shaped e = true then some (.cl (.bool (neg ^^ PyData.eqv d e)), ρ) else none
  | _, _ => none
theorem loc_eq {K : Fg} : Loc2 K (rEqD K) (eqG false) := by
  intro E P B L σ ρ ρ' H x y r1 r2 r Q R0 v1 v2 e c
  unfold eqG at e
  split at e
  · rename_i d f e1 e2
    split at e
    · rename_i hz
      cases e
      rw [Bool.false_xor] at c
      exact ⟨d, f, (v1.dat R0 e1).dp (hasDict_shaped hz.1), (v2.dat R0 e2).dp (hasDict_shaped hz.2), hz.1, hz.2, c.here R0 (show VR K E P B L σ H _ (.cl (.bool _)) from Dq.bl _)⟩
    · cases e
  · cases e
theorem loc_ne {K : Fg} : Loc2 K (rNeD K) (eqG true) := by
  intro E P B L σ ρ ρ' H x y r1 r2 r Q R0 v1 v2 e c
  unfold eqG at e
  split at e
  · rename_i d f e1 e2
    split at e
    · rename_i hz
      cases e
      rw [Bool.true_xor] at c
      exact ⟨d, f, (v1.dat R0 e1).dp (hasDict_shaped hz.1), (v2.dat R0 e2).dp (hasDict_shaped hz.2), hz.1, hz.2, c.here R0 (show VR K E P B L σ H _ (.cl (.bool _)) from Dq.bl _)⟩
    · cases e
  · cases e
def isNV : Val → Bool
  | .cl .none => true
  | _ => false
def isNG (neg : Bool) : DL.Env → Val → Val → Option (Val × DL.Env) := fun ρ a b => if isNV b = true then some (.cl (.bool (neg ^^ isNV a)), ρ) else none
theorem isNV_of {K : Fg} {E P B L : List Addr} {σ : L2.St} {ρ : DL.Env} {H : Hp} {x : V} {r : Val} (R : Rep K (E ++ P) B L σ ρ H) (hs : ∀ i, r ≠ .sl i ∨ (ρ.getD i .no).isOpen = true) (v : VR K E P B L σ H x r) : decide (x = V.non) = isNV r := by
  cases r with
  | cl d =>
    have v' : Dq K H _ x d := v
    cases d <;> cases v' <;> simp [isNV]
  | own ds => obtain ⟨a, _, e, _⟩ := v; simp [isNV, e]
  | sl i =>
    have h := (hs i).resolve_left fun z => z rfl
    have q := R.ok i
    revert h q
    generalize ρ.getD i .no = c
    intro h q
    have vv : σ[i]? = some (some x) := v
    cases c with
    | op ds => obtain ⟨a, _, e, _⟩ := q; rw [vv] at e; cases e; simp [isNV]
    | pm ds => obtain ⟨a, _, e, _⟩ := q; rw [vv] at e; cases e; simp [isNV]
    | dk t ds => obtain ⟨a, _, e, _⟩ := q; rw [vv] at e; cases e; simp [isNV]
    | _ => cases h
def isNG' (neg : Bool) : DL.Env → Val → Val → Option (Val × DL.Env) := fun ρ a b => match a with
  | .sl i => if (ρ.getD i .no).isOpen = true then isNG neg ρ a b else none
  | _ => isNG neg ρ a b
theorem isN_core {K : Fg} {E P B L : List Addr} {σ : L2.St} {ρ ρ' : DL.Env} {H : Hp} {x y : V} {r1 r2 r : Val} {neg : Bool} (R0 : Rep K (E ++ P) B L σ ρ H) (v1 : VR K E P B L σ H x r1) (v2 : VR K E P B L σ H y r2) (e : isNG' neg ρ r1 r2 = some (r, ρ')) :
    y = V.non ∧ ρ' = ρ ∧ r = .cl (.bool (neg ^^ decide (x = V.non))) := by
  have hs : ∀ i, r1 ≠ .sl i ∨ (ρ.getD i .no).isOpen = true := fun i => by
    by_cases h : r1 = .sl i
    · subst h
      simp only [isNG'] at e
      split at e
      · rename_i h; exact .inr h
      · cases e
    · exact .inl h
  have e' : isNG neg ρ r1 r2 = some (r, ρ') := by
    unfold isNG' at e
    split at e
    · split at e
      · exact e
      · cases e
    · exact e
  unfold isNG at e'
  split at e'
  · rename_i hn
    cases e'
    refine ⟨?_, rfl, by rw [isNV_of R0 hs v1]⟩
    cases r2 with
    | cl d => cases d <;> simp [isNV] at hn; exact v2.non
    | _ => simp [isNV] at hn
  · cases e'
theorem loc_notN {K : Fg} : Loc2 K (fun x y H Q => y = .non ∧ Q (.bl (!decide (x = .non))) H) (isNG' true) := by
  intro E P B L σ ρ ρ' H x y r1 r2 r Q R0 v1 v2 e c
  obtain ⟨h1, rfl, rfl⟩ := isN_core R0 v1 v2 e
  rw [Bool.true_xor] at c
  exact ⟨h1, c.here R0 (show VR K E P B L σ H _ (.cl (.bool _)) from Dq.bl _)⟩
def threeG (h : Int → Int → Int → Int) : DL.Env → List Val → Option (Val × DL.Env) := fun ρ rs => match rs with
  | [.cl (.int i), .cl (.int j), .cl (.int k)] => some (.cl (.int (h i j k)), ρ)
  | _ => none
def mx3 (a b c : Int) : Int := if b > a then (if c > b then c else b) else (if c > a then c else a)
def mn3 (a b c : Int) : Int := if b < a then (if c < b then c else b) else (if c < a then c else a)
def blsOf : List PyData → Option (List Bool)
  | [] => some []
  | .bool b :: ds => (blsOf ds).map (b :: ·)
  | _ => none
def quaG (h : List Bool → Bool) : DL.Env → Val → Option (Val × DL.Env) := fun ρ a => match seqOf ρ a with
  | some (true, ds) => (blsOf ds).map fun bs => (.cl (.bool (h bs)), ρ)
  | _ => none
theorem c_all {X : Cx} {tl : TL} (hc : X.calm = true) : CallR X (.builtin "all") (fun xs H Q => ∃ x, xs = [x] ∧ ∃ (a : Addr) (bs : List Bool), x = V.ref a ∧ SqL (X.D tl) H a (bs.map V.bl) ∧ Q (.bl (bs.all id)) H) := (cr_all hc).imp fun xs H Q ⟨x, e, a, bs, h, q⟩ => ⟨a, bs, by rw [e, h], q⟩
def anyG : DL.Env → List Val → Option (Val × DL.Env) := oneG (quaG fun bs => bs.any id)
def allG : DL.Env → List Val → Option (Val × DL.Env) := oneG (quaG fun bs => bs.all id)
def boolOf : Val → Option Bool
  | .cl (.bool b) => some b
  | _ => none
def andD (f g : ED) : ED := fun ρ => (f ρ).bind fun p => (boolOf p.1).bind fun b => if b = true then g p.2 else some (.cl (.bool false), p.2)
theorem boolOf_of {r : Val} {b : Bool} (e : boolOf r = some b) : r = .cl (.bool b) := by
  cases r with
  | cl d => cases d <;> simp [boolOf] at e; rw [e]
  | _ => simp [boolOf] at e
section
variable {K : Fg} {σ : L2.St} {H : Hp} {Q : VK} {f g h : ED}
theorem rd_and (hh : RD K (andD f g) σ H Q) : tAndV (RD K f) (RD K g) σ H Q := by
  obtain ⟨P, B, L, ρ, r, ρ', R0, e, k⟩ := hh
  obtain ⟨⟨r1, ρ1⟩, e1, e⟩ := Option.bind_eq_some_iff.mp e
  obtain ⟨b, e2, e3⟩ := Option.bind_eq_some_iff.mp e
  have := boolOf_of e2
  simp only at this
  subst this
  refine ⟨P, B, L, ρ, _, ρ1, R0, e1, fun x H1 La Ea p1 v1 => ⟨b, v1.bl, ?_⟩⟩
  cases b with
  | true => exact iteT (two_rd p1 k (by simpa using e3))
  | false =>
    have e4 : Val.cl (.bool false) = r ∧ ρ1 = ρ' := by simpa using e3
    obtain ⟨rfl, rfl⟩ := e4
    exact iteF (k _ _ La Ea p1 (show VR K Ea P B La σ H1 _ (.cl (.bool false)) from Dq.bl false))
/-- a op b op' c -/
def chainD (f g h : ED) (o o' : DL.Env → Val → Val → Option (Val × DL.Env)) : ED := fun ρ => (f ρ).bind fun p => (g p.2).bind fun q => if flatV' q.1 = false then none else (o q.2 p.1 q.1).bind fun s => (boolOf s.1).bind fun b =>
  if b = true then (h s.2).bind fun t => o' t.2 q.1 t.1 else some (.cl (.bool false), s.2)
end
section
variable {X : Cx} {tl : TL} {a b c : Expr} {rest : List Expr} {f g h : ED} {pos : Pos}
theorem d_one {op : BoolOp} (h : PE X a (RD (X.D tl) f)) : PE X (.BoolOp op [a] pos) (RD (X.D tl) f) := pe_one h
theorem d_and (ha : PE X a (RD (X.D tl) f)) (hb : PE X (.BoolOp .And (b :: rest) pos) (RD (X.D tl) g)) : PE X (.BoolOp .And (a :: b :: rest) pos) (RD (X.D tl) (andD f g)) := (pe_and ha hb).imp fun _ _ _ h => rd_and h
end
section
variable {X : Cx} {tl : TL} {a b c : Expr} {f g h : ED} {pos : Pos} {op op' : CmpOp} {R R' : R2} {o o' : DL.Env → Val → Val → Option (Val × DL.Env)}
theorem chain_imp {K : Fg} (l1 : Loc2 K R o) (l2 : Loc2 K R' o') {σ : L2.St} {H : Hp} {Q : VK} (hh : RD K (chainD f g h o o') σ H Q) : tChain R R' (RD K f) (RD K g) (RD K h) σ H Q := by
  obtain ⟨P, B, L, ρ, r, ρ', R0, e, k⟩ := hh
  obtain ⟨⟨r1, ρ1⟩, e1, e⟩ := Option.bind_eq_some_iff.mp e
  obtain ⟨⟨r2, ρ2⟩, e2, e⟩ := Option.bind_eq_some_iff.mp e
  simp only at e
  split at e
  · cases e
  rename_i hfl
  have hfl : flatV' r2 = true := by simpa using hfl
  obtain ⟨⟨r3, ρ3⟩, e3, e⟩ := Option.bind_eq_some_iff.mp e
  obtain ⟨bb, e4, e⟩ := Option.bind_eq_some_iff.mp e
  have := boolOf_of e4
  simp only at this
  subst this
  refine ⟨P, B, L, ρ, r1, ρ1, R0, e1, fun x H1 La Ea p1 v1 => ⟨Ea ++ P, B, La, ρ1, r2, ρ2, p1.rep, e2, fun y H2 Lb Eb p2 v2 => ?_⟩⟩
  have p := p1.two p2
  have w2 := v2.last p1.rep
  refine l1 p.rep (v1.later p1.rep p2) w2 e3 fun z H3 Lc Ec p3 v3 => ⟨bb, v3.bl, ?_⟩
  have pp := p.then p3
  cases bb with
  | false =>
    have e5 : Val.cl (.bool false) = r ∧ ρ3 = ρ' := by simpa using e
    obtain ⟨rfl, rfl⟩ := e5
    exact iteF (k _ _ Lc Ec pp (show VR K Ec P B Lc σ H3 _ (.cl (.bool false)) from Dq.bl false))
  | true =>
    simp only [if_true] at e
    obtain ⟨⟨r4, ρ4⟩, e5, e6⟩ := Option.bind_eq_some_iff.mp e
    obtain ⟨d2, rfl, hd2⟩ := Dq.flat (W := []) (W' := []) hfl w2
    refine iteT ⟨Ec ++ P, B, Lc, ρ3, r4, ρ4, pp.rep, e5, fun w H4 Ld Ed p4 v4 => ?_⟩
    have p5 := pp.two p4
    exact l2 p5.rep (show VR K (Ed ++ Ec) P B Ld σ H4 y (.cl d2) from hd2) (v4.last pp.rep) e6 (k.after p5)
theorem t_chain (ho : OpR X (compareOp op) R) (ho' : OpR X (compareOp op') R') (l1 : Loc2 (X.D tl) R o) (l2 : Loc2 (X.D tl) R' o') (ha : PE X a (RD (X.D tl) f)) (hb : PE X b (RD (X.D tl) g)) (hc : PE X c (RD (X.D tl) h)) (hm : lastMarks [op, op'] [b, c] = false := by with_unfolding_all rfl) :
    PT X (.Compare a [op, op'] [b, c] pos) (RT (X.D tl) (testD (chainD f g h o o'))) := (pt_chain ho ho' ha hb hc hm).imp fun _ _ _ h => chain_imp l1 l2 (rt_test h)
end
def repG : DL.Env → Val → Option (Val × DL.Env) := fun ρ a => match datOf ρ a with
  | some d => if (d.showable = true ∧ d.hasDict = false) ∧ d.shown.length ≤ sizeLine ∧ d.depth ≤ 60 then some (.cl (.str d.shown), ρ) else none
  | none => none
def rRepr (K : Fg) : V → Hp → VK → Prop := fun x H Q => ∃ d, Dp K H x d ∧ ((d.showable = true ∧ d.hasDict = false) ∧ d.shown.length ≤ sizeLine ∧ d.depth ≤ 60) ∧ Q (.str d.shown) H
theorem loc_repr {K : Fg} : Loc1 K (rRepr K) repG := by
  intro E P B L σ ρ ρ' H x r1 r Q R0 v1 e c
  unfold repG at e
  split at e
  · rename_i d e1
    split at e
    · rename_i hz
      cases e
      exact ⟨d, (v1.dat R0 e1).dp hz.1.2, hz, c.here R0 (show VR K E P B L σ H _ (.cl (.str _)) from Dq.str _)⟩
    · cases e
  · cases e
theorem c_repr {X : Cx} {tl : TL} (hA : X.A.guards = some []) (hu : X.A.units + 64 < cLine) : CallR X (.builtin "repr") (fun xs H Q => ∃ x, xs = [x] ∧ rRepr (X.D tl) x H Q) := by
  intro pins s σ H xs us Q I rv h
  obtain ⟨x, rfl, d, hd, ⟨⟨h1, h2⟩, h3, h4⟩, q⟩ := h
  obtain ⟨u, rfl, ru⟩ := rv.one
  obtain ⟨as, rd⟩ := Dp.reads I d x u hd ru
  have big : ∀ a, u = Value.ref a → wpAny (model X.prog X.w) X.A (call (.builtin "repr") [u]) (EP X pins σ Q) X.xe s := fun a e => by
    subst e
    exact repr_of_reads' rd h1 (PyData.noDict_hsm h2) hA (by omega) (fun _ _ e => e) (fun h' u tk hk => ⟨.str d.shown, H, I.kept hk, ⟨u, rfl⟩, q⟩) h3
  cases hd with
  | lst _ _ => cases ru; exact big _ rfl
  | tup _ _ => cases ru; exact big _ rfl
  | int i =>
    obtain ⟨t, rfl⟩ := ru
    exact PySem.P.repr_of_int (by simpa [PyData.showable] using h1) ⟨.str _, H, I.tok _, ⟨_, rfl⟩, by simpa [PyData.shown] using q⟩
  | non =>
    cases ru
    exact PySem.P.repr_of_none ⟨.str _, H, I.tok _, ⟨_, rfl⟩, by simpa [PyData.shown] using q⟩
  | bl b =>
    cases ru
    exact PySem.P.repr_of_bool ⟨.str _, H, I.tok _, ⟨_, rfl⟩, by simpa [PyData.shown] using q⟩
  | str z =>
    obtain ⟨t, rfl⟩ := ru
    exact PySem.P.repr_of_str ⟨.str _, H, I.tok _, ⟨_, rfl⟩, by simpa [PyData.shown] using q⟩ (by simpa [PyData.shown] using h3)
end DL
end
namespace ZE
open PySem PySem.Spec PyProof.Rows L2
section
variable {prog : Program} {w : World} {A : Around} {E : Value → Shared → Prop} {s : Shared}
set_option maxHeartbeats 1000000 in
theorem new_enum1 {v : Value} {ob : Obj} {C : Heap → Prop} (B : Begins v ob C) :
    Meets (Builtin.«enumerate.__new__» ⟨[.type "enumerate", v], []⟩) (fun _ R t => C t.heap ∧
      R (.ok (.ret (.ref (t.heap.push ob).objs.size))) { t with heap := (t.heap.push ob).push { cls := .type "enumerate", data := .fields #[.none, .bool false, .ref t.heap.objs.size, rawInt 0, .none, .none] } }) :=
  .of_wp fun pr wo A R t h => by
    obtain ⟨hp, gg, dd, tt, oo⟩ := t
    obtain ⟨hC, h⟩ := h
    have hsub := sub_enumerate
    have it : ∀ {A' : Around} {E' : Value → Shared → Prop} {Q' : Value → Shared → Prop}, Q' (.ref hp.objs.size) ⟨hp.push ob, gg, dd, tt, oo⟩ → wpAny (model pr wo) A' (pyIter v) Q' E' ⟨hp, gg, dd, tt, oo⟩ :=
      fun q => B.iter pr wo _ _ ⟨hp, gg, dd, tt, oo⟩ _ hC q
    wp_walk using it
    refine wpAny_stack_any fun _ => wpAny_pure ?_
    split
    · rename_i cc _ _ _ _ _
      cases (cc == Value.type "enumerate") <;> (wp_walk using it; exact ⟨_, rfl, h⟩)
    · wp_walk using it
      exact ⟨_, rfl, h⟩
theorem enum1 {v : Value} {ob : Obj} {C : Heap → Prop} {Q : Value → Shared → Prop} (B : Begins v ob C) (hC : C s.heap)
    (h : ∀ g, IsEnum g (s.heap.objs.size + 1) s.heap.objs.size 0 .none → g.get? s.heap.objs.size = some ob → (∀ b o, s.heap.get? b = some o → g.get? b = some o) → Q (.ref (s.heap.objs.size + 1)) { s with heap := g }) :
    wpAny (model prog w) A (call (.type "enumerate") [v]) Q E s := by
  refine callType_new F.called_enumerate (by decide) (F.typeCall_enumerate_1 _) (F.newCall_enumerate_1 _) (fun z => F.args_object_init_2 z _) F.entry_enumerate_new (new_enum1 B) ⟨hC, ?_⟩
  have e1 : (s.heap.push ob).objs.size = s.heap.objs.size + 1 := Heap.size_push ..
  show _ ∧ _
  rw [e1]
  have e2 := Heap.get?_push_size (s.heap.push ob) (o := { cls := .type "enumerate", data := .fields #[.none, .bool false, .ref s.heap.objs.size, rawInt 0, .none, .none] }) rfl
  rw [e1] at e2
  exact ⟨⟨_, e2, rfl⟩, h _ e2 (Heap.get?_push_of_some _ (Heap.get?_push_size _ B.free)) fun b o z => Heap.get?_push_of_some _ (Heap.get?_push_of_some _ z)⟩
end
def SqB (K : PySem.W.Frag) (b : Bool) (H : Hp) (a : Addr) (xs : List V) : Prop := match b with
  | true => SqL K H a xs
  | false => SqT K H a xs
def ItB (b : Bool) (h : Heap) (it l : Addr) (i : Nat) : Prop := match b with
  | true => h.IsListIter it l i
  | false => h.IsTupleIter it l i
def IsB (b : Bool) (h : Heap) (l : Addr) (its : Array Value) : Prop := match b with
  | true => h.IsList l its
  | false => h.IsTuple l its
def obB (b : Bool) (l : Addr) : Obj := match b with
  | true => { cls := .type "list_iterator", data := .fields #[.ref l, .int 0 0] }
  | false => { cls := .type "tuple_iterator", data := .fields #[.ref l, .int 0 0] }
theorem beginsB (b : Bool) (l : Addr) (its : Array Value) : Begins (.ref l) (obB b l) fun h => IsB b h l its := by
  cases b
  · exact begins_tuple l its
  · exact begins_list l its
theorem drawsB {P : Program} {w : World} {A : Around} (b : Bool) (hh : A.handled = none) (it l : Addr) (hne : l ≠ it) (its : Array Value) :
    Draws P w A it [it, l] its.size (fun i v => its[i]? = some v) (fun i h => ItB b h it l i ∧ IsB b h l its) := by
  cases b
  · exact Draws.tuple hh it l hne its
  · exact Draws.list hh it l hne its
theorem ItB.at {b : Bool} {h h' : Heap} {it l : Addr} {i : Nat} (x : ItB b h it l i) (k : ∀ o, h.get? it = some o → h'.get? it = some o) : ItB b h' it l i := by
  cases b
  · exact Heap.IsTupleIter.at x k
  · exact Heap.IsListIter.at x k
theorem ItB.obj {b : Bool} {h : Heap} {it l : Addr} {i : Nat} (x : ItB b h it l i) : ∃ o, h.get? it = some o ∧ ∀ v, o.data ≠ .cell v := by
  cases b
  · obtain ⟨o, e, _, d⟩ := x
    exact ⟨o, e, fun v q => by rw [d] at q; cases q⟩
  · obtain ⟨o, e, _, d⟩ := x
    exact ⟨o, e, fun v q => by rw [d] at q; cases q⟩
theorem itB_new {b : Bool} {h : Heap} {it l : Addr} (e : h.get? it = some (obB b l)) : ItB b h it l 0 := by
  cases b
  · exact ⟨_, e, rfl, rfl⟩
  · exact ⟨_, e, rfl, rfl⟩
section
variable {X : Cx} {pins : List (Addr × Obj)} {σ : L2.St} {H : Hp} {s : Shared}
theorem seqB {b : Bool} {a : Addr} {xs : List V} (I : Inv X pins σ H s) (h : SqB X.K b H a xs) : ∃ its : List Value, Vals xs its ∧ IsB b s.heap a its.toArray ∧ a < s.heap.objs.size := by
  cases b
  · obtain ⟨its, rv, p, _⟩ := I.tuple h
    obtain ⟨o, e, _⟩ := id p
    exact ⟨its, rv, p, Heap.lt_size e⟩
  · obtain ⟨its, rv, p, _⟩ := I.list h
    exact ⟨its, rv, p.isList, p.lt⟩
theorem seqB_inj {b : Bool} {a : Addr} {xs ys : List V} (I : Inv X pins σ H s) (h : SqB X.K b H a xs) (h2 : SqB X.K b H a ys) : xs = ys := by
  cases b
  · exact I.tuple_inj h h2
  · exact I.list_inj h h2
end
def IteB (K : PySem.W.Frag) (b : Bool) (a : Addr) : It :=
  ⟨fun i H => ∃ (xs : List V) (x : V), SqB K b H a xs ∧ xs[i]? = some x,
    fun i H v H' => ∃ T x o, v = .ref T ∧ H T = none ∧ DL.PlainT o ∧ H' = upd H T (.frz o (.tup [.int (i : Nat), x])) ∧ ∀ xs, SqB K b H a xs → xs[i]? = some x,
    fun i H => ∃ xs : List V, SqB K b H a xs ∧ xs.length = i⟩
theorem turnE {P : Program} {w : World} {K : PySem.W.Frag} {elts : List Expr} {kk : Nat} {tp : Pos} (b : Bool) (a e it : Addr) (hea : e ≠ a) (hia : a ≠ it) :
    Turn P w K (.Tuple elts kk tp) (IteB K b a) [e, it] e (fun i h => (∃ old, IsEnum h e it ((i : Nat) : Int) old) ∧ ItB b h it a i ∧ e ≠ it) where
  mem := List.mem_cons_self ..
  obj := fun i h st c hc => by
    obtain ⟨⟨old, he⟩, hi, _⟩ := st
    rcases List.mem_cons.mp hc with z | z
    · subst z
      exact ⟨_, he, fun v q => nomatch q⟩
    · rw [show c = it by simpa using z]
      exact hi.obj
  keep := fun i h h' ⟨⟨old, he⟩, hi, hne⟩ k => ⟨⟨old, k e (by simp) _ he⟩, hi.at fun o q => k it (by simp) o q, hne⟩
  item := by
    intro X eP ew eK hc i pins s σ H E I hf st hg
    subst eP ew eK
    obtain ⟨⟨old, he⟩, hi, hne⟩ := st
    obtain ⟨xs, x, hq, hx⟩ := hg
    obtain ⟨its, rv, p, hal⟩ := seqB I hq
    obtain ⟨u, hu, ru⟩ := rv.get hx
    have lt : i < its.toArray.size := by
      have := (List.getElem?_eq_some_iff.mp hu).1
      simpa using this
    have hel : e < s.heap.objs.size := Heap.lt_size he
    have hil : it < s.heap.objs.size := by
      obtain ⟨o, q, _⟩ := hi.obj
      exact Heap.lt_size q
    refine wpAny_pyNext_enum_itemD (drawsB (A := X.A.in1) b (I.ok.hd hc) it a hia its.toArray) he ⟨hi, p⟩ lt hne (by simp [hne, hea]) fun x1 g tk hx1 ho st1 hT hsz kp => ?_
    have ex : x1 = u := by
      have : some u = some x1 := by rw [← hu]; simpa using hx1
      exact (Option.some.inj this).symm
    subst ex
    refine ⟨_, rfl, wpAny_letOwnedTupleGo_enum (s := { s with heap := g, toks := tk + 1 }) ho fun g2 he2 sb => ?_⟩
    have hT2 : g2.get? s.heap.objs.size = some { cls := .type "tuple", data := .seq #[.int i tk, x1] } := (sb.2 _ (Nat.ne_of_gt hel)).trans hT
    have nw : ObjOk X.prog X.w (upd H s.heap.objs.size (.frz { cls := .type "tuple", data := .seq #[.int i tk, x1] } (.tup [.int (i : Nat), x]))) g2 s.heap.objs.size (.frz { cls := .type "tuple", data := .seq #[.int i tk, x1] } (.tup [.int (i : Nat), x])) := by
      refine ⟨hT2, by show 2 ≤ sizeLine; decide, [.int i tk, x1], ?_, ⟨_, hT2, rfl, _, rfl⟩⟩
      exact .cons ⟨_, rfl⟩ (.cons ru .nil)
    have I1 : Inv X pins σ (upd H s.heap.objs.size (.frz { cls := .type "tuple", data := .seq #[.int i tk, x1] } (.tup [.int (i : Nat), x]))) { s with heap := g2, toks := tk + 1 } :=
      I.turnedNew (ch := [e, it]) (fun c o hb q => (sb.2 c fun z => hb (by simp [z])).trans (kp c o (fun z => hb (by simp [z])) (fun z => hb (by simp [z])) q)) hf (Nat.le_refl _) nw
    refine ⟨.ref s.heap.objs.size, _, I1, rfl, ⟨_, x, _, rfl, I.hok.fresh (Nat.le_refl _), ⟨rfl, rfl⟩, rfl, fun ys hy => by rw [seqB_inj I hy hq]; exact hx⟩, ⟨⟨x1, ?_⟩, st1.1.at fun o q => (sb.2 it hne.symm).trans q, hne⟩, fun c hc => ?_⟩
    · have e1 : ((i + 1 : Nat) : Int) = (i : Int) + 1 := by omega
      rw [e1]
      exact he2
    · have : c < s.heap.objs.size := by
        rcases List.mem_cons.mp hc with z | z
        · rw [z]; exact hel
        · rw [show c = it by simpa using z]; exact hil
      rw [upd_ne (Nat.ne_of_lt this)]
      exact (hf c hc).1
  done := by
    intro X eP ew eK hc i pins s σ H E I hf st hg
    subst eP ew eK
    obtain ⟨⟨old, he⟩, hi, hne⟩ := st
    obtain ⟨xs, hq, hx⟩ := hg
    obtain ⟨its, rv, p, _⟩ := seqB I hq
    obtain ⟨f0, f1, f2, f3, f4, f5⟩ := hf it (by simp)
    have hl : its.toArray.size = i := by rw [List.size_toArray, ← rv.length, hx]
    exact wpAny_pyNext_enum_endD (drawsB (A := X.A.in1) b (I.ok.hd hc) it a hia its.toArray) he (by rw [hl]; exact ⟨hi, p⟩) fun g eb => ⟨rfl, I.turned (t' := s.toks) (fun c o hb q => eb c o hb q) f0 f1 f3 f4 f5⟩
  self := fun A i s Q E st h => by
    obtain ⟨⟨_, he⟩, _⟩ := st
    exact wpAny_pyIter_enum he h
def iEnumB (K : PySem.W.Frag) (ta : TA) : TI := fun σ H R => ta σ H fun vs H1 => ∃ b a xs, vs = [.ref a] ∧ SqB K b H1 a xs ∧ R (IteB K b a) H1
theorem pi_enumB {X : Cx} {e : Expr} {ta : TA} {p pos tp : Pos} {elts : List Expr} {kk : Nat} (hg : Gl X "enumerate") (hm : X.mg "enumerate" = none) (ha : PA X [e] ta) (hs : starEach [e] X.env = [(false, eval e X.env)] := by rfl) :
    PI X (.Tuple elts kk tp) (.Call (.Name "enumerate" p) [e] [] pos) (iEnumB X.K ta) := by
  constructor
  intro pins s σ H R I h
  refine Call_ (ld_blt I hg hm boot_enumerate (PyProof.Rows.callWith_type1 (thn (ha.run pos pins s σ H _ I h) fun us s1 q => ?_) hs rfl))
  obtain ⟨vs, H1, I1, r1, b, a, xs, rfl, hq, k⟩ := q
  cases r1 with
  | cons r rr =>
    cases rr
    cases r
    obtain ⟨its, rv, p', al⟩ := seqB I1 hq
    refine enum1 (beginsB b a its.toArray) p' fun g he hi kp => wpAny_pyIter_enum he ?_
    have I2 : Inv X pins σ H1 { s1 with heap := g } := I1.kept (t' := s1.toks) kp
    refine ⟨s1.heap.objs.size + 1, [s1.heap.objs.size + 1, s1.heap.objs.size], _, _, H1, rfl, I2, turnE b a (s1.heap.objs.size + 1) s1.heap.objs.size (Nat.ne_of_gt (Nat.lt_succ_of_lt al)) (Nat.ne_of_lt al), ⟨⟨.none, he⟩, itB_new hi, Nat.succ_ne_self _⟩, fun c hc => ?_, k⟩
    have hle : s1.heap.objs.size ≤ c := by
      rcases List.mem_cons.mp hc with z | z
      · exact Nat.le_of_lt (Nat.lt_of_lt_of_eq (Nat.lt_succ_self _) z.symm)
      · exact Nat.le_of_eq (List.mem_singleton.mp z).symm
    exact I1.fpOk hle (I1.hok.fresh hle)
def ItzB (K : PySem.W.Frag) (b1 b2 : Bool) (a1 a2 : Addr) : It :=
  ⟨fun i H => ∃ (xs ys : List V) (x y : V), SqB K b1 H a1 xs ∧ SqB K b2 H a2 ys ∧ xs[i]? = some x ∧ ys[i]? = some y,
    fun i H v H' => ∃ T x y o, v = .ref T ∧ H T = none ∧ DL.PlainT o ∧ H' = upd H T (.frz o (.tup [x, y])) ∧ (∀ xs, SqB K b1 H a1 xs → xs[i]? = some x) ∧ ∀ ys, SqB K b2 H a2 ys → ys[i]? = some y,
    fun i H => ∃ xs ys : List V, SqB K b1 H a1 xs ∧ SqB K b2 H a2 ys ∧ i ≤ xs.length ∧ i ≤ ys.length ∧ (i = xs.length ∨ i = ys.length)⟩
theorem sep5 {n a1 a2 : Nat} (h1 : a1 < n) (h2 : a2 < n) : ZipSep2 (n + 4) (n + 2) (n + 3) n (n + 1) [n, a1] [n + 1, a2] := by
  constructor <;> first
    | (show ¬ @Eq Nat _ _; omega)
    | (show ¬ @Membership.mem Nat (List Nat) _ _ _; simp; omega)
    | (show @Membership.mem Nat (List Nat) _ _ _; simp)
theorem mem5 {n c : Nat} (h : c ∈ [n + 4, n + 2, n + 3, n, n + 1]) : n ≤ c := by
  simp only [List.mem_cons, List.not_mem_nil, or_false] at h
  omega
theorem turnZ {P : Program} {w : World} {K : PySem.W.Frag} {elts : List Expr} {kk : Nat} {tp : Pos} (b1 b2 : Bool) {a1 a2 z TI TO i1 i2 : Addr} (S : ZipSep2 z TI TO i1 i2 [i1, a1] [i2, a2]) (n1 : a1 ≠ i1) (n2 : a2 ≠ i2) :
    Turn P w K (.Tuple elts kk tp) (ItzB K b1 b2 a1 a2) [z, TI, TO, i1, i2] z (fun i h => IsZip h z TI TO .none ∧ IsTupOf2 h TI (.ref i1) (.ref i2) ∧ (∃ x y, IsTupOf2 h TO x y) ∧ ItB b1 h i1 a1 i ∧ ItB b2 h i2 a2 i) where
  mem := List.mem_cons_self ..
  obj := fun i h st c hc => by
    obtain ⟨hz, hTI, ⟨x, y, hTO⟩, h1, h2⟩ := st
    simp only [List.mem_cons, List.not_mem_nil, or_false] at hc
    rcases hc with q | q | q | q | q
    · subst q; exact ⟨_, hz, fun v q => nomatch q⟩
    · subst q; exact ⟨_, hTI, fun v q => nomatch q⟩
    · subst q; exact ⟨_, hTO, fun v q => nomatch q⟩
    · subst q; exact h1.obj
    · subst q; exact h2.obj
  keep := fun i h h' ⟨hz, hTI, ⟨x, y, hTO⟩, h1, h2⟩ k => ⟨k z (by simp) _ hz, k TI (by simp) _ hTI, ⟨x, y, k TO (by simp) _ hTO⟩, h1.at fun o q => k i1 (by simp) o q, h2.at fun o q => k i2 (by simp) o q⟩
  item := by
    intro X eP ew eK hc i pins s σ H E I hf st hg
    subst eP ew eK
    obtain ⟨hz, hTI, ⟨x0, y0, hTO⟩, h1, h2⟩ := st
    obtain ⟨xs, ys, x, y, hqx, hqy, hx, hy⟩ := hg
    obtain ⟨its, rv, p, _⟩ := seqB I hqx
    obtain ⟨its2, rv2, p2, _⟩ := seqB I hqy
    obtain ⟨u, hu, ru⟩ := rv.get hx
    obtain ⟨u2, hu2, ru2⟩ := rv2.get hy
    have l1 : i < its.toArray.size := by simpa using (List.getElem?_eq_some_iff.mp hu).1
    have l2 : i < its2.toArray.size := by simpa using (List.getElem?_eq_some_iff.mp hu2).1
    have hzl : z < s.heap.objs.size := Heap.lt_size hz
    have m1 : i1 < s.heap.objs.size := by
      obtain ⟨o, q, _⟩ := h1.obj
      exact Heap.lt_size q
    have m2 : i2 < s.heap.objs.size := by
      obtain ⟨o, q, _⟩ := h2.obj
      exact Heap.lt_size q
    refine wpAny_pyNext_zipD2_item S (drawsB (A := X.A.in1) b1 (I.ok.hd hc) i1 a1 n1 its.toArray) (drawsB (A := X.A.in1) b2 (I.ok.hd hc) i2 a2 n2 its2.toArray) hz hTI hTO ⟨h1, p⟩ ⟨h2, p2⟩ l1 l2
      fun x1 x2 g tk e1 e2 z' TO' st1 st2 hT hsz kp => ?_
    have ex1 : x1 = u := (Option.some.inj (show some u = some x1 by rw [← hu]; simpa using e1)).symm
    have ex2 : x2 = u2 := (Option.some.inj (show some u2 = some x2 by rw [← hu2]; simpa using e2)).symm
    subst ex1 ex2
    refine ⟨_, rfl, wpAny_letOwnedTupleGo_zip (s := { s with heap := g, toks := tk }) z' fun g2 z2 sb => ?_⟩
    have hT2 : g2.get? s.heap.objs.size = some { cls := .type "tuple", data := .seq #[x1, x2] } := (sb.2 _ (Nat.ne_of_gt hzl)).trans hT
    have nw : ObjOk X.prog X.w (upd H s.heap.objs.size (.frz { cls := .type "tuple", data := .seq #[x1, x2] } (.tup [x, y]))) g2 s.heap.objs.size (.frz { cls := .type "tuple", data := .seq #[x1, x2] } (.tup [x, y])) := by
      refine ⟨hT2, by show 2 ≤ sizeLine; decide, [x1, x2], ?_, ⟨_, hT2, rfl, _, rfl⟩⟩
      exact .cons ru (.cons ru2 .nil)
    have I1 : Inv X pins σ (upd H s.heap.objs.size (.frz { cls := .type "tuple", data := .seq #[x1, x2] } (.tup [x, y]))) { s with heap := g2, toks := tk } :=
      I.turnedNew (t' := tk) (ch := [z, TI, TO, i1, i2]) (fun c o hb q => (sb.2 c fun q' => hb (by simp [q'])).trans (kp c o (fun q' => hb (by simp [q'])) (fun q' => hb (by simp [q'])) (fun q' => hb (by simp [q'])) (fun q' => hb (by simp [q'])) q)) hf (Nat.le_refl _) nw
    refine ⟨.ref s.heap.objs.size, _, I1, rfl, ⟨_, x, y, _, rfl, I.hok.fresh (Nat.le_refl _), ⟨rfl, rfl⟩, rfl, fun l hl => by rw [seqB_inj I hl hqx]; exact hx, fun l hl => by rw [seqB_inj I hl hqy]; exact hy⟩, ⟨z2, ?_, ⟨x1, x2, ?_⟩, ?_, ?_⟩, fun c hcm => ?_⟩
    · exact (sb.2 _ S.TIz).trans (kp _ _ S.TIz S.TITO S.TIi1 S.TIi2 hTI)
    · exact (sb.2 _ S.TOz).trans TO'
    · exact st1.1.at fun o q => (sb.2 _ S.zi1.symm).trans q
    · exact st2.1.at fun o q => (sb.2 _ S.zi2.symm).trans q
    · have : c < s.heap.objs.size := by
        have hcm' := hcm
        simp only [List.mem_cons, List.not_mem_nil, or_false] at hcm'
        rcases hcm' with q | q | q | q | q
        · rw [q]; exact hzl
        · rw [q]; exact Heap.lt_size hTI
        · rw [q]; exact Heap.lt_size hTO
        · rw [q]; exact m1
        · rw [q]; exact m2
      rw [upd_ne (Nat.ne_of_lt this)]
      exact (hf c hcm).1
  done := by
    intro X eP ew eK hc i pins s σ H E I hf st hg
    subst eP ew eK
    obtain ⟨hz, hTI, ⟨x0, y0, hTO⟩, h1, h2⟩ := st
    obtain ⟨xs, ys, hqx, hqy, hl1, hl2, hend⟩ := hg
    obtain ⟨its, rv, p, _⟩ := seqB I hqx
    obtain ⟨its2, rv2, p2, _⟩ := seqB I hqy
    have s1 : its.toArray.size = xs.length := by rw [List.size_toArray, ← rv.length]
    have s2 : its2.toArray.size = ys.length := by rw [List.size_toArray, ← rv2.length]
    exact wpAny_pyNext_zipD2_end S (drawsB (A := X.A.in1) b1 (I.ok.hd hc) i1 a1 n1 its.toArray) (drawsB (A := X.A.in1) b2 (I.ok.hd hc) i2 a2 n2 its2.toArray) hz hTI hTO ⟨h1, p⟩ ⟨h2, p2⟩ (by rw [s1]; exact hl1) (by rw [s2]; exact hl2) (by rw [s1, s2]; exact hend)
      fun g tk kp => ⟨rfl, I.turnedL (t' := tk) (ch := [z, TI, TO, i1, i2]) (fun c o hb q => kp c o (fun q' => hb (by simp [q'])) (fun q' => hb (by simp [q'])) (fun q' => hb (by simp [q'])) (fun q' => hb (by simp [q'])) q) hf⟩
  self := fun A i s Q E st h => wpAny_pyIter_zip st.1 h
def iZipB (K : PySem.W.Frag) (ta : TA) : TI := fun σ H R => ta σ H fun vs H1 => ∃ b1 b2 a1 a2 xs ys, vs = [.ref a1, .ref a2] ∧ SqB K b1 H1 a1 xs ∧ SqB K b2 H1 a2 ys ∧ R (ItzB K b1 b2 a1 a2) H1
theorem pi_zipB {X : Cx} {e e2 : Expr} {ta : TA} {p pos tp : Pos} {elts : List Expr} {kk : Nat} (hg : Gl X "zip") (hm : X.mg "zip" = none) (ha : PA X [e, e2] ta)
    (hs : starEach [e, e2] X.env = (false, eval e X.env) :: starEach [e2] X.env := by rfl) (hpl : (backTo pos (starEach [e2] X.env)).any (·.1) = false := by rfl) :
    PI X (.Tuple elts kk tp) (.Call (.Name "zip" p) [e, e2] [] pos) (iZipB X.K ta) := by
  constructor
  intro pins s σ H R I h
  refine Call_ (ld_blt I hg hm PyProof.Rows.boot_zip (PyProof.Rows.callWith_type1 (thn (ha.run pos pins s σ H _ I h) fun us s1 q => ?_) hs hpl))
  obtain ⟨vs, H1, I1, r1, b1, b2, a1, a2, xs, ys, rfl, hqx, hqy, k⟩ := q
  cases r1 with
  | cons r rr =>
    cases rr with
    | cons r' rr =>
      cases rr
      cases r
      cases r'
      obtain ⟨its, rv, p1, la⟩ := seqB I1 hqx
      obtain ⟨its2, rv2, p2, lb⟩ := seqB I1 hqy
      refine zip_begins2 (beginsB b1 a1 its.toArray) (beginsB b2 a2 its2.toArray) p1 p2 fun g hz hTI hTO h1 h2 hsz kp => wpAny_pyIter_zip hz ?_
      have I2 : Inv X pins σ H1 { s1 with heap := g } := I1.kept (t' := s1.toks) kp
      have S : ZipSep2 (s1.heap.objs.size + 4) (s1.heap.objs.size + 2) (s1.heap.objs.size + 3) s1.heap.objs.size (s1.heap.objs.size + 1) [s1.heap.objs.size, a1] [s1.heap.objs.size + 1, a2] := sep5 la lb
      refine ⟨s1.heap.objs.size + 4, [s1.heap.objs.size + 4, s1.heap.objs.size + 2, s1.heap.objs.size + 3, s1.heap.objs.size, s1.heap.objs.size + 1], _, _, H1, rfl, I2, turnZ b1 b2 S (Nat.ne_of_lt la) (Nat.ne_of_lt (Nat.lt_succ_of_lt lb)), ⟨hz, hTI, ⟨_, _, hTO⟩, itB_new h1, itB_new h2⟩, fun c hcm => ?_, k⟩
      have hle : s1.heap.objs.size ≤ c := mem5 hcm
      exact I1.fpOk hle (I1.hok.fresh hle)
end ZE
set_option maxHeartbeats 1000000
noncomputable section
namespace DL
open PySem PySem.Spec PyProof.Rows L2 ZE
def itemsOf : PyData → Option (List PyData)
  | .list ds => some ds
  | .tuple ds => some ds
  | _ => none
def isLst : PyData → Bool
  | .list _ => true
  | _ => false
def zipD (xs ys : List PyData) : List PyData := List.zipWith (fun a b => .tuple [a, b]) xs ys
def enumD (xs : List PyData) : List PyData := xs.mapIdx fun i d => .tuple [.int i, d]
def zipI (t : AD) : ID := fun ρ => (t ρ).bind fun p => (psAll p.2 p.1).bind fun q => match q.1 with
  | [x, y] => (itemsOf x).bind fun xs => (itemsOf y).map fun ys => (zipD xs ys, q.2)
  | _ => none
def enumI (t : AD) : ID := fun ρ => (t ρ).bind fun p => (psAll p.2 p.1).bind fun q => match q.1 with
  | [x] => (itemsOf x).map fun xs => (enumD xs, q.2)
  | _ => none
section
variable {K : Fg} {P B L : List Addr} {σ : L2.St} {ρ : DL.Env} {H : Hp} {W : List Addr}
theorem dq_ref {v : V} {d : PyData} {ds : List PyData} (h : Dq K H W v d) (e : itemsOf d = some ds) : ∃ a, v = V.ref a := by
  cases h <;> first | exact ⟨_, rfl⟩ | cases e
theorem dq_items {a : Addr} {d : PyData} {ds : List PyData} (h : Dq K H W (.ref a) d) (e : itemsOf d = some ds) : ∃ vs, SqB K (isLst d) H a vs ∧ DqA K H W vs ds := by
  cases h with
  | lst h1 h2 h3 => cases e; exact ⟨_, .of h2, h3⟩
  | tup h2 h3 => cases e; exact ⟨_, h2.sq, h3⟩
  | dic h1 h2 h3 => cases e
  | dit h1 h2 h3 => cases e
theorem walks_z {a b : Addr} {dx dy : PyData} {xs ys : List PyData} (R : Rep K P B L σ ρ H) (h1 : Dq K H (P ++ B ++ L) (.ref a) dx) (h2 : Dq K H (P ++ B ++ L) (.ref b) dy) (e1 : itemsOf dx = some xs) (e2 : itemsOf dy = some ys) :
    WalksA K P B L H (ItzB K (isLst dx) (isLst dy) a b) (zipD xs ys) := fun H2 L2 E s he => by
  obtain ⟨vs, q1, d1⟩ := dq_items (Dq.stepA R s he h1) e1
  obtain ⟨ws, q2, d2⟩ := dq_items (Dq.stepA R s he h2) e2
  have l1 := d1.length
  have l2 := d2.length
  refine ⟨fun i d hd => ?_, ⟨vs, ws, q1, q2, ?_, ?_, ?_⟩⟩
  · unfold zipD at hd
    rw [List.getElem?_zipWith] at hd
    split at hd
    · rename_i x y hx hy
      cases hd
      obtain ⟨v, hv, dv⟩ := d1.get hx
      obtain ⟨w, hw, dw⟩ := d2.get hy
      refine ⟨⟨vs, ws, v, w, q1, q2, hv, hw⟩, fun z H3 hz => ?_⟩
      obtain ⟨T, v', w', ob, rfl, hT, po, rfl, f1, f2⟩ := hz
      have ev := (f1 vs q1).symm.trans hv
      have ew := (f2 ws q2).symm.trans hw
      cases ev
      cases ew
      have kp : Keep [] H2 (upd H2 T (.frz ob (.tup [v, w]))) := Keep.new hT
      refine ⟨kp, .tup ⟨ob, upd_same, po⟩ (.cons (dv.move lists_nil (fun _ z => nomatch z) kp fun _ z => .inl z) (.cons (dw.move lists_nil (fun _ z => nomatch z) kp fun _ z => .inl z) .nil))⟩
    · cases hd
  all_goals
    unfold zipD
    rw [List.length_zipWith]
    omega
theorem walks_e {a : Addr} {dx : PyData} {xs : List PyData} (R : Rep K P B L σ ρ H) (h1 : Dq K H (P ++ B ++ L) (.ref a) dx) (e1 : itemsOf dx = some xs) :
    WalksA K P B L H (IteB K (isLst dx) a) (enumD xs) := fun H2 L2 E s he => by
  obtain ⟨vs, q1, d1⟩ := dq_items (Dq.stepA R s he h1) e1
  have l1 := d1.length
  refine ⟨fun i d hd => ?_, ⟨vs, q1, ?_⟩⟩
  · unfold enumD at hd
    rw [List.getElem?_mapIdx] at hd
    obtain ⟨x, hx, rfl⟩ := Option.map_eq_some_iff.mp hd
    obtain ⟨v, hv, dv⟩ := d1.get hx
    refine ⟨⟨vs, v, q1, hv⟩, fun z H3 hz => ?_⟩
    obtain ⟨T, v', ob, rfl, hT, po, rfl, f1⟩ := hz
    have ev := (f1 vs q1).symm.trans hv
    cases ev
    have kp : Keep [] H2 (upd H2 T (.frz ob (.tup [.int (i : Nat), v]))) := Keep.new hT
    exact ⟨kp, .tup ⟨ob, upd_same, po⟩ (.cons (.int _) (.cons (dv.move lists_nil (fun _ z => nomatch z) kp fun _ z => .inl z) .nil))⟩
  · unfold enumD
    rw [List.length_mapIdx, l1]
end
section
variable {X : Cx} {tl : TL} {tgE : Expr} {a b : Expr} {t : AD} {pos p tp : Pos} {elts : List Expr} {kk : Nat}
theorem i_zip (hg : Gl X "zip") (hm : X.mg "zip" = none) (ha : PA X [a, b] (RA (X.D tl) t)) (hs : starEach [a, b] X.env = (false, eval a X.env) :: starEach [b] X.env := by rfl) (hpl : (backTo pos (starEach [b] X.env)).any (·.1) = false := by rfl) :
    PI X (.Tuple elts kk tp) (.Call (.Name "zip" p) [a, b] [] pos) (RI (X.D tl) (zipI t)) := (pi_zipB hg hm ha hs hpl).imp fun σ H R h => by
  obtain ⟨P, B, L, ρ, ds, ρ', R0, e, k⟩ := h
  obtain ⟨⟨rs, ρ1⟩, e1, e⟩ := Option.bind_eq_some_iff.mp e
  obtain ⟨⟨es, ρ2⟩, e2, e⟩ := Option.bind_eq_some_iff.mp e
  refine ⟨P, B, L, ρ, rs, ρ1, R0, e1, fun xs H1 La Ea p1 v1 => ?_⟩
  obtain ⟨E', L', R', dq, he, hl⟩ := psAll_of p1.rep v1 e2
  simp only at e
  split at e
  · rename_i x y
    obtain ⟨us, e3, e⟩ := Option.bind_eq_some_iff.mp e
    obtain ⟨ws, e4, e⟩ := Option.map_eq_some_iff.mp e
    cases e
    cases dq with
    | cons d1 dq =>
      cases dq with
      | cons d2 dq =>
        cases dq
        obtain ⟨a1, rfl⟩ := dq_ref d1 e3
        obtain ⟨a2, rfl⟩ := dq_ref d2 e4
        obtain ⟨vs, q1, _⟩ := dq_items d1 e3
        obtain ⟨ws', q2, _⟩ := dq_items d2 e4
        exact ⟨_, _, a1, a2, vs, ws', rfl, q1, q2, k _ H1 L' E' (p1.then (Post.less R' he hl)) (walks_z R' d1 d2 e3 e4)⟩
  · cases e
theorem i_enum (hg : Gl X "enumerate") (hm : X.mg "enumerate" = none) (ha : PA X [a] (RA (X.D tl) t)) (hs : starEach [a] X.env = [(false, eval a X.env)] := by rfl) :
    PI X (.Tuple elts kk tp) (.Call (.Name "enumerate" p) [a] [] pos) (RI (X.D tl) (enumI t)) := (pi_enumB hg hm ha hs).imp fun σ H R h => by
  obtain ⟨P, B, L, ρ, ds, ρ', R0, e, k⟩ := h
  obtain ⟨⟨rs, ρ1⟩, e1, e⟩ := Option.bind_eq_some_iff.mp e
  obtain ⟨⟨es, ρ2⟩, e2, e⟩ := Option.bind_eq_some_iff.mp e
  refine ⟨P, B, L, ρ, rs, ρ1, R0, e1, fun xs H1 La Ea p1 v1 => ?_⟩
  obtain ⟨E', L', R', dq, he, hl⟩ := psAll_of p1.rep v1 e2
  simp only at e
  split at e
  · rename_i x
    obtain ⟨us, e3, e⟩ := Option.map_eq_some_iff.mp e
    cases e
    cases dq with
    | cons d1 dq =>
      cases dq
      obtain ⟨a1, rfl⟩ := dq_ref d1 e3
      obtain ⟨vs, q1, _⟩ := dq_items d1 e3
      exact ⟨_, a1, vs, rfl, q1, k _ H1 L' E' (p1.then (Post.less R' he hl)) (walks_e R' d1 e3)⟩
  · cases e
end
structure Blt (mg : Str → Option Value) : Prop where
  len : mg "len" = none
  range : mg "range" = none
  max : mg "max" = none
  min : mg "min" = none
  int : mg "int" = none
  abs : mg "abs" = none
  list : mg "list" = none
  tuple : mg "tuple" = none
  repr : mg "repr" = none
  any : mg "any" = none
  all : mg "all" = none
  zip : mg "zip" = none
  enumerate : mg "enumerate" = none
  sum : mg "sum" = none
  sorted : mg "sorted" = none
  set : mg "set" = none
  isinstance : mg "isinstance" = none
  str : mg "str" = none
  bool : mg "bool" = none
  dict : mg "dict" = none
  reversed : mg "reversed" = none
def Ok (P : Program) (w : World) (K : Fg) (mg : Str → Option Value) (base : Heap) (k : Nat) (x : Str) (ps : List Str) (sp : Sp) : Prop :=
  ∃ f fd, FnG P w K mg base CX0 k f fd ps sp ∧ mg x = some (.ref f) ∧ PySem.W.keepIn K (.ref f) = true ∧ Binds K fd ps []
structure Def (K : Fg) (mg : Str → Option Value) (x : Str) (st : Stmt) (ps : List Str) : Prop where
  ex : ∃ f fd, Fun K x x st f fd ∧ mg x = some (.ref f) ∧ PySem.W.keepIn K (.ref f) = true ∧ Binds K fd ps []
section
variable {P : Program} {w : World} {K : Fg} {mg : Str → Option Value} {base : Heap}
theorem Ok.pure {x : Str} {st : Stmt} {N ps : List Str} {k n : Nat} {g : SD} (D : Def K mg x st ps) (S : FnScope N ps (defScope st)) (hn : ps.length = n) (hN : n ≤ N.length)
    (hb : ∀ (f : Addr) (cdv : Value) (A : Around) (outer : List PySem.Env) (s : Shared) (H : Hp) (E : XK), (A.deeper (envOfC x (defScope st) s.heap.objs.size f cdv)).guards = some [] → Room k (A.deeper (envOfC x (defScope st) s.heap.objs.size f cdv)) →
      PSs (cxOf CX0 P w K mg base N x (defScope st) f cdv A outer s H E).nox (defBody st) (RS K g)) : Ok P w K mg base (k + 1) x ps (spP K n (runP N.length g)) := by
  obtain ⟨f, fd, F, h1, h2, h3⟩ := D.ex
  exact ⟨f, fd, FnG.pure F S hn hN (hb f), h1, h2, h3⟩
theorem Ok.mut {x : Str} {st : Stmt} {N ps : List Str} {k n : Nat} {g : SD} (D : Def K mg x st ps) (S : FnScope N ps (defScope st)) (hn : ps.length = n + 1) (hN : n + 1 ≤ N.length)
    (hb : ∀ (f : Addr) (cdv : Value) (A : Around) (outer : List PySem.Env) (s : Shared) (H : Hp) (E : XK), (A.deeper (envOfC x (defScope st) s.heap.objs.size f cdv)).guards = some [] → Room k (A.deeper (envOfC x (defScope st) s.heap.objs.size f cdv)) →
      PSs (cxOf CX0 P w K mg base N x (defScope st) f cdv A outer s H E).nox (defBody st) (RS K g)) : Ok P w K mg base (k + 1) x ps (spM K n (runM N.length g)) := by
  obtain ⟨f, fd, F, h1, h2, h3⟩ := D.ex
  exact ⟨f, fd, FnG.mut F S hn hN (hb f), h1, h2, h3⟩
end
section
variable {X : Cx} {tl : TL} {k n : Nat} {ps : List Str} {x y : Str} {p pos py : Pos} {e : Expr} {es : List Expr} {t : AD}
theorem e_P {F : FP} (O : Ok X.prog X.w (X.D tl) X.mg X.base k x ps (spP (X.D tl) n F)) (hA : X.A.guards = some []) (hr : Room k X.A) (ha : PA X (e :: es) (RA (X.D tl) t)) (hg : Gl X x := by rfl)
    (hdb : (x == ("__debug__" : Str)) = false := by decide) (he : starEach (e :: es) X.env = (false, eval e X.env) :: starEach es X.env := by rfl) (hpl : (backTo pos (starEach es X.env)).any (·.1) = false := by rfl) :
    PE X (.Call (.Name x p) (e :: es) [] pos) (RD (X.D tl) (callP n F t)) := by
  obtain ⟨f, fd, G, h1, h2, h3⟩ := O
  exact d_callP G hA hr h1 h2 h3 ha hg hdb he hpl
theorem e_M {F : FM} (j : Nat) (O : Ok X.prog X.w (X.D tl) X.mg X.base k x ps (spM (X.D tl) n F)) (hA : X.A.guards = some []) (hr : Room k X.A) (ha : PA X es (RA (X.D tl) t)) (hg : Gl X x := by rfl)
    (hN : X.N[j]? = some y := by rfl) (hv : Vis X.env.scope y := by first | exact Or.inl rfl | exact Or.inr (Or.inl rfl) | exact Or.inr (Or.inr rfl)) (hd : (y == ("__debug__" : Str)) = false := by decide) (hcd : (y == ("__classdict__" : Str)) = false := by decide)
    (hdb : (x == ("__debug__" : Str)) = false := by decide) (he : starEach ((.Name y py) :: es) X.env = (false, eval (.Name y py) X.env) :: starEach es X.env := by rfl) (hpl : (backTo pos (starEach es X.env)).any (·.1) = false := by rfl) :
    PE X (.Call (.Name x p) ((.Name y py) :: es) [] pos) (RD (X.D tl) (callM j n F t)) := by
  obtain ⟨f, fd, G, h1, h2, h3⟩ := O
  exact d_callM j G hA hr h1 h2 h3 ha hg hN hv hd hcd hdb he hpl
end
end DL
end
set_option maxHeartbeats 1000000
noncomputable section
namespace DL
open PySem PySem.Spec PyProof.Rows L2
theorem hu64 {k : Nat} {A : Around} (hr : Room k A) : A.units + 64 < cLine := by
  have := hr.un
  omega
section
variable {X : Cx} {tl : TL} {pos : Pos}
theorem h_name (i : Nat) {x : Str} (hN : X.N.Nodup) (hi : X.N[i]? = some x := by rfl) (hx : Loc X.env.scope x := by first | exact Or.inl rfl | exact Or.inr rfl) (hf : X.fn x = true ∨ X.env.scope.names.lookup x = some .local := by first | exact .inl rfl | exact .inr rfl) : PG X (.Name x pos) (gName i) :=
  pg_name hN hi hx hf
end
def eqQ (neg : Bool) : DL.Env → Val → Val → Option (Val × DL.Env) := fun ρ a b => match a, b with
  | .cl (.str x), .cl (.str y) => some (.cl (.bool (neg ^^ decide (x = y))), ρ)
  | _, _ => eqG neg ρ a b
theorem dec_str {x y : Str} : decide (V.str x = V.str y) = decide (x = y) := by
  by_cases h : x = y
  · subst h; simp
  · rw [decide_eq_false h, decide_eq_false fun z => h (by injection z)]
theorem loc_eqQ {K : Fg} : Loc2 K (fun x y H Q => rEqD K x y H Q ∨ rEq x y H Q) (eqQ false) := by
  intro E P B L σ ρ ρ' H x y r1 r2 r Q R0 v1 v2 e c
  unfold eqQ at e
  split at e
  · rename_i a b
    cases e
    have e1 := v1.str
    have e2 := v2.str
    subst e1 e2
    refine .inr ⟨rfl, ?_⟩
    rw [dec_str]
    rw [Bool.false_xor] at c
    exact c.here R0 (show VR K E P B L σ H _ (.cl (.bool _)) from Dq.bl _)
  · exact .inl (loc_eq R0 v1 v2 e c)
theorem loc_neQ {K : Fg} : Loc2 K (fun x y H Q => rNeD K x y H Q ∨ rNe x y H Q) (eqQ true) := by
  intro E P B L σ ρ ρ' H x y r1 r2 r Q R0 v1 v2 e c
  unfold eqQ at e
  split at e
  · rename_i a b
    cases e
    have e1 := v1.str
    have e2 := v2.str
    subst e1 e2
    refine .inr ⟨rfl, ?_⟩
    rw [dec_str]
    rw [Bool.true_xor] at c
    exact c.here R0 (show VR K E P B L σ H _ (.cl (.bool _)) from Dq.bl _)
  · exact .inl (loc_ne R0 v1 v2 e c)
theorem op_eqQ {X : Cx} {tl : TL} (hu : X.A.units + 64 < cLine) : OpR X (compareOp .Eq) (fun x y H Q => rEqD (X.D tl) x y H Q ∨ rEq x y H Q) := (op_eqD hu).or op_eq
theorem op_neQ {X : Cx} {tl : TL} (hu : X.A.units + 64 < cLine) : OpR X (compareOp .NotEq) (fun x y H Q => rNeD (X.D tl) x y H Q ∨ rNe x y H Q) := (op_neD hu).or op_ne
section
variable {X : Cx} {tl : TL} {t : AD} {pos : Pos}
theorem s_par3 {i j l : Nat} {x y z : Str} {u v q : Expr} {px py pz pt : Pos} {kt k2 : Nat} {pt2 : Pos} (hc : X.calm = true) (hij : i ≠ j) (hil : i ≠ l) (hjl : j ≠ l) (hN : X.N.Nodup) (ha : PA X [u, v, q] (RA (X.D tl) t)) (hi : X.N[i]? = some x := by rfl) (hj : X.N[j]? = some y := by rfl) (hl : X.N[l]? = some z := by rfl)
    (hx : X.env.scope.names.lookup x = some .local := by rfl) (hy : X.env.scope.names.lookup y = some .local := by rfl) (hz : X.env.scope.names.lookup z = some .local := by rfl)
    (hw : swappedStores [.Tuple [.Name x px, .Name y py, .Name z pz] kt pt] (.Tuple [u, v, q] k2 pt2) X.env = pure (some [x, y, z]) := by rfl)
    (hs : swapsWithSole [.Tuple [.Name x px, .Name y py, .Name z pz] kt pt] (.Tuple [u, v, q] k2 pt2) pos.line X.env = pure false := by rfl) :
    PS X (.Assign [.Tuple [.Name x px, .Name y py, .Name z pz] kt pt] (.Tuple [u, v, q] k2 pt2) pos) (RS (X.D tl) (parS [i, j, l] t)) :=
  (ps_par3 hc hN hi hj hl hij hil hjl hx hy hz ha hw hs).imp fun D σ H h => by
    obtain ⟨P, B, L, ρ, rs, ρ', R0, e, k⟩ := par_core h
    refine ⟨P, B, L, ρ, rs, ρ', R0, e, fun xs H' L' E' p v => ?_⟩
    obtain ⟨q1, q2, q3⟩ := k xs H' L' E' p v
    match xs, q1 with
    | [v1, v2, v3], _ => exact ⟨v1, v2, v3, rfl, q3 H' keep_refl⟩
end
def rg1 (f : ED) (mk : List PyData → Val) : ED := fun ρ => (f ρ).bind fun p => match p.1 with
  | .cl (.int n) => if -lim ≤ n ∧ n ≤ lim then some (mk (rngD 0 n.toNat 1), p.2) else none
  | _ => none
def lstR1 (f : ED) : ED := rg1 f .own
def tupR1 (f : ED) : ED := rg1 f fun ds => .cl (.tuple ds)
theorem dq_rg {K : Fg} {H : Hp} {W : List Addr} (n : Int) : DqA K H W (rgV 0 n) (rngD 0 n.toNat 1) := by
  have go : ∀ l : List Nat, DqA K H W (l.map fun i => V.int (0 + (i : Nat))) (l.map fun (k : Nat) => PyData.int (0 + k * 1)) := fun l => by
    induction l with
    | nil => exact .nil
    | cons i l ih =>
      refine .cons ?_ ih
      show Dq K H W (V.int (0 + (i : Nat))) (.int (0 + (i : Int) * 1))
      rw [Int.mul_one]
      exact .int _
  unfold rgV rngD
  rw [show (n - 0).toNat = n.toNat by omega]
  exact go _
section
variable {X : Cx} {tl : TL} {a : Expr} {f : ED} {pos p p2 pos2 : Pos}
theorem rg1_of {mk : List PyData → Val} {ρ ρ' : DL.Env} {r : Val} (e : rg1 f mk ρ = some (r, ρ')) : ∃ n, f ρ = some (.cl (.int n), ρ') ∧ RgOk 0 n ∧ r = mk (rngD 0 n.toNat 1) := by
  obtain ⟨⟨r1, ρ1⟩, e1, e2⟩ := Option.bind_eq_some_iff.mp e
  simp only at e2
  split at e2
  · rename_i n
    split at e2
    · rename_i hz
      cases e2
      have hl := lim_eq
      exact ⟨n, e1, ⟨by omega, by omega, by omega, by omega, by omega⟩, rfl⟩
    · cases e2
  · cases e2
theorem d_lstR1 (hg : Gl X "list") (hm : X.mg "list" = none) (hg2 : Gl X "range") (hm2 : X.mg "range" = none) (hc : X.calm = true) (ha : PE X a (RD (X.D tl) f)) (na : starEach [a] X.env = (false, eval a X.env) :: starEach [] X.env := by rfl)
    (nb : starEach [.Call (.Name "range" p2) [a] [] pos2] X.env = (false, eval (.Call (.Name "range" p2) [a] [] pos2) X.env) :: starEach [] X.env := by rfl) :
    PE X (.Call (.Name "list" p) [.Call (.Name "range" p2) [a] [] pos2] [] pos) (RD (X.D tl) (lstR1 f)) :=
  (pe_listRg hc hg hm (prg_1 hg2 hm2 ha na) nb).imp fun σ H Q h => by
    obtain ⟨P, B, L, ρ, r, ρ', R0, e, k⟩ := h
    obtain ⟨n, e1, ok, rfl⟩ := rg1_of e
    exact ⟨P, B, L, ρ, _, ρ', R0, e1, fun x H1 La Ea p1 v1 => ⟨n, v1.int, ok, fun q hq => (k.after p1).lst p1.rep (dq_rg n) hq⟩⟩
end
end DL
end
noncomputable section
namespace DL
open PySem PySem.Spec PyProof.Rows L2
def intsOf : List PyData → Option (List Int)
  | [] => some []
  | .int b :: ds => (intsOf ds).map (b :: ·)
  | _ => none
theorem ints_of {K : Fg} {H : Hp} {W : List Addr} : ∀ {vs : List V} {ds : List PyData} {bs : List Int}, DqA K H W vs ds → intsOf ds = some bs → vs = bs.map V.int ∧ ds = bs.map .int
  | _, [], bs, h, e => by cases h; cases e; exact ⟨rfl, rfl⟩
  | _, d :: ds, bs, h, e => by
    cases h with
    | cons h1 h2 =>
      cases d <;> simp [intsOf] at e
      obtain ⟨cs, e1, e2⟩ := e
      subst e2
      cases h1
      obtain ⟨q1, q2⟩ := ints_of h2 e1
      rw [q1, q2]; exact ⟨rfl, rfl⟩
theorem intsOf_map : ∀ (ns : List Int), intsOf (ns.map .int) = some ns
  | [] => rfl
  | n :: ns => by
    show (intsOf (ns.map .int)).map (n :: ·) = _
    rw [intsOf_map ns]; rfl
/-- a row of them, in a list or a tuple -/
def NumV (K : Fg) (H : Hp) (x : V) (ns : List Int) : Prop := ∃ a : Addr, x = .ref a ∧ (SqL K H a (ns.map V.int) ∨ SqT K H a (ns.map V.int))
theorem VR.nums {K : Fg} {E P B L : List Addr} {σ : L2.St} {ρ : DL.Env} {H : Hp} {x : V} {r : Val} {k : Bool} {ds : List PyData} {ns : List Int} (R0 : Rep K (E ++ P) B L σ ρ H) (v : VR K E P B L σ H x r) (e : seqOf ρ r = some (k, ds)) (e2 : intsOf ds = some ns) : NumV K H x ns := by
  cases k with
  | true =>
    obtain ⟨a, vs, rfl, h1, d1⟩ := v.list R0 e
    obtain ⟨rfl, _⟩ := ints_of d1 e2
    exact ⟨a, rfl, .inl (.of h1)⟩
  | false =>
    obtain ⟨a, vs, rfl, h1, d1⟩ := v.tuple e
    obtain ⟨rfl, _⟩ := ints_of d1 e2
    exact ⟨a, rfl, .inr h1.sq⟩
def sumG : DL.Env → Val → Option (Val × DL.Env) := fun ρ a => (seqOf ρ a).bind fun q => (intsOf q.2).map fun ns => (.cl (.int ns.sum), ρ)
def rSumA (K : Fg) : V → Hp → VK → Prop := fun x H Q => ∃ ns, NumV K H x ns ∧ Q (.int ns.sum) H
theorem loc_sum {K : Fg} : Loc1 K (rSumA K) sumG := by
  intro E P B L σ ρ ρ' H x r1 r Q R0 v1 e c
  obtain ⟨⟨k, ds⟩, e1, e2⟩ := Option.bind_eq_some_iff.mp e
  obtain ⟨ns, e3, e4⟩ := Option.map_eq_some_iff.mp e2
  cases e4
  exact ⟨ns, v1.nums R0 e1 e3, c.here R0 (show VR K E P B L σ H _ (.cl (.int _)) from Dq.int _)⟩
theorem tup_sum {X : Cx} {tl : TL} {pins : List (Addr × Obj)} {s : Shared} {σ : L2.St} {H : Hp} {Q : VK} {a : Addr} {ns : List Int} (hc : X.calm = true) (I : Inv X pins σ H s) (hs : SqT (X.D tl) H a (ns.map V.int)) (q : Q (.int ns.sum) H) :
    wpAny (model X.prog X.w) X.A (call (.builtin "sum") [.ref a]) (EP X pins σ Q) X.xe s := by
  obtain ⟨its, rv, hl, _⟩ := I.tuple hs
  have hi := rv.ints
  obtain ⟨xs, hx⟩ := hi.allInts.items
  have hn : numsOf its.toArray.toList = ns := by rw [show its.toArray.toList = its from rfl, hi.numsOf]
  have hl2 : s.heap.IsTuple a (intItems xs) := by rw [← hx]; exact hl
  rw [hx, nums_intItems] at hn
  refine PySem.W.ktm_sumG (I.ok.hd hc) hl2 fun h' tk t' hk => ?_
  rw [preSum_eq, List.take_of_length_le (by simp), hn]
  exact ⟨.int _, H, I.kept hk, ⟨_, rfl⟩, q⟩
theorem c_sum {X : Cx} {tl : TL} (hc : X.calm = true) : CallR X (.builtin "sum") (fun xs H Q => ∃ x, xs = [x] ∧ rSumA (X.D tl) x H Q) := by
  intro pins s σ H vs us Q I r h
  obtain ⟨x, rfl, ns, ⟨a, rfl, h1 | h1⟩, q⟩ := h
  · exact cr_sum hc pins s σ H _ us Q I r ⟨a, ns, rfl, h1, q⟩
  · rw [Vals.ref1 r]
    exact tup_sum hc I h1 q
theorem TupD.ob {X : Cx} {pins : List (Addr × Obj)} {s : Shared} {σ : L2.St} {H : Hp} {a : Addr} {xs : List V} (I : Inv X pins σ H s) (h : TupD H a xs) : ∃ o, s.heap.get? a = some o ∧ o.dict = none ∧ o.cls = .type "tuple" := by
  obtain ⟨o, h, p⟩ := h
  obtain ⟨e, _⟩ := I.hok a _ h
  exact ⟨o, e, p.2, p.1⟩
abbrev M1 := DL.Env → List PyData → Val → Option (Val × DL.Env)
/-- o.m(e) for a list or a tuple -/
def metV (f1 f2 : ED) (g : M1) : ED := fun ρ => (f1 ρ).bind fun p => (seqOf p.2 p.1).bind fun k => (f2 p.2).bind fun q => (seqOf q.2 p.1).bind fun k2 => if k2.1 = k.1 then g q.2 k2.2 q.1 else none
def cntG : M1 := fun ρ ds b => match b with
  | .cl (.int k) => (intsOf ds).map fun ns => (.cl (.int (ns.count k : Nat)), ρ)
  | _ => none
def idxG : M1 := fun ρ ds b => match b with
  | .cl (.int k) => (intsOf ds).bind fun ns => if k ∈ ns then some (.cl (.int (ns.idxOf k : Nat)), ρ) else none
  | _ => none
end DL
end
noncomputable section
namespace DL
open PySem PySem.Spec PyProof.Rows L2
def sortI (ns : List Int) : List Int := ns.mergeSort (fun a b => decide (a ≤ b))
theorem sortI_perm (ns : List Int) : (sortI ns).Perm ns := List.mergeSort_perm ..
theorem sortI_pair (ns : List Int) : (sortI ns).Pairwise (· ≤ ·) := by
  have := List.pairwise_mergeSort (le := fun a b : Int => decide (a ≤ b)) (fun a b c h1 h2 => by simp at *; omega) (fun a b => by simp; omega) ns
  exact this.imp fun h => by simpa using h
theorem sorted_one : ∀ {l m : List Int}, l.Perm m → l.Pairwise (· ≤ ·) → m.Pairwise (· ≤ ·) → l = m
  | [], m, p, _, _ => (List.Perm.nil_eq p)
  | a :: l, [], p, _, _ => absurd p.length_eq (by simp)
  | a :: l, b :: m, p, h1, h2 => by
    have ha : a ∈ b :: m := p.mem_iff.mp (List.mem_cons_self ..)
    have hb : b ∈ a :: l := p.mem_iff.mpr (List.mem_cons_self ..)
    have e1 : b ≤ a := by
      rcases List.mem_cons.mp ha with z | z
      · omega
      · exact (List.pairwise_cons.mp h2).1 a z
    have e2 : a ≤ b := by
      rcases List.mem_cons.mp hb with z | z
      · omega
      · exact (List.pairwise_cons.mp h1).1 b z
    have e : a = b := by omega
    subst e
    rw [sorted_one ((List.perm_cons a).mp p) (List.pairwise_cons.mp h1).2 (List.pairwise_cons.mp h2).2]
def sortG : DL.Env → Val → Option (Val × DL.Env) := fun ρ a => (seqOf ρ a).bind fun q => (intsOf q.2).map fun ns => (.own ((sortI ns).map .int), ρ)
end DL
end
noncomputable section
namespace DL
open PySem PySem.Spec PyProof.Rows L2
def flatOf : PyData → Option V
  | .none => some .non
  | .bool b => some (.bl b)
  | .int i => some (.int i)
  | .str x => some (.str x)
  | _ => none
def flatsOf : List PyData → Option (List V)
  | [] => some []
  | d :: ds => (flatOf d).bind fun v => (flatsOf ds).map (v :: ·)
def inG (neg : Bool) : DL.Env → Val → Val → Option (Val × DL.Env) := fun ρ a b => match a with
  | .cl d => (flatOf d).bind fun x => (seqOf ρ b).bind fun q => (flatsOf q.2).map fun xs => (.cl (.bool (if neg then !inV x xs else inV x xs)), ρ)
  | _ => none
end DL
end
noncomputable section
namespace DL
open PySem PySem.Spec PyProof.Rows L2
def itemSt (ρ : DL.Env) (j k : Nat) (d : PyData) : Option Out := match ρ.getD k .no, opAt ρ j with
  | .cl (.int i), some (kk, ds) => (ixN ds.length i).bind fun m => some (.nx (opSet ρ j kk (ds.set m d)))
  | _, _ => none
def asgNS (i j k : Nat) (t : AD) : SD := fun ρ => (t ρ).bind fun p => (psAll p.2 p.1).bind fun q => match q.1 with
  | [d1, d2] => itemSt (q.2.set i (.cl d1)) j k d2
  | _ => none
end DL
end
noncomputable section
namespace DL
open PySem PySem.Spec PyProof.Rows L2
def dd : List Int → List Int
  | [] => []
  | x :: xs => if x ∈ dd xs then dd xs else x :: dd xs
theorem dd_mem {k : Int} : ∀ {ns : List Int}, k ∈ dd ns ↔ k ∈ ns
  | [] => Iff.rfl
  | x :: xs => by
    have ih := dd_mem (k := k) (ns := xs)
    unfold dd
    split
    · rename_i h
      have hx := dd_mem (k := x) (ns := xs)
      rw [ih, List.mem_cons]
      constructor
      · exact .inr
      · rintro (rfl | z)
        · exact hx.mp h
        · exact z
    · rw [List.mem_cons, List.mem_cons, ih]
theorem dd_nodup : ∀ (ns : List Int), (dd ns).Nodup
  | [] => List.nodup_nil
  | x :: xs => by
    unfold dd
    split
    · exact dd_nodup xs
    · rename_i h
      exact List.nodup_cons.mpr ⟨h, dd_nodup xs⟩
def sortU (ns : List Int) : List Int := sortI (dd ns)
theorem sortU_mem {k : Int} {ns : List Int} : k ∈ sortU ns ↔ k ∈ ns := ((sortI_perm (dd ns)).mem_iff).trans dd_mem
section
variable {X : Cx} {tl : TL}
def rSetL (K : Fg) (w : World) : List V → Hp → VK → Prop := fun xs H Q => ∃ (a : Addr) (ns : List Int), xs = [.ref a] ∧ SqL K H a (ns.map V.int) ∧ ns.length ≤ 4000 ∧ ∀ p, H p = none → Q (.ref p) (upd H p (SetO w p (fun j => decide (j ∈ ns)) (dd ns).length))
def uniG : DL.Env → Val → Option (Val × DL.Env) := fun ρ a => match seqOf ρ a with
  | some (true, ds) => (intsOf ds).bind fun ns => if ns.length ≤ 4000 ∧ (dd ns).length < 64 then some (.own ((sortU ns).map .int), ρ) else none
  | _ => none
end
end DL
end
noncomputable section
namespace DL
open PySem PySem.Spec PyProof.Rows L2 ZE
section
variable {K : Fg} {P B L E L' : List Addr} {σ : L2.St} {ρ : DL.Env} {H H' : Hp} {j : Nat} {a : Addr} {vs : List V} {ds : List PyData}
theorem mem_lent {b : Addr} : b ∈ L.filter (fun b => decide (b ≠ a)) ↔ b ∈ L ∧ b ≠ a := by simp [List.mem_filter]
theorem Rep.lend (R : Rep K P B L σ ρ H) (ej : ρ.getD j .no = .op ds) (ea : σ[j]? = some (some (V.ref a))) (hm : a ∈ L) : Rep K (a :: P) B (L.filter fun b => decide (b ≠ a)) σ (ρ.set j .no) H := by
  have hs : ∀ b ∈ (a :: P) ++ B ++ L.filter (fun b => decide (b ≠ a)), b ∈ P ++ B ++ L := fun b z => by
    rcases mem3.mp z with z | z | z
    · rcases List.mem_cons.mp z with z | z
      · exact mem3.mpr (.inr (.inr (z ▸ hm)))
      · exact mem3.mpr (.inl z)
    · exact mem3.mpr (.inr (.inl z))
    · exact mem3.mpr (.inr (.inr (mem_lent.mp z).1))
  have ne : ∀ i, i ≠ j → (ρ.getD i .no).isOpen = true → σ[i]? ≠ some (some (V.ref a)) := fun i hi ho z => R.inj i j a hi ho (by rw [ej]; rfl) z ea
  refine ⟨by rw [List.length_set]; exact R.len, fun b z => R.wl b (hs b z), ⟨fun b z => ?_, fun b z w => R.nd.2 b z (mem_lent.mp w).1⟩, fun i => ?_, fun i k b hik h1 h2 => ?_, R.tabs⟩
  · rcases List.mem_cons.mp z with z | z
    · subst z
      exact ⟨fun w => R.nd.2 b w hm, fun w => (mem_lent.mp w).2 rfl⟩
    · exact ⟨(R.nd.1 b z).1, fun w => (R.nd.1 b z).2 (mem_lent.mp w).1⟩
  · rw [getD_set]
    by_cases hi : j = i ∧ j < ρ.length
    · rw [if_pos hi]; trivial
    · rw [if_neg hi]
      have q := R.ok i
      have nei := ne i
      revert q nei
      generalize hc : ρ.getD i .no = c
      intro q nei
      cases c with
      | no => trivial
      | cl d => obtain ⟨v, e, h⟩ := q; exact ⟨v, e, h.sub hs⟩
      | op es =>
        obtain ⟨b, ws, e, hb, hh, h⟩ := q
        have hij : i ≠ j := fun z => hi ⟨z.symm, by
          by_cases hl : j < ρ.length
          · exact hl
          · rw [List.getD_eq_getElem?_getD, List.getElem?_eq_none (by omega)] at ej; cases ej⟩
        exact ⟨b, ws, e, mem_lent.mpr ⟨hb, fun z => nei hij rfl (z ▸ e)⟩, hh, h.sub hs⟩
      | pm es => obtain ⟨b, ws, e, hb, hh, h⟩ := q; exact ⟨b, ws, e, hb, hh, h.sub hs⟩
      | dk t es =>
        obtain ⟨b, ws, e, hb, hh, h⟩ := q
        have hij : i ≠ j := fun z => hi ⟨z.symm, by
          by_cases hl : j < ρ.length
          · exact hl
          · rw [List.getD_eq_getElem?_getD, List.getElem?_eq_none (by omega)] at ej; cases ej⟩
        exact ⟨b, ws, e, mem_lent.mpr ⟨hb, fun z => nei hij rfl (z ▸ e)⟩, hh, h.sub hs⟩
  · have t : ∀ m, ((ρ.set j .no).getD m .no).isOpen = true → (ρ.getD m .no).isOpen = true := fun m z => by
      rw [getD_set] at z
      by_cases hm : j = m ∧ j < ρ.length
      · rw [if_pos hm] at z; cases z
      · rwa [if_neg hm] at z
    exact R.inj i k b hik (t i h1) (t k h2)
theorem Rep.back (R : Rep K (E ++ (a :: P)) B L σ ρ H) (hn : ρ.getD j .no = .no) (ea : σ[j]? = some (some (V.ref a))) (hE : a ∉ E) (hP : a ∉ P) (hh : H a = some (.lst vs)) (d : DqA K H (E ++ (a :: P) ++ B ++ L) vs ds) : Rep K (E ++ P) B (a :: L) σ (ρ.set j (.op ds)) H := by
  have ha : a ∈ E ++ (a :: P) := List.mem_append_right _ (List.mem_cons_self ..)
  have nd := R.nd.1 a ha
  have hs : ∀ b ∈ (E ++ P) ++ B ++ (a :: L), b ∈ (E ++ (a :: P)) ++ B ++ L := fun b z => by
    rcases mem3.mp z with z | z | z
    · refine mem3.mpr (.inl ?_)
      rcases List.mem_append.mp z with z | z
      · exact List.mem_append_left _ z
      · exact List.mem_append_right _ (List.mem_cons_of_mem _ z)
    · exact mem3.mpr (.inr (.inl z))
    · rcases List.mem_cons.mp z with z | z
      · exact mem3.mpr (.inl (z ▸ ha))
      · exact mem3.mpr (.inr (.inr z))
  have hl : j < ρ.length := by
    rw [← R.len]
    exact (List.getElem?_eq_some_iff.mp ea).1
  have other : ∀ i, (ρ.getD i .no).isOpen = true → σ[i]? ≠ some (some (V.ref a)) := fun i ho z => by
    have q := R.ok i
    revert q ho
    generalize ρ.getD i .no = c
    intro ho q
    cases c with
    | no => cases ho
    | cl d => cases ho
    | op es => obtain ⟨b, ws, e, hb, _⟩ := q; rw [z] at e; cases e; exact nd.2 hb
    | pm es => obtain ⟨b, ws, e, hb, _⟩ := q; rw [z] at e; cases e; exact nd.1 hb
    | dk t es => obtain ⟨b, ws, e, hb, _⟩ := q; rw [z] at e; cases e; exact nd.2 hb
  refine ⟨by rw [List.length_set]; exact R.len, fun b z => R.wl b (hs b z), ⟨fun b z => ?_, fun b z w => ?_⟩, fun i => ?_, fun i k b hik h1 h2 e1 e2 => ?_, R.tabs⟩
  · have hb : b ∈ E ++ (a :: P) := by
      rcases List.mem_append.mp z with z | z
      · exact List.mem_append_left _ z
      · exact List.mem_append_right _ (List.mem_cons_of_mem _ z)
    have hba : b ≠ a := fun q => by
      subst q
      exact (List.mem_append.mp z).elim hE hP
    exact ⟨(R.nd.1 b hb).1, fun w => (List.mem_cons.mp w).elim hba (R.nd.1 b hb).2⟩
  · rcases List.mem_cons.mp w with w | w
    · subst w; exact nd.1 z
    · exact R.nd.2 b z w
  · rw [getD_set]
    by_cases hi : j = i ∧ j < ρ.length
    · rw [if_pos hi, ← hi.1]
      exact ⟨a, vs, ea, List.mem_cons_self .., hh, d.sub hs⟩
    · rw [if_neg hi]
      have q := R.ok i
      revert q
      generalize ρ.getD i .no = c
      intro q
      cases c with
      | no => trivial
      | cl d => obtain ⟨v, e, h⟩ := q; exact ⟨v, e, h.sub hs⟩
      | op es => obtain ⟨b, ws, e, hb, hh, h⟩ := q; exact ⟨b, ws, e, List.mem_cons_of_mem _ hb, hh, h.sub hs⟩
      | pm es => obtain ⟨b, ws, e, hb, hh, h⟩ := q; exact ⟨b, ws, e, hb, hh, h.sub hs⟩
      | dk t es => obtain ⟨b, ws, e, hb, hh, h⟩ := q; exact ⟨b, ws, e, List.mem_cons_of_mem _ hb, hh, h.sub hs⟩
  · have t : ∀ m, m ≠ j → ((ρ.set j (.op ds)).getD m .no).isOpen = true → (ρ.getD m .no).isOpen = true := fun m hm z => by
      rw [getD_set, if_neg fun w => hm w.1.symm] at z
      exact z
    by_cases hi : i = j
    · subst hi
      rw [ea] at e1
      cases e1
      exact other k (t k (fun z => hik z.symm) h2) e2
    · by_cases hk : k = j
      · subst hk
        rw [ea] at e2
        cases e2
        exact other i (t i hi h1) e1
      · exact R.inj i k b hik (t i hi h1) (t k hk h2) e1 e2
end
/-- [e for i, x in enumerate(xs) if t], xs an open list that the block doesn't name -/
def lcB (j : Nat) (own : List Nat) (tg : GD) (tt : TD) (te : ED) : ED := fun ρ => match ρ.getD j .no with
  | .op ds => if own.all (fun i => !((ρ.set j .no).getD i .no).isOpen) = true then
      (lcLoop own tg tt te [] (enumD ds) (wipeE (ρ.set j .no) own)).bind fun q => match (restE q.2 (ρ.set j .no) own).getD j .no with
        | .no => some (.own q.1, (restE q.2 (ρ.set j .no) own).set j (.op ds))
        | _ => none
    else none
  | _ => none
section
variable {K : Fg} {P B L L' : List Addr} {σ : L2.St} {ρ ρ' : DL.Env} {H H' : Hp}
theorem lent_stays {a : Addr} {vs : List V} {ds : List PyData} {E : List Addr} (R : Rep K (a :: P) B L σ ρ H) (hh : H a = some (.lst vs)) (d : DqA K H (a :: P ++ B ++ L) vs ds) (s : Step B L H L' H') (he : ∀ b ∈ E, H b = none) : H' a = some (.lst vs) ∧ DqA K H' (E ++ (a :: P) ++ B ++ L') vs ds := by
  have nd := R.nd.1 a (List.mem_cons_self ..)
  refine ⟨s.keep.at hh fun z => (List.mem_append.mp z).elim nd.1 nd.2, ?_⟩
  exact d.move R.lbl (fun b z => mem3.mpr (.inr (List.mem_append.mp z))) s.keep fun b z => by
    rcases mem4.mp z with z | z | z | z
    · exact .inr (he b z)
    · exact .inl (mem3.mpr (.inl z))
    · exact .inl (mem3.mpr (.inr (.inl z)))
    · exact (s.lsub b z).imp (fun z => mem3.mpr (.inr (.inr z))) id
theorem walks_lent {a : Addr} {vs : List V} {ds : List PyData} (R : Rep K (a :: P) B L σ ρ H) (hh : H a = some (.lst vs)) (d : DqA K H (a :: P ++ B ++ L) vs ds) : Walks K (a :: P) B L H (IteB K true a) (enumD ds) := fun H2 L2 E s he => by
  obtain ⟨h2, d2⟩ := lent_stays R hh d s he
  have q1 : SqB K true H2 a vs := .of h2
  have l1 := d2.length
  refine ⟨fun i e hd => ?_, ⟨vs, q1, ?_⟩⟩
  · unfold enumD at hd
    rw [List.getElem?_mapIdx] at hd
    obtain ⟨x, hx, rfl⟩ := Option.map_eq_some_iff.mp hd
    obtain ⟨v, hv, dv⟩ := d2.get hx
    refine ⟨⟨vs, v, q1, hv⟩, fun z H3 hz => ?_⟩
    obtain ⟨T, v', ob, rfl, hT, po, rfl, f1⟩ := hz
    have ev := (f1 vs q1).symm.trans hv
    cases ev
    have kp : Keep [] H2 (upd H2 T (.frz ob (.tup [.int (i : Nat), v]))) := Keep.new hT
    exact ⟨kp, .tup ⟨ob, upd_same, po⟩ (.cons (.int _) (.cons (dv.move lists_nil (fun _ z => nomatch z) kp fun _ z => .inl z) .nil))⟩
  · unfold enumD
    rw [List.length_mapIdx, l1]
theorem lcB_imp {own is : List Nat} {j : Nat} {tg : GD} {tt : TD} {te : ED} (hin : ∀ i ∈ is, i ∈ own) {Q : VK} (h : RD K (lcB j own tg tt te) σ H Q) : tLc (iEnumB K (tCons (tVar j) tNil)) (RG K is tg) (RT K tt) (RD K te) own σ H Q := by
  obtain ⟨P, B, L, ρ, r, ρ', R0, e, c⟩ := h
  unfold lcB at e
  split at e
  · rename_i ds ej
    split at e
    · rename_i hno
      obtain ⟨⟨es, ρ2⟩, e2, e⟩ := Option.bind_eq_some_iff.mp e
      simp only at e
      split at e
      · rename_i en
        cases e
        have q0 := R0.ok j
        rw [ej] at q0
        obtain ⟨a, vs, ea, hm, hh, dq⟩ := q0
        have R1 := R0.lend ej ea hm
        have aP : a ∉ P := fun z => (R0.nd.1 a z).2 hm
        have hs : ∀ b ∈ (a :: P) ++ B ++ L.filter (fun b => decide (b ≠ a)), b ∈ P ++ B ++ L := fun b z => by
          rcases mem3.mp z with z | z | z
          · rcases List.mem_cons.mp z with z | z
            · exact mem3.mpr (.inr (.inr (z ▸ hm)))
            · exact mem3.mpr (.inl z)
          · exact mem3.mpr (.inr (.inl z))
          · exact mem3.mpr (.inr (.inr (mem_lent.mp z).1))
        have d1 : DqA K H ((a :: P) ++ B ++ L.filter (fun b => decide (b ≠ a))) vs ds := dq.sub hs
        have k : Cont K (a :: P) B (L.filter fun b => decide (b ≠ a)) σ H [] (restE ρ2 (ρ.set j .no) own) (.own es) Q := fun x H' L' E' p v => by
          have fE : ∀ b ∈ E', H b = none := fun b z => (p.esub b z).resolve_left fun w => nomatch w
          obtain ⟨h2, d2⟩ := lent_stays R1 hh d1 p.step fE
          have aE : a ∉ E' := fun z => by rw [fE a z] at hh; cases hh
          have R2 := Rep.back p.rep en ea aE aP h2 d2
          refine c x H' (a :: L') E' ⟨R2, ⟨p.step.keep.mono fun b z => ?_, fun b z => ?_, p.step.ne⟩, p.esub⟩ ?_
          · rcases List.mem_append.mp z with z | z
            · exact List.mem_append_left _ z
            · exact List.mem_append_right _ (mem_lent.mp z).1
          · rcases List.mem_cons.mp z with z | z
            · exact .inl (z ▸ hm)
            · exact (p.step.lsub b z).imp (fun w => (mem_lent.mp w).1) id
          · obtain ⟨b, ws, rfl, m1, m2, m3, m4⟩ := v
            refine ⟨b, ws, rfl, m1, fun z => m2 (List.mem_cons_of_mem _ z), m3, m4.sub fun y z => ?_⟩
            rcases mem4.mp z with z | z | z | z
            · exact mem4.mpr (.inl z)
            · exact mem4.mpr (.inr (.inl (List.mem_cons_of_mem _ z)))
            · exact mem4.mpr (.inr (.inr (.inl z)))
            · rcases List.mem_cons.mp z with z | z
              · exact mem4.mpr (.inr (.inl (z ▸ List.mem_cons_self ..)))
              · exact mem4.mpr (.inr (.inr (.inr z)))
        exact ⟨.ref a, ea, true, a, vs, rfl, .of hh, lc_tail hin R1 hno e2 k (IteB K true a) H _ [] (.refl (E := []) R1) (walks_lent R1 hh d1)⟩
      · cases e
    · cases e
  · cases e
end
section
variable {X : Cx} {tl : TL} {elt : Expr} {elts ifs : List Expr} {kk : Nat} {tp : Pos} {scope : Scope} {pos p px pos2 : Pos} {own : List (Str × Nat)} {is : List Nat} {tg : GD} {tt : TD} {te : ED} {x : Str}
theorem i_lent (j : Nat) (hg : Gl X "enumerate") (hm : X.mg "enumerate" = none) (hN : X.N[j]? = some x := by rfl) (hv : Vis X.env.scope x := by first | exact Or.inl rfl | exact Or.inr (Or.inl rfl) | exact Or.inr (Or.inr rfl)) (hd : (x == ("__debug__" : Str)) = false := by decide) (hcd : (x == ("__classdict__" : Str)) = false := by decide)
    (h1 : starEach [.Name x px] X.env = (false, eval (.Name x px) X.env) :: starEach [] X.env := by rfl) (h2 : starEach [.Name x px] X.env = [(false, eval (.Name x px) X.env)] := by rfl) :
    PI X (.Tuple elts kk tp) (.Call (.Name "enumerate" p) [.Name x px] [] pos2) (iEnumB (X.D tl) (tCons (tVar j) tNil)) :=
  pi_enumB hg hm (pa_cons (pe_var hN hv hd hcd) pa_nil h1) h2
theorem s_setLcB (i : Nat) {j : Nat} {y : Str} {py spos : Pos} (hc : X.calm = true) (hN : X.N.Nodup) (hsw : swapsWith (.ListComp elt [⟨.Tuple elts kk tp, .Call (.Name "enumerate" p) [.Name x px] [] pos2, ifs, 0⟩] scope pos) (some (.Name y py)) spos.line X.env = pure true)
    (hi : PI X (.Tuple elts kk tp) (.Call (.Name "enumerate" p) [.Name x px] [] pos2) (iEnumB (X.D tl) (tCons (tVar j) tNil))) (ok : BlkOk X.N X.env.scope scope own) (hin : ∀ i ∈ is, i ∈ own.map (·.2))
    (hg : ∀ (s : Shared) (H : Hp) (C : Addr) (cl : List (Str × Addr)) (fp : List Addr), PG (X.blk s H scope (compEnvC scope cl C X.env) fp) (.Tuple elts kk tp) (RG (X.D tl) is tg)) (ht : ∀ (s : Shared) (H : Hp) (C : Addr) (cl : List (Str × Addr)) (fp : List Addr), PTs (X.blk s H scope (compEnvC scope cl C X.env) fp) ifs (RT (X.D tl) tt))
    (he : ∀ (s : Shared) (H : Hp) (C : Addr) (cl : List (Str × Addr)) (fp : List Addr), PE (X.blk s H scope (compEnvC scope cl C X.env) fp) elt (RD (X.D tl) te)) (hs : ∀ x', foldedSetIterable (.Call (.Name "enumerate" p) [.Name x px] [] pos2) X.env x' = pure x' := by intro _; rfl)
    (hy : X.N[i]? = some y := by rfl) (hyl : X.env.scope.names.lookup y = some .local := by rfl) :
    PS X (.Assign [.Name y py] (.ListComp elt [⟨.Tuple elts kk tp, .Call (.Name "enumerate" p) [.Name x px] [] pos2, ifs, 0⟩] scope pos) spos) (RS (X.D tl) (setS i (lcB j (own.map (·.2)) tg tt te))) :=
  (ps_setLc hc hN hy hyl hsw hi ok hg ht he hs).imp fun D σ H h => by
    obtain ⟨P, B, L, ρ, o, R, e, k⟩ := h
    obtain ⟨⟨r, ρ1⟩, e1, e2⟩ := Option.bind_eq_some_iff.mp e
    obtain ⟨ρ2, e3, e4⟩ := Option.map_eq_some_iff.mp e2
    subst e4
    refine lcB_imp hin ⟨P, B, L, ρ, r, ρ1, R, e1, fun x' H' L' E' p v => ?_⟩
    obtain ⟨E2, Lb, R2, h1, h2, _⟩ := stV_of p.rep v e3
    exact k _ H' Lb R2.drop (step_more p.step p.esub h2)
end
end DL
end
noncomputable section
namespace DL
open PySem PySem.Spec PyProof.Rows L2 LamX
section
variable {X : Cx} {pins : List (Addr × Obj)} {s : Shared} {σ : L2.St} {H : Hp}
/-- the tables' names stay where one table grows by a code object of its own name, and a new code object is told -/
theorem keep_grown {P c' : Addr} {ps : Array Value} {pos : Pos} (hP : H P = some (.tbl ps)) (hc : H c' = none) : Keep [] H (upd (upd H P (.tbl (ps ++ #[rawInt pos.line, rawInt pos.col, .ref c']))) c' (CodeO c' (nameAt P))) := by
  have nPc : P ≠ c' := ne_of_none hP hc
  have old : ∀ b o, H b = some o → (∀ qs, o ≠ .tbl qs) → upd (upd H P (.tbl (ps ++ #[rawInt pos.line, rawInt pos.col, .ref c']))) c' (CodeO c' (nameAt P)) b = some o := fun b o e n => by
    have b1 : b ≠ c' := ne_of_none e hc
    have b2 : b ≠ P := fun z => by
      subst z
      rw [hP] at e
      exact n ps (Option.some.inj e).symm
    rw [upd_ne b1, upd_ne b2]; exact e
  refine ⟨fun b o e _ n => old b o e n, fun T t b hb => ?_, fun b hb => ?_⟩
  · obtain ⟨qs, q1, q2, q3⟩ := t b hb
    by_cases z : b = P
    · subst z
      rw [hP] at q1
      cases q1
      have eL : (ps ++ #[rawInt pos.line, rawInt pos.col, .ref c']).toList = ps.toList ++ [rawInt pos.line, rawInt pos.col, .ref c'] := by simp
      refine ⟨_, by rw [upd_ne nPc, upd_same], by rw [eL]; exact TriplesOk_snoc _ _ _ _ q2, fun p2 cv h2 => ?_⟩
      rw [eL] at h2
      rcases among_app (pos := pos) ps.toList q2 h2 with h3 | h3
      · obtain ⟨d, d1, d2⟩ := q3 p2 cv h3
        exact ⟨d, d1, old _ _ d2 codeO_ne⟩
      · exact ⟨c', h3, upd_same⟩
    · refine ⟨qs, by rw [upd_ne (ne_of_none q1 hc), upd_ne z]; exact q1, q2, fun p2 cv h2 => ?_⟩
      obtain ⟨d, d1, d2⟩ := q3 p2 cv h2
      exact ⟨d, d1, old _ _ d2 codeO_ne⟩
  · by_cases z : b = c'
    · rw [z, upd_same]; exact fun y => nomatch y
    · by_cases z2 : b = P
      · rw [upd_ne z, z2, upd_same]; exact fun y => nomatch y
      · rw [upd_ne z, upd_ne z2]; exact hb
end
def keyLe (ns : List Int) (p q : Int) : Bool := decide (ns.getD p.toNat 0 < ns.getD q.toNat 0 ∨ (ns.getD p.toNat 0 = ns.getD q.toNat 0 ∧ p ≤ q))
def upto (m : Nat) : List Int := (List.range m).map fun k : Nat => (k : Int)
def sortK (ns : List Int) (m : Nat) : List Int := (upto m).mergeSort (keyLe ns)
/-- sorted(range(n), key=..): n, then the slot of the row -/
def srtKD (f : ED) (j : Nat) : ED := fun ρ => (f ρ).bind fun p => match p.1, p.2.getD j .no with
  | .cl (.int n), .cl (.tuple ds) => (intsOf ds).bind fun ns => if (-lim ≤ n ∧ n ≤ lim) ∧ n.toNat ≤ ns.length then some (.own ((sortK ns n.toNat).map .int), p.2) else none
  | _, _ => none
end DL
end
noncomputable section
namespace DL
open PySem PySem.Spec PyProof.Rows L2
/-- a block within a block: the outer one's names -/
def relab (sc scope : Scope) : Scope := { scope with names := scope.names.map fun y => if (y.2 == .free && sc.kind == .function && sc.names.lookup y.1 == some .cell) then (y.1, .cell) else y }
theorem relab_eq (scope : Scope) (env : PySem.Env) : relabel scope env = relab env.scope scope := by
  unfold relabel relab
  congr 1
theorem blkOk_nest {X : Cx} {N : List Str} {sc : Scope} {s : Shared} {H : Hp} {scope0 scope : Scope} {C : Addr} {cl : List (Str × Addr)} {fp : List Addr} {own : List (Str × Nat)} (hN : X.N = N) (hs : X.env.scope = sc) (h : blkC N (relab sc scope0) scope own = true) :
    BlkOk (X.blk s H scope0 (compEnvC scope0 cl C X.env) fp).N (X.blk s H scope0 (compEnvC scope0 cl C X.env) fp).env.scope scope own := by
  subst hN hs
  show BlkOk X.N (relabel scope0 X.env) scope own
  rw [relab_eq]
  exact blkOk_by h
structure DefC (K : Fg) (mg : Str → Option Value) (x : Str) (st : Stmt) (ps : List Str) (c : Addr) : Prop where
  ex : ∃ f fd, Fun K x x st f fd ∧ mg x = some (.ref f) ∧ PySem.W.keepIn K (.ref f) = true ∧ Binds K fd ps [] ∧ fd.code = .ref c
theorem Ok.pureC {P : Program} {w : World} {K : Fg} {mg : Str → Option Value} {base : Heap} {x : Str} {st : Stmt} {N ps : List Str} {c : Addr} {k n : Nat} {g : SD} (D : DefC K mg x st ps c) (S : FnScope N ps (defScope st)) (hn : ps.length = n) (hN : n ≤ N.length)
    (hb : ∀ (f : Addr) (A : Around) (outer : List PySem.Env) (s : Shared) (H : Hp) (E : XK), (A.deeper (envOfC x (defScope st) s.heap.objs.size f (.ref c))).guards = some [] → Room k (A.deeper (envOfC x (defScope st) s.heap.objs.size f (.ref c))) →
      PSs (cxOf CX0 P w K mg base N x (defScope st) f (.ref c) A outer s H E).nox (defBody st) (RS K g)) : Ok P w K mg base (k + 1) x ps (spP K n (runP N.length g)) := by
  obtain ⟨f, fd, F, h1, h2, h3, h4⟩ := D.ex
  refine ⟨f, fd, FnG.body F S (fun vs H Q E h => h.1.trans hn.symm) (fun cdv A outer s H vs Q E hc hA hr h => ?_), h1, h2, h3⟩
  rw [h4] at hc
  subst hc
  exact ⟨_, (hb f A outer s H E hA hr).nox, rs_runP hN h⟩
end DL
end
noncomputable section
namespace LW
open PySem L2 DL
/-- known_sizes(knowledge); slots: knowledge word -/
def g_known_sizes : SD :=
  (retS (callD (acons (lcD [1] (seqI (binD (varD 0) (conD (.int 1)) ixG)) (nameT 1) yesT (binD (varD 1) (unD (conD (.int 1)) negG) ixG)) anil) (oneG tupleG)))
def F_known_sizes : FP := runP 2 g_known_sizes
/-- _law_take(_law_bag_here, _law_many); slots: _law_bag_here _law_many _law_cell _law_stirred _law_value _law_begin _law_second -/
def g__law_take : SD :=
  (seqS (ifS (testD (binD (binD (varD 0) (conD (.int 0)) ixG) (conD (.int 0)) (eqQ false))) (seqS (setS 2 (binD (binD (sliceD (binD (varD 0) (conD (.int 3)) ixG) (aP (binD (varD 0) (conD (.int 2)) ixG)) noP cutG) (lstD (acons (conD (.int 0)) anil)) addG) (conD (.int 0)) ixG))
    (seqS (augIx 0 (conD (.int 2)) (conD (.int 1)) (fun i j => i + j))
    (seqS (ifS (testD (binD (varD 2) (binD (conD (.int 10)) (conD (.int 18)) (intG powG)) (intG (i2b fun i j => decide (j ≤ i))))) (setIx 0 (conD (.int 0)) (varD 2)) nilS)
    (seqS (setS 3 (binD (binD (binD (binD (varD 0) (conD (.int 1)) ixG) (conD (.int 48271)) mulG) (binD (callD (acons (varD 2) anil) (oneG intTG)) (conD (.int 2147483647)) (intG modG)) addG) (binD (conD (.int 7919)) (binD (varD 0) (conD (.int 2)) ixG) mulG) addG))
    (setIx 0 (conD (.int 1)) (binD (callD (acons (varD 3) anil) (oneG intTG)) (conD (.int 2147483647)) (intG modG))))))) nilS)
    (seqS (ifS (testD (binD (binD (varD 0) (conD (.int 0)) ixG) (conD (.int 0)) (intG (i2b fun i j => decide (j < i))))) (seqS (setS 4 (binD (callD (acons (binD (varD 0) (conD (.int 0)) ixG) anil) (oneG intTG)) (varD 1) (intG modG)))
    (seqS (setIx 0 (conD (.int 0)) (binD (callD (acons (binD (varD 0) (conD (.int 0)) ixG) anil) (oneG intTG)) (varD 1) (intG fdivG)))
    (retS (varD 4)))) nilS)
    (seqS (setS 5 (binD (callD (acons (binD (binD (binD (varD 0) (conD (.int 1)) ixG) (conD (.int 1)) addG) (conD (.int 39373)) mulG) anil) (oneG intTG)) (conD (.int 1000000007)) (intG modG)))
    (seqS (setS 6 (binD (callD (acons (binD (binD (callD (acons (binD (varD 5) (varD 5) mulG) anil) (oneG intTG)) (conD (.int 998244353)) (intG modG)) (conD (.int 30011)) mulG) anil) (oneG intTG)) (conD (.int 998244353)) (intG modG)))
    (retS (binD (callD (acons (binD (varD 6) (conD (.int 7)) (intG fdivG)) anil) (oneG intTG)) (varD 1) (intG modG)))))))
def F__law_take : FM := runM 7 g__law_take
/-- _law_one(_law_bag_here, _law_things); slots: _law_bag_here _law_things -/
def g__law_one : SD :=
  (retS (binD (varD 1) (callM 0 1 F__law_take (acons (callD (acons (varD 1) anil) (oneG lenG)) anil)) ixG))
def F__law_one : FM := runM 2 g__law_one
/-- _law_some_sizes(_law_bag_here, _law_many, _law_floors); slots: _law_bag_here _law_many _law_floors _law_found _law_size _law_floor -/
def g__law_some_sizes : SD :=
  (seqS (parS [3, 4] (acons (lstD anil) (acons (conD (.int 0)) anil)))
    (seqS (forS (rng1I (acons (varD 2) anil)) (nameT 5) (seqS (setS 4 (binD (varD 4) (callM 0 1 F__law_one (acons (lstD (acons (conD (.int 0)) (acons (conD (.int 1)) (acons (conD (.int 2)) (acons (conD (.int 1)) (acons (callM 0 1 F__law_take (acons (binD (varD 1) (conD (.int 1)) addG) anil)) (acons (iteD (testD (binD (callM 0 1 F__law_take (acons (conD (.int 4)) anil)) (conD (.int 0)) (eqQ false))) (unD (conD (.int 1)) negG) (conD (.int 1))) anil))))))) anil)) addG))
    (dropS (metD 3 (acons (iteD (testD (binD (callM 0 1 F__law_take (acons (conD (.int 9)) anil)) (conD (.int 0)) (intG (i2b fun i j => decide (j < i))))) (callD (acons (varD 4) (acons (varD 1) anil)) min2G) (varD 4)) anil) appG))))
    (retS (callD (acons (varD 3) anil) (oneG tupleG)))))
def F__law_some_sizes : FM := runM 6 g__law_some_sizes
/-- _law_alike(_law_found, _law_due); slots: _law_found _law_due -/
def g__law_alike : SD :=
  (retS (andD (binD (varD 0) (varD 1) (eqQ false)) (binD (callD (acons (varD 0) anil) (oneG repG)) (callD (acons (varD 1) anil) (oneG repG)) (eqQ false))))
def F__law_alike : FP := runP 2 g__law_alike
/-- _law_mixed(_law_bag_here, _law_things); slots: _law_bag_here _law_things _law_found _law_thing -/
def g__law_mixed : SD :=
  (seqS (setS 2 (lstD anil))
    (seqS (forS (seqI (varD 1)) (nameT 3) (dropS (metD 2 (acons (callM 0 1 F__law_take (acons (binD (callD (acons (varD 2) anil) (oneG lenG)) (conD (.int 1)) addG) anil)) (acons (varD 3) anil)) insG)))
    (retS (varD 2))))
def F__law_mixed : FM := runM 4 g__law_mixed
/-- _law_house(_law_bag_here, _law_things, _law_floors, _law_rooms); slots: _law_bag_here _law_things _law_floors _law_rooms _law_many _law_found _law_left _law_floor -/
def g__law_house : SD :=
  (seqS (setS 4 (callM 0 1 F__law_one (acons (lstD (acons (varD 1) (acons (varD 1) (acons (conD (.int 3)) (acons (conD (.int 2)) (acons (conD (.int 1)) (acons (conD (.int 0)) (acons (callM 0 1 F__law_take (acons (binD (varD 1) (conD (.int 1)) addG) anil)) anil)))))))) anil)))
    (seqS (parS [5, 6] (acons (lstD anil) (acons (varD 3) anil)))
    (seqS (forS (rng1I (acons (callM 0 1 F__law_one (acons (lstD (acons (varD 2) (acons (conD (.int 2)) (acons (varD 2) (acons (conD (.int 1)) (acons (binD (conD (.int 1)) (callM 0 1 F__law_take (acons (varD 2) anil)) addG) anil)))))) anil)) anil)) (nameT 7) (ifS (andT (testD (binD (varD 6) (conD (.int 0)) (intG (i2b fun i j => decide (j < i))))) (testD (binD (varD 7) (varD 2) (intG (i2b fun i j => decide (i < j)))))) (seqS (dropS (metD 5 (acons (callD (acons (varD 6) (acons (callM 0 1 F__law_one (acons (lstD (acons (conD (.int 1)) (acons (conD (.int 2)) (acons (conD (.int 1)) (acons (conD (.int 3)) (acons (conD (.int 1)) (acons (conD (.int 2)) (acons (binD (conD (.int 1)) (callM 0 1 F__law_take (acons (varD 3) anil)) addG) anil)))))))) anil)) anil)) min2G) anil) appG))
    (augS 6 (binD (varD 5) (unD (conD (.int 1)) negG) ixG) (fun i j => i - j))) nilS))
    (retS (tupD (acons (callD (acons (varD 4) (acons (varD 1) anil)) min2G) (acons (callD (acons (varD 5) anil) (oneG tupleG)) anil)))))))
def F__law_house : FM := runM 8 g__law_house
/-- _law_rooms_within(_law_house); slots: _law_house _law_floor -/
def g__law_rooms_within : SD :=
  (retS (lcD [1] (rng1I (acons (callD (acons (binD (varD 0) (conD (.int 1)) ixG) anil) (oneG lenG)) anil)) (nameT 1) yesT (callD (acons (sliceD (binD (varD 0) (conD (.int 1)) ixG) noP (aP (binD (varD 1) (conD (.int 1)) addG)) cutG) anil) (oneG sumG))))
def F__law_rooms_within : FP := runP 2 g__law_rooms_within
/-- _law_within(_law_house, _law_state_here, _law_floor); slots: _law_house _law_state_here _law_floor _law_thing -/
def g__law_within : SD :=
  (retS (lcD [3] (rng1I (acons (binD (varD 0) (conD (.int 0)) ixG) anil)) (nameT 3) (testD (binD (binD (varD 1) (varD 3) ixG) (varD 2) (intG (i2b fun i j => decide (i ≤ j))))) (varD 3)))
def F__law_within : FP := runP 4 g__law_within
/-- _law_sizes(_law_house, _law_state_here); slots: _law_house _law_state_here _law_floor -/
def g__law_sizes : SD :=
  (retS (callD (acons (lcD [2] (rng1I (acons (callD (acons (binD (varD 0) (conD (.int 1)) ixG) anil) (oneG lenG)) anil)) (nameT 2) yesT (callD (acons (callP 3 F__law_within (acons (varD 0) (acons (varD 1) (acons (varD 2) anil)))) anil) (oneG lenG))) anil) (oneG tupleG)))
def F__law_sizes : FP := runP 3 g__law_sizes
/-- _law_state(_law_bag_here, _law_house); slots: _law_bag_here _law_house _law_many _law_rooms _law_left _law_way _law_state_here _law_thing _law_open_floors _law_floor _law_free -/
def g__law_state : SD :=
  (seqS (unpS (tupT [2, 3]) (varD 1))
    (seqS (parS [4, 5, 6] (acons (callD (acons (varD 3) anil) (oneG listG)) (acons (callM 0 1 F__law_take (acons (conD (.int 4)) anil)) (acons (binD (lstD (acons (callD (acons (varD 3) anil) (oneG lenG)) anil)) (varD 2) mulG) anil))))
    (seqS (forS (seqI (callM 0 1 F__law_mixed (acons (lstR1 (varD 2)) anil))) (nameT 7) (seqS (setS 8 (lcB 4 [9, 10] (tupT [9, 10]) (testD (binD (varD 10) (conD (.int 0)) (intG (i2b fun i j => decide (j < i))))) (varD 9)))
    (seqS (ifS (andT (testD (binD (varD 5) (conD (.int 1)) (eqQ false))) (testD (binD (varD 8) (lstD anil) (eqQ true)))) (setIx 6 (varD 7) (binD (varD 8) (conD (.int 0)) ixG)) (ifS (andT (testD (binD (varD 5) (conD (.int 1)) (intG (i2b fun i j => decide (j < i))))) (testD (binD (varD 8) (lstD anil) (eqQ true)))) (setIx 6 (varD 7) (callM 0 1 F__law_one (acons (binD (varD 8) (binD (lstD (acons (callD (acons (varD 3) anil) (oneG lenG)) anil)) (binD (varD 5) (conD (.int 2)) (intG (i2i fun i j => i - j))) mulG) addG) anil))) nilS))
    (ifS (testD (binD (binD (varD 6) (varD 7) ixG) (callD (acons (varD 3) anil) (oneG lenG)) (intG (i2b fun i j => decide (i < j))))) (augIx 4 (binD (varD 6) (varD 7) ixG) (conD (.int 1)) (fun i j => i - j)) nilS))))
    (retS (callD (acons (varD 6) anil) (oneG tupleG))))))
def F__law_state : FM := runM 11 g__law_state
/-- state_of_lots(house, lots); slots: house lots thing lot -/
def g_state_of_lots : SD :=
  (retS (callD (acons (lcD [2] (rng1I (acons (binD (varD 0) (conD (.int 0)) ixG) anil)) (nameT 2) yesT (callD (acons (lcD [3] (seqI (varD 1)) (nameT 3) (testD (binD (varD 2) (varD 3) (inG true))) (varD 3)) anil) (oneG lenG))) anil) (oneG tupleG)))
def F_state_of_lots : FP := runP 4 g_state_of_lots
/-- state_with_lot(house, knowledge, lot); slots: house knowledge lot order inner outer lots thing size -/
def g_state_with_lot : SD :=
  (seqS (setS 3 (binD (varD 1) (conD (.int 0)) ixG))
    (seqS (setS 4 (lcD [7] (seqI (varD 3)) (nameT 7) (testD (binD (varD 7) (varD 2) (inG false))) (varD 7)))
    (seqS (setS 5 (lcD [7] (seqI (varD 3)) (nameT 7) (testD (binD (varD 7) (varD 2) (inG true))) (varD 7)))
    (seqS (setS 6 (lcD [8] (seqI (callP 1 F_known_sizes (acons (varD 1) anil))) (nameT 8) yesT (binD (sliceD (varD 4) noP (aP (varD 8)) cutG) (sliceD (varD 5) noP (aP (callD (acons (conD (.int 0)) (acons (binD (varD 8) (callD (acons (varD 4) anil) (oneG lenG)) (intG (i2i fun i j => i - j))) anil)) max2G)) cutG) addG)))
    (retS (callP 2 F_state_of_lots (acons (varD 0) (acons (varD 6) anil))))))))
def F_state_with_lot : FP := runP 9 g_state_with_lot
/-- number_within(house, knowledge, lot, chosen); slots: house knowledge lot chosen thing -/
def g_number_within : SD :=
  (retS (tupD (acons (callD (acons (lcD [4] (seqI (varD 2)) (nameT 4) (testD (binD (varD 4) (varD 3) (inG false))) (varD 4)) anil) (oneG lenG)) (acons (callP 3 F_state_with_lot (acons (varD 0) (acons (varD 1) (acons (varD 3) anil)))) anil))))
def F_number_within : FP := runP 5 g_number_within
/-- can_be_together(order, word, lot); slots: order word lot late place -/
def g_can_be_together : SD :=
  (seqS (setS 3 (conD (.int 0)))
    (seqS (forS (rng3I (acons (binD (callD (acons (varD 0) anil) (oneG lenG)) (conD (.int 1)) (intG (i2i fun i j => i - j))) (acons (unD (conD (.int 1)) negG) (acons (unD (conD (.int 1)) negG) anil)))) (nameT 4) (seqS (ifS (testD (binD (binD (varD 0) (varD 4) ixG) (varD 2) (inG false))) (augS 3 (conD (.int 1)) (fun i j => i + j)) nilS)
    (ifS (testD (binD (varD 3) (binD (binD (varD 1) (unD (conD (.int 1)) negG) ixG) (binD (varD 1) (varD 4) ixG) (intG (i2i fun i j => i - j))) (intG (i2b fun i j => decide (j < i))))) (retS (conD (.bool false))) nilS)))
    (retS (conD (.bool true)))))
def F_can_be_together : FP := runP 5 g_can_be_together
/-- choice_within(knowledge, floor, things); slots: knowledge floor things order words chosen thing -/
def g_choice_within : SD :=
  (seqS (unpS (tupT [3, 4]) (varD 0))
    (seqS (setS 5 (lstD anil))
    (seqS (forS (seqI (varD 2)) (nameT 6) (ifS (testD (callP 3 F_can_be_together (acons (varD 3) (acons (binD (varD 4) (varD 1) ixG) (acons (binD (varD 5) (lstD (acons (varD 6) anil)) addG) anil))))) (dropS (metD 5 (acons (varD 6) anil) appG)) nilS))
    (retS (varD 5)))))
def F_choice_within : FP := runP 7 g_choice_within
/-- least_within(house, knowledge, lot, floor); slots: house knowledge lot floor others thing -/
def g_least_within : SD :=
  (seqS (setS 4 (lcD [5] (seqI (binD (varD 1) (conD (.int 0)) ixG)) (nameT 5) (testD (binD (varD 5) (varD 2) (inG true))) (varD 5)))
    (retS (callP 4 F_number_within (acons (varD 0) (acons (varD 1) (acons (varD 2) (acons (callP 3 F_choice_within (acons (varD 1) (acons (varD 3) (acons (binD (varD 4) (callD (acons (varD 2) anil) (oneG listG)) addG) anil)))) anil)))))))
def F_least_within : FP := runP 6 g_least_within
/-- rooms_within(house); slots: house floor -/
def g_rooms_within : SD :=
  (retS (callD (acons (lcD [1] (rng1I (acons (callD (acons (binD (varD 0) (conD (.int 1)) ixG) anil) (oneG lenG)) anil)) (nameT 1) yesT (callD (acons (sliceD (binD (varD 0) (conD (.int 1)) ixG) noP (aP (binD (varD 1) (conD (.int 1)) addG)) cutG) anil) (oneG sumG))) anil) (oneG tupleG)))
def F_rooms_within : FP := runP 2 g_rooms_within
/-- things_within(house, state, floor); slots: house state floor thing -/
def g_things_within : SD :=
  (retS (callD (acons (lcD [3] (rng1I (acons (binD (varD 0) (conD (.int 0)) ixG) anil)) (nameT 3) (testD (binD (binD (varD 1) (varD 3) ixG) (varD 2) (intG (i2b fun i j => decide (i ≤ j))))) (varD 3)) anil) (oneG tupleG)))
def F_things_within : FP := runP 4 g_things_within
/-- sizes_of(house, state); slots: house state floor -/
def g_sizes_of : SD :=
  (retS (callD (acons (lcD [2] (rng1I (acons (callD (acons (binD (varD 0) (conD (.int 1)) ixG) anil) (oneG lenG)) anil)) (nameT 2) yesT (callD (acons (callP 3 F_things_within (acons (varD 0) (acons (varD 1) (acons (varD 2) anil)))) anil) (oneG lenG))) anil) (oneG tupleG)))
def F_sizes_of : FP := runP 3 g_sizes_of
/-- things_on(house, state, floor); slots: house state floor thing -/
def g_things_on : SD :=
  (retS (callD (acons (lcD [3] (rng1I (acons (binD (varD 0) (conD (.int 0)) ixG) anil)) (nameT 3) (testD (binD (binD (varD 1) (varD 3) ixG) (varD 2) (eqQ false))) (varD 3)) anil) (oneG tupleG)))
def F_things_on : FP := runP 4 g_things_on
/-- filled_up(house, state, floor); slots: house state floor -/
def g_filled_up : SD :=
  (retS (binD (binD (callP 2 F_sizes_of (acons (varD 0) (acons (varD 1) anil))) (varD 2) ixG) (binD (callP 1 F_rooms_within (acons (varD 0) anil)) (varD 2) ixG) (eqQ false)))
def F_filled_up : FP := runP 3 g_filled_up
/-- empty_state(house); slots: house -/
def g_empty_state : SD :=
  (retS (binD (tupD (acons (callD (acons (binD (varD 0) (conD (.int 1)) ixG) anil) (oneG lenG)) anil)) (binD (varD 0) (conD (.int 0)) ixG) mulG))
def F_empty_state : FP := runP 1 g_empty_state
/-- least_state(house, sizes); slots: house sizes many rooms floors floor size count -/
def g_least_state : SD :=
  (seqS (unpS (tupT [2, 3]) (varD 0))
    (seqS (setS 4 (lstD anil))
    (seqS (forS (enumI (acons (varD 1) anil)) (tupT [5, 6]) (seqS (setS 7 (binD (varD 6) (callD (acons (varD 4) anil) (oneG lenG)) (intG (i2i fun i j => i - j))))
    (seqS (ifS (orT (testD (binD (varD 7) (conD (.int 0)) (intG (i2b fun i j => decide (i < j))))) (orT (testD (binD (varD 7) (binD (varD 3) (varD 5) ixG) (intG (i2b fun i j => decide (j < i))))) (testD (binD (varD 6) (varD 2) (intG (i2b fun i j => decide (j < i))))))) (retS (conD .none)) nilS)
    (dropS (metD 4 (acons (binD (lstD (acons (varD 5) anil)) (varD 7) mulG) anil) extG)))))
    (retS (callD (acons (binD (varD 4) (binD (lstD (acons (callD (acons (varD 3) anil) (oneG lenG)) anil)) (binD (varD 2) (callD (acons (varD 4) anil) (oneG lenG)) (intG (i2i fun i j => i - j))) mulG) addG) anil) (oneG tupleG))))))
def F_least_state : FP := runP 8 g_least_state
/-- _law_states_many(_law_house_here, _law_sizes_here); slots: _law_house_here _law_sizes_here _law_found _law_left _law_ahead _law_size _law_rooms _law_more _law_k -/
def g__law_states_many : SD :=
  (seqS (parS [2, 3, 4] (acons (conD (.int 1)) (acons (binD (varD 0) (conD (.int 0)) ixG) (acons (conD (.int 0)) anil))))
    (seqS (forS (zipI (acons (varD 1) (acons (binD (varD 0) (conD (.int 1)) ixG) anil))) (tupT [5, 6]) (seqS (setS 7 (binD (varD 5) (varD 4) (intG (i2i fun i j => i - j))))
    (seqS (ifS (notT (testD (chainD (conD (.int 0)) (varD 7) (callD (acons (varD 6) (acons (varD 3) anil)) min2G) (intG (i2b fun i j => decide (i ≤ j))) (intG (i2b fun i j => decide (i ≤ j)))))) (retS (conD (.int 0))) nilS)
    (seqS (forS (rng1I (acons (varD 7) anil)) (nameT 8) (setS 2 (binD (binD (varD 2) (binD (varD 3) (varD 8) (intG (i2i fun i j => i - j))) mulG) (binD (varD 8) (conD (.int 1)) addG) (intG fdivG))))
    (parS [3, 4] (acons (binD (varD 3) (varD 7) (intG (i2i fun i j => i - j))) (acons (varD 5) anil)))))))
    (retS (varD 2))))
def F__law_states_many : FP := runP 9 g__law_states_many
/-- _law_states_of_sizes(_law_house_here, _law_sizes_here); slots: _law_house_here _law_sizes_here _law_each _law_found _law_thing _law_more _law_state_here _law_left _law_floor _law_free _law_size _law_ahead -/
def g__law_states_of_sizes : SD :=
  (seqS (ifS (testD (binD (callP 2 F__law_states_many (acons (varD 0) (acons (varD 1) anil))) (conD (.int 0)) (eqQ false))) (retS (lstD anil)) nilS)
    (seqS (setS 2 (binD (lcD [10, 11] (zipI (acons (varD 1) (acons (binD (tupD (acons (conD (.int 0)) anil)) (varD 1) addG) anil))) (tupT [10, 11]) yesT (binD (varD 10) (varD 11) (intG (i2i fun i j => i - j)))) (lstD (acons (binD (binD (varD 0) (conD (.int 0)) ixG) (binD (varD 1) (unD (conD (.int 1)) negG) ixG) (intG (i2i fun i j => i - j))) anil)) addG))
    (seqS (setS 3 (lstD (acons (tupD (acons (tupD anil) (acons (callD (acons (varD 2) anil) (oneG tupleG)) anil))) anil)))
    (seqS (forS (rng1I (acons (binD (varD 0) (conD (.int 0)) ixG) anil)) (nameT 4) (seqS (setS 5 (lstD anil))
    (seqS (forS (seqI (varD 3)) (tupT [6, 7]) (forS (enumI (acons (varD 7) anil)) (tupT [8, 9]) (ifS (testD (binD (varD 9) (conD (.int 0)) (intG (i2b fun i j => decide (j < i))))) (dropS (metD 5 (acons (tupD (acons (binD (varD 6) (tupD (acons (varD 8) anil)) addG) (acons (binD (binD (sliceD (varD 7) noP (aP (varD 8)) cutG) (tupD (acons (binD (varD 9) (conD (.int 1)) (intG (i2i fun i j => i - j))) anil)) addG) (sliceD (varD 7) (aP (binD (varD 8) (conD (.int 1)) addG)) noP cutG) addG) anil))) anil) appG)) nilS)))
    (setS 3 (varD 5)))))
    (retS (lcD [6, 7] (seqI (varD 3)) (tupT [6, 7]) yesT (varD 6)))))))
def F__law_states_of_sizes : FP := runP 12 g__law_states_of_sizes
/-- _law_is_told_right(_law_house_here, _law_state_here); slots: _law_house_here _law_state_here _law_floors _law_rooms _law_sizes_here _law_on _law_within_here _law_full _law_floor _law_thing _law_size _law_room -/
def g__law_is_told_right : SD :=
  (seqS (parS [2, 3, 4] (acons (callD (acons (binD (varD 0) (conD (.int 1)) ixG) anil) (oneG lenG)) (acons (callP 1 F__law_rooms_within (acons (varD 0) anil)) (acons (callP 2 F__law_sizes (acons (varD 0) (acons (varD 1) anil))) anil))))
    (seqS (setS 5 (lcD [8] (rng1I (acons (binD (varD 2) (conD (.int 1)) addG) anil)) (nameT 8) yesT (callD (acons (lcD [9] (rng1I (acons (binD (varD 0) (conD (.int 0)) ixG) anil)) (nameT 9) (testD (binD (binD (varD 1) (varD 9) ixG) (varD 8) (eqQ false))) (varD 9)) anil) (oneG tupleG))))
    (seqS (ifS (notT (testD (callP 2 F__law_alike (acons (lcD [8] (rng1I (acons (binD (varD 2) (conD (.int 1)) addG) anil)) (nameT 8) yesT (callP 3 F_things_on (acons (varD 0) (acons (varD 1) (acons (varD 8) anil))))) (acons (varD 5) anil))))) (retS (conD (.bool false))) nilS)
    (seqS (setS 6 (lcD [8] (rng1I (acons (varD 2) anil)) (nameT 8) yesT (callD (acons (callP 3 F__law_within (acons (varD 0) (acons (varD 1) (acons (varD 8) anil)))) anil) (oneG tupleG))))
    (seqS (ifS (notT (testD (callP 2 F__law_alike (acons (lcD [8] (rng1I (acons (varD 2) anil)) (nameT 8) yesT (callP 3 F_things_within (acons (varD 0) (acons (varD 1) (acons (varD 8) anil))))) (acons (varD 6) anil))))) (retS (conD (.bool false))) nilS)
    (seqS (setS 7 (lcD [10, 11] (zipI (acons (varD 4) (acons (varD 3) anil))) (tupT [10, 11]) yesT (binD (varD 10) (varD 11) (eqQ false))))
    (seqS (ifS (notT (testD (callP 2 F__law_alike (acons (lcD [8] (rng1I (acons (varD 2) anil)) (nameT 8) yesT (callP 3 F_filled_up (acons (varD 0) (acons (varD 1) (acons (varD 8) anil))))) (acons (varD 7) anil))))) (retS (conD (.bool false))) nilS)
    (retS (callP 2 F__law_alike (acons (lstD (acons (callP 1 F_rooms_within (acons (varD 0) anil)) (acons (callP 2 F_sizes_of (acons (varD 0) (acons (varD 1) anil))) (acons (callP 1 F_empty_state (acons (varD 0) anil)) anil)))) (acons (lstD (acons (callD (acons (varD 3) anil) (oneG tupleG)) (acons (varD 4) (acons (binD (tupD (acons (varD 2) anil)) (binD (varD 0) (conD (.int 0)) ixG) mulG) anil)))) anil)))))))))))
def F__law_is_told_right : FP := runP 12 g__law_is_told_right
/-- _law_near_sizes(_law_bag_here, _law_sizes_here); slots: _law_bag_here _law_sizes_here _law_at _law_found -/
def g__law_near_sizes : SD :=
  (seqS (parS [2, 3] (acons (callM 0 1 F__law_take (acons (callD (acons (varD 1) anil) (oneG lenG)) anil)) (acons (callD (acons (varD 1) anil) (oneG listG)) anil)))
    (seqS (augIx 3 (varD 2) (callM 0 1 F__law_one (acons (lstD (acons (conD (.int 1)) (acons (unD (conD (.int 1)) negG) (acons (conD (.int 0)) (acons (unD (conD (.int 20)) negG) (acons (conD (.int 3)) (acons (conD (.int 99)) (acons (unD (conD (.int 99)) negG) anil)))))))) anil)) (fun i j => i + j))
    (retS (callD (acons (varD 3) anil) (oneG tupleG)))))
def F__law_near_sizes : FM := runM 4 g__law_near_sizes
end LW
end
noncomputable section
namespace DL
open PySem PySem.Spec PyProof.Rows L2
def tsnoc (t : AD) (i : Int) : AD := fun ρ => (t ρ).map fun p => (p.1 ++ [.cl (.int i)], p.2)
theorem VRs.len {K : Fg} {E P B L : List Addr} {σ : L2.St} {H : Hp} : ∀ {xs : List V} {rs : List Val}, VRs K E P B L σ H xs rs → xs.length = rs.length
  | _, _, .nil => rfl
  | _, _, .cons _ _ h => by rw [List.length_cons, List.length_cons, h.len]
section
variable {P : Program} {w : World} {K : PySem.W.Frag} {mg : Str → Option Value} {base : Heap} {CX : CXT}
theorem FnG.bodyD {x qual : Str} {st : Stmt} {f : Addr} {fd : FuncData} {dvs : List V} {kws : List (Str × V)} {N ps : List Str} {k : Nat} {sp : Sp} (F : FunD K x qual (defArgs st) (defBody st) (defScope st) dvs kws f fd) (S : FnScope N ps (defScope st)) (len : ∀ vs H Q E, sp vs H Q E → vs.length = ps.length)
    (hb : ∀ (cdv : Value) (A : Around) (outer : List PySem.Env) (s : Shared) (H : Hp) (vs : List V) (Q : VK) (E : XK), fd.code = cdv → (A.deeper (envOfC qual (defScope st) s.heap.objs.size f cdv)).guards = some [] → Room k (A.deeper (envOfC qual (defScope st) s.heap.objs.size f cdv)) → sp vs H Q E →
      ∃ t, PSs (cxOf CX P w K mg base N qual (defScope st) f cdv A outer s H E) (defBody st) t ∧ t { nx := fun _ H' => Q .non H', rt := Q } (start N vs) H) : FnG P w K mg base CX (k + 1) f fd ps sp := by
  obtain ⟨oc, od, dV, kV, doc, pm, an, cdv, ct, osl, rfl, lk, hcd, _, _⟩ := F.ex
  refine ⟨len, ?_⟩
  intro A outer s H args us vs Q E hA hr e0 hbind rv hsp
  have eqLen := len _ _ _ _ hsp
  have stay : ∀ b o, base.get? b = some o → s.heap.get? b = some o := fun b o e => (e0.bs b o e).1
  have inK : K.In s.heap := e0.mod.kin.keeps stay
  have noLim : s.heap.NoLimit := e0.mod.nolimit.keeps stay
  have params : ∀ y ∈ ps.zip us, (defScope st).names.lookup y.1 = some .local ∨ ((defScope st).names.lookup y.1 = some .cell ∧ ((cellsFrom (s.heap.objs.size + 1) (defScope st).names []).lookup y.1).isSome = true) := by
    intro y hy
    rcases S.par y.1 (List.of_mem_zip (a := y.1) (b := y.2) hy).1 with q | q
    · exact Or.inl q
    · exact Or.inr ⟨q, PySem.W.cellsFrom_some _ _ _ (Or.inl q)⟩
  apply codeAny_call_function hr.depth (inK _ _ lk) rfl S.co S.gen rfl (PySem.W.codeRec_of inK hcd)
  apply hbind
  apply wpAny_newFunctionEnv_cells S.kind params
  intro env henv s1 ic
  subst henv
  refine ⟨noLim.keeps ic.toInCall.keep, ?_⟩
  apply codeAny_func
  obtain ⟨t, ht, hq⟩ := hb cdv A outer s H vs Q E rfl hA (hr.deeper _) hsp
  have I := inv_start (CX := CX) (P := P) (w := w) (mg := mg) (base := base) (E := E) S hr.hd e0 eqLen rv ic
  refine wpAny_mono (ht.run [] s1 (start N vs) H _ I hq) (fun fl s' hs => ?_) (fun _ _ hs => hs)
  cases fl with
  | ret u =>
    rcases hs with ⟨v, _, H', J, rv', q⟩
    exact ⟨v, H', J.os, J.bare, J.base, J.hok, rv', q⟩
  | next =>
    rcases hs with ⟨_, H', J, q⟩
    exact ⟨V.non, H', J.os, J.bare, J.base, J.hok, rfl, q⟩
  | brk =>
    rcases hs with ⟨_, _, _, q⟩
    exact q.elim
  | cont =>
    rcases hs with ⟨_, _, _, q⟩
    exact q.elim
end
def OkD (P : Program) (w : World) (K : Fg) (mg : Str → Option Value) (base : Heap) (k : Nat) (x : Str) (ps : List Str) (sp : Sp) (i : Int) : Prop :=
  ∃ f fd, FnG P w K mg base CX0 k f fd ps sp ∧ mg x = some (.ref f) ∧ PySem.W.keepIn K (.ref f) = true ∧ Binds K fd ps [] ∧ ∃ u, RelV (.int i) u ∧ Binds K fd ps [u]
theorem OkD.ok {P : Program} {w : World} {K : Fg} {mg : Str → Option Value} {base : Heap} {k : Nat} {x : Str} {ps : List Str} {sp : Sp} {i : Int} (h : OkD P w K mg base k x ps sp i) : Ok P w K mg base k x ps sp := by
  obtain ⟨f, fd, G, h1, h2, h3, _⟩ := h
  exact ⟨f, fd, G, h1, h2, h3⟩
structure DefD (K : Fg) (mg : Str → Option Value) (x : Str) (st : Stmt) (ps : List Str) (i : Int) : Prop where
  ex : ∃ f fd, FunD K x x (defArgs st) (defBody st) (defScope st) [V.int i] [] f fd ∧ mg x = some (.ref f) ∧ PySem.W.keepIn K (.ref f) = true ∧ Binds K fd ps [] ∧ ∃ u, RelV (.int i) u ∧ Binds K fd ps [u]
section
variable {X : Cx} {tl : TL} {k n : Nat} {ps : List Str} {x y : Str} {p pos py : Pos} {e : Expr} {es : List Expr} {t : AD}
theorem d_glob {i : Int} (h : ∃ u, X.mg x = some u ∧ RelV (.int i) u) (hg : Gl X x := by rfl) (hd : (x == ("__debug__" : Str)) = false := by decide) : PE X (.Name x pos) (RD (X.D tl) (conD (.int i))) := by
  obtain ⟨u, h1, h2⟩ := h
  exact (pe_glob hg h1 h2 hd).imp fun _ _ _ h => con_imp (.int i) h
def nevS : SD := fun _ => none
end
end DL
end
noncomputable section
namespace DL
open PySem PySem.Spec PyProof.Rows L2
section
variable {X : Cx} {C : Addr} {bmB : List Value} {B newId initId : String}
theorem pmk_own0 {x : Str} {p pos : Pos} (F : ExcBaseFacts B newId initId bmB) (q : PySem.W.excIn X.K C bmB newId = true) (gC : X.mg x = some (.ref C)) (kC : PySem.W.keepIn X.K (.ref C) = true) (r : Raises X (.ref C)) (hg : Gl X x)
    (hdb : (x == ("__debug__" : Str)) = false := by decide) : PMk X (.Call (.Name x p) [] [] pos) (fun _ H Q => Q (.ref C) none H) := by
  intro pins s σ H Q I h
  refine wpAny_Call_Name_kw (ld_glob I hg gC ?_ hdb)
  refine PySem.W.callWith_K0 (I.kIn) kC ?_
  show wpAny _ _ (call (.ref C) []) _ _ _
  obtain ⟨bm, N, nm, qn, bs, hdct, sn, sub, ab, col, dd, k0, k1, k2, k3, k5, mN, hC, hN, hni, T⟩ := exc_obj I.kIn q
  obtain ⟨hp1, g1, d1, tk1, os1⟩ := s
  refine wpAny_call_exc_subT F T hC hN hni (fun h' e hm => ?_) (Nat.zero_le _)
  exact mk_of I hm r h (I.hok.gone hm.new)
end
/-- none: it raises c -/
abbrev FX := List PyData → Option (Option Val)
def spX (K : Fg) (n : Nat) (c : Value) (G : FX) : Sp := fun vs H Q E => vs.length = n ∧ ∃ P ds o, (Lists H P ∧ DL.Tabs K.T H) ∧ DqA K H P vs ds ∧ G ds = some o ∧ (match o with
  | some r => ∀ x H' E', Keep [] H H' → RRes K P H H' E' x r → Q x H'
  | none => ∀ H', Keep [] H H' → E c none H')
/-- c: raise; what is left, otherwise -/
def runX (N : Nat) (q : TD) (g : SD) : FX := fun ds => (q (argE N ds)).bind fun p => if p.1 = true then some none else (runP N (seqS (ifS q nevS nilS) g) ds).map some
theorem RS.never {K : Fg} {D : Ends} {σ : L2.St} {H : Hp} {t : TS} (h : RS K nevS D σ H) : t D σ H := by
  obtain ⟨P, B, L, ρ, o, R, e, _⟩ := h
  cases e
theorem rs_runX {K : Fg} {N : List Str} {n : Nat} {q : TD} {g : SD} {c : Value} {vs : List V} {H : Hp} {Q : VK} {E : XK} {tr : TS} (hN : n ≤ N.length) (h : spX K n c (runX N.length q g) vs H Q E) (hr : ∀ D σ H', E c none H' → tr D σ H') :
    tSeq (tIfS (RT K q) tr tNext) (RS K g) { nx := fun _ H' => Q .non H', rt := Q } (L2.start N vs) H := by
  obtain ⟨hn, P, ds, o, hl, dq, e, k⟩ := h
  obtain ⟨⟨b, ρ1⟩, e1, e2⟩ := Option.bind_eq_some_iff.mp e
  cases b with
  | true =>
    rw [if_pos rfl] at e2
    cases e2
    have hlen := dq.length
    refine ⟨P, [], [], argE N.length ds, true, ρ1, rep_argE hl dq (by omega), e1, fun H' L' E' post => ?_⟩
    show if (true : Bool) = true then tr _ _ H' else tNext _ _ H'
    rw [if_pos rfl]
    exact hr _ _ _ (k H' (by simpa using post.step.keep))
  | false =>
    rw [if_neg Bool.false_ne_true] at e2
    obtain ⟨r, e3, e4⟩ := Option.map_eq_some_iff.mp e2
    cases e4
    have r0 : RS K (seqS (ifS q nevS nilS) g) { nx := fun _ H' => Q .non H', rt := Q } (L2.start N vs) H := rs_runP (E := E) hN ⟨hn, P, ds, r, hl, dq, e3, k⟩
    have r1 := rs_seq r0
    have r2 := rs_if r1
    refine (show RT K q _ _ _ from ?_)
    obtain ⟨P1, B1, L1, ρ0, b0, ρ2, R, e5, k5⟩ := r2
    refine ⟨P1, B1, L1, ρ0, b0, ρ2, R, e5, fun H' L' E' post => ?_⟩
    have := k5 H' L' E' post
    cases b0 with
    | true =>
      rw [if_pos rfl] at this
      exact RS.never this
    | false =>
      rw [if_neg Bool.false_ne_true] at this
      show if (false : Bool) = true then tr _ _ H' else tNext _ _ H'
      rw [if_neg Bool.false_ne_true]
      exact rs_nil this
/-- an own error's class as it stands at the top -/
structure ClsD (K : Fg) (mg : Str → Option Value) (x : Str) (C : Addr) : Prop where
  g : mg x = some (.ref C)
  e : PySem.W.excIn K C [Value.type "ValueError", Value.type "Exception", Value.type "BaseException", Value.type "object"] "ValueError.__new__" = true
  k : PySem.W.keepIn K (.ref C) = true
  b : PySem.W.subIn K (.ref C) (.type "BaseException") = some true
  t : PySem.W.typeIn K (.ref C) = some (.type "type")
  m : PySem.W.exmOne K (.ref C) (.ref C) = some true
def OkX (P : Program) (w : World) (K : Fg) (mg : Str → Option Value) (base : Heap) (k : Nat) (x : Str) (ps : List Str) (sp : Sp) : Prop :=
  ∃ f fd, FnG P w K mg base (L2.CX P w) k f fd ps sp ∧ mg x = some (.ref f) ∧ PySem.W.keepIn K (.ref f) = true ∧ Binds K fd ps []
theorem OkX.of {P : Program} {w : World} {K : Fg} {mg : Str → Option Value} {base : Heap} {x y : Str} {st : Stmt} {N ps : List Str} {k n : Nat} {q : TD} {g : SD} {C : Addr} {c : Expr} {np p1 p2 p3 : Pos} {rest : List Stmt} (D : Def K mg x st ps) (S : FnScope N ps (defScope st)) (hn : ps.length = n) (hN : n ≤ N.length)
    (hbody : defBody st = .If c [.Raise (some (.Call (.Name y np) [] [] p1)) none p2] [] p3 :: rest) (cl : ClsD K mg y C)
    (hg : ∀ (f : Addr) (cdv : Value) (A : Around) (outer : List PySem.Env) (s : Shared) (H : Hp) (E : XK), Gl (cxOf (L2.CX P w) P w K mg base N x (defScope st) f cdv A outer s H E) y) (hd : (y == ("__debug__" : Str)) = false)
    (hc : ∀ (f : Addr) (cdv : Value) (A : Around) (outer : List PySem.Env) (s : Shared) (H : Hp) (E : XK), (A.deeper (envOfC x (defScope st) s.heap.objs.size f cdv)).guards = some [] → Room k (A.deeper (envOfC x (defScope st) s.heap.objs.size f cdv)) →
      PT (cxOf (L2.CX P w) P w K mg base N x (defScope st) f cdv A outer s H E).nox c (RT K q))
    (hb : ∀ (f : Addr) (cdv : Value) (A : Around) (outer : List PySem.Env) (s : Shared) (H : Hp) (E : XK), (A.deeper (envOfC x (defScope st) s.heap.objs.size f cdv)).guards = some [] → Room k (A.deeper (envOfC x (defScope st) s.heap.objs.size f cdv)) →
      PSs (cxOf (L2.CX P w) P w K mg base N x (defScope st) f cdv A outer s H E).nox rest (RS K g)) : OkX P w K mg base (k + 1) x ps (spX K n (.ref C) (runX N.length q g)) := by
  obtain ⟨f, fd, F, h1, h2, h3⟩ := D.ex
  refine ⟨f, fd, FnG.body F S (fun vs H Q E h => h.1.trans hn.symm) (fun cdv A outer s H vs Q E _ hA hr h => ?_), h1, h2, h3⟩
  rw [hbody]
  exact ⟨_, pss_cons (ps_if (hc f cdv A outer s H E hA hr).nox (pss_one (ps_raise rfl (takes_of rfl rfl rfl rfl) (pmk_own0 PySem.F.excBase_ValueError cl.e cl.g cl.k (raises_own cl.b cl.t) (hg f cdv A outer s H E) hd))) pss_nil) (hb f cdv A outer s H E hA hr).nox,
    rs_runX hN h fun D σ H' hE => hE⟩
section
variable {X : Cx} {tl : TL} {k n : Nat} {ps : List Str} {x y : Str} {p pos py : Pos} {e : Expr} {es : List Expr}
theorem g_callS {CX : CXT} {f : Addr} {fd : FuncData} {sp : Sp} {E : L2.St → XK} {t : TA} (F : FnG X.prog X.w X.K X.mg X.base CX k f fd ps sp) (hA : X.A.guards = some []) (hr : Room k X.A) (hg : Gl X x) (hm : X.mg x = some (.ref f)) (hk : PySem.W.keepIn X.K (.ref f) = true) (hb : Binds X.K fd ps []) (hx : ∀ σ, PassesAt CX X σ (E σ)) (ha : PA X (e :: es) t)
    (hdb : (x == ("__debug__" : Str)) = false := by decide) (he : starEach (e :: es) X.env = (false, eval e X.env) :: starEach es X.env := by rfl) (hpl : (backTo pos (starEach es X.env)).any (·.1) = false := by rfl) :
    PE X (.Call (.Name x p) (e :: es) [] pos) (fun σ H Q => t σ H fun vs H1 => sp vs H1 Q (E σ)) := by
  constructor
  intro pins s σ H Q I h
  apply wpAny_Call_Name_kw
  apply ld_glob I hg hm _ hdb
  apply PySem.W.callWith_K (h₀ := X.base) I.ok.mod.kin hk _ he hpl
  refine thn (ha.run pos pins s σ H _ I h) fun us s1 hq => ?_
  rcases hq with ⟨vs, H1, I1, r, q⟩
  refine ⟨I1.kIn, ?_⟩
  have lenU : us.length = ps.length := by rw [← r.length]; exact F.len _ _ _ _ q
  have bnd := hb s1 us I1.kIn (by rw [List.append_nil]; exact lenU)
  rw [List.append_nil] at bnd
  apply wpAny_call
  refine codeAny_mono (F.go X.A X.stack s1 H1 ⟨us, []⟩ us vs Q (E σ) hA hr I1.env0 bnd r q) ?_
  intro res s' hres
  cases res with
  | error e => exact hx σ pins H1 s1 e s' I1 hres
  | ok fl =>
    cases fl with
    | ret u => exact I1.after hres
    | next => exact hres.elim
    | brk => exact hres.elim
    | cont => exact hres.elim
end
end DL
end
noncomputable section
namespace DL
open PySem PySem.Spec PyProof.Rows L2
def tyD : PyData → Option String
  | .none => some "NoneType"
  | .bool _ => some "bool"
  | .int _ => some "int"
  | .str _ => some "str"
  | .tuple _ => some "tuple"
  | .list _ => some "list"
  | _ => none
def tyVal : Val → Option String
  | .cl d => tyD d
  | .own _ => some "list"
  | .sl _ => none
def isinD (f : ED) (T : String) : ED := fun ρ => (f ρ).bind fun p => (tyVal p.1).bind fun n => (kitB n T).map fun b => (.cl (.bool b), p.2)
end DL
end
noncomputable section
namespace DL
open PySem PySem.Spec PyProof.Rows L2
end DL
end
noncomputable section
namespace LV
open PySem L2 DL
end LV
end
set_option maxHeartbeats 1000000
noncomputable section
namespace ZE
open PySem PySem.Spec PyProof.Rows L2
def ZTn (b1 b2 : Bool) (a1 a2 z TI TO i1 i2 N : Addr) (i : Nat) (h : Heap) : Prop := IsTupOf2 h TI (.ref i1) (.ref i2) ∧ ItB b1 h i1 a1 i ∧ ItB b2 h i2 a2 i ∧ ((IsZip h z TI TO .none ∧ ∃ x y, IsTupOf2 h TO x y) ∨ ∃ T f oT, IsZipHeld h z TI TO T f ∧ h.get? T = some oT ∧ N ≤ T)
section
variable {b1 b2 : Bool} {a1 a2 z TI TO i1 i2 N q : Addr} {i : Nat} {h h' : Heap}
theorem ZTn.at (t : ZTn b1 b2 a1 a2 z TI TO i1 i2 N i h) (hTI : TI ≠ q) (h1 : i1 ≠ q) (h2 : i2 ≠ q) (hz : z ≠ q) (hTO : TO ≠ q) (hN : q < N) (k : ∀ c o, c ≠ q → h.get? c = some o → h'.get? c = some o) : ZTn b1 b2 a1 a2 z TI TO i1 i2 N i h' := by
  obtain ⟨t1, t2, t3, t4⟩ := t
  refine ⟨k _ _ hTI t1, t2.at fun o e => k _ o h1 e, t3.at fun o e => k _ o h2 e, ?_⟩
  rcases t4 with ⟨z1, x, y, z2⟩ | ⟨T, f, oT, z1, z2, z3⟩
  · exact .inl ⟨k _ _ hz z1, x, y, k _ _ hTO z2⟩
  · exact .inr ⟨T, f, oT, k _ _ hz z1, k _ _ (Nat.ne_of_gt (Nat.lt_of_lt_of_le hN z3)) z2, z3⟩
end
end ZE
end
set_option maxHeartbeats 1000000
noncomputable section
namespace ZE
open PySem PySem.Spec PyProof.Rows L2
end ZE
end
set_option maxHeartbeats 1000000
noncomputable section
namespace ZE
open PySem PySem.Spec PyProof.Rows L2
end ZE
namespace DL
open PySem PySem.Spec PyProof.Rows L2 ZE
def zipLD (t : AD) : ED := fun ρ => (zipI t ρ).bind fun p => if p.1.length ≤ lim then some (.own p.1, p.2) else none
end DL
end
set_option maxHeartbeats 1000000
noncomputable section
namespace DL
open PySem PySem.Spec PyProof.Rows L2
theorem keep_all {H H' : Hp} (k : ∀ b o, H b = some o → H' b = some o) : Keep [] H H' := ⟨fun b o e _ _ => k b o e, fun T t => t.ext k, fun b n z => by
  cases e : H b with
  | none => exact n e
  | some o => rw [k b o e] at z; cases z⟩
/-- what the error's own __init__ does: self.fld = fld -/
def spI (C : Addr) (fld : Str) : Sp := fun vs H Q _ => ∃ a v, vs = [V.ref a, v] ∧ H a = some (exo a C none) ∧ ∀ dx, H dx = none → dx ≠ a → Q .non (upd (upd H dx (exd dx [(fld, v)])) a (exo a C (some dx)))
structure ErrD (K : Fg) (mg : Str → Option Value) (x : Str) (C : Addr) (fld : Str) : Prop where
  g : mg x = some (.ref C)
  oc : OexC K C
  xf : XfC K C
  no : PySem.W.findIn K (.ref C) fld = some none
  m : PySem.W.exmOne K (.ref C) (.ref C) = some true
  ini : ∃ fI, PySem.W.findIn K (.ref C) "__init__" = some (some (.ref fI)) ∧ PySem.W.typeIn K (.ref fI) = some (.type "function") ∧
    ∀ (P : Program) (w : World) (base : Heap), ∃ fd, FnOk P w K mg base (fun _ _ _ _ _ _ => False) 1 fI fd ["self", fld] (spI C fld) ∧ Binds K fd ["self", fld] []
theorem init_ok {K : Fg} {mg : Str → Option Value} {q fld : Str} {st : Stmt} {C fI : Addr} {fd : FuncData} {p1 p2 p3 p4 : Pos} (F : Fun K "__init__" q st fI fd) (S : FnScope ["self", fld] ["self", fld] (defScope st)) (oc : OexC K C) (no : PySem.W.findIn K (.ref C) fld = some none)
    (hb : defBody st = [.Assign [.Attribute (.Name "self" p1) fld p2] (.Name fld p3) p4]) (hf : (fld == ("__debug__" : Str)) = false) (hf2 : (fld == ("__classdict__" : Str)) = false)
    (hs : ∀ (P : Program) (w : World) (base : Heap) (cdv : Value) (A : Around) (outer : List PySem.Env) (s : Shared) (H : Hp) (E : XK), swapsWith (.Name fld p3) (some (.Attribute (.Name "self" p1) fld p2)) p4.line (cxOf (fun _ _ _ _ _ _ => False) P w K mg base ["self", fld] q (defScope st) fI cdv A outer s H E).env = pure false)
    (P : Program) (w : World) (base : Heap) : FnOk P w K mg base (fun _ _ _ _ _ _ => False) 1 fI fd ["self", fld] (spI C fld) := by
  refine Fun.ok F S (fun vs H Q E h => ?_) (fun cdv A outer s H vs Q E hr h => ?_)
  · obtain ⟨a, v, rfl, _⟩ := h; rfl
  · obtain ⟨a, v, rfl, ha, k⟩ := h
    rw [hb]
    have v0 : Vis (defScope st) "self" := (S.par "self" (by simp)).elim .inl fun h => .inr (.inl h)
    have v1 : Vis (defScope st) fld := (S.par fld (by simp)).elim .inl fun h => .inr (.inl h)
    refine ⟨_, pss_one (ps_ost (X := (cxOf (fun _ _ _ _ _ _ => False) P w K mg base ["self", fld] q (defScope st) fI cdv A outer s H E).nox) (pe_var (i := 0) rfl v0) (pe_var (i := 1) rfl v1 hf hf2) (hs P w base cdv A outer s H E)), ?_⟩
    refine ⟨v, rfl, ⟨.ref a, rfl, a, C, rfl, oc, no, .inl ⟨ha, fun dx h1 h2 => k dx h1 h2⟩⟩⟩
abbrev SE := DL.Env → Option (Out ⊕ Int)
def EOk (K : Fg) (C : Addr) (fld : Str) (E : XK) (P B L : List Addr) (H : Hp) (D : Ends) : Out ⊕ Int → Prop
  | .inl o => OutOk K P B L H D o
  | .inr i => ∀ L' H' d, Step B L H L' H' → H' d = some (.xd [(fld, .int i)]) → E (.ref C) (some d) H'
theorem EOk.after {K : Fg} {C : Addr} {fld : Str} {E : XK} {P B L La : List Addr} {H Ha : Hp} {D : Ends} {o : Out ⊕ Int} (h : EOk K C fld E P B L H D o) (s : Step B L H La Ha) : EOk K C fld E P B La Ha D o := by
  cases o with
  | inl o => exact OutOk.after h s
  | inr i => exact fun L2 H2 d s2 q => h L2 H2 d (s.trans s2) q
def RSE (K : Fg) (C : Addr) (fld : Str) (E : XK) (g : SE) : TS := fun D σ H => ∃ P B L ρ o, Rep K P B L σ ρ H ∧ g ρ = some o ∧ EOk K C fld E P B L H D o
def pureE (g : SD) : SE := fun ρ => (g ρ).map .inl
def seqE (g : SD) (h : SE) : SE := fun ρ => (g ρ).bind fun o => match o with
  | .nx ρ' => h ρ'
  | o => some (.inl o)
def ifE (c : TD) (g h : SE) : SE := fun ρ => (c ρ).bind fun p => if p.1 = true then g p.2 else h p.2
def raiseE (f : ED) : SE := fun ρ => (f ρ).bind fun p => match p.1 with
  | .cl (.int i) => some (.inr i)
  | _ => none
section
variable {K : Fg} {C : Addr} {fld : Str} {E : XK} {D : Ends} {σ : L2.St} {H : Hp}
theorem rse_pure {g : SD} (h : RSE K C fld E (pureE g) D σ H) : RS K g D σ H := by
  obtain ⟨P, B, L, ρ, o, R, e, k⟩ := h
  obtain ⟨o1, e1, rfl⟩ := Option.map_eq_some_iff.mp e
  exact ⟨P, B, L, ρ, o1, R, e1, k⟩
theorem rse_seq {g : SD} {h : SE} (hh : RSE K C fld E (seqE g h) D σ H) : tSeq (RS K g) (RSE K C fld E h) D σ H := by
  obtain ⟨P, B, L, ρ, o, R, e, k⟩ := hh
  obtain ⟨o1, e1, e2⟩ := Option.bind_eq_some_iff.mp e
  refine ⟨P, B, L, ρ, o1, R, e1, ?_⟩
  cases o1 with
  | nx ρ1 =>
    exact fun σ' H' L' R' s' => ⟨P, B, L', ρ1, o, R', e2, k.after s'⟩
  | ct ρ1 => cases e2; exact k
  | bk ρ1 => cases e2; exact k
  | rt r ρ1 => cases e2; exact k
theorem rse_if {c : TD} {g h : SE} (hh : RSE K C fld E (ifE c g h) D σ H) : tIfS (RT K c) (RSE K C fld E g) (RSE K C fld E h) D σ H := by
  obtain ⟨P, B, L, ρ, o, R, e, k⟩ := hh
  obtain ⟨⟨b, ρ1⟩, e1, e2⟩ := Option.bind_eq_some_iff.mp e
  refine ⟨P, B, L, ρ, b, ρ1, R, e1, fun H1 La Ea p1 => ?_⟩
  have k2 := EOk.after k p1.step
  cases b with
  | true =>
    show if (true : Bool) = true then _ else _
    rw [if_pos rfl]; exact ⟨P, B, La, ρ1, o, p1.toStep, by simpa using e2, k2⟩
  | false =>
    show if (false : Bool) = true then _ else _
    rw [if_neg Bool.false_ne_true]; exact ⟨P, B, La, ρ1, o, p1.toStep, by simpa using e2, k2⟩
end
section
variable {X : Cx} {tl : TL} {C : Addr} {fld x : Str} {E : XK} {f : ED} {g : SD} {h h2 : SE} {q : TD} {a c e : Expr} {st : Stmt} {rest : List Stmt} {pos p : Pos}
theorem x_pure (hs : PSs X rest (RS (X.D tl) g)) : PSs X rest (RSE (X.D tl) C fld E (pureE g)) := ⟨fun pins s σ H D I h => hs.run pins s σ H D I (rse_pure h)⟩
theorem x_seq (hs : PS X st (RS (X.D tl) g)) (hr : PSs X rest (RSE (X.D tl) C fld E h)) : PSs X (st :: rest) (RSE (X.D tl) C fld E (seqE g h)) := ⟨fun pins s σ H D I h => (pss_cons hs hr).run pins s σ H D I (rse_seq h)⟩
/-- if c: raise ..; what follows -/
theorem x_ifR {body : List Stmt} (hc : PT X c (RT (X.D tl) q)) (hb : PSs X body (RSE (X.D tl) C fld E h)) (hr : PSs X rest (RSE (X.D tl) C fld E h2)) (hn : ∀ {D D' : Ends} {σ : L2.St} {H : Hp}, RSE (X.D tl) C fld E h D σ H → RSE (X.D tl) C fld E h D' σ H) :
    PSs X (.If c body [] pos :: rest) (RSE (X.D tl) C fld E (ifE q h h2)) := ⟨fun pins s σ H D I hh => by
  refine (pss_cons (ps_if hc hb pss_nil) hr).run pins s σ H D I ?_
  have h1 := rse_if hh
  obtain ⟨P, B, L, ρ, b, ρ1, R, e1, k⟩ := h1
  refine (show RT (X.D tl) q σ H _ from ⟨P, B, L, ρ, b, ρ1, R, e1, fun H1 La Ea p1 => ?_⟩)
  have k1 := k H1 La Ea p1
  cases b with
  | true =>
    rw [if_pos rfl] at k1
    show if (true : Bool) = true then _ else _
    rw [if_pos rfl]
    exact hn k1
  | false =>
    rw [if_neg Bool.false_ne_true] at k1
    show if (false : Bool) = true then _ else _
    rw [if_neg Bool.false_ne_true]
    exact k1⟩
theorem rse_raise_any {K : Fg} {D D' : Ends} {σ : L2.St} {H : Hp} (hh : RSE K C fld E (raiseE f) D σ H) : RSE K C fld E (raiseE f) D' σ H := by
  obtain ⟨P, B, L, ρ, o, R, e, k⟩ := hh
  refine ⟨P, B, L, ρ, o, R, e, ?_⟩
  obtain ⟨⟨r, ρ1⟩, e1, e2⟩ := Option.bind_eq_some_iff.mp e
  simp only at e2
  split at e2
  · cases e2; exact k
  · cases e2
theorem x_raise (hcalm : X.calm = true) (tk : Takes X (fun cls d _ H => E cls d H)) (cl : ErrD (X.D tl) X.mg x C fld) (hr : Room 2 X.A) (he : PE X a (RD (X.D tl) f)) (hg : Gl X x := by rfl) (hdb : (x == ("__debug__" : Str)) = false := by decide)
    (hs : starEach [a] X.env = (false, eval a X.env) :: starEach [] X.env := by rfl) (hpl : (backTo p (starEach [] X.env)).any (·.1) = false := by rfl) {np pr : Pos} :
    PSs X [.Raise (some (.Call (.Name x np) [a] [] p)) none pr] (RSE (X.D tl) C fld E (raiseE f)) := by
  obtain ⟨fI, i1, i2, i3⟩ := cl.ini
  obtain ⟨fd, i4, i5⟩ := i3 X.prog X.w X.base
  have mk := pmk_oex (pos := p) (p := np) cl.oc i1 i2 i4 hr i5 (show Vals [] [] from .nil) (fun _ _ _ _ _ _ _ h => h.elim) hg cl.g (a_cons he a_nil hs) hdb hs hpl
  have T := pss_one (ps_raise (pos := pr) hcalm tk mk)
  refine ⟨fun pins s σ H D I hh => T.run pins s σ H D I ?_⟩
  obtain ⟨P, B, L, ρ, o, R, e, k⟩ := hh
  obtain ⟨⟨r, ρ1⟩, e1, e2⟩ := Option.bind_eq_some_iff.mp e
  simp only at e2
  split at e2
  · rename_i i
    cases e2
    have ra : RA (X.D tl) (acons f anil) σ H fun vs H1 => vs.length ≤ 1000 ∧ ∀ a, H1 a = none → spI C fld (.ref a :: (vs ++ [])) (upd H1 a (exo a C none))
        (fun v H2 => v = .non ∧ ∃ (d : Addr) (fs : List (Str × V)), H2 a = some (exo a C (some d)) ∧ H2 d = some (exd d fs) ∧ H1 d = none ∧ E (.ref C) (some d) (upd (del H2 a) d (.xd fs))) (fun _ _ _ => False) := by
      refine ⟨P, B, L, ρ, [.cl (.int i)], ρ1, R, ?_, fun xs H1 La Ea p1 v1 => ?_⟩
      · show (f ρ).bind _ = _
        rw [e1]; rfl
      · cases v1 with
        | cons v0 _ vr =>
          cases vr
          have ev := v0.int
          subst ev
          refine ⟨by simp, fun a ha => ⟨a, .int i, rfl, upd_same, fun dx hdx hne => ?_⟩⟩
          have hdx1 : H1 dx = none := by rwa [upd_ne hne] at hdx
          refine ⟨rfl, dx, [(fld, .int i)], upd_same, by rw [upd_ne hne, upd_same], hdx1, ?_⟩
          refine k La _ dx (p1.step.trans (Step.of_same (keep_all fun b o hb => ?_))) upd_same
          have h1 : b ≠ dx := fun z => by rw [z, hdx1] at hb; cases hb
          have h2 : b ≠ a := fun z => by rw [z, ha] at hb; cases hb
          rw [upd_ne h1, del_ne h2, upd_ne h2, upd_ne h1, upd_ne h2]
          exact hb
    exact ra
  · cases e2
end
end DL
end
set_option maxHeartbeats 1000000
noncomputable section
namespace DL
open PySem PySem.Spec PyProof.Rows L2
abbrev FE := List PyData → Option (Val ⊕ Int)
def REnd (K : Fg) (C : Addr) (fld : Str) (P : List Addr) (H : Hp) (Q : VK) (E : XK) : Val ⊕ Int → Prop
  | .inl r => ∀ x H' E', Keep [] H H' → RRes K P H H' E' x r → Q x H'
  | .inr i => ∀ H' d, Keep [] H H' → H' d = some (.xd [(fld, .int i)]) → E (.ref C) (some d) H'
def spE (K : Fg) (n : Nat) (C : Addr) (fld : Str) (G : FE) : Sp := fun vs H Q E => vs.length = n ∧ ∃ P ds o, (Lists H P ∧ DL.Tabs K.T H) ∧ DqA K H P vs ds ∧ G ds = some o ∧ REnd K C fld P H Q E o
def runE (N : Nat) (g : SE) : FE := fun ds => (g (argE N ds)).bind fun o => match o with
  | .inr i => some (.inr i)
  | .inl (.rt r ρ') => (retV ρ' r).map .inl
  | .inl (.nx _) => some (.inl (.cl .none))
  | _ => none
theorem rse_runE {K : Fg} {C : Addr} {fld : Str} {N : List Str} {n : Nat} {g : SE} {vs : List V} {H : Hp} {Q : VK} {E : XK} (hN : n ≤ N.length) (h : spE K n C fld (runE N.length g) vs H Q E) : RSE K C fld E g { nx := fun _ H' => Q .non H', rt := Q } (L2.start N vs) H := by
  obtain ⟨hn, P, ds, r, hl, dq, e, k⟩ := h
  obtain ⟨o, e1, e2⟩ := Option.bind_eq_some_iff.mp e
  have hlen := dq.length
  refine ⟨P, [], [], argE N.length ds, o, rep_argE hl dq (by omega), e1, ?_⟩
  have hP : ∀ a ∈ P ++ [], H a ≠ none := fun a z => by
    obtain ⟨vs, q, _⟩ := hl.1 a (by simpa using z)
    rw [q]; exact fun y => nomatch y
  have eP : P ++ [] = P := by simp
  cases o with
  | inr i =>
    cases e2
    exact fun L' H' d s q => k H' d (by simpa using s.keep) q
  | inl o =>
    cases o with
    | nx ρ' =>
      cases e2
      exact fun σ' H' L' R s => k _ H' [] (by simpa using s.keep) ⟨rfl, .non⟩
    | rt r' ρ' =>
      obtain ⟨v2, e3, rfl⟩ := Option.map_eq_some_iff.mp e2
      refine fun σ' x H' L' E' R s f v => ?_
      obtain ⟨E2, _, q⟩ := res_of R f (fun a z => (s.lsub a z).elim (fun y => nomatch y) id) hP v e3
      rw [eP] at q
      exact k x H' E2 (by simpa using s.keep) q
    | ct ρ' => cases e2
    | bk ρ' => cases e2
def okE (G : FE) : FP := fun ds => match G ds with
  | some (.inl r) => some r
  | _ => none
def OkE (P : Program) (w : World) (K : Fg) (mg : Str → Option Value) (base : Heap) (k : Nat) (x : Str) (ps : List Str) (n : Nat) (C : Addr) (fld : Str) (G : FE) : Prop :=
  ∃ f fd, FnG P w K mg base (L2.CX P w) k f fd ps (spE K n C fld G) ∧ mg x = some (.ref f) ∧ PySem.W.keepIn K (.ref f) = true ∧ Binds K fd ps []
/-- with a number by default -/
def OkED (P : Program) (w : World) (K : Fg) (mg : Str → Option Value) (base : Heap) (k : Nat) (x : Str) (ps : List Str) (n : Nat) (C : Addr) (fld : Str) (G : FE) (i : Int) : Prop :=
  ∃ f fd, FnG P w K mg base (L2.CX P w) k f fd ps (spE K n C fld G) ∧ mg x = some (.ref f) ∧ PySem.W.keepIn K (.ref f) = true ∧ Binds K fd ps [] ∧ ∃ u, RelV (.int i) u ∧ Binds K fd ps [u]
section
variable {P : Program} {w : World} {K : Fg} {mg : Str → Option Value} {base : Heap} {k n : Nat} {x : Str} {ps N : List Str} {C : Addr} {fld : Str} {G : FE} {i : Int} {st : Stmt} {g : SE}
theorem OkED.ok (h : OkED P w K mg base k x ps n C fld G i) : OkE P w K mg base k x ps n C fld G := by
  obtain ⟨f, fd, G, h1, h2, h3, _⟩ := h
  exact ⟨f, fd, G, h1, h2, h3⟩
theorem OkE.of (D : Def K mg x st ps) (S : FnScope N ps (defScope st)) (hn : ps.length = n) (hN : n ≤ N.length)
    (hb : ∀ (f : Addr) (cdv : Value) (A : Around) (outer : List PySem.Env) (s : Shared) (H : Hp) (E : XK), (A.deeper (envOfC x (defScope st) s.heap.objs.size f cdv)).guards = some [] → Room k (A.deeper (envOfC x (defScope st) s.heap.objs.size f cdv)) →
      Takes (cxOf (L2.CX P w) P w K mg base N x (defScope st) f cdv A outer s H E) (fun cls d _ H => E cls d H) → PSs (cxOf (L2.CX P w) P w K mg base N x (defScope st) f cdv A outer s H E) (defBody st) (RSE K C fld E g)) : OkE P w K mg base (k + 1) x ps n C fld (runE N.length g) := by
  obtain ⟨f, fd, F, h1, h2, h3⟩ := D.ex
  exact ⟨f, fd, FnG.body F S (fun vs H Q E h => h.1.trans hn.symm) (fun cdv A outer s H vs Q E _ hA hr h => ⟨_, hb f cdv A outer s H E hA hr (takes_of rfl rfl rfl rfl), rse_runE hN h⟩), h1, h2, h3⟩
theorem OkED.of (D : DefD K mg x st ps i) (S : FnScope N ps (defScope st)) (hn : ps.length = n) (hN : n ≤ N.length)
    (hb : ∀ (f : Addr) (cdv : Value) (A : Around) (outer : List PySem.Env) (s : Shared) (H : Hp) (E : XK), (A.deeper (envOfC x (defScope st) s.heap.objs.size f cdv)).guards = some [] → Room k (A.deeper (envOfC x (defScope st) s.heap.objs.size f cdv)) →
      Takes (cxOf (L2.CX P w) P w K mg base N x (defScope st) f cdv A outer s H E) (fun cls d _ H => E cls d H) → PSs (cxOf (L2.CX P w) P w K mg base N x (defScope st) f cdv A outer s H E) (defBody st) (RSE K C fld E g)) : OkED P w K mg base (k + 1) x ps n C fld (runE N.length g) i := by
  obtain ⟨f, fd, F, h1, h2, h3, h4⟩ := D.ex
  exact ⟨f, fd, FnG.bodyD F S (fun vs H Q E h => h.1.trans hn.symm) (fun cdv A outer s H vs Q E _ hA hr h => ⟨_, hb f cdv A outer s H E hA hr (takes_of rfl rfl rfl rfl), rse_runE hN h⟩), h1, h2, h3, h4⟩
end
section
variable {X : Cx} {tl : TL} {k n : Nat} {ps : List Str} {x y : Str} {p pos py : Pos} {e : Expr} {es : List Expr} {C : Addr} {fld : Str} {G : FE} {t : AD} {i : Int} {E : XK}
theorem callE_ok {K : Fg} {σ : L2.St} {H : Hp} {Q : VK} {E : XK} (h : RD K (callP n (okE G) t) σ H Q) : RA K t σ H fun vs H1 => spE K n C fld G vs H1 Q E := by
  obtain ⟨P, B, L, ρ, rs, ρ', R, e1, k1⟩ := callP_imp h
  refine ⟨P, B, L, ρ, rs, ρ', R, e1, fun xs H' L' E' post v => ?_⟩
  obtain ⟨z1, P2, ds, r, z2, z3, z4, z5⟩ := k1 xs H' L' E' post v
  refine ⟨z1, P2, ds, .inl r, z2, z3, ?_, z5⟩
  unfold okE at z4
  split at z4
  · rename_i r' eG
    cases z4
    exact eG
  · cases z4
/-- a call where it does not raise -/
theorem x_ok (O : OkE X.prog X.w (X.D tl) X.mg X.base k x ps n C fld G) (hA : X.A.guards = some []) (hr : Room k X.A) (ha : PA X (e :: es) (RA (X.D tl) t)) (hx : ∀ σ, PassesAt (L2.CX X.prog X.w) X σ (fun _ _ _ => False)) (hg : Gl X x := by rfl)
    (hdb : (x == ("__debug__" : Str)) = false := by decide) (he : starEach (e :: es) X.env = (false, eval e X.env) :: starEach es X.env := by rfl) (hpl : (backTo pos (starEach es X.env)).any (·.1) = false := by rfl) :
    PE X (.Call (.Name x p) (e :: es) [] pos) (RD (X.D tl) (callP n (okE G) t)) := by
  obtain ⟨f, fd, Fg, h1, h2, h3⟩ := O
  exact (g_callS (p := p) (E := fun _ => fun _ _ _ => False) Fg hA hr hg h1 h2 h3 hx ha hdb he hpl).imp fun σ H Q h => callE_ok h
theorem passF {X : Cx} (σ : L2.St) : PassesAt (L2.CX X.prog X.w) X σ (fun _ _ _ => False) := fun pins H s e s' I c => by
  obtain ⟨_, _, _, _, _, _, _, _, _, _, _, _, z⟩ := c
  exact z.elim
/-- a call that may raise, whatever is made of its answer -/
def exC (n : Nat) (G : FE) (t : AD) (g : SD) : SE := fun ρ => (t ρ).bind fun p => (psAll p.2 p.1).bind fun q => if q.1.length = n then (G q.1).bind fun o => match o with
  | .inl _ => (g ρ).map .inl
  | .inr i => some (.inr i)
  else none
end
end DL
end
set_option maxHeartbeats 1000000
noncomputable section
namespace DL
open PySem PySem.Spec PyProof.Rows L2 LamX
def wFirst (K : PySem.W.Frag) (c : Value) (i : Nat) (ts : Addr → Value → Option Addr → TS) (D : Ends) : WX := fun cls d σ H =>
  PySem.W.exmOne K cls c = some true ∧ ∀ a, H a = none → ts a cls d { nx := fun σ' H' => D.nx (σ'.set i none) H', rt := D.rt, bk := fun σ' H' => D.bk (σ'.set i none) H', ct := fun σ' H' => D.ct (σ'.set i none) H' } (σ.set i (some (.ref a))) H
section
variable {X : Cx} {x n : Str} {c : Value} {i : Nat} {body suite : List Stmt} {b₀ : Stmt} {hds : List ExceptHandler} {np pos pos' : Pos} {tb : WX → TS} {ts : Addr → Value → Option Addr → TS}
theorem ps_try_first (hs : X.stack = X.env :: X.outer) (hf : X.env.frame = some X.env.locals) (hN : X.N.Nodup) (hi : X.N[i]? = some n) (hln : X.env.kindOf n = some .local) (hc : Names X x c)
    (hb : ∀ (W : WX) (pn : List (Addr × Obj)) (xe : Value → Shared → Prop), Takes (X.tr pn xe) W → PSs (X.tr pn xe) body (tb W))
    (hsu : ∀ (a : Addr) (oe : Obj) (cls : Value) (d : Option Addr) (pn : List (Addr × Obj)), Zc cls d oe → (∃ vs, oe.data = .fields vs) → PSs (X.suite a ((a, oe) :: pn)) (b₀ :: suite) (ts a cls d)) :
    PS X (.Try body (.ExceptHandler (some (.Name x np)) (some n) (b₀ :: suite) pos' :: hds) [] [] pos) (fun D σ H => tb (wFirst X.K c i ts D) D σ H) := by
  refine ⟨fun pins s σ H D I h => wpAny_Try_except ?_⟩
  have frs1 : X.A.frames = some (X.env :: X.outer) := by rw [I.ok.frames, hs]
  refine wpAny_mono ((hb (wFirst X.K c i ts D) (X.pn ++ pins) (fun e s₁ => wpAny (model X.prog X.w) X.A (noteFrame e X.env) (fun _ s₂ => wpAny (model X.prog X.w) X.A (setFlight e none) (fun _ s₃ =>
    wpAny (model X.prog X.w) X.A (handleBy e X.env (.ExceptHandler (some (.Name x np)) (some n) (b₀ :: suite) pos' :: hds)) (SP X pins D) X.xe s₃) X.xe s₂) X.xe s₁) (fun u s' xx => ?_)).run [] s σ H D (I.toTry _) h) (fun f s1 q1 => ?_) (fun e s1 he => he)
  · obtain ⟨a, B, sI, pins', σ', H', cls, d, rfl, J0, nb, up, sky, na, os, ag, m1, m2⟩ := xx
    have J := J0.ofTry I.ok
    rw [hs] at sky
    refine Sky.land Zc.steady frs1 hf sky fun h3 fl3 up3 => ?_
    have J3 : Inv X pins σ' H' { s' with heap := h3 } := J.landed nb fl3.1 (up.trans up3) os ag
    obtain ⟨o3, v3, g3, z3, w3⟩ := fl3.there
    have out : a ∉ frs (X.env :: X.outer) := fun hm => by
      obtain ⟨_, o', e', hnf⟩ := fl3.2.2.1.mem hm
      rw [g3] at e'
      cases e'
      exact hnf _ w3
    have nL : a ≠ X.env.locals := fun z => out (List.mem_filterMap.mpr ⟨X.env, List.mem_cons_self, by rw [hf, z]⟩)
    have nF : a ∉ X.fs := fun hm => by
      obtain ⟨e, he, q⟩ := List.mem_filterMap.mp hm
      exact out (List.mem_filterMap.mpr ⟨e, List.mem_cons_of_mem _ he, q⟩)
    have S3 := J3.suite g3 w3 na nL nF
    refine wpAny_handleBy_cons (codeAny_handlers_test ?_) (by intro q; cases q)
    have LT : PySem.W.Looks (model X.prog X.w) h3 (typeOf (.ref a)) cls := fun A Q E s k q => wpAny_typeOf_ref (k _ _ g3) (by rw [z3.1]; exact q)
    have nm : ∀ {Q : Value → Shared → Prop} {E : Value → Shared → Prop}, Q c { s' with heap := h3 } → wpAny (model X.prog X.w) (X.A.mark (some (.ref a))) (eval (.Name x np) X.env) Q E { s' with heap := h3 } := fun q => by
      obtain ⟨hg, hdbg, hm | ⟨hm, hv, hnn⟩⟩ := hc
      · exact ld_glob (X := X.suite a ((a, o3) :: (X.pn ++ pins))) S3 hg hm q hdbg
      · exact ld_blt (X := X.suite a ((a, o3) :: (X.pn ++ pins))) S3 hg hm hv q hnn hdbg
    refine nm ((PySem.W.exm_one (M := model X.prog X.w) (J3.kIn) LT m1).here (codeAny_handlers_suite_as ?_))
    refine HandSPX.lands_againZ fl3 fun h4 fl4 up4 => ?_
    have J4 : Inv X pins σ' H' { s' with heap := h4 } := J.landed nb fl4.1 ((up.trans up3).trans up4) os ag
    obtain ⟨o4, v4, g4, z4, w4⟩ := fl4.there
    refine store_ok (X := X.suite a ((a, o4) :: (X.pn ++ pins))) (v := .ref a) (J4.suite g4 w4 na nL nF) hN hi (.inl hln) rfl (fun s5 S5 => ?_) (.inr hln)
    refine wpAny_mono ((hsu a o4 cls d (X.pn ++ pins) z4 ⟨_, w4⟩).run [] s5 _ H' _ S5 (m2 a na)) (fun f s6 q6 => ?_) (fun _ _ z => False.elim z)
    have fin : ∀ {σ6 : L2.St} {H6 : Hp} {Q : Shared → Prop}, Inv (X.suite a ((a, o4) :: (X.pn ++ pins))) [] σ6 H6 s6 → (∀ s7, Inv X pins (σ6.set i none) H6 s7 → Q s7) →
        wpAny (model X.prog X.w) X.A (do bindName X.env n .none; unbindBehindTheSuite X.env n pos') (fun _ s7 => Q s7) X.xe s6 := fun S6 hq => gone_ok (S6.unsuite I.ok) hN hi hln hq
    cases f with
    | ret u =>
      obtain ⟨v6, σ6, H6, S6, r6, q6⟩ := q6
      exact fin S6 fun s7 J7 => ⟨_, _, _, J7, r6, q6⟩
    | next => obtain ⟨σ6, H6, S6, q6⟩ := q6; exact fin S6 fun s7 J7 => ⟨_, _, J7, q6⟩
    | brk => obtain ⟨σ6, H6, S6, q6⟩ := q6; exact fin S6 fun s7 J7 => ⟨_, _, J7, q6⟩
    | cont => obtain ⟨σ6, H6, S6, q6⟩ := q6; exact fin S6 fun s7 J7 => ⟨_, _, J7, q6⟩
  · cases f with
    | ret u => obtain ⟨v, σ', H', J', r, q⟩ := q1; exact ⟨v, σ', H', J'.ofTry I.ok, r, q⟩
    | next => obtain ⟨σ', H', J', q⟩ := q1; exact wpAny_execs_nil ⟨σ', H', J'.ofTry I.ok, q⟩
    | brk => obtain ⟨σ', H', J', q⟩ := q1; exact ⟨σ', H', J'.ofTry I.ok, q⟩
    | cont => obtain ⟨σ', H', J', q⟩ := q1; exact ⟨σ', H', J'.ofTry I.ok, q⟩
theorem takes_len {W : WX} (t : Takes X W) : Takes X (fun cls d σ H => σ.length = X.N.length → W cls d σ H) := fun u s' ⟨a, B, sI, pins, σ, H, cls, d, e, I, nb, up, sky, na, os, ag, w⟩ =>
  t u s' ⟨a, B, sI, pins, σ, H, cls, d, e, I, nb, up, sky, na, os, ag, w I.len⟩
end
def THeard (C : Addr) (fld m1 m2 : Str) : (XK → Hp → VK → Prop) → Hp → VK → Prop := fun tl H Q =>
  tl (fun cls d H' => cls = .ref C ∧ ∃ dd i, d = some dd ∧ H' dd = some (.xd [(fld, .int i)]) ∧ NewT H' Q [.str m2, .int i]) H (fun v H' => [V.str m1, v].length ≤ sizeLine ∧ NewT H' Q [.str m1, v])
theorem heard_gives {X : Cx} {tl : TL} {Ng : List Str} {x a e q y fld m1 m2 : Str} {sg : Scope} {g C : Addr} {cdg : Value} {j1 j2 k1 k2 : _} {i : Nat} {hds : List ExceptHandler} {p1 p2 p3 p4 p5 p6 p7 p8 p9 p10 p11 p12 p13 : Pos}
    (cl : ErrD (X.D tl) X.mg y C fld) (hge : sg.names.lookup y = some .globalImplicit) (hde : (y == ("__debug__" : Str)) = false) (hN : Ng.Nodup) (hi : Ng[i]? = some e) (hln : sg.names.lookup e = some .local) (hd : (e == ("__debug__" : Str)) = false) (hcd : (e == ("__classdict__" : Str)) = false) (h0 : ∀ f : Addr, (L2.start Ng [V.ref f])[0]? = some (some (V.ref f))) :
    GivesTo X Ng x sg g cdg [.Try [.Return (some (.Tuple [.Constant (.str m1) j1 p1, .Call (.Name a p2) [] [] p3] k1 p4)) p5] (.ExceptHandler (some (.Name y p6)) (some e) [.Return (some (.Tuple [.Constant (.str m2) j2 p7, .Attribute (.Name e p8) fld p9] k2 p10)) p11] p12 :: hds) [] [] p13] a q (THeard C fld m1 m2) := by
  intro f c' s H Q tla act hco h
  have hgl : Gl (cxOf C8.CX0 X.prog X.w X.K X.mg X.base Ng x sg g cdg X.A X.stack s H C8.E0).nox y := hge
  refine ⟨_, pss_one (ps_try_first (X := (cxOf C8.CX0 X.prog X.w X.K X.mg X.base Ng x sg g cdg X.A X.stack s H C8.E0).nox) (c := .ref C) (i := i)
      (tb := fun W D σ H => ∃ Ech : XK, (∀ cls d σ' H', Ech cls d H' → σ'.length = Ng.length → W cls d σ' H') ∧ σ[0]? = some (some (.ref f)) ∧ H c' = some (CodeO c' q) ∧ tla Ech H fun v H' => [V.str m1, v].length ≤ sizeLine ∧ NewT H' D.rt [.str m1, v])
      rfl rfl hN hi hln ⟨hgl, hde, .inl cl.g⟩ (fun W pn xe tk => ?_) (fun a oe cls d pn hz hf => pss_one (ps_ret (pe_tupF (pa_cons pe_str (pa_cons (pe_xf cl.xf cl.no hz hf (pe_var (i := i) hi (.inl hln) hd hcd)) pa_nil)))))), ?_⟩
  · refine ⟨fun pins s' σ H' D I h' => ?_⟩
    obtain ⟨Ech, hW, h1, h2, h3⟩ := h'
    have hp := act (fun cls d σ' H' => σ'.length = Ng.length → W cls d σ' H') pn xe Ech p2 p3 (takes_len tk) (fun cls d σ' H' he hl => hW cls d σ' H' he hl)
    have hq := pss_one (ps_ret (pos := p5) (pe_tupF (x1 := k1) (pos := p4) (pa_cons (pe_str (x := m1) (j := j1) (pos := p1)) (pa_cons hp pa_nil))))
    exact hq.run pins s' σ H' D I ⟨h1, h2, h3⟩
  · refine ⟨fun cls d H' => cls = .ref C ∧ ∃ dd i, d = some dd ∧ H' dd = some (.xd [(fld, .int i)]) ∧ NewT H' Q [.str m2, .int i], ?_, h0 f, hco, h⟩
    rintro cls d σ' H' ⟨rfl, dd, iv, rfl, hx, hn⟩ hl
    refine ⟨cl.m, fun a ha => ?_⟩
    have hlt : i < σ'.length := by
      rw [hl]
      exact (List.getElem?_eq_some_iff.mp hi).1
    refine ⟨.ref a, by rw [List.getElem?_set_self hlt], rfl, rfl, dd, _, .int iv, rfl, hx, by simp [List.lookup], by rw [sizeLine_eq]; show 2 ≤ _; decide, hn⟩
end DL
end
set_option maxHeartbeats 2000000
noncomputable section
namespace DL
open PySem PySem.Spec PyProof.Rows L2 LamX
section
variable {X : Cx} {pins : List (Addr × Obj)} {s s1 : Shared} {σ : L2.St} {H HZ : Hp}
theorem lam_made3 {c P : Addr} {params : Arguments} {body : Expr} {scope : Scope} {pos : Pos} {E : Value → Shared → Prop} {Q : Value → Shared → Prop} (I : Inv X pins σ H s) (TB : TabB X.base X.mg c P) (hcode : X.env.code = .ref c) (hP : TabS H P (nameAt P)) (hq : nameAt P = X.env.qual ++ "<lambda>")
    (hdef : defaultsOf params X.env = ([], [])) (hfree : ∀ y ∈ scope.names, y.2 = .free → ∃ c, X.env.cells.lookup y.1 = some c)
    (go : ∀ (f c' : Addr) (pm ctv : Value) (H1 : Hp) (s' : Shared), Inv X pins σ H1 s' → Keep [] H H1 → s'.heap.get? f = some (PySem.W.kla_obj "<lambda>" (X.env.qual ++ "<lambda>") params body scope (cloFrom X.env.cells scope.names []) pm c' ctv) → H1 f = none → f ∉ frs X.stack →
      H1 c' = some (CodeO c' (X.env.qual ++ "<lambda>")) → Q (.ref f) s') :
    wpAny (model X.prog X.w) X.A (eval (.Lambda params body scope pos) X.env) Q E s := by
  obtain ⟨ps, p1, p2, p3⟩ := hP
  have nb : s.heap.BuiltinsAt X.mg P := TB.bm.keeps I.bk
  have atP : s.heap.get? P = some { cls := .none, data := .fields ps } := I.hok P _ p1
  have far : ∀ f, s.heap.objs.size ≤ f → f ∉ frs X.stack := fun f hf z => by
    rcases List.mem_cons.mp (I.stkSub _ z) with e | e
    · exact Nat.lt_irrefl _ (Nat.lt_of_lt_of_le (e ▸ I.lt) hf)
    · exact I.nofs hf e
  apply PySem.W.kla_eval hdef
  cases look : codeAmong pos ps.toList with
  | some cv =>
    obtain ⟨d, rfl, d2⟩ := p3 pos cv look
    apply PySem.W.kla_makeFunctionHit (mg := X.mg) (c := c) (P := P) (ps := ps) (closure_ok hfree) I.ok.glob (I.mod.glob.keeps I.bk) hcode (TB.code.keeps I.bk) atP p2 look nb
    intro ctv h' tk kp le
    exact go _ d _ ctv H _ (I.kept (t' := tk) fun b o e => Heap.get?_push_of_some _ (kp b o e)) keep_refl (Heap.get?_push_size _ rfl) (I.hok.fresh le) (far _ le) (hq ▸ d2)
  | none =>
    apply PySem.W.kla_makeFunction (mg := X.mg) (c := c) (P := P) (ps := ps) (closure_ok hfree) I.ok.glob (I.mod.glob.keeps I.bk) hcode (TB.code.keeps I.bk) atP p2 look TB.gP nb
    rintro c' ctv h' tk kp ge lt ⟨_, oc, vs, t, e2, o1, o2, o3⟩ tb
    cases e2
    have o3' := o3
    rw [← hq] at o3'
    have fresh : H c' = none := I.hok.fresh ge
    have le : s.heap.objs.size ≤ h'.objs.size := Nat.le_trans ge (Nat.le_of_lt lt)
    have n2 : h'.objs.size ≠ P := Nat.ne_of_gt (Nat.lt_of_lt_of_le (Heap.lt_size atP) le)
    refine go _ c' _ ctv _ _ (inv_table (t' := tk) (more := #[rawInt pos.line, rawInt pos.col, .ref c']) I p1 (fun b o hb e => Heap.get?_push_of_some _ (kp b o hb e)) (Heap.get?_push_of_some _ tb) ge ⟨oc, vs, t, Heap.get?_push_of_some _ o1, o2, o3'⟩) (keep_grown p1 fresh) (Heap.get?_push_size _ rfl) ?_ (far _ le) (by rw [upd_same, hq])
    rw [upd_ne (Nat.ne_of_gt lt), upd_ne n2]
    exact I.hok.fresh le
/-- act(), where the lambda's body is read with the guards known -/
theorem pe_actG {CXg : CXT} {Eg : XK} {Ng : List Str} {qg : Str} {sg : Scope} {g f c' : Addr} {cdg pm ctv : Value} {params : Arguments} {body : Expr} {scope : Scope} {k i : Nat} {a : Str} {pn : List (Addr × Obj)} {xe : Value → Shared → Prop} {W : WX} {E : XK} {tb : TE} {p1 p2 : Pos}
    (I : Inv X pins σ H s) (L : LamS X.env.scope scope) (hf : s.heap.get? f = some (PySem.W.kla_obj "<lambda>" (X.env.qual ++ "<lambda>") params body scope (cloFrom X.env.cells scope.names []) pm c' ctv)) (hfn : H f = none) (hfr : f ∉ frs X.stack)
    (hbind : bindArgs (PySem.W.kla_fn "<lambda>" (X.env.qual ++ "<lambda>") params body scope (cloFrom X.env.cells scope.names []) pm (.ref c') ctv) ⟨[], []⟩ = pure [])
    (tk : Takes ((cxOf CXg X.prog X.w X.K X.mg X.base Ng qg sg g cdg X.A X.stack s H Eg).tr pn xe) W) (hW : ∀ cls d σ' H', E cls d H' → W cls d σ' H') (hA : X.A.guards = some []) (hr : Room (k + 1) (X.A.deeper (envOfC qg sg s.heap.objs.size g cdg)))
    (hbody : ∀ (A : Around) (outer : List PySem.Env) (s : Shared) (H : Hp), A.guards = some [] → Room k (A.deeper (lamEnv X scope s.heap.objs.size f c')) → PE (lamCx X A outer s H E scope f c') body tb)
    (hN : Ng[i]? = some a) (hv : Vis sg a) (hd : (a == ("__debug__" : Str)) = false := by decide) (hcd : (a == ("__classdict__" : Str)) = false := by decide) :
    PE ((cxOf CXg X.prog X.w X.K X.mg X.base Ng qg sg g cdg X.A X.stack s H Eg).tr pn xe) (.Call (.Name a p1) [] [] p2)
      (fun σZ HZ Q => σZ[i]? = some (some (.ref f)) ∧ HZ c' = some (CodeO c' (X.env.qual ++ "<lambda>")) ∧ tb σ HZ Q) := by
  refine ⟨fun pz sz σz Hz Q Iz h => ?_⟩
  obtain ⟨hs, hc, ht⟩ := h
  apply wpAny_Call_Name_kw
  refine thn ((pe_var (pos := p1) (i := i) hN hv hd hcd).run pz sz σz Hz (fun v H1 => v = .ref f ∧ H1 = Hz) Iz ⟨.ref f, hs, rfl, rfl⟩) fun u s1 hq => ?_
  obtain ⟨v, H1, I1, r1, rfl, eH⟩ := hq
  rw [eH] at I1
  cases (show u = Value.ref f from r1)
  have at1 := I1.base.keep f _ hf hfn hfr (fun z => nomatch (show f ∈ ([] : List Addr) from z))
  refine PySem.W.callWith_F0 ⟨_, _, _, _, at1⟩ ?_
  obtain ⟨⟨oc, vs, t, o1, o2, o3⟩, _, _⟩ := I1.hok c' _ hc
  have whole : codeAny (model X.prog X.w) (X.A.deeper (envOfC qg sg s.heap.objs.size g cdg)) (.call (.ref f) ⟨[], []⟩) (CR (L2.CX X.prog X.w) (envOfC qg sg s.heap.objs.size g cdg :: X.stack) X.prog X.w Hz s1 Q E) s1 := by
    refine PySem.W.kla_callFunE hr.depth at1 rfl L.co L.gen rfl ⟨c', oc, vs, t, rfl, o1, o2, o3⟩ ?_
    rw [hbind]
    refine wpAny_pure (wpAny_newFunctionEnv (fun y hy => (L.own y hy).2) (fun y hy => nomatch hy) (fun h₁ hns hsb => ⟨I1.nolimit.fresh _ hsb, ?_⟩) L.kind)
    have kp : ∀ b o, s1.heap.get? b = some o → h₁.get? b = some o := fun b o e => hsb.extBut b o (Nat.ne_of_lt (Heap.lt_size e)) (Heap.get?_push_of_some _ e)
    have J := lam_start2 (E := E) (f := f) (c' := c') (tk := s1.toks + ([] : List (Str × Value)).length) I L I1.env0 hr.hd I1.base hns kp
    refine PySem.W.kla_codeExpr (wpAny_mono ((hbody (X.A.deeper (envOfC qg sg s.heap.objs.size g cdg)) (envOfC qg sg s.heap.objs.size g cdg :: X.stack) s1 Hz (show (X.A.deeper _).guards = some [] from hA) (hr.deeper _)).run [] _ _ Hz Q J ht) (fun v s' hq => ?_) fun e s' hq => hq)
    obtain ⟨w', H', J', rv, q⟩ := hq
    exact ⟨w', H', J'.os, J'.bare, J'.base, J'.hok, rv, q⟩
  have out : Passes (L2.CX X.prog X.w) ((cxOf CXg X.prog X.w X.K X.mg X.base Ng qg sg g cdg X.A X.stack s H Eg).tr pn xe) E := passes_call tk hW
  refine wpAny_call (codeAny_mono whole fun r s' hq => ?_)
  cases r with
  | error e => exact out pz σz Hz s1 e s' I1 hq
  | ok fl =>
    cases fl with
    | ret u => exact I1.after hq
    | next => exact False.elim hq
    | brk => exact False.elim hq
    | cont => exact False.elim hq
end
/-- the def that hears, as it stands at the top -/
def OkH (K : Fg) (mg : Str → Option Value) (x : Str) (C : Addr) (fld m1 m2 : Str) : Prop :=
  ∃ (a : Str) (g : Addr) (pg : Arguments) (bg : List Stmt) (sg : Scope) (dV kV doc pm cdv ct oc : Value) (an od : Option Addr) (osl : Array (Option Value)) (Ng : List Str), mg x = some (.ref g) ∧ PySem.W.keepIn K (.ref g) = true ∧ K.K.lookup g = some ⟨oc, od, .func (PySem.W.fnOf x x pg bg sg dV kV doc pm an cdv ct), osl⟩ ∧ PySem.W.codeIn K cdv x = true ∧
    L2.Binds K (PySem.W.fnOf x x pg bg sg dV kV doc pm an cdv ct) [a] [] ∧ FnScope Ng [a] sg ∧ Ng[0]? = some a ∧ Vis sg a ∧ (a == ("__debug__" : Str)) = false ∧ (a == ("__classdict__" : Str)) = false ∧ ∀ (X : Cx) (q : Str), X.K = K.K → X.mg = mg → GivesTo X Ng x sg g cdv bg a q (THeard C fld m1 m2)
def heardD (n : Nat) (G : FE) (t : AD) (m1 m2 : Str) : ED := fun ρ => (t ρ).bind fun p => (psAll p.2 p.1).bind fun q => if q.1.length = n then (G q.1).bind fun o => match o with
  | .inl (.cl d) => some (.cl (.tuple [.str m1, d]), q.2)
  | .inl (.own ds) => some (.cl (.tuple [.str m1, .list ds]), q.2)
  | .inl (.sl _) => none
  | .inr i => some (.cl (.tuple [.str m2, .int i]), q.2)
  else none
end DL
end
noncomputable section
namespace DL
open PySem PySem.Spec PyProof.Rows L2
end DL
end
set_option maxHeartbeats 1000000
noncomputable section
namespace DL
open PySem PySem.Spec PyProof.Rows L2 LamX
def clsS (st : Stmt) (j : Nat) : Stmt := match st with
  | .ClassDef _ _ _ body .. => body.getD j (.Pass ⟨0, 0, 0, 0⟩)
  | _ => .Pass ⟨0, 0, 0, 0⟩
theorem ErrD.mk' {K : PySem.W.Frag} {T : TL} {mg : Str → Option Value} {x q fld : Str} {st : Stmt} {C fI : Addr} {fd : FuncData} {p1 p2 p3 p4 : Pos}
    (g : mg x = some (.ref C)) (oc : OexC K C) (xf : xfB K C = true) (no : PySem.W.findIn K (.ref C) fld = some none) (m : PySem.W.exmOne K (.ref C) (.ref C) = some true)
    (i1 : PySem.W.findIn K (.ref C) "__init__" = some (some (.ref fI))) (i2 : PySem.W.typeIn K (.ref fI) = some (.type "function"))
    (F : Fun K "__init__" q st fI fd) (S : FnScope ["self", fld] ["self", fld] (defScope st)) (b : Binds K fd ["self", fld] [])
    (hb : defBody st = [.Assign [.Attribute (.Name "self" p1) fld p2] (.Name fld p3) p4]) (hf : (fld == ("__debug__" : Str)) = false := by decide) (hf2 : (fld == ("__classdict__" : Str)) = false := by decide)
    (hs : ∀ (P : Program) (w : World) (base : Heap) (cdv : Value) (A : Around) (outer : List PySem.Env) (s : Shared) (H : Hp) (E : XK), swapsWith (.Name fld p3) (some (.Attribute (.Name "self" p1) fld p2)) p4.line (cxOf (fun _ _ _ _ _ _ => False) P w K mg base ["self", fld] q (defScope st) fI cdv A outer s H E).env = pure false := by intros; rfl) :
    ErrD ⟨K, T⟩ mg x C fld := ⟨g, oc, xfB_ok xf, no, m, fI, i1, i2, fun P w base => ⟨fd, init_ok F S oc no hb hf hf2 hs P w base, b⟩⟩
theorem OkH.mk {K : Fg} {mg : Str → Option Value} {x a e y fld m1 m2 : Str} {st : Stmt} {g C : Addr} {dV kV doc pm cdv ct oc : Value} {an od : Option Addr} {osl : Array (Option Value)} {Ng : List Str} {i : Nat} {hds : List ExceptHandler} {j1 j2 k1 k2 : _} {p1 p2 p3 p4 p5 p6 p7 p8 p9 p10 p11 p12 p13 : Pos}
    (hm : mg x = some (.ref g)) (hk : PySem.W.keepIn K (.ref g) = true) (l : K.K.lookup g = some ⟨oc, od, .func (PySem.W.fnOf x x (defArgs st) (defBody st) (defScope st) dV kV doc pm an cdv ct), osl⟩) (c : PySem.W.codeIn K cdv x = true)
    (b : L2.Binds K (PySem.W.fnOf x x (defArgs st) (defBody st) (defScope st) dV kV doc pm an cdv ct) [a] []) (S : FnScope Ng [a] (defScope st)) (n0 : Ng[0]? = some a)
    (cl : ErrD K mg y C fld)
    (hb : defBody st = [.Try [.Return (some (.Tuple [.Constant (.str m1) j1 p1, .Call (.Name a p2) [] [] p3] k1 p4)) p5] (.ExceptHandler (some (.Name y p6)) (some e) [.Return (some (.Tuple [.Constant (.str m2) j2 p7, .Attribute (.Name e p8) fld p9] k2 p10)) p11] p12 :: hds) [] [] p13])
    (hge : (defScope st).names.lookup y = some .globalImplicit) (hi : Ng[i]? = some e) (hln : (defScope st).names.lookup e = some .local) (i0 : 0 < i)
    (v0 : Vis (defScope st) a := by first | exact Or.inl rfl | exact Or.inr (Or.inl rfl) | exact Or.inr (Or.inr rfl))
    (d1 : (a == ("__debug__" : Str)) = false := by decide) (d2 : (a == ("__classdict__" : Str)) = false := by decide) (d3 : (y == ("__debug__" : Str)) = false := by decide) (d4 : (e == ("__debug__" : Str)) = false := by decide) (d5 : (e == ("__classdict__" : Str)) = false := by decide) :
    OkH K mg x C fld m1 m2 := by
  refine ⟨a, g, defArgs st, defBody st, defScope st, dV, kV, doc, pm, cdv, ct, oc, an, od, osl, Ng, hm, hk, l, c, b, S, n0, v0, d1, d2, fun X q hK hM => ?_⟩
  rw [hb]
  have cl' : ErrD (X.D K.T) X.mg y C fld := by
    have e1 : X.D K.T = K := by show (⟨X.K, K.T⟩ : Fg) = K; rw [hK]
    rw [e1, hM]; exact cl
  refine heard_gives cl' hge d3 S.nd hi hln d4 d5 fun f => ?_
  rw [start_get]
  simp
theorem tabsN {h : Heap} (cs : List (Addr × Addr)) (t : ∀ P ∈ cs.map (·.2), h.get? P = some (PySem.W.tabObj #[])) : ∀ p ∈ cs, h.get? p.2 = some { cls := .none, data := .fields #[] } := fun p hp => t p.2 (List.mem_map_of_mem hp)
end DL
end
set_option maxHeartbeats 1000000
noncomputable section
namespace DL
open PySem PySem.Spec PyProof.Rows L2 LamX
def isKey (k : Key) : PyData → Bool
  | .int i => decide (k = .inl i)
  | .str x => decide (k = .inr x)
  | _ => false
def lookD (k : Key) : List (PyData × PyData) → Option PyData
  | [] => none
  | p :: r => if isKey k p.1 = true then some p.2 else lookD k r
def keyOf : PyData → Option Key
  | .int i => some (.inl i)
  | .str x => some (.inr x)
  | _ => none
/-- the mark of a dict with tuples as keys -/
def markD : List (PyData × PyData) → Bool
  | [(.none, .list _)] => true
  | _ => false
@[simp] theorem mark_nil : markD [] = false := rfl
@[simp] theorem mark_int {x : Int} {d : PyData} {ds : List (PyData × PyData)} : markD ((.int x, d) :: ds) = false := by cases ds <;> rfl
@[simp] theorem mark_str {x : Str} {d : PyData} {ds : List (PyData × PyData)} : markD ((.str x, d) :: ds) = false := by cases ds <;> rfl
def inDG (neg : Bool) : DL.Env → Val → Val → Option (Val × DL.Env) := fun ρ a b => match a, b with
  | .cl d, .cl (.dict ds) => if markD ds = true then none else (keyOf d).map fun k => (.cl (.bool (neg ^^ (lookD k ds).isSome)), ρ)
  | _, _ => none
def ixDG : DL.Env → Val → Val → Option (Val × DL.Env) := fun ρ a b => match a, b with
  | .cl (.dict ds), .cl d => (keyOf d).bind fun k => (lookD k ds).map fun r => (.cl r, ρ)
  | _, _ => none
section
variable {X : Cx} {tl : TL} {a b : Expr} {f1 f2 : ED} {pos : Pos}
/-- {x: y}, names both -/
def dicV (i j : Nat) : ED := fun ρ => match ρ.getD i .no, ρ.getD j .no with
  | .cl d, .cl e => (keyOf d).map fun _ => (.cl (.dict [(d, e)]), ρ)
  | _, _ => none
end
end DL
end
set_option maxHeartbeats 1000000
noncomputable section
namespace DL
open PySem PySem.Spec PyProof.Rows L2 LamX
structure Sw (H H2 : Hp) (d : Addr) (kvs : List (Key × V)) : Prop where
  out : ∀ b, b ≠ d → H2 b = H b
  a : Rd H d (.dK kvs)
  b : Rd H2 d (.dK kvs)
theorem Rd.dK_inj {H : Hp} {a : Addr} {k1 k2 : List (Key × V)} (h1 : Rd H a (.dK k1)) (h2 : Rd H a (.dK k2)) : k1 = k2 := by
  rcases h1 with h1 | ⟨o1, h1⟩ <;> rcases h2 with h2 | ⟨o2, h2⟩ <;> rw [h1] at h2 <;> cases h2 <;> rfl
section
variable {K : Fg} {H H2 : Hp} {W : List Addr} {d : Addr} {kvs : List (Key × V)}
theorem Sw.lst (s : Sw H H2 d kvs) {a : Addr} {xs : List V} (h : H a = some (.lst xs)) : H2 a = some (.lst xs) := by
  rw [s.out a, h]
  rintro rfl
  rcases s.a with z | ⟨o, z⟩ <;> rw [h] at z <;> cases z
theorem Sw.tup (s : Sw H H2 d kvs) {a : Addr} {xs : List V} (h : TupD H a xs) : TupD H2 a xs := by
  obtain ⟨o, h, p⟩ := h
  refine ⟨o, ?_, p⟩
  rw [s.out a, h]
  rintro rfl
  rcases s.a with z | ⟨o, z⟩ <;> rw [h] at z <;> cases z
theorem Sw.dic (s : Sw H H2 d kvs) {a : Addr} {ks : List (Key × V)} (h : DicD H a ks) : DicD H2 a ks := by
  by_cases e : a = d
  · subst e
    have := Rd.dK_inj h.rd s.a
    subst this
    exact ⟨s.b⟩
  · refine ⟨?_⟩
    unfold Rd
    rw [s.out a e]
    exact h.rd
theorem Sw.dit (s : Sw H H2 d kvs) {a : Addr} {es : List (NestedKey × Addr × V)} (h : DitD H a es) : DitD H2 a es := by
  have ne : a ≠ d := by
    rintro rfl
    rcases s.a with z | ⟨o, z⟩ <;> rcases h.rd with y | ⟨o2, y⟩ <;> rw [y] at z
    · exact nomatch z
    · exact nomatch z
    · exact nomatch z
    · injection z with z
      injection z with _ z
      exact nomatch z
  refine ⟨?_⟩
  unfold Rd
  rw [s.out a ne]
  exact h.rd
theorem Sw.tabs (s : Sw H H2 d kvs) {T : TL} (t : Tabs T H) : Tabs T H2 := fun p hp => TabS.extB (t p hp) fun b o e h => by
  rw [s.out b, e]
  rintro rfl
  rcases s.a with z | ⟨o2, z⟩ <;> rw [e] at z <;> cases z <;> rcases h with ⟨ps, h⟩ | ⟨c, q, h⟩ <;> cases h
variable {P B L E : List Addr} {σ : L2.St} {ρ : DL.Env}
end
def keyI (j : Nat) : ID := fun ρ => match ρ.getD j .no with
  | .cl (.dict ds) => if markD ds = true then none else some (ds.map (·.1), ρ)
  | _ => none
end DL
end
set_option maxHeartbeats 1000000
noncomputable section
namespace DL
open PySem PySem.Spec PyProof.Rows L2 LamX
def seqEE (g h : SE) : SE := fun ρ => (g ρ).bind fun o => match o with
  | .inl (.nx ρ') => h ρ'
  | o => some o
section
variable {X : Cx} {tl : TL} {tgE iter : Expr} {is : List Nat} {fi : ID} {tg : GD} {g h : SE} {body rest : List Stmt} {pos : Pos} {C : Addr} {fld : Str} {E : XK} {st : Stmt}
theorem rse_seqE {D : Ends} {σ : L2.St} {H : Hp} (hh : RSE (X.D tl) C fld E (seqEE g h) D σ H) : tSeq (RSE (X.D tl) C fld E g) (RSE (X.D tl) C fld E h) D σ H := by
  obtain ⟨P, B, L, ρ, o, R, e, k⟩ := hh
  obtain ⟨o1, e1, e2⟩ := Option.bind_eq_some_iff.mp e
  refine ⟨P, B, L, ρ, o1, R, e1, ?_⟩
  cases o1 with
  | inr i => cases e2; exact k
  | inl o1 =>
    cases o1 with
    | nx ρ1 => exact fun σ' H' L' R' s' => ⟨P, B, L', ρ1, o, R', e2, k.after s'⟩
    | ct ρ1 => cases e2; exact k
    | bk ρ1 => cases e2; exact k
    | rt r ρ1 => cases e2; exact k
theorem x_seqE (hs : PS X st (RSE (X.D tl) C fld E g)) (hr : PSs X rest (RSE (X.D tl) C fld E h)) : PSs X (st :: rest) (RSE (X.D tl) C fld E (seqEE g h)) := ⟨fun pins s σ H D I hh => (pss_cons hs hr).run pins s σ H D I (rse_seqE hh)⟩
end
end DL
end
set_option maxHeartbeats 1000000
noncomputable section
namespace DL
open PySem PySem.Spec PyProof.Rows L2 LamX
section
variable {X : Cx} {tl : TL} {pins : List (Addr × Obj)} {s : Shared} {σ : L2.St} {H : Hp} {W : List Addr} {a : Addr} {es : List (NestedKey × Addr × V)} {ds : List (PyData × PyData)}
theorem DqT.length {K : Fg} : ∀ {es : List (NestedKey × Addr × V)} {ds : List (PyData × PyData)}, DqT K H W es ds → es.length = ds.length
  | _, _, .nil => rfl
  | _, _, .cons h1 h2 h3 h4 h5 => by rw [List.length_cons, List.length_cons, DqT.length h5]
def putT (ds : List (PyData × PyData)) (k : NestedKey) (dk dv : PyData) : List (PyData × PyData) :=
  if (ds.any fun p => decide (nkey p.1 = some k)) = true then ds.map fun p => if nkey p.1 = some k then (p.1, dv) else p else ds ++ [(dk, dv)]
theorem DqT.any {K : Fg} (k : NestedKey) : ∀ {es : List (NestedKey × Addr × V)} {ds : List (PyData × PyData)}, DqT K H W es ds → (es.any fun x => decide (x.1 = k)) = ds.any fun p => decide (nkey p.1 = some k)
  | _, _, .nil => rfl
  | _, _, .cons h1 h2 h3 h4 h5 => by
    rw [List.any_cons, List.any_cons, DqT.any k h5, h2]
    congr 1
    exact decide_eq_decide.mpr ⟨fun z => congrArg some z, fun z => Option.some.inj z⟩
end
/-- x = {}: a dict whose keys will be tuples -/
def newT (i : Nat) : SD := fun ρ => some (.nx (ρ.set i (.dk true [])))
/-- x = {}: a dict whose keys will be ints and texts -/
def newK (i : Nat) : SD := fun ρ => some (.nx (ρ.set i (.dk false [])))
def putK (ds : List (PyData × PyData)) (k : Key) (dk dv : PyData) : List (PyData × PyData) :=
  if (ds.any fun p => isKey k p.1) = true then ds.map fun p => if isKey k p.1 = true then (p.1, dv) else p else ds ++ [(dk, dv)]
def isTupD : PyData → Bool
  | .tuple _ => true
  | _ => false
def putP (t : Bool) (ds : List (PyData × PyData)) (dk dv : PyData) : Option (List (PyData × PyData)) := match t with
  | true => (nkey dk).bind fun k => if isTupD dk = true ∧ k.depth ≤ 8 ∧ ds.length < lim then some (putT ds k dk dv) else none
  | false => (keyOf dk).bind fun k => if ds.length < lim then some (putK ds k dk dv) else none
/-- x[k] = v, x a dict of the frame -/
def putS (j : Nat) (fk fv : ED) : SD := fun ρ => (fv ρ).bind fun p => match p.2.getD j .no with
  | .dk _ _ => (fk p.2).bind fun q => match q.1 with
    | .cl dk => (psV q.2 p.1).bind fun s => match s.2.getD j .no with
      | .dk t ds => (putP t ds dk s.1).map fun ds' => .nx (s.2.set j (.dk t ds'))
      | _ => none
    | _ => none
  | _ => none
end DL
end
set_option maxHeartbeats 1000000
noncomputable section
namespace DL
open PySem PySem.Spec PyProof.Rows L2 LamX
end DL
end
noncomputable section
namespace DL
open PySem PySem.Spec PyProof.Rows L2 LamX
end DL
end
noncomputable section
namespace DL
open PySem PySem.Spec PyProof.Rows L2
end DL
end
noncomputable section
namespace DL
open PySem PySem.Spec PyProof.Rows L2
def revG : MG := fun ρ ds rs => match rs with
  | [] => some (.cl .none, ds.reverse, ρ)
  | _ => none
theorem DqA.reverse {K : Fg} {H : Hp} {W : List Addr} : ∀ {vs : List V} {ds : List PyData}, DqA K H W vs ds → DqA K H W vs.reverse ds.reverse
  | _, _, .nil => .nil
  | _, _, .cons h1 h2 => by
    rw [List.reverse_cons, List.reverse_cons]
    exact (DqA.reverse h2).append (.cons h1 .nil)
end DL
end
noncomputable section
namespace DL
open PySem PySem.Spec PyProof.Rows L2
def itemBoth (ρ : DL.Env) (a k1 b k2 : Nat) (d1 d2 : PyData) : Option Out := match itemSt ρ a k1 d1 with
  | some (.nx ρ1) => itemSt ρ1 b k2 d2
  | _ => none
def asgSS (a k1 b k2 : Nat) (t : AD) : SD := fun ρ => (t ρ).bind fun p => (psAll p.2 p.1).bind fun q => match q.1 with
  | [d1, d2] => itemBoth q.2 a k1 b k2 d1 d2
  | _ => none
section
variable {X : Cx} {tl : TL} {t : AD} {pos : Pos}
theorem asgSS_core {a k1 b k2 : Nat} {D : Ends} {σ : L2.St} {H : Hp} (h : RS (X.D tl) (asgSS a k1 b k2 t) D σ H) :
    tAsg (tTupF (RA (X.D tl) t)) (gTup (X.D tl) 2 (gCons (gSub (tVar a) (tVar k1) L2.rSetL) (gCons (gSub (tVar b) (tVar k2) L2.rSetL) gNil))) D σ H := by
  have ll := lim_line
  obtain ⟨P, B, L, ρ, o, R0, e, c⟩ := h
  obtain ⟨⟨rs, ρ1⟩, e1, e⟩ := Option.bind_eq_some_iff.mp e
  obtain ⟨⟨ds, ρ2⟩, e2, e⟩ := Option.bind_eq_some_iff.mp e
  simp only at e
  split at e
  · rename_i _ d1 d2
    refine ⟨P, B, L, ρ, rs, ρ1, R0, e1, fun xs H1 La Ea p1 v1 => ?_⟩
    obtain ⟨E', L', R1, dq, es, ls⟩ := psAll_of p1.rep v1 e2
    have pl := Post.less (K := (X.D tl)) R1 es ls
    cases dq with
    | cons h1 dq =>
    cases dq with
    | cons h2 dq =>
    cases dq
    rename_i x1 x2
    refine ⟨by show 2 ≤ sizeLine; rw [sizeLine_eq]; decide, fun p ob hp po => ?_⟩
    have kp : Keep [] H1 (upd H1 p (.frz ob (.tup [x1, x2]))) := Keep.new hp
    have R2 : Rep (X.D tl) P B L' σ ρ2 (upd H1 p (.frz ob (.tup [x1, x2]))) := R1.drop.same kp
    have sub : ∀ a ∈ P ++ B ++ L', a ∈ E' ++ P ++ B ++ L' := fun a z => by
      simp only [List.mem_append] at z ⊢
      rcases z with (z | z) | z
      · exact .inl (.inl (.inr z))
      · exact .inl (.inr z)
      · exact .inr z
    have g1 : Dq (X.D tl) (upd H1 p (.frz ob (.tup [x1, x2]))) (P ++ B ++ L') x1 d1 := (h1.sub sub).move lists_nil (fun _ z => nomatch z) kp fun _ z => .inl z
    have g2 : Dq (X.D tl) (upd H1 p (.frz ob (.tup [x1, x2]))) (P ++ B ++ L') x2 d2 := (h2.sub sub).move lists_nil (fun _ z => nomatch z) kp fun _ z => .inl z
    unfold itemBoth at e
    split at e
    · rename_i ρ3 e3
      unfold itemSt at e3
      split at e3
      · rename_i iv kk es' ek eo
        obtain ⟨m, em, e3⟩ := Option.bind_eq_some_iff.mp e3
        cases e3
        obtain ⟨l, us, el, _, _, hl, dl, _⟩ := opAt_of R2 eo
        have ck := R2.ok k1
        rw [ek] at ck
        obtain ⟨v, ev, dv⟩ := ck
        cases dv
        obtain ⟨R4, s4, v4⟩ := R2.write eo el (dl.set g1 m)
        have g3 : VR (X.D tl) [] P B L' σ _ x2 (.cl d2) := v4 (E' := []) (P' := P) rfl g2
        have g4 : Dq (X.D tl) _ (P ++ B ++ L') x2 d2 := g3
        unfold itemSt at e
        split at e
        · rename_i iv2 kk2 es2 ek2 eo2
          obtain ⟨m2, em2, e⟩ := Option.bind_eq_some_iff.mp e
          cases e
          obtain ⟨l2, us2, el2, _, _, hl2, dl2, _⟩ := opAt_of R4 eo2
          have ck2 := R4.ok k2
          rw [ek2] at ck2
          obtain ⟨v2, ev2, dv2⟩ := ck2
          cases dv2
          obtain ⟨R5, s5, _⟩ := R4.write eo2 el2 (dl2.set g4 m2)
          refine ⟨p, [x1, x2], rfl, .inl (.inr ⟨ob, upd_same⟩), rfl, x1, [x2], rfl, .ref l, el, .int iv, ev, l, us, iv, m, rfl, rfl, hl, by rw [dl.length]; exact em, x2, [], rfl, .ref l2, el2, .int iv2, ev2, l2, us2, iv2, m2, rfl, rfl, hl2, by rw [dl2.length]; exact em2, rfl, ?_⟩
          exact c _ _ L' R5 ((((p1.step.trans pl.step).trans (Step.of_same kp)).trans s4).trans s5)
        · cases e
      · cases e3
    · cases e
  · cases e
theorem s_asgSS (a k1 b k2 : Nat) {y z y2 z2 : Str} {u v : Expr} {py pz ps py2 pz2 ps2 pt : Pos} {kt k2' : Nat} {pt2 : Pos} (hc : X.calm = true) (ha : PA X [u, v] (RA (X.D tl) t))
    (h1 : X.N[a]? = some y := by rfl) (v1 : Vis X.env.scope y := by first | exact Or.inl rfl | exact Or.inr (Or.inl rfl) | exact Or.inr (Or.inr rfl)) (d1 : (y == ("__debug__" : Str)) = false := by decide) (c1 : (y == ("__classdict__" : Str)) = false := by decide)
    (h2 : X.N[k1]? = some z := by rfl) (v2 : Vis X.env.scope z := by first | exact Or.inl rfl | exact Or.inr (Or.inl rfl) | exact Or.inr (Or.inr rfl)) (d2 : (z == ("__debug__" : Str)) = false := by decide) (c2 : (z == ("__classdict__" : Str)) = false := by decide)
    (h3 : X.N[b]? = some y2 := by rfl) (v3 : Vis X.env.scope y2 := by first | exact Or.inl rfl | exact Or.inr (Or.inl rfl) | exact Or.inr (Or.inr rfl)) (d3 : (y2 == ("__debug__" : Str)) = false := by decide) (c3 : (y2 == ("__classdict__" : Str)) = false := by decide)
    (h4 : X.N[k2]? = some z2 := by rfl) (v4 : Vis X.env.scope z2 := by first | exact Or.inl rfl | exact Or.inr (Or.inl rfl) | exact Or.inr (Or.inr rfl)) (d4 : (z2 == ("__debug__" : Str)) = false := by decide) (c4 : (z2 == ("__classdict__" : Str)) = false := by decide)
    (as1 : ∀ v, assign (.Subscript (.Name y py) (.Name z pz) ps) X.env v = (do
      let ov ← holding [v] (eval (.Name y py) X.env)
      let iv ← holding [v, ov] (eval (.Name z pz) X.env)
      standAt ps
      holding [v, ov, iv] (setItem ov iv v)
      release [v, ov, iv] []) := by intro _; rfl)
    (as2 : ∀ v, assign (.Subscript (.Name y2 py2) (.Name z2 pz2) ps2) X.env v = (do
      let ov ← holding [v] (eval (.Name y2 py2) X.env)
      let iv ← holding [v, ov] (eval (.Name z2 pz2) X.env)
      standAt ps2
      holding [v, ov, iv] (setItem ov iv v)
      release [v, ov, iv] []) := by intro _; rfl)
    (hn : (assignEach [.Subscript (.Name y py) (.Name z pz) ps, .Subscript (.Name y2 py2) (.Name z2 pz2) ps2] X.env).length = 2 := by rfl) (hst : (assignEach [.Subscript (.Name y py) (.Name z pz) ps, .Subscript (.Name y2 py2) (.Name z2 pz2) ps2] X.env).findIdx? (·.1) = none := by rfl)
    (hs : swapsWithSole [.Tuple [.Subscript (.Name y py) (.Name z pz) ps, .Subscript (.Name y2 py2) (.Name z2 pz2) ps2] kt pt] (.Tuple [u, v] k2' pt2) pos.line X.env = pure false := by rfl) (hw : swappedStores [.Tuple [.Subscript (.Name y py) (.Name z pz) ps, .Subscript (.Name y2 py2) (.Name z2 pz2) ps2] kt pt] (.Tuple [u, v] k2' pt2) X.env = pure none := by rfl)
    (h1' : (assignEach [.Tuple [.Subscript (.Name y py) (.Name z pz) ps, .Subscript (.Name y2 py2) (.Name z2 pz2) ps2] kt pt] X.env).map (·.2) = [assign (.Tuple [.Subscript (.Name y py) (.Name z pz) ps, .Subscript (.Name y2 py2) (.Name z2 pz2) ps2] kt pt) X.env] := by rfl) :
    PS X (.Assign [.Tuple [.Subscript (.Name y py) (.Name z pz) ps, .Subscript (.Name y2 py2) (.Name z2 pz2) ps2] kt pt] (.Tuple [u, v] k2' pt2) pos) (RS (X.D tl) (asgSS a k1 b k2 t)) :=
  (ps_asg (pe_tupF ha) (pg_tup hc (pgs_cons (pg_sub (pe_var h1 v1 d1 c1) (pe_var h2 v2 d2 c2) set_list as1) (pgs_cons (pg_sub (pe_var h3 v3 d3 c3) (pe_var h4 v4 d4 c4) set_list as2) pgs_nil)) hn hst) hs hw h1').imp fun _ _ _ h => asgSS_core h
end
end DL
end
set_option maxHeartbeats 1000000
noncomputable section
namespace DL
open PySem PySem.Spec PyProof.Rows L2
def dic2V (i j k l : Nat) : ED := fun ρ => match ρ.getD i .no, ρ.getD j .no, ρ.getD k .no, ρ.getD l .no with
  | .cl d, .cl e, .cl d2, .cl e2 => (keyOf d).bind fun q => (keyOf d2).bind fun q2 => if q = q2 then none else some (.cl (.dict [(d, e), (d2, e2)]), ρ)
  | _, _, _, _ => none
end DL
end
set_option maxHeartbeats 1000000
noncomputable section
namespace DL
open PySem PySem.Spec PyProof.Rows L2
end DL
end
noncomputable section
namespace DL
open PySem PySem.Spec PyProof.Rows L2
end DL
end
set_option maxHeartbeats 1000000
noncomputable section
namespace DL
open PySem PySem.Spec PyProof.Rows L2
section
variable {K : Fg} {P B L E : List Addr} {σ : L2.St} {ρ : DL.Env} {H H' : Hp}
/-- a list of lists of ints -/
structure RowsAt (H : Hp) (D : Addr) (bs : List Addr) (rows : List (List Int)) : Prop where
  outer : H D = some (.lst (bs.map V.ref))
  len : bs.length = rows.length
  inner : ∀ (j : Nat) (b : Addr) (r : List Int), bs[j]? = some b → rows[j]? = some r → H b = some (.lst (r.map V.int))
theorem RowsAt.keep {D : Addr} {bs : List Addr} {rows : List (List Int)} {M : List Addr} (A : RowsAt H D bs rows) (k : Keep M H H') (h : ∀ b ∈ D :: bs, b ∉ M) : RowsAt H' D bs rows :=
  ⟨k.at A.outer (h D (List.mem_cons_self ..)) (fun _ z => nomatch z), A.len, fun j b r h1 h2 => k.at (A.inner j b r h1 h2) (h b (List.mem_cons_of_mem _ (List.mem_of_getElem? h1))) (fun _ z => nomatch z)⟩
theorem RowsAt.write {D : Addr} {bs : List Addr} {rows : List (List Int)} {j : Nat} {b : Addr} {r : List Int} (A : RowsAt H D bs rows) (nd : (D :: bs).Nodup) (hj : bs[j]? = some b) : RowsAt (upd H b (.lst (r.map V.int))) D bs (rows.set j r) := by
  obtain ⟨n1, n2⟩ := List.nodup_cons.mp nd
  have hb : b ∈ bs := List.mem_of_getElem? hj
  refine ⟨by rw [upd_ne fun z : D = b => n1 (z ▸ hb)]; exact A.outer, by rw [List.length_set]; exact A.len, fun i c q h1 h2 => ?_⟩
  rw [List.getElem?_set] at h2
  by_cases e : j = i
  · subst e
    rw [hj] at h1
    cases h1
    rw [if_pos rfl] at h2
    split at h2
    · cases h2; exact upd_same
    · cases h2
  · rw [if_neg e] at h2
    have hne : c ≠ b := fun z => by
      subst z
      obtain ⟨x1, y1⟩ := List.getElem?_eq_some_iff.mp hj
      obtain ⟨x2, y2⟩ := List.getElem?_eq_some_iff.mp h1
      exact e ((List.getElem_inj n2).mp (y1.trans y2.symm))
    rw [upd_ne hne]
    exact A.inner i c q h1 h2
end
def rowsOf : List PyData → Option (List (List Int))
  | [] => some []
  | .tuple ds :: r => (intsOf ds).bind fun ns => (rowsOf r).map fun rs => ns :: rs
  | _ => none
end DL
end
set_option maxHeartbeats 1000000
noncomputable section
namespace DL
open PySem PySem.Spec PyProof.Rows L2
end DL
end
set_option maxHeartbeats 1000000
noncomputable section
namespace DL
open PySem PySem.Spec PyProof.Rows L2
end DL
end
set_option maxHeartbeats 1000000
noncomputable section
namespace DL
open PySem PySem.Spec PyProof.Rows L2
end DL
end
set_option maxHeartbeats 1000000
noncomputable section
namespace DL
open PySem PySem.Spec PyProof.Rows L2
end DL
end
set_option maxHeartbeats 1000000
noncomputable section
namespace DL
open PySem PySem.Spec PyProof.Rows L2
end DL
end
set_option maxHeartbeats 3200000
noncomputable section
namespace DL
open PySem PySem.Spec PyProof.Rows L2
end DL
end
set_option maxHeartbeats 1000000
noncomputable section
namespace DL
open PySem PySem.Spec PyProof.Rows L2
end DL
end
noncomputable section
namespace DL
open PySem PySem.Spec PyProof.Rows L2
def listT (is : List Nat) : GD := fun ρ d => match d with
  | .list ds => if ds.length = is.length then some (setCls ρ is ds) else none
  | _ => none
@[simp] theorem e_listT {is : List Nat} {ρ : DL.Env} {ds : List PyData} : listT is ρ (.list ds) = if ds.length = is.length then some (setCls ρ is ds) else none := rfl
end DL
end
set_option maxHeartbeats 1000000
noncomputable section
namespace DL
open PySem PySem.Spec PyProof.Rows L2
end DL
end
set_option maxHeartbeats 1000000
noncomputable section
namespace DL
open PySem PySem.Spec PyProof.Rows L2
end DL
end
set_option maxHeartbeats 1000000
noncomputable section
namespace DL
open PySem PySem.Spec PyProof.Rows L2
abbrev Er := Nat × Int
abbrev EKs := List (Addr × Option Str)
def Bears (f : Option Str) (i : Int) (d : Option Addr) (H : Hp) : Prop := match f with
  | some fld => ∃ dd, d = some dd ∧ H dd = some (.xd [(fld, .int i)])
  | none => d = none
def ErZ (ks : EKs) (E : XK) (B L : List Addr) (H : Hp) (er : Er) : Prop := ∃ C f, ks[er.1]? = some (C, f) ∧ ∀ L' H' d, Step B L H L' H' → Bears f er.2 d H' → E (.ref C) d H'
theorem ErZ.after {ks : EKs} {E : XK} {B L L1 : List Addr} {H H1 : Hp} {er : Er} (h : ErZ ks E B L H er) (s : Step B L H L1 H1) : ErZ ks E B L1 H1 er := by
  obtain ⟨C, f, h1, h2⟩ := h
  exact ⟨C, f, h1, fun L' H' d s2 q => h2 L' H' d (s.trans s2) q⟩
abbrev SZ := DL.Env → Option (Out ⊕ Er)
abbrev FZ := List PyData → Option (Val ⊕ Er)
section
variable (K : Fg) (ks : EKs) (E : XK)
def EOkZ (P B L : List Addr) (H : Hp) (D : Ends) : Out ⊕ Er → Prop
  | .inl o => OutOk K P B L H D o
  | .inr er => ErZ ks E B L H er
def RSZ (g : SZ) : TS := fun D σ H => ∃ P B L ρ o, Rep K P B L σ ρ H ∧ g ρ = some o ∧ EOkZ K ks E P B L H D o
def spZ (n : Nat) (G : FZ) : Sp := fun vs H Q E => vs.length = n ∧ ∃ P ds o, (Lists H P ∧ DL.Tabs K.T H) ∧ DqA K H P vs ds ∧ G ds = some o ∧ match o with
  | .inl r => ∀ x H' E', Keep [] H H' → RRes K P H H' E' x r → Q x H'
  | .inr er => ∃ C f, ks[er.1]? = some (C, f) ∧ ∀ H' d, Keep [] H H' → Bears f er.2 d H' → E (.ref C) d H'
end
theorem EOkZ.after {K : Fg} {ks : EKs} {E : XK} {P B L La : List Addr} {H Ha : Hp} {D : Ends} {o : Out ⊕ Er} (h : EOkZ K ks E P B L H D o) (s : Step B L H La Ha) : EOkZ K ks E P B La Ha D o := by
  cases o with
  | inl o => exact OutOk.after h s
  | inr er => exact ErZ.after h s
def runZ (N : Nat) (g : SZ) : FZ := fun ds => (g (argE N ds)).bind fun o => match o with
  | .inr er => some (.inr er)
  | .inl (.rt r ρ') => (retV ρ' r).map .inl
  | .inl (.nx _) => some (.inl (.cl .none))
  | _ => none
section
variable {K : Fg} {ks : EKs} {E : XK} {σ : L2.St} {H : Hp} {Q : VK} {D : Ends}
theorem rsz_runZ {N : List Str} {n : Nat} {g : SZ} {vs : List V} (hN : n ≤ N.length) (h : spZ K ks n (runZ N.length g) vs H Q E) : RSZ K ks E g { nx := fun _ H' => Q .non H', rt := Q } (L2.start N vs) H := by
  obtain ⟨hn, P, ds, r, hl, dq, e, k⟩ := h
  obtain ⟨o, e1, e2⟩ := Option.bind_eq_some_iff.mp e
  have hlen := dq.length
  refine ⟨P, [], [], argE N.length ds, o, rep_argE hl dq (by omega), e1, ?_⟩
  have hP : ∀ a ∈ P ++ [], H a ≠ none := fun a z => by
    obtain ⟨vs, q, _⟩ := hl.1 a (by simpa using z)
    rw [q]; exact fun y => nomatch y
  have eP : P ++ [] = P := by simp
  cases o with
  | inr er =>
    cases e2
    obtain ⟨C, f, k1, k2⟩ := k
    exact ⟨C, f, k1, fun L' H' d s q => k2 H' d (by simpa using s.keep) q⟩
  | inl o =>
    cases o with
    | nx ρ' =>
      cases e2
      exact fun σ' H' L' R s => k _ H' [] (by simpa using s.keep) ⟨rfl, .non⟩
    | rt r' ρ' =>
      obtain ⟨v2, e3, rfl⟩ := Option.map_eq_some_iff.mp e2
      refine fun σ' x H' L' E' R s f v => ?_
      obtain ⟨E2, _, q⟩ := res_of R f (fun a z => (s.lsub a z).elim (fun y => nomatch y) id) hP v e3
      rw [eP] at q
      exact k x H' E2 (by simpa using s.keep) q
    | ct ρ' => cases e2
    | bk ρ' => cases e2
end
/-- a def that may raise errors of these kinds -/
def OkZ (P : Program) (w : World) (K : Fg) (mg : Str → Option Value) (base : Heap) (k : Nat) (x : Str) (ps : List Str) (n : Nat) (ks : EKs) (G : FZ) : Prop :=
  ∃ f fd, FnG P w K mg base (L2.CX P w) k f fd ps (spZ K ks n G) ∧ mg x = some (.ref f) ∧ PySem.W.keepIn K (.ref f) = true ∧ Binds K fd ps []
section
variable {P : Program} {w : World} {K : Fg} {mg : Str → Option Value} {base : Heap} {k n j : Nat} {x : Str} {ps N : List Str} {ks : EKs} {st : Stmt} {g : SZ}
theorem OkZ.of (D : Def K mg x st ps) (S : FnScope N ps (defScope st)) (hn : ps.length = n) (hN : n ≤ N.length)
    (hb : ∀ (f : Addr) (cdv : Value) (A : Around) (outer : List PySem.Env) (s : Shared) (H : Hp) (E : XK), (A.deeper (envOfC x (defScope st) s.heap.objs.size f cdv)).guards = some [] → Room k (A.deeper (envOfC x (defScope st) s.heap.objs.size f cdv)) →
      Takes (cxOf (L2.CX P w) P w K mg base N x (defScope st) f cdv A outer s H E) (fun cls d _ H => E cls d H) → PSs (cxOf (L2.CX P w) P w K mg base N x (defScope st) f cdv A outer s H E) (defBody st) (RSZ K ks E g)) : OkZ P w K mg base (k + 1) x ps n ks (runZ N.length g) := by
  obtain ⟨f, fd, F, h1, h2, h3⟩ := D.ex
  exact ⟨f, fd, FnG.body F S (fun vs H Q E h => h.1.trans hn.symm) (fun cdv A outer s H vs Q E _ hA hr h => ⟨_, hb f cdv A outer s H E hA hr (takes_of rfl rfl rfl rfl), rsz_runZ hN h⟩), h1, h2, h3⟩
end
end DL
end
set_option maxHeartbeats 2000000
noncomputable section
namespace DL
open PySem PySem.Spec PyProof.Rows L2 LamX
def wTwo (K : PySem.W.Frag) (c : Value) (i : Nat) (ts : Addr → Value → Option Addr → TS) (c2 : Value) (ts2 : Addr → Value → Option Addr → TS) (D : Ends) : WX := fun cls d σ H =>
  (PySem.W.exmOne K cls c = some false ∧ PySem.W.exmOne K cls c2 = some true ∧ ∀ a, H a = none → ts2 a cls d D σ H) ∨ PySem.W.exmOne K cls c = some true ∧ ∀ a, H a = none → ts a cls d { nx := fun σ' H' => D.nx (σ'.set i none) H', rt := D.rt, bk := fun σ' H' => D.bk (σ'.set i none) H', ct := fun σ' H' => D.ct (σ'.set i none) H' } (σ.set i (some (.ref a))) H
section
variable {X : Cx} {x n x2 : Str} {c c2 : Value} {i : Nat} {body suite suite2 : List Stmt} {b₀ b₂ : Stmt} {hds : List ExceptHandler} {np pos pos' np2 pos2 : Pos} {tb : WX → TS} {ts ts2 : Addr → Value → Option Addr → TS}
theorem ps_try_two (hs : X.stack = X.env :: X.outer) (hf : X.env.frame = some X.env.locals) (hN : X.N.Nodup) (hi : X.N[i]? = some n) (hln : X.env.kindOf n = some .local) (hc : Names X x c) (hc2 : Names X x2 c2)
    (hb : ∀ (W : WX) (pn : List (Addr × Obj)) (xe : Value → Shared → Prop), Takes (X.tr pn xe) W → PSs (X.tr pn xe) body (tb W))
    (hsu : ∀ (a : Addr) (oe : Obj) (cls : Value) (d : Option Addr) (pn : List (Addr × Obj)), Zc cls d oe → (∃ vs, oe.data = .fields vs) → PSs (X.suite a ((a, oe) :: pn)) (b₀ :: suite) (ts a cls d))
    (hsu2 : ∀ (a : Addr) (oe : Obj) (cls : Value) (d : Option Addr) (pn : List (Addr × Obj)), Zc cls d oe → (∃ vs, oe.data = .fields vs) → PSs (X.suite a ((a, oe) :: pn)) (b₂ :: suite2) (ts2 a cls d)) :
    PS X (.Try body (.ExceptHandler (some (.Name x np)) (some n) (b₀ :: suite) pos' :: .ExceptHandler (some (.Name x2 np2)) none (b₂ :: suite2) pos2 :: hds) [] [] pos) (fun D σ H => tb (wTwo X.K c i ts c2 ts2 D) D σ H) := by
  refine ⟨fun pins s σ H D I h => wpAny_Try_except ?_⟩
  have frs1 : X.A.frames = some (X.env :: X.outer) := by rw [I.ok.frames, hs]
  refine wpAny_mono ((hb (wTwo X.K c i ts c2 ts2 D) (X.pn ++ pins) (fun e s₁ => wpAny (model X.prog X.w) X.A (noteFrame e X.env) (fun _ s₂ => wpAny (model X.prog X.w) X.A (setFlight e none) (fun _ s₃ =>
    wpAny (model X.prog X.w) X.A (handleBy e X.env (.ExceptHandler (some (.Name x np)) (some n) (b₀ :: suite) pos' :: .ExceptHandler (some (.Name x2 np2)) none (b₂ :: suite2) pos2 :: hds)) (SP X pins D) X.xe s₃) X.xe s₂) X.xe s₁) (fun u s' xx => ?_)).run [] s σ H D (I.toTry _) h) (fun f s1 q1 => ?_) (fun e s1 he => he)
  · obtain ⟨a, B, sI, pins', σ', H', cls, d, rfl, J0, nb, up, sky, na, os, ag, mm⟩ := xx
    have J := J0.ofTry I.ok
    rw [hs] at sky
    refine Sky.land Zc.steady frs1 hf sky fun h3 fl3 up3 => ?_
    have J3 : Inv X pins σ' H' { s' with heap := h3 } := J.landed nb fl3.1 (up.trans up3) os ag
    obtain ⟨o3, v3, g3, z3, w3⟩ := fl3.there
    have out : a ∉ frs (X.env :: X.outer) := fun hm => by
      obtain ⟨_, o', e', hnf⟩ := fl3.2.2.1.mem hm
      rw [g3] at e'
      cases e'
      exact hnf _ w3
    have nL : a ≠ X.env.locals := fun z => out (List.mem_filterMap.mpr ⟨X.env, List.mem_cons_self, by rw [hf, z]⟩)
    have nF : a ∉ X.fs := fun hm => by
      obtain ⟨e, he, q⟩ := List.mem_filterMap.mp hm
      exact out (List.mem_filterMap.mpr ⟨e, List.mem_cons_of_mem _ he, q⟩)
    have S3 := J3.suite g3 w3 na nL nF
    refine wpAny_handleBy_cons (codeAny_handlers_test ?_) (by intro q; cases q)
    have LT : PySem.W.Looks (model X.prog X.w) h3 (typeOf (.ref a)) cls := fun A Q E s k q => wpAny_typeOf_ref (k _ _ g3) (by rw [z3.1]; exact q)
    have nm : ∀ {Q : Value → Shared → Prop} {E : Value → Shared → Prop}, Q c { s' with heap := h3 } → wpAny (model X.prog X.w) (X.A.mark (some (.ref a))) (eval (.Name x np) X.env) Q E { s' with heap := h3 } := fun q => by
      obtain ⟨hg, hdbg, hm | ⟨hm, hv, hnn⟩⟩ := hc
      · exact ld_glob (X := X.suite a ((a, o3) :: (X.pn ++ pins))) S3 hg hm q hdbg
      · exact ld_blt (X := X.suite a ((a, o3) :: (X.pn ++ pins))) S3 hg hm hv q hnn hdbg
    rcases mm with ⟨n1, n2, n3⟩ | ⟨m1, m2⟩
    · refine nm ((PySem.W.exm_one (M := model X.prog X.w) (J3.kIn) LT n1).here ?_)
      show wpAny _ X.A (handleBy (.ref a) X.env (.ExceptHandler (some (.Name x2 np2)) none (b₂ :: suite2) pos2 :: hds)) _ _ _
      refine wpAny_handleBy_cons (codeAny_handlers_test ?_) (by intro q; cases q)
      have nm2 : ∀ {Q : Value → Shared → Prop} {E : Value → Shared → Prop}, Q c2 { s' with heap := h3 } → wpAny (model X.prog X.w) (X.A.mark (some (.ref a))) (eval (.Name x2 np2) X.env) Q E { s' with heap := h3 } := fun q => by
        obtain ⟨hg, hdbg, hm | ⟨hm, hv, hnn⟩⟩ := hc2
        · exact ld_glob (X := X.suite a ((a, o3) :: (X.pn ++ pins))) S3 hg hm q hdbg
        · exact ld_blt (X := X.suite a ((a, o3) :: (X.pn ++ pins))) S3 hg hm hv q hnn hdbg
      refine nm2 ((PySem.W.exm_one (M := model X.prog X.w) (J3.kIn) LT n2).here (codeAny_handlers_suite ?_))
      refine HandSPX.lands_againZ fl3 fun h4 fl4 up4 => ?_
      have J4 : Inv X pins σ' H' { s' with heap := h4 } := J.landed nb fl4.1 ((up.trans up3).trans up4) os ag
      obtain ⟨o4, v4, g4, z4, w4⟩ := fl4.there
      refine wpAny_mono ((hsu2 a o4 cls d (X.pn ++ pins) z4 ⟨_, w4⟩).run [] _ _ H' _ (J4.suite g4 w4 na nL nF) (n3 a na)) (fun f s6 q6 => ?_) (fun _ _ z => False.elim z)
      cases f with
      | ret u => obtain ⟨v6, σ6, H6, S6, r6, q6⟩ := q6; exact ⟨_, _, _, S6.unsuite I.ok, r6, q6⟩
      | next => obtain ⟨σ6, H6, S6, q6⟩ := q6; exact ⟨_, _, S6.unsuite I.ok, q6⟩
      | brk => obtain ⟨σ6, H6, S6, q6⟩ := q6; exact ⟨_, _, S6.unsuite I.ok, q6⟩
      | cont => obtain ⟨σ6, H6, S6, q6⟩ := q6; exact ⟨_, _, S6.unsuite I.ok, q6⟩
    refine nm ((PySem.W.exm_one (M := model X.prog X.w) (J3.kIn) LT m1).here (codeAny_handlers_suite_as ?_))
    refine HandSPX.lands_againZ fl3 fun h4 fl4 up4 => ?_
    have J4 : Inv X pins σ' H' { s' with heap := h4 } := J.landed nb fl4.1 ((up.trans up3).trans up4) os ag
    obtain ⟨o4, v4, g4, z4, w4⟩ := fl4.there
    refine store_ok (X := X.suite a ((a, o4) :: (X.pn ++ pins))) (v := .ref a) (J4.suite g4 w4 na nL nF) hN hi (.inl hln) rfl (fun s5 S5 => ?_) (.inr hln)
    refine wpAny_mono ((hsu a o4 cls d (X.pn ++ pins) z4 ⟨_, w4⟩).run [] s5 _ H' _ S5 (m2 a na)) (fun f s6 q6 => ?_) (fun _ _ z => False.elim z)
    have fin : ∀ {σ6 : L2.St} {H6 : Hp} {Q : Shared → Prop}, Inv (X.suite a ((a, o4) :: (X.pn ++ pins))) [] σ6 H6 s6 → (∀ s7, Inv X pins (σ6.set i none) H6 s7 → Q s7) →
        wpAny (model X.prog X.w) X.A (do bindName X.env n .none; unbindBehindTheSuite X.env n pos') (fun _ s7 => Q s7) X.xe s6 := fun S6 hq => gone_ok (S6.unsuite I.ok) hN hi hln hq
    cases f with
    | ret u =>
      obtain ⟨v6, σ6, H6, S6, r6, q6⟩ := q6
      exact fin S6 fun s7 J7 => ⟨_, _, _, J7, r6, q6⟩
    | next => obtain ⟨σ6, H6, S6, q6⟩ := q6; exact fin S6 fun s7 J7 => ⟨_, _, J7, q6⟩
    | brk => obtain ⟨σ6, H6, S6, q6⟩ := q6; exact fin S6 fun s7 J7 => ⟨_, _, J7, q6⟩
    | cont => obtain ⟨σ6, H6, S6, q6⟩ := q6; exact fin S6 fun s7 J7 => ⟨_, _, J7, q6⟩
  · cases f with
    | ret u => obtain ⟨v, σ', H', J', r, q⟩ := q1; exact ⟨v, σ', H', J'.ofTry I.ok, r, q⟩
    | next => obtain ⟨σ', H', J', q⟩ := q1; exact wpAny_execs_nil ⟨σ', H', J'.ofTry I.ok, q⟩
    | brk => obtain ⟨σ', H', J', q⟩ := q1; exact ⟨σ', H', J'.ofTry I.ok, q⟩
    | cont => obtain ⟨σ', H', J', q⟩ := q1; exact ⟨σ', H', J'.ofTry I.ok, q⟩
end
def THeardZ (C C2 : Addr) (fld m1 m2 m3 : Str) : (XK → Hp → VK → Prop) → Hp → VK → Prop := fun tl H Q =>
  tl (fun cls d H' => (cls = .ref C2 ∧ NewT H' Q [.str m3]) ∨ cls = .ref C ∧ ∃ dd i, d = some dd ∧ H' dd = some (.xd [(fld, .int i)]) ∧ NewT H' Q [.str m2, .int i]) H (fun v H' => [V.str m1, v].length ≤ sizeLine ∧ NewT H' Q [.str m1, v])
theorem heard_givesZ {X : Cx} {tl : TL} {Ng : List Str} {x a e q y y2 fld m1 m2 m3 : Str} {sg : Scope} {g C C2 : Addr} {cdg : Value} {j1 j2 j3 k1 k2 k3 : _} {i : Nat} {hds : List ExceptHandler} {p1 p2 p3 p4 p5 p6 p7 p8 p9 p10 p11 p12 p13 p14 p15 p16 p17 p18 : Pos}
    (cl : ErrD (X.D tl) X.mg y C fld) (cl2 : ClsD (X.D tl) X.mg y2 C2) (hne : PySem.W.exmOne X.K (.ref C2) (.ref C) = some false) (hge2 : sg.names.lookup y2 = some .globalImplicit) (hde2 : (y2 == ("__debug__" : Str)) = false) (hge : sg.names.lookup y = some .globalImplicit) (hde : (y == ("__debug__" : Str)) = false) (hN : Ng.Nodup) (hi : Ng[i]? = some e) (hln : sg.names.lookup e = some .local) (hd : (e == ("__debug__" : Str)) = false) (hcd : (e == ("__classdict__" : Str)) = false) (h0 : ∀ f : Addr, (L2.start Ng [V.ref f])[0]? = some (some (V.ref f))) :
    GivesTo X Ng x sg g cdg [.Try [.Return (some (.Tuple [.Constant (.str m1) j1 p1, .Call (.Name a p2) [] [] p3] k1 p4)) p5] (.ExceptHandler (some (.Name y p6)) (some e) [.Return (some (.Tuple [.Constant (.str m2) j2 p7, .Attribute (.Name e p8) fld p9] k2 p10)) p11] p12 :: .ExceptHandler (some (.Name y2 p14)) none [.Return (some (.Tuple [.Constant (.str m3) j3 p15] k3 p16)) p17] p18 :: hds) [] [] p13] a q (THeardZ C C2 fld m1 m2 m3) := by
  intro f c' s H Q tla act hco h
  have hgl2 : Gl (cxOf C8.CX0 X.prog X.w X.K X.mg X.base Ng x sg g cdg X.A X.stack s H C8.E0).nox y2 := hge2
  have hgl : Gl (cxOf C8.CX0 X.prog X.w X.K X.mg X.base Ng x sg g cdg X.A X.stack s H C8.E0).nox y := hge
  refine ⟨_, pss_one (ps_try_two (X := (cxOf C8.CX0 X.prog X.w X.K X.mg X.base Ng x sg g cdg X.A X.stack s H C8.E0).nox) (c := .ref C) (c2 := .ref C2) (i := i)
      (tb := fun W D σ H => ∃ Ech : XK, (∀ cls d σ' H', Ech cls d H' → σ'.length = Ng.length → W cls d σ' H') ∧ σ[0]? = some (some (.ref f)) ∧ H c' = some (CodeO c' q) ∧ tla Ech H fun v H' => [V.str m1, v].length ≤ sizeLine ∧ NewT H' D.rt [.str m1, v])
      rfl rfl hN hi hln ⟨hgl, hde, .inl cl.g⟩ ⟨hgl2, hde2, .inl cl2.g⟩ (fun W pn xe tk => ?_) (fun a oe cls d pn hz hf => pss_one (ps_ret (pe_tupF (pa_cons pe_str (pa_cons (pe_xf cl.xf cl.no hz hf (pe_var (i := i) hi (.inl hln) hd hcd)) pa_nil)))))
      (fun a oe cls d pn hz hf => pss_one (ps_ret (pe_tupF (pa_cons pe_str pa_nil))))), ?_⟩
  · refine ⟨fun pins s' σ H' D I h' => ?_⟩
    obtain ⟨Ech, hW, h1, h2, h3⟩ := h'
    have hp := act (fun cls d σ' H' => σ'.length = Ng.length → W cls d σ' H') pn xe Ech p2 p3 (takes_len tk) (fun cls d σ' H' he hl => hW cls d σ' H' he hl)
    have hq := pss_one (ps_ret (pos := p5) (pe_tupF (x1 := k1) (pos := p4) (pa_cons (pe_str (x := m1) (j := j1) (pos := p1)) (pa_cons hp pa_nil))))
    exact hq.run pins s' σ H' D I ⟨h1, h2, h3⟩
  · refine ⟨fun cls d H' => (cls = .ref C2 ∧ NewT H' Q [.str m3]) ∨ cls = .ref C ∧ ∃ dd i, d = some dd ∧ H' dd = some (.xd [(fld, .int i)]) ∧ NewT H' Q [.str m2, .int i], ?_, h0 f, hco, h⟩
    rintro cls d σ' H' (⟨rfl, hn⟩ | ⟨rfl, dd, iv, rfl, hx, hn⟩) hl
    · exact .inl ⟨hne, cl2.m, fun a ha => ⟨by rw [sizeLine_eq]; show 1 ≤ _; decide, hn⟩⟩
    refine .inr ⟨cl.m, fun a ha => ?_⟩
    have hlt : i < σ'.length := by
      rw [hl]
      exact (List.getElem?_eq_some_iff.mp hi).1
    refine ⟨.ref a, by rw [List.getElem?_set_self hlt], rfl, rfl, dd, _, .int iv, rfl, hx, by simp [List.lookup], by rw [sizeLine_eq]; show 2 ≤ _; decide, hn⟩
/-- the def that hears, as it stands at the top -/
def OkHZ (K : Fg) (mg : Str → Option Value) (x : Str) (C C2 : Addr) (fld m1 m2 m3 : Str) : Prop :=
  ∃ (a : Str) (g : Addr) (pg : Arguments) (bg : List Stmt) (sg : Scope) (dV kV doc pm cdv ct oc : Value) (an od : Option Addr) (osl : Array (Option Value)) (Ng : List Str), mg x = some (.ref g) ∧ PySem.W.keepIn K (.ref g) = true ∧ K.K.lookup g = some ⟨oc, od, .func (PySem.W.fnOf x x pg bg sg dV kV doc pm an cdv ct), osl⟩ ∧ PySem.W.codeIn K cdv x = true ∧
    L2.Binds K (PySem.W.fnOf x x pg bg sg dV kV doc pm an cdv ct) [a] [] ∧ FnScope Ng [a] sg ∧ Ng[0]? = some a ∧ Vis sg a ∧ (a == ("__debug__" : Str)) = false ∧ (a == ("__classdict__" : Str)) = false ∧ ∀ (X : Cx) (q : Str), X.K = K.K → X.mg = mg → GivesTo X Ng x sg g cdv bg a q (THeardZ C C2 fld m1 m2 m3)
theorem OkHZ.mk {K : Fg} {mg : Str → Option Value} {x a e y y2 fld m1 m2 m3 : Str} {st : Stmt} {g C C2 : Addr} {dV kV doc pm cdv ct oc : Value} {an od : Option Addr} {osl : Array (Option Value)} {Ng : List Str} {i : Nat} {hds : List ExceptHandler} {j1 j2 j3 k1 k2 k3 : _} {p1 p2 p3 p4 p5 p6 p7 p8 p9 p10 p11 p12 p13 p14 p15 p16 p17 p18 : Pos}
    (hm : mg x = some (.ref g)) (hk : PySem.W.keepIn K (.ref g) = true) (l : K.K.lookup g = some ⟨oc, od, .func (PySem.W.fnOf x x (defArgs st) (defBody st) (defScope st) dV kV doc pm an cdv ct), osl⟩) (c : PySem.W.codeIn K cdv x = true)
    (b : L2.Binds K (PySem.W.fnOf x x (defArgs st) (defBody st) (defScope st) dV kV doc pm an cdv ct) [a] []) (S : FnScope Ng [a] (defScope st)) (n0 : Ng[0]? = some a)
    (cl : ErrD K mg y C fld) (cl2 : ClsD K mg y2 C2) (hne : PySem.W.exmOne K (.ref C2) (.ref C) = some false)
    (hb : defBody st = [.Try [.Return (some (.Tuple [.Constant (.str m1) j1 p1, .Call (.Name a p2) [] [] p3] k1 p4)) p5] (.ExceptHandler (some (.Name y p6)) (some e) [.Return (some (.Tuple [.Constant (.str m2) j2 p7, .Attribute (.Name e p8) fld p9] k2 p10)) p11] p12 :: .ExceptHandler (some (.Name y2 p14)) none [.Return (some (.Tuple [.Constant (.str m3) j3 p15] k3 p16)) p17] p18 :: hds) [] [] p13])
    (hge : (defScope st).names.lookup y = some .globalImplicit) (hge2 : (defScope st).names.lookup y2 = some .globalImplicit) (hi : Ng[i]? = some e) (hln : (defScope st).names.lookup e = some .local) (i0 : 0 < i)
    (v0 : Vis (defScope st) a := by first | exact Or.inl rfl | exact Or.inr (Or.inl rfl) | exact Or.inr (Or.inr rfl))
    (d1 : (a == ("__debug__" : Str)) = false := by decide) (d2 : (a == ("__classdict__" : Str)) = false := by decide) (d3 : (y == ("__debug__" : Str)) = false := by decide) (d6 : (y2 == ("__debug__" : Str)) = false := by decide) (d4 : (e == ("__debug__" : Str)) = false := by decide) (d5 : (e == ("__classdict__" : Str)) = false := by decide) :
    OkHZ K mg x C C2 fld m1 m2 m3 := by
  refine ⟨a, g, defArgs st, defBody st, defScope st, dV, kV, doc, pm, cdv, ct, oc, an, od, osl, Ng, hm, hk, l, c, b, S, n0, v0, d1, d2, fun X q hK hM => ?_⟩
  rw [hb]
  have cl' : ErrD (X.D K.T) X.mg y C fld := by
    have e1 : X.D K.T = K := by show (⟨X.K, K.T⟩ : Fg) = K; rw [hK]
    rw [e1, hM]; exact cl
  have cl2' : ClsD (X.D K.T) X.mg y2 C2 := by
    have e1 : X.D K.T = K := by show (⟨X.K, K.T⟩ : Fg) = K; rw [hK]
    rw [e1, hM]; exact cl2
  refine heard_givesZ cl' cl2' (by rw [hK]; exact hne) hge2 d6 hge d3 S.nd hi hln d4 d5 fun f => ?_
  rw [start_get]
  simp
end DL
end
set_option maxHeartbeats 1000000
noncomputable section
namespace DL
open PySem PySem.Spec PyProof.Rows L2 LamX
end DL
end
set_option maxHeartbeats 1000000
noncomputable section
namespace DL
open PySem PySem.Spec PyProof.Rows L2 LamX
end DL
end
set_option maxHeartbeats 1000000
noncomputable section
namespace DL
open PySem PySem.Spec PyProof.Rows L2 LamX
end DL
end
set_option maxHeartbeats 1000000
noncomputable section
namespace DL
open PySem PySem.Spec PyProof.Rows L2 LamX
section
variable {K : Fg} {P B L E : List Addr} {σ : L2.St} {ρ ρ' ρ0 : DL.Env} {H H' : Hp}
/-- the new object of a comprehension, shut out, is written -/
theorem writePO {D : Addr} {o : HO} (ho : OwnO o) (R : Rep K P B L σ ρ H) (hD : D ∈ P) : Rep K P B L σ ρ (upd H D o) ∧ (∀ {v : V} {d : PyData}, Dq K H (P ++ B ++ L) v d → Dq K (upd H D o) (P ++ B ++ L) v d) ∧ ∀ {vs : List (Key × V)} {ds : List (PyData × PyData)}, DqK K H (P ++ B ++ L) vs ds → DqK K (upd H D o) (P ++ B ++ L) vs ds := by
  have hl : Lists H [D] := fun b z => by
    rw [show b = D by simpa using z]
    exact R.wl D (mem3.mpr (.inl hD))
  have hs : ∀ b ∈ [D], b ∈ P ++ B ++ L := fun b z => (show b = D by simpa using z) ▸ mem3.mpr (.inl hD)
  obtain ⟨us0, hh, ou⟩ := R.wl D (mem3.mpr (.inl hD))
  have kw : Keep [D] H (upd H D o) := keep_wrD hh ou
  have mv : ∀ {v : V} {d : PyData}, Dq K H (P ++ B ++ L) v d → Dq K (upd H D o) (P ++ B ++ L) v d := fun h => h.move hl hs kw fun b z => .inl z
  have mvA : ∀ {v : List V} {d : List PyData}, DqA K H (P ++ B ++ L) v d → DqA K (upd H D o) (P ++ B ++ L) v d := fun h => h.move hl hs kw fun b z => .inl z
  refine ⟨⟨R.len, fun b hb => ?_, R.nd, fun i => ?_, R.inj, kw.tab _ R.tabs⟩, mv, fun h => h.move hl hs kw fun b z => .inl z⟩
  · by_cases z : b = D
    · exact ⟨_, by rw [z]; exact upd_same, ho⟩
    · obtain ⟨us, q, ou⟩ := R.wl b hb
      exact ⟨us, by rw [upd_ne z]; exact q, ou⟩
  · have q := R.ok i
    have nd := R.nd.1 D hD
    revert q
    generalize ρ.getD i .no = c
    intro q
    cases c with
    | no => trivial
    | cl d => obtain ⟨v, e2, h⟩ := q; exact ⟨v, e2, mv h⟩
    | op fs =>
      obtain ⟨b, us, e2, h1, h2, h3⟩ := q
      exact ⟨b, us, e2, h1, by rw [upd_ne fun z => nd.2 (by rw [← z]; exact h1)]; exact h2, mvA h3⟩
    | pm fs =>
      obtain ⟨b, us, e2, h1, h2, h3⟩ := q
      exact ⟨b, us, e2, h1, by rw [upd_ne fun z => nd.1 (by rw [← z]; exact h1)]; exact h2, mvA h3⟩
    | dk t fs =>
      obtain ⟨b, us, e2, h1, h2, h3⟩ := q
      exact ⟨b, us, e2, h1, by rw [upd_ne fun z => nd.2 (by rw [← z]; exact h1)]; exact h2, h3.move hl hs kw fun b z => .inl z⟩
end
end DL
end
set_option maxHeartbeats 1000000
noncomputable section
namespace ZE
open PySem PySem.Spec PyProof.Rows L2
end ZE
end
set_option maxHeartbeats 1000000
noncomputable section
namespace ZE
open PySem PySem.Spec PyProof.Rows L2
/-- a zip's record, its two first fields open -/
abbrev ZRec (h : Heap) (z TI TO : Addr) (f0 : Value) (f : Bool) : Prop :=
  h.get? z = some { cls := .type "zip", dict := none, data := .fields #[f0, .bool f, .bool false, .ref TI, .ref TO], slots := #[] }
end ZE
end
set_option maxHeartbeats 1000000
noncomputable section
namespace ZE
open PySem PySem.Spec PyProof.Rows L2
/-- between two turns, whatever became of the zip's tuple -/
def ZTw (b1 b2 : Bool) (a1 a2 z TI TO i1 i2 : Addr) (i : Nat) (h : Heap) : Prop := IsTupOf2 h TI (.ref i1) (.ref i2) ∧ (∃ x y, IsTupOf2 h TO x y) ∧ ItB b1 h i1 a1 i ∧ ItB b2 h i2 a2 i ∧ (IsZip h z TI TO .none ∨ ∃ (T : Addr) (f : Bool), ZRec h z TI TO (rawInt ((T : Nat) : Int)) f)
section
variable {b1 b2 : Bool} {a1 a2 z TI TO i1 i2 : Addr} {i : Nat} {h h' : Heap}
theorem ZTw.at (t : ZTw b1 b2 a1 a2 z TI TO i1 i2 i h) (k : ∀ c ∈ [z, TI, TO, i1, i2], ∀ o, h.get? c = some o → h'.get? c = some o) : ZTw b1 b2 a1 a2 z TI TO i1 i2 i h' := by
  obtain ⟨t1, ⟨x, y, t2⟩, t3, t4, t5⟩ := t
  refine ⟨k TI (by simp) _ t1, ⟨x, y, k TO (by simp) _ t2⟩, t3.at fun o e => k i1 (by simp) o e, t4.at fun o e => k i2 (by simp) o e, ?_⟩
  rcases t5 with t5 | ⟨T, f, t5⟩
  · exact .inl (k z (by simp) _ t5)
  · exact .inr ⟨T, f, k z (by simp) _ t5⟩
end
end ZE
end
set_option maxHeartbeats 1000000
noncomputable section
namespace ZE
open PySem PySem.Spec PyProof.Rows L2
end ZE
namespace DL
open PySem PySem.Spec PyProof.Rows L2 ZE
end DL
end
noncomputable section
namespace DL
open PySem PySem.Spec PyProof.Rows L2
end DL
end
noncomputable section
namespace DL
open PySem PySem.Spec PyProof.Rows L2 LamX
end DL
end
noncomputable section
namespace DL
open PySem PySem.Spec PyProof.Rows L2 LamX
section
variable {prog : Program} {w : World} {A : Around} {E : Value → Shared → Prop} {s : Shared}
/-- what a[j] gives, wherever all of the heap still stands: the whole number i -/
def GivesAt (prog : Program) (w : World) (A : Around) (h : Heap) (a : Addr) (j i : Int) : Prop := ∀ (s' : Shared) (u : Tok) (E : Value → Shared → Prop) (Q : Value → Shared → Prop), (∀ b o, h.get? b = some o → s'.heap.get? b = some o) →
  (∀ t tk, Q (.int i t) { s' with toks := tk }) → ∃ T id, s'.TypeIs (.ref a) T ∧ typeLookup (.type T) "__getitem__" = pure (some (.builtin id)) ∧ wpAny (model prog w) A (getItem (.ref a) (.int j u)) Q E s'
theorem GivesAt.mono {h h' : Heap} {a : Addr} {j i : Int} (g : GivesAt prog w A h a j i) (kp : ∀ b o, h.get? b = some o → h'.get? b = some o) : GivesAt prog w A h' a j i := fun s' u E Q k q => g s' u E Q (fun b o e => k b o (kp b o e)) q
end
end DL
end
noncomputable section
namespace DL
open PySem PySem.Spec PyProof.Rows L2 LamX
end DL
end
noncomputable section
namespace DL
open PySem PySem.Spec PyProof.Rows L2 LamX
end DL
end
noncomputable section
namespace DL
open PySem PySem.Spec PyProof.Rows L2
end DL
end
set_option maxHeartbeats 1000000
noncomputable section
namespace DL
open PySem PySem.Spec PyProof.Rows L2 LamX
end DL
end
set_option maxHeartbeats 1000000
noncomputable section
namespace DL
open PySem PySem.Spec PyProof.Rows L2 LamX
structure SwO (H H2 : Hp) (d : Addr) (es : List (NestedKey × Addr × V)) : Prop where
  out : ∀ b, b ≠ d → H2 b = H b
  a : Rd H d (DicO d es)
  b : Rd H2 d (DicO d es)
theorem SwO.not {H H2 : Hp} {d : Addr} {es : List (NestedKey × Addr × V)} (s : SwO H H2 d es) {a : Addr} {u : HO} (h : H a = some u) (hu : ∀ o, u ≠ .frz o (DicO d es)) (hv : u ≠ DicO d es) : H2 a = some u := by
  rw [s.out a, h]
  rintro rfl
  rcases s.a with z | ⟨o, z⟩
  · rw [h] at z
    exact hv (Option.some.inj z)
  · rw [h] at z
    exact hu o (Option.some.inj z)
section
variable {K : Fg} {H H2 : Hp} {W : List Addr} {d : Addr} {es : List (NestedKey × Addr × V)}
theorem SwO.lst (s : SwO H H2 d es) {a : Addr} {xs : List V} (h : H a = some (.lst xs)) : H2 a = some (.lst xs) := s.not h (fun o z => nomatch z) fun z => nomatch z
theorem SwO.tup (s : SwO H H2 d es) {a : Addr} {xs : List V} (h : TupD H a xs) : TupD H2 a xs := by
  obtain ⟨o, h, p⟩ := h
  exact ⟨o, s.not h (fun o2 z => by injection z with _ z; exact nomatch z) (fun z => nomatch z), p⟩
theorem SwO.dic (s : SwO H H2 d es) {a : Addr} {ks : List (Key × V)} (h : DicD H a ks) : DicD H2 a ks := by
  refine ⟨?_⟩
  rcases h.rd with h | ⟨o, h⟩
  · exact .inl (s.not h (fun o z => nomatch z) fun z => nomatch z)
  · exact .inr ⟨o, s.not h (fun o2 z => by injection z with _ z; exact nomatch z) fun z => nomatch z⟩
theorem SwO.dit (s : SwO H H2 d es) {a : Addr} {es2 : List (NestedKey × Addr × V)} (h : DitD H a es2) : DitD H2 a es2 := by
  by_cases e : a = d
  · subst e
    rcases s.a with z | ⟨o, z⟩ <;> rcases h.rd with y | ⟨o2, y⟩ <;> rw [y] at z <;> injection z with z
    · exact ⟨by rw [z]; exact s.b⟩
    · exact nomatch z
    · exact nomatch z
    · injection z with _ z
      exact ⟨by rw [z]; exact s.b⟩
  · refine ⟨?_⟩
    unfold Rd
    rw [s.out a e]
    exact h.rd
theorem SwO.tabs (s : SwO H H2 d es) {T : TL} (t : Tabs T H) : Tabs T H2 := fun p hp => TabS.extB (t p hp) fun b o e h => s.not e (fun o2 z => by
  rcases h with ⟨ps, h⟩ | ⟨c, q, h⟩
  · rw [z] at h; cases h
  · rw [z] at h; exact nomatch h) fun z => by
  rcases h with ⟨ps, h⟩ | ⟨c, q, h⟩
  · rw [z] at h; cases h
  · rw [z] at h; exact dic_not_code h
variable {P B L E : List Addr} {σ : L2.St} {ρ : DL.Env}
end
end DL
end
set_option maxHeartbeats 1000000
noncomputable section
namespace DL
open PySem PySem.Spec PyProof.Rows L2 LamX
section
variable {K : Fg} {P B L : List Addr} {σ : L2.St} {ρ : DL.Env} {H : Hp}
theorem DqT.get {W : List Addr} : ∀ {es : List (NestedKey × Addr × V)} {ds : List (PyData × PyData)} {i : Nat} {p : PyData × PyData}, DqT K H W es ds → ds[i]? = some p → ∃ k b v, es[i]? = some (k, b, v) ∧ Dq K H W (.ref b) p.1 ∧ nkey p.1 = some k ∧ Dq K H W v p.2
  | _, _, 0, _, .cons h1 h2 h3 h4 h5, e => by cases e; exact ⟨_, _, _, rfl, h1, h2, h4⟩
  | _, _, i + 1, _, .cons h1 h2 h3 h4 h5, e => DqT.get (i := i) h5 e
end
end DL
end
set_option maxHeartbeats 1000000
noncomputable section
namespace DL
open PySem PySem.Spec PyProof.Rows L2 LamX
end DL
end
set_option maxHeartbeats 1000000
noncomputable section
namespace DL
open PySem PySem.Spec PyProof.Rows L2 LamX
def lookE (es : List (NestedKey × Addr × V)) (k : NestedKey) : Option V := (es.find? fun x => decide (x.1 = k)).map (·.2.2)
end DL
end
set_option maxHeartbeats 1000000
noncomputable section
namespace DL
open PySem PySem.Spec PyProof.Rows L2 LamX
end DL
end
set_option maxHeartbeats 1000000
noncomputable section
namespace DL
open PySem PySem.Spec PyProof.Rows L2
/-- i -> 5 i + 1, without the mask -/
def it5 : Nat → Nat → Nat
  | i, 0 => i
  | i, n + 1 => it5 i n * 5 + 1
theorem it5_add (i : Nat) (a : Nat) : ∀ b, it5 i (a + b) = it5 (it5 i a) b
  | 0 => rfl
  | b + 1 => by
    show it5 i (a + b) * 5 + 1 = it5 (it5 i a) b * 5 + 1
    rw [it5_add i a b]
/-- two to the k steps add an odd number of two to the k -/
theorem it5_pow : ∀ k, ∃ c, ∀ i, it5 i (2 ^ k) = i + 2 ^ k * (2 * c + 1) * (4 * i + 1)
  | 0 => ⟨0, fun i => by show i * 5 + 1 = _; omega⟩
  | k + 1 => by
    obtain ⟨c, h⟩ := it5_pow k
    have e2 : (2 : Nat) ^ (k + 1) = 2 ^ k + 2 ^ k := by rw [Nat.pow_succ]; omega
    refine ⟨c + (2 * c + 1) * (2 ^ k * (2 * c + 1)), fun i => ?_⟩
    rw [e2, it5_add, h i, h]
    generalize 2 ^ k = p
    grind
theorem it5_all : ∀ (k i j : Nat), ∃ n, n < 2 ^ k ∧ it5 i n % 2 ^ k = j % 2 ^ k
  | 0, i, j => ⟨0, by decide, by rw [Nat.pow_zero, Nat.mod_one, Nat.mod_one]⟩
  | k + 1, i, j => by
    obtain ⟨n, hn, e⟩ := it5_all k i j
    have e2 : (2 : Nat) ^ (k + 1) = 2 * 2 ^ k := by rw [Nat.pow_succ]; omega
    have hp : 0 < (2 : Nat) ^ k := Nat.pow_pos (by decide)
    obtain ⟨c, hc⟩ := it5_pow k
    have h2 := hc (it5 i n)
    rw [← it5_add] at h2
    have odd : ∃ q, it5 i (n + 2 ^ k) = it5 i n + (2 ^ k * (2 * q) + 2 ^ k) := ⟨c * (4 * it5 i n + 1) + 2 * it5 i n, by
      rw [h2]
      generalize 2 ^ k = p
      generalize it5 i n = x
      grind⟩
    obtain ⟨q, hq⟩ := odd
    have md : ∀ z : Nat, z % (2 * 2 ^ k) = z % 2 ^ k ∨ z % (2 * 2 ^ k) = z % 2 ^ k + 2 ^ k := fun z => by
      rw [Nat.mul_comm, Nat.mod_mul]
      rcases Nat.mod_two_eq_zero_or_one (z / 2 ^ k) with y | y
      · left; rw [y]; omega
      · right; rw [y]; omega
    have hx := md (it5 i n)
    have hj := md j
    have dx := Nat.div_add_mod (it5 i n) (2 * 2 ^ k)
    have lt : j % 2 ^ k < 2 ^ k := Nat.mod_lt _ hp
    rw [e] at hx
    rw [e2]
    have ym : ∀ (X r : Nat), it5 i (n + 2 ^ k) = 2 * 2 ^ k * X + r → r < 2 * 2 ^ k → it5 i (n + 2 ^ k) % (2 * 2 ^ k) = r := fun X r h hr => by
      rw [h, Nat.mul_add_mod, Nat.mod_eq_of_lt hr]
    generalize it5 i n / (2 * 2 ^ k) = X at dx
    rcases hx with hx | hx <;> rcases hj with hj | hj
    · exact ⟨n, by omega, by rw [hx, hj]⟩
    · refine ⟨n + 2 ^ k, by omega, ?_⟩
      rw [hj]
      refine ym (X + q) _ ?_ (by omega)
      rw [hq, ← dx, hx]
      generalize 2 ^ k = p
      grind
    · refine ⟨n + 2 ^ k, by omega, ?_⟩
      rw [hj]
      refine ym (X + q + 1) _ ?_ (by omega)
      rw [hq, ← dx, hx]
      generalize 2 ^ k = p
      grind
    · exact ⟨n, by omega, by rw [hx, hj]⟩
/-- the masks of sets of at most 4000 rows -/
def Msk (m : Nat) : Prop := m = 7 ∨ m = 31 ∨ m = 127 ∨ m = 511 ∨ m = 2047 ∨ m = 8191
theorem Msk.pow {m : Nat} (h : Msk m) : ∃ k, m + 1 = 2 ^ k := by
  rcases h with rfl | rfl | rfl | rfl | rfl | rfl
  · exact ⟨3, rfl⟩
  · exact ⟨5, rfl⟩
  · exact ⟨7, rfl⟩
  · exact ⟨9, rfl⟩
  · exact ⟨11, rfl⟩
  · exact ⟨13, rfl⟩
theorem lcg_it {m i : Nat} : ∀ n, lcgI m i n % (m + 1) = it5 i n % (m + 1)
  | 0 => rfl
  | n + 1 => by
    show (lcgI m i n * 5 + 1) % (m + 1) % (m + 1) = (it5 i n * 5 + 1) % (m + 1)
    rw [Nat.mod_mod, Nat.add_mod, Nat.mul_mod, lcg_it n, ← Nat.mul_mod, ← Nat.add_mod]
theorem lcg_le {m i : Nat} (h : i ≤ m) : ∀ n, lcgI m i n ≤ m
  | 0 => h
  | n + 1 => Nat.le_of_lt_succ (Nat.mod_lt _ (Nat.succ_pos _))
theorem run_to {m : Nat} (hm : Msk m) (h : Int) {j : Nat} (hj : j ≤ m) : ∃ n, n ≤ m + 12 ∧ runI m (SetTable.bits h) n = j := by
  obtain ⟨k, e⟩ := hm.pow
  obtain ⟨n, hn, en⟩ := it5_all k (runI m (SetTable.bits h) 12) j
  rw [← e] at hn en
  refine ⟨12 + n, by omega, ?_⟩
  have l := lcg_le (runI_le m (SetTable.bits h) 12) n
  rw [runI_tail (bits_lt h), ← Nat.mod_eq_of_lt (Nat.lt_succ_of_le l)]
  show lcgI m _ n % (m + 1) = j
  rw [lcg_it, en, Nat.mod_eq_of_lt (Nat.lt_succ_of_le hj)]
theorem way_to {m : Nat} (hm : Msk m) (h : Int) {j : Nat} (hj : j ≤ m) : ∃ k, k < 10 * SetTable.turns m ∧ way m h k = j := by
  obtain ⟨n, hn, e⟩ := run_to hm h hj
  obtain ⟨k, hk, e2⟩ := run_nth m (SetTable.bits h) n
  refine ⟨k, by unfold SetTable.turns; omega, ?_⟩
  show (nth m _ k).j = j
  rw [e2]
  exact e
theorem way_in {m : Nat} {h : Int} {k : Nat} : way m h k ≤ m := by
  have b : SetTable.bits h % (m + 1) ≤ m := Nat.le_of_lt_succ (Nat.mod_lt _ (Nat.succ_pos _))
  have r := runEnd_bd b
  have := nth_in (m := m) k (runAt m (SetTable.bits h % (m + 1)) (SetTable.bits h)) (by
    show SetTable.bits h % (m + 1) + (SetTable.runEnd m (SetTable.bits h % (m + 1)) - SetTable.bits h % (m + 1)) ≤ m
    omega)
  show (nth m _ k).j ≤ m
  omega
/-- a table of n rows -/
structure Tb (t : SetTable) (n : Nat) : Prop where
  ris : Ris t.place.toList
  dm : t.dummies = #[]
  sz : t.place.size = n
  msk : Msk t.mask
  bd : ∀ x ∈ t.place.toList, x ≤ t.mask
theorem Tb.first {t : SetTable} {n : Nat} (T : Tb t n) (hn : n ≤ t.mask) (h : Int) : ∃ K, K < 10 * SetTable.turns t.mask ∧ way t.mask h K ∉ t.place.toList ∧ ∀ k, k < K → way t.mask h k ∈ t.place.toList := by
  obtain ⟨j, hj, hn⟩ := st_missing t.place.toList (t.mask + 1) (by rw [Array.length_toList, T.sz]; omega)
  obtain ⟨k, hk, e⟩ := way_to T.msk h (Nat.le_of_lt_succ hj)
  obtain ⟨K, k1, k2, k3⟩ := st_least (p := fun k => way t.mask h k ∉ t.place.toList) k (by rw [e]; exact hn)
  exact ⟨K, by omega, k2, fun c hc => Classical.byContradiction (k3 c hc)⟩
theorem free_to {m : Nat} (hm : Msk m) (owner : Array (Option Nat)) (h : Int) {j : Nat} (hj : j ≤ m) (hf : oAt owner j = none) :
    ∃ i, SetTable.layClean.free m owner (SetTable.turns m) (SetTable.bits h % (m + 1)) (SetTable.bits h) = some i ∧ oAt owner i = none ∧ i ≤ m := by
  obtain ⟨n, hn, e⟩ := run_to hm h hj
  have g : oAt owner (way m h (off m (SetTable.bits h % (m + 1)) (SetTable.bits h) n)) = none := by
    show oAt owner (nth m (runAt m _ _) (off m _ _ n)).j = none
    rw [nth_off, itL_run]
    show oAt owner (runI m (SetTable.bits h) n) = none
    rw [e, hf]
  obtain ⟨K, k1, k2, k3⟩ := st_least (p := fun k => oAt owner (way m h k) = none) _ g
  refine ⟨_, free_spec m owner (SetTable.turns m) n _ _ K (by unfold SetTable.turns; omega) k1 (fun c hc => ?_) (by rw [show oAt owner (nth m _ K).j = none from k2]; rfl), k2, way_in⟩
  have := k3 c hc
  cases z : oAt owner (nth m (runAt m (SetTable.bits h % (m + 1)) (SetTable.bits h)) c).j with
  | none => exact absurd z this
  | some _ => rfl
/-- the slots of the rows laid so far, in their order -/
structure Lay (m : Nat) (ps : List Nat) (owner : Array (Option Nat)) : Prop where
  sz : owner.size = m + 1
  nd : ps.Nodup
  bd : ∀ j ∈ ps, j ≤ m
  has : ∀ k j, ps[k]? = some j → oAt owner j = some k
  non : ∀ j, j ≤ m → j ∉ ps → oAt owner j = none
theorem Lay.more {m : Nat} (hm : Msk m) {ps : List Nat} {owner : Array (Option Nat)} (W : Lay m ps owner) (hl : ps.length ≤ m) (h : Int) :
    ∃ j, SetTable.layClean.free m owner (SetTable.turns m) (SetTable.bits h % (m + 1)) (SetTable.bits h) = some j ∧ Lay m (ps ++ [j]) (owner.setIfInBounds j (some ps.length)) := by
  obtain ⟨j0, h0, n0⟩ := st_missing ps (m + 1) (by omega)
  obtain ⟨j, e, ej, hj⟩ := free_to hm owner h (Nat.le_of_lt_succ h0) (W.non j0 (Nat.le_of_lt_succ h0) n0)
  have nj : j ∉ ps := fun z => by
    obtain ⟨k, hk, z⟩ := List.getElem_of_mem z
    have := W.has k j (by rw [List.getElem?_eq_getElem hk, z])
    rw [ej] at this
    cases this
  refine ⟨j, e, ?_, ?_, ?_, ?_, ?_⟩
  · rw [Array.size_setIfInBounds]; exact W.sz
  · rw [List.nodup_append]
    exact ⟨W.nd, by simp, fun a ha b hb z => nj (by rw [← List.mem_singleton.mp hb, ← z]; exact ha)⟩
  · intro i hi
    rcases List.mem_append.mp hi with z | z
    · exact W.bd i z
    · rw [List.mem_singleton.mp z]; exact hj
  · intro k i hk
    rw [List.getElem?_append] at hk
    split at hk
    · rename_i hlt
      have : i ≠ j := fun z => nj (by rw [← z]; exact List.mem_of_getElem? hk)
      rw [oAt_set_ne _ this]
      exact W.has k i hk
    · rename_i hlt
      have k0 : k - ps.length = 0 := by
        have := (List.getElem?_eq_some_iff.mp hk).1
        rw [List.length_singleton] at this
        omega
      rw [k0] at hk
      have : j = i := by simpa using hk
      rw [← this, oAt_set_self _ (by rw [W.sz]; omega)]
      congr 1
      omega
  · intro i hi hni
    rw [List.mem_append, not_or, List.mem_singleton] at hni
    rw [oAt_set_ne _ hni.2]
    exact W.non i hi hni.1
theorem Lay.all {m : Nat} (hm : Msk m) : ∀ (hs : List Int) (ps : List Nat) (owner : Array (Option Nat)), Lay m ps owner → ps.length + hs.length ≤ m →
    ∃ ps2 owner2, hs.foldl (stepF m) (some (owner, ps.length)) = some (owner2, ps2.length) ∧ Lay m ps2 owner2 ∧ ps2.length = ps.length + hs.length
  | [], ps, owner, W, _ => ⟨ps, owner, rfl, W, rfl⟩
  | h :: hs, ps, owner, W, hl => by
    rw [List.length_cons] at hl
    obtain ⟨j, e, W2⟩ := W.more hm (by omega) h
    have l2 : (ps ++ [j]).length = ps.length + 1 := by simp
    obtain ⟨ps2, owner2, e2, W3, l3⟩ := Lay.all hm hs _ _ W2 (by omega)
    refine ⟨ps2, owner2, ?_, W3, by rw [l3, l2, List.length_cons]; omega⟩
    rw [List.foldl_cons, stepF_some e, ← l2]
    exact e2
end DL
end
set_option maxHeartbeats 3200000
noncomputable section
namespace DL
open PySem PySem.Spec PyProof.Rows L2
structure SetB (P : Program) (w : World) (h : Heap) (a : Addr) (L : List (Addr × List Int)) (es : Array (Int × Value)) (ep : Nat) (t : SetTable) : Prop where
  ob : ∃ o, h.get? a = some o ∧ o.ExactSet ∧ o.data = .set es ep t
  rows : es.toList = L2.rowsOf P w L
  tab : Tb t L.length
  nd : (L.map (·.2)).Nodup
  tup : ∀ p ∈ L, IsT P w h p.2 p.1
  plain : t.plain = true
  led : w.params.followText "set-order" = true ∨ t.led = true
  room : L.length * 5 < t.mask * 3
  few : L.length ≤ 4000
end DL
end
set_option maxHeartbeats 3200000
noncomputable section
namespace DL
open PySem PySem.Spec PyProof.Rows L2
end DL
end
set_option maxHeartbeats 3200000
noncomputable section
namespace DL
open PySem PySem.Spec PyProof.Rows L2
section
variable {P : Program} {w : World} {A : Around} {E : Value → Shared → Prop} {s : Shared}
theorem SetB.keep {h h' : Heap} {a : Addr} {L : List (Addr × List Int)} {es : Array (Int × Value)} {ep : Nat} {t : SetTable} (R : SetB P w h a L es ep t) (ha : ∀ o, h.get? a = some o → h'.get? a = some o) (ht : ∀ p ∈ L, IsT P w h' p.2 p.1) : SetB P w h' a L es ep t := by
  obtain ⟨o, ho, r⟩ := R.ob
  exact ⟨⟨o, ha o ho, r⟩, R.rows, R.tab, R.nd, ht, R.plain, R.led, R.room, R.few⟩
end
end DL
end
set_option maxHeartbeats 3200000
noncomputable section
namespace DL
open PySem PySem.Spec PyProof.Rows L2
end DL
end
set_option maxHeartbeats 1000000
noncomputable section
namespace DL
open PySem PySem.Spec PyProof.Rows L2
/-- a slot is the hash's: all slots ahead on its way are taken -/
def Hit (m : Nat) (taken : Nat → Prop) (h : Int) (j : Nat) : Prop := ∃ K, way m h K = j ∧ ∀ c, c < K → taken (way m h c)
theorem Hit.mono {m : Nat} {p q : Nat → Prop} {h : Int} {j : Nat} (x : Hit m p h j) (i : ∀ c, c ≤ m → p c → q c) : Hit m q h j := by
  obtain ⟨K, a, b⟩ := x
  exact ⟨K, a, fun c hc => i _ way_in (b c hc)⟩
structure Tc (t : SetTable) (hs : List Int) : Prop where
  tb : Tb t hs.length
  hit : ∀ (i : Nat) (h : Int) (j : Nat), hs[i]? = some h → t.place.toList[i]? = some j → Hit t.mask (· ∈ t.place.toList) h j
theorem free_hit {m : Nat} (hm : Msk m) (owner : Array (Option Nat)) (h : Int) {j : Nat} (hj : j ≤ m) (hf : oAt owner j = none) :
    ∃ i, SetTable.layClean.free m owner (SetTable.turns m) (SetTable.bits h % (m + 1)) (SetTable.bits h) = some i ∧ oAt owner i = none ∧ i ≤ m ∧ Hit m (fun c => oAt owner c ≠ none) h i := by
  obtain ⟨n, hn, e⟩ := run_to hm h hj
  have g : oAt owner (way m h (off m (SetTable.bits h % (m + 1)) (SetTable.bits h) n)) = none := by
    show oAt owner (nth m (runAt m _ _) (off m _ _ n)).j = none
    rw [nth_off, itL_run]
    show oAt owner (runI m (SetTable.bits h) n) = none
    rw [e, hf]
  obtain ⟨K, k1, k2, k3⟩ := st_least (p := fun k => oAt owner (way m h k) = none) _ g
  refine ⟨_, free_spec m owner (SetTable.turns m) n _ _ K (by unfold SetTable.turns; omega) k1 (fun c hc => ?_) (by rw [show oAt owner (nth m _ K).j = none from k2]; rfl), k2, way_in, K, rfl, k3⟩
  have := k3 c hc
  cases z : oAt owner (nth m (runAt m (SetTable.bits h % (m + 1)) (SetTable.bits h)) c).j with
  | none => exact absurd z this
  | some _ => rfl
structure LayC (m : Nat) (hs : List Int) (ps : List Nat) (owner : Array (Option Nat)) : Prop where
  lay : Lay m ps owner
  len : ps.length = hs.length
  hit : ∀ (k j : Nat) (h : Int), ps[k]? = some j → hs[k]? = some h → Hit m (fun c => oAt owner c ≠ none) h j
theorem LayC.more {m : Nat} (hm : Msk m) {hs : List Int} {ps : List Nat} {owner : Array (Option Nat)} (W : LayC m hs ps owner) (hl : ps.length ≤ m) (h : Int) :
    ∃ j, SetTable.layClean.free m owner (SetTable.turns m) (SetTable.bits h % (m + 1)) (SetTable.bits h) = some j ∧ LayC m (hs ++ [h]) (ps ++ [j]) (owner.setIfInBounds j (some ps.length)) := by
  obtain ⟨j0, h0, n0⟩ := st_missing ps (m + 1) (by omega)
  obtain ⟨i, e, ei, hi, hh⟩ := free_hit hm owner h (Nat.le_of_lt_succ h0) (W.lay.non j0 (Nat.le_of_lt_succ h0) n0)
  obtain ⟨j, e2, W2⟩ := W.lay.more hm hl h
  obtain rfl : i = j := Option.some.inj (e.symm.trans e2)
  have up : ∀ c, c ≤ m → oAt owner c ≠ none → oAt (owner.setIfInBounds i (some ps.length)) c ≠ none := fun c _ hc => by
    by_cases z : c = i
    · rw [z, ei] at hc
      exact absurd rfl hc
    · rw [oAt_set_ne _ z]
      exact hc
  refine ⟨i, e, W2, by simp [W.len], fun k j g h1 h2 => ?_⟩
  rw [List.getElem?_append] at h1 h2
  split at h1
  · rename_i lt
    rw [if_pos (by rw [← W.len]; exact lt)] at h2
    exact (W.hit k j g h1 h2).mono up
  · rename_i lt
    rw [if_neg (by rw [← W.len]; exact lt)] at h2
    have k0 : k - ps.length = 0 := by
      have := (List.getElem?_eq_some_iff.mp h1).1
      rw [List.length_singleton] at this
      omega
    rw [← W.len, k0] at h2
    rw [k0] at h1
    have e3 : i = j := by simpa using h1
    have e4 : h = g := by simpa using h2
    rw [← e3, ← e4]
    exact hh.mono up
theorem LayC.all {m : Nat} (hm : Msk m) : ∀ (gs hs : List Int) (ps : List Nat) (owner : Array (Option Nat)), LayC m hs ps owner → ps.length + gs.length ≤ m →
    ∃ ps2 owner2, gs.foldl (stepF m) (some (owner, ps.length)) = some (owner2, ps2.length) ∧ LayC m (hs ++ gs) ps2 owner2
  | [], hs, ps, owner, W, _ => ⟨ps, owner, rfl, by rw [List.append_nil]; exact W⟩
  | h :: gs, hs, ps, owner, W, hl => by
    rw [List.length_cons] at hl
    obtain ⟨j, e, W2⟩ := W.more hm (by omega) h
    have l2 : (ps ++ [j]).length = ps.length + 1 := by simp
    obtain ⟨ps2, owner2, e2, W3⟩ := LayC.all hm gs _ _ _ W2 (by omega)
    refine ⟨ps2, owner2, ?_, by rw [List.append_assoc] at W3; exact W3⟩
    rw [List.foldl_cons, stepF_some e, ← l2]
    exact e2
end DL
end
set_option maxHeartbeats 3200000
noncomputable section
namespace DL
open PySem PySem.Spec PyProof.Rows L2
structure SetC (P : Program) (w : World) (h : Heap) (a : Addr) (L : List (Addr × List Int)) (es : Array (Int × Value)) (ep : Nat) (t : SetTable) : Prop where
  ob : ∃ o, h.get? a = some o ∧ o.ExactSet ∧ o.data = .set es ep t
  rows : es.toList = L2.rowsOf P w L
  tab : Tc t (L.map fun p => thash P w p.2)
  nd : (L.map (·.2)).Nodup
  tup : ∀ p ∈ L, IsT P w h p.2 p.1
  plain : t.plain = true
  led : w.params.followText "set-order" = true ∨ t.led = true
  room : L.length * 5 < t.mask * 3
  few : L.length ≤ 4000
end DL
end
set_option maxHeartbeats 3200000
noncomputable section
namespace DL
open PySem PySem.Spec PyProof.Rows L2
section
variable {P : Program} {w : World} {A : Around} {E : Value → Shared → Prop} {s : Shared}
theorem SetC.keep {h h' : Heap} {a : Addr} {L : List (Addr × List Int)} {es : Array (Int × Value)} {ep : Nat} {t : SetTable} (R : SetC P w h a L es ep t) (ha : ∀ o, h.get? a = some o → h'.get? a = some o) (ht : ∀ p ∈ L, IsT P w h' p.2 p.1) : SetC P w h' a L es ep t := by
  obtain ⟨o, ho, r⟩ := R.ob
  exact ⟨⟨o, ha o ho, r⟩, R.rows, R.tab, R.nd, ht, R.plain, R.led, R.room, R.few⟩
end
end DL
end
set_option maxHeartbeats 3200000
noncomputable section
namespace DL
open PySem PySem.Spec PyProof.Rows L2
end DL
end
set_option maxHeartbeats 1000000
noncomputable section
namespace DL
open PySem PySem.Spec PyProof.Rows L2 LamX
end DL
end
set_option maxHeartbeats 1000000
noncomputable section
namespace DL
open PySem PySem.Spec PyProof.Rows L2 LamX
def dT (ps : List (PyData × PyData)) : PyData := .dict [(.none, .list (ps.map prD))]
def unPs : List PyData → Option (List (PyData × PyData))
  | [] => some []
  | .tuple [a, b] :: r => (unPs r).map fun ps => (a, b) :: ps
  | _ :: _ => none
def asT : PyData → Option (List (PyData × PyData))
  | .dict [(.none, .list l)] => unPs l
  | _ => none
@[simp] theorem unPs_map : ∀ ps : List (PyData × PyData), unPs (ps.map prD) = some ps
  | [] => rfl
  | p :: ps => by
    rw [List.map_cons]
    show (unPs (ps.map prD)).map _ = _
    rw [unPs_map ps]
    rfl
@[simp] theorem asT_dT (ps : List (PyData × PyData)) : asT (dT ps) = some ps := unPs_map ps
section
variable {X : Cx} {tl : TL} {pins : List (Addr × Obj)} {s : Shared} {σ : L2.St} {H : Hp} {W : List Addr} {a : Addr} {es : List (NestedKey × Addr × V)} {ds : List (PyData × PyData)}
/-- a key and a dict of such keys -/
def KeyO (tl : TL) (X : Cx) (H : Hp) (a : Addr) (y : V) (o : Option V) : Prop := ∃ es ds W b dk k, y = .ref b ∧ Rd H a (DicO a es) ∧ DqT (X.D tl) H W es ds ∧ Dq (X.D tl) H W (.ref b) dk ∧ nkey dk = some k ∧ k.depth ≤ 8 ∧ lookE es k = o
def rIxT (tl : TL) (X : Cx) : R2 := fun x y H Q => ∃ a v, x = .ref a ∧ KeyO tl X H a y (some v) ∧ Q v H
end
end DL
end
set_option maxHeartbeats 1000000
noncomputable section
namespace DL
open PySem PySem.Spec PyProof.Rows L2 LamX
end DL
end
set_option maxHeartbeats 1000000
noncomputable section
namespace DL
open PySem PySem.Spec PyProof.Rows L2 LamX
end DL
end
set_option maxHeartbeats 1000000
noncomputable section
namespace DL
open PySem PySem.Spec PyProof.Rows L2 LamX
end DL
end
set_option maxHeartbeats 1000000
noncomputable section
namespace DL
open PySem PySem.Spec PyProof.Rows L2 LamX
end DL
end
set_option maxHeartbeats 1000000
noncomputable section
namespace DL
open PySem PySem.Spec PyProof.Rows L2 LamX
end DL
end
set_option maxHeartbeats 1000000
noncomputable section
namespace DL
open PySem PySem.Spec PyProof.Rows L2 LamX
end DL
end
set_option maxHeartbeats 1000000
noncomputable section
namespace DL
open PySem PySem.Spec PyProof.Rows L2 LamX
end DL
end
set_option maxHeartbeats 2000000
noncomputable section
namespace DL
open PySem PySem.Spec PyProof.Rows L2 LamX
abbrev ErT := Nat × PyData
def BearsY (K : Fg) (W : List Addr) (f : Option Str) (i : PyData) (d : Option Addr) (H : Hp) : Prop := match f with
  | some fld => ∃ dd v, d = some dd ∧ H dd = some (.xd [(fld, v)]) ∧ Dq K H W v i
  | none => d = none
theorem BearsY.sub {K : Fg} {W W' : List Addr} {f : Option Str} {i : PyData} {d : Option Addr} {H : Hp} (h : BearsY K W f i d H) (s : ∀ a ∈ W', a ∈ W) : BearsY K W' f i d H := by
  cases f with
  | none => exact h
  | some fld =>
    obtain ⟨dd, v, h1, h2, h3⟩ := h
    exact ⟨dd, v, h1, h2, h3.sub s⟩
def ErY (K : Fg) (ks : EKs) (E : XK) (P B L : List Addr) (H : Hp) (er : ErT) : Prop := ∃ C f, ks[er.1]? = some (C, f) ∧ ∀ L' H' d, Step B L H L' H' → BearsY K P f er.2 d H' → E (.ref C) d H'
theorem ErY.less {K : Fg} {ks : EKs} {E : XK} {P P' B L : List Addr} {H : Hp} {er : ErT} (h : ErY K ks E P B L H er) (s : ∀ a ∈ P, a ∈ P') : ErY K ks E P' B L H er := by
  obtain ⟨C, f, h1, h2⟩ := h
  exact ⟨C, f, h1, fun L' H' d s2 q => h2 L' H' d s2 (q.sub s)⟩
theorem ErY.after {K : Fg} {ks : EKs} {E : XK} {P B L L1 : List Addr} {H H1 : Hp} {er : ErT} (h : ErY K ks E P B L H er) (s : Step B L H L1 H1) : ErY K ks E P B L1 H1 er := by
  obtain ⟨C, f, h1, h2⟩ := h
  exact ⟨C, f, h1, fun L' H' d s2 q => h2 L' H' d (s.trans s2) q⟩
abbrev EY := DL.Env → Option ((Val × DL.Env) ⊕ ErT)
abbrev AY := DL.Env → Option ((List Val × DL.Env) ⊕ ErT)
abbrev TY := DL.Env → Option ((Bool × DL.Env) ⊕ ErT)
abbrev SY := DL.Env → Option (Out ⊕ ErT)
abbrev FY := List PyData → Option (Val ⊕ ErT)
section
variable (K : Fg) (ks : EKs) (E : XK)
def EOkY (P B L : List Addr) (H : Hp) (D : Ends) : Out ⊕ ErT → Prop
  | .inl o => OutOk K P B L H D o
  | .inr er => ErY K ks E P B L H er
def RSY (g : SY) : TS := fun D σ H => ∃ P B L ρ o, Rep K P B L σ ρ H ∧ g ρ = some o ∧ EOkY K ks E P B L H D o
def spY (n : Nat) (G : FY) : Sp := fun vs H Q E => vs.length = n ∧ ∃ P ds o, (Lists H P ∧ DL.Tabs K.T H) ∧ DqA K H P vs ds ∧ G ds = some o ∧ match o with
  | .inl r => ∀ x H' E', Keep [] H H' → RRes K P H H' E' x r → Q x H'
  | .inr er => ∃ C f, ks[er.1]? = some (C, f) ∧ ∀ H' d, Keep [] H H' → BearsY K P f er.2 d H' → E (.ref C) d H'
end
theorem EOkY.after {K : Fg} {ks : EKs} {E : XK} {P B L La : List Addr} {H Ha : Hp} {D : Ends} {o : Out ⊕ ErT} (h : EOkY K ks E P B L H D o) (s : Step B L H La Ha) : EOkY K ks E P B La Ha D o := by
  cases o with
  | inl o => exact OutOk.after h s
  | inr er => exact ErY.after h s
def purY (f : ED) : EY := fun ρ => (f ρ).map .inl
def purAY (t : AD) : AY := fun ρ => (t ρ).map .inl
def purFY (F : FP) : FY := fun ds => (F ds).map .inl
def callY (n : Nat) (G : FY) (t : AY) : EY := fun ρ => (t ρ).bind fun o => match o with
  | .inr er => some (.inr er)
  | .inl p => (psAll p.2 p.1).bind fun q => if q.1.length = n then (G q.1).bind fun o2 => match o2 with
    | .inr er => some (.inr er)
    | .inl r => some (.inl (if flatV' r = true then (r, p.2) else (r, q.2)))
    else none
def purTY (c : TD) : TY := fun ρ => (c ρ).map .inl
def setY (i : Nat) (f : EY) : SY := fun ρ => (f ρ).bind fun o => match o with
  | .inr er => some (.inr er)
  | .inl p => (stV p.2 i p.1).map fun ρ' => .inl (.nx ρ')
def pureY (g : SD) : SY := fun ρ => (g ρ).map .inl
def raiseY (j : Nat) (f : ED) : SY := fun ρ => (f ρ).bind fun p => match p.1 with
  | .cl d => some (.inr (j, d))
  | _ => none
def runY (N : Nat) (g : SY) : FY := fun ds => (g (argE N ds)).bind fun o => match o with
  | .inr er => some (.inr er)
  | .inl (.rt r ρ') => (retV ρ' r).map .inl
  | .inl (.nx _) => some (.inl (.cl .none))
  | _ => none
section
variable {K : Fg} {ks : EKs} {E : XK} {σ : L2.St} {H : Hp} {Q : VK} {D : Ends}
theorem rsy_runY {N : List Str} {n : Nat} {g : SY} {vs : List V} (hN : n ≤ N.length) (h : spY K ks n (runY N.length g) vs H Q E) : RSY K ks E g { nx := fun _ H' => Q .non H', rt := Q } (L2.start N vs) H := by
  obtain ⟨hn, P, ds, r, hl, dq, e, k⟩ := h
  obtain ⟨o, e1, e2⟩ := Option.bind_eq_some_iff.mp e
  have hlen := dq.length
  refine ⟨P, [], [], argE N.length ds, o, rep_argE hl dq (by omega), e1, ?_⟩
  have hP : ∀ a ∈ P ++ [], H a ≠ none := fun a z => by
    obtain ⟨vs, q, _⟩ := hl.1 a (by simpa using z)
    rw [q]; exact fun y => nomatch y
  have eP : P ++ [] = P := by simp
  cases o with
  | inr er =>
    cases e2
    obtain ⟨C, f, k1, k2⟩ := k
    exact ⟨C, f, k1, fun L' H' d s q => k2 H' d (by simpa using s.keep) q⟩
  | inl o =>
    cases o with
    | nx ρ' =>
      cases e2
      exact fun σ' H' L' R s => k _ H' [] (by simpa using s.keep) ⟨rfl, .non⟩
    | rt r' ρ' =>
      obtain ⟨v2, e3, rfl⟩ := Option.map_eq_some_iff.mp e2
      refine fun σ' x H' L' E' R s f v => ?_
      obtain ⟨E2, _, q⟩ := res_of R f (fun a z => (s.lsub a z).elim (fun y => nomatch y) id) hP v e3
      rw [eP] at q
      exact k x H' E2 (by simpa using s.keep) q
    | ct ρ' => cases e2
    | bk ρ' => cases e2
end
/-- a def that may raise errors of these kinds -/
def OkY (P : Program) (w : World) (K : Fg) (mg : Str → Option Value) (base : Heap) (k : Nat) (x : Str) (ps : List Str) (n : Nat) (ks : EKs) (G : FY) : Prop :=
  ∃ f fd, FnG P w K mg base (L2.CX P w) k f fd ps (spY K ks n G) ∧ mg x = some (.ref f) ∧ PySem.W.keepIn K (.ref f) = true ∧ Binds K fd ps []
section
variable {P : Program} {w : World} {K : Fg} {mg : Str → Option Value} {base : Heap} {k n j : Nat} {x : Str} {ps N : List Str} {ks : EKs} {st : Stmt} {g : SY}
theorem OkY.of (D : Def K mg x st ps) (S : FnScope N ps (defScope st)) (hn : ps.length = n) (hN : n ≤ N.length)
    (hb : ∀ (f : Addr) (cdv : Value) (A : Around) (outer : List PySem.Env) (s : Shared) (H : Hp) (E : XK), (A.deeper (envOfC x (defScope st) s.heap.objs.size f cdv)).guards = some [] → Room k (A.deeper (envOfC x (defScope st) s.heap.objs.size f cdv)) →
      Takes (cxOf (L2.CX P w) P w K mg base N x (defScope st) f cdv A outer s H E) (fun cls d _ H => E cls d H) → PSs (cxOf (L2.CX P w) P w K mg base N x (defScope st) f cdv A outer s H E) (defBody st) (RSY K ks E g)) : OkY P w K mg base (k + 1) x ps n ks (runY N.length g) := by
  obtain ⟨f, fd, F, h1, h2, h3⟩ := D.ex
  exact ⟨f, fd, FnG.body F S (fun vs H Q E h => h.1.trans hn.symm) (fun cdv A outer s H vs Q E _ hA hr h => ⟨_, hb f cdv A outer s H E hA hr (takes_of rfl rfl rfl rfl), rsy_runY hN h⟩), h1, h2, h3⟩
end
def THeardY (C C2 : Addr) (fld m1 m2 m3 : Str) : (XK → Hp → VK → Prop) → Hp → VK → Prop := fun tl H Q =>
  tl (fun cls d H' => (cls = .ref C2 ∧ NewT H' Q [.str m3]) ∨ cls = .ref C ∧ ∃ dd v, d = some dd ∧ H' dd = some (.xd [(fld, v)]) ∧ NewT H' Q [.str m2, v]) H (fun v H' => [V.str m1, v].length ≤ sizeLine ∧ NewT H' Q [.str m1, v])
theorem heard_givesY {X : Cx} {tl : TL} {Ng : List Str} {x a e q y y2 fld m1 m2 m3 : Str} {sg : Scope} {g C C2 : Addr} {cdg : Value} {j1 j2 j3 k1 k2 k3 : _} {i : Nat} {hds : List ExceptHandler} {p1 p2 p3 p4 p5 p6 p7 p8 p9 p10 p11 p12 p13 p14 p15 p16 p17 p18 : Pos}
    (cl : ErrD (X.D tl) X.mg y C fld) (cl2 : ClsD (X.D tl) X.mg y2 C2) (hne : PySem.W.exmOne X.K (.ref C2) (.ref C) = some false) (hge2 : sg.names.lookup y2 = some .globalImplicit) (hde2 : (y2 == ("__debug__" : Str)) = false) (hge : sg.names.lookup y = some .globalImplicit) (hde : (y == ("__debug__" : Str)) = false) (hN : Ng.Nodup) (hi : Ng[i]? = some e) (hln : sg.names.lookup e = some .local) (hd : (e == ("__debug__" : Str)) = false) (hcd : (e == ("__classdict__" : Str)) = false) (h0 : ∀ f : Addr, (L2.start Ng [V.ref f])[0]? = some (some (V.ref f))) :
    GivesTo X Ng x sg g cdg [.Try [.Return (some (.Tuple [.Constant (.str m1) j1 p1, .Call (.Name a p2) [] [] p3] k1 p4)) p5] (.ExceptHandler (some (.Name y p6)) (some e) [.Return (some (.Tuple [.Constant (.str m2) j2 p7, .Attribute (.Name e p8) fld p9] k2 p10)) p11] p12 :: .ExceptHandler (some (.Name y2 p14)) none [.Return (some (.Tuple [.Constant (.str m3) j3 p15] k3 p16)) p17] p18 :: hds) [] [] p13] a q (THeardY C C2 fld m1 m2 m3) := by
  intro f c' s H Q tla act hco h
  have hgl2 : Gl (cxOf C8.CX0 X.prog X.w X.K X.mg X.base Ng x sg g cdg X.A X.stack s H C8.E0).nox y2 := hge2
  have hgl : Gl (cxOf C8.CX0 X.prog X.w X.K X.mg X.base Ng x sg g cdg X.A X.stack s H C8.E0).nox y := hge
  refine ⟨_, pss_one (ps_try_two (X := (cxOf C8.CX0 X.prog X.w X.K X.mg X.base Ng x sg g cdg X.A X.stack s H C8.E0).nox) (c := .ref C) (c2 := .ref C2) (i := i)
      (tb := fun W D σ H => ∃ Ech : XK, (∀ cls d σ' H', Ech cls d H' → σ'.length = Ng.length → W cls d σ' H') ∧ σ[0]? = some (some (.ref f)) ∧ H c' = some (CodeO c' q) ∧ tla Ech H fun v H' => [V.str m1, v].length ≤ sizeLine ∧ NewT H' D.rt [.str m1, v])
      rfl rfl hN hi hln ⟨hgl, hde, .inl cl.g⟩ ⟨hgl2, hde2, .inl cl2.g⟩ (fun W pn xe tk => ?_) (fun a oe cls d pn hz hf => pss_one (ps_ret (pe_tupF (pa_cons pe_str (pa_cons (pe_xf cl.xf cl.no hz hf (pe_var (i := i) hi (.inl hln) hd hcd)) pa_nil)))))
      (fun a oe cls d pn hz hf => pss_one (ps_ret (pe_tupF (pa_cons pe_str pa_nil))))), ?_⟩
  · refine ⟨fun pins s' σ H' D I h' => ?_⟩
    obtain ⟨Ech, hW, h1, h2, h3⟩ := h'
    have hp := act (fun cls d σ' H' => σ'.length = Ng.length → W cls d σ' H') pn xe Ech p2 p3 (takes_len tk) (fun cls d σ' H' he hl => hW cls d σ' H' he hl)
    have hq := pss_one (ps_ret (pos := p5) (pe_tupF (x1 := k1) (pos := p4) (pa_cons (pe_str (x := m1) (j := j1) (pos := p1)) (pa_cons hp pa_nil))))
    exact hq.run pins s' σ H' D I ⟨h1, h2, h3⟩
  · refine ⟨fun cls d H' => (cls = .ref C2 ∧ NewT H' Q [.str m3]) ∨ cls = .ref C ∧ ∃ dd v, d = some dd ∧ H' dd = some (.xd [(fld, v)]) ∧ NewT H' Q [.str m2, v], ?_, h0 f, hco, h⟩
    rintro cls d σ' H' (⟨rfl, hn⟩ | ⟨rfl, dd, iv, rfl, hx, hn⟩) hl
    · exact .inl ⟨hne, cl2.m, fun a ha => ⟨by rw [sizeLine_eq]; show 1 ≤ _; decide, hn⟩⟩
    refine .inr ⟨cl.m, fun a ha => ?_⟩
    have hlt : i < σ'.length := by
      rw [hl]
      exact (List.getElem?_eq_some_iff.mp hi).1
    refine ⟨.ref a, by rw [List.getElem?_set_self hlt], rfl, rfl, dd, _, iv, rfl, hx, by simp [List.lookup], by rw [sizeLine_eq]; show 2 ≤ _; decide, hn⟩
/-- the def that hears, as it stands at the top -/
def OkHY (K : Fg) (mg : Str → Option Value) (x : Str) (C C2 : Addr) (fld m1 m2 m3 : Str) : Prop :=
  ∃ (a : Str) (g : Addr) (pg : Arguments) (bg : List Stmt) (sg : Scope) (dV kV doc pm cdv ct oc : Value) (an od : Option Addr) (osl : Array (Option Value)) (Ng : List Str), mg x = some (.ref g) ∧ PySem.W.keepIn K (.ref g) = true ∧ K.K.lookup g = some ⟨oc, od, .func (PySem.W.fnOf x x pg bg sg dV kV doc pm an cdv ct), osl⟩ ∧ PySem.W.codeIn K cdv x = true ∧
    L2.Binds K (PySem.W.fnOf x x pg bg sg dV kV doc pm an cdv ct) [a] [] ∧ FnScope Ng [a] sg ∧ Ng[0]? = some a ∧ Vis sg a ∧ (a == ("__debug__" : Str)) = false ∧ (a == ("__classdict__" : Str)) = false ∧ ∀ (X : Cx) (q : Str), X.K = K.K → X.mg = mg → GivesTo X Ng x sg g cdv bg a q (THeardY C C2 fld m1 m2 m3)
def heardY (n : Nat) (G : FY) (t : AD) (m1 m2 m3 : Str) : ED := fun ρ => (t ρ).bind fun p => (psAll p.2 p.1).bind fun q => if q.1.length = n then (G q.1).bind fun o => match o with
  | .inl (.cl d) => some (.cl (.tuple [.str m1, d]), q.2)
  | .inl (.own ds) => some (.cl (.tuple [.str m1, .list ds]), q.2)
  | .inl (.sl _) => none
  | .inr (0, i) => some (.cl (.tuple [.str m2, i]), q.2)
  | .inr (1, _) => some (.cl (.tuple [.str m3]), q.2)
  | .inr (_ + 2, _) => none
  else none
theorem OkHY.mk {K : Fg} {mg : Str → Option Value} {x a e y y2 fld m1 m2 m3 : Str} {st : Stmt} {g C C2 : Addr} {dV kV doc pm cdv ct oc : Value} {an od : Option Addr} {osl : Array (Option Value)} {Ng : List Str} {i : Nat} {hds : List ExceptHandler} {j1 j2 j3 k1 k2 k3 : _} {p1 p2 p3 p4 p5 p6 p7 p8 p9 p10 p11 p12 p13 p14 p15 p16 p17 p18 : Pos}
    (hm : mg x = some (.ref g)) (hk : PySem.W.keepIn K (.ref g) = true) (l : K.K.lookup g = some ⟨oc, od, .func (PySem.W.fnOf x x (defArgs st) (defBody st) (defScope st) dV kV doc pm an cdv ct), osl⟩) (c : PySem.W.codeIn K cdv x = true)
    (b : L2.Binds K (PySem.W.fnOf x x (defArgs st) (defBody st) (defScope st) dV kV doc pm an cdv ct) [a] []) (S : FnScope Ng [a] (defScope st)) (n0 : Ng[0]? = some a)
    (cl : ErrD K mg y C fld) (cl2 : ClsD K mg y2 C2) (hne : PySem.W.exmOne K (.ref C2) (.ref C) = some false)
    (hb : defBody st = [.Try [.Return (some (.Tuple [.Constant (.str m1) j1 p1, .Call (.Name a p2) [] [] p3] k1 p4)) p5] (.ExceptHandler (some (.Name y p6)) (some e) [.Return (some (.Tuple [.Constant (.str m2) j2 p7, .Attribute (.Name e p8) fld p9] k2 p10)) p11] p12 :: .ExceptHandler (some (.Name y2 p14)) none [.Return (some (.Tuple [.Constant (.str m3) j3 p15] k3 p16)) p17] p18 :: hds) [] [] p13])
    (hge : (defScope st).names.lookup y = some .globalImplicit) (hge2 : (defScope st).names.lookup y2 = some .globalImplicit) (hi : Ng[i]? = some e) (hln : (defScope st).names.lookup e = some .local) (i0 : 0 < i)
    (v0 : Vis (defScope st) a := by first | exact Or.inl rfl | exact Or.inr (Or.inl rfl) | exact Or.inr (Or.inr rfl))
    (d1 : (a == ("__debug__" : Str)) = false := by decide) (d2 : (a == ("__classdict__" : Str)) = false := by decide) (d3 : (y == ("__debug__" : Str)) = false := by decide) (d6 : (y2 == ("__debug__" : Str)) = false := by decide) (d4 : (e == ("__debug__" : Str)) = false := by decide) (d5 : (e == ("__classdict__" : Str)) = false := by decide) :
    OkHY K mg x C C2 fld m1 m2 m3 := by
  refine ⟨a, g, defArgs st, defBody st, defScope st, dV, kV, doc, pm, cdv, ct, oc, an, od, osl, Ng, hm, hk, l, c, b, S, n0, v0, d1, d2, fun X q hK hM => ?_⟩
  rw [hb]
  have cl' : ErrD (X.D K.T) X.mg y C fld := by
    have e1 : X.D K.T = K := by show (⟨X.K, K.T⟩ : Fg) = K; rw [hK]
    rw [e1, hM]; exact cl
  have cl2' : ClsD (X.D K.T) X.mg y2 C2 := by
    have e1 : X.D K.T = K := by show (⟨X.K, K.T⟩ : Fg) = K; rw [hK]
    rw [e1, hM]; exact cl2
  refine heard_givesY cl' cl2' (by rw [hK]; exact hne) hge2 d6 hge d3 S.nd hi hln d4 d5 fun f => ?_
  rw [start_get]
  simp
end DL
end
set_option maxHeartbeats 1000000
noncomputable section
namespace DL
open PySem PySem.Spec PyProof.Rows L2 LamX
end DL
end
set_option maxHeartbeats 1000000
noncomputable section
namespace DL
open PySem PySem.Spec PyProof.Rows L2 LamX
end DL
end
set_option maxHeartbeats 1000000
noncomputable section
namespace DL
open PySem PySem.Spec PyProof.Rows L2 LamX
end DL
end
set_option maxHeartbeats 1000000
noncomputable section
namespace DL
open PySem PySem.Spec PyProof.Rows L2 LamX
theorem fm_dq {K : Fg} {H : Hp} {W : List Addr} {vs : List V} {ds : List PyData} (h : DqA K H W vs ds) : ∀ ix : List Nat, DqA K H W (ix.filterMap (vs[·]?)) (ix.filterMap (ds[·]?))
  | [] => .nil
  | i :: ix => by
    rw [List.filterMap_cons, List.filterMap_cons]
    have hl := h.length
    by_cases q : i < ds.length
    · have e : ds[i]? = some ds[i] := List.getElem?_eq_getElem q
      obtain ⟨v, e2, hv⟩ := h.get e
      rw [e, e2]
      exact .cons hv (fm_dq h ix)
    · rw [List.getElem?_eq_none (by omega), List.getElem?_eq_none (by omega)]
      exact fm_dq h ix
theorem fm_vals {vs : List V} {us : List Value} (h : Vals vs us) : ∀ ix : List Nat, Vals (ix.filterMap (vs[·]?)) (ix.filterMap (us[·]?))
  | [] => .nil
  | i :: ix => by
    rw [List.filterMap_cons, List.filterMap_cons]
    have hl := h.length
    by_cases q : i < vs.length
    · have e : vs[i]? = some vs[i] := List.getElem?_eq_getElem q
      obtain ⟨u, e2, hv⟩ := h.get e
      rw [e, e2]
      exact .cons hv (fm_vals h ix)
    · rw [List.getElem?_eq_none (by omega), List.getElem?_eq_none (by omega)]
      exact fm_vals h ix
end DL
end
set_option maxHeartbeats 1000000
noncomputable section
namespace DL
open PySem PySem.Spec PyProof.Rows L2 LamX
end DL
end
set_option maxHeartbeats 1000000
noncomputable section
namespace DL
open PySem PySem.Spec PyProof.Rows L2 LamX
end DL
end
set_option maxHeartbeats 1000000
noncomputable section
namespace DL
open PySem PySem.Spec PyProof.Rows L2 LamX
end DL
end
set_option maxHeartbeats 1000000
noncomputable section
namespace DL
open PySem PySem.Spec PyProof.Rows L2 LamX
end DL
end
set_option maxHeartbeats 1000000
noncomputable section
namespace DL
open PySem PySem.Spec PyProof.Rows L2 LamX HT
theorem fm_congr {α β : Type} {f g : α → Option β} : ∀ {l : List α}, (∀ x ∈ l, f x = g x) → l.filterMap f = l.filterMap g
  | [], _ => rfl
  | a :: l, h => by
    rw [List.filterMap_cons, List.filterMap_cons, h a (List.mem_cons_self ..), fm_congr fun x hx => h x (List.mem_cons_of_mem _ hx)]
theorem pick_all {α : Type} : ∀ ys : List α, (List.range ys.length).filterMap (fun (m : Nat) => ys[m]?) = ys
  | [] => rfl
  | y :: ys => by
    rw [List.length_cons, List.range_succ_eq_map, List.filterMap_cons, List.filterMap_map]
    show y :: _ = _
    congr 1
    exact pick_all ys
end DL
end
set_option maxHeartbeats 1000000
noncomputable section
namespace DL
open PySem PySem.Spec PyProof.Rows L2 LamX
def pickH {α : Type} (xs : List α) (a : Int) : List α := (sliceRange (sliceBounds none (some a) (some (-1)) xs.length).1 (sliceBounds none (some a) (some (-1)) xs.length).2.1 (sliceBounds none (some a) (some (-1)) xs.length).2.2).filterMap (xs[·]?)
theorem down_len {α : Type} {xs : List α} {a : Int} (ha : 0 ≤ a) : (pickH xs a).length ≤ xs.length := by
  unfold pickH
  have hk : ¬ ((some (-1 : Int)).getD 1 > 0) := by decide
  refine Nat.le_trans (List.length_filterMap_le ..) (sliceRange_length_le _ _ _ _ (fun h => absurd h hk) fun _ => ?_)
  constructor
  · show (if (some (-1 : Int)).getD 1 > 0 then (0 : Int) else (xs.length : Int) - 1) ≤ _
    rw [if_neg hk]
    exact Int.le_refl _
  · show -1 ≤ (if (some (-1 : Int)).getD 1 > 0 then max 0 (min (if a < 0 then a + (xs.length : Int) else a) (xs.length : Int)) else max (-1) (min (if a < 0 then a + (xs.length : Int) else a) ((xs.length : Int) - 1)))
    rw [if_neg hk]
    exact Int.le_max_left ..
theorem down_eq {α : Type} {xs : List α} {a : Nat} : pickH xs (a : Int) = (xs.drop (a + 1)).reverse := by
  unfold pickH
  have hk : ¬ ((some (-1 : Int)).getD 1 > 0) := by decide
  have e1 : (sliceBounds none (some (a : Int)) (some (-1)) xs.length).1 = (xs.length : Int) - 1 := by
    show (if (some (-1 : Int)).getD 1 > 0 then (0 : Int) else (xs.length : Int) - 1) = _
    rw [if_neg hk]
  have e2 : (sliceBounds none (some (a : Int)) (some (-1)) xs.length).2.1 = max (-1) (min (a : Int) ((xs.length : Int) - 1)) := by
    show (if (some (-1 : Int)).getD 1 > 0 then max 0 (min (if (a : Int) < 0 then (a : Int) + (xs.length : Int) else (a : Int)) (xs.length : Int)) else max (-1) (min (if (a : Int) < 0 then (a : Int) + (xs.length : Int) else (a : Int)) ((xs.length : Int) - 1))) = _
    rw [if_neg hk, if_neg (by omega)]
  have e3 : (sliceBounds none (some (a : Int)) (some (-1)) xs.length).2.2 = -1 := rfl
  rw [e1, e2, e3]
  obtain ⟨ys, hy⟩ : ∃ ys, ys = xs.drop (a + 1) := ⟨_, rfl⟩
  have hyl : ys.length = xs.length - (a + 1) := by rw [hy, List.length_drop]
  have er : sliceRange ((xs.length : Int) - 1) (max (-1) (min (a : Int) ((xs.length : Int) - 1))) (-1) = (List.range ys.length).map fun k => xs.length - 1 - k := by
    unfold sliceRange
    have h1 : ¬ ((-1 : Int) > 0) := by decide
    rw [if_neg h1]
    by_cases h : (xs.length : Int) - 1 > max (-1) (min (a : Int) ((xs.length : Int) - 1))
    · rw [if_pos h]
      have e : ((xs.length : Int) - 1 - (max (-1) (min (a : Int) ((xs.length : Int) - 1))) - -1 - 1) / (- -1) = (ys.length : Int) := by
        rw [show (- -1 : Int) = 1 by decide, Int.ediv_one]
        omega
      rw [e]
      show (List.range ((ys.length : Int)).toNat).map _ = _
      rw [Int.toNat_natCast]
      apply List.map_congr_left
      intro k hk
      have := List.mem_range.mp hk
      omega
    · rw [if_neg h]
      have e : ys.length = 0 := by omega
      rw [e]; rfl
  rw [er, List.filterMap_map]
  have e4 : (List.range ys.length).filterMap ((fun x => xs[x]?) ∘ fun k => xs.length - 1 - k) = (List.range ys.length).filterMap (fun m => ys.reverse[m]?) := by
    refine fm_congr fun m hm => ?_
    have hm' := List.mem_range.mp hm
    show xs[xs.length - 1 - m]? = _
    rw [List.getElem?_reverse hm', hy, List.getElem?_drop]
    congr 1
    rw [← hy]
    omega
  have e5 : ys.length = ys.reverse.length := (List.length_reverse).symm
  rw [← hy, e4, e5]
  exact pick_all _
theorem down_arr {its : List Value} {a : Int} : slicePick its.toArray none (some a) (some (-1)) = (pickH its a).toArray := by
  unfold slicePick pickH
  simp
theorem down_dq {K : Fg} {H : Hp} {W : List Addr} {vs : List V} {ds : List PyData} (h : DqA K H W vs ds) (a : Int) : DqA K H W (pickH vs a) (pickH ds a) := by
  unfold pickH
  rw [h.length]
  exact fm_dq h _
theorem down_vals {vs : List V} {us : List Value} (h : Vals vs us) (a : Int) : Vals (pickH vs a) (pickH us a) := by
  unfold pickH
  rw [h.length]
  exact fm_vals h _
def tDownL (K : PySem.W.Frag) (te : TE) (to : TO) : TE := fun σ H Q => te σ H fun x H1 => to σ H1 fun o H2 => ∃ a xs k, x = .ref a ∧ SqL K H2 a xs ∧ o = some k ∧ 0 ≤ k ∧ ∀ p, H2 p = none → Q (.ref p) (upd H2 p (.lst (pickH xs k)))
theorem pe_downL {X : Cx} {e : Expr} {hi : Option Expr} {te : TE} {to : TO} {k : Nat} {p1 p2 p3 pos : Pos} (he : PE X e te) (hh : PO X hi to) : PE X (.Subscript e (.Slice none hi (some (.UnaryOp .USub (.Constant (.int 1) k p1) p2)) p3) pos) (tDownL X.K te to) := by
  refine ⟨fun pins s σ H Q I h => ?_⟩
  refine Subscript_ (thn (he.run pins s σ H _ I h) fun v s1 ⟨x, H1, I1, r1, q1⟩ => ?_)
  have hst : PO X (some (.UnaryOp .USub (.Constant (.int 1) k p1) p2)) (tPart (tUn (rU fun i => .int (-i)) (tC (.int 1)))) := po_some (pe_un un_neg pe_int)
  refine wpAny_Slice (thn (po_none.run pins s1 σ H1 (fun o H2 => o = none ∧ H2 = H1) I1 ⟨rfl, rfl⟩) fun vl s2 ⟨l, H2, I2, pl, el, e2⟩ => ?_)
  subst el e2
  refine thn (hh.run pins s2 σ H2 _ I2 q1) fun vu s3 ⟨o3, H3, I3, pu, q3⟩ => ?_
  refine thn (hst.run pins s3 σ H3 (fun o H4 => o = some (-1) ∧ H4 = H3) I3 ⟨1, rfl, -1, rfl, rfl, rfl⟩) fun vs s4 ⟨o, H4, I4, ps, eo, e4⟩ => ?_
  subst eo e4
  obtain ⟨a, xs, kk, ex, hx, ek, hk, q⟩ := q3
  subst ex ek
  cases r1
  have I5 : Inv X pins σ H4 { s4 with heap := s4.heap.push { cls := .type "slice", data := .fields #[vl, vu, vs] } } := I4.kept (t' := s4.toks) fun b ob q => Heap.get?_push_of_some _ q
  obtain ⟨its, r, ht, hz⟩ := I5.list hx
  have hlen := r.length
  show wpAny (model X.prog X.w) X.A (subscriptTail e (.Slice none hi (some (.UnaryOp .USub (.Constant (.int 1) k p1) p2)) p3) (.ref a) (.ref s4.heap.objs.size)) (EP X pins σ Q) X.xe { s4 with heap := s4.heap.push { cls := .type "slice", data := .fields #[vl, vu, vs] } }
  refine tail_any (ops := [.ref a, .ref s4.heap.objs.size]) ht.isList.typeIs (PySem.slot_list_getitem.lookup) ?_ (by with_unfolding_all rfl)
  refine wpAny_getItem_list_slice ht.isList (Heap.IsSliceOf.new _ vl vu vs) pl pu ps (by decide) ?_ (by rw [List.size_toArray]; omega)
  rw [down_arr]
  refine ⟨.ref _, _, I5.laid (t' := s4.toks) (o := .lst (pickH xs kk)) (fun b ob q => Heap.get?_push_of_some _ q) (Nat.le_refl _) ?_, rfl, q _ (I5.hok.fresh (Nat.le_refl _))⟩
  exact ⟨Nat.le_trans (down_len hk) hz, _, 0, down_vals r kk, Heap.get?_push_size _ rfl⟩
/-- xs[:a:-1] -/
def downD (f : ED) (hi : PD) : ED := fun ρ => (f ρ).bind fun p => (hi p.2).bind fun s => match s.1 with
  | some k => if 0 ≤ k then match seqOf s.2 p.1 with
    | some (true, ds) => some (.own (ds.drop (k.toNat + 1)).reverse, s.2)
    | _ => none
    else none
  | none => none
theorem d_down {X : Cx} {tl : TL} {a : Expr} {f : ED} {hi : PD} {k : Nat} {p1 p2 p3 pos : Pos} {eh : Option Expr} (he : PE X a (RD (X.D tl) f)) (hh : PO X eh (RO (X.D tl) hi)) : PE X (.Subscript a (.Slice none eh (some (.UnaryOp .USub (.Constant (.int 1) k p1) p2)) p3) pos) (RD (X.D tl) (downD f hi)) :=
  (pe_downL he hh).imp fun σ H Q h => by
    obtain ⟨P, B, L, ρ, r, ρ', R0, e, k⟩ := h
    obtain ⟨⟨r1, ρ1⟩, e1, e⟩ := Option.bind_eq_some_iff.mp e
    obtain ⟨⟨o1, ρ2⟩, e2, e⟩ := Option.bind_eq_some_iff.mp e
    refine ⟨P, B, L, ρ, r1, ρ1, R0, e1, fun x H1 La Ea p1 v1 => ⟨Ea ++ P, B, La, ρ1, o1, ρ2, p1.rep, e2, fun H2 Lb Eb p2 => ?_⟩⟩
    have p12 := p1.two p2
    have v2 := v1.later p1.rep p2
    simp only at e
    split at e
    case h_2 => cases e
    rename_i kk
    split at e
    case isFalse => cases e
    rename_i hk
    split at e
    case h_2 => cases e
    rename_i ds hd
    cases e
    obtain ⟨a, vs, rfl, h1, h2⟩ := v2.list p12.rep hd
    refine ⟨a, vs, kk, rfl, .inl (.inl h1), rfl, hk, fun p hp => ?_⟩
    have e3 : pickH ds kk = (ds.drop (kk.toNat + 1)).reverse := by
      have := down_eq (xs := ds) (a := kk.toNat)
      rwa [Int.toNat_of_nonneg hk] at this
    have d := down_dq h2 kk
    rw [e3] at d
    exact (k.after p12).lst p12.rep d hp
end DL
end
noncomputable section
namespace DL
open PySem PySem.Spec PyProof.Rows L2
end DL
end
set_option maxHeartbeats 1000000
noncomputable section
namespace DL
open PySem PySem.Spec PyProof.Rows L2 LamX
end DL
end
set_option maxHeartbeats 1000000
noncomputable section
namespace DL
open PySem PySem.Spec PyProof.Rows L2 LamX
/-- its entries; its lists stand at cs -/
inductive DqL (K : Fg) (H : Hp) (W : List Addr) : List (NestedKey × Addr × V) → List Addr → List (PyData × List PyData) → Prop
  | nil : DqL K H W [] [] []
  | cons {k : NestedKey} {b c : Addr} {dk : PyData} {xs : List V} {ds : List PyData} {es : List (NestedKey × Addr × V)} {cs : List Addr} {dd : List (PyData × List PyData)} : Dq K H W (.ref b) dk → nkey dk = some k → k.depth ≤ 8 → H c = some (.lst xs) → DqA K H W xs ds → DqL K H W es cs dd → DqL K H W ((k, b, .ref c) :: es) (c :: cs) ((dk, ds) :: dd)
section
variable {K : Fg} {H H' : Hp} {W W' M : List Addr}
theorem DqL.move (hM : Lists H M) (hW : ∀ a ∈ M, a ∈ W) (k : Keep M H H') (hw : ∀ a ∈ W', a ∈ W ∨ H a = none) : ∀ {es : List (NestedKey × Addr × V)} {cs : List Addr} {dd : List (PyData × List PyData)}, DqL K H W es cs dd → (∀ c ∈ cs, c ∉ M) → DqL K H' W' es cs dd
  | _, _, _, .nil, _ => .nil
  | _, _, _, .cons h1 h2 h3 h4 h5 h6, hc => .cons (h1.move hM hW k hw) h2 h3 (k.at h4 (hc _ (List.mem_cons_self ..))) (h5.move hM hW k hw) (DqL.move hM hW k hw h6 fun c z => hc c (List.mem_cons_of_mem _ z))
theorem DqL.sub (hw : ∀ a ∈ W', a ∈ W) {es : List (NestedKey × Addr × V)} {cs : List Addr} {dd : List (PyData × List PyData)} (h : DqL K H W es cs dd) : DqL K H W' es cs dd := h.move (M := []) lists_nil (fun _ z => nomatch z) keep_refl (fun a z => .inl (hw a z)) fun _ _ z => nomatch z
theorem DqL.length : ∀ {es : List (NestedKey × Addr × V)} {cs : List Addr} {dd : List (PyData × List PyData)}, DqL K H W es cs dd → es.length = dd.length
  | _, _, _, .nil => rfl
  | _, _, _, .cons h1 h2 h3 h4 h5 h6 => by rw [List.length_cons, List.length_cons, h6.length]
end
structure StepL (B L C : List Addr) (H : Hp) (L' C' : List Addr) (H' : Hp) : Prop where
  step : Step (C ++ B) L H L' H'
  csub : ∀ a ∈ C', a ∈ C ∨ H a = none
theorem none_of_ne {H H' : Hp} (ne : ∀ a, H a ≠ none → H' a ≠ none) {a : Addr} (h : H' a = none) : H a = none := by
  cases e : H a with
  | none => rfl
  | some u => exact absurd h (ne a (by rw [e]; exact fun z => nomatch z))
theorem StepL.trans {B L C L1 C1 L2 C2 : List Addr} {H H1 H2 : Hp} (p : StepL B L C H L1 C1 H1) (q : StepL B L1 C1 H1 L2 C2 H2) : StepL B L C H L2 C2 H2 := by
  refine ⟨⟨⟨fun b o e hb ho => ?_, fun T t => q.step.keep.tab T (p.step.keep.tab T t), fun a h => q.step.ne a (p.step.ne a h)⟩, fun a h => ?_, fun a h => q.step.ne a (p.step.ne a h)⟩, fun a h => ?_⟩
  · have hn : H b ≠ none := by rw [e]; exact fun z => nomatch z
    have h1 := p.step.keep.old b o e hb ho
    refine q.step.keep.old b o h1 (fun z => ?_) ho
    simp only [List.mem_append] at z hb
    rcases z with (z | z) | z
    · exact (p.csub b z).elim (fun y => hb (.inl (.inl y))) hn
    · exact hb (.inl (.inr z))
    · exact (p.step.lsub b z).elim (fun y => hb (.inr y)) hn
  · rcases q.step.lsub a h with z | z
    · exact p.step.lsub a z
    · exact .inr (none_of_ne p.step.ne z)
  · rcases q.csub a h with z | z
    · exact p.csub a z
    · exact .inr (none_of_ne p.step.ne z)
theorem StepL.refl {B L C : List Addr} {H : Hp} : StepL B L C H L C H := ⟨.refl, fun _ z => .inl z⟩
end DL
end
set_option maxHeartbeats 1000000
noncomputable section
namespace DL
open PySem PySem.Spec PyProof.Rows L2 LamX
end DL
end
set_option maxHeartbeats 1000000
noncomputable section
namespace DL
open PySem PySem.Spec PyProof.Rows L2 LamX
section
variable {K : Fg} {P B L : List Addr} {σ : L2.St} {ρ : DL.Env} {H : Hp}
theorem Rep.setNoL (R : Rep K P B L σ ρ H) (i : Nat) (x : Option V) : Rep K P B L (σ.set i x) (ρ.set i .no) H := by
  refine ⟨by rw [List.length_set, List.length_set]; exact R.len, R.wl, R.nd, fun j => ?_, fun j k a hjk h1 h2 e1 e2 => ?_, R.tabs⟩
  · rw [getD_set, getS_set, R.len]
    by_cases hj : i = j ∧ i < ρ.length
    · rw [if_pos hj, if_pos hj]; trivial
    · rw [if_neg hj, if_neg hj]; exact R.ok j
  · rw [getD_set] at h1 h2
    rw [getS_set, R.len] at e1 e2
    by_cases hj : i = j ∧ i < ρ.length
    · rw [if_pos hj] at h1; cases h1
    · by_cases hk : i = k ∧ i < ρ.length
      · rw [if_pos hk] at h2; cases h2
      · rw [if_neg hj] at h1 e1
        rw [if_neg hk] at h2 e2
        exact R.inj j k a hjk h1 h2 e1 e2
end
end DL
end
set_option maxHeartbeats 1000000
noncomputable section
namespace DL
open PySem PySem.Spec PyProof.Rows L2 LamX
end DL
end
set_option maxHeartbeats 1000000
noncomputable section
namespace DL
open PySem PySem.Spec PyProof.Rows L2 LamX
end DL
end
set_option maxHeartbeats 1000000
noncomputable section
namespace DL
open PySem PySem.Spec PyProof.Rows L2 LamX
end DL
end
set_option maxHeartbeats 1000000
noncomputable section
namespace DL
open PySem PySem.Spec PyProof.Rows L2 LamX
def shutC : Cell → Cell
  | .cl d => .cl d
  | .op ds => .cl (.list ds)
  | _ => .no
/-- the frame, read only -/
def shutE (ρ : DL.Env) : DL.Env := ρ.map shutC
section
variable {K : Fg} {P B L C : List Addr} {σ : L2.St} {ρ : DL.Env} {H : Hp} {i : Nat}
theorem shutE_get : (shutE ρ).getD i .no = shutC (ρ.getD i .no) := by
  unfold shutE
  rw [List.getD_eq_getElem?_getD, List.getD_eq_getElem?_getD, List.getElem?_map]
  cases ρ[i]? <;> rfl
theorem shut_open : ∀ c : Cell, (shutC c).isOpen = false
  | .no => rfl
  | .cl _ => rfl
  | .op _ => rfl
  | .pm _ => rfl
  | .dk _ _ => rfl
theorem Rep.shut (R : Rep K (C ++ P) B L σ ρ H) : Rep K P [] [] σ (shutE ρ) H := by
  have hs : ∀ a ∈ P ++ [] ++ [], a ∈ (C ++ P) ++ B ++ L := fun a h => by
    simp only [List.append_nil] at h
    exact mem3.mpr (.inl (List.mem_append_right _ h))
  refine ⟨by unfold shutE; rw [List.length_map]; exact R.len, fun a h => R.wl a (hs a h), ⟨fun a _ => ⟨(fun z => nomatch z), (fun z => nomatch z)⟩, (fun a z => nomatch z)⟩, fun j => ?_, fun j k a _ h1 => ?_, R.tabs⟩
  · have q := R.ok j
    rw [shutE_get]
    revert q
    generalize ρ.getD j .no = c
    intro q
    cases c with
    | no => trivial
    | cl d => obtain ⟨v, e, h⟩ := q; exact ⟨v, e, h.sub hs⟩
    | op ds =>
      obtain ⟨a, vs, e, h1, h2, h3⟩ := q
      refine ⟨_, e, .lst (fun z => ?_) h2 (h3.sub hs)⟩
      simp only [List.append_nil] at z
      exact (R.nd.1 a (List.mem_append_right _ z)).2 h1
    | pm ds => trivial
    | dk t ds => trivial
  · rw [shutE_get, shut_open] at h1; cases h1
theorem Rep.putCl {v : V} {d : PyData} (R : Rep K P B L σ ρ H) (e : σ[i]? = some (some v)) (h : Dq K H (P ++ B ++ L) v d) : Rep K P B L σ (ρ.set i (.cl d)) H := by
  refine ⟨by rw [List.length_set]; exact R.len, R.wl, R.nd, fun j => ?_, fun j k a hjk h1 h2 e1 e2 => ?_, R.tabs⟩
  · rw [getD_set]
    by_cases hj : i = j ∧ i < ρ.length
    · rw [if_pos hj, ← hj.1]; exact ⟨v, e, h⟩
    · rw [if_neg hj]; exact R.ok j
  · rw [getD_set] at h1 h2
    by_cases hj : i = j ∧ i < ρ.length
    · rw [if_pos hj] at h1; cases h1
    · by_cases hk : i = k ∧ i < ρ.length
      · rw [if_pos hk] at h2; cases h2
      · rw [if_neg hj] at h1
        rw [if_neg hk] at h2
        exact R.inj j k a hjk h1 h2 e1 e2
end
def tNon : TA := tCons (tC .non) tNil
end DL
end
set_option maxHeartbeats 1000000
noncomputable section
namespace DL
open PySem PySem.Spec PyProof.Rows L2 LamX
end DL
end
set_option maxHeartbeats 1000000
noncomputable section
namespace DL
open PySem PySem.Spec PyProof.Rows L2 LamX
def tHo (K : Fg) (n : Nat) (G : FE) (t : AD) (m1 m2 : Str) : TE := fun σ H Q => ∃ P B L ρ rs ρ1 ds ρ2 o, Rep K P B L σ ρ H ∧ t ρ = some (rs, ρ1) ∧ psAll ρ1 rs = some (ds, ρ2) ∧ ds.length = n ∧ G ds = some o ∧ match o with
  | .inl (.own es) => ∀ (x : V) (b : Addr) (vs : List V) (H' : Hp) (L' E' : List Addr), Post K P B L σ H [] ρ2 H' L' E' → (∃ p, x = V.ref p ∧ TupD H' p [.str m1, .ref b]) → b ∈ E' → b ∉ P → H' b = some (.lst vs) → DqA K H' (E' ++ P ++ B ++ L') vs es → Q x H'
  | .inr i => ∀ (x : V) (H' : Hp) (L' E' : List Addr), Post K P B L σ H [] ρ2 H' L' E' → Dq K H' (E' ++ P ++ B ++ L') x (.tuple [.str m2, .int i]) → Q x H'
  | _ => False
section
variable {X : Cx} {tl : TL} {k n : Nat} {ps : List Str} {x y : Str} {p pos p1 p2 lpos : Pos} {e : Expr} {es : List Expr} {C : Addr} {fld m1 m2 : Str} {G : FE} {t : AD} {params : Arguments} {scope : Scope}
theorem pe_heardO {c P : Addr} (TB : TabB X.base X.mg c P) (hcode : X.env.code = .ref c) (hP : P ∈ tl) (hq : nameAt P = X.env.qual ++ "<lambda>") (OH : OkH (X.D tl) X.mg x C fld m1 m2) (O : OkE X.prog X.w (X.D tl) X.mg X.base k y ps n C fld G) (hA : X.A.guards = some []) (hr : Room (k + 2) X.A)
    (L : LamS X.env.scope scope) (ha : ∀ (A : Around) (outer : List PySem.Env) (s : Shared) (H : Hp) (E : XK) (f c' : Addr), A.guards = some [] → Room k (A.deeper (lamEnv X scope s.heap.objs.size f c')) → PA (lamCx X A outer s H E scope f c') (e :: es) (RA (X.D tl) t))
    (hdy : (y == ("__debug__" : Str)) = false := by decide) (hg : Gl X x := by rfl)
    (hdef : defaultsOf params X.env = ([], []) := by rfl) (hbind : ∀ (q : Str) (cl : List (Str × Addr)) (pm cv ctv : Value), bindArgs (PySem.W.kla_fn "<lambda>" q params (.Call (.Name y p1) (e :: es) [] p2) scope cl pm cv ctv) ⟨[], []⟩ = pure [] := by intros; rfl)
    (hgl : ∀ (A : Around) (outer : List PySem.Env) (s : Shared) (H : Hp) (E : XK) (f c' : Addr), Gl (lamCx X A outer s H E scope f c') y := by intros; rfl)
    (he : ∀ (A : Around) (outer : List PySem.Env) (s : Shared) (H : Hp) (E : XK) (f c' : Addr), starEach (e :: es) (lamCx X A outer s H E scope f c').env = (false, eval e (lamCx X A outer s H E scope f c').env) :: starEach es (lamCx X A outer s H E scope f c').env := by intros; rfl)
    (hpl : ∀ (A : Around) (outer : List PySem.Env) (s : Shared) (H : Hp) (E : XK) (f c' : Addr), (backTo p2 (starEach es (lamCx X A outer s H E scope f c').env)).any (·.1) = false := by intros; rfl)
    (hdb : (x == ("__debug__" : Str)) = false := by decide) :
    PE X (.Call (.Name x p) [.Lambda params (.Call (.Name y p1) (e :: es) [] p2) scope lpos] [] pos) (tHo (X.D tl) n G t m1 m2) := by
  obtain ⟨a, g, pg, bg, sg, dV, kV, doc, pm, cdv, ct, oc, an, od, osl, Ng, o1, o2, o3, o4, o5, o6, o7, o8, o9, o10, o11⟩ := OH
  obtain ⟨fy, fdy, Fy, y1, y2, y3⟩ := O
  refine ⟨fun pins s σ H Q I h => ?_⟩
  obtain ⟨P0, B, Lr, ρ, rs, ρ1, ds, ρ2, o, R0, e1, e2, hlen, e3, kk⟩ := h
  refine wpAny_Call_Name_kw (ld_glob I hg o1 ?_ hdb)
  refine PySem.W.callWith_K (h₀ := X.base) I.ok.mod.kin o2 ?_ (by rfl) (by rfl)
  show wpAny _ _ (spliced ((false, eval (.Lambda params (.Call (.Name y p1) (e :: es) [] p2) scope lpos) X.env) :: backTo pos (starEach [] X.env))) _ _ s
  have tabs : Tabs tl H := R0.tabs
  refine Calls.spliced_cons (lam_made3 I TB hcode (tabs P hP) hq hdef (L.has I.ok) fun f c' pm' ctv H1 s' I1 kp hf hfn hfr hco => ?_)
  refine Calls.spliced_nil ⟨I1.kIn, ?_⟩
  have want : THeard C fld m1 m2 (fun E H' Q' => RA (X.D tl) t σ H' fun vs H2 => spE (X.D tl) n C fld G vs H2 Q' E) H1 Q := by
    show RA (X.D tl) t σ H1 _
    refine ⟨P0, B, Lr, ρ, rs, ρ1, R0.same kp, e1, fun xs H2 L2 E2 post v => ?_⟩
    obtain ⟨E', L', R', dq, es', ls⟩ := psAll_of post.rep v e2
    have pst : Post (X.D tl) P0 B Lr σ H [] ρ2 H2 L' E' := by
      have q1 : Post (X.D tl) P0 B Lr σ H [] ρ H1 Lr [] := Post.same (E := []) R0 kp
      exact (q1.then (by simpa using post)).then (Post.less R' es' ls)
    refine ⟨by rw [dq.length]; exact hlen, E' ++ P0 ++ B ++ L', ds, o, ⟨R'.wl, R'.tabs⟩, dq, e3, ?_⟩
    cases o with
    | inr i =>
      intro H3 d k3 hd
      refine ⟨rfl, d, i, rfl, hd, fun p o hp hpl => ?_⟩
      have k4 : Keep [] H3 (upd H3 p (.frz o (.tup [.str m2, .int i]))) := Keep.new hp
      exact kk _ _ L' E' (pst.then (Post.same R' (k3.tr k4))) (.tup ⟨o, upd_same, hpl⟩ (.cons (.str _) (.cons (.int _) .nil)))
    | inl rv =>
      cases rv with
      | sl j => exact kk.elim
      | cl d => exact kk.elim
      | own dl =>
        intro v H3 E3 k3 hv
        obtain ⟨b, vs, rfl, rfl, hb0, hb1, dvs⟩ := hv
        refine ⟨by rw [sizeLine_eq]; show 2 ≤ _; decide, fun p o hp hpl => ?_⟩
        have k4 : Keep [] H3 (upd H3 p (.frz o (.tup [.str m1, .ref b]))) := Keep.new hp
        have hb4 := k4.at hb1 (fun z => nomatch z)
        have nb : b ∉ E' ++ P0 ++ B ++ L' := fun z => by
          obtain ⟨us, q, _⟩ := R'.wl b z
          rw [q] at hb0
          cases hb0
        have R4 := R'.move (E := [b]) (k3.tr k4) fun a z => by
          obtain rfl : a = b := by simpa using z
          exact ⟨hb0, _, hb4⟩
        have p4 : Post (X.D tl) P0 B Lr σ H [] ρ2 _ L' ([b] ++ E') := pst.then ⟨by rw [← List.append_assoc] at R4; exact R4, Step.of_same (k3.tr k4), fun a z => (List.mem_append.mp z).elim (fun z => .inr (by
          obtain rfl : a = b := by simpa using z
          exact hb0)) .inl⟩
        refine kk (.ref p) b vs _ L' ([b] ++ E') p4 ⟨p, rfl, o, upd_same, hpl⟩ (List.mem_append_left _ (by simp)) (fun z => nb (mem4.mpr (.inr (.inl z)))) hb4 ?_
        exact DqA.move lists_nil (fun _ z => nomatch z) k4 (fun _ z => .inl z) (dvs.sub fun a z => by
          simp only [List.mem_append, List.mem_cons, List.not_mem_nil, or_false, false_or, or_assoc] at z ⊢
          exact z)
  have rc : codeAny (model X.prog X.w) X.A (.call (.ref g) ⟨[.ref f], []⟩) (CR C8.CX0 X.stack X.prog X.w H1 s' Q C8.E0) s' := by
    refine run_ofS (N := Ng) (ps := [a]) (us := [.ref f]) (vs := [.ref f]) o3 o4 o6 (k := k + 1) hr I1.env0 (o5 s' [.ref f] I1.kIn rfl) (.cons rfl .nil) rfl fun hr' => ?_
    obtain ⟨t', ht', hq'⟩ := o11 X (X.env.qual ++ "<lambda>") rfl rfl f c' s' H1 Q (fun E H' Q' => RA (X.D tl) t σ H' fun vs H2 => spE (X.D tl) n C fld G vs H2 Q' E)
      (fun W pn xe E q1 q2 tk hW => pe_actG (i := 0) I1 L hf hfn hfr (hbind _ _ _ _ _) tk hW hA hr' (fun A outer s H hA2 hr2 =>
        g_callS (X := lamCx X A outer s H E scope f c') (p := p1) (E := fun _ => E) Fy hA2 hr2 (hgl A outer s H E f c') y1 y2 y3 (fun σ => passAt (takes_of rfl rfl rfl rfl) σ) (ha A outer s H E f c' hA2 hr2) hdy (he A outer s H E f c') (hpl A outer s H E f c')) o7 o8 o9 o10) hco want
    exact ⟨t', ht'.nox, hq'⟩
  refine wpAny_call (codeAny_mono rc fun r s2 hq => ?_)
  cases r with
  | error e => exact (show False from hq).elim
  | ok fl =>
    cases fl with
    | ret u => exact I1.after hq
    | next => exact False.elim hq
    | brk => exact False.elim hq
    | cont => exact False.elim hq
end
end DL
end
set_option maxHeartbeats 1000000
noncomputable section
namespace DL
open PySem PySem.Spec PyProof.Rows L2 LamX
def tAtT (K : Fg) (j : Nat) (i : Int) : TE := tOp (L2.rIxT K) (tVar j) (tC (.int i))
section
variable {K : Fg} {j n : Nat} {G : FE} {t : AD} {m1 m2 : Str} {q c : TD} {D : Ends} {σ : L2.St} {H : Hp}
/-- a test that is only read -/
theorem shut_test {P B L C : List Addr} {ρ1 : DL.Env} {H2 : Hp} {v : V} {d : PyData} {q : TD} {b : Bool} {ρ2 : DL.Env} {Q : Bool → Hp → Prop} (R : Rep K (C ++ P) B L σ (ρ1.set j .no) H2) (es : σ[j]? = some (some v)) (hd : Dq K H2 P v d) (e : q ((shutE ρ1).set j (.cl d)) = some (b, ρ2))
    (k : ∀ H3, Keep [] H2 H3 → Rep K (C ++ P) B L σ (ρ1.set j .no) H3 → Q b H3) : RT K q σ H2 Q := by
  have hw : ∀ a ∈ P ++ [] ++ [], a ∈ P := fun a z => by simpa using z
  have R5 := R.shut.putCl es (hd.sub hw)
  have sh : (shutE (ρ1.set j .no)).set j (.cl d) = (shutE ρ1).set j (.cl d) := by
    unfold shutE
    rw [List.map_set, List.set_set]
  rw [sh] at R5
  refine ⟨P, [], [], _, b, ρ2, R5, e, fun H3 L3 E3 p3 => ?_⟩
  have k3 : Keep [] H2 H3 := p3.step.keep.mono fun b z => by simpa using z
  exact k H3 k3 (R.same k3)
end
end DL
end
set_option maxHeartbeats 1000000
noncomputable section
namespace DL
open PySem PySem.Spec PyProof.Rows L2 LamX
end DL
end
set_option maxHeartbeats 1000000
noncomputable section
namespace DL
open PySem PySem.Spec PyProof.Rows L2 LamX
/-- x = heard(lambda: f(..)); if c: return r1; y = e; if q: return False; x[1].append(None) -/
def toldV (j n : Nat) (G : FE) (t : AD) (m1 m2 : Str) (c : TD) (r1 : ED) (k : Nat) (e : ED) (q : TD) : SD := fun ρ => (t ρ).bind fun p => (psAll p.2 p.1).bind fun r => if r.1.length = n ∧ j < r.2.length ∧ k ≠ j then (G r.1).bind fun o => match o with
  | .inl (.own es) => if es.length < lim then (c ((shutE r.2).set j (.cl (.tuple [.str m1, .list es])))).bind fun b => if b.1 = true then (r1 ((shutE r.2).set j (.cl (.tuple [.str m1, .list es])))).bind fun v => match v.1 with
        | .cl (.bool z) => some (.rt (.cl (.bool z)) (r.2.set j .no))
        | _ => none
      else (e (r.2.set j .no)).bind fun v => (stV v.2 k v.1).bind fun ρ2 => (q ((shutE ρ2).set j (.cl (.tuple [.str m1, .list es])))).bind fun b2 => if b2.1 = true then some (.rt (.cl (.bool false)) (ρ2.set j .no)) else some (.nx (ρ2.set j .no))
    else none
  | .inr i => (c ((shutE r.2).set j (.cl (.tuple [.str m2, .int i])))).bind fun b => if b.1 = true then (r1 ((shutE r.2).set j (.cl (.tuple [.str m2, .int i])))).bind fun v => match v.1 with
        | .cl (.bool z) => some (.rt (.cl (.bool z)) (r.2.set j .no))
        | _ => none
      else none
  | _ => none
  else none
section
variable {K : Fg} {j n k : Nat} {G : FE} {t : AD} {m1 m2 : Str} {q c : TD} {r1 e : ED} {D : Ends} {σ : L2.St} {H : Hp}
/-- a value that is only read -/
theorem shut_val {P B L C : List Addr} {ρ1 : DL.Env} {H2 : Hp} {v : V} {d : PyData} {r1 : ED} {z : Bool} {ρ2 : DL.Env} {Q : VK} (R : Rep K (C ++ P) B L σ (ρ1.set j .no) H2) (es : σ[j]? = some (some v)) (hd : Dq K H2 P v d) (e : r1 ((shutE ρ1).set j (.cl d)) = some (.cl (.bool z), ρ2))
    (k : ∀ H3, Keep [] H2 H3 → Rep K (C ++ P) B L σ (ρ1.set j .no) H3 → Q (.bl z) H3) : RD K r1 σ H2 Q := by
  have hw : ∀ a ∈ P ++ [] ++ [], a ∈ P := fun a z => by simpa using z
  have R5 := R.shut.putCl es (hd.sub hw)
  have sh : (shutE (ρ1.set j .no)).set j (.cl d) = (shutE ρ1).set j (.cl d) := by
    unfold shutE
    rw [List.map_set, List.set_set]
  rw [sh] at R5
  refine ⟨P, [], [], _, _, ρ2, R5, e, fun x H3 L3 E3 p3 v3 => ?_⟩
  have k3 : Keep [] H2 H3 := p3.step.keep.mono fun b z => by simpa using z
  obtain rfl : x = .bl z := by cases v3; rfl
  exact k H3 k3 (R.same k3)
theorem toldV_imp (h : RS K (toldV j n G t m1 m2 c r1 k e q) D σ H) : tSeq (tAsg (tHo K n G t m1 m2) (gName j)) (tSeq (tIfS (RT K c) (tRet (RD K r1)) tNext) (tSeq (tAsg (RD K e) (gName k)) (tSeq (tIfS (RT K q) (tRet (tC (.bl false))) tNext) (tDrop (tBM K "list" rAppend (tAtT K j 1) tNon))))) D σ H := by
  obtain ⟨P, B, L, ρ, o, R, e0, kk⟩ := h
  obtain ⟨⟨rs, ρ1⟩, e1, e0⟩ := Option.bind_eq_some_iff.mp e0
  obtain ⟨⟨ds, ρ2⟩, e2, e0⟩ := Option.bind_eq_some_iff.mp e0
  simp only at e0 e2
  split at e0
  case isFalse => cases e0
  rename_i hz
  obtain ⟨hn, hj, hjk⟩ := hz
  obtain ⟨w, e3, e0⟩ := Option.bind_eq_some_iff.mp e0
  refine ⟨P, B, L, ρ, rs, ρ1, ds, ρ2, w, R, e1, e2, hn, e3, ?_⟩
  have es : ∀ v : V, σ.length = ρ2.length → (σ.set j (some v))[j]? = some (some v) := fun v hl => by
    rw [getS_set, if_pos ⟨rfl, by rw [hl]; exact hj⟩]
  have low : ∀ {E1 L1 : List Addr} {a : Addr}, a ∈ P → a ∈ E1 ++ P ++ B ++ L1 := fun h => mem4.mpr (.inr (.inl h))
  cases w with
  | inr i =>
    intro x H1 L1 E1 p hx
    have R3 := p.rep.setNoL j (some x)
    have hd : Dq K H1 P x (.tuple [.str m2, .int i]) := hx.sub fun a z => low z
    obtain ⟨⟨b, ρ3⟩, e4, e0⟩ := Option.bind_eq_some_iff.mp e0
    refine shut_test R3 (es x p.rep.len) hd e4 fun H3 k3 R6 => ?_
    have st3 : Step B L H L1 H3 := p.step.trans (Step.of_same k3)
    have nw : ∀ a ∈ E1, H a = none := fun a z => (p.esub a z).elim (fun y => nomatch y) id
    cases b with
    | true =>
      rw [if_pos rfl] at e0
      obtain ⟨⟨v, ρ4⟩, e5, e0⟩ := Option.bind_eq_some_iff.mp e0
      simp only at e0
      split at e0
      case h_2 => cases e0
      rename_i z
      cases e0
      have hd3 : Dq K H3 P x (.tuple [.str m2, .int i]) := hd.move (M := []) lists_nil (fun _ z => nomatch z) k3 fun a z => .inl z
      refine shut_val R6 (es x p.rep.len) hd3 e5 fun H4 k4 R7 => ?_
      exact kk _ (.bl z) H4 L1 E1 R7 (st3.trans (Step.of_same k4)) nw (Dq.bl z)
    | false =>
      rw [if_neg Bool.false_ne_true] at e0
      cases e0
  | inl r =>
    cases r with
    | sl i => cases e0
    | cl d => cases e0
    | own A =>
      simp only at e0
      split at e0
      case isFalse => cases e0
      rename_i hA
      rintro x b0 vs H1 L1 E1 p ⟨s, rfl, ht⟩ hbE hbP hb1 dA
      have R3 := p.rep.setNoL j (some (V.ref s))
      have hd : Dq K H1 P (.ref s) (.tuple [.str m1, .list A]) := .tup ht (.cons (.str _) (.cons (.lst hbP hb1 (dA.sub fun a z => low z)) .nil))
      obtain ⟨⟨b, ρ3⟩, e4, e0⟩ := Option.bind_eq_some_iff.mp e0
      refine shut_test R3 (es _ p.rep.len) hd e4 fun H3 k3 R6 => ?_
      have st3 : Step B L H L1 H3 := p.step.trans (Step.of_same k3)
      have nw : ∀ a ∈ E1, H a = none := fun a z => (p.esub a z).elim (fun y => nomatch y) id
      have hd3 : Dq K H3 P (.ref s) (.tuple [.str m1, .list A]) := hd.move (M := []) lists_nil (fun _ z => nomatch z) k3 fun a z => .inl z
      cases b with
      | true =>
        rw [if_pos rfl] at e0
        obtain ⟨⟨v, ρ4⟩, e5, e0⟩ := Option.bind_eq_some_iff.mp e0
        simp only at e0
        split at e0
        case h_2 => cases e0
        rename_i z
        cases e0
        refine shut_val R6 (es _ p.rep.len) hd3 e5 fun H4 k4 R7 => ?_
        exact kk _ (.bl z) H4 L1 E1 R7 (st3.trans (Step.of_same k4)) nw (Dq.bl z)
      | false =>
        rw [if_neg Bool.false_ne_true] at e0
        obtain ⟨⟨rv, ρ4⟩, e5, e0⟩ := Option.bind_eq_some_iff.mp e0
        obtain ⟨ρ5, e6, e0⟩ := Option.bind_eq_some_iff.mp e0
        obtain ⟨⟨b2, ρ6⟩, e7, e0⟩ := Option.bind_eq_some_iff.mp e0
        have dA3 : DqA K H3 (E1 ++ P ++ B ++ L1) vs A := dA.move (M := []) lists_nil (fun _ z => nomatch z) k3 fun a z => .inl z
        have hb3 : H3 b0 = some (.lst vs) := k3.at hb1 fun z => nomatch z
        have t3 : TupD H3 s [.str m1, .ref b0] := by
          obtain ⟨o, h1, h2⟩ := ht
          exact ⟨o, k3.at h1 (fun z => nomatch z), h2⟩
        have i1 : b0 ∈ E1 ++ P := List.mem_append_left _ hbE
        have ndb := R6.nd.1 b0 i1
        refine ⟨E1 ++ P, B, L1, ρ2.set j .no, rv, ρ4, R6, e5, fun y H4 L4 E4 p4 v4 => ?_⟩
        obtain ⟨E5, L5, R5, h51, h52, _⟩ := stV_of p4.rep v4 e6
        have st4 : Step B L1 H3 L5 H4 := step_more p4.step p4.esub h52
        have hb4 : H4 b0 = some (.lst vs) := st4.keep.at hb3 fun z => (List.mem_append.mp z).elim ndb.1 ndb.2
        have t4 : TupD H4 s [.str m1, .ref b0] := by
          obtain ⟨o, h1, h2⟩ := t3
          refine ⟨o, st4.keep.at h1 fun z => ?_, h2⟩
          have := R6.wl s ((List.mem_append.mp z).elim (fun w => mem3.mpr (.inr (.inl w))) fun w => mem3.mpr (.inr (.inr w)))
          obtain ⟨us, g, _⟩ := this
          rw [h1] at g
          cases g
          rename_i g2
          cases g2
        have wl3 : Lists H3 (B ++ L1) := fun a z => R6.wl a ((List.mem_append.mp z).elim (fun w => mem3.mpr (.inr (.inl w))) fun w => mem3.mpr (.inr (.inr w)))
        have dA4 : DqA K H4 P vs A := dA3.move wl3 (fun a z => by
          rcases List.mem_append.mp z with w | w
          · exact mem4.mpr (.inr (.inr (.inl w)))
          · exact mem4.mpr (.inr (.inr (.inr w)))) st4.keep fun a z => .inl (low z)
        have hd4 : Dq K H4 P (.ref s) (.tuple [.str m1, .list A]) := .tup t4 (.cons (.str _) (.cons (.lst hbP hb4 dA4) .nil))
        have es4 : ((σ.set j (some (V.ref s))).set k (some y))[j]? = some (some (V.ref s)) := by
          rw [getS_set, if_neg fun z => hjk z.1]
          exact es _ p.rep.len
        have R5' : Rep K ((E5 ++ E1) ++ P) B L5 ((σ.set j (some (V.ref s))).set k (some y)) (ρ5.set j .no) H4 := by
          have R5n := R5.setNoL j (some (V.ref s))
          have ee : (((σ.set j (some (V.ref s))).set k (some y)).set j (some (V.ref s))) = (σ.set j (some (V.ref s))).set k (some y) := by
            apply List.ext_getElem?
            intro i
            rw [List.getElem?_set]
            by_cases w : j = i
            · subst w
              rw [if_pos rfl]
              split
              · exact es4.symm
              · rename_i w2
                rw [List.getElem?_eq_none (by omega)] at es4
                cases es4
            · rw [if_neg w]
          rw [ee] at R5n
          rw [List.append_assoc]
          exact R5n
        refine shut_test R5' es4 hd4 e7 fun H6 k6 R8 => ?_
        have st6 : Step B L H L5 H6 := (st3.trans st4).trans (Step.of_same k6)
        cases b2 with
        | true =>
          rw [if_pos rfl] at e0
          cases e0
          refine kk _ (.bl false) H6 L5 (E5 ++ E1) R8 st6 (fun a z => ?_) (Dq.bl false)
          rcases List.mem_append.mp z with w | w
          · rcases p4.esub a (h51 a w) with u | u
            · cases u
            · exact Classical.byContradiction fun w => st3.ne a w u
          · exact nw a w
        | false =>
          rw [if_neg Bool.false_ne_true] at e0
          cases e0
          have hb6 : H6 b0 = some (.lst vs) := k6.at hb4 fun z => nomatch z
          have t6 : TupD H6 s [.str m1, .ref b0] := by
            obtain ⟨o, h1, h2⟩ := t4
            exact ⟨o, k6.at h1 (fun z => nomatch z), h2⟩
          have i2 : b0 ∈ (E5 ++ E1) ++ P := List.mem_append_left _ (List.mem_append_right _ hbE)
          have R9 := (writePO (D := b0) (o := .lst (vs ++ [.non])) (.lst _) R8 i2).1
          have kA : Keep [b0] H6 (upd H6 b0 (.lst (vs ++ [.non]))) := keep_wrD hb6 (.lst _)
          have lA := dA.length
          have := lim_line
          refine ⟨.ref s, es4, s, _, 1, .ref b0, rfl, rfl, t6.sq, rfl, .inl ⟨rfl, vs, .of hb6⟩, b0, vs, .non, rfl, rfl, hb6, by omega, ?_⟩
          refine kk _ _ L5 R9.drop ⟨⟨fun c o hc hn ho => ?_, fun T z => kA.tab T (st6.keep.tab T z), fun c z => kA.nn c (st6.keep.nn c z)⟩, st6.lsub, fun c z => kA.nn c (st6.ne c z)⟩
          have c1 : c ≠ b0 := fun z => by rw [z, nw b0 hbE] at hc; cases hc
          rw [upd_ne c1]
          exact st6.keep.old c o hc hn ho
end
end DL
end
set_option maxHeartbeats 1000000
noncomputable section
namespace DL
open PySem PySem.Spec PyProof.Rows L2 LamX
section
variable {X : Cx} {tl : TL} {j n k : Nat} {G : FE} {t : AD} {m1 m2 : Str} {q c : TD} {r1 e : ED} {g : SD} {rest : List Stmt}
/-- x = heard(lambda: f(..)); if c: return r1; y = e; if q: return False; x[1].append(None) -/
theorem s_toldV (j k : Nat) {x y : Str} {he tst tst2 re ye : Expr} {p1 pos bp rp rp2 ip ip9 p2 ip1 sp1 ap1 np1 cp1 xp1 py ypos : Pos} {bk ik1 nk1 : Nat}
    (ha : PE X he (tHo (X.D tl) n G t m1 m2)) (hc : PT X tst (RT (X.D tl) c)) (hr : PE X re (RD (X.D tl) r1)) (hy : PE X ye (RD (X.D tl) e)) (hc2 : PT X tst2 (RT (X.D tl) q)) (hrest : PSs X rest (RS (X.D tl) g)) (hN : X.N.Nodup) (hi : X.N[j]? = some x := by rfl) (hx : Loc X.env.scope x := by first | exact Or.inl rfl | exact Or.inr rfl)
    (hs : swapsWith he (some (.Name x p1)) pos.line X.env = pure false := by rfl) (hf : X.fn x = true ∨ X.env.scope.names.lookup x = some .local := by first | exact .inl rfl | exact .inr rfl)
    (hi2 : X.N[k]? = some y := by rfl) (hx2 : Loc X.env.scope y := by first | exact Or.inl rfl | exact Or.inr rfl)
    (hs2 : swapsWith ye (some (.Name y py)) ypos.line X.env = pure false := by rfl) (hf2 : X.fn y = true ∨ X.env.scope.names.lookup y = some .local := by first | exact .inl rfl | exact .inr rfl)
    (hv : Vis X.env.scope x := by first | exact Or.inl rfl | exact Or.inr (Or.inl rfl) | exact Or.inr (Or.inr rfl)) (hd : (x == ("__debug__" : Str)) = false := by decide) (hcd : (x == ("__classdict__" : Str)) = false := by decide)
    (b1 : attributeBase (.Subscript (.Name x p2) (.Constant (.int 1) ik1 ip1) sp1) "append" X.env (eval (.Subscript (.Name x p2) (.Constant (.int 1) ik1 ip1) sp1) X.env) = eval (.Subscript (.Name x p2) (.Constant (.int 1) ik1 ip1) sp1) X.env := by rfl)
    (f1 : ((backTo cp1 (starEach [.Constant .none nk1 np1] X.env)).all (fun x => !x.1) && (backToKw cp1 (keywordEach [] X.env)).all (fun x => x.1.isSome) && decide (([.Constant .none nk1 np1] : List Expr).length + ([] : List Keyword).length + (if ([] : List Keyword).isEmpty then 0 else 1) < 30)) = true := by rfl)
    (l1 : (ap1.endLine == cp1.line) = true := by rfl) (s1 : starEach [.Constant .none nk1 np1] X.env = (false, eval (.Constant .none nk1 np1) X.env) :: starEach [] X.env := by rfl) (h1 : (backTo cp1 (starEach [] X.env)).any (·.1) = false := by rfl)
    (w1 : swapsWith (.Call (.Attribute (.Subscript (.Name x p2) (.Constant (.int 1) ik1 ip1) sp1) "append" ap1) [.Constant .none nk1 np1] [] cp1) none xp1.line X.env = pure false := by rfl) :
    PSs X (.Assign [.Name x p1] he pos :: .If tst [.Return (some re) rp2] [] ip9 :: .Assign [.Name y py] ye ypos :: .If tst2 [.Return (some (.Constant (.bool false) bk bp)) rp] [] ip :: .Expr (.Call (.Attribute (.Subscript (.Name x p2) (.Constant (.int 1) ik1 ip1) sp1) "append" ap1) [.Constant .none nk1 np1] [] cp1) xp1 :: rest) (RS (X.D tl) (seqS (toldV j n G t m1 m2 c r1 k e q) g)) :=
  (pss_cons (ps_set hN hi hx ha hs hf) (pss_cons (ps_if hc (pss_one (ps_ret hr)) pss_nil) (pss_cons (ps_set hN hi2 hx2 hy hs2 hf2) (pss_cons (ps_if hc2 (pss_one (ps_ret pe_bl)) pss_nil)
    (pss_cons (ps_expr (pe_bm PySem.F.plainAttrs_list PySem.F.slot_list_append PySem.F.type_list_append mt_append (pe_ix ix_tup (pe_var hi hv hd hcd) pe_int (fun _ _ => rfl)) (pa_cons pe_non pa_nil s1) b1 f1 l1 s1 h1) w1) hrest))))).imp fun D σ H h => by
    have h2 := rs_seq h
    exact toldV_imp h2
end
end DL
end
set_option maxHeartbeats 1000000
noncomputable section
namespace DL
open PySem PySem.Spec PyProof.Rows L2 LamX
def whileDE (c : TD) (body : SE) : Nat → DL.Env → Option (Out ⊕ Int)
  | 0, _ => none
  | n + 1, ρ => (c ρ).bind fun p => if p.1 = true then (body p.2).bind fun o => match o with
      | .inl (.nx ρ2) => whileDE c body n ρ2
      | .inl (.ct ρ2) => whileDE c body n ρ2
      | .inl (.bk ρ2) => some (.inl (.nx ρ2))
      | .inl (.rt r ρ2) => some (.inl (.rt r ρ2))
      | .inr i => some (.inr i)
    else some (.inl (.nx p.2))
def whileE (n : Nat) (c : TD) (body : SE) : SE := fun ρ => whileDE c body n ρ
section
variable {X : Cx} {tl : TL} {c : Expr} {q : TD} {g : SE} {body : List Stmt} {pos : Pos} {C : Addr} {fld : Str} {E : XK}
theorem while_impE {n : Nat} {D : Ends} {σ : L2.St} {H : Hp} (h : RSE (X.D tl) C fld E (whileE n q g) D σ H) : tWhile (RT (X.D tl) q) (RSE (X.D tl) C fld E g) D σ H := by
  obtain ⟨P, B, L, ρ, o, R0, e, k⟩ := h
  refine ⟨fun m σ H' => ∃ La ρ, Rep (X.D tl) P B La σ ρ H' ∧ Step B L H La H' ∧ whileDE q g m ρ = some o, ⟨n, L, ρ, R0, .refl, e⟩, ?_⟩
  rintro m σ1 H1 ⟨La, ρ1, R1, s1, e1⟩
  cases m with
  | zero => cases e1
  | succ m =>
    obtain ⟨⟨b, ρ2⟩, e2, e3⟩ := Option.bind_eq_some_iff.mp e1
    refine ⟨P, B, La, ρ1, b, ρ2, R1, e2, fun H2 Lb Eb p2 => ?_⟩
    cases b with
    | false =>
      have e4 : o = .inl (.nx ρ2) := (Option.some.inj (by simpa using e3)).symm
      subst e4
      rw [if_neg Bool.false_ne_true]
      exact k σ1 H2 Lb p2.toStep (s1.trans p2.step)
    | true =>
      rw [if_pos rfl]
      simp only [if_true] at e3
      obtain ⟨o2, e4, e5⟩ := Option.bind_eq_some_iff.mp e3
      refine ⟨fun σ3 H3 => ∃ Lc ρ3, Rep (X.D tl) P B Lc σ3 ρ3 H3 ∧ Step B L H Lc H3 ∧ whileDE q g m ρ3 = some o, fun σ3 H3 hn => ⟨m, Nat.lt_succ_self _, hn⟩, P, B, Lb, ρ2, o2, p2.toStep, e4, ?_⟩
      cases o2 with
      | inr i =>
        cases e5
        exact fun L5 H5 d5 s5 hx => k L5 H5 d5 (s1.trans (p2.step.trans s5)) hx
      | inl o2 =>
        cases o2 with
        | nx ρ5 => exact fun σ5 H5 L5 R5 s5 => ⟨L5, ρ5, R5, s1.trans (p2.step.trans s5), e5⟩
        | ct ρ5 => exact fun σ5 H5 L5 R5 s5 => ⟨L5, ρ5, R5, s1.trans (p2.step.trans s5), e5⟩
        | bk ρ5 =>
          cases e5
          exact fun σ5 H5 L5 R5 s5 => k σ5 H5 L5 R5 (s1.trans (p2.step.trans s5))
        | rt r ρ5 =>
          cases e5
          exact EOk.after k (s1.trans p2.step)
theorem x_while (n : Nat) (hp : PassesOwn (model X.prog X.w) X.A X.env X.xe) (hc : PT X c (RT (X.D tl) q)) (hb : PSs X body (RSE (X.D tl) C fld E g)) : PS X (.While c body [] pos) (RSE (X.D tl) C fld E (whileE n q g)) := (ps_while hp hc hb).imp fun _ _ _ h => while_impE h
end
theorem whileE_succ {c : TD} {body : SE} {n : Nat} {ρ : DL.Env} : whileDE c body (n + 1) ρ = (c ρ).bind fun p => if p.1 = true then (body p.2).bind fun o => match o with
      | .inl (.nx ρ2) => whileDE c body n ρ2
      | .inl (.ct ρ2) => whileDE c body n ρ2
      | .inl (.bk ρ2) => some (.inl (.nx ρ2))
      | .inl (.rt r ρ2) => some (.inl (.rt r ρ2))
      | .inr i => some (.inr i)
    else some (.inl (.nx p.2)) := rfl
theorem whileE_go {c : TD} {body : SE} {n : Nat} {ρ ρ1 ρ2 : DL.Env} (hc : c ρ = some (true, ρ1)) (hb : body ρ1 = some (.inl (.nx ρ2))) : whileDE c body (n + 1) ρ = whileDE c body n ρ2 := by
  rw [whileE_succ, hc]
  simp only [Option.bind_some, if_true]
  rw [hb]
  rfl
theorem whileE_stop {c : TD} {body : SE} {n : Nat} {ρ ρ1 : DL.Env} (hc : c ρ = some (false, ρ1)) : whileDE c body (n + 1) ρ = some (.inl (.nx ρ1)) := by
  rw [whileE_succ, hc]
  rfl
theorem whileE_raise {c : TD} {body : SE} {n : Nat} {ρ ρ1 : DL.Env} {i : Int} (hc : c ρ = some (true, ρ1)) (hb : body ρ1 = some (.inr i)) : whileDE c body (n + 1) ρ = some (.inr i) := by
  rw [whileE_succ, hc]
  simp only [Option.bind_some, if_true]
  rw [hb]
  rfl
end DL
end
noncomputable section
namespace K01
open PySem L2 DL
abbrev F_rooms_within : FP := LW.F_rooms_within
abbrev F_things_within : FP := LW.F_things_within
abbrev F_sizes_of : FP := LW.F_sizes_of
abbrev F_things_on : FP := LW.F_things_on
abbrev F_filled_up : FP := LW.F_filled_up
abbrev F_empty_state : FP := LW.F_empty_state
abbrev F_least_state : FP := LW.F_least_state
/-- state_after(state); slots: state at other floors -/
def g_state_after : SD :=
  (seqS (setS 1 (binD (callD (acons (varD 0) anil) (oneG lenG)) (conD (.int 2)) (intG (i2i fun i j => i - j))))
    (seqS (whileS 10000 (andT (testD (binD (varD 1) (conD (.int 0)) (intG (i2b fun i j => decide (j ≤ i))))) (testD (binD (binD (varD 0) (varD 1) ixG) (binD (varD 0) (binD (varD 1) (conD (.int 1)) addG) ixG) (intG (i2b fun i j => decide (j ≤ i)))))) (augS 1 (conD (.int 1)) (fun i j => i - j)))
    (seqS (ifS (testD (binD (varD 1) (conD (.int 0)) (intG (i2b fun i j => decide (i < j))))) (retS (conD .none)) nilS)
    (seqS (setS 2 (binD (callD (acons (varD 0) anil) (oneG lenG)) (conD (.int 1)) (intG (i2i fun i j => i - j))))
    (seqS (whileS 10000 (testD (binD (binD (varD 0) (varD 2) ixG) (binD (varD 0) (varD 1) ixG) (intG (i2b fun i j => decide (i ≤ j))))) (augS 2 (conD (.int 1)) (fun i j => i - j)))
    (seqS (setS 3 (callD (acons (varD 0) anil) (oneG listG)))
    (seqS (asgSS 3 1 3 2 (acons (binD (varD 3) (varD 2) ixG) (acons (binD (varD 3) (varD 1) ixG) anil)))
    (retS (callD (acons (binD (sliceD (varD 3) noP (aP (binD (varD 1) (conD (.int 1)) addG)) cutG) (downD (varD 3) (aP (varD 1))) addG) anil) (oneG tupleG))))))))))
def F_state_after : FP := runP 4 g_state_after
/-- all_states(house, sizes); slots: house sizes state states -/
def g_all_states : SE :=
  (seqE (setS 2 (callP 2 F_least_state (acons (varD 0) (acons (varD 1) anil))))
    (seqE (setS 3 (lstD anil))
    (seqEE (whileE 10000 (testD (binD (varD 2) (conD .none) (isNG' true))) (ifE (testD (binD (callD (acons (varD 3) anil) (oneG lenG)) (conD (.int 3000)) (eqQ false))) (raiseE (conD (.int 3000)))
    (pureE (seqS (dropS (metD 3 (acons (varD 2) anil) appG))
    (setS 2 (callP 1 F_state_after (acons (varD 2) anil)))))))
    (pureE (retS (varD 3))))))
def G_all_states : FE := runE 4 g_all_states
abbrev F__law_take : FM := LW.F__law_take
abbrev F__law_one : FM := LW.F__law_one
abbrev F__law_mixed : FM := LW.F__law_mixed
abbrev F__law_alike : FP := LW.F__law_alike
abbrev F__law_house : FM := LW.F__law_house
abbrev F__law_rooms_within : FP := LW.F__law_rooms_within
abbrev F__law_within : FP := LW.F__law_within
abbrev F__law_sizes : FP := LW.F__law_sizes
abbrev F__law_state : FM := LW.F__law_state
abbrev F__law_states_many : FP := LW.F__law_states_many
abbrev F__law_states_of_sizes : FP := LW.F__law_states_of_sizes
abbrev F__law_is_told_right : FP := LW.F__law_is_told_right
abbrev F__law_near_sizes : FM := LW.F__law_near_sizes
/-- _law_are_states_right(_law_house_here, _law_sizes_here); slots: _law_house_here _law_sizes_here _law_many _law_heard_here _law_due -/
def g__law_are_states_right : SD :=
  (seqS (setS 2 (callP 2 F__law_states_many (acons (varD 0) (acons (varD 1) anil))))
    (seqS (toldV 3 2 G_all_states (acons (varD 0) (acons (varD 1) anil)) ("told" : Str) ("many" : Str) (testD (binD (varD 2) (conD (.int 3000)) (intG (i2b fun i j => decide (j < i))))) (callP 2 F__law_alike (acons (varD 3) (acons (tupD (acons (conD (.str ("many" : Str))) (acons (conD (.int 3000)) anil))) anil))) 4 (callP 2 F__law_states_of_sizes (acons (varD 0) (acons (varD 1) anil))) (notT (testD (callP 2 F__law_alike (acons (varD 3) (acons (tupD (acons (conD (.str ("told" : Str))) (acons (varD 4) anil))) anil))))))
    (retS (callP 2 F__law_alike (acons (callP 2 (okE G_all_states) (acons (varD 0) (acons (varD 1) anil))) (acons (varD 4) anil))))))
def F__law_are_states_right : FP := runP 5 g__law_are_states_right
/-- law, behind its first row; slots: _law_script _law_bag_here _law_turn _law_house_here _law_state_here _law_shown _law_sizes_here _law_some _law_menu -/
def g_law : SD :=
  (seqS (forS (rng1I (acons (conD (.int 4)) anil)) (nameT 2) (seqS (setS 3 (callM 1 3 F__law_house (acons (callM 1 1 F__law_one (acons (lstD (acons (conD (.int 6)) (acons (conD (.int 16)) (acons (conD (.int 9)) (acons (conD (.int 14)) anil))))) anil)) (acons (conD (.int 4)) (acons (conD (.int 12)) anil)))))
    (seqS (setS 4 (callM 1 1 F__law_state (acons (varD 3) anil)))
    (seqS (setS 5 (callD (acons (lstD (acons (varD 3) (acons (varD 4) anil))) anil) (oneG repG)))
    (ifS (orT (notT (testD (callP 2 F__law_is_told_right (acons (varD 3) (acons (varD 4) anil))))) (testD (binD (callD (acons (lstD (acons (varD 3) (acons (varD 4) anil))) anil) (oneG repG)) (varD 5) (eqQ true)))) (retS (conD (.bool false))) nilS)))))
    (seqS (forS (rng1I (acons (conD (.int 2)) anil)) (nameT 2) (seqS (setS 3 (callM 1 3 F__law_house (acons (callM 1 1 F__law_one (acons (lstD (acons (conD (.int 5)) (acons (conD (.int 7)) (acons (conD (.int 16)) anil)))) anil)) (acons (conD (.int 3)) (acons (conD (.int 5)) anil)))))
    (seqS (setS 6 (callP 2 F__law_sizes (acons (varD 3) (acons (callM 1 1 F__law_state (acons (varD 3) anil)) anil))))
    (forS (seqI (tupD (acons (varD 6) (acons (callM 1 1 F__law_near_sizes (acons (varD 6) anil)) anil)))) (nameT 7) (ifS (notT (testD (callP 2 F__law_are_states_right (acons (varD 3) (acons (varD 7) anil))))) (retS (conD (.bool false))) nilS)))))
    (seqS (setS 8 (lstD (acons (tupD (acons (tupD (acons (conD (.int 16)) (acons (tupD (acons (conD (.int 3)) (acons (conD (.int 3)) (acons (conD (.int 3)) (acons (conD (.int 3)) anil))))) anil))) (acons (tupD (acons (conD (.int 3)) (acons (conD (.int 6)) (acons (conD (.int 9)) (acons (conD (.int 12)) anil))))) anil))) (acons (tupD (acons (tupD (acons (conD (.int 16)) (acons (tupD (acons (conD (.int 4)) (acons (conD (.int 4)) (acons (conD (.int 4)) anil)))) anil))) (acons (tupD (acons (conD (.int 4)) (acons (conD (.int 8)) (acons (conD (.int 12)) anil)))) anil))) (acons (tupD (acons (tupD (acons (conD (.int 15)) (acons (tupD (acons (conD (.int 5)) anil)) anil))) (acons (tupD (acons (conD (.int 5)) anil)) anil))) anil)))))
    (seqS (setS 8 (binD (varD 8) (lstD (acons (tupD (acons (tupD (acons (conD (.int 15)) (acons (tupD (acons (conD (.int 1)) (acons (conD (.int 1)) (acons (conD (.int 1)) anil)))) anil))) (acons (tupD (acons (conD (.int 1)) (acons (conD (.int 2)) (acons (conD (.int 3)) anil)))) anil))) (acons (tupD (acons (tupD (acons (conD (.int 15)) (acons (tupD (acons (conD (.int 2)) (acons (conD (.int 2)) anil))) anil))) (acons (tupD (acons (conD (.int 2)) (acons (conD (.int 4)) anil))) anil))) (acons (tupD (acons (tupD (acons (conD (.int 14)) (acons (tupD (acons (conD (.int 4)) (acons (conD (.int 1)) anil))) anil))) (acons (tupD (acons (conD (.int 4)) (acons (conD (.int 4)) anil))) anil))) anil)))) addG))
    (seqS (unpS (tupT [3, 6]) (callM 1 1 F__law_one (acons (varD 8) anil)))
    (retS (callP 2 F__law_are_states_right (acons (varD 3) (acons (varD 6) anil)))))))))
end K01
end
noncomputable section
namespace DL
open PySem PySem.Spec PyProof.Rows L2
section
variable {P : Program} {w : World} {K : PySem.W.Frag} {cs : List (Addr × Addr)} {mg mb : Str → Option Value} {CX : CXT} {k : Nat} {fa a : Addr} {fd : FuncData} {x : Str} {sp : Sp} {s : Shared} {us : List Value} {ns : List Int}
/-- the tables of the makers, empty, and where they stand -/
structure Makers (K : PySem.W.Frag) (cs : List (Addr × Addr)) (h : Heap) : Prop where
  tab : ∀ p ∈ cs, h.get? p.2 = some { cls := .none, data := .fields #[] }
  code : ∀ p ∈ cs, PySem.W.CodeHd h p.1 p.2
  out : ∀ p ∈ cs, K.lookup p.2 = none
/-- an abstract heap that tracks the tables, and the script at most -/
structure Tracks (cs : List (Addr × Addr)) (a : Addr) (H : Hp) : Prop where
  tabs : ∀ p ∈ cs, H p.2 = some (.tbl #[])
  only : ∀ b, H b = none ∨ (∃ p ∈ cs, p.2 = b) ∨ (b = a ∧ ∃ o xs, H b = some (.frz o (.lst xs)))
theorem lawCore (H : Hp) (hO : Tracks cs a H) (hok : HOk P w H s.heap) (out : H a ≠ none → K.lookup a = none) (mk : Makers K cs s.heap)
    (inK : K.In s.heap) (nsG : s.heap.Ns mainGlobals mg) (nsB : s.heap.Ns builtinsNs mb) (plain : ∀ y : Str, y ≠ "__name__" → mb y = bootBuiltins y) (nolim : s.heap.NoLimit) (nogen : s.gens = #[])
    (bmain : ∃ (bm : Addr) (ob : Obj), mg "__builtins__" = some (.ref bm) ∧ bm ≠ builtinsNs ∧ s.heap.get? bm = some ob ∧ ob.cls = .type "module" ∧ ob.dict = some builtinsNs ∧ ob.data = .plain)
    (isA : s.heap.get? a = some { cls := .type "list", data := .seq us.toArray }) (room : Room k callerA) (guards : callerA.guards = some [])
    (F : ∀ base : Heap, K.In base → base.Ns mainGlobals mg → (∀ p ∈ cs, LamX.TabB base mg p.1 p.2) → FnG P w K mg base CX k fa fd [x] sp) (bind : ∀ (t : Shared) (u : Value), BindsTo t fd ⟨[u], []⟩ [(x, u)])
    (hsp : sp [.ref a] H (fun v _ => v = .bl true) fun _ _ _ => False) (hCX : ∀ e t, CX [] H s (fun _ _ _ => False) e t → False) :
    codeAny (model P w) callerA (.call (.ref fa) ⟨[.ref a], []⟩) (fun r t => r = .ok (.ret (.bool true)) ∧ OldK s.heap t.heap ∧ t.os = s.os ∧ AllBare t.gens) s := by
  -- what is neither the script nor a table is not tracked
  have free : ∀ {b : Addr} {o : Obj}, s.heap.get? b = some o → (∀ ys n, o.data ≠ .seq ys n) → o.data ≠ .fields #[] → H b = none := fun {b o} e h1 h2 => by
    rcases hO.only b with z | ⟨p, hp, rfl⟩ | ⟨rfl, _⟩
    · exact z
    · rw [mk.tab p hp] at e
      cases e
      exact (h2 rfl).elim
    · rw [isA] at e
      cases e
      exact (h1 _ _ rfl).elim
  have ns' : ∀ {b : Addr} {m : Str → Option Value}, s.heap.Ns b m → (hidT s.heap H).Ns b m := fun {b m} z => by
    obtain ⟨o, es, ep, e, d, r⟩ := z
    exact ⟨o, es, ep, hidT_get e (free e (fun ys n q => by rw [d] at q; cases q) (fun q => by rw [d] at q; cases q)), d, r⟩
  have inK' : K.In (hidT s.heap H) := fun b o e => hidT_get (inK b o e) (by
    rcases hO.only b with z | ⟨p, hp, rfl⟩ | ⟨rfl, _, _, z⟩
    · exact z
    · rw [mk.out p hp] at e; cases e
    · rw [out fun q => by rw [z] at q; cases q] at e
      cases e)
  have M : Mod K mg (hidT s.heap H) := by
    obtain ⟨mc, l1, l2⟩ := nolim
    exact ⟨inK', ns' nsG, ⟨mb, ns' nsB, plain⟩, ⟨mc, ns' l1, l2⟩⟩
  have tb : ∀ p ∈ cs, LamX.TabB (hidT s.heap H) mg p.1 p.2 := fun p hp => by
    have at2 := mk.tab p hp
    obtain ⟨o, vs, fl, tf, n7, tg, b9, n10, tt, c1, c2, c3, c4, c5⟩ := mk.code p hp
    obtain ⟨bm, ob, m1, m2, m3, m4, m5, m6⟩ := bmain
    obtain ⟨og, eg, epg, g1, g2, _⟩ := nsG
    have notG : ∀ q : Addr, s.heap.get? q = s.heap.get? mainGlobals → q = mainGlobals → True := fun _ _ _ => trivial
    refine ⟨⟨o, vs, fl, tf, n7, tg, b9, n10, tt, hidT_get c1 (free c1 (fun ys n z => by rw [c3] at z; cases z) fun z => by rw [c3] at z; cases z; simp at c4), c2, c3, c4, c5⟩, ⟨bm, ob, m1, m2, ?_, ?_, hidT_get m3 (free m3 (fun ys n z => by rw [m6] at z; cases z) fun z => by rw [m6] at z; cases z), m4, m5, m6⟩, ?_⟩
    · intro z
      subst z
      rw [g1] at m3
      cases m3
      rw [g2] at m6; cases m6
    · intro z
      subst z
      rw [at2] at m3
      cases m3
      cases m6
    · intro z
      rw [← z, g1] at at2
      cases at2
      cases g2
  have e0 : Env0 P w K mg (hidT s.heap H) callerA [] s H := by
    refine ⟨rfl, M, fun b o e => of_hidT e, Nat.le_of_eq (hidT_size _ _), trivial, fun b hb => ?_, hok, .of_eq nogen⟩
    exact absurd (show b ∈ ([] : List Addr) from hb) (by simp)
  have go := (F _ inK' (ns' nsG) tb).go callerA [] s H ⟨[.ref a], []⟩ [.ref a] [.ref a] _ _ guards room e0 (bind s (.ref a)) (.cons rfl .nil) hsp
  refine codeAny_mono go ?_
  intro r t h
  cases r with
  | error e => exact (hCX e t h).elim
  | ok fl =>
    cases fl with
    | next => exact False.elim h
    | brk => exact False.elim h
    | cont => exact False.elim h
    | ret u =>
      obtain ⟨v, H', hos, hbare, hun, hok', hr, hv⟩ := h
      have hv' : v = .bl true := hv
      subst hv'
      have hu : u = Value.bool true := hr
      subst hu
      -- object by object
      have each : ∀ b o, s.heap.get? b = some o → t.heap.get? b = some o ∨ ∃ p ∈ cs, p.2 = b ∧ ∃ more : Array Value, t.heap.get? b = some { cls := .none, data := .fields more } := fun b o e => by
        rcases hO.only b with z | ⟨p, hp, rfl⟩ | ⟨_, o', ys, z⟩
        · exact .inl (hun.keep b o e z (fun q => absurd (show b ∈ ([] : List Addr) from q) (by simp)) (by simp))
        · obtain ⟨more, q⟩ := hun.tbls p.2 #[] (hO.tabs p hp)
          exact .inr ⟨p, hp, rfl, _, hok' p.2 _ q⟩
        · have z' := hun.frzs b o' _ z
          have f1 := (hok b _ z).1
          have f2 := (hok' b _ z').1
          rw [e] at f1
          cases f1
          exact .inl f2
      refine ⟨rfl, ⟨fun b o e => ?_, fun b o e => ?_⟩, hos, hbare⟩
      · rcases each b o e with z | ⟨p, hp, rfl, more, z⟩
        · exact .inl z
        · have at2 := mk.tab p hp
          rw [at2] at e
          cases e
          exact .inr (.inl ⟨((mk.code p hp).tab at2).isCodeTable, rfl, #[], more, rfl, by rw [Array.empty_append]; exact z⟩)
      · rcases each b o e with z | ⟨_, _, _, _, z⟩
        · exact ⟨_, z⟩
        · exact ⟨_, z⟩
theorem ints_vals : ∀ {us : List Value} {ns : List Int}, IntsAre us ns → Vals (ns.map V.int) us
  | _, _, .nil => .nil
  | _, _, .cons n t h => .cons ⟨t, rfl⟩ (ints_vals h)
theorem lawD (mk : Makers K cs s.heap) (inK : K.In s.heap) (nsG : s.heap.Ns mainGlobals mg) (nsB : s.heap.Ns builtinsNs mb) (plain : ∀ y : Str, y ≠ "__name__" → mb y = bootBuiltins y) (nolim : s.heap.NoLimit) (nogen : s.gens = #[])
    (bmain : ∃ (bm : Addr) (ob : Obj), mg "__builtins__" = some (.ref bm) ∧ bm ≠ builtinsNs ∧ s.heap.get? bm = some ob ∧ ob.cls = .type "module" ∧ ob.dict = some builtinsNs ∧ ob.data = .plain)
    (isA : s.heap.get? a = some { cls := .type "list", data := .seq us.toArray }) (hi : IntsAre us ns) (hl : ns.length ≤ sizeLine) (room : Room k callerA) (guards : callerA.guards = some [])
    (F : ∀ base : Heap, K.In base → base.Ns mainGlobals mg → (∀ p ∈ cs, LamX.TabB base mg p.1 p.2) → FnG P w K mg base CX k fa fd [x] sp) (bind : ∀ (t : Shared) (u : Value), BindsTo t fd ⟨[u], []⟩ [(x, u)])
    (hsp : ∀ H : Hp, Tabs (cs.map (·.2)) H → SqL K H a (ns.map V.int) → sp [.ref a] H (fun v _ => v = .bl true) fun _ _ _ => False) (hCX : ∀ H e t, CX [] H s (fun _ _ _ => False) e t → False) :
    codeAny (model P w) callerA (.call (.ref fa) ⟨[.ref a], []⟩) (fun r t => r = .ok (.ret (.bool true)) ∧ OldK s.heap t.heap ∧ t.os = s.os ∧ AllBare t.gens) s := by
  have lu : us.length = ns.length := hi.length
  have rv := ints_vals hi
  have aT : ∀ p ∈ cs, p.2 ≠ a := fun p hp z => by
    have q := mk.tab p hp
    rw [z, isA] at q
    cases q
  have tabs : ∀ H : Hp, Tracks cs a H → Tabs (cs.map (·.2)) H := fun H t q hq => by
    obtain ⟨p, hp, rfl⟩ := List.mem_map.mp hq
    exact LamX.TabS.nil (t.tabs p hp)
  have tob : ∀ (H : Hp) (b : Addr) (u : HO), (∃ p ∈ cs, p.2 = b) → H b = some (.tbl #[]) → H b = some u → ObjOk P w H s.heap b u := fun H b u hb e z => by
    obtain ⟨p, hp, rfl⟩ := hb
    rw [e] at z
    cases z
    exact mk.tab p hp
  by_cases hk : ∃ o, K.lookup a = some o
  · obtain ⟨o, hk⟩ := hk
    have e := inK a o hk
    rw [isA] at e
    cases e
    have tr : Tracks cs a (fun b => open Classical in if ∃ p ∈ cs, p.2 = b then some (.tbl #[]) else none) := ⟨fun p hp => if_pos ⟨p, hp, rfl⟩, fun b => by
      by_cases hb : ∃ p ∈ cs, p.2 = b
      · exact .inr (.inl hb)
      · exact .inl (if_neg hb)⟩
    have na : (fun b => open Classical in if ∃ p ∈ cs, p.2 = b then some (HO.tbl #[]) else none) a = none := if_neg fun ⟨p, hp, z⟩ => aT p hp z
    have hS : ∀ H : Hp, SqL K H a (ns.map V.int) := fun H => .inr ⟨_, us.toArray, _, hk, rfl, rfl, rfl, by rw [List.size_toArray, lu]; exact hl, by simpa using rv⟩
    refine lawCore _ tr (fun b u z => ?_) (fun z => absurd na z) mk inK nsG nsB plain nolim nogen bmain isA room guards F bind (hsp _ (tabs _ tr) (hS _)) (hCX _)
    by_cases hb : ∃ p ∈ cs, p.2 = b
    · exact tob _ b u hb (if_pos hb) z
    · exact absurd ((if_neg hb).symm.trans z) (fun q => nomatch q)
  · have hk : K.lookup a = none := by
      cases e : K.lookup a with
      | none => rfl
      | some o => exact absurd ⟨o, e⟩ hk
    have tr : Tracks cs a (fun b => open Classical in if b = a then some (HO.frz { cls := .type "list", data := .seq us.toArray } (.lst (ns.map V.int))) else if ∃ p ∈ cs, p.2 = b then some (.tbl #[]) else none) := ⟨fun p hp => (if_neg (aT p hp)).trans (if_pos ⟨p, hp, rfl⟩), fun b => by
      by_cases ha : b = a
      · exact .inr (.inr ⟨ha, _, _, if_pos ha⟩)
      · by_cases hb : ∃ p ∈ cs, p.2 = b
        · exact .inr (.inl hb)
        · exact .inl ((if_neg ha).trans (if_neg hb))⟩
    have hA : (fun b => open Classical in if b = a then some (HO.frz { cls := .type "list", data := .seq us.toArray } (.lst (ns.map V.int))) else if ∃ p ∈ cs, p.2 = b then some (.tbl #[]) else none) a = some (HO.frz { cls := .type "list", data := .seq us.toArray } (.lst (ns.map V.int))) := if_pos rfl
    refine lawCore _ tr (fun b u z => ?_) (fun _ => hk) mk inK nsG nsB plain nolim nogen bmain isA room guards F bind (hsp _ (tabs _ tr) (.inl (.inr ⟨_, hA⟩))) (hCX _)
    by_cases ha : b = a
    · subst ha
      have z' := hA.symm.trans z
      cases z'
      exact ⟨isA, by rw [List.length_map]; exact hl, us, _, rv, isA⟩
    · by_cases hb : ∃ p ∈ cs, p.2 = b
      · exact tob _ b u hb ((if_neg ha).trans (if_pos hb)) z
      · exact absurd (((if_neg ha).trans (if_neg hb)).symm.trans z) (fun q => nomatch q)
theorem noTab_of {h : Heap} {Q : Addr} (X : K.In h) (e : PySem.W.noTabs K = true) (hQ : h.get? Q = some { cls := .none, data := .fields #[] }) : K.lookup Q = none := by
  cases l : K.lookup Q with
  | none => rfl
  | some o =>
    have q := X Q o l
    rw [hQ] at q
    cases q
    have z := List.all_eq_true.mp e _ (PySem.W.mem_of_lookupK l)
    exact absurd (show false = true from z) Bool.false_ne_true
/-- the end: with makers -/
theorem walkT {l : PySem.W.OpenLaw} {n k : Nat} {q : Program} {loose : List Str} {XP : (Str → Option Value) → Heap → Prop} {YP : World → Heap → Prop} {d : DefRec} {K : Params → PySem.W.Frag} {sp : Fg → Sp} {x : Str} (cs : List (Addr × Addr))
    (hn : l.most = some n) (hn2 : n ≤ sizeLine) (hdf : d.params.defaults = []) (hr : Room k callerA) (hg : callerA.guards = some [])
    (hY : ∀ (w : World) (h : Heap), YP w h → (K w.params).In h) (hT : ∀ (w : World) (h : Heap), YP w h → ∀ p ∈ cs, h.get? p.2 = some { cls := .none, data := .fields #[] })
    (hN : ∀ w : World, PySem.W.noTabs (K w.params) = true) (hC : ∀ w : World, ∀ p ∈ cs, PySem.W.codeHdIn (K w.params) p.1 p.2 = true)
    (F : ∀ (w : World) (mg : Str → Option Value) (fa : Addr) (h : Heap), (K w.params).In h → h.Ns mainGlobals mg → mg d.name = some (.ref fa) →
      ∃ fd : FuncData, (∀ (t : Shared) (u : Value), BindsTo t fd ⟨[u], []⟩ [(x, u)]) ∧ ∀ base : Heap, (K w.params).In base → base.Ns mainGlobals mg → (∀ p ∈ cs, LamX.TabB base mg p.1 p.2) → FnG l.prog w (K w.params) mg base CX0 k fa fd [x] (sp ⟨K w.params, cs.map (·.2)⟩))
    (hsp : ∀ (K : Fg) (H : Hp) (a : Addr) (ns : List Int), ns.length ≤ n → Tabs K.T H → SqL K H a (ns.map V.int) → sp K [.ref a] H (fun v _ => v = .bl true) fun _ _ _ => False) :
    PySem.W.WalkO q loose XP YP l.row.toRowW d [] (fun f vs => PySem.call f vs) := by
  refine Att.attach_call hn hdf fun w s₀ s₁ mg mb fa o pm cd doc a vs ns G Y ho hd hcd hmg hobj hints hlen hgn => ?_
  have KX := hY w _ Y
  have at2 := hT w _ Y
  obtain ⟨fd, hb, hF⟩ := F w mg fa _ KX G.T.g hmg
  exact lawD (cs := cs) ⟨at2, fun p hp => PySem.W.codeHd_of_K KX (hC w p hp), fun p hp => noTab_of KX (hN w) (at2 p hp)⟩ KX G.T.g G.T.b G.T.builtins G.T.nolimit hgn G.T.bmain hobj hints (Nat.le_trans hlen hn2) hr hg hF hb (fun H hT hS => hsp ⟨K w.params, cs.map (·.2)⟩ H a ns hlen hT hS) fun H e t z => z
end
def RIs (K : Fg) (ns : List Int) : TI := fun σ H R => ∃ P B L ρ a, Rep K P B L σ ρ H ∧ σ[0]? = some (some (V.ref a)) ∧ SqL K H a (ns.map V.int) ∧
  ∀ J H' L' E', Post K P B L σ H [] ρ H' L' E' → WalksA K (E' ++ P) B L' H' J ((ns.take 63).map .int) → R J H'
theorem cut63 (ns : List Int) : cutV (ns.map V.int) none (some 63) = (ns.take 63).map V.int := by
  unfold cutV
  rw [HT.sIx_none, show HT.sIx (ns.map V.int).length (ns.map V.int).length (some 63) = min 63 (ns.map V.int).length from HT.sIx_nat _ _ 63, List.drop_zero, Nat.sub_zero, List.map_take]
  by_cases h : 63 ≤ (ns.map V.int).length
  · rw [Nat.min_eq_left h]
  · rw [Nat.min_eq_right (by omega), List.take_of_length_le (Nat.le_refl _), List.take_of_length_le (by omega)]
section
variable {X : Cx} {tl : TL} {tgE : Expr} {x : Str} {p pos p2 ip : Pos} {ik : Option Str} {ns : List Int}
theorem i_scr {kk} (hN : X.N[0]? = some x := by rfl) (hv : Vis X.env.scope x := by first | exact Or.inl rfl | exact Or.inr (Or.inl rfl) | exact Or.inr (Or.inr rfl)) (hd : (x == ("__debug__" : Str)) = false := by decide) (hcd : (x == ("__classdict__" : Str)) = false := by decide) :
    PI X tgE (.Subscript (.Name x p) (.Slice none (some (.Constant (.int 63) kk ip)) none p2) pos) (RIs (X.D tl) ns) :=
  (pi_list (pe_slice sl_list (pe_var hN hv hd hcd) po_none (po_some pe_int))).imp fun σ H R h => by
    obtain ⟨P, B, L, ρ, a, R0, e1, hS, k⟩ := h
    refine ⟨.ref a, e1, 63, rfl, a, ns.map V.int, rfl, hS, fun c hc => ?_⟩
    rw [cut63]
    have kp : Keep [] H (upd H c (.lst ((ns.take 63).map V.int))) := Keep.new hc
    have R1 := R0.same kp
    refine ⟨c, rfl, ⟨_, .of upd_same⟩, k _ _ L [] (.same (E := []) R0 kp) (walks_l R1 (.lst (fun z => ?_) upd_same (DqA.of_ints _)))⟩
    obtain ⟨vs, q, _⟩ := R0.wl c z
    rw [hc] at q
    cases q
theorem lc_scr {own is : List Nat} {K : Fg} {tg : GD} {tt : TD} {te : ED} (hin : ∀ i ∈ is, i ∈ own) {σ : L2.St} {H : Hp} {Q : VK} (h : (∃ a, σ[0]? = some (some (V.ref a)) ∧ SqL K H a (ns.map V.int)) ∧ RD K (lcD own (fun ρ => some ((ns.take 63).map .int, ρ)) tg tt te) σ H Q) :
    tLc (RIs K ns) (RG K is tg) (RT K tt) (RD K te) own σ H Q := by
  obtain ⟨⟨a, e1, hS⟩, h⟩ := h
  obtain ⟨P, B, L, ρ, ds, ρ', R0, e, k⟩ := lc_imp hin h
  cases e
  exact ⟨P, B, L, ρ, a, R0, e1, hS, k⟩
end
/-- what the first row makes of a script -/
def bagD (ns : List Int) : List PyData := [.int 0, .int 1234567891, .int 0, .list (((ns.take 63).map fun i => if i < 0 then -i else i).map .int)]
def spB (K : Fg) : Sp := fun vs H Q _ => ∃ (a : Addr) (ns : List Int), vs = [.ref a] ∧ SqL K H a (ns.map V.int) ∧ Tabs K.T H ∧ ∀ b us H', Keep [] H H' → H b = none → H' b = some (.lst us) → DqA K H' [b] us (bagD ns) → Q (.ref b) H'
/-- what law(script) promises -/
def spL (K : Fg) : Sp := fun vs H Q _ => ∃ (a : Addr) (ns : List Int), vs = [.ref a] ∧ SqL K H a (ns.map V.int) ∧ ns.length ≤ 63 ∧ Tabs K.T H ∧ ∀ H', Q (.bl true) H'
theorem bag_lc (ns : List Int) {ρ : DL.Env} (h : (ρ.getD 1 .no).isOpen = false) (hl : 1 < ρ.length) : lcD [1] (fun ρ => some ((ns.take 63).map .int, ρ)) (nameT 1) yesT (callD (acons (varD 1) anil) (oneG absG)) ρ = some (.own (((ns.take 63).map fun i => if i < 0 then -i else i).map .int), restE (wipeE ρ [1]) ρ [1]) := by
  have go : ∀ (l : List Int) (acc : List PyData), acc.length + l.length < 1000 → lcLoop [1] (nameT 1) yesT (callD (acons (varD 1) anil) (oneG absG)) acc (l.map .int) (wipeE ρ [1]) = some (acc ++ (l.map fun i => if i < 0 then -i else i).map .int, wipeE ρ [1]) := by
    intro l
    induction l with
    | nil => intro acc _; simp [lcLoop]
    | cons i l ih =>
      intro acc ha
      have e1 : (varD 1) ((wipeE ρ [1]).set 1 (.cl (.int i))) = some (.cl (.int i), (wipeE ρ [1]).set 1 (.cl (.int i))) := by
        unfold varD
        rw [getD_set, if_pos ⟨rfl, by simp [wipeE]; omega⟩]
      have e2 : (callD (acons (varD 1) anil) (oneG absG)) ((wipeE ρ [1]).set 1 (.cl (.int i))) = some (.cl (.int (if i < 0 then -i else i)), (wipeE ρ [1]).set 1 (.cl (.int i))) := by
        show ((acons (varD 1) anil) _).bind _ = _
        unfold acons
        rw [e1]
        rfl
      have e3 : wipeE ((wipeE ρ [1]).set 1 (.cl (.int i))) [1] = wipeE ρ [1] := by
        simp [wipeE, List.set_set]
      show (some ((wipeE ρ [1]).set 1 (.cl (.int i)))).bind _ = _
      simp only [Option.bind_some]
      show (some (true, (wipeE ρ [1]).set 1 (.cl (.int i)))).bind _ = _
      simp only [Option.bind_some, if_true]
      rw [e2]
      simp only [Option.bind_some, psV]
      rw [if_pos (show acc.length < lim by rw [lim_eq]; rw [List.length_cons] at ha; omega), e3, ih (acc ++ [_]) (by rw [List.length_append, List.length_cons, List.length_nil]; rw [List.length_cons] at ha; omega)]
      simp
  show (some ((ns.take 63).map PyData.int, ρ)).bind _ = _
  simp only [Option.bind_some]
  rw [if_pos (by simpa using h), go _ _ (by rw [List.length_take]; simp; omega)]
  rfl
section
variable {K : Fg} {N : List Str} {a : Addr} {ns : List Int} {H : Hp} {Q : VK}
theorem rep_no {P B L : List Addr} (h : ∀ b ∈ P ++ B ++ L, ∃ u, H b = some u ∧ OwnO u) (nd : (∀ b ∈ P, b ∉ B ∧ b ∉ L) ∧ ∀ b ∈ B, b ∉ L) (ht : Tabs K.T H) (σ : L2.St) : Rep K P B L σ (List.replicate σ.length .no) H := by
  have e : ∀ i, (List.replicate σ.length Cell.no).getD i .no = .no := fun i => by
    rw [List.getD_eq_getElem?_getD, List.getElem?_replicate]
    split <;> rfl
  refine ⟨by simp, h, nd, fun i => ?_, fun i j b _ h1 _ _ _ => ?_, ht⟩
  · rw [e]; trivial
  · rw [e] at h1; cases h1
theorem bag_read (hN : N.length = 2) (hS : SqL K H a (ns.map V.int)) (ht : Tabs K.T H) (k : ∀ b us H', Keep [] H H' → H b = none → H' b = some (.lst us) → DqA K H' [b] us (bagD ns) → Q (.ref b) H') :
    (tRet (tLst (tCons (tC (.int 0)) (tCons (tC (.int 1234567891)) (tCons (tC (.int 0)) (tCons (fun σ H Q => (∃ a, σ[0]? = some (some (V.ref a)) ∧ SqL K H a (ns.map V.int)) ∧ RD K (lcD [1] (fun ρ => some ((ns.take 63).map .int, ρ)) (nameT 1) yesT (callD (acons (varD 1) anil) (oneG absG))) σ H Q) tNil))))))
      { nx := fun _ H' => Q .non H', rt := Q } (L2.start N [V.ref a]) H := by
  have hl : (L2.start N [V.ref a]).length = 2 := by rw [start_len (by rw [hN]; exact (by decide : 1 ≤ 2)), hN]
  have R0 := rep_no (K := K) (H := H) (P := []) (B := []) (L := []) (fun _ z => nomatch z) ⟨(fun _ z => nomatch z), (fun _ z => nomatch z)⟩ ht (L2.start N [V.ref a])
  rw [hl] at R0
  refine ⟨⟨a, rfl, hS⟩, [], [], [], _, _, _, R0, bag_lc ns rfl (by decide), fun x H' L' E' p v => ?_⟩
  obtain ⟨c, vs, rfl, hc, _, hh, dq⟩ := v
  refine ⟨by show 4 ≤ sizeLine; rw [sizeLine_eq]; decide, fun b hb => ?_⟩
  have kp : Keep [] H H' := p.step.keep
  have hb0 : H b = none := by
    cases e : H b with
    | none => rfl
    | some o => exact absurd hb (p.step.ne b (by rw [e]; exact fun z => nomatch z))
  have cb : c ≠ b := fun z => by rw [z, hb] at hh; cases hh
  refine k b _ _ (kp.tr (Keep.new hb)) hb0 upd_same ?_
  refine .cons (.int 0) (.cons (.int _) (.cons (.int 0) (.cons (.lst (by simpa using cb) (by rw [upd_ne cb]; exact hh) ?_) .nil)))
  rw [DqA.ints dq]
  exact DqA.of_ints _
theorem law_read {g : SD} (hN : 2 ≤ N.length) (hS : SqL K H a (ns.map V.int)) (ht : Tabs K.T H) (q : ∀ H', Q (.bl true) H') (hg : ∃ ρ', g (Cell.no :: Cell.op (bagD ns) :: List.replicate (N.length - 2) .no) = some (.rt (.cl (.bool true)) ρ')) {E : XK} :
    (tSeq (tAsg (fun σ H Q => (tCons (tVar 0) tNil) σ H fun vs H1 => spB K vs H1 Q E) (gName 1)) (RS K g)) { nx := fun _ H' => Q .non H', rt := Q } (L2.start N [V.ref a]) H := by
  have hl : (L2.start N [V.ref a]).length = N.length := start_len (by show 1 ≤ _; omega)
  refine ⟨.ref a, by show (L2.start N [V.ref a])[0]? = _; rfl, a, ns, rfl, hS, ht, fun b us H' kp hb hb' dq => ?_⟩
  obtain ⟨ρ', e⟩ := hg
  show RS K g _ ((L2.start N [V.ref a]).set 1 (some (V.ref b))) H'
  have gd : ∀ i, (Cell.no :: Cell.op (bagD ns) :: List.replicate (N.length - 2) Cell.no).getD i .no = if i = 1 then .op (bagD ns) else .no := fun i => by
    match i with
    | 0 => rfl
    | 1 => rfl
    | i + 2 =>
      rw [if_neg (by omega), List.getD_eq_getElem?_getD, List.getElem?_cons_succ, List.getElem?_cons_succ, List.getElem?_replicate]
      split <;> rfl
  refine ⟨[], [], [b], _, _, ⟨?_, ?_, ⟨(fun _ z => nomatch z), (fun _ z => nomatch z)⟩, fun i => ?_, fun i j c hij h1 h2 _ _ => ?_, kp.tab _ ht⟩, e, ?_⟩
  · rw [List.length_set, hl]
    simp
    omega
  · intro c hc
    have : c = b := by simpa using hc
    subst this
    exact ⟨_, hb', .lst us⟩
  · rw [gd]
    by_cases hi : i = 1
    · subst hi
      rw [if_pos rfl]
      refine ⟨b, us, ?_, by simp, hb', by simpa using dq⟩
      rw [getS_set, if_pos ⟨rfl, by rw [hl]; omega⟩]
    · rw [if_neg hi]; trivial
  · rw [gd] at h1 h2
    by_cases hi : i = 1
    · by_cases hj : j = 1
      · exact hij (hi.trans hj.symm)
      · rw [if_neg hj] at h2; cases h2
    · rw [if_neg hi] at h1; cases h1
  · intro σ' x H2 L' E' R s f v
    rw [v.bl]
    exact q H2
end
end DL
end
namespace K01
open PySem PySem.Spec PyProof.Rows L2 DL
def topS (i : Nat) : Stmt := PySem.Challenge.pw_floorkeepers_k01_houses_and_states.main.body.getD i (.Pass ⟨0, 0, 0, 0⟩)
abbrev s_rooms_within : Stmt := topS 5
abbrev N_rooms_within : List Str := ["house", "floor"]
abbrev P_rooms_within : List Str := ["house"]
theorem sc_rooms_within : FnScope N_rooms_within P_rooms_within (defScope s_rooms_within) := ⟨rfl, rfl, rfl, by decide +kernel, rfl, by decide +kernel, by decide +kernel⟩
theorem ok_rooms_within {P : Program} {w : World} {K : Fg} {mg : Str → Option Value} {base : Heap} (B : Blt mg) (D : Def K mg "rooms_within" s_rooms_within P_rooms_within)  :
    Ok P w K mg base 1 "rooms_within" P_rooms_within (spP K 1 F_rooms_within) :=
  Ok.pure (N := N_rooms_within) D sc_rooms_within rfl (by decide) fun f cdv A outer s H E hA hr =>
    have hu := hu64 hr
    (s_one (s_ret (d_callTy c_tuple (loc_one loc_tuple) (by rfl) B.tuple boot_tuple (a_cons (d_lc (own := [(("floor" : Str), 1)]) rfl sc_rooms_within.nd (i_rng1 (by rfl) B.range (a_cons (d_callB c_len (loc_one loc_len) (by rfl) B.len PySem.boot_len (a_cons (d_ix ix_both loc_ix (d_var 0) d_int (fun _ _ => rfl)) a_nil)) a_nil)) (blkOk_by (N := N_rooms_within) (sc := defScope s_rooms_within) (by decide +kernel)) (by decide) (fun _ _ _ _ _ => (g_name 1 sc_rooms_within.nd)) (fun _ _ _ _ _ => i_yes) (fun _ _ _ _ _ => (d_callB (c_sum rfl) (loc_one loc_sum) (by rfl) B.sum boot_sum (a_cons (d_slice (d_ix ix_both loc_ix (d_var 0) d_int (fun _ _ => rfl)) o_none (o_some (d_bin op_addAll loc_add (d_var 1) d_int))) a_nil)))) a_nil))))
abbrev s_things_within : Stmt := topS 8
abbrev N_things_within : List Str := ["house", "state", "floor", "thing"]
abbrev P_things_within : List Str := ["house", "state", "floor"]
theorem sc_things_within : FnScope N_things_within P_things_within (defScope s_things_within) := ⟨rfl, rfl, rfl, by decide +kernel, rfl, by decide +kernel, by decide +kernel⟩
theorem ok_things_within {P : Program} {w : World} {K : Fg} {mg : Str → Option Value} {base : Heap} (B : Blt mg) (D : Def K mg "things_within" s_things_within P_things_within)  :
    Ok P w K mg base 1 "things_within" P_things_within (spP K 3 F_things_within) :=
  Ok.pure (N := N_things_within) D sc_things_within rfl (by decide) fun f cdv A outer s H E hA hr =>
    have hu := hu64 hr
    (s_one (s_ret (d_callTy c_tuple (loc_one loc_tuple) (by rfl) B.tuple boot_tuple (a_cons (d_lc (own := [(("thing" : Str), 3)]) rfl sc_things_within.nd (i_rng1 (by rfl) B.range (a_cons (d_ix ix_both loc_ix (d_var 0) d_int (fun _ _ => rfl)) a_nil)) (blkOk_by (N := N_things_within) (sc := defScope s_things_within) (by decide +kernel)) (by decide) (fun _ _ _ _ _ => (g_name 3 sc_things_within.nd)) (fun _ _ _ _ _ => (i_one (t_cmp op_le loc_i2b (d_ix ix_both loc_ix (d_var 1) (d_var 3) (fun _ _ => rfl)) (d_var 2) (nomark _)))) (fun _ _ _ _ _ => (d_var 3))) a_nil))))
abbrev s_sizes_of : Stmt := topS 6
abbrev N_sizes_of : List Str := ["house", "state", "floor"]
abbrev P_sizes_of : List Str := ["house", "state"]
theorem sc_sizes_of : FnScope N_sizes_of P_sizes_of (defScope s_sizes_of) := ⟨rfl, rfl, rfl, by decide +kernel, rfl, by decide +kernel, by decide +kernel⟩
theorem ok_sizes_of {P : Program} {w : World} {K : Fg} {mg : Str → Option Value} {base : Heap} (B : Blt mg) (D : Def K mg "sizes_of" s_sizes_of P_sizes_of) (O_things_within : Ok P w K mg base 1 "things_within" P_things_within (spP K 3 F_things_within)) :
    Ok P w K mg base 2 "sizes_of" P_sizes_of (spP K 2 F_sizes_of) :=
  Ok.pure (N := N_sizes_of) D sc_sizes_of rfl (by decide) fun f cdv A outer s H E hA hr =>
    have hu := hu64 hr
    (s_one (s_ret (d_callTy c_tuple (loc_one loc_tuple) (by rfl) B.tuple boot_tuple (a_cons (d_lc (own := [(("floor" : Str), 2)]) rfl sc_sizes_of.nd (i_rng1 (by rfl) B.range (a_cons (d_callB c_len (loc_one loc_len) (by rfl) B.len PySem.boot_len (a_cons (d_ix ix_both loc_ix (d_var 0) d_int (fun _ _ => rfl)) a_nil)) a_nil)) (blkOk_by (N := N_sizes_of) (sc := defScope s_sizes_of) (by decide +kernel)) (by decide) (fun _ _ _ _ _ => (g_name 2 sc_sizes_of.nd)) (fun _ _ _ _ _ => i_yes) (fun _ _ _ _ _ => (d_callB c_len (loc_one loc_len) (by rfl) B.len PySem.boot_len (a_cons (e_P O_things_within hA (hr.mono (by decide)) (a_cons (d_var 0) (a_cons (d_var 1) (a_cons (d_var 2) a_nil)))) a_nil)))) a_nil))))
abbrev s_things_on : Stmt := topS 7
abbrev N_things_on : List Str := ["house", "state", "floor", "thing"]
abbrev P_things_on : List Str := ["house", "state", "floor"]
theorem sc_things_on : FnScope N_things_on P_things_on (defScope s_things_on) := ⟨rfl, rfl, rfl, by decide +kernel, rfl, by decide +kernel, by decide +kernel⟩
theorem ok_things_on {P : Program} {w : World} {K : Fg} {mg : Str → Option Value} {base : Heap} (B : Blt mg) (D : Def K mg "things_on" s_things_on P_things_on)  :
    Ok P w K mg base 1 "things_on" P_things_on (spP K 3 F_things_on) :=
  Ok.pure (N := N_things_on) D sc_things_on rfl (by decide) fun f cdv A outer s H E hA hr =>
    have hu := hu64 hr
    (s_one (s_ret (d_callTy c_tuple (loc_one loc_tuple) (by rfl) B.tuple boot_tuple (a_cons (d_lc (own := [(("thing" : Str), 3)]) rfl sc_things_on.nd (i_rng1 (by rfl) B.range (a_cons (d_ix ix_both loc_ix (d_var 0) d_int (fun _ _ => rfl)) a_nil)) (blkOk_by (N := N_things_on) (sc := defScope s_things_on) (by decide +kernel)) (by decide) (fun _ _ _ _ _ => (g_name 3 sc_things_on.nd)) (fun _ _ _ _ _ => (i_one (t_cmp (op_eqQ hu) loc_eqQ (d_ix ix_both loc_ix (d_var 1) (d_var 3) (fun _ _ => rfl)) (d_var 2) (nomark _)))) (fun _ _ _ _ _ => (d_var 3))) a_nil))))
abbrev s_filled_up : Stmt := topS 9
abbrev N_filled_up : List Str := ["house", "state", "floor"]
abbrev P_filled_up : List Str := ["house", "state", "floor"]
theorem sc_filled_up : FnScope N_filled_up P_filled_up (defScope s_filled_up) := ⟨rfl, rfl, rfl, by decide +kernel, rfl, by decide +kernel, by decide +kernel⟩
theorem ok_filled_up {P : Program} {w : World} {K : Fg} {mg : Str → Option Value} {base : Heap} (B : Blt mg) (D : Def K mg "filled_up" s_filled_up P_filled_up) (O_sizes_of : Ok P w K mg base 2 "sizes_of" P_sizes_of (spP K 2 F_sizes_of)) (O_rooms_within : Ok P w K mg base 1 "rooms_within" P_rooms_within (spP K 1 F_rooms_within)) :
    Ok P w K mg base 3 "filled_up" P_filled_up (spP K 3 F_filled_up) :=
  Ok.pure (N := N_filled_up) D sc_filled_up rfl (by decide) fun f cdv A outer s H E hA hr =>
    have hu := hu64 hr
    (s_one (s_ret (d_cmp (op_eqQ hu) loc_eqQ (d_ix ix_both loc_ix (e_P O_sizes_of hA (hr.mono (by decide)) (a_cons (d_var 0) (a_cons (d_var 1) a_nil))) (d_var 2) (fun _ _ => rfl)) (d_ix ix_both loc_ix (e_P O_rooms_within hA (hr.mono (by decide)) (a_cons (d_var 0) a_nil)) (d_var 2) (fun _ _ => rfl)) (nomark _))))
abbrev s_empty_state : Stmt := topS 10
abbrev N_empty_state : List Str := ["house"]
abbrev P_empty_state : List Str := ["house"]
theorem sc_empty_state : FnScope N_empty_state P_empty_state (defScope s_empty_state) := ⟨rfl, rfl, rfl, by decide +kernel, rfl, by decide +kernel, by decide +kernel⟩
theorem ok_empty_state {P : Program} {w : World} {K : Fg} {mg : Str → Option Value} {base : Heap} (B : Blt mg) (D : Def K mg "empty_state" s_empty_state P_empty_state)  :
    Ok P w K mg base 1 "empty_state" P_empty_state (spP K 1 F_empty_state) :=
  Ok.pure (N := N_empty_state) D sc_empty_state rfl (by decide) fun f cdv A outer s H E hA hr =>
    have hu := hu64 hr
    (s_one (s_ret (d_bin op_mulAll loc_mul (d_tup (a_cons (d_callB c_len (loc_one loc_len) (by rfl) B.len PySem.boot_len (a_cons (d_ix ix_both loc_ix (d_var 0) d_int (fun _ _ => rfl)) a_nil)) a_nil)) (d_ix ix_both loc_ix (d_var 0) d_int (fun _ _ => rfl)))))
abbrev s_least_state : Stmt := topS 12
abbrev N_least_state : List Str := ["house", "sizes", "many", "rooms", "floors", "floor", "size", "count"]
abbrev P_least_state : List Str := ["house", "sizes"]
theorem sc_least_state : FnScope N_least_state P_least_state (defScope s_least_state) := ⟨rfl, rfl, rfl, by decide +kernel, rfl, by decide +kernel, by decide +kernel⟩
theorem ok_least_state {P : Program} {w : World} {K : Fg} {mg : Str → Option Value} {base : Heap} (B : Blt mg) (D : Def K mg "least_state" s_least_state P_least_state)  :
    Ok P w K mg base 1 "least_state" P_least_state (spP K 2 F_least_state) :=
  Ok.pure (N := N_least_state) D sc_least_state rfl (by decide) fun f cdv A outer s H E hA hr =>
    have hu := hu64 hr
    (s_cons (s_unp (d_var 0) (g_tup rfl (pgs_cons (h_name 2 sc_least_state.nd) (pgs_cons (h_name 3 sc_least_state.nd) pgs_nil)) rfl))
    (s_cons (s_set 4 (d_lst a_nil) sc_least_state.nd)
    (s_cons (s_for PassesOwn.never rfl (i_enum (by rfl) B.enumerate (a_cons (d_var 1) a_nil)) (g_tup rfl (pgs_cons (h_name 5 sc_least_state.nd) (pgs_cons (h_name 6 sc_least_state.nd) pgs_nil)) rfl) (s_cons (s_set 7 (d_bin op_sub loc_i2i (d_var 6) (d_callB c_len (loc_one loc_len) (by rfl) B.len PySem.boot_len (a_cons (d_var 4) a_nil))) sc_least_state.nd)
    (s_cons (s_if ((t_or (t_cmp op_lt loc_i2b (d_var 7) d_int (nomark _)) (t_or (t_cmp op_gt loc_i2b (d_var 7) (d_ix ix_both loc_ix (d_var 3) (d_var 5) (fun _ _ => rfl)) (nomark _)) (t_or1 (t_cmp op_gt loc_i2b (d_var 6) (d_var 2) (nomark _)))))).pt (s_one (s_ret d_non)) s_nil)
    (s_one (s_expr (d_met (T := "list") 4 PySem.F.slot_list_extend PySem.F.type_list_extend mt_extend locM_ext (a_cons (d_bin op_mulAll loc_mul (d_lst (a_cons (d_var 5) a_nil)) (d_var 7)) a_nil)))))))
    (s_one (s_ret (d_callTy c_tuple (loc_one loc_tuple) (by rfl) B.tuple boot_tuple (a_cons (d_bin op_addAll loc_add (d_var 4) (d_bin op_mulAll loc_mul (d_lst (a_cons (d_callB c_len (loc_one loc_len) (by rfl) B.len PySem.boot_len (a_cons (d_var 3) a_nil)) a_nil)) (d_bin op_sub loc_i2i (d_var 2) (d_callB c_len (loc_one loc_len) (by rfl) B.len PySem.boot_len (a_cons (d_var 4) a_nil))))) a_nil)))))))
abbrev s_state_after : Stmt := topS 13
abbrev N_state_after : List Str := ["state", "at", "other", "floors"]
abbrev P_state_after : List Str := ["state"]
theorem sc_state_after : FnScope N_state_after P_state_after (defScope s_state_after) := ⟨rfl, rfl, rfl, by decide +kernel, rfl, by decide +kernel, by decide +kernel⟩
theorem ok_state_after {P : Program} {w : World} {K : Fg} {mg : Str → Option Value} {base : Heap} (B : Blt mg) (D : Def K mg "state_after" s_state_after P_state_after)  :
    Ok P w K mg base 1 "state_after" P_state_after (spP K 1 F_state_after) :=
  Ok.pure (N := N_state_after) D sc_state_after rfl (by decide) fun f cdv A outer s H E hA hr =>
    have hu := hu64 hr
    (s_cons (s_set 1 (d_bin op_sub loc_i2i (d_callB c_len (loc_one loc_len) (by rfl) B.len PySem.boot_len (a_cons (d_var 0) a_nil)) d_int) sc_state_after.nd)
    (s_cons (s_while 10000 PassesOwn.never ((t_and (t_cmp op_ge loc_i2b (d_var 1) d_int (nomark _)) (t_and1 (t_cmp op_ge loc_i2b (d_ix ix_both loc_ix (d_var 0) (d_var 1) (fun _ _ => rfl)) (d_ix ix_both loc_ix (d_var 0) (d_bin op_addAll loc_add (d_var 1) d_int) (fun _ _ => rfl)) (nomark _))))).pt (s_one (s_aug 1 ip_sub d_int sc_state_after.nd)))
    (s_cons (s_if (t_cmp op_lt loc_i2b (d_var 1) d_int (nomark _)) (s_one (s_ret d_non)) s_nil)
    (s_cons (s_set 2 (d_bin op_sub loc_i2i (d_callB c_len (loc_one loc_len) (by rfl) B.len PySem.boot_len (a_cons (d_var 0) a_nil)) d_int) sc_state_after.nd)
    (s_cons (s_while 10000 PassesOwn.never (t_cmp op_le loc_i2b (d_ix ix_both loc_ix (d_var 0) (d_var 2) (fun _ _ => rfl)) (d_ix ix_both loc_ix (d_var 0) (d_var 1) (fun _ _ => rfl)) (nomark _)) (s_one (s_aug 2 ip_sub d_int sc_state_after.nd)))
    (s_cons (s_set 3 (d_callTy c_list (loc_one loc_list) (by rfl) B.list boot_list (a_cons (d_var 0) a_nil)) sc_state_after.nd)
    (s_cons (s_asgSS 3 1 3 2 rfl (a_cons (d_ix ix_both loc_ix (d_var 3) (d_var 2) (fun _ _ => rfl)) (a_cons (d_ix ix_both loc_ix (d_var 3) (d_var 1) (fun _ _ => rfl)) a_nil)))
    (s_one (s_ret (d_callTy c_tuple (loc_one loc_tuple) (by rfl) B.tuple boot_tuple (a_cons (d_bin op_addAll loc_add (d_slice (d_var 3) o_none (o_some (d_bin op_addAll loc_add (d_var 1) d_int))) (d_down (d_var 3) (o_some (d_var 1)))) a_nil)))))))))))
abbrev s_all_states : Stmt := topS 11
abbrev N_all_states : List Str := ["house", "sizes", "state", "states"]
abbrev P_all_states : List Str := ["house", "sizes"]
theorem sc_all_states : FnScope N_all_states P_all_states (defScope s_all_states) := ⟨rfl, rfl, rfl, by decide +kernel, rfl, by decide +kernel, by decide +kernel⟩
theorem ok_all_states {P : Program} {w : World} {K : Fg} {mg : Str → Option Value} {base : Heap} {c_TooMany : Addr} (B : Blt mg) (D : Def K mg "all_states" s_all_states P_all_states) (C_MOST_STATES : ∃ u, mg "MOST_STATES" = some u ∧ RelV (.int 3000) u) (E_TooMany : ErrD K mg "TooMany" c_TooMany "most") (O_least_state : Ok P w K mg base 1 "least_state" P_least_state (spP K 2 F_least_state)) (O_state_after : Ok P w K mg base 1 "state_after" P_state_after (spP K 1 F_state_after)) :
    OkE P w K mg base 3 "all_states" P_all_states 2 c_TooMany "most" G_all_states :=
  OkE.of (N := N_all_states) D sc_all_states rfl (by decide) fun f cdv A outer s H E hA hr tk =>
    have hu := hu64 hr
    (x_seq (s_set 2 (e_P O_least_state hA (hr.mono (by decide)) (a_cons (d_var 0) (a_cons (d_var 1) a_nil))) sc_all_states.nd)
    (x_seq (s_set 3 (d_lst a_nil) sc_all_states.nd)
    (x_seqE (x_while 10000 (passes_of rfl) (t_cmp op_notN loc_notN (d_var 2) d_non (nomark _)) (x_ifR (t_cmp (op_eqQ hu) loc_eqQ (d_callB c_len (loc_one loc_len) (by rfl) B.len PySem.boot_len (a_cons (d_var 3) a_nil)) (d_glob C_MOST_STATES) (nomark _)) (x_raise rfl tk E_TooMany (hr.mono (by decide)) (d_glob C_MOST_STATES)) (x_pure (s_cons (s_expr (d_met (T := "list") 3 PySem.F.slot_list_append PySem.F.type_list_append mt_append locM_app (a_cons (d_var 2) a_nil)))
    (s_one (s_set 2 (e_P O_state_after hA (hr.mono (by decide)) (a_cons (d_var 2) a_nil)) sc_all_states.nd)))) (fun h => rse_raise_any h)))
    (x_pure (s_one (s_ret (d_var 3)))))))
abbrev s__law_take : Stmt := topS 16
abbrev N__law_take : List Str := ["_law_bag_here", "_law_many", "_law_cell", "_law_stirred", "_law_value", "_law_begin", "_law_second"]
abbrev P__law_take : List Str := ["_law_bag_here", "_law_many"]
theorem sc__law_take : FnScope N__law_take P__law_take (defScope s__law_take) := ⟨rfl, rfl, rfl, by decide +kernel, rfl, by decide +kernel, by decide +kernel⟩
theorem ok__law_take {P : Program} {w : World} {K : Fg} {mg : Str → Option Value} {base : Heap} (B : Blt mg) (D : Def K mg "_law_take" s__law_take P__law_take)  :
    Ok P w K mg base 1 "_law_take" P__law_take (spM K 1 F__law_take) :=
  Ok.mut (N := N__law_take) D sc__law_take rfl (by decide) fun f cdv A outer s H E hA hr =>
    have hu := hu64 hr
    (s_cons (s_if (t_cmp (op_eqQ hu) loc_eqQ (d_ix ix_both loc_ix (d_var 0) d_int (fun _ _ => rfl)) d_int (nomark _)) (s_cons (s_set 2 (d_ix ix_both loc_ix (d_bin op_addAll loc_add (d_slice (d_ix ix_both loc_ix (d_var 0) d_int (fun _ _ => rfl)) (o_some (d_ix ix_both loc_ix (d_var 0) d_int (fun _ _ => rfl))) o_none) (d_lst (a_cons d_int a_nil))) d_int (fun _ _ => rfl)) sc__law_take.nd)
    (s_cons (s_augIx 0 ip_add d_int d_int)
    (s_cons (s_if (t_cmp op_ge loc_i2b (d_var 2) (d_bin op_pow loc_pow d_int d_int) (nomark _)) (s_one (s_setIx 0 (d_var 2) d_int)) s_nil)
    (s_cons (s_set 3 (d_bin op_addAll loc_add (d_bin op_addAll loc_add (d_bin op_mulAll loc_mul (d_ix ix_both loc_ix (d_var 0) d_int (fun _ _ => rfl)) d_int) (d_bin op_mod loc_mod (d_callTy c_intT (loc_one loc_intT) (by rfl) B.int boot_int (a_cons (d_var 2) a_nil)) d_int)) (d_bin op_mulAll loc_mul d_int (d_ix ix_both loc_ix (d_var 0) d_int (fun _ _ => rfl)))) sc__law_take.nd)
    (s_one (s_setIx 0 (d_bin op_mod loc_mod (d_callTy c_intT (loc_one loc_intT) (by rfl) B.int boot_int (a_cons (d_var 3) a_nil)) d_int) d_int)))))) s_nil)
    (s_cons (s_if (t_cmp op_gt loc_i2b (d_ix ix_both loc_ix (d_var 0) d_int (fun _ _ => rfl)) d_int (nomark _)) (s_cons (s_set 4 (d_bin op_mod loc_mod (d_callTy c_intT (loc_one loc_intT) (by rfl) B.int boot_int (a_cons (d_ix ix_both loc_ix (d_var 0) d_int (fun _ _ => rfl)) a_nil)) (d_var 1)) sc__law_take.nd)
    (s_cons (s_setIx 0 (d_bin op_fdivW loc_fdiv (d_callTy c_intT (loc_one loc_intT) (by rfl) B.int boot_int (a_cons (d_ix ix_both loc_ix (d_var 0) d_int (fun _ _ => rfl)) a_nil)) (d_var 1)) d_int)
    (s_one (s_ret (d_var 4))))) s_nil)
    (s_cons (s_set 5 (d_bin op_mod loc_mod (d_callTy c_intT (loc_one loc_intT) (by rfl) B.int boot_int (a_cons (d_bin op_mulAll loc_mul (d_bin op_addAll loc_add (d_ix ix_both loc_ix (d_var 0) d_int (fun _ _ => rfl)) d_int) d_int) a_nil)) d_int) sc__law_take.nd)
    (s_cons (s_set 6 (d_bin op_mod loc_mod (d_callTy c_intT (loc_one loc_intT) (by rfl) B.int boot_int (a_cons (d_bin op_mulAll loc_mul (d_bin op_mod loc_mod (d_callTy c_intT (loc_one loc_intT) (by rfl) B.int boot_int (a_cons (d_bin op_mulAll loc_mul (d_var 5) (d_var 5)) a_nil)) d_int) d_int) a_nil)) d_int) sc__law_take.nd)
    (s_one (s_ret (d_bin op_mod loc_mod (d_callTy c_intT (loc_one loc_intT) (by rfl) B.int boot_int (a_cons (d_bin op_fdivW loc_fdiv (d_var 6) d_int) a_nil)) (d_var 1))))))))
abbrev s__law_one : Stmt := topS 17
abbrev N__law_one : List Str := ["_law_bag_here", "_law_things"]
abbrev P__law_one : List Str := ["_law_bag_here", "_law_things"]
theorem sc__law_one : FnScope N__law_one P__law_one (defScope s__law_one) := ⟨rfl, rfl, rfl, by decide +kernel, rfl, by decide +kernel, by decide +kernel⟩
theorem ok__law_one {P : Program} {w : World} {K : Fg} {mg : Str → Option Value} {base : Heap} (B : Blt mg) (D : Def K mg "_law_one" s__law_one P__law_one) (O__law_take : Ok P w K mg base 1 "_law_take" P__law_take (spM K 1 F__law_take)) :
    Ok P w K mg base 2 "_law_one" P__law_one (spM K 1 F__law_one) :=
  Ok.mut (N := N__law_one) D sc__law_one rfl (by decide) fun f cdv A outer s H E hA hr =>
    have hu := hu64 hr
    (s_one (s_ret (d_ix ix_both loc_ix (d_var 1) (e_M 0 O__law_take hA (hr.mono (by decide)) (a_cons (d_callB c_len (loc_one loc_len) (by rfl) B.len PySem.boot_len (a_cons (d_var 1) a_nil)) a_nil)) (fun _ _ => rfl))))
abbrev s__law_mixed : Stmt := topS 18
abbrev N__law_mixed : List Str := ["_law_bag_here", "_law_things", "_law_found", "_law_thing"]
abbrev P__law_mixed : List Str := ["_law_bag_here", "_law_things"]
theorem sc__law_mixed : FnScope N__law_mixed P__law_mixed (defScope s__law_mixed) := ⟨rfl, rfl, rfl, by decide +kernel, rfl, by decide +kernel, by decide +kernel⟩
theorem ok__law_mixed {P : Program} {w : World} {K : Fg} {mg : Str → Option Value} {base : Heap} (B : Blt mg) (D : Def K mg "_law_mixed" s__law_mixed P__law_mixed) (O__law_take : Ok P w K mg base 1 "_law_take" P__law_take (spM K 1 F__law_take)) :
    Ok P w K mg base 2 "_law_mixed" P__law_mixed (spM K 1 F__law_mixed) :=
  Ok.mut (N := N__law_mixed) D sc__law_mixed rfl (by decide) fun f cdv A outer s H E hA hr =>
    have hu := hu64 hr
    (s_cons (s_set 2 (d_lst a_nil) sc__law_mixed.nd)
    (s_cons (s_for PassesOwn.never rfl (i_seq (d_var 1)) (g_name 3 sc__law_mixed.nd) (s_one (s_expr (d_met (T := "list") 2 PySem.F.slot_list_insert PySem.F.type_list_insert mt_insert locM_ins (a_cons (e_M 0 O__law_take hA (hr.mono (by decide)) (a_cons (d_bin op_addAll loc_add (d_callB c_len (loc_one loc_len) (by rfl) B.len PySem.boot_len (a_cons (d_var 2) a_nil)) d_int) a_nil)) (a_cons (d_var 3) a_nil))))))
    (s_one (s_ret (d_var 2)))))
abbrev s__law_alike : Stmt := topS 19
abbrev N__law_alike : List Str := ["_law_found", "_law_due"]
abbrev P__law_alike : List Str := ["_law_found", "_law_due"]
theorem sc__law_alike : FnScope N__law_alike P__law_alike (defScope s__law_alike) := ⟨rfl, rfl, rfl, by decide +kernel, rfl, by decide +kernel, by decide +kernel⟩
theorem ok__law_alike {P : Program} {w : World} {K : Fg} {mg : Str → Option Value} {base : Heap} (B : Blt mg) (D : Def K mg "_law_alike" s__law_alike P__law_alike)  :
    Ok P w K mg base 1 "_law_alike" P__law_alike (spP K 2 F__law_alike) :=
  Ok.pure (N := N__law_alike) D sc__law_alike rfl (by decide) fun f cdv A outer s H E hA hr =>
    have hu := hu64 hr
    (s_one (s_ret (d_and (d_cmp (op_eqQ hu) loc_eqQ (d_var 0) (d_var 1) (nomark _)) (d_one (d_cmp (op_eqQ hu) loc_eqQ (d_callB (c_repr hA hu) (loc_one loc_repr) (by rfl) B.repr boot_repr (a_cons (d_var 0) a_nil)) (d_callB (c_repr hA hu) (loc_one loc_repr) (by rfl) B.repr boot_repr (a_cons (d_var 1) a_nil)) (nomark _))))))
abbrev s__law_house : Stmt := topS 20
abbrev N__law_house : List Str := ["_law_bag_here", "_law_things", "_law_floors", "_law_rooms", "_law_many", "_law_found", "_law_left", "_law_floor"]
abbrev P__law_house : List Str := ["_law_bag_here", "_law_things", "_law_floors", "_law_rooms"]
theorem sc__law_house : FnScope N__law_house P__law_house (defScope s__law_house) := ⟨rfl, rfl, rfl, by decide +kernel, rfl, by decide +kernel, by decide +kernel⟩
theorem ok__law_house {P : Program} {w : World} {K : Fg} {mg : Str → Option Value} {base : Heap} (B : Blt mg) (D : Def K mg "_law_house" s__law_house P__law_house) (O__law_one : Ok P w K mg base 2 "_law_one" P__law_one (spM K 1 F__law_one)) (O__law_take : Ok P w K mg base 1 "_law_take" P__law_take (spM K 1 F__law_take)) :
    Ok P w K mg base 3 "_law_house" P__law_house (spM K 3 F__law_house) :=
  Ok.mut (N := N__law_house) D sc__law_house rfl (by decide) fun f cdv A outer s H E hA hr =>
    have hu := hu64 hr
    (s_cons (s_set 4 (e_M 0 O__law_one hA (hr.mono (by decide)) (a_cons (d_lst (a_cons (d_var 1) (a_cons (d_var 1) (a_cons d_int (a_cons d_int (a_cons d_int (a_cons d_int (a_cons (e_M 0 O__law_take hA (hr.mono (by decide)) (a_cons (d_bin op_addAll loc_add (d_var 1) d_int) a_nil)) a_nil)))))))) a_nil)) sc__law_house.nd)
    (s_cons (s_par2 rfl (by decide) sc__law_house.nd (a_cons (d_lst a_nil) (a_cons (d_var 3) a_nil)))
    (s_cons (s_for PassesOwn.never rfl (i_rng1 (by rfl) B.range (a_cons (e_M 0 O__law_one hA (hr.mono (by decide)) (a_cons (d_lst (a_cons (d_var 2) (a_cons d_int (a_cons (d_var 2) (a_cons d_int (a_cons (d_bin op_addAll loc_add d_int (e_M 0 O__law_take hA (hr.mono (by decide)) (a_cons (d_var 2) a_nil))) a_nil)))))) a_nil)) a_nil)) (g_name 7 sc__law_house.nd) (s_one (s_if ((t_and (t_cmp op_gt loc_i2b (d_var 6) d_int (nomark _)) (t_and1 (t_cmp op_lt loc_i2b (d_var 7) (d_var 2) (nomark _))))).pt (s_cons (s_expr (d_met (T := "list") 5 PySem.F.slot_list_append PySem.F.type_list_append mt_append locM_app (a_cons (d_callB (c_min2 rfl) loc_min2 (by rfl) B.min boot_min (a_cons (d_var 6) (a_cons (e_M 0 O__law_one hA (hr.mono (by decide)) (a_cons (d_lst (a_cons d_int (a_cons d_int (a_cons d_int (a_cons d_int (a_cons d_int (a_cons d_int (a_cons (d_bin op_addAll loc_add d_int (e_M 0 O__law_take hA (hr.mono (by decide)) (a_cons (d_var 3) a_nil))) a_nil)))))))) a_nil)) a_nil))) a_nil)))
    (s_one (s_aug 6 ip_sub (d_ix ix_both loc_ix (d_var 5) (d_un un_neg loc_neg d_int) (fun _ _ => rfl)) sc__law_house.nd))) s_nil)))
    (s_one (s_ret (d_tup (a_cons (d_callB (c_min2 rfl) loc_min2 (by rfl) B.min boot_min (a_cons (d_var 4) (a_cons (d_var 1) a_nil))) (a_cons (d_callTy c_tuple (loc_one loc_tuple) (by rfl) B.tuple boot_tuple (a_cons (d_var 5) a_nil)) a_nil))))))))
abbrev s__law_rooms_within : Stmt := topS 21
abbrev N__law_rooms_within : List Str := ["_law_house_here", "_law_floor"]
abbrev P__law_rooms_within : List Str := ["_law_house_here"]
theorem sc__law_rooms_within : FnScope N__law_rooms_within P__law_rooms_within (defScope s__law_rooms_within) := ⟨rfl, rfl, rfl, by decide +kernel, rfl, by decide +kernel, by decide +kernel⟩
theorem ok__law_rooms_within {P : Program} {w : World} {K : Fg} {mg : Str → Option Value} {base : Heap} (B : Blt mg) (D : Def K mg "_law_rooms_within" s__law_rooms_within P__law_rooms_within)  :
    Ok P w K mg base 1 "_law_rooms_within" P__law_rooms_within (spP K 1 F__law_rooms_within) :=
  Ok.pure (N := N__law_rooms_within) D sc__law_rooms_within rfl (by decide) fun f cdv A outer s H E hA hr =>
    have hu := hu64 hr
    (s_one (s_ret (d_lc (own := [(("_law_floor" : Str), 1)]) rfl sc__law_rooms_within.nd (i_rng1 (by rfl) B.range (a_cons (d_callB c_len (loc_one loc_len) (by rfl) B.len PySem.boot_len (a_cons (d_ix ix_both loc_ix (d_var 0) d_int (fun _ _ => rfl)) a_nil)) a_nil)) (blkOk_by (N := N__law_rooms_within) (sc := defScope s__law_rooms_within) (by decide +kernel)) (by decide) (fun _ _ _ _ _ => (g_name 1 sc__law_rooms_within.nd)) (fun _ _ _ _ _ => i_yes) (fun _ _ _ _ _ => (d_callB (c_sum rfl) (loc_one loc_sum) (by rfl) B.sum boot_sum (a_cons (d_slice (d_ix ix_both loc_ix (d_var 0) d_int (fun _ _ => rfl)) o_none (o_some (d_bin op_addAll loc_add (d_var 1) d_int))) a_nil))))))
abbrev s__law_within : Stmt := topS 22
abbrev N__law_within : List Str := ["_law_house_here", "_law_state_here", "_law_floor", "_law_thing"]
abbrev P__law_within : List Str := ["_law_house_here", "_law_state_here", "_law_floor"]
theorem sc__law_within : FnScope N__law_within P__law_within (defScope s__law_within) := ⟨rfl, rfl, rfl, by decide +kernel, rfl, by decide +kernel, by decide +kernel⟩
theorem ok__law_within {P : Program} {w : World} {K : Fg} {mg : Str → Option Value} {base : Heap} (B : Blt mg) (D : Def K mg "_law_within" s__law_within P__law_within)  :
    Ok P w K mg base 1 "_law_within" P__law_within (spP K 3 F__law_within) :=
  Ok.pure (N := N__law_within) D sc__law_within rfl (by decide) fun f cdv A outer s H E hA hr =>
    have hu := hu64 hr
    (s_one (s_ret (d_lc (own := [(("_law_thing" : Str), 3)]) rfl sc__law_within.nd (i_rng1 (by rfl) B.range (a_cons (d_ix ix_both loc_ix (d_var 0) d_int (fun _ _ => rfl)) a_nil)) (blkOk_by (N := N__law_within) (sc := defScope s__law_within) (by decide +kernel)) (by decide) (fun _ _ _ _ _ => (g_name 3 sc__law_within.nd)) (fun _ _ _ _ _ => (i_one (t_cmp op_le loc_i2b (d_ix ix_both loc_ix (d_var 1) (d_var 3) (fun _ _ => rfl)) (d_var 2) (nomark _)))) (fun _ _ _ _ _ => (d_var 3)))))
abbrev s__law_sizes : Stmt := topS 23
abbrev N__law_sizes : List Str := ["_law_house_here", "_law_state_here", "_law_floor"]
abbrev P__law_sizes : List Str := ["_law_house_here", "_law_state_here"]
theorem sc__law_sizes : FnScope N__law_sizes P__law_sizes (defScope s__law_sizes) := ⟨rfl, rfl, rfl, by decide +kernel, rfl, by decide +kernel, by decide +kernel⟩
theorem ok__law_sizes {P : Program} {w : World} {K : Fg} {mg : Str → Option Value} {base : Heap} (B : Blt mg) (D : Def K mg "_law_sizes" s__law_sizes P__law_sizes) (O__law_within : Ok P w K mg base 1 "_law_within" P__law_within (spP K 3 F__law_within)) :
    Ok P w K mg base 2 "_law_sizes" P__law_sizes (spP K 2 F__law_sizes) :=
  Ok.pure (N := N__law_sizes) D sc__law_sizes rfl (by decide) fun f cdv A outer s H E hA hr =>
    have hu := hu64 hr
    (s_one (s_ret (d_callTy c_tuple (loc_one loc_tuple) (by rfl) B.tuple boot_tuple (a_cons (d_lc (own := [(("_law_floor" : Str), 2)]) rfl sc__law_sizes.nd (i_rng1 (by rfl) B.range (a_cons (d_callB c_len (loc_one loc_len) (by rfl) B.len PySem.boot_len (a_cons (d_ix ix_both loc_ix (d_var 0) d_int (fun _ _ => rfl)) a_nil)) a_nil)) (blkOk_by (N := N__law_sizes) (sc := defScope s__law_sizes) (by decide +kernel)) (by decide) (fun _ _ _ _ _ => (g_name 2 sc__law_sizes.nd)) (fun _ _ _ _ _ => i_yes) (fun _ _ _ _ _ => (d_callB c_len (loc_one loc_len) (by rfl) B.len PySem.boot_len (a_cons (e_P O__law_within hA (hr.mono (by decide)) (a_cons (d_var 0) (a_cons (d_var 1) (a_cons (d_var 2) a_nil)))) a_nil)))) a_nil))))
abbrev s__law_state : Stmt := topS 24
abbrev N__law_state : List Str := ["_law_bag_here", "_law_house_here", "_law_many", "_law_rooms", "_law_left", "_law_way", "_law_state_here", "_law_thing", "_law_open_floors", "_law_floor", "_law_free"]
abbrev P__law_state : List Str := ["_law_bag_here", "_law_house_here"]
theorem sc__law_state : FnScope N__law_state P__law_state (defScope s__law_state) := ⟨rfl, rfl, rfl, by decide +kernel, rfl, by decide +kernel, by decide +kernel⟩
theorem ok__law_state {P : Program} {w : World} {K : Fg} {mg : Str → Option Value} {base : Heap} (B : Blt mg) (D : Def K mg "_law_state" s__law_state P__law_state) (O__law_mixed : Ok P w K mg base 2 "_law_mixed" P__law_mixed (spM K 1 F__law_mixed)) (O__law_one : Ok P w K mg base 2 "_law_one" P__law_one (spM K 1 F__law_one)) (O__law_take : Ok P w K mg base 1 "_law_take" P__law_take (spM K 1 F__law_take)) :
    Ok P w K mg base 3 "_law_state" P__law_state (spM K 1 F__law_state) :=
  Ok.mut (N := N__law_state) D sc__law_state rfl (by decide) fun f cdv A outer s H E hA hr =>
    have hu := hu64 hr
    (s_cons (s_unp (d_var 1) (g_tup rfl (pgs_cons (h_name 2 sc__law_state.nd) (pgs_cons (h_name 3 sc__law_state.nd) pgs_nil)) rfl))
    (s_cons (s_par3 rfl (by decide) (by decide) (by decide) sc__law_state.nd (a_cons (d_callTy c_list (loc_one loc_list) (by rfl) B.list boot_list (a_cons (d_var 3) a_nil)) (a_cons (e_M 0 O__law_take hA (hr.mono (by decide)) (a_cons d_int a_nil)) (a_cons (d_bin op_mulAll loc_mul (d_lst (a_cons (d_callB c_len (loc_one loc_len) (by rfl) B.len PySem.boot_len (a_cons (d_var 3) a_nil)) a_nil)) (d_var 2)) a_nil))))
    (s_cons (s_for PassesOwn.never rfl (i_seq (e_M 0 O__law_mixed hA (hr.mono (by decide)) (a_cons (d_lstR1 (by rfl) B.list (by rfl) B.range rfl (d_var 2)) a_nil))) (g_name 7 sc__law_state.nd) (s_cons (s_setLcB 8 (own := [(("_law_floor" : Str), 9), (("_law_free" : Str), 10)]) rfl sc__law_state.nd (sw_true rfl rfl rfl (by decide +kernel)) (i_lent 4 (by rfl) B.enumerate) (blkOk_by (N := N__law_state) (sc := defScope s__law_state) (by decide +kernel)) (by decide) (fun _ _ _ _ _ => (g_tup rfl (pgs_cons (h_name 9 sc__law_state.nd) (pgs_cons (h_name 10 sc__law_state.nd) pgs_nil)) rfl)) (fun _ _ _ _ _ => (i_one (t_cmp op_gt loc_i2b (d_var 10) d_int (nomark _)))) (fun _ _ _ _ _ => (d_var 9)))
    (s_cons (s_if ((t_and (t_cmp (op_eqQ hu) loc_eqQ (d_var 5) d_int (nomark _)) (t_and1 (t_cmp (op_neQ hu) loc_neQ (d_var 8) (d_lst a_nil) (nomark _))))).pt (s_one (s_setIx 6 (d_ix ix_both loc_ix (d_var 8) d_int (fun _ _ => rfl)) (d_var 7))) (s_one (s_if ((t_and (t_cmp op_gt loc_i2b (d_var 5) d_int (nomark _)) (t_and1 (t_cmp (op_neQ hu) loc_neQ (d_var 8) (d_lst a_nil) (nomark _))))).pt (s_one (s_setIx 6 (e_M 0 O__law_one hA (hr.mono (by decide)) (a_cons (d_bin op_addAll loc_add (d_var 8) (d_bin op_mulAll loc_mul (d_lst (a_cons (d_callB c_len (loc_one loc_len) (by rfl) B.len PySem.boot_len (a_cons (d_var 3) a_nil)) a_nil)) (d_bin op_sub loc_i2i (d_var 5) d_int))) a_nil)) (d_var 7))) s_nil)))
    (s_one (s_if (t_cmp op_lt loc_i2b (d_ix ix_both loc_ix (d_var 6) (d_var 7) (fun _ _ => rfl)) (d_callB c_len (loc_one loc_len) (by rfl) B.len PySem.boot_len (a_cons (d_var 3) a_nil)) (nomark _)) (s_one (s_augIx 4 ip_sub (d_ix ix_both loc_ix (d_var 6) (d_var 7) (fun _ _ => rfl)) d_int)) s_nil)))))
    (s_one (s_ret (d_callTy c_tuple (loc_one loc_tuple) (by rfl) B.tuple boot_tuple (a_cons (d_var 6) a_nil)))))))
abbrev s__law_states_many : Stmt := topS 25
abbrev N__law_states_many : List Str := ["_law_house_here", "_law_sizes_here", "_law_found", "_law_left", "_law_ahead", "_law_size", "_law_rooms", "_law_more", "_law_k"]
abbrev P__law_states_many : List Str := ["_law_house_here", "_law_sizes_here"]
theorem sc__law_states_many : FnScope N__law_states_many P__law_states_many (defScope s__law_states_many) := ⟨rfl, rfl, rfl, by decide +kernel, rfl, by decide +kernel, by decide +kernel⟩
theorem ok__law_states_many {P : Program} {w : World} {K : Fg} {mg : Str → Option Value} {base : Heap} (B : Blt mg) (D : Def K mg "_law_states_many" s__law_states_many P__law_states_many)  :
    Ok P w K mg base 1 "_law_states_many" P__law_states_many (spP K 2 F__law_states_many) :=
  Ok.pure (N := N__law_states_many) D sc__law_states_many rfl (by decide) fun f cdv A outer s H E hA hr =>
    have hu := hu64 hr
    (s_cons (s_par3 rfl (by decide) (by decide) (by decide) sc__law_states_many.nd (a_cons d_int (a_cons (d_ix ix_both loc_ix (d_var 0) d_int (fun _ _ => rfl)) (a_cons d_int a_nil))))
    (s_cons (s_for PassesOwn.never rfl (i_zip (by rfl) B.zip (a_cons (d_var 1) (a_cons (d_ix ix_both loc_ix (d_var 0) d_int (fun _ _ => rfl)) a_nil))) (g_tup rfl (pgs_cons (h_name 5 sc__law_states_many.nd) (pgs_cons (h_name 6 sc__law_states_many.nd) pgs_nil)) rfl) (s_cons (s_set 7 (d_bin op_sub loc_i2i (d_var 5) (d_var 4)) sc__law_states_many.nd)
    (s_cons (s_if (t_not (t_chain op_le op_le loc_i2b loc_i2b d_int (d_var 7) (d_callB (c_min2 rfl) loc_min2 (by rfl) B.min boot_min (a_cons (d_var 6) (a_cons (d_var 3) a_nil))))) (s_one (s_ret d_int)) s_nil)
    (s_cons (s_for PassesOwn.never rfl (i_rng1 (by rfl) B.range (a_cons (d_var 7) a_nil)) (g_name 8 sc__law_states_many.nd) (s_one (s_set 2 (d_bin op_fdivW loc_fdiv (d_bin op_mulAll loc_mul (d_var 2) (d_bin op_sub loc_i2i (d_var 3) (d_var 8))) (d_bin op_addAll loc_add (d_var 8) d_int)) sc__law_states_many.nd)))
    (s_one (s_par2 rfl (by decide) sc__law_states_many.nd (a_cons (d_bin op_sub loc_i2i (d_var 3) (d_var 7)) (a_cons (d_var 5) a_nil))))))))
    (s_one (s_ret (d_var 2)))))
abbrev s__law_states_of_sizes : Stmt := topS 26
abbrev N__law_states_of_sizes : List Str := ["_law_house_here", "_law_sizes_here", "_law_each", "_law_found", "_law_thing", "_law_more", "_law_state_here", "_law_left", "_law_floor", "_law_free", "_law_size", "_law_ahead"]
abbrev P__law_states_of_sizes : List Str := ["_law_house_here", "_law_sizes_here"]
theorem sc__law_states_of_sizes : FnScope N__law_states_of_sizes P__law_states_of_sizes (defScope s__law_states_of_sizes) := ⟨rfl, rfl, rfl, by decide +kernel, rfl, by decide +kernel, by decide +kernel⟩
theorem ok__law_states_of_sizes {P : Program} {w : World} {K : Fg} {mg : Str → Option Value} {base : Heap} (B : Blt mg) (D : Def K mg "_law_states_of_sizes" s__law_states_of_sizes P__law_states_of_sizes) (O__law_states_many : Ok P w K mg base 1 "_law_states_many" P__law_states_many (spP K 2 F__law_states_many)) :
    Ok P w K mg base 2 "_law_states_of_sizes" P__law_states_of_sizes (spP K 2 F__law_states_of_sizes) :=
  Ok.pure (N := N__law_states_of_sizes) D sc__law_states_of_sizes rfl (by decide) fun f cdv A outer s H E hA hr =>
    have hu := hu64 hr
    (s_cons (s_if (t_cmp (op_eqQ hu) loc_eqQ (e_P O__law_states_many hA (hr.mono (by decide)) (a_cons (d_var 0) (a_cons (d_var 1) a_nil))) d_int (nomark _)) (s_one (s_ret (d_lst a_nil))) s_nil)
    (s_cons (s_set 2 (d_bin op_addAll loc_add (d_lc (own := [(("_law_size" : Str), 10), (("_law_ahead" : Str), 11)]) rfl sc__law_states_of_sizes.nd (i_zip (by rfl) B.zip (a_cons (d_var 1) (a_cons (d_bin op_addAll loc_add (d_tup (a_cons d_int a_nil)) (d_var 1)) a_nil))) (blkOk_by (N := N__law_states_of_sizes) (sc := defScope s__law_states_of_sizes) (by decide +kernel)) (by decide) (fun _ _ _ _ _ => (g_tup rfl (pgs_cons (h_name 10 sc__law_states_of_sizes.nd) (pgs_cons (h_name 11 sc__law_states_of_sizes.nd) pgs_nil)) rfl)) (fun _ _ _ _ _ => i_yes) (fun _ _ _ _ _ => (d_bin op_sub loc_i2i (d_var 10) (d_var 11)))) (d_lst (a_cons (d_bin op_sub loc_i2i (d_ix ix_both loc_ix (d_var 0) d_int (fun _ _ => rfl)) (d_ix ix_both loc_ix (d_var 1) (d_un un_neg loc_neg d_int) (fun _ _ => rfl))) a_nil))) sc__law_states_of_sizes.nd)
    (s_cons (s_set 3 (d_lst (a_cons (d_tup (a_cons (d_tup a_nil) (a_cons (d_callTy c_tuple (loc_one loc_tuple) (by rfl) B.tuple boot_tuple (a_cons (d_var 2) a_nil)) a_nil))) a_nil)) sc__law_states_of_sizes.nd)
    (s_cons (s_for PassesOwn.never rfl (i_rng1 (by rfl) B.range (a_cons (d_ix ix_both loc_ix (d_var 0) d_int (fun _ _ => rfl)) a_nil)) (g_name 4 sc__law_states_of_sizes.nd) (s_cons (s_set 5 (d_lst a_nil) sc__law_states_of_sizes.nd)
    (s_cons (s_for PassesOwn.never rfl (i_seq (d_var 3)) (g_tup rfl (pgs_cons (h_name 6 sc__law_states_of_sizes.nd) (pgs_cons (h_name 7 sc__law_states_of_sizes.nd) pgs_nil)) rfl) (s_one (s_for PassesOwn.never rfl (i_enum (by rfl) B.enumerate (a_cons (d_var 7) a_nil)) (g_tup rfl (pgs_cons (h_name 8 sc__law_states_of_sizes.nd) (pgs_cons (h_name 9 sc__law_states_of_sizes.nd) pgs_nil)) rfl) (s_one (s_if (t_cmp op_gt loc_i2b (d_var 9) d_int (nomark _)) (s_one (s_expr (d_met (T := "list") 5 PySem.F.slot_list_append PySem.F.type_list_append mt_append locM_app (a_cons (d_tup (a_cons (d_bin op_addAll loc_add (d_var 6) (d_tup (a_cons (d_var 8) a_nil))) (a_cons (d_bin op_addAll loc_add (d_bin op_addAll loc_add (d_slice (d_var 7) o_none (o_some (d_var 8))) (d_tup (a_cons (d_bin op_sub loc_i2i (d_var 9) d_int) a_nil))) (d_slice (d_var 7) (o_some (d_bin op_addAll loc_add (d_var 8) d_int)) o_none)) a_nil))) a_nil)))) s_nil)))))
    (s_one (s_set 3 (d_var 5) sc__law_states_of_sizes.nd)))))
    (s_one (s_ret (d_lc (own := [(("_law_state_here" : Str), 6), (("_law_left" : Str), 7)]) rfl sc__law_states_of_sizes.nd (i_seq (d_var 3)) (blkOk_by (N := N__law_states_of_sizes) (sc := defScope s__law_states_of_sizes) (by decide +kernel)) (by decide) (fun _ _ _ _ _ => (g_tup rfl (pgs_cons (h_name 6 sc__law_states_of_sizes.nd) (pgs_cons (h_name 7 sc__law_states_of_sizes.nd) pgs_nil)) rfl)) (fun _ _ _ _ _ => i_yes) (fun _ _ _ _ _ => (d_var 6)))))))))
abbrev s__law_is_told_right : Stmt := topS 27
abbrev N__law_is_told_right : List Str := ["_law_house_here", "_law_state_here", "_law_floors", "_law_rooms", "_law_sizes_here", "_law_on", "_law_within_here", "_law_full", "_law_floor", "_law_thing", "_law_size", "_law_room"]
abbrev P__law_is_told_right : List Str := ["_law_house_here", "_law_state_here"]
theorem sc__law_is_told_right : FnScope N__law_is_told_right P__law_is_told_right (defScope s__law_is_told_right) := ⟨rfl, rfl, rfl, by decide +kernel, rfl, by decide +kernel, by decide +kernel⟩
theorem ok__law_is_told_right {P : Program} {w : World} {K : Fg} {mg : Str → Option Value} {base : Heap} (B : Blt mg) (D : Def K mg "_law_is_told_right" s__law_is_told_right P__law_is_told_right) (O__law_alike : Ok P w K mg base 1 "_law_alike" P__law_alike (spP K 2 F__law_alike)) (O_rooms_within : Ok P w K mg base 1 "rooms_within" P_rooms_within (spP K 1 F_rooms_within)) (O_sizes_of : Ok P w K mg base 2 "sizes_of" P_sizes_of (spP K 2 F_sizes_of)) (O_empty_state : Ok P w K mg base 1 "empty_state" P_empty_state (spP K 1 F_empty_state)) (O_filled_up : Ok P w K mg base 3 "filled_up" P_filled_up (spP K 3 F_filled_up)) (O_things_within : Ok P w K mg base 1 "things_within" P_things_within (spP K 3 F_things_within)) (O__law_within : Ok P w K mg base 1 "_law_within" P__law_within (spP K 3 F__law_within)) (O_things_on : Ok P w K mg base 1 "things_on" P_things_on (spP K 3 F_things_on)) (O__law_rooms_within : Ok P w K mg base 1 "_law_rooms_within" P__law_rooms_within (spP K 1 F__law_rooms_within)) (O__law_sizes : Ok P w K mg base 2 "_law_sizes" P__law_sizes (spP K 2 F__law_sizes)) :
    Ok P w K mg base 4 "_law_is_told_right" P__law_is_told_right (spP K 2 F__law_is_told_right) :=
  Ok.pure (N := N__law_is_told_right) D sc__law_is_told_right rfl (by decide) fun f cdv A outer s H E hA hr =>
    have hu := hu64 hr
    (s_cons (s_par3 rfl (by decide) (by decide) (by decide) sc__law_is_told_right.nd (a_cons (d_callB c_len (loc_one loc_len) (by rfl) B.len PySem.boot_len (a_cons (d_ix ix_both loc_ix (d_var 0) d_int (fun _ _ => rfl)) a_nil)) (a_cons (e_P O__law_rooms_within hA (hr.mono (by decide)) (a_cons (d_var 0) a_nil)) (a_cons (e_P O__law_sizes hA (hr.mono (by decide)) (a_cons (d_var 0) (a_cons (d_var 1) a_nil))) a_nil))))
    (s_cons (s_setLc 5 (own := [(("_law_floor" : Str), 8)]) rfl sc__law_is_told_right.nd (sw_true rfl rfl rfl (by decide +kernel)) (i_rng1 (by rfl) B.range (a_cons (d_bin op_addAll loc_add (d_var 2) d_int) a_nil)) (blkOk_by (N := N__law_is_told_right) (sc := defScope s__law_is_told_right) (by decide +kernel)) (by decide) (fun _ _ _ _ _ => (g_name 8 sc__law_is_told_right.nd)) (fun _ _ _ _ _ => i_yes) (fun _ _ _ _ _ => (d_callTy c_tuple (loc_one loc_tuple) (by rfl) B.tuple boot_tuple (a_cons (d_lc (own := [(("_law_thing" : Str), 9)]) rfl sc__law_is_told_right.nd (i_rng1 (by rfl) B.range (a_cons (d_ix ix_both loc_ix (d_var 0) d_int (fun _ _ => rfl)) a_nil)) (blkOk_nest (N := N__law_is_told_right) (sc := defScope s__law_is_told_right) rfl rfl (by decide +kernel)) (by decide) (fun _ _ _ _ _ => (g_name 9 sc__law_is_told_right.nd)) (fun _ _ _ _ _ => (i_one (t_cmp (op_eqQ hu) loc_eqQ (d_ix ix_both loc_ix (d_var 1) (d_var 9) (fun _ _ => rfl)) (d_var 8) (nomark _)))) (fun _ _ _ _ _ => (d_var 9))) a_nil))))
    (s_cons (s_if (t_not (t_val (e_P O__law_alike hA (hr.mono (by decide)) (a_cons (d_lc (own := [(("_law_floor" : Str), 8)]) rfl sc__law_is_told_right.nd (i_rng1 (by rfl) B.range (a_cons (d_bin op_addAll loc_add (d_var 2) d_int) a_nil)) (blkOk_by (N := N__law_is_told_right) (sc := defScope s__law_is_told_right) (by decide +kernel)) (by decide) (fun _ _ _ _ _ => (g_name 8 sc__law_is_told_right.nd)) (fun _ _ _ _ _ => i_yes) (fun _ _ _ _ _ => (e_P O_things_on hA (hr.mono (by decide)) (a_cons (d_var 0) (a_cons (d_var 1) (a_cons (d_var 8) a_nil)))))) (a_cons (d_var 5) a_nil))))) (s_one (s_ret d_bl)) s_nil)
    (s_cons (s_setLc 6 (own := [(("_law_floor" : Str), 8)]) rfl sc__law_is_told_right.nd (sw_true rfl rfl rfl (by decide +kernel)) (i_rng1 (by rfl) B.range (a_cons (d_var 2) a_nil)) (blkOk_by (N := N__law_is_told_right) (sc := defScope s__law_is_told_right) (by decide +kernel)) (by decide) (fun _ _ _ _ _ => (g_name 8 sc__law_is_told_right.nd)) (fun _ _ _ _ _ => i_yes) (fun _ _ _ _ _ => (d_callTy c_tuple (loc_one loc_tuple) (by rfl) B.tuple boot_tuple (a_cons (e_P O__law_within hA (hr.mono (by decide)) (a_cons (d_var 0) (a_cons (d_var 1) (a_cons (d_var 8) a_nil)))) a_nil))))
    (s_cons (s_if (t_not (t_val (e_P O__law_alike hA (hr.mono (by decide)) (a_cons (d_lc (own := [(("_law_floor" : Str), 8)]) rfl sc__law_is_told_right.nd (i_rng1 (by rfl) B.range (a_cons (d_var 2) a_nil)) (blkOk_by (N := N__law_is_told_right) (sc := defScope s__law_is_told_right) (by decide +kernel)) (by decide) (fun _ _ _ _ _ => (g_name 8 sc__law_is_told_right.nd)) (fun _ _ _ _ _ => i_yes) (fun _ _ _ _ _ => (e_P O_things_within hA (hr.mono (by decide)) (a_cons (d_var 0) (a_cons (d_var 1) (a_cons (d_var 8) a_nil)))))) (a_cons (d_var 6) a_nil))))) (s_one (s_ret d_bl)) s_nil)
    (s_cons (s_setLc 7 (own := [(("_law_size" : Str), 10), (("_law_room" : Str), 11)]) rfl sc__law_is_told_right.nd (sw_true rfl rfl rfl (by decide +kernel)) (i_zip (by rfl) B.zip (a_cons (d_var 4) (a_cons (d_var 3) a_nil))) (blkOk_by (N := N__law_is_told_right) (sc := defScope s__law_is_told_right) (by decide +kernel)) (by decide) (fun _ _ _ _ _ => (g_tup rfl (pgs_cons (h_name 10 sc__law_is_told_right.nd) (pgs_cons (h_name 11 sc__law_is_told_right.nd) pgs_nil)) rfl)) (fun _ _ _ _ _ => i_yes) (fun _ _ _ _ _ => (d_cmp (op_eqQ hu) loc_eqQ (d_var 10) (d_var 11) (nomark _))))
    (s_cons (s_if (t_not (t_val (e_P O__law_alike hA (hr.mono (by decide)) (a_cons (d_lc (own := [(("_law_floor" : Str), 8)]) rfl sc__law_is_told_right.nd (i_rng1 (by rfl) B.range (a_cons (d_var 2) a_nil)) (blkOk_by (N := N__law_is_told_right) (sc := defScope s__law_is_told_right) (by decide +kernel)) (by decide) (fun _ _ _ _ _ => (g_name 8 sc__law_is_told_right.nd)) (fun _ _ _ _ _ => i_yes) (fun _ _ _ _ _ => (e_P O_filled_up hA (hr.mono (by decide)) (a_cons (d_var 0) (a_cons (d_var 1) (a_cons (d_var 8) a_nil)))))) (a_cons (d_var 7) a_nil))))) (s_one (s_ret d_bl)) s_nil)
    (s_one (s_ret (e_P O__law_alike hA (hr.mono (by decide)) (a_cons (d_lst (a_cons (e_P O_rooms_within hA (hr.mono (by decide)) (a_cons (d_var 0) a_nil)) (a_cons (e_P O_sizes_of hA (hr.mono (by decide)) (a_cons (d_var 0) (a_cons (d_var 1) a_nil))) (a_cons (e_P O_empty_state hA (hr.mono (by decide)) (a_cons (d_var 0) a_nil)) a_nil)))) (a_cons (d_lst (a_cons (d_callTy c_tuple (loc_one loc_tuple) (by rfl) B.tuple boot_tuple (a_cons (d_var 3) a_nil)) (a_cons (d_var 4) (a_cons (d_bin op_mulAll loc_mul (d_tup (a_cons (d_var 2) a_nil)) (d_ix ix_both loc_ix (d_var 0) d_int (fun _ _ => rfl))) a_nil)))) a_nil))))))))))))
abbrev s__law_near_sizes : Stmt := topS 29
abbrev N__law_near_sizes : List Str := ["_law_bag_here", "_law_sizes_here", "_law_at", "_law_found"]
abbrev P__law_near_sizes : List Str := ["_law_bag_here", "_law_sizes_here"]
theorem sc__law_near_sizes : FnScope N__law_near_sizes P__law_near_sizes (defScope s__law_near_sizes) := ⟨rfl, rfl, rfl, by decide +kernel, rfl, by decide +kernel, by decide +kernel⟩
theorem ok__law_near_sizes {P : Program} {w : World} {K : Fg} {mg : Str → Option Value} {base : Heap} (B : Blt mg) (D : Def K mg "_law_near_sizes" s__law_near_sizes P__law_near_sizes) (O__law_one : Ok P w K mg base 2 "_law_one" P__law_one (spM K 1 F__law_one)) (O__law_take : Ok P w K mg base 1 "_law_take" P__law_take (spM K 1 F__law_take)) :
    Ok P w K mg base 3 "_law_near_sizes" P__law_near_sizes (spM K 1 F__law_near_sizes) :=
  Ok.mut (N := N__law_near_sizes) D sc__law_near_sizes rfl (by decide) fun f cdv A outer s H E hA hr =>
    have hu := hu64 hr
    (s_cons (s_par2 rfl (by decide) sc__law_near_sizes.nd (a_cons (e_M 0 O__law_take hA (hr.mono (by decide)) (a_cons (d_callB c_len (loc_one loc_len) (by rfl) B.len PySem.boot_len (a_cons (d_var 1) a_nil)) a_nil)) (a_cons (d_callTy c_list (loc_one loc_list) (by rfl) B.list boot_list (a_cons (d_var 1) a_nil)) a_nil)))
    (s_cons (s_augIx 3 ip_add (d_var 2) (e_M 0 O__law_one hA (hr.mono (by decide)) (a_cons (d_lst (a_cons d_int (a_cons (d_un un_neg loc_neg d_int) (a_cons d_int (a_cons (d_un un_neg loc_neg d_int) (a_cons d_int (a_cons d_int (a_cons (d_un un_neg loc_neg d_int) a_nil)))))))) a_nil)))
    (s_one (s_ret (d_callTy c_tuple (loc_one loc_tuple) (by rfl) B.tuple boot_tuple (a_cons (d_var 3) a_nil))))))
abbrev s__law_are_states_right : Stmt := topS 30
abbrev N__law_are_states_right : List Str := ["_law_house_here", "_law_sizes_here", "_law_many", "_law_heard_here", "_law_due"]
abbrev P__law_are_states_right : List Str := ["_law_house_here", "_law_sizes_here"]
theorem sc__law_are_states_right : FnScope N__law_are_states_right P__law_are_states_right (defScope s__law_are_states_right) := ⟨rfl, rfl, rfl, by decide +kernel, rfl, by decide +kernel, by decide +kernel⟩
theorem ok__law_are_states_right {P : Program} {w : World} {K : Fg} {mg : Str → Option Value} {base : Heap} {c_TooMany : Addr} {lc lp : Addr} (TB : LamX.TabB base mg lc lp) (hP : lp ∈ K.T) (hq : nameAt lp = "_law_are_states_right.<locals>.<lambda>") (B : Blt mg) (D : DefC K mg "_law_are_states_right" s__law_are_states_right P__law_are_states_right lc) (H__law_heard : OkH K mg "_law_heard" c_TooMany "most" "told" "many") (O_all_states : OkE P w K mg base 3 "all_states" P_all_states 2 c_TooMany "most" G_all_states) (O__law_alike : Ok P w K mg base 1 "_law_alike" P__law_alike (spP K 2 F__law_alike)) (O__law_states_of_sizes : Ok P w K mg base 2 "_law_states_of_sizes" P__law_states_of_sizes (spP K 2 F__law_states_of_sizes)) (O__law_states_many : Ok P w K mg base 1 "_law_states_many" P__law_states_many (spP K 2 F__law_states_many)) :
    Ok P w K mg base 6 "_law_are_states_right" P__law_are_states_right (spP K 2 F__law_are_states_right) :=
  Ok.pureC (N := N__law_are_states_right) D sc__law_are_states_right rfl (by decide) fun f A outer s H E hA hr =>
    have hu := hu64 hr
    (s_cons (s_set 2 (e_P O__law_states_many hA (hr.mono (by decide)) (a_cons (d_var 0) (a_cons (d_var 1) a_nil))) sc__law_are_states_right.nd)
    (s_toldV 3 4 (pe_heardO TB rfl hP hq H__law_heard O_all_states hA (hr.mono (by decide)) (LamX.lamS_by (sc := defScope s__law_are_states_right) (by decide +kernel)) (fun A outer s H E f c' hA hr => have hu := hu64 hr; (a_cons (d_var 0) (a_cons (d_var 1) a_nil)))) (t_cmp op_gt loc_i2b (d_var 2) d_int (nomark _)) (e_P O__law_alike hA (hr.mono (by decide)) (a_cons (d_var 3) (a_cons (d_tup (a_cons d_str (a_cons d_int a_nil))) a_nil))) (e_P O__law_states_of_sizes hA (hr.mono (by decide)) (a_cons (d_var 0) (a_cons (d_var 1) a_nil))) (t_not (t_val (e_P O__law_alike hA (hr.mono (by decide)) (a_cons (d_var 3) (a_cons (d_tup (a_cons d_str (a_cons (d_var 4) a_nil))) a_nil)))))
    (s_one (s_ret (e_P O__law_alike hA (hr.mono (by decide)) (a_cons (x_ok O_all_states hA (hr.mono (by decide)) (a_cons (d_var 0) (a_cons (d_var 1) a_nil)) passF) (a_cons (d_var 4) a_nil))))) sc__law_are_states_right.nd))
abbrev s__law_heard : Stmt := topS 28
abbrev N__law_heard : List Str := ["_law_act", "e"]
theorem sc__law_heard : FnScope N__law_heard ["_law_act"] (defScope s__law_heard) := ⟨rfl, rfl, rfl, by decide +kernel, rfl, by decide +kernel, by decide +kernel⟩
abbrev s_TooMany_init : Stmt := clsS (topS 2) 0
theorem sc_TooMany_init : FnScope ["self", "most"] ["self", "most"] (defScope s_TooMany_init) := ⟨rfl, rfl, rfl, by decide +kernel, rfl, by decide +kernel, by decide +kernel⟩
abbrev s__law_bag : Stmt := topS 15
abbrev N__law_bag : List Str := ["_law_script", "_law_cell"]
abbrev P__law_bag : List Str := ["_law_script"]
theorem sc__law_bag : FnScope N__law_bag P__law_bag (defScope s__law_bag) := ⟨rfl, rfl, rfl, by decide +kernel, rfl, by decide +kernel, by decide +kernel⟩
theorem ok__law_bag {P : Program} {w : World} {K : Fg} {mg : Str → Option Value} {base : Heap} (B : Blt mg) (D : Def K mg "_law_bag" s__law_bag P__law_bag) : Ok P w K mg base 1 "_law_bag" P__law_bag (spB K) := by
  obtain ⟨f, fd, F, h1, h2, h3⟩ := D.ex
  refine ⟨f, fd, FnG.body (N := N__law_bag) F sc__law_bag (fun vs H Q E h => ?_) (fun cdv A outer s H vs Q E _ hA hr h => ?_), h1, h2, h3⟩
  · obtain ⟨a, ns, rfl, _⟩ := h; rfl
  · obtain ⟨a, ns, rfl, hS, ht, k⟩ := h
    refine ⟨_, pss_one (ps_ret (pe_lst (pa_cons pe_int (pa_cons pe_int (pa_cons pe_int (pa_cons ((pe_lc (own := [(("_law_cell" : Str), 1)]) rfl sc__law_bag.nd (i_scr (tl := K.T) (ns := ns)) (blkOk_by (N := N__law_bag) (sc := defScope s__law_bag) (by decide +kernel)) (fun _ _ _ _ _ => g_name 1 sc__law_bag.nd) (fun _ _ _ _ _ => i_yes)
      (fun _ _ _ _ _ => d_callB c_abs (loc_one loc_abs) (by rfl) B.abs boot_abs (a_cons (d_var 1) a_nil))).imp fun _ _ _ h => lc_scr (ns := ns) (by decide) h) pa_nil)))))), ?_⟩
    exact bag_read rfl hS ht k
abbrev s_law : Stmt := topS 31
abbrev N_law : List Str := ["_law_script", "_law_bag_here", "_law_turn", "_law_house_here", "_law_state_here", "_law_shown", "_law_sizes_here", "_law_some", "_law_menu"]
abbrev P_law : List Str := ["_law_script"]
theorem sc_law : FnScope N_law P_law (defScope s_law) := ⟨rfl, rfl, rfl, by decide +kernel, rfl, by decide +kernel, by decide +kernel⟩
theorem rest_law {P : Program} {w : World} {K : Fg} {mg : Str → Option Value} {base : Heap} (B : Blt mg) (O__law_are_states_right : Ok P w K mg base 6 "_law_are_states_right" P__law_are_states_right (spP K 2 F__law_are_states_right)) (O__law_one : Ok P w K mg base 2 "_law_one" P__law_one (spM K 1 F__law_one)) (O__law_near_sizes : Ok P w K mg base 3 "_law_near_sizes" P__law_near_sizes (spM K 1 F__law_near_sizes)) (O__law_sizes : Ok P w K mg base 2 "_law_sizes" P__law_sizes (spP K 2 F__law_sizes)) (O__law_state : Ok P w K mg base 3 "_law_state" P__law_state (spM K 1 F__law_state)) (O__law_house : Ok P w K mg base 3 "_law_house" P__law_house (spM K 3 F__law_house)) (O__law_is_told_right : Ok P w K mg base 4 "_law_is_told_right" P__law_is_told_right (spP K 2 F__law_is_told_right)) (f : Addr) (cdv : Value) (A : Around) (outer : List PySem.Env) (s : Shared) (H : Hp) (E : XK) (hA : (A.deeper (envOfC "law" (defScope s_law) s.heap.objs.size f cdv)).guards = some []) (hr : Room 6 (A.deeper (envOfC "law" (defScope s_law) s.heap.objs.size f cdv))) :
    PSs (cxOf CX0 P w K mg base N_law "law" (defScope s_law) f cdv A outer s H E).nox (defBody s_law).tail (RS K g_law) :=
    have hu := hu64 hr
    (s_cons (s_for PassesOwn.never rfl (i_rng1 (by rfl) B.range (a_cons d_int a_nil)) (g_name 2 sc_law.nd) (s_cons (s_set 3 (e_M 1 O__law_house hA (hr.mono (by decide)) (a_cons (e_M 1 O__law_one hA (hr.mono (by decide)) (a_cons (d_lst (a_cons d_int (a_cons d_int (a_cons d_int (a_cons d_int a_nil))))) a_nil)) (a_cons d_int (a_cons d_int a_nil)))) sc_law.nd)
    (s_cons (s_set 4 (e_M 1 O__law_state hA (hr.mono (by decide)) (a_cons (d_var 3) a_nil)) sc_law.nd)
    (s_cons (s_set 5 (d_callB (c_repr hA hu) (loc_one loc_repr) (by rfl) B.repr boot_repr (a_cons (d_lst (a_cons (d_var 3) (a_cons (d_var 4) a_nil))) a_nil)) sc_law.nd)
    (s_one (s_if ((t_or (t_not (t_val (e_P O__law_is_told_right hA (hr.mono (by decide)) (a_cons (d_var 3) (a_cons (d_var 4) a_nil))))) (t_or1 (t_cmp (op_neQ hu) loc_neQ (d_callB (c_repr hA hu) (loc_one loc_repr) (by rfl) B.repr boot_repr (a_cons (d_lst (a_cons (d_var 3) (a_cons (d_var 4) a_nil))) a_nil)) (d_var 5) (nomark _))))).pt (s_one (s_ret d_bl)) s_nil))))))
    (s_cons (s_for PassesOwn.never rfl (i_rng1 (by rfl) B.range (a_cons d_int a_nil)) (g_name 2 sc_law.nd) (s_cons (s_set 3 (e_M 1 O__law_house hA (hr.mono (by decide)) (a_cons (e_M 1 O__law_one hA (hr.mono (by decide)) (a_cons (d_lst (a_cons d_int (a_cons d_int (a_cons d_int a_nil)))) a_nil)) (a_cons d_int (a_cons d_int a_nil)))) sc_law.nd)
    (s_cons (s_set 6 (e_P O__law_sizes hA (hr.mono (by decide)) (a_cons (d_var 3) (a_cons (e_M 1 O__law_state hA (hr.mono (by decide)) (a_cons (d_var 3) a_nil)) a_nil))) sc_law.nd)
    (s_one (s_for PassesOwn.never rfl (i_seq (d_tup (a_cons (d_var 6) (a_cons (e_M 1 O__law_near_sizes hA (hr.mono (by decide)) (a_cons (d_var 6) a_nil)) a_nil)))) (g_name 7 sc_law.nd) (s_one (s_if (t_not (t_val (e_P O__law_are_states_right hA (hr.mono (by decide)) (a_cons (d_var 3) (a_cons (d_var 7) a_nil))))) (s_one (s_ret d_bl)) s_nil)))))))
    (s_cons (s_set 8 (d_lst (a_cons (d_tup (a_cons (d_tup (a_cons d_int (a_cons (d_tup (a_cons d_int (a_cons d_int (a_cons d_int (a_cons d_int a_nil))))) a_nil))) (a_cons (d_tup (a_cons d_int (a_cons d_int (a_cons d_int (a_cons d_int a_nil))))) a_nil))) (a_cons (d_tup (a_cons (d_tup (a_cons d_int (a_cons (d_tup (a_cons d_int (a_cons d_int (a_cons d_int a_nil)))) a_nil))) (a_cons (d_tup (a_cons d_int (a_cons d_int (a_cons d_int a_nil)))) a_nil))) (a_cons (d_tup (a_cons (d_tup (a_cons d_int (a_cons (d_tup (a_cons d_int a_nil)) a_nil))) (a_cons (d_tup (a_cons d_int a_nil)) a_nil))) a_nil)))) sc_law.nd)
    (s_cons (s_set 8 (d_bin op_addAll loc_add (d_var 8) (d_lst (a_cons (d_tup (a_cons (d_tup (a_cons d_int (a_cons (d_tup (a_cons d_int (a_cons d_int (a_cons d_int a_nil)))) a_nil))) (a_cons (d_tup (a_cons d_int (a_cons d_int (a_cons d_int a_nil)))) a_nil))) (a_cons (d_tup (a_cons (d_tup (a_cons d_int (a_cons (d_tup (a_cons d_int (a_cons d_int a_nil))) a_nil))) (a_cons (d_tup (a_cons d_int (a_cons d_int a_nil))) a_nil))) (a_cons (d_tup (a_cons (d_tup (a_cons d_int (a_cons (d_tup (a_cons d_int (a_cons d_int a_nil))) a_nil))) (a_cons (d_tup (a_cons d_int (a_cons d_int a_nil))) a_nil))) a_nil))))) sc_law.nd)
    (s_cons (s_unp (e_M 1 O__law_one hA (hr.mono (by decide)) (a_cons (d_var 8) a_nil)) (g_tup rfl (pgs_cons (h_name 3 sc_law.nd) (pgs_cons (h_name 6 sc_law.nd) pgs_nil)) rfl))
    (s_one (s_ret (e_P O__law_are_states_right hA (hr.mono (by decide)) (a_cons (d_var 3) (a_cons (d_var 6) a_nil))))))))))
theorem ok_law {P : Program} {w : World} {K : Fg} {mg : Str → Option Value} {base : Heap} {f : Addr} {fd : FuncData} (B : Blt mg) (F : Fun K "law" "law" s_law f fd) (O__law_bag : Ok P w K mg base 1 "_law_bag" P__law_bag (spB K)) (O__law_are_states_right : Ok P w K mg base 6 "_law_are_states_right" P__law_are_states_right (spP K 2 F__law_are_states_right)) (O__law_one : Ok P w K mg base 2 "_law_one" P__law_one (spM K 1 F__law_one)) (O__law_near_sizes : Ok P w K mg base 3 "_law_near_sizes" P__law_near_sizes (spM K 1 F__law_near_sizes)) (O__law_sizes : Ok P w K mg base 2 "_law_sizes" P__law_sizes (spP K 2 F__law_sizes)) (O__law_state : Ok P w K mg base 3 "_law_state" P__law_state (spM K 1 F__law_state)) (O__law_house : Ok P w K mg base 3 "_law_house" P__law_house (spM K 3 F__law_house)) (O__law_is_told_right : Ok P w K mg base 4 "_law_is_told_right" P__law_is_told_right (spP K 2 F__law_is_told_right))
    (hg : ∀ ns : List Int, ns.length ≤ 63 → ∃ ρ', g_law (Cell.no :: Cell.op (bagD ns) :: List.replicate (N_law.length - 2) .no) = some (.rt (.cl (.bool true)) ρ')) : FnG P w K mg base CX0 7 f fd P_law (spL K) := by
  obtain ⟨fb, fdb, Gb, b1, b2, b3⟩ := O__law_bag
  refine FnG.body (N := N_law) F sc_law (fun vs H Q E h => ?_) (fun cdv A outer s H vs Q E _ hA hr h => ?_)
  · obtain ⟨a, ns, rfl, _⟩ := h; rfl
  · obtain ⟨a, ns, rfl, hS, hl, ht, q⟩ := h
    refine ⟨_, pss_cons (ps_set (i := 1) sc_law.nd rfl (Or.inl rfl) (g_call Gb hA (hr.mono (by decide)) rfl b1 b2 b3 pass0 (pa_cons (pe_var (i := 0) rfl (by first | exact Or.inl rfl | exact Or.inr (Or.inl rfl))) pa_nil))) (rest_law B O__law_are_states_right O__law_one O__law_near_sizes O__law_sizes O__law_state O__law_house O__law_is_told_right f cdv A outer s H E hA hr).nox, ?_⟩
    exact law_read (by decide) hS ht q (hg ns hl)
structure Tops (K : Fg) (mg : Str → Option Value) (lc__law_are_states_right : Addr) (c_TooMany : Addr) : Prop where
  blt : Blt mg
  C_MOST_STATES : ∃ u, mg "MOST_STATES" = some u ∧ RelV (.int 3000) u
  E_TooMany : ErrD K mg "TooMany" c_TooMany "most"
  H__law_heard : OkH K mg "_law_heard" c_TooMany "most" "told" "many"
  D_rooms_within : Def K mg "rooms_within" s_rooms_within P_rooms_within
  D_things_within : Def K mg "things_within" s_things_within P_things_within
  D_sizes_of : Def K mg "sizes_of" s_sizes_of P_sizes_of
  D_things_on : Def K mg "things_on" s_things_on P_things_on
  D_filled_up : Def K mg "filled_up" s_filled_up P_filled_up
  D_empty_state : Def K mg "empty_state" s_empty_state P_empty_state
  D_least_state : Def K mg "least_state" s_least_state P_least_state
  D_state_after : Def K mg "state_after" s_state_after P_state_after
  D_all_states : Def K mg "all_states" s_all_states P_all_states
  D__law_take : Def K mg "_law_take" s__law_take P__law_take
  D__law_one : Def K mg "_law_one" s__law_one P__law_one
  D__law_mixed : Def K mg "_law_mixed" s__law_mixed P__law_mixed
  D__law_alike : Def K mg "_law_alike" s__law_alike P__law_alike
  D__law_house : Def K mg "_law_house" s__law_house P__law_house
  D__law_rooms_within : Def K mg "_law_rooms_within" s__law_rooms_within P__law_rooms_within
  D__law_within : Def K mg "_law_within" s__law_within P__law_within
  D__law_sizes : Def K mg "_law_sizes" s__law_sizes P__law_sizes
  D__law_state : Def K mg "_law_state" s__law_state P__law_state
  D__law_states_many : Def K mg "_law_states_many" s__law_states_many P__law_states_many
  D__law_states_of_sizes : Def K mg "_law_states_of_sizes" s__law_states_of_sizes P__law_states_of_sizes
  D__law_is_told_right : Def K mg "_law_is_told_right" s__law_is_told_right P__law_is_told_right
  D__law_near_sizes : Def K mg "_law_near_sizes" s__law_near_sizes P__law_near_sizes
  D__law_are_states_right : DefC K mg "_law_are_states_right" s__law_are_states_right P__law_are_states_right lc__law_are_states_right
  D__law_bag : Def K mg "_law_bag" s__law_bag P__law_bag
theorem whole {P : Program} {w : World} {K : Fg} {mg : Str → Option Value} {base : Heap} {f : Addr} {fd : FuncData} {c_TooMany : Addr} {lc__law_are_states_right lp__law_are_states_right : Addr} (TB__law_are_states_right : LamX.TabB base mg lc__law_are_states_right lp__law_are_states_right) (hP__law_are_states_right : lp__law_are_states_right ∈ K.T) (hq__law_are_states_right : nameAt lp__law_are_states_right = "_law_are_states_right.<locals>.<lambda>") (T : Tops K mg lc__law_are_states_right c_TooMany) (F : Fun K "law" "law" s_law f fd)
    (hg : ∀ ns : List Int, ns.length ≤ 63 → ∃ ρ', g_law (Cell.no :: Cell.op (bagD ns) :: List.replicate (N_law.length - 2) .no) = some (.rt (.cl (.bool true)) ρ')) : FnG P w K mg base CX0 7 f fd P_law (spL K) := by
  have O_rooms_within := ok_rooms_within (P := P) (w := w) (base := base) T.blt T.D_rooms_within 
  have O_things_within := ok_things_within (P := P) (w := w) (base := base) T.blt T.D_things_within 
  have O_sizes_of := ok_sizes_of (P := P) (w := w) (base := base) T.blt T.D_sizes_of O_things_within
  have O_things_on := ok_things_on (P := P) (w := w) (base := base) T.blt T.D_things_on 
  have O_filled_up := ok_filled_up (P := P) (w := w) (base := base) T.blt T.D_filled_up O_sizes_of O_rooms_within
  have O_empty_state := ok_empty_state (P := P) (w := w) (base := base) T.blt T.D_empty_state 
  have O_least_state := ok_least_state (P := P) (w := w) (base := base) T.blt T.D_least_state 
  have O_state_after := ok_state_after (P := P) (w := w) (base := base) T.blt T.D_state_after 
  have O_all_states := ok_all_states (P := P) (w := w) (base := base) T.blt T.D_all_states T.C_MOST_STATES T.E_TooMany O_least_state O_state_after
  have O__law_take := ok__law_take (P := P) (w := w) (base := base) T.blt T.D__law_take 
  have O__law_one := ok__law_one (P := P) (w := w) (base := base) T.blt T.D__law_one O__law_take
  have O__law_mixed := ok__law_mixed (P := P) (w := w) (base := base) T.blt T.D__law_mixed O__law_take
  have O__law_alike := ok__law_alike (P := P) (w := w) (base := base) T.blt T.D__law_alike 
  have O__law_house := ok__law_house (P := P) (w := w) (base := base) T.blt T.D__law_house O__law_one O__law_take
  have O__law_rooms_within := ok__law_rooms_within (P := P) (w := w) (base := base) T.blt T.D__law_rooms_within 
  have O__law_within := ok__law_within (P := P) (w := w) (base := base) T.blt T.D__law_within 
  have O__law_sizes := ok__law_sizes (P := P) (w := w) (base := base) T.blt T.D__law_sizes O__law_within
  have O__law_state := ok__law_state (P := P) (w := w) (base := base) T.blt T.D__law_state O__law_mixed O__law_one O__law_take
  have O__law_states_many := ok__law_states_many (P := P) (w := w) (base := base) T.blt T.D__law_states_many 
  have O__law_states_of_sizes := ok__law_states_of_sizes (P := P) (w := w) (base := base) T.blt T.D__law_states_of_sizes O__law_states_many
  have O__law_is_told_right := ok__law_is_told_right (P := P) (w := w) (base := base) T.blt T.D__law_is_told_right O__law_alike O_rooms_within O_sizes_of O_empty_state O_filled_up O_things_within O__law_within O_things_on O__law_rooms_within O__law_sizes
  have O__law_near_sizes := ok__law_near_sizes (P := P) (w := w) (base := base) T.blt T.D__law_near_sizes O__law_one O__law_take
  have O__law_are_states_right := ok__law_are_states_right (P := P) (w := w) (base := base) TB__law_are_states_right hP__law_are_states_right hq__law_are_states_right T.blt T.D__law_are_states_right T.H__law_heard O_all_states O__law_alike O__law_states_of_sizes O__law_states_many
  exact ok_law T.blt F (ok__law_bag T.blt T.D__law_bag) O__law_are_states_right O__law_one O__law_near_sizes O__law_sizes O__law_state O__law_house O__law_is_told_right hg
end K01
noncomputable section
namespace DL
open PySem L2
def MulOk (a q : Int) : Prop := a.natAbs.log2 + q.natAbs.log2 < 1000000 ∨ a.natAbs < 2 ^ 64 ∨ q.natAbs < 2 ^ 64
@[simp] theorem mulOk_r {a q : Int} (h : q.natAbs < 2 ^ 64) : MulOk a q := .inr (.inr h)
@[simp] theorem mulOk_l {a q : Int} (h : a.natAbs < 2 ^ 64) : MulOk a q := .inr (.inl h)
@[simp] theorem mulOk_mod {a k q : Int} (h0 : 0 < k) (h : k ≤ 2 ^ 64) : MulOk (a % k) q := by
  have h1 := Int.emod_nonneg a (show k ≠ 0 by omega)
  have h2 := Int.emod_lt_of_pos a h0
  exact .inr (.inl (by omega))
def kU (x : Option (Val × DL.Env)) (k : DL.Env → Val → Option (Val × DL.Env)) : Option (Val × DL.Env) := x.bind fun p => k p.2 p.1
def kB1 (x : Option (Val × DL.Env)) (f2 : ED) (k : DL.Env → Val → Val → Option (Val × DL.Env)) : Option (Val × DL.Env) := x.bind fun p => (f2 p.2).bind fun q => k q.2 p.1 q.1
def kB2 (x : Option (Val × DL.Env)) (r1 : Val) (k : DL.Env → Val → Val → Option (Val × DL.Env)) : Option (Val × DL.Env) := x.bind fun q => k q.2 r1 q.1
def kC1 (x : Option (Val × DL.Env)) (t : AD) : Option (List Val × DL.Env) := x.bind fun p => (t p.2).bind fun q => some (p.1 :: q.1, q.2)
def kC2 (x : Option (List Val × DL.Env)) (r : Val) : Option (List Val × DL.Env) := x.bind fun q => some (r :: q.1, q.2)
def kK (x : Option (List Val × DL.Env)) (k : DL.Env → List Val → Option (Val × DL.Env)) : Option (Val × DL.Env) := x.bind fun p => k p.2 p.1
def kT (x : Option (Val × DL.Env)) : Option (Bool × DL.Env) := x.bind fun p => match p.1 with
  | .cl (.bool b) => some (b, p.2)
  | _ => none
def kNot (x : Option (Bool × DL.Env)) : Option (Bool × DL.Env) := x.bind fun p => some (!p.1, p.2)
def kAnd (x : Option (Bool × DL.Env)) (c : TD) : Option (Bool × DL.Env) := x.bind fun p => if p.1 = true then c p.2 else some (false, p.2)
def kOr (x : Option (Bool × DL.Env)) (c : TD) : Option (Bool × DL.Env) := x.bind fun p => if p.1 = true then some (true, p.2) else c p.2
def kIf (x : Option (Bool × DL.Env)) (f g : ED) : Option (Val × DL.Env) := x.bind fun p => if p.1 = true then f p.2 else g p.2
def kAndD (x : Option (Val × DL.Env)) (f : ED) : Option (Val × DL.Env) := x.bind fun p => (boolOf p.1).bind fun b => if b = true then f p.2 else some (.cl (.bool false), p.2)
def kH1 (x : Option (Val × DL.Env)) (g h : ED) (k l : DL.Env → Val → Val → Option (Val × DL.Env)) : Option (Val × DL.Env) := x.bind fun p => (g p.2).bind fun q => if flatV' q.1 = false then none else (k q.2 p.1 q.1).bind fun s => (boolOf s.1).bind fun b =>
  if b = true then (h s.2).bind fun t => l t.2 q.1 t.1 else some (.cl (.bool false), s.2)
def kH2 (x : Option (Val × DL.Env)) (r : Val) (h : ED) (k l : DL.Env → Val → Val → Option (Val × DL.Env)) : Option (Val × DL.Env) := x.bind fun q => if flatV' q.1 = false then none else (k q.2 r q.1).bind fun s => (boolOf s.1).bind fun b =>
  if b = true then (h s.2).bind fun t => l t.2 q.1 t.1 else some (.cl (.bool false), s.2)
def kH3 (x : Option (Val × DL.Env)) (r : Val) (h : ED) (l : DL.Env → Val → Val → Option (Val × DL.Env)) : Option (Val × DL.Env) := x.bind fun s => (boolOf s.1).bind fun b =>
  if b = true then (h s.2).bind fun t => l t.2 r t.1 else some (.cl (.bool false), s.2)
def kS1 (x : Option (Val × DL.Env)) (lo hi : PD) (k : DL.Env → Val → Option Int → Option Int → Option (Val × DL.Env)) : Option (Val × DL.Env) := x.bind fun p => (lo p.2).bind fun q => (hi q.2).bind fun s => k s.2 p.1 q.1 s.1
def kS2 (x : Option (Option Int × DL.Env)) (r : Val) (hi : PD) (k : DL.Env → Val → Option Int → Option Int → Option (Val × DL.Env)) : Option (Val × DL.Env) := x.bind fun q => (hi q.2).bind fun s => k s.2 r q.1 s.1
def kS3 (x : Option (Option Int × DL.Env)) (r : Val) (o : Option Int) (k : DL.Env → Val → Option Int → Option Int → Option (Val × DL.Env)) : Option (Val × DL.Env) := x.bind fun s => k s.2 r o s.1
def kP (x : Option (Val × DL.Env)) : Option (Option Int × DL.Env) := x.bind fun p => match p.1 with
  | .cl (.int i) => some (some i, p.2)
  | _ => none
def kTup (x : Option (List PyData × DL.Env)) : Option (Val × DL.Env) := x.bind fun q => if q.1.length ≤ lim then some (.cl (.tuple q.1), q.2) else none
def kLst (x : Option (List PyData × DL.Env)) : Option (Val × DL.Env) := x.bind fun q => if q.1.length ≤ lim then some (.own q.1, q.2) else none
def kPs (x : Option (List Val × DL.Env)) : Option (List PyData × DL.Env) := x.bind fun p => psAll p.2 p.1
def kQ1 (x : Option (PyData × DL.Env)) (rs : List Val) : Option (List PyData × DL.Env) := x.bind fun p => (psAll p.2 rs).bind fun q => some (p.1 :: q.1, q.2)
def kQ2 (x : Option (List PyData × DL.Env)) (d : PyData) : Option (List PyData × DL.Env) := x.bind fun q => some (d :: q.1, q.2)
def kV (x : Option Val) (ρ1 ρ2 : DL.Env) : Option (Val × DL.Env) := x.bind fun r => if flatV' r = true then some (r, ρ1) else some (r, ρ2)
def kF (x : Option (List PyData × DL.Env)) (ρ1 : DL.Env) (n : Nat) (F : FP) : Option (Val × DL.Env) := x.bind fun q => if q.1.length = n then kV (F q.1) ρ1 q.2 else none
def kF0 (x : Option (List Val × DL.Env)) (n : Nat) (F : FP) : Option (Val × DL.Env) := x.bind fun p => kF (psAll p.2 p.1) p.2 n F
def kW (x : Option (Val × List PyData)) (ρ : DL.Env) (j : Nat) (k : Bool) : Option (Val × DL.Env) := x.bind fun s => some (s.1, opSet ρ j k s.2)
def kM2 (x : Option (Bool × List PyData)) (ρ : DL.Env) (j : Nat) (ds : List PyData) (n : Nat) (F : FM) : Option (Val × DL.Env) := x.bind fun c => if ds.length = n then kW (F c.2 ds) ρ j c.1 else none
def kM1 (x : Option (List PyData × DL.Env)) (j n : Nat) (F : FM) : Option (Val × DL.Env) := x.bind fun q => kM2 (opAt q.2 j) q.2 j q.1 n F
def kM0 (x : Option (Bool × List PyData)) (j n : Nat) (F : FM) (y : Option (List PyData × DL.Env)) : Option (Val × DL.Env) := x.bind fun _ => kM1 y j n F
def kSq (x : Option Out) (h : SD) : Option Out := x.bind fun o => match o with
  | .nx ρ' => h ρ'
  | o => some o
def kIS (x : Option (Bool × DL.Env)) (g h : SD) : Option Out := x.bind fun p => if p.1 = true then g p.2 else h p.2
def kR (x : Option (Val × DL.Env)) : Option Out := x.bind fun p => some (.rt p.1 p.2)
def kD (x : Option (Val × DL.Env)) : Option Out := x.bind fun p => some (.nx p.2)
def kN (x : Option DL.Env) : Option Out := x.map .nx
def kSet (x : Option (Val × DL.Env)) (i : Nat) : Option Out := x.bind fun p => kN (stV p.2 i p.1)
def kStA (x : Option DL.Env) (is : List Nat) (rs : List Val) : Option DL.Env := x.bind fun ρ => stAll ρ is rs
def kStV (x : Option (PyData × DL.Env)) (i : Nat) : Option DL.Env := x.map fun p => p.2.set i (.cl p.1)
def kAug (x : Option (Val × DL.Env)) (i : Nat) (a : Int) (k : Int → Int → Int) : Option Out := x.bind fun p => match p.1 with
    | .cl (.int b) => some (.nx (p.2.set i (.cl (.int (k a b)))))
    | _ => none
def kUn2 (x : Option (PyData × DL.Env)) (tg : GD) : Option Out := x.bind fun q => kN (tg q.2 q.1)
def kUn1 (x : Option (Val × DL.Env)) (tg : GD) : Option Out := x.bind fun p => kUn2 (psV p.2 p.1) tg
def kPar (x : Option (List Val × DL.Env)) (is : List Nat) : Option Out := x.bind fun p => if p.1.all notSl = true ∧ p.1.length ≤ lim then kN (stAll p.2 is p.1) else none
def kI4 (m : Option Nat) (ρ : DL.Env) (j : Nat) (k : Bool) (ds : List PyData) (d : PyData) : Option Out := m.bind fun m => some (.nx (opSet ρ j k (ds.set m d)))
def kI3 (x : Option (Bool × List PyData)) (ρ : DL.Env) (j : Nat) (i : Int) (d : PyData) : Option Out := x.bind fun c => kI4 (ixN c.2.length i) ρ j c.1 c.2 d
def kI2 (x : Option (PyData × DL.Env)) (j : Nat) (i : Int) : Option Out := x.bind fun s => kI3 (opAt s.2 j) s.2 j i s.1
def kI1 (x : Option (Val × DL.Env)) (r : Val) (j : Nat) : Option Out := x.bind fun q => match q.1 with
  | .cl (.int i) => kI2 (psV q.2 r) j i
  | _ => none
def kI0 (x : Option (Val × DL.Env)) (fi : ED) (j : Nat) : Option Out := x.bind fun p => (opAt p.2 j).bind fun _ => kI1 (fi p.2) p.1 j
def kA3 (x : Option (Val × DL.Env)) (j : Nat) (i : Int) (b : Int) (k : Int → Int → Int) : Option Out := x.bind fun p => match p.1 with
  | .cl (.int c) => kI3 (opAt p.2 j) p.2 j i (.int (k b c))
  | _ => none
def kA2 (x : Option PyData) (ρ : DL.Env) (f : ED) (j : Nat) (i : Int) (k : Int → Int → Int) : Option Out := x.bind fun d => match d with
  | .int b => kA3 (f ρ) j i b k
  | _ => none
def kA1 (x : Option (Val × DL.Env)) (f : ED) (j : Nat) (k : Int → Int → Int) : Option Out := x.bind fun q => match q.1 with
  | .cl (.int i) => (opAt q.2 j).bind fun c => kA2 (atI c.2 i) q.2 f j i k
  | _ => none
def kE3 (x : Option (Val × List PyData × DL.Env)) (j : Nat) : Option (Val × DL.Env) := x.bind fun q => (opAt q.2.2 j).bind fun c => some (q.1, opSet q.2.2 j c.1 q.2.1)
def kE1 (x : Option (List Val × DL.Env)) (j : Nat) (k : MG) : Option (Val × DL.Env) := x.bind fun p => (opAt p.2 j).bind fun c => kE3 (k p.2 c.2 p.1) j
def kAp (x : Option (PyData × DL.Env)) (ds : List PyData) : Option (Val × List PyData × DL.Env) := x.bind fun p => if ds.length < lim then some (.cl .none, ds ++ [p.1], p.2) else none
def kIn (x : Option (PyData × DL.Env)) (ds : List PyData) (k : Int) : Option (Val × List PyData × DL.Env) := x.bind fun p => if ds.length < lim ∧ 0 ≤ k ∧ k ≤ lim then some (.cl .none, ds.take k.toNat ++ [p.1] ++ ds.drop k.toNat, p.2) else none
def kFor (x : Option (List PyData × DL.Env)) (tg : GD) (g : SD) : Option Out := x.bind fun p => loopD tg g p.1 p.2
def kG1 (x : Option (List Val × DL.Env)) : Option (List PyData × DL.Env) := x.bind fun p => match p.1 with
  | [.cl (.int j)] => if -lim ≤ j ∧ j ≤ lim then some (rngD 0 j.toNat 1, p.2) else none
  | _ => none
def kG2 (x : Option (List Val × DL.Env)) : Option (List PyData × DL.Env) := x.bind fun p => match p.1 with
  | [.cl (.int i), .cl (.int j)] => if (-lim ≤ i ∧ i ≤ lim) ∧ -lim ≤ j ∧ j ≤ lim then some (rngD i (j - i).toNat 1, p.2) else none
  | _ => none
def kG3 (x : Option (List Val × DL.Env)) : Option (List PyData × DL.Env) := x.bind fun p => match p.1 with
  | [.cl (.int i), .cl (.int j), .cl (.int c)] => if ((-lim ≤ i ∧ i ≤ lim) ∧ -lim ≤ j ∧ j ≤ lim) ∧ c = -1 then some (rngD i (i - j).toNat (-1), p.2) else none
  | _ => none
def kIt (x : Option (PyData × DL.Env)) : Option (List PyData × DL.Env) := x.bind fun q => match q.1 with
  | .list ds => some (ds, q.2)
  | .tuple ds => some (ds, q.2)
  | _ => none
def kPv (x : Option (Val × DL.Env)) : Option (PyData × DL.Env) := x.bind fun p => psV p.2 p.1
def kZp (x : Option (List PyData × DL.Env)) : Option (List PyData × DL.Env) := x.bind fun q => match q.1 with
  | [x, y] => (itemsOf x).bind fun xs => (itemsOf y).map fun ys => (zipD xs ys, q.2)
  | _ => none
def kEn (x : Option (List PyData × DL.Env)) : Option (List PyData × DL.Env) := x.bind fun q => match q.1 with
  | [x] => (itemsOf x).map fun xs => (enumD xs, q.2)
  | _ => none
def kRg (x : Option (Val × DL.Env)) (mk : List PyData → Val) : Option (Val × DL.Env) := x.bind fun p => match p.1 with
  | .cl (.int n) => if -lim ≤ n ∧ n ≤ lim then some (mk (rngD 0 n.toNat 1), p.2) else none
  | _ => none
def kXt (x : Option PyData) (ρ : DL.Env) : Option (Val × DL.Env) := x.map fun d => (.cl d, ρ)
def kIx (x : Option (Bool × List PyData)) (ρ : DL.Env) (i : Int) : Option (Val × DL.Env) := x.bind fun q => kXt (atI q.2 i) ρ
def kCu (x : Option (Bool × List PyData)) (ρ : DL.Env) (lo hi : Option Int) : Option (Val × DL.Env) := x.bind fun q => if q.1 = true then some (.own (cutD q.2 lo hi), ρ) else some (.cl (.tuple (cutD q.2 lo hi)), ρ)
def kLn (x : Option (Bool × List PyData)) (ρ : DL.Env) : Option (Val × DL.Env) := x.map fun p => (.cl (.int p.2.length), ρ)
def kLs (x : Option (Bool × List PyData)) (ρ : DL.Env) : Option (Val × DL.Env) := x.map fun p => (.own p.2, ρ)
def kTp (x : Option (Bool × List PyData)) (ρ : DL.Env) : Option (Val × DL.Env) := x.map fun p => (.cl (.tuple p.2), ρ)
def kBl (x : Option (List Bool)) (ρ : DL.Env) (k : List Bool → Bool) : Option (Val × DL.Env) := x.map fun bs => (.cl (.bool (k bs)), ρ)
section
variable {ρ ρ' ρ1 : DL.Env} {f f1 f2 : ED} {t : AD} {c c1 c2 : TD} {g h : SD} {i j n : Nat} {r r1 : Val} {rs : List Val} {d : PyData} {ds : List PyData} {b : Bool} {lo hi : PD} {o : Option Int} {tg : GD}
@[simp] theorem open_no : Cell.isOpen .no = false := rfl
@[simp] theorem open_cl : Cell.isOpen (.cl d) = false := rfl
@[simp] theorem open_op : Cell.isOpen (.op ds) = true := rfl
@[simp] theorem open_pm : Cell.isOpen (.pm ds) = true := rfl
@[simp] theorem open_dk {t : Bool} {es : List (PyData × PyData)} : Cell.isOpen (.dk t es) = true := rfl
@[simp] theorem e_var : varD i ρ = match ρ.getD i .no with
  | .no => none
  | .cl d => some (.cl d, ρ)
  | .op _ => some (.sl i, ρ)
  | .pm _ => some (.sl i, ρ)
  | .dk _ _ => some (.sl i, ρ) := rfl
@[simp] theorem e_con : conD d ρ = some (.cl d, ρ) := rfl
@[simp] theorem e_un {k} : unD f k ρ = kU (f ρ) k := rfl
@[simp] theorem e_bin {k} : binD f1 f2 k ρ = kB1 (f1 ρ) f2 k := rfl
@[simp] theorem e_nil : anil ρ = some ([], ρ) := rfl
@[simp] theorem e_cons : acons f t ρ = kC1 (f ρ) t := rfl
@[simp] theorem e_call {k} : callD t k ρ = kK (t ρ) k := rfl
@[simp] theorem e_test : testD f ρ = kT (f ρ) := rfl
@[simp] theorem e_not : notT c ρ = kNot (c ρ) := rfl
@[simp] theorem e_and : andT c1 c2 ρ = kAnd (c1 ρ) c2 := rfl
@[simp] theorem e_or : orT c1 c2 ρ = kOr (c1 ρ) c2 := rfl
@[simp] theorem e_ite : iteD c f1 f2 ρ = kIf (c ρ) f1 f2 := rfl
@[simp] theorem e_yes : yesT ρ = some (true, ρ) := rfl
@[simp] theorem e_andD : andD f1 f2 ρ = kAndD (f1 ρ) f2 := rfl
@[simp] theorem e_chain {k l} : chainD f f1 f2 k l ρ = kH1 (f ρ) f1 f2 k l := rfl
@[simp] theorem e_slice {k} : sliceD f lo hi k ρ = kS1 (f ρ) lo hi k := rfl
@[simp] theorem e_noP : noP ρ = some (none, ρ) := rfl
@[simp] theorem e_aP : aP f ρ = kP (f ρ) := rfl
@[simp] theorem e_tup : tupD t ρ = kTup (kPs (t ρ)) := by
  unfold tupD callD kTup kPs
  cases t ρ <;> rfl
@[simp] theorem e_lst : lstD t ρ = kLst (kPs (t ρ)) := by
  unfold lstD callD kLst kPs
  cases t ρ <;> rfl
@[simp] theorem e_ps0 : psAll ρ [] = some ([], ρ) := rfl
@[simp] theorem e_ps1 : psAll ρ (r :: rs) = kQ1 (psV ρ r) rs := rfl
@[simp] theorem e_psC : psV ρ (.cl d) = some (d, ρ) := rfl
@[simp] theorem e_psO : psV ρ (.own ds) = some (.list ds, ρ) := rfl
@[simp] theorem e_psS : psV ρ (.sl i) = match ρ.getD i .no with
  | .op ds => some (.list ds, ρ.set i (.cl (.list ds)))
  | .dk t ds => some (dOf t ds, ρ.set i (.cl (dOf t ds)))
  | .cl d => some (d, ρ)
  | _ => none := rfl
@[simp] theorem e_callP {F : FP} : callP n F t ρ = kF0 (t ρ) n F := rfl
@[simp] theorem e_callM {F : FM} : callM j n F t ρ = kM0 (opAt ρ j) j n F (kPs (t ρ)) := by
  unfold callM kM0 kPs kM1
  cases opAt ρ j with
  | none => rfl
  | some c => cases t ρ <;> rfl
@[simp] theorem e_opAt : opAt ρ j = match ρ.getD j .no with
  | .op ds => some (true, ds)
  | .pm ds => some (false, ds)
  | _ => none := rfl
@[simp] theorem e_opSetT : opSet ρ j true ds = ρ.set j (.op ds) := rfl
@[simp] theorem e_opSetF : opSet ρ j false ds = ρ.set j (.pm ds) := rfl
@[simp] theorem e_nilS : nilS ρ = some (.nx ρ) := rfl
@[simp] theorem e_seq : seqS g h ρ = kSq (g ρ) h := rfl
@[simp] theorem e_ifS : ifS c g h ρ = kIS (c ρ) g h := rfl
@[simp] theorem e_ret : retS f ρ = kR (f ρ) := rfl
@[simp] theorem e_drop : dropS f ρ = kD (f ρ) := rfl
@[simp] theorem e_set : setS i f ρ = kSet (f ρ) i := rfl
@[simp] theorem e_stC : stV ρ i (.cl d) = some (ρ.set i (.cl d)) := rfl
@[simp] theorem e_stO : stV ρ i (.own ds) = some (ρ.set i (.op ds)) := rfl
@[simp] theorem e_stS : stV ρ i (.sl j) = kStV (psV ρ (.sl j)) i := rfl
@[simp] theorem e_stN : stAll ρ [] [] = some ρ := rfl
@[simp] theorem e_stA {is : List Nat} : stAll ρ (i :: is) (r :: rs) = kStA (stV ρ i r) is rs := rfl
@[simp] theorem e_aug {k : Int → Int → Int} : augS i f k ρ = match ρ.getD i .no with
  | .cl (.int a) => kAug (f ρ) i a k
  | _ => none := rfl
@[simp] theorem e_unp : unpS tg f ρ = kUn1 (f ρ) tg := rfl
@[simp] theorem e_par {is : List Nat} : parS is t ρ = kPar (t ρ) is := rfl
@[simp] theorem e_notSlC : notSl (.cl d) = true := rfl
@[simp] theorem e_notSlO : notSl (.own ds) = true := rfl
@[simp] theorem e_name : nameT i ρ d = some (ρ.set i (.cl d)) := rfl
@[simp] theorem e_tupT {is : List Nat} : tupT is ρ (.tuple ds) = if ds.length = is.length then some (setCls ρ is ds) else none := rfl
@[simp] theorem e_setCls {is : List Nat} : setCls ρ (i :: is) (d :: ds) = setCls (ρ.set i (.cl d)) is ds := rfl
@[simp] theorem e_setCls0 : setCls ρ [] ds = ρ := by cases ds <;> rfl
@[simp] theorem e_setIx : setIx j f1 f ρ = kI0 (f ρ) f1 j := by
  unfold setIx kI0
  cases f ρ with
  | none => rfl
  | some p =>
    show (opAt p.2 j).bind _ = (opAt p.2 j).bind _
    congr 1
    funext _
    unfold kI1
    cases f1 p.2 with
    | none => rfl
    | some q =>
      show (match q.1 with | .cl (.int i) => _ | _ => none) = (match q.1 with | .cl (.int i) => _ | _ => none)
      split
      · rename_i i
        unfold kI2
        cases psV q.2 p.1 with
        | none => rfl
        | some s =>
          unfold kI3
          show (match opAt s.2 j with | some (k, ds) => _ | none => none) = (opAt s.2 j).bind _
          cases opAt s.2 j <;> rfl
      · rfl
@[simp] theorem e_augIx {k : Int → Int → Int} : augIx j f1 f k ρ = (match opAt ρ j with
  | some _ => kA1 (f1 ρ) f j k
  | none => none) := by
  unfold augIx
  cases opAt ρ j with
  | none => rfl
  | some c0 =>
    show (f1 ρ).bind _ = _
    unfold kA1
    cases f1 ρ with
    | none => rfl
    | some q =>
      show (match q.1 with | .cl (.int i) => _ | _ => none) = (match q.1 with | .cl (.int i) => _ | _ => none)
      split
      · rename_i i _
        cases opAt q.2 j with
        | none => rfl
        | some c =>
          show (match atI c.2 i with | some (.int b) => _ | _ => none) = _
          show _ = kA2 (atI c.2 i) q.2 f j i k
          unfold kA2
          cases atI c.2 i with
          | none => rfl
          | some d =>
            cases d with
            | int b =>
              show (f q.2).bind _ = kA3 (f q.2) j i b k
              unfold kA3
              cases f q.2 with
              | none => rfl
              | some p =>
                show (match p.1 with | .cl (.int c) => _ | _ => none) = (match p.1 with | .cl (.int c) => _ | _ => none)
                split
                · unfold kI3
                  cases opAt p.2 j <;> rfl
                · rfl
            | _ => rfl
      · rfl
@[simp] theorem e_met {k : MG} : metD j t k ρ = (match opAt ρ j with
  | some _ => kE1 (t ρ) j k
  | none => none) := by
  unfold metD
  cases opAt ρ j with
  | none => rfl
  | some c0 =>
    show (t ρ).bind _ = _
    unfold kE1
    cases t ρ with
    | none => rfl
    | some p =>
      show (match opAt p.2 j with | some (_, ds) => _ | none => none) = (opAt p.2 j).bind _
      cases opAt p.2 j with
      | none => rfl
      | some c =>
        show (k p.2 c.2 p.1).bind _ = kE3 (k p.2 c.2 p.1) j
        unfold kE3
        cases k p.2 c.2 p.1 with
        | none => rfl
        | some q =>
          show (match opAt q.2.2 j with | some (kk, _) => _ | none => none) = (opAt q.2.2 j).bind _
          cases opAt q.2.2 j <;> rfl
@[simp] theorem e_app : appG ρ ds [r] = kAp (psV ρ r) ds := rfl
@[simp] theorem e_ins {k : Int} : insG ρ ds [.cl (.int k), r] = kIn (psV ρ r) ds k := rfl
@[simp] theorem e_for {fi : ID} : forS fi tg g ρ = kFor (fi ρ) tg g := rfl
@[simp] theorem e_rng1 : rng1I t ρ = kG1 (t ρ) := rfl
@[simp] theorem e_rng2 : rng2I t ρ = kG2 (t ρ) := rfl
@[simp] theorem e_rng3 : rng3I t ρ = kG3 (t ρ) := rfl
@[simp] theorem e_seqI : seqI f ρ = kIt (kPv (f ρ)) := by
  unfold seqI kPv kIt
  cases f ρ <;> rfl
@[simp] theorem e_zip : zipI t ρ = kZp (kPs (t ρ)) := by
  unfold zipI kPs kZp
  cases t ρ <;> rfl
@[simp] theorem e_enum : enumI t ρ = kEn (kPs (t ρ)) := by
  unfold enumI kPs kEn
  cases t ρ <;> rfl
@[simp] theorem e_itL : itemsOf (.list ds) = some ds := rfl
@[simp] theorem e_itT : itemsOf (.tuple ds) = some ds := rfl
@[simp] theorem e_rg1 {mk : List PyData → Val} : rg1 f mk ρ = kRg (f ρ) mk := rfl
@[simp] theorem e_lstR1 : lstR1 f ρ = kRg (f ρ) .own := rfl
@[simp] theorem e_tupR1 : tupR1 f ρ = kRg (f ρ) fun ds => .cl (.tuple ds) := rfl
@[simp] theorem s_U {k} : kU (some (r, ρ)) k = k ρ r := rfl
@[simp] theorem s_B1 {k} : kB1 (some (r, ρ)) f2 k = kB2 (f2 ρ) r k := rfl
@[simp] theorem s_B2 {k} : kB2 (some (r, ρ)) r1 k = k ρ r1 r := rfl
@[simp] theorem s_C1 : kC1 (some (r, ρ)) t = kC2 (t ρ) r := rfl
@[simp] theorem s_C2 : kC2 (some (rs, ρ)) r = some (r :: rs, ρ) := rfl
@[simp] theorem s_K {k} : kK (some (rs, ρ)) k = k ρ rs := rfl
@[simp] theorem s_T : kT (some (.cl (.bool b), ρ)) = some (b, ρ) := rfl
@[simp] theorem s_Not : kNot (some (b, ρ)) = some (!b, ρ) := rfl
@[simp] theorem s_And : kAnd (some (b, ρ)) c = if b = true then c ρ else some (false, ρ) := rfl
@[simp] theorem s_Or : kOr (some (b, ρ)) c = if b = true then some (true, ρ) else c ρ := rfl
@[simp] theorem s_If : kIf (some (b, ρ)) f1 f2 = if b = true then f1 ρ else f2 ρ := rfl
@[simp] theorem s_AndD : kAndD (some (.cl (.bool b), ρ)) f = if b = true then f ρ else some (.cl (.bool false), ρ) := rfl
@[simp] theorem s_H1 {k l} : kH1 (some (r, ρ)) f1 f2 k l = kH2 (f1 ρ) r f2 k l := rfl
@[simp] theorem s_H2 {k l} {a : Int} : kH2 (some (.cl (.int a), ρ)) r f2 k l = kH3 (k ρ r (.cl (.int a))) (.cl (.int a)) f2 l := rfl
@[simp] theorem s_H3 {l} : kH3 (some (.cl (.bool b), ρ)) r f2 l = if b = true then kB2 (f2 ρ) r l else some (.cl (.bool false), ρ) := rfl
@[simp] theorem s_S1 {k} : kS1 (some (r, ρ)) lo hi k = kS2 (lo ρ) r hi k := rfl
@[simp] theorem s_S2 {k} : kS2 (some (o, ρ)) r hi k = kS3 (hi ρ) r o k := rfl
@[simp] theorem s_S3 {k} {o' : Option Int} : kS3 (some (o', ρ)) r o k = k ρ r o o' := rfl
@[simp] theorem s_P {a : Int} : kP (some (.cl (.int a), ρ)) = some (some a, ρ) := rfl
@[simp] theorem s_Tup (h : ds.length ≤ 1000000) : kTup (some (ds, ρ)) = some (.cl (.tuple ds), ρ) := if_pos (by first | exact h | (rw [lim_eq]; exact h))
@[simp] theorem s_Lst (h : ds.length ≤ 1000000) : kLst (some (ds, ρ)) = some (.own ds, ρ) := if_pos (by first | exact h | (rw [lim_eq]; exact h))
@[simp] theorem s_Ps : kPs (some (rs, ρ)) = psAll ρ rs := rfl
@[simp] theorem s_Q1 : kQ1 (some (d, ρ)) rs = kQ2 (psAll ρ rs) d := rfl
@[simp] theorem s_Q2 : kQ2 (some (ds, ρ)) d = some (d :: ds, ρ) := rfl
@[simp] theorem s_F0 {F : FP} : kF0 (some (rs, ρ)) n F = kF (psAll ρ rs) ρ n F := rfl
@[simp] theorem s_F {F : FP} : kF (some (ds, ρ)) ρ1 n F = if ds.length = n then kV (F ds) ρ1 ρ else none := rfl
@[simp] theorem s_V : kV (some r) ρ ρ1 = if flatV' r = true then some (r, ρ) else some (r, ρ1) := rfl
@[simp] theorem s_W {k : Bool} : kW (some (r, ds)) ρ j k = some (r, opSet ρ j k ds) := rfl
@[simp] theorem s_M0 {F : FM} {q : Bool × List PyData} {y} : kM0 (some q) j n F y = kM1 y j n F := rfl
@[simp] theorem s_M1 {F : FM} : kM1 (some (ds, ρ)) j n F = kM2 (opAt ρ j) ρ j ds n F := rfl
@[simp] theorem s_M2 {F : FM} {k : Bool} {cs : List PyData} : kM2 (some (k, cs)) ρ j ds n F = if ds.length = n then kW (F cs ds) ρ j k else none := rfl
@[simp] theorem s_SqN : kSq (some (.nx ρ)) h = h ρ := rfl
@[simp] theorem s_SqR : kSq (some (.rt r ρ)) h = some (.rt r ρ) := rfl
@[simp] theorem s_SqC : kSq (some (.ct ρ)) h = some (.ct ρ) := rfl
@[simp] theorem s_SqB : kSq (some (.bk ρ)) h = some (.bk ρ) := rfl
@[simp] theorem s_IS : kIS (some (b, ρ)) g h = if b = true then g ρ else h ρ := rfl
@[simp] theorem s_R : kR (some (r, ρ)) = some (.rt r ρ) := rfl
@[simp] theorem s_D : kD (some (r, ρ)) = some (.nx ρ) := rfl
@[simp] theorem s_N : kN (some ρ) = some (.nx ρ) := rfl
@[simp] theorem s_Set : kSet (some (r, ρ)) i = kN (stV ρ i r) := rfl
@[simp] theorem s_StA {is : List Nat} : kStA (some ρ) is rs = stAll ρ is rs := rfl
@[simp] theorem s_StV : kStV (some (d, ρ)) i = some (ρ.set i (.cl d)) := rfl
@[simp] theorem s_Aug {a q : Int} {k : Int → Int → Int} : kAug (some (.cl (.int q), ρ)) i a k = some (.nx (ρ.set i (.cl (.int (k a q))))) := rfl
@[simp] theorem s_Un1 : kUn1 (some (r, ρ)) tg = kUn2 (psV ρ r) tg := rfl
@[simp] theorem s_Un2 : kUn2 (some (d, ρ)) tg = kN (tg ρ d) := rfl
@[simp] theorem s_Par {is : List Nat} (h1 : rs.all notSl = true) (h2 : rs.length ≤ 1000000) : kPar (some (rs, ρ)) is = kN (stAll ρ is rs) := if_pos ⟨h1, by rw [lim_eq]; exact h2⟩
@[simp] theorem s_I4 {m : Nat} {k : Bool} : kI4 (some m) ρ j k ds d = some (.nx (opSet ρ j k (ds.set m d))) := rfl
@[simp] theorem s_I3 {a : Int} {k : Bool} : kI3 (some (k, ds)) ρ j a d = kI4 (ixN ds.length a) ρ j k ds d := rfl
@[simp] theorem s_I2 {a : Int} : kI2 (some (d, ρ)) j a = kI3 (opAt ρ j) ρ j a d := rfl
@[simp] theorem s_I1 {a : Int} : kI1 (some (.cl (.int a), ρ)) r j = kI2 (psV ρ r) j a := rfl
@[simp] theorem s_I0 : kI0 (some (r, ρ)) f j = (match opAt ρ j with
  | some _ => kI1 (f ρ) r j
  | none => none) := by
  show (opAt ρ j).bind _ = _
  cases opAt ρ j <;> rfl
@[simp] theorem s_A3 {a q z : Int} {k : Int → Int → Int} : kA3 (some (.cl (.int q), ρ)) j a z k = kI3 (opAt ρ j) ρ j a (.int (k z q)) := rfl
@[simp] theorem s_A2 {a z : Int} {k : Int → Int → Int} : kA2 (some (.int z)) ρ f j a k = kA3 (f ρ) j a z k := rfl
@[simp] theorem s_A1 {a : Int} {k : Int → Int → Int} : kA1 (some (.cl (.int a), ρ)) f j k = (match opAt ρ j with
  | some c => kA2 (atI c.2 a) ρ f j a k
  | none => none) := by
  show (opAt ρ j).bind _ = _
  cases opAt ρ j <;> rfl
@[simp] theorem s_E3 : kE3 (some (r, ds, ρ)) j = (match opAt ρ j with
  | some c => some (r, opSet ρ j c.1 ds)
  | none => none) := by
  show (opAt ρ j).bind _ = _
  cases opAt ρ j <;> rfl
@[simp] theorem s_E1 {k : MG} : kE1 (some (rs, ρ)) j k = (match opAt ρ j with
  | some c => kE3 (k ρ c.2 rs) j
  | none => none) := by
  show (opAt ρ j).bind _ = _
  cases opAt ρ j <;> rfl
@[simp] theorem s_Ap (h : ds.length < 1000000) : kAp (some (d, ρ)) ds = some (.cl .none, ds ++ [d], ρ) := if_pos (by first | exact h | (rw [lim_eq]; exact h))
@[simp] theorem s_In {k : Int} (h1 : ds.length < 1000000) (h2 : 0 ≤ k) (h3 : k ≤ 1000000) : kIn (some (d, ρ)) ds k = some (.cl .none, ds.take k.toNat ++ [d] ++ ds.drop k.toNat, ρ) := if_pos ⟨by rw [lim_eq]; exact h1, h2, by rw [lim_eq]; exact h3⟩
@[simp] theorem s_For : kFor (some (ds, ρ)) tg g = loopD tg g ds ρ := rfl
@[simp] theorem s_G1 {a : Int} (h1 : -1000000 ≤ a) (h2 : a ≤ 1000000) : kG1 (some ([.cl (.int a)], ρ)) = some (rngD 0 a.toNat 1, ρ) := if_pos ⟨by rw [lim_eq]; exact h1, by rw [lim_eq]; exact h2⟩
@[simp] theorem s_G2 {a q : Int} (h1 : -1000000 ≤ a) (h2 : a ≤ 1000000) (h3 : -1000000 ≤ q) (h4 : q ≤ 1000000) : kG2 (some ([.cl (.int a), .cl (.int q)], ρ)) = some (rngD a (q - a).toNat 1, ρ) := if_pos ⟨⟨by rw [lim_eq]; exact h1, by rw [lim_eq]; exact h2⟩, by rw [lim_eq]; exact h3, by rw [lim_eq]; exact h4⟩
@[simp] theorem s_G3 {a q : Int} (h1 : -1000000 ≤ a) (h2 : a ≤ 1000000) (h3 : -1000000 ≤ q) (h4 : q ≤ 1000000) : kG3 (some ([.cl (.int a), .cl (.int q), .cl (.int (-1))], ρ)) = some (rngD a (a - q).toNat (-1), ρ) := if_pos ⟨⟨⟨by rw [lim_eq]; exact h1, by rw [lim_eq]; exact h2⟩, by rw [lim_eq]; exact h3, by rw [lim_eq]; exact h4⟩, rfl⟩
@[simp] theorem s_ItL : kIt (some (.list ds, ρ)) = some (ds, ρ) := rfl
@[simp] theorem s_ItT : kIt (some (.tuple ds, ρ)) = some (ds, ρ) := rfl
@[simp] theorem s_Pv : kPv (some (r, ρ)) = psV ρ r := rfl
@[simp] theorem s_Zp {x y : PyData} : kZp (some ([x, y], ρ)) = (itemsOf x).bind fun xs => (itemsOf y).map fun ys => (zipD xs ys, ρ) := rfl
@[simp] theorem s_En {x : PyData} : kEn (some ([x], ρ)) = (itemsOf x).map fun xs => (enumD xs, ρ) := rfl
@[simp] theorem s_Rg {a : Int} {mk : List PyData → Val} (h1 : -1000000 ≤ a) (h2 : a ≤ 1000000) : kRg (some (.cl (.int a), ρ)) mk = some (mk (rngD 0 a.toNat 1), ρ) := if_pos ⟨by rw [lim_eq]; exact h1, by rw [lim_eq]; exact h2⟩
@[simp] theorem s_Xt : kXt (some d) ρ = some (.cl d, ρ) := rfl
@[simp] theorem s_Ix {a : Int} : kIx (some (b, ds)) ρ a = kXt (atI ds a) ρ := rfl
@[simp] theorem s_CuT {o' : Option Int} : kCu (some (true, ds)) ρ o o' = some (.own (cutD ds o o'), ρ) := rfl
@[simp] theorem s_CuF {o' : Option Int} : kCu (some (false, ds)) ρ o o' = some (.cl (.tuple (cutD ds o o')), ρ) := rfl
@[simp] theorem s_Ln : kLn (some (b, ds)) ρ = some (.cl (.int ds.length), ρ) := rfl
@[simp] theorem s_Ls : kLs (some (b, ds)) ρ = some (.own ds, ρ) := rfl
@[simp] theorem s_Tp : kTp (some (b, ds)) ρ = some (.cl (.tuple ds), ρ) := rfl
@[simp] theorem s_Bl {k : List Bool → Bool} {bs : List Bool} : kBl (some bs) ρ k = some (.cl (.bool (k bs)), ρ) := rfl
@[simp] theorem e_flatI {a : Int} : flatV' (.cl (.int a)) = true := rfl
@[simp] theorem e_flatB : flatV' (.cl (.bool b)) = true := rfl
@[simp] theorem e_flatN : flatV' (.cl .none) = true := rfl
@[simp] theorem e_flatS {x : Str} : flatV' (.cl (.str x)) = true := rfl
@[simp] theorem e_flatT : flatV' (.cl (.tuple ds)) = false := rfl
@[simp] theorem e_flatL : flatV' (.cl (.list ds)) = false := rfl
@[simp] theorem e_flatO : flatV' (.own ds) = false := rfl
@[simp] theorem e_int {k : Int → Int → Option PyData} {a q : Int} : intG k ρ (.cl (.int a)) (.cl (.int q)) = kXt (k a q) ρ := rfl
@[simp] theorem e_neg {a : Int} : negG ρ (.cl (.int a)) = some (.cl (.int (-a)), ρ) := rfl
@[simp] theorem e_add {a q : Int} : addG ρ (.cl (.int a)) (.cl (.int q)) = some (.cl (.int (a + q)), ρ) := rfl
@[simp] theorem e_mulI {a q : Int} (h : MulOk a q) : mulG ρ (.cl (.int a)) (.cl (.int q)) = some (.cl (.int (a * q)), ρ) := if_pos (by first | exact h | (rw [lim_eq]; exact h))
@[simp] theorem e_addT {xs ys : List PyData} (h : xs.length + ys.length ≤ 1000000) : addG ρ (.cl (.tuple xs)) (.cl (.tuple ys)) = some (.cl (.tuple (xs ++ ys)), ρ) := if_pos (by first | exact h | (rw [lim_eq]; exact h))
@[simp] theorem e_addO {xs ys : List PyData} (h : xs.length + ys.length ≤ 1000000) : addG ρ (.own xs) (.own ys) = some (.own (xs ++ ys), ρ) := if_pos (by first | exact h | (rw [lim_eq]; exact h))
@[simp] theorem e_mulT {xs : List PyData} {a : Int} (h1 : -1000 ≤ a) (h2 : a ≤ 1000) (h3 : xs.length ≤ 1000) : mulG ρ (.cl (.tuple xs)) (.cl (.int a)) = some (.cl (.tuple (List.replicate a.toNat xs).flatten), ρ) := if_pos ⟨h1, h2, h3⟩
@[simp] theorem e_seqC : seqOf ρ (.cl (.list ds)) = some (true, ds) := rfl
@[simp] theorem e_seqT : seqOf ρ (.cl (.tuple ds)) = some (false, ds) := rfl
@[simp] theorem e_seqO : seqOf ρ (.own ds) = some (true, ds) := rfl
@[simp] theorem e_seqS : seqOf ρ (.sl i) = match ρ.getD i .no with
    | .op ds => some (true, ds)
    | .pm ds => some (true, ds)
    | .cl (.list ds) => some (true, ds)
    | _ => none := rfl
@[simp] theorem e_datC : datOf ρ (.cl d) = some d := rfl
@[simp] theorem e_datO : datOf ρ (.own ds) = some (.list ds) := rfl
@[simp] theorem e_datS : datOf ρ (.sl i) = match ρ.getD i .no with
    | .op ds => some (.list ds)
    | .pm ds => some (.list ds)
    | .cl d => some d
    | _ => none := rfl
@[simp] theorem e_ix {a : Val} {k : Int} : ixG ρ a (.cl (.int k)) = kIx (seqOf ρ a) ρ k := by
  unfold ixG
  cases seqOf ρ a <;> rfl
@[simp] theorem e_cut {a : Val} {o' : Option Int} : cutG ρ a o o' = kCu (seqOf ρ a) ρ o o' := by
  unfold cutG
  cases seqOf ρ a with
  | none => rfl
  | some q => obtain ⟨b, ds⟩ := q; cases b <;> rfl
@[simp] theorem e_one {k} {a : Val} : oneG k ρ [a] = k ρ a := rfl
@[simp] theorem e_two {k} {a q : Val} : twoG k ρ [a, q] = k ρ a q := rfl
@[simp] theorem e_max2 {a q : Int} : max2G ρ [.cl (.int a), .cl (.int q)] = some (.cl (.int (max a q)), ρ) := by
  show some (Val.cl (.int (if q > a then q else a)), ρ) = _
  congr 4
  simp only [Int.max_def]
  split <;> split <;> omega
@[simp] theorem e_min2 {a q : Int} : min2G ρ [.cl (.int a), .cl (.int q)] = some (.cl (.int (min a q)), ρ) := by
  show some (Val.cl (.int (if q < a then q else a)), ρ) = _
  congr 4
  simp only [Int.min_def]
  split <;> split <;> omega
@[simp] theorem e_max3 {a q k : Int} : threeG mx3 ρ [.cl (.int a), .cl (.int q), .cl (.int k)] = some (.cl (.int (max (max a q) k)), ρ) := by
  show some (Val.cl (.int (mx3 a q k)), ρ) = _
  congr 4
  simp only [mx3, Int.max_def]
  (repeat' split) <;> omega
@[simp] theorem e_min3 {a q k : Int} : threeG mn3 ρ [.cl (.int a), .cl (.int q), .cl (.int k)] = some (.cl (.int (min (min a q) k)), ρ) := by
  show some (Val.cl (.int (mn3 a q k)), ρ) = _
  congr 4
  simp only [mn3, Int.min_def]
  (repeat' split) <;> omega
@[simp] theorem e_lenT : lenG ρ (.cl (.tuple ds)) = some (.cl (.int ds.length), ρ) := rfl
@[simp] theorem e_lenL : lenG ρ (.cl (.list ds)) = some (.cl (.int ds.length), ρ) := rfl
@[simp] theorem e_lenO : lenG ρ (.own ds) = some (.cl (.int ds.length), ρ) := rfl
@[simp] theorem e_lenS : lenG ρ (.sl i) = kLn (seqOf ρ (.sl i)) ρ := rfl
@[simp] theorem e_abs {a : Int} : absG ρ (.cl (.int a)) = some (.cl (.int (if a < 0 then -a else a)), ρ) := rfl
@[simp] theorem e_intT {a : Int} : intTG ρ (.cl (.int a)) = some (.cl (.int a), ρ) := rfl
@[simp] theorem e_intB : intTG ρ (.cl (.bool b)) = some (.cl (.int (if b then 1 else 0)), ρ) := rfl
@[simp] theorem e_list {a : Val} : listG ρ a = kLs (seqOf ρ a) ρ := rfl
@[simp] theorem e_tuple {a : Val} : tupleG ρ a = kTp (seqOf ρ a) ρ := rfl
@[simp] theorem e_qua {k : List Bool → Bool} : quaG k ρ (.own ds) = kBl (blsOf ds) ρ k := rfl
@[simp] theorem e_any {a : Val} : anyG ρ [a] = quaG (fun bs => bs.any id) ρ a := rfl
@[simp] theorem e_all {a : Val} : allG ρ [a] = quaG (fun bs => bs.all id) ρ a := rfl
@[simp] theorem e_isN {neg : Bool} : isNG' neg ρ (.cl d) (.cl .none) = some (.cl (.bool (neg ^^ isNV (.cl d))), ρ) := rfl
@[simp] theorem e_isN0 : isNV (.cl .none) = true := rfl
@[simp] theorem e_isN1 : isNV (.cl (.tuple ds)) = false := rfl
@[simp] theorem e_isN2 {k : Int} : isNV (.cl (.int k)) = false := rfl
@[simp] theorem e_eqI {k : Bool} {a q : Int} : eqQ k ρ (.cl (.int a)) (.cl (.int q)) = some (.cl (.bool (k ^^ decide (a = q))), ρ) := by
  show (if SeqAt.shaped (.int a) = true ∧ SeqAt.shaped (.int q) = true then some (Val.cl (.bool (k ^^ PyData.eqv (.int a) (.int q))), ρ) else none) = _
  rw [if_pos ⟨rfl, rfl⟩]
  rfl
@[simp] theorem e_eqS {k : Bool} {a q : Str} : eqQ k ρ (.cl (.str a)) (.cl (.str q)) = some (.cl (.bool (k ^^ decide (a = q))), ρ) := rfl
theorem atI_nat' {α : Type} {xs : List α} {k : Int} {n : Nat} (h : k = n) (hn : n < xs.length) : atI xs k = xs[n]? := by
  subst h
  rw [List.getElem?_eq_getElem hn]
  exact atI_nat (List.getElem?_eq_getElem hn)
theorem ixN_nat {n m : Nat} {k : Int} (h : k = m) (hm : m < n) : ixN n k = some m := by
  subst h
  unfold ixN
  simp only [Int.natCast_nonneg, if_true, Int.toNat_natCast]
  rw [if_pos]
  exact_mod_cast hm
@[simp] theorem atI0 {α : Type} {x : α} {l : List α} : atI (x :: l) 0 = some x := atI_nat (j := 0) rfl
@[simp] theorem atI1 {α : Type} {x y : α} {l : List α} : atI (x :: y :: l) 1 = some y := atI_nat (j := 1) rfl
@[simp] theorem atI2 {α : Type} {x y z : α} {l : List α} : atI (x :: y :: z :: l) 2 = some z := atI_nat (j := 2) rfl
@[simp] theorem atI3 {α : Type} {x y z u : α} {l : List α} : atI (x :: y :: z :: u :: l) 3 = some u := atI_nat (j := 3) rfl
theorem ixN0 {n : Nat} (h : 0 < n) : ixN n 0 = some 0 := ixN_nat rfl h
theorem ixN1 {n : Nat} (h : 1 < n) : ixN n 1 = some 1 := ixN_nat rfl h
theorem ixN2 {n : Nat} (h : 2 < n) : ixN n 2 = some 2 := ixN_nat rfl h
@[simp] theorem e_mod {a q : Int} : modG a q = if 0 < q then some (.int (a % q)) else none := rfl
@[simp] theorem e_pow18 : powG 10 18 = some (.int 1000000000000000000) := rfl
@[simp] theorem e_fdiv {a q : Int} (h0 : 0 < q) (h1 : q ≤ 4611686018427387904) : fdivG a q = some (.int (a / q)) := by
  refine if_pos ⟨h0, ?_⟩
  have h2 : q.natAbs < 2 ^ 8999 := Nat.lt_of_le_of_lt (show q.natAbs ≤ 4611686018427387904 by omega) (by decide)
  rw [Nat.log2_lt (by omega)]
  exact Nat.lt_trans h2 (by decide)
def kMr (x : Option Val) (cs : List PyData) : Option (Val × List PyData) := x.map fun v => (v, cs)
def kM (x : Option Out) : Option (Val × List PyData) := x.bind fun o => match o with
  | .rt r ρ' => match ρ'.getD 0 .no with
    | .pm cs' => kMr (retV ρ' r) cs'
    | _ => none
  | .nx ρ' => match ρ'.getD 0 .no with
    | .pm cs' => some (.cl .none, cs')
    | _ => none
  | _ => none
def kPu (x : Option Out) : Option Val := x.bind fun o => match o with
  | .rt r ρ' => retV ρ' r
  | .nx _ => some (.cl .none)
  | _ => none
theorem e_runM {cs : List PyData} : runM n g cs ds = kM (g (argM n cs ds)) := rfl
theorem e_runP : runP n g ds = kPu (g (argE n ds)) := rfl
@[simp] theorem s_M {cs : List PyData} {l : DL.Env} : kM (some (.rt r (.pm cs :: l))) = kMr (retV (.pm cs :: l) r) cs := rfl
@[simp] theorem s_Mn {cs : List PyData} {l : DL.Env} : kM (some (.nx (.pm cs :: l))) = some (.cl .none, cs) := rfl
@[simp] theorem s_Mr {cs : List PyData} : kMr (some r) cs = some (r, cs) := rfl
@[simp] theorem s_Pr : kPu (some (.rt r ρ)) = retV ρ r := rfl
@[simp] theorem s_Pn : kPu (some (.nx ρ)) = some (.cl .none) := rfl
@[simp] theorem e_retC : retV ρ (.cl d) = some (.cl d) := rfl
@[simp] theorem e_retO : retV ρ (.own ds) = some (.own ds) := rfl
@[simp] theorem e_retS : retV ρ (.sl i) = match ρ.getD i .no with
    | .op ds => some (.own ds)
    | .cl d => some (.cl d)
    | .dk t ds => some (.cl (dOf t ds))
    | _ => none := rfl
end
theorem cutD_from {α : List PyData} {o : Option Int} : ∃ k, cutD α o none = α.drop k := ⟨_, by
  unfold cutD
  rw [HT.sIx_none]
  exact List.take_of_length_le (by rw [List.length_drop]; exact Nat.le_refl _)⟩
end DL
end
namespace LW
open PySem L2 DL
structure Bag where
  a : Int
  b : Int
  c : Int
  ns : List Int
  h : ns.length ≤ 63
def Bag.toD (B : Bag) : List PyData := [.int B.a, .int B.b, .int B.c, .list (B.ns.map .int)]
theorem head_int (ns : List Int) (k : Nat) : ∃ z, atI ((ns.map PyData.int).drop k ++ [.int 0]) 0 = some (.int z) := by
  rw [← List.map_drop]
  cases ns.drop k with
  | nil => exact ⟨0, by simp⟩
  | cons a l => exact ⟨a, by simp⟩
theorem take_ok (B : Bag) (m : Int) (hm : 0 < m) (hl : m ≤ 4611686018427387904) : ∃ v B', F__law_take B.toD [.int m] = some (.cl (.int v), Bag.toD B') ∧ 0 ≤ v ∧ v < m := by
  obtain ⟨a, b, c, ns, hns⟩ := B
  unfold F__law_take g__law_take
  rw [e_runM]
  have hmod : ∀ x : Int, 0 ≤ x % m ∧ x % m < m := fun x => ⟨Int.emod_nonneg _ (by omega), Int.emod_lt_of_pos _ hm⟩
  have fin : ∀ (x : Option (Val × List PyData)) (v a' b' c' : Int), x = some (.cl (.int (v % m)), [.int a', .int b', .int c', .list (ns.map .int)]) → ∃ v B', x = some (.cl (.int v), Bag.toD B') ∧ 0 ≤ v ∧ v < m :=
    fun x v a' b' c' h => ⟨v % m, ⟨a', b', c', ns, hns⟩, h, hmod v⟩
  by_cases h1 : a = 0
  · obtain ⟨k, hk⟩ := cutD_from (α := ns.map PyData.int) (o := some c)
    obtain ⟨z, hz⟩ := head_int ns k
    have hlen : (ns.length - k) + 1 ≤ 1000000 := by omega
    subst h1
    by_cases h2 : z ≥ 1000000000000000000
    · have h3 : 0 < z := by omega
      apply fin
      simp [argM, Bag.toD, ixN0, ixN1, ixN2, hk, hz, h2, hlen, h3, hm, hl]
      first | exact ⟨rfl, rfl, rfl, rfl⟩ | rfl
    · apply fin
      simp [argM, Bag.toD, ixN0, ixN1, ixN2, hk, hz, h2, hlen, hm, hl]
      first | exact ⟨rfl, rfl, rfl, rfl⟩ | rfl
  · by_cases h2 : 0 < a
    · apply fin
      simp [argM, Bag.toD, ixN0, ixN1, ixN2, h1, h2, hm, hl]
      first | exact ⟨rfl, rfl, rfl, rfl⟩ | rfl
    · apply fin
      simp [argM, Bag.toD, ixN0, ixN1, ixN2, h1, h2, hm, hl]
      first | exact ⟨rfl, rfl, rfl, rfl⟩ | rfl
end LW
noncomputable section
namespace DL
open PySem L2
section
variable {tg : GD} {body : SD}
inductive Goes (I : DL.Env → Prop) (R : Val → DL.Env → Prop) : Out → Prop
  | nx {ρ} : I ρ → Goes I R (.nx ρ)
  | ct {ρ} : I ρ → Goes I R (.ct ρ)
  | rt {r ρ} : R r ρ → Goes I R (.rt r ρ)
theorem loop_any (I : Nat → DL.Env → Prop) (R : Val → DL.Env → Prop) : ∀ (ds : List PyData) (k : Nat) (ρ : DL.Env), I k ρ →
    (∀ i d ρ, ds[i]? = some d → I (k + i) ρ → ∃ ρ1 o, tg ρ d = some ρ1 ∧ body ρ1 = some o ∧ Goes (I (k + i + 1)) R o) →
    ∃ o, loopD tg body ds ρ = some o ∧ ((∃ ρ', o = .nx ρ' ∧ I (k + ds.length) ρ') ∨ ∃ r ρ', o = .rt r ρ' ∧ R r ρ')
  | [], k, ρ, h, _ => ⟨.nx ρ, rfl, .inl ⟨ρ, rfl, h⟩⟩
  | d :: ds, k, ρ, h, hs => by
    obtain ⟨ρ1, o, e1, e2, g⟩ := hs 0 d ρ rfl h
    have hs' : ∀ i d' ρ, ds[i]? = some d' → I (k + 1 + i) ρ → ∃ ρ1 o, tg ρ d' = some ρ1 ∧ body ρ1 = some o ∧ Goes (I (k + 1 + i + 1)) R o := fun i d' ρ e hi => by
      have := hs (i + 1) d' ρ (by simpa using e) (by rwa [show k + (i + 1) = k + 1 + i by omega])
      rwa [show k + (i + 1) + 1 = k + 1 + i + 1 by omega] at this
    have el : k + 1 + ds.length = k + (d :: ds).length := by rw [List.length_cons]; omega
    cases g with
    | nx hi =>
      obtain ⟨o', e3, h3⟩ := loop_any I R ds (k + 1) _ hi hs'
      rw [el] at h3
      refine ⟨o', ?_, h3⟩
      show (tg ρ d).bind _ = _
      rw [e1]
      show (body ρ1).bind _ = _
      rw [e2]
      exact e3
    | ct hi =>
      obtain ⟨o', e3, h3⟩ := loop_any I R ds (k + 1) _ hi hs'
      rw [el] at h3
      refine ⟨o', ?_, h3⟩
      show (tg ρ d).bind _ = _
      rw [e1]
      show (body ρ1).bind _ = _
      rw [e2]
      exact e3
    | rt hr =>
      rename_i r ρ'
      refine ⟨.rt r ρ', ?_, .inr ⟨r, ρ', rfl, hr⟩⟩
      show (tg ρ d).bind _ = _
      rw [e1]
      show (body ρ1).bind _ = _
      rw [e2]
      rfl
/-- a loop that never leaves -/
theorem loop_all (I : Nat → DL.Env → Prop) {ds : List PyData} {ρ : DL.Env} (h0 : I 0 ρ)
    (hs : ∀ i d ρ, ds[i]? = some d → I i ρ → ∃ ρ1 ρ2, tg ρ d = some ρ1 ∧ body ρ1 = some (.nx ρ2) ∧ I (i + 1) ρ2) : ∃ ρ', loopD tg body ds ρ = some (.nx ρ') ∧ I ds.length ρ' := by
  obtain ⟨o, e, h⟩ := loop_any (tg := tg) (body := body) I (fun _ _ => False) ds 0 ρ h0 (fun i d ρ hd hi => by
    rw [Nat.zero_add] at hi
    obtain ⟨ρ1, ρ2, e1, e2, h⟩ := hs i d ρ hd hi
    exact ⟨ρ1, _, e1, e2, .nx (by rwa [Nat.zero_add])⟩)
  rcases h with ⟨ρ', rfl, h⟩ | ⟨_, _, _, z⟩
  · exact ⟨ρ', e, by rwa [Nat.zero_add] at h⟩
  · exact z.elim
theorem rngD_len (a : Int) (n : Nat) (c : Int) : (rngD a n c).length = n := by
  unfold rngD
  rw [List.length_map, List.length_range]
end
@[simp] theorem e_wipe0 {ρ : DL.Env} : wipeE ρ [] = ρ := rfl
@[simp] theorem e_wipe {ρ : DL.Env} {v : Nat} {vs : List Nat} : wipeE ρ (v :: vs) = (wipeE ρ vs).set v .no := rfl
@[simp] theorem e_rest0 {ρ ρ0 : DL.Env} : restE ρ ρ0 [] = ρ := rfl
@[simp] theorem e_rest {ρ ρ0 : DL.Env} {v : Nat} {vs : List Nat} : restE ρ ρ0 (v :: vs) = (restE ρ ρ0 vs).set v (ρ0.getD v .no) := rfl
section
variable {own : List Nat} {fi : ID} {tg : GD} {tt : TD} {te : ED}
theorem lcL (I : Nat → List PyData → DL.Env → Prop) : ∀ (ds : List PyData) (k : Nat) (acc : List PyData) (ρ : DL.Env), I k acc ρ →
    (∀ i d acc ρ, ds[i]? = some d → I (k + i) acc ρ → ∃ ρ1 b ρ2, tg ρ d = some ρ1 ∧ tt ρ1 = some (b, ρ2) ∧
      if b = true then ∃ r ρ3 x ρ4, te ρ2 = some (r, ρ3) ∧ psV ρ3 r = some (x, ρ4) ∧ acc.length < lim ∧ I (k + i + 1) (acc ++ [x]) (wipeE ρ4 own) else I (k + i + 1) acc (wipeE ρ2 own)) →
    ∃ acc' ρ', lcLoop own tg tt te acc ds ρ = some (acc', ρ') ∧ I (k + ds.length) acc' ρ'
  | [], k, acc, ρ, h, _ => ⟨acc, ρ, rfl, h⟩
  | d :: ds, k, acc, ρ, h, hs => by
    obtain ⟨ρ1, b, ρ2, e1, e2, g⟩ := hs 0 d acc ρ rfl h
    have el : k + 1 + ds.length = k + (d :: ds).length := by rw [List.length_cons]; omega
    have hs' : ∀ i d' acc ρ, ds[i]? = some d' → I (k + 1 + i) acc ρ → ∃ ρ1 b ρ2, tg ρ d' = some ρ1 ∧ tt ρ1 = some (b, ρ2) ∧
        if b = true then ∃ r ρ3 x ρ4, te ρ2 = some (r, ρ3) ∧ psV ρ3 r = some (x, ρ4) ∧ acc.length < lim ∧ I (k + 1 + i + 1) (acc ++ [x]) (wipeE ρ4 own) else I (k + 1 + i + 1) acc (wipeE ρ2 own) := fun i d' acc ρ e hi => by
      have := hs (i + 1) d' acc ρ (by simpa using e) (by rwa [show k + (i + 1) = k + 1 + i by omega])
      rwa [show k + (i + 1) + 1 = k + 1 + i + 1 by omega] at this
    rw [← el]
    cases b with
    | true =>
      rw [if_pos rfl] at g
      obtain ⟨r, ρ3, x, ρ4, e3, e4, hl, hi⟩ := g
      obtain ⟨acc', ρ', e5, h5⟩ := lcL I ds (k + 1) (acc ++ [x]) _ hi hs'
      refine ⟨acc', ρ', ?_, h5⟩
      show (tg ρ d).bind _ = _
      rw [e1]
      show (tt ρ1).bind _ = _
      rw [e2]
      show (te ρ2).bind _ = _
      rw [e3]
      show (psV ρ3 r).bind _ = _
      rw [e4]
      show (if acc.length < lim then _ else none) = _
      rw [if_pos hl]
      exact e5
    | false =>
      rw [if_neg Bool.false_ne_true] at g
      obtain ⟨acc', ρ', e5, h5⟩ := lcL I ds (k + 1) acc _ g hs'
      refine ⟨acc', ρ', ?_, h5⟩
      show (tg ρ d).bind _ = _
      rw [e1]
      show (tt ρ1).bind _ = _
      rw [e2]
      exact e5
theorem lc_any (I : Nat → List PyData → DL.Env → Prop) {ds : List PyData} {ρ ρ0 : DL.Env} (hf : fi ρ = some (ds, ρ0)) (ho : own.all (fun i => !(ρ0.getD i .no).isOpen) = true) (h0 : I 0 [] (wipeE ρ0 own))
    (hs : ∀ i d acc ρ, ds[i]? = some d → I i acc ρ → ∃ ρ1 b ρ2, tg ρ d = some ρ1 ∧ tt ρ1 = some (b, ρ2) ∧
      if b = true then ∃ r ρ3 x ρ4, te ρ2 = some (r, ρ3) ∧ psV ρ3 r = some (x, ρ4) ∧ acc.length < lim ∧ I (i + 1) (acc ++ [x]) (wipeE ρ4 own) else I (i + 1) acc (wipeE ρ2 own)) :
    ∃ acc ρ', lcD own fi tg tt te ρ = some (.own acc, restE ρ' ρ0 own) ∧ I ds.length acc ρ' := by
  obtain ⟨acc, ρ', e, h⟩ := lcL (own := own) (tg := tg) (tt := tt) (te := te) I ds 0 [] _ h0 (fun i d acc ρ hd hi => by
    rw [Nat.zero_add] at hi
    have := hs i d acc ρ hd hi
    simpa only [Nat.zero_add] using this)
  rw [Nat.zero_add] at h
  refine ⟨acc, ρ', ?_, h⟩
  show (fi ρ).bind _ = _
  rw [hf]
  show (if own.all (fun i => !(ρ0.getD i .no).isOpen) = true then _ else none) = _
  rw [if_pos ho, e]
  rfl
end
def turn (tg : GD) (body : SD) (ρ : DL.Env) (d : PyData) : Option Out := (tg ρ d).bind body
def kTu (x : Option DL.Env) (body : SD) : Option Out := x.bind body
@[simp] theorem e_turn {tg : GD} {body : SD} {ρ : DL.Env} {d : PyData} : turn tg body ρ d = kTu (tg ρ d) body := rfl
@[simp] theorem s_Tu {body : SD} {ρ : DL.Env} : kTu (some ρ) body = body ρ := rfl
/-- the loop's variable behind i turns -/
def lv (c0 : Cell) (a c : Int) : Nat → Cell
  | 0 => c0
  | i + 1 => .cl (.int (a + i * c))
@[simp] theorem lv0 {c0 : Cell} {a c : Int} : lv c0 a c 0 = c0 := rfl
@[simp] theorem lvS {c0 : Cell} {a c : Int} {i : Nat} : lv c0 a c (i + 1) = .cl (.int (a + i * c)) := rfl
/-- a turn that goes on -/
def Turns (I : DL.Env → Prop) (x : Option Out) : Prop := ∃ ρ2, x = some (.nx ρ2) ∧ I ρ2
theorem turns_nx {I : DL.Env → Prop} {ρ : DL.Env} (h : I ρ) : Turns I (some (.nx ρ)) := ⟨ρ, rfl, h⟩
/-- a loop that may hang on anything: what holds behind it -/
theorem use_loop {P : Option Out → Prop} {tg : GD} {body : SD} {ρ : DL.Env} {ds : List PyData} (I : Nat → DL.Env → Prop) (h0 : I 0 ρ) (hs : ∀ i d ρ, ds[i]? = some d → I i ρ → Turns (I (i + 1)) (turn tg body ρ d))
    (hk : ∀ ρ', I ds.length ρ' → P (some (.nx ρ'))) : P (loopD tg body ds ρ) := by
  obtain ⟨ρ', e, h⟩ := loop_all (tg := tg) (body := body) (ds := ds) (ρ := ρ) I h0 (fun i d ρ hd h => by
    obtain ⟨ρ2, e, h2⟩ := hs i d ρ hd h
    obtain ⟨ρ1, e1, e2⟩ := Option.bind_eq_some_iff.mp e
    exact ⟨ρ1, ρ2, e1, e2, h2⟩)
  rw [e]
  exact hk ρ' h
theorem use_loopR {P : Option Out → Prop} {tg : GD} {body : SD} {ρ : DL.Env} {ds : List PyData} (I : Nat → DL.Env → Prop) (R : Val → DL.Env → Prop) (h0 : I 0 ρ) (hs : ∀ i d ρ, ds[i]? = some d → I i ρ → ∃ o, turn tg body ρ d = some o ∧ Goes (I (i + 1)) R o)
    (hk : ∀ ρ', I ds.length ρ' → P (some (.nx ρ'))) (hr : ∀ r ρ', R r ρ' → P (some (.rt r ρ'))) : P (loopD tg body ds ρ) := by
  obtain ⟨o, e, h⟩ := loop_any (tg := tg) (body := body) I R ds 0 ρ h0 (fun i d ρ hd h => by
    rw [Nat.zero_add] at h ⊢
    obtain ⟨o, e, h2⟩ := hs i d ρ hd h
    obtain ⟨ρ1, e1, e2⟩ := Option.bind_eq_some_iff.mp e
    exact ⟨ρ1, o, e1, e2, h2⟩)
  rw [Nat.zero_add] at h
  rw [e]
  rcases h with ⟨ρ', rfl, h⟩ | ⟨r, ρ', rfl, h⟩
  · exact hk ρ' h
  · exact hr r ρ' h
def lcGo (own : List Nat) (tg : GD) (tt : TD) (te : ED) (ds : List PyData) (ρ0 : DL.Env) : Option (Val × DL.Env) := if own.all (fun i => !(ρ0.getD i .no).isOpen) = true then
    (lcLoop own tg tt te [] ds (wipeE ρ0 own)).bind fun q => some (.own q.1, restE q.2 ρ0 own)
  else none
def kLc (x : Option (List PyData × DL.Env)) (own : List Nat) (tg : GD) (tt : TD) (te : ED) : Option (Val × DL.Env) := x.bind fun p => lcGo own tg tt te p.1 p.2
@[simp] theorem e_lc {own : List Nat} {fi : ID} {tg : GD} {tt : TD} {te : ED} {ρ : DL.Env} : lcD own fi tg tt te ρ = kLc (fi ρ) own tg tt te := rfl
@[simp] theorem s_Lc {own : List Nat} {tg : GD} {tt : TD} {te : ED} {ρ : DL.Env} {ds : List PyData} : kLc (some (ds, ρ)) own tg tt te = lcGo own tg tt te ds ρ := rfl
/-- one item: what it adds, and the slots behind it -/
def kJ3 (x : Option (PyData × DL.Env)) (own : List Nat) : Option (Option PyData × DL.Env) := x.map fun p => (some p.1, wipeE p.2 own)
def kJ2 (x : Option (Bool × DL.Env)) (te : ED) (own : List Nat) : Option (Option PyData × DL.Env) := x.bind fun p => if p.1 = true then kJ3 (kPv (te p.2)) own else some (none, wipeE p.2 own)
def kJ1 (x : Option DL.Env) (tt : TD) (te : ED) (own : List Nat) : Option (Option PyData × DL.Env) := x.bind fun ρ => kJ2 (tt ρ) te own
def lcItem (own : List Nat) (tg : GD) (tt : TD) (te : ED) (ρ : DL.Env) (d : PyData) : Option (Option PyData × DL.Env) := kJ1 (tg ρ d) tt te own
@[simp] theorem e_item {own : List Nat} {tg : GD} {tt : TD} {te : ED} {ρ : DL.Env} {d : PyData} : lcItem own tg tt te ρ d = kJ1 (tg ρ d) tt te own := rfl
@[simp] theorem s_J1 {own : List Nat} {tt : TD} {te : ED} {ρ : DL.Env} : kJ1 (some ρ) tt te own = kJ2 (tt ρ) te own := rfl
@[simp] theorem s_J2 {own : List Nat} {te : ED} {ρ : DL.Env} {b : Bool} : kJ2 (some (b, ρ)) te own = if b = true then kJ3 (kPv (te ρ)) own else some (none, wipeE ρ own) := rfl
@[simp] theorem s_J3 {own : List Nat} {ρ : DL.Env} {d : PyData} : kJ3 (some (d, ρ)) own = some (some d, wipeE ρ own) := rfl
theorem item_of {own : List Nat} {tg : GD} {tt : TD} {te : ED} {ρ ρ' : DL.Env} {d : PyData} {o : Option PyData} (h : lcItem own tg tt te ρ d = some (o, ρ')) :
    ∃ ρ1 b ρ2, tg ρ d = some ρ1 ∧ tt ρ1 = some (b, ρ2) ∧ if b = true then ∃ r ρ3 x ρ4, te ρ2 = some (r, ρ3) ∧ psV ρ3 r = some (x, ρ4) ∧ o = some x ∧ wipeE ρ4 own = ρ' else o = none ∧ wipeE ρ2 own = ρ' := by
  obtain ⟨ρ1, e1, h⟩ := Option.bind_eq_some_iff.mp h
  obtain ⟨⟨b, ρ2⟩, e2, h⟩ := Option.bind_eq_some_iff.mp h
  refine ⟨ρ1, b, ρ2, e1, e2, ?_⟩
  cases b with
  | true =>
    rw [if_pos rfl]
    simp only [if_true] at h
    obtain ⟨⟨x, ρ4⟩, e3, h⟩ := Option.map_eq_some_iff.mp h
    obtain ⟨⟨r, ρ3⟩, e4, e5⟩ := Option.bind_eq_some_iff.mp e3
    cases h
    exact ⟨r, ρ3, x, ρ4, e4, e5, rfl, rfl⟩
  | false =>
    rw [if_neg Bool.false_ne_true]
    simp only [Bool.false_eq_true, if_false] at h
    cases h
    exact ⟨rfl, rfl⟩
/-- nothing changes but the slots of the block -/
theorem lc_eq {own : List Nat} {tg : GD} {tt : TD} {te : ED} {ρ : DL.Env} {ds : List PyData} (n : Nat) (g : Nat → PyData) (f : Nat → Option PyData) (hd : ds = (List.range n).map g) (ho : own.all (fun i => !(ρ.getD i .no).isOpen) = true) (hn : n ≤ 1000000)
    (hr : restE (wipeE ρ own) ρ own = ρ) (hs : ∀ k, k < n → lcItem own tg tt te (wipeE ρ own) (g k) = some (f k, wipeE ρ own)) : lcGo own tg tt te ds ρ = some (.own ((List.range n).filterMap f), ρ) := by
  subst hd
  have := lc_any (own := own) (fi := fun ρ' => some ((List.range n).map g, ρ')) (tg := tg) (tt := tt) (te := te) (ρ := ρ) (ρ0 := ρ) (fun i acc ρ' => acc = ((List.range n).take i).filterMap f ∧ ρ' = wipeE ρ own) rfl ho ⟨rfl, rfl⟩ (fun i d acc ρ' hd hi => by
    obtain ⟨rfl, rfl⟩ := hi
    rw [List.getElem?_map] at hd
    obtain ⟨k, hk, rfl⟩ := Option.map_eq_some_iff.mp hd
    have hkn : k < n := List.mem_range.mp (List.mem_of_getElem? hk)
    have hin : i < n := by
      have := (List.getElem?_eq_some_iff.mp hk).1
      simpa using this
    have et : (List.range n).take (i + 1) = (List.range n).take i ++ [k] := by rw [List.take_add_one, hk]; rfl
    obtain ⟨ρ1, b, ρ2, e1, e2, h⟩ := item_of (hs k hkn)
    refine ⟨ρ1, b, ρ2, e1, e2, ?_⟩
    cases b with
    | true =>
      rw [if_pos rfl] at h ⊢
      obtain ⟨r, ρ3, x, ρ4, e3, e4, e5, e6⟩ := h
      refine ⟨r, ρ3, x, ρ4, e3, e4, ?_, ?_, e6⟩
      · have hl := lim_eq
        have := List.length_filterMap_le f ((List.range n).take i)
        rw [List.length_take, List.length_range] at this
        rw [lim_eq]
        omega
      · rw [et, List.filterMap_append]
        simp [e5]
    | false =>
      rw [if_neg Bool.false_ne_true] at h ⊢
      refine ⟨?_, h.2⟩
      rw [et, List.filterMap_append]
      simp [h.1])
  obtain ⟨acc, ρ', e, rfl, rfl⟩ := this
  rw [List.length_map, List.take_length, hr] at e
  exact e
theorem lc_map {own : List Nat} {tg : GD} {tt : TD} {te : ED} {ρ : DL.Env} {ds : List PyData} (n : Nat) (g u : Nat → PyData) (hd : ds = (List.range n).map g) (ho : own.all (fun i => !(ρ.getD i .no).isOpen) = true) (hn : n ≤ 1000000)
    (hr : restE (wipeE ρ own) ρ own = ρ) (hs : ∀ k, k < n → lcItem own tg tt te (wipeE ρ own) (g k) = some (some (u k), wipeE ρ own)) : lcGo own tg tt te ds ρ = some (.own ((List.range n).map u), ρ) := by
  rw [lc_eq n g (fun k => some (u k)) hd ho hn hr hs, List.filterMap_eq_map']
def iv (n : Nat) (w : Nat → Int) : List PyData := (List.range n).map fun k => .int (w k)
section
variable {n : Nat} {w v : Nat → Int}
@[simp] theorem iv_len : (iv n w).length = n := by simp [iv]
theorem iv_get {k : Nat} (h : k < n) : (iv n w)[k]? = some (.int (w k)) := by simp [iv, h]
theorem iv_mem {d : PyData} (h : d ∈ iv n w) : ∃ k, k < n ∧ d = .int (w k) := by
  simp only [iv, List.mem_map, List.mem_range] at h
  obtain ⟨k, h1, h2⟩ := h
  exact ⟨k, h1, h2.symm⟩
theorem iv_at {k : Nat} {i : Int} (e : i = k) (h : k < n) : atI (iv n w) i = some (.int (w k)) := by
  rw [atI_nat' e (by simpa using h), iv_get h]
theorem iv_last : atI (iv (n + 1) w) (-1) = some (.int (w n)) := by
  have : iv (n + 1) w = iv n w ++ [.int (w n)] := by simp [iv, List.range_succ]
  rw [this]
  exact atI_last _ _
theorem ixN_last : ixN (n + 1) (-1) = some n := by
  unfold ixN
  rw [if_neg (by omega), if_pos (by omega)]
  congr 1
  omega
theorem iv_congr (h : ∀ k, k < n → w k = v k) : iv n w = iv n v := by
  unfold iv
  apply List.map_congr_left
  intro k hk
  rw [h k (List.mem_range.mp hk)]
def put (w : Nat → Int) (m : Nat) (x : Int) : Nat → Int := fun k => if k = m then x else w k
theorem iv_set {m : Nat} {x : Int} : (iv n w).set m (.int x) = iv n (put w m x) := by
  apply List.ext_getElem?
  intro k
  rw [List.getElem?_set]
  by_cases hk : k < n
  · rw [iv_get hk, iv_get hk]
    unfold put
    by_cases h : m = k
    · subst h
      simp [hk]
    · rw [if_neg h, if_neg (fun z => h z.symm)]
  · have e : ∀ u : Nat → Int, (iv n u)[k]? = none := fun u => List.getElem?_eq_none (by simp; omega)
    rw [e, e]
    by_cases h : m = k
    · subst h
      simp [hk]
    · rw [if_neg h]
end
def gl (n : Nat) (g : Nat → PyData) : List PyData := (List.range n).map g
section
variable {n : Nat} {g h : Nat → PyData}
@[simp] theorem gl_len : (gl n g).length = n := by simp [gl]
theorem gl_get {k : Nat} (hk : k < n) : (gl n g)[k]? = some (g k) := by simp [gl, hk]
theorem gl_at {k : Nat} {i : Int} (e : i = k) (hk : k < n) : atI (gl n g) i = some (g k) := by
  rw [atI_nat' e (by simpa using hk), gl_get hk]
theorem gl_congr (e : ∀ k, k < n → g k = h k) : gl n g = gl n h := by
  unfold gl
  exact List.map_congr_left fun k hk => e k (List.mem_range.mp hk)
theorem lc_glf {own : List Nat} {tg : GD} {tt : TD} {te : ED} {ρ : DL.Env} (f : Nat → Option PyData) (ho : own.all (fun i => !(ρ.getD i .no).isOpen) = true) (hn : n ≤ 1000000)
    (hr : restE (wipeE ρ own) ρ own = ρ) (hs : ∀ k, k < n → lcItem own tg tt te (wipeE ρ own) (g k) = some (f k, wipeE ρ own)) : lcGo own tg tt te (gl n g) ρ = some (.own ((List.range n).filterMap f), ρ) :=
  lc_eq n g f rfl ho hn hr hs
theorem enum_gl : enumD (gl n g) = gl n fun k => .tuple [.int (k : Nat), g k] := by
  unfold enumD
  apply List.ext_getElem?
  intro k
  rw [List.getElem?_mapIdx]
  by_cases hk : k < n
  · rw [gl_get hk, gl_get hk]; rfl
  · have e : ∀ u : Nat → PyData, (gl n u)[k]? = none := fun u => List.getElem?_eq_none (by simp; omega)
    rw [e, e]; rfl
theorem enum_iv {w : Nat → Int} : enumD (iv n w) = gl n fun k => .tuple [.int (k : Nat), .int (w k)] := enum_gl (g := fun k => .int (w k))
theorem iv_succ {w : Nat → Int} : iv (n + 1) w = iv n w ++ [.int (w n)] := by simp [iv, List.range_succ]
theorem lc_gl {own : List Nat} {tg : GD} {tt : TD} {te : ED} {ρ : DL.Env} (u : Nat → PyData) (ho : own.all (fun i => !(ρ.getD i .no).isOpen) = true) (hn : n ≤ 1000000)
    (hr : restE (wipeE ρ own) ρ own = ρ) (hs : ∀ k, k < n → lcItem own tg tt te (wipeE ρ own) (g k) = some (some (u k), wipeE ρ own)) : lcGo own tg tt te (gl n g) ρ = some (.own (gl n u), ρ) :=
  lc_map n g u rfl ho hn hr hs
end
end DL
end
namespace DL
open PySem L2
/-- a turn that goes on or leaves -/
def TurnsR (I : DL.Env → Prop) (R : Val → DL.Env → Prop) (x : Option Out) : Prop := ∃ o, x = some o ∧ Goes I R o
theorem turnsR_nx {I : DL.Env → Prop} {R : Val → DL.Env → Prop} {ρ : DL.Env} (h : I ρ) : TurnsR I R (some (.nx ρ)) := ⟨_, rfl, .nx h⟩
theorem turnsR_rt {I : DL.Env → Prop} {R : Val → DL.Env → Prop} {r : Val} {ρ : DL.Env} (h : R r ρ) : TurnsR I R (some (.rt r ρ)) := ⟨_, rfl, .rt h⟩
theorem use_loopT {P : Option Out → Prop} {tg : GD} {body : SD} {ρ : DL.Env} {ds : List PyData} (I : Nat → DL.Env → Prop) (R : Val → DL.Env → Prop) (h0 : I 0 ρ) (hs : ∀ i d ρ, ds[i]? = some d → I i ρ → TurnsR (I (i + 1)) R (turn tg body ρ d))
    (hk : ∀ ρ', I ds.length ρ' → P (some (.nx ρ'))) (hr : ∀ r ρ', R r ρ' → P (some (.rt r ρ'))) : P (loopD tg body ds ρ) := use_loopR I R h0 hs hk hr
end DL
noncomputable section
namespace DL
open PySem L2
section
variable {ρ : DL.Env} {a b r r1 r2 : Val} {b1 b2 : Bool} {ds : List PyData} {ns : List Int} {k : Int}
def kSm2 (x : Option (List Int)) (ρ : DL.Env) : Option (Val × DL.Env) := x.map fun ns => (.cl (.int ns.sum), ρ)
def kSm (x : Option (Bool × List PyData)) (ρ : DL.Env) : Option (Val × DL.Env) := x.bind fun q => kSm2 (intsOf q.2) ρ
@[simp] theorem e_sum : sumG ρ a = kSm (seqOf ρ a) ρ := rfl
@[simp] theorem s_Sm : kSm (some (b1, ds)) ρ = kSm2 (intsOf ds) ρ := rfl
@[simp] theorem s_Sm2 : kSm2 (some ns) ρ = some (.cl (.int ns.sum), ρ) := rfl
def kSo2 (x : Option (List Int)) (ρ : DL.Env) : Option (Val × DL.Env) := x.map fun ns => (.own ((sortI ns).map .int), ρ)
def kSo (x : Option (Bool × List PyData)) (ρ : DL.Env) : Option (Val × DL.Env) := x.bind fun q => kSo2 (intsOf q.2) ρ
@[simp] theorem e_sorted : sortG ρ a = kSo (seqOf ρ a) ρ := rfl
@[simp] theorem s_So : kSo (some (b1, ds)) ρ = kSo2 (intsOf ds) ρ := rfl
@[simp] theorem s_So2 : kSo2 (some ns) ρ = some (.own ((sortI ns).map .int), ρ) := rfl
def kUq2 (x : Option (List Int)) (ρ : DL.Env) : Option (Val × DL.Env) := x.bind fun ns => if ns.length ≤ 4000 ∧ (dd ns).length < 64 then some (.own ((sortU ns).map .int), ρ) else none
def kUq (x : Option (Bool × List PyData)) (ρ : DL.Env) : Option (Val × DL.Env) := x.bind fun q => if q.1 = true then kUq2 (intsOf q.2) ρ else none
@[simp] theorem e_uni : uniG ρ a = kUq (seqOf ρ a) ρ := by
  unfold uniG kUq
  cases seqOf ρ a with
  | none => rfl
  | some q =>
    obtain ⟨b, ds⟩ := q
    cases b <;> rfl
@[simp] theorem s_Uq : kUq (some (true, ds)) ρ = kUq2 (intsOf ds) ρ := rfl
@[simp] theorem s_Uq2 (h1 : ns.length ≤ 4000) (h2 : (dd ns).length < 64) : kUq2 (some ns) ρ = some (.own ((sortU ns).map .int), ρ) := if_pos ⟨h1, h2⟩
def kV4 (x : Option (Bool × List PyData)) (b : Bool) (g : M1) (ρ : DL.Env) (r2 : Val) : Option (Val × DL.Env) := x.bind fun k2 => if k2.1 = b then g ρ k2.2 r2 else none
def kV3 (x : Option (Val × DL.Env)) (r : Val) (b : Bool) (g : M1) : Option (Val × DL.Env) := x.bind fun q => kV4 (seqOf q.2 r) b g q.2 q.1
def kV2 (x : Option (Bool × List PyData)) (ρ : DL.Env) (r : Val) (f2 : ED) (g : M1) : Option (Val × DL.Env) := x.bind fun k => kV3 (f2 ρ) r k.1 g
def kV1 (x : Option (Val × DL.Env)) (f2 : ED) (g : M1) : Option (Val × DL.Env) := x.bind fun p => kV2 (seqOf p.2 p.1) p.2 p.1 f2 g
variable {f1 f2 : ED} {g : M1}
@[simp] theorem e_metV : metV f1 f2 g ρ = kV1 (f1 ρ) f2 g := rfl
@[simp] theorem s_V1 : kV1 (some (r, ρ)) f2 g = kV2 (seqOf ρ r) ρ r f2 g := rfl
@[simp] theorem s_V2 : kV2 (some (b1, ds)) ρ r f2 g = kV3 (f2 ρ) r b1 g := rfl
@[simp] theorem s_V3 : kV3 (some (r2, ρ)) r b1 g = kV4 (seqOf ρ r) b1 g ρ r2 := rfl
@[simp] theorem s_V4 : kV4 (some (b1, ds)) b1 g ρ r2 = g ρ ds r2 := if_pos rfl
def kCn (x : Option (List Int)) (k : Int) (ρ : DL.Env) : Option (Val × DL.Env) := x.map fun ns => (.cl (.int (ns.count k : Nat)), ρ)
@[simp] theorem e_cnt : cntG ρ ds (.cl (.int k)) = kCn (intsOf ds) k ρ := rfl
@[simp] theorem s_Cn : kCn (some ns) k ρ = some (.cl (.int (ns.count k : Nat)), ρ) := rfl
def kIdx (x : Option (List Int)) (k : Int) (ρ : DL.Env) : Option (Val × DL.Env) := x.bind fun ns => if k ∈ ns then some (.cl (.int (ns.idxOf k : Nat)), ρ) else none
@[simp] theorem e_idx : idxG ρ ds (.cl (.int k)) = kIdx (intsOf ds) k ρ := rfl
@[simp] theorem s_Idx (h : k ∈ ns) : kIdx (some ns) k ρ = some (.cl (.int (ns.idxOf k : Nat)), ρ) := if_pos h
@[simp] theorem ints_map : intsOf (ns.map .int) = some ns := intsOf_map ns
@[simp] theorem ints_iv {n : Nat} {w : Nat → Int} : intsOf (iv n w) = some ((List.range n).map w) := by
  have : iv n w = ((List.range n).map w).map .int := by simp [iv]
  rw [this, intsOf_map]
theorem flats_ints : ∀ (ns : List Int), flatsOf (ns.map .int) = some (ns.map V.int)
  | [] => rfl
  | n :: ns => by
    show (flatOf (.int n)).bind _ = _
    show (flatsOf (ns.map .int)).map _ = _
    rw [flats_ints ns]; rfl
theorem in_ints : ∀ (ns : List Int), inV (.int k) (ns.map V.int) = decide (k ∈ ns)
  | [] => by simp [inV]
  | n :: ns => by
    have ih := in_ints ns
    show ((n == k) || inV (.int k) (ns.map V.int)) = _
    rw [ih]
    by_cases h : n = k
    · subst h; simp
    · have h2 : ¬ k = n := fun z => h z.symm
      simp [h, h2]
def kIn2 (x : Option (List V)) (v : V) (neg : Bool) (ρ : DL.Env) : Option (Val × DL.Env) := x.map fun xs => (.cl (.bool (if neg then !inV v xs else inV v xs)), ρ)
def kIn1 (x : Option (Bool × List PyData)) (v : V) (neg : Bool) (ρ : DL.Env) : Option (Val × DL.Env) := x.bind fun q => kIn2 (flatsOf q.2) v neg ρ
def kIn0 (x : Option V) (b : Val) (neg : Bool) (ρ : DL.Env) : Option (Val × DL.Env) := x.bind fun v => kIn1 (seqOf ρ b) v neg ρ
@[simp] theorem e_in {neg : Bool} {d : PyData} : inG neg ρ (.cl d) b = kIn0 (flatOf d) b neg ρ := rfl
@[simp] theorem s_In0 {neg : Bool} {v : V} : kIn0 (some v) b neg ρ = kIn1 (seqOf ρ b) v neg ρ := rfl
@[simp] theorem s_In1 {neg : Bool} {v : V} : kIn1 (some (b1, ds)) v neg ρ = kIn2 (flatsOf ds) v neg ρ := rfl
@[simp] theorem f_int : flatOf (.int k) = some (.int k) := rfl
@[simp] theorem f_str {x : Str} : flatOf (.str x) = some (.str x) := rfl
@[simp] theorem f_ints : flatsOf (ns.map .int) = some (ns.map V.int) := flats_ints ns
@[simp] theorem f_iv {n : Nat} {w : Nat → Int} : flatsOf (iv n w) = some (((List.range n).map w).map V.int) := by
  have : iv n w = ((List.range n).map w).map .int := by simp [iv]
  rw [this, flats_ints]
@[simp] theorem s_InI : kIn2 (some (ns.map V.int)) (.int k) false ρ = some (.cl (.bool (decide (k ∈ ns))), ρ) := by
  unfold kIn2
  rw [Option.map_some, in_ints]; rfl
@[simp] theorem s_NiI : kIn2 (some (ns.map V.int)) (.int k) true ρ = some (.cl (.bool (!decide (k ∈ ns))), ρ) := by
  unfold kIn2
  rw [Option.map_some, in_ints]; rfl
def kIt4 (m : Option Nat) (ρ : DL.Env) (j : Nat) (k : Bool) (ds : List PyData) (d : PyData) : Option Out := m.bind fun m => some (.nx (opSet ρ j k (ds.set m d)))
def kAs2 (x : Option (List PyData × DL.Env)) (i j k : Nat) : Option Out := x.bind fun q => match q.1 with
  | [d1, d2] => itemSt (q.2.set i (.cl d1)) j k d2
  | _ => none
@[simp] theorem e_asg {i j k : Nat} {t : AD} : asgNS i j k t ρ = kAs2 (kPs (t ρ)) i j k := by
  unfold asgNS kAs2 kPs
  cases t ρ <;> rfl
@[simp] theorem s_As2 {i j k : Nat} {d1 d2 : PyData} : kAs2 (some ([d1, d2], ρ)) i j k = itemSt (ρ.set i (.cl d1)) j k d2 := rfl
@[simp] theorem s_It4 {j m : Nat} {kk : Bool} {d : PyData} : kIt4 (some m) ρ j kk ds d = some (.nx (opSet ρ j kk (ds.set m d))) := rfl
def kEx (x : Option (Bool × List PyData)) (ds : List PyData) (ρ : DL.Env) : Option (Val × List PyData × DL.Env) := x.bind fun q => if q.1 = true then (if ds.length + q.2.length ≤ lim then some (.cl .none, ds ++ q.2, ρ) else none) else none
@[simp] theorem e_ext : extG ρ ds [r] = kEx (seqOf ρ r) ds ρ := by
  unfold kEx
  show (match seqOf ρ r with
    | some (true, es) => (if ds.length + es.length ≤ lim then some (Val.cl .none, ds ++ es, ρ) else none)
    | _ => none) = _
  cases seqOf ρ r with
  | none => rfl
  | some q =>
    obtain ⟨b, es⟩ := q
    cases b <;> rfl
@[simp] theorem s_Ex {es : List PyData} (h : ds.length + es.length ≤ 1000000) : kEx (some (true, es)) ds ρ = some (.cl .none, ds ++ es, ρ) := if_pos (by rw [lim_eq]; exact h)
end
/-- a lent list, nothing drawn -/
theorem lcB_pure {j : Nat} {own : List Nat} {tg : GD} {tt : TD} {te : ED} {ρ : DL.Env} {ds es : List PyData} (h : ρ.getD j .no = .op ds) (g : lcGo own tg tt te (enumD ds) (ρ.set j .no) = some (.own es, ρ.set j .no)) : lcB j own tg tt te ρ = some (.own es, ρ) := by
  have hl : j < ρ.length := by
    by_cases z : j < ρ.length
    · exact z
    · rw [List.getD_eq_getElem?_getD, List.getElem?_eq_none (by omega)] at h; cases h
  have hn : (ρ.set j .no).getD j .no = .no := by rw [List.getD_eq_getElem?_getD, List.getElem?_set_self hl]; rfl
  have hb : (ρ.set j .no).set j (.op ds) = ρ := by
    rw [List.set_set]
    apply List.ext_getElem?
    intro k
    rw [List.getElem?_set]
    by_cases hk : j = k
    · subst hk
      rw [if_pos rfl, if_pos hl, List.getElem?_eq_getElem hl]
      rw [List.getD_eq_getElem?_getD, List.getElem?_eq_getElem hl] at h
      exact congrArg some h.symm
    · rw [if_neg hk]
  unfold lcB
  rw [h]
  unfold lcGo at g
  simp only
  split at g
  · rename_i ha
    rw [if_pos ha]
    obtain ⟨⟨q1, q2⟩, e1, e2⟩ := Option.bind_eq_some_iff.mp g
    rw [e1]
    have e3 : q1 = es ∧ restE q2 (ρ.set j .no) own = ρ.set j .no := by
      simp only [Option.some.injEq, Prod.mk.injEq, Val.own.injEq] at e2
      exact e2
    show (match (restE q2 (ρ.set j .no) own).getD j .no with
      | .no => some (Val.own q1, (restE q2 (ρ.set j .no) own).set j (.op ds))
      | _ => none) = _
    rw [e3.2, hn, hb, e3.1]
  · cases g
@[simp] theorem e_mulO {ρ : DL.Env} {xs : List PyData} {a : Int} (h1 : -1000 ≤ a) (h2 : a ≤ 1000) (h3 : xs.length ≤ 1000) : mulG ρ (.own xs) (.cl (.int a)) = some (.own (List.replicate a.toNat xs).flatten, ρ) := if_pos ⟨h1, h2, h3⟩
theorem add_seq {ρ : DL.Env} {a b : Val} {xs ys : List PyData} (ha : seqOf ρ a = some (true, xs)) (hb : seqOf ρ b = some (true, ys)) (h : xs.length + ys.length ≤ 1000000) : addG ρ a b = some (.own (xs ++ ys), ρ) := by
  cases a with
  | cl d => cases d <;> cases b <;> rename_i d2 <;> first | (cases ha; done) | (cases d2 <;> first | (cases hb; done) | (unfold addG; simp only [ha, hb]; rw [if_pos (by rw [lim_eq]; exact h)])) | (unfold addG; simp only [ha, hb]; rw [if_pos (by rw [lim_eq]; exact h)])
  | own es => unfold addG; simp only [ha, hb]; rw [if_pos (by rw [lim_eq]; exact h)]
  | sl i => unfold addG; simp only [ha, hb]; rw [if_pos (by rw [lim_eq]; exact h)]
end DL
end
namespace LW
open PySem L2 DL
/-- the greatest so far -/
def up (w : Nat → Int) : Nat → Int
  | 0 => w 0
  | k + 1 => max (w (k + 1)) (up w k)
/-- from the end n: the value j places ahead of it -/
def dn (n : Nat) (w : Nat → Int) : Nat → Int
  | 0 => w n
  | j + 1 => max (w (n - (j + 1))) (dn n w j - 1)
/-- the row, made such that it ends at least at s -/
def fit (n : Nat) (w : Nat → Int) (s : Int) : Nat → Int := fun k => if k = n then max 0 (max (w n) s) else max 0 (w k)
def counts (n : Nat) (w : Nat → Int) (s : Int) : Nat → Int := fun k => dn n (up (fit n w s)) (n - k)
/-- turns: what is behind i, what is not yet -/
def upto (i : Nat) (a b : Nat → Int) : Nat → Int := fun k => if k ≤ i then a k else b k
theorem put_same {w : Nat → Int} {m : Nat} {x : Int} : put w m x m = x := if_pos rfl
theorem put_ne {w : Nat → Int} {m k : Nat} {x : Int} (h : k ≠ m) : put w m x k = w k := if_neg h
end LW
namespace LW
open PySem L2 DL
/-- floors from the first one on -/
def upF (W : Nat → Nat → Int) : Nat → Nat → Int := fun f k => up (fun g => W g k) f
/-- floors from the last one, F - 1, down: j floors ahead of it -/
def dnF (F : Nat) (W : Nat → Nat → Int) (S : Nat → Int) : Nat → Nat → Int
  | 0, k => W (F - 1) k
  | j + 1, k => max (W (F - 1 - (j + 1)) k) (dnF F W S j k - (S (F - 1 - j) - S (F - 1 - (j + 1))))
def floors (F : Nat) (W : Nat → Nat → Int) (S : Nat → Int) : Nat → Nat → Int := fun f k => dnF F (upF W) S (F - 1 - f) k
def rowsT (F n : Nat) (W : Nat → Nat → Int) : List PyData := gl F fun f => .tuple (iv n (W f))
/-- of no floor's word the ends are too great -/
def good (F n : Nat) (T : Nat → Nat → Int) (S : Nat → Int) : Bool := (List.range F).all fun f => !(decide (0 < T f 0) || decide (S f < T f n))
def told (F n : Nat) (T : Nat → Nat → Int) (S : Nat → Int) : PyData := if good F n T S = true then .tuple (rowsT F (n + 1) T) else .none
def tight (F n : Nat) (R : Nat → Nat → Int) (S : Nat → Int) : Nat → Nat → Int := floors F (fun f => counts n (R f) (S f)) S
end LW
namespace LW
open PySem L2 DL
def prev (S : Nat → Int) : Nat → Int
  | 0 => 0
  | f + 1 => S f
def asc (F : Nat) (S : Nat → Int) : Bool := (List.range F).all fun f => decide (prev S f ≤ S f)
end LW
namespace LW
open PySem L2 DL
/-- the greatest so far, and 0 -/
def run (w : Nat → Int) : Nat → Int
  | 0 => max 0 (w 0)
  | k + 1 => max (w (k + 1)) (run w k)
theorem run_nonneg (w : Nat → Int) : ∀ k, 0 ≤ run w k
  | 0 => by unfold run; omega
  | k + 1 => by have := run_nonneg w k; unfold run; omega
theorem up_fit (n : Nat) (w : Nat → Int) (s : Int) : ∀ k, k ≤ n → up (fit n w s) k = if k = n then max (run w n) s else run w k
  | 0, h => by
    unfold up fit
    by_cases hn : 0 = n
    · subst hn
      rw [if_pos rfl, if_pos rfl]
      unfold run
      omega
    · rw [if_neg hn, if_neg hn]; rfl
  | k + 1, h => by
    have ih := up_fit n w s k (by omega)
    rw [if_neg (by omega)] at ih
    show max (fit n w s (k + 1)) (up (fit n w s) k) = _
    rw [ih]
    have hk := run_nonneg w k
    unfold fit
    by_cases hn : k + 1 = n
    · rw [if_pos hn, if_pos hn, ← hn]
      show _ = max (max (w (k + 1)) (run w k)) s
      omega
    · rw [if_neg hn, if_neg hn]
      show _ = max (w (k + 1)) (run w k)
      omega
/-- one place down -/
theorem dn_at {n k : Nat} (U : Nat → Int) (h : k < n) : dn n U (n - k) = max (U k) (dn n U (n - (k + 1)) - 1) := by
  obtain ⟨j, e⟩ : ∃ j, n - k = j + 1 := ⟨n - k - 1, by omega⟩
  rw [e, show n - (k + 1) = j by omega]
  show max (U (n - (j + 1))) _ = _
  rw [show n - (j + 1) = k by omega]
theorem dn_end {n : Nat} (U : Nat → Int) : dn n U (n - n) = U n := by rw [Nat.sub_self]; rfl
/-- no step down, no step of two -/
structure Word (n : Nat) (w : Nat → Int) : Prop where
  mono : ∀ k, k < n → w k ≤ w (k + 1)
  step : ∀ k, k < n → w (k + 1) ≤ w k + 1
theorem Word.le {n : Nat} {w : Nat → Int} (W : Word n w) : ∀ {k}, k ≤ n → w 0 ≤ w k ∧ w k ≤ w 0 + k
  | 0, _ => by constructor <;> omega
  | k + 1, h => by
    have ih := W.le (k := k) (by omega)
    have h1 := W.mono k (by omega)
    have h2 := W.step k (by omega)
    constructor <;> omega
theorem Word.max {n : Nat} {a b : Nat → Int} (A : Word n a) (B : Word n b) : Word n fun k => Max.max (a k) (b k) where
  mono k h := by have := A.mono k h; have := B.mono k h; show Max.max (a k) (b k) ≤ Max.max (a (k + 1)) (b (k + 1)); omega
  step k h := by have := A.step k h; have := B.step k h; show Max.max (a (k + 1)) (b (k + 1)) ≤ Max.max (a k) (b k) + 1; omega
theorem Word.less {n : Nat} {a : Nat → Int} (A : Word n a) (c : Int) : Word n fun k => a k - c where
  mono k h := by have := A.mono k h; show a k - c ≤ a (k + 1) - c; omega
  step k h := by have := A.step k h; show a (k + 1) - c ≤ a k - c + 1; omega
theorem floors_at {F : Nat} (W : Nat → Nat → Int) (S : Nat → Int) {f : Nat} (k : Nat) (h : f + 1 < F) : floors F W S f k = Max.max (upF W f k) (floors F W S (f + 1) k - (S (f + 1) - S f)) := by
  unfold floors
  obtain ⟨j, e⟩ : ∃ j, F - 1 - f = j + 1 := ⟨F - 1 - f - 1, by omega⟩
  rw [e, show F - 1 - (f + 1) = j by omega]
  show Max.max (upF W (F - 1 - (j + 1)) k) (dnF F (upF W) S j k - (S (F - 1 - j) - S (F - 1 - (j + 1)))) = _
  rw [show F - 1 - (j + 1) = f by omega, show F - 1 - j = f + 1 by omega]
theorem floors_end {F : Nat} (W : Nat → Nat → Int) (S : Nat → Int) (k : Nat) : floors F W S (F - 1) k = upF W (F - 1) k := by
  unfold floors
  rw [Nat.sub_self]
  rfl
theorem upF_congr {W V : Nat → Nat → Int} {k : Nat} : ∀ f, (∀ g, g ≤ f → W g k = V g k) → upF W f k = upF V f k
  | 0, h => h 0 (Nat.le_refl _)
  | f + 1, h => by
    show Max.max (W (f + 1) k) (upF W f k) = Max.max (V (f + 1) k) (upF V f k)
    rw [h (f + 1) (Nat.le_refl _), upF_congr f fun g hg => h g (by omega)]
theorem dnF_congr {F : Nat} {W V : Nat → Nat → Int} {S : Nat → Int} {k : Nat} (h : ∀ g, g < F → W g k = V g k) : ∀ j, j < F → dnF F W S j k = dnF F V S j k
  | 0, h0 => h (F - 1) (by omega)
  | j + 1, h1 => by
    show Max.max (W (F - 1 - (j + 1)) k) (dnF F W S j k - _) = Max.max (V (F - 1 - (j + 1)) k) (dnF F V S j k - _)
    rw [h _ (by omega), dnF_congr h j (by omega)]
theorem floors_congr {F : Nat} {W V : Nat → Nat → Int} {S : Nat → Int} {k : Nat} (h : ∀ g, g < F → W g k = V g k) {f : Nat} (hf : f < F) : floors F W S f k = floors F V S f k := by
  unfold floors
  exact dnF_congr (fun g hg => upF_congr g fun g' hg' => h g' (by omega)) _ (by omega)
structure Tight (F n : Nat) (T : Nat → Nat → Int) (S : Nat → Int) : Prop where
  word : ∀ f, f < F → Word n (T f)
  first : ∀ f, f < F → T f 0 = 0
  last : ∀ f, f < F → T f n = S f
  up : ∀ f, f + 1 < F → ∀ k, k ≤ n → T f k ≤ T (f + 1) k
  down : ∀ f, f + 1 < F → ∀ k, k ≤ n → T (f + 1) k - (S (f + 1) - S f) ≤ T f k
section
variable {F n : Nat} {T : Nat → Nat → Int} {S : Nat → Int}
theorem Tight.run (h : Tight F n T S) {f : Nat} (hf : f < F) : ∀ {k}, k ≤ n → LW.run (T f) k = T f k
  | 0, _ => by
    have := h.first f hf
    show Max.max 0 (T f 0) = T f 0
    omega
  | k + 1, hk => by
    have ih := Tight.run h hf (k := k) (by omega)
    have h1 := (h.word f hf).mono k (by omega)
    show Max.max (T f (k + 1)) (LW.run (T f) k) = T f (k + 1)
    rw [ih]
    omega
theorem Tight.counts (h : Tight F n T S) {f : Nat} (hf : f < F) : ∀ {j}, j ≤ n → LW.counts n (T f) (S f) (n - j) = T f (n - j)
  | 0, _ => by
    unfold LW.counts
    rw [Nat.sub_zero, dn_end, up_fit _ _ _ _ (Nat.le_refl _), if_pos rfl, h.run hf (Nat.le_refl _)]
    have := h.last f hf
    omega
  | j + 1, hj => by
    have ih := Tight.counts h hf (j := j) (by omega)
    unfold LW.counts at ih ⊢
    rw [dn_at _ (by omega), up_fit _ _ _ _ (by omega), if_neg (by omega), h.run hf (by omega), show n - (j + 1) + 1 = n - j by omega, ih]
    have h1 := (h.word f hf).step (n - (j + 1)) (by omega)
    rw [show n - (j + 1) + 1 = n - j by omega] at h1
    omega
theorem Tight.upF (h : Tight F n T S) {k : Nat} (hk : k ≤ n) : ∀ {f}, f < F → LW.upF T f k = T f k
  | 0, _ => rfl
  | f + 1, hf => by
    show Max.max (T (f + 1) k) (LW.upF T f k) = _
    rw [Tight.upF h hk (f := f) (by omega)]
    have := h.up f hf k hk
    omega
theorem Tight.floors (h : Tight F n T S) {k : Nat} (hk : k ≤ n) : ∀ {j}, j < F → LW.floors F T S (F - 1 - j) k = T (F - 1 - j) k
  | 0, hj => by
    rw [Nat.sub_zero, floors_end, h.upF hk (by omega)]
  | j + 1, hj => by
    have ih := Tight.floors h hk (j := j) (by omega)
    rw [floors_at T S k (by omega), h.upF hk (by omega), show F - 1 - (j + 1) + 1 = F - 1 - j by omega, ih]
    have := h.down (F - 1 - (j + 1)) (by omega) k hk
    rw [show F - 1 - (j + 1) + 1 = F - 1 - j by omega] at this
    omega
theorem Tight.tight (h : Tight F n T S) {f k : Nat} (hf : f < F) (hk : k ≤ n) : LW.tight F n T S f k = T f k := by
  unfold LW.tight
  have e : LW.floors F (fun f => LW.counts n (T f) (S f)) S f k = LW.floors F T S f k := floors_congr (fun g hg => by
    have := h.counts hg (j := n - k) (by omega)
    rwa [show n - (n - k) = k by omega] at this) hf
  rw [e]
  have := h.floors hk (j := F - 1 - f) (by omega)
  rwa [show F - 1 - (F - 1 - f) = f by omega] at this
end
end LW
noncomputable section
namespace DL
open PySem L2
structure Nice (h w : Nat) (d : PyData) : Prop where
  sh : d.showable = true
  nd : d.hasDict = false
  cl : d.canLay0 = true
  ls : d.leavesShort 13 = true
  dp : d.depth ≤ h
  wt : d.weight ≤ w
theorem Nice.mono {h h' w w' : Nat} {d : PyData} (N : Nice h w d) (a : h ≤ h') (b : w ≤ w') : Nice h' w' d := ⟨N.sh, N.nd, N.cl, N.ls, Nat.le_trans N.dp a, Nat.le_trans N.wt b⟩
theorem nice_bool (b : Bool) : Nice 0 0 (.bool b) := ⟨rfl, rfl, rfl, rfl, Nat.le_refl _, Nat.le_refl _⟩
theorem nice_int {i : Int} (h1 : -1000000 ≤ i) (h2 : i ≤ 1000000) : Nice 0 21 (.int i) := by
  have hl : i.natAbs.log2 < 20 := by
    by_cases h0 : i.natAbs = 0
    · rw [h0]; decide
    · exact (Nat.log2_lt h0).mpr (by omega)
  refine ⟨?_, by simp only [PyData.hasDict], by simp only [PyData.canLay0], ?_, by simp only [PyData.depth]; omega, ?_⟩
  · simp only [PyData.showable, decide_eq_true_eq]; omega
  · simp only [PyData.leavesShort, decide_eq_true_eq]
    exact PyData.shown_int_le2 (by omega) (by omega)
  · simp only [PyData.weight]
    split <;> omega
theorem nice_all {h w : Nat} : ∀ {xs : List PyData}, (∀ x ∈ xs, Nice h w x) → PyData.showableAll xs = true ∧ PyData.hasDictAll xs = false ∧ PyData.canLayAll0 xs = true ∧ PyData.leavesShortAll 13 xs = true ∧ PyData.depthAll xs ≤ h ∧ PyData.weightAll xs ≤ (w + 1) * xs.length
  | [], _ => ⟨rfl, rfl, rfl, rfl, Nat.zero_le _, by simp only [PyData.weightAll]; omega⟩
  | x :: xs, hx => by
    have N := hx x (List.mem_cons_self ..)
    obtain ⟨a, b, c, d, e, f⟩ := nice_all (xs := xs) fun y hy => hx y (List.mem_cons_of_mem _ hy)
    refine ⟨?_, ?_, ?_, ?_, ?_, ?_⟩
    · simp only [PyData.showableAll, N.sh, a, Bool.and_self]
    · simp only [PyData.hasDictAll, N.nd, b, Bool.or_self]
    · simp only [PyData.canLayAll0, N.cl, c, Bool.and_self]
    · simp only [PyData.leavesShortAll, N.ls, d, Bool.and_self]
    · simp only [PyData.depthAll]
      have := N.dp
      omega
    · simp only [PyData.weightAll, List.length_cons]
      have := N.wt
      have e2 : (w + 1) * (xs.length + 1) = (w + 1) * xs.length + (w + 1) := by rw [Nat.mul_add, Nat.mul_one]
      omega
theorem nice_tup {h w : Nat} {xs : List PyData} (hx : ∀ x ∈ xs, Nice h w x) : Nice (h + 1) ((w + 1) * xs.length) (.tuple xs) := by
  obtain ⟨a, b, c, d, e, f⟩ := nice_all hx
  refine ⟨by simpa only [PyData.showable] using a, by simpa only [PyData.hasDict] using b, by simpa only [PyData.canLay0] using c, by simpa only [PyData.leavesShort] using d, by simp only [PyData.depth]; omega, by simpa only [PyData.weight] using f⟩
theorem nice_lst {h w : Nat} {xs : List PyData} (hx : ∀ x ∈ xs, Nice h w x) : Nice (h + 1) ((w + 1) * xs.length) (.list xs) := by
  obtain ⟨a, b, c, d, e, f⟩ := nice_all hx
  refine ⟨by simpa only [PyData.showable] using a, by simpa only [PyData.hasDict] using b, by simpa only [PyData.canLay0] using c, by simpa only [PyData.leavesShort] using d, by simp only [PyData.depth]; omega, by simpa only [PyData.weight] using f⟩
abbrev Ok60 (d : PyData) : Prop := Nice 60 1000000 d
theorem rep_cond {d : PyData} (N : Ok60 d) : (d.showable = true ∧ d.hasDict = false) ∧ d.shown.length ≤ sizeLine ∧ d.depth ≤ 60 := by
  have h1 := PyData.shown_le 13 (by omega) d N.ls
  have h2 := N.wt
  have h3 : sizeLine = 16777216 := sizeLine_eq
  exact ⟨⟨N.sh, N.nd⟩, by omega, N.dp⟩
section
variable {ρ : DL.Env} {d e : PyData} {ds : List PyData} {k : Bool}
theorem rep_cl (N : Ok60 d) : repG ρ (.cl d) = some (.cl (.str d.shown), ρ) := if_pos (rep_cond N)
theorem rep_own (N : Ok60 (.list ds)) : repG ρ (.own ds) = some (.cl (.str (PyData.list ds).shown), ρ) := if_pos (rep_cond N)
theorem shaped_of (N : Ok60 d) : SeqAt.shaped d = true := by
  unfold SeqAt.shaped
  rw [N.cl, decide_eq_true (Nat.le_trans N.dp (by omega : 60 ≤ 64))]
  rfl
theorem eq_same2 (N : Ok60 d) : eqQ k ρ (.cl d) (.cl d) = some (.cl (.bool (k ^^ true)), ρ) := by
  have h : eqG k ρ (.cl d) (.cl d) = some (.cl (.bool (k ^^ true)), ρ) := by
    show (if SeqAt.shaped d = true ∧ SeqAt.shaped d = true then some (Val.cl (.bool (k ^^ PyData.eqv d d)), ρ) else none) = _
    rw [if_pos ⟨shaped_of N, shaped_of N⟩, PySem.SeqAt.eqv_refl d N.cl]
  unfold eqQ
  split
  · rename_i a b e1 e2
    cases e1
    cases e2
    simp
  · exact h
end
end DL
end
namespace LW
open PySem L2 DL
theorem alike_ok {d : PyData} (N : Ok60 d) : F__law_alike [d, d] = some (.cl (.bool true)) := by
  unfold F__law_alike g__law_alike
  rw [e_runP]
  simp [argE, eq_same2 N, rep_cl N]
theorem nice_row {n : Nat} {w : Nat → Int} (h : ∀ k, k < n → -1000000 ≤ w k ∧ w k ≤ 1000000) : Nice 1 (22 * n) (.tuple (iv n w)) := by
  have := nice_tup (h := 0) (w := 21) (xs := iv n w) fun x hx => by
    obtain ⟨k, hk, rfl⟩ := iv_mem hx
    exact nice_int (h k hk).1 (h k hk).2
  simpa using this
end LW
namespace LW
open PySem L2 DL
theorem one_ok (B : Bag) (ds : List PyData) (h : ds ≠ []) (hl : ds.length ≤ 1000000) : ∃ d B', d ∈ ds ∧ F__law_one B.toD [.list ds] = some (.cl d, Bag.toD B') := by
  have hp : 0 < ds.length := List.length_pos_iff.mpr h
  obtain ⟨v, B', e, h0, h1⟩ := take_ok B ds.length (by omega) (by omega)
  have hv : v.toNat < ds.length := by omega
  have ea : atI ds v = some ds[v.toNat] := by
    rw [atI_nat' (n := v.toNat) (by omega) hv, List.getElem?_eq_getElem hv]
  refine ⟨ds[v.toNat], B', List.getElem_mem hv, ?_⟩
  unfold F__law_one g__law_one
  rw [e_runM]
  simp [argM, e, ea]
theorem one_int (B : Bag) (ns : List Int) (h : ns ≠ []) (hl : ns.length ≤ 1000000) : ∃ z B', z ∈ ns ∧ F__law_one B.toD [.list (ns.map .int)] = some (.cl (.int z), Bag.toD B') := by
  obtain ⟨d, B', hd, e⟩ := one_ok B (ns.map .int) (by simpa using h) (by simpa using hl)
  obtain ⟨z, hz, rfl⟩ := List.mem_map.mp hd
  exact ⟨z, B', hz, e⟩
def SizesEnd (n F : Nat) (x : Option (Val × List PyData)) : Prop := ∃ S B', x = some (.cl (.tuple (iv F S)), Bag.toD B') ∧ ∀ f, f < F → -10000 ≤ S f ∧ S f ≤ 10000
def SizesI (n F : Nat) (i : Nat) (ρ : DL.Env) : Prop := ∃ (S : Nat → Int) (z : Int) (B' : Bag) (c5 : Cell), (∀ f, f < i → -10000 ≤ S f ∧ S f ≤ 10000) ∧ -(i : Int) ≤ z ∧ z ≤ 101 * i ∧ ρ = [.pm (Bag.toD B'), .cl (.int n), .cl (.int F), .op (iv i S), .cl (.int z), c5]
theorem sizes_ok (B : Bag) (n F : Nat) (hn : n ≤ 100) (hF : F ≤ 20) : SizesEnd n F (F__law_some_sizes B.toD [.int n, .int F]) := by
  unfold F__law_some_sizes g__law_some_sizes
  rw [e_runM]
  have hF3 : (-1000000 : Int) ≤ F ∧ (F : Int) ≤ 1000000 := by omega
  simp [argM, hF3.1, hF3.2]
  refine use_loop (P := fun x => SizesEnd n F (kM (kSq x _))) (SizesI n F) ?_ ?_ ?_
  · exact ⟨fun _ => 0, 0, B, .no, fun f hf => absurd hf (by omega), by omega, by omega, by simp [iv]⟩
  · rintro i d ρ hd ⟨S, z, B1, c5, hS, h0, h1, rfl⟩
    obtain ⟨hi, rfl⟩ := rng_get hd
    have hi3 : i < 1000000 := by omega
    obtain ⟨t, B2, et, t0, t1⟩ := take_ok B1 (n + 1) (by omega) (by omega)
    obtain ⟨u, B3, eu, u0, u1⟩ := take_ok B2 4 (by decide) (by decide)
    have fin : ∀ (z' x : Int) (B9 : Bag) (c : Cell), -((i + 1 : Nat) : Int) ≤ z' → z' ≤ 101 * ((i + 1 : Nat) : Int) → (x = z' ∨ x = min z' n) → Turns (SizesI n F (i + 1)) (some (.nx [.pm (Bag.toD B9), .cl (.int n), .cl (.int F), .op (iv i S ++ [.int x]), .cl (.int z'), c])) := fun z' x B9 c a1 a2 a3 => by
      refine turns_nx ⟨put S i x, z', B9, c, fun f hf => ?_, a1, a2, ?_⟩
      · by_cases hfi : f = i
        · subst hfi; rw [put_same]; omega
        · rw [put_ne hfi]; exact hS f (by omega)
      · rw [iv_succ, put_same, iv_congr (w := put S i x) (v := S) fun k hk => put_ne (by omega)]
    by_cases hu : u = 0
    · obtain ⟨q, B4, hq, eq⟩ := one_int B3 [0, 1, 2, 1, t, -1] (by simp) (by simp)
      obtain ⟨p, B5, ep, p0, p1⟩ := take_ok B4 9 (by decide) (by decide)
      simp at eq
      have hq2 : -1 ≤ q ∧ q ≤ 101 := by simp at hq; omega
      by_cases hp : 0 < p
      · simp [et, eu, hu, eq, ep, hp, hi3]
        exact fin (z + q) (min (z + q) n) B5 _ (by omega) (by omega) (.inr rfl)
      · simp [et, eu, hu, eq, ep, hp, hi3]
        exact fin (z + q) (z + q) B5 _ (by omega) (by omega) (.inl rfl)
    · obtain ⟨q, B4, hq, eq⟩ := one_int B3 [0, 1, 2, 1, t, 1] (by simp) (by simp)
      obtain ⟨p, B5, ep, p0, p1⟩ := take_ok B4 9 (by decide) (by decide)
      simp at eq
      have hq2 : -1 ≤ q ∧ q ≤ 101 := by simp at hq; omega
      by_cases hp : 0 < p
      · simp [et, eu, hu, eq, ep, hp, hi3]
        exact fin (z + q) (min (z + q) n) B5 _ (by omega) (by omega) (.inr rfl)
      · simp [et, eu, hu, eq, ep, hp, hi3]
        exact fin (z + q) (z + q) B5 _ (by omega) (by omega) (.inl rfl)
  · intro ρ' h
    rw [rngD_len] at h
    obtain ⟨S, z, B', c5, hS, h0, h1, rfl⟩ := h
    simp
    exact ⟨S, B', rfl, hS⟩
end LW
namespace LW
open PySem L2 DL
def HouseEnd (x : Option (Val × List PyData)) : Prop := ∃ (n F : Nat) (V : Nat → Int) (B' : Bag), x = some (.cl (.tuple [.int n, .tuple (iv F V)]), Bag.toD B') ∧ n ≤ 16 ∧ 1 ≤ F ∧ F ≤ 4 ∧ ∀ f, f < F → 1 ≤ V f ∧ V f ≤ 12
def HouseI (things : Int) (many : Int) (i : Nat) (ρ : DL.Env) : Prop := ∃ (F : Nat) (V : Nat → Int) (left : Int) (B' : Bag) (c : Cell), (i = 0 → F = 0 ∧ left = 12) ∧ (1 ≤ i → 1 ≤ F) ∧ F ≤ i ∧ F ≤ 4 ∧ 0 ≤ left ∧ left ≤ 12 ∧ (∀ f, f < F → 1 ≤ V f ∧ V f ≤ 12) ∧
  ρ = [.pm (Bag.toD B'), .cl (.int things), .cl (.int 4), .cl (.int 12), .cl (.int many), .op (iv F V), .cl (.int left), c]
theorem house_ok (B : Bag) (things : Int) (h0 : 0 ≤ things) (h1 : things ≤ 16) : HouseEnd (F__law_house B.toD [.int things, .int 4, .int 12]) := by
  obtain ⟨t, B1, et, t0, t1⟩ := take_ok B (things + 1) (by omega) (by omega)
  obtain ⟨many, B2, hm, em⟩ := one_int B1 [things, things, 3, 2, 1, 0, t] (by simp) (by simp)
  obtain ⟨u, B3, eu, u0, u1⟩ := take_ok B2 4 (by decide) (by decide)
  obtain ⟨q, B4, hq, eq⟩ := one_int B3 [4, 2, 4, 1, 1 + u] (by simp) (by simp)
  have hm2 : 0 ≤ many ∧ many ≤ 16 := by simp at hm; omega
  have hq2 : 1 ≤ q ∧ q ≤ 4 := by simp at hq; omega
  simp at em eq
  unfold F__law_house g__law_house
  rw [e_runM]
  have hq3 : (-1000000 : Int) ≤ q ∧ q ≤ 1000000 := by omega
  simp [argM, et, em, eu, eq, hq3.1, hq3.2]
  refine use_loop (P := fun x => HouseEnd (kM (kSq x _))) (HouseI things many) ?_ ?_ ?_
  · exact ⟨0, fun _ => 0, 12, B4, .no, fun _ => ⟨rfl, rfl⟩, fun z => absurd z (by omega), Nat.le_refl _, by omega, by omega, by omega, fun f hf => absurd hf (by omega), by simp [iv]⟩
  · rintro i d ρ hd ⟨F, V, left, B1, c, a1, a2, a3, a4, a5, a6, hV, rfl⟩
    obtain ⟨hi, rfl⟩ := rng_get hd
    by_cases hl : 0 < left
    · have hi4 : (i : Int) < 4 := by omega
      obtain ⟨u, B2, eu, u0, u1⟩ := take_ok B1 12 (by decide) (by decide)
      obtain ⟨z, B3, hz, ez⟩ := one_int B2 [1, 2, 1, 3, 1, 2, 1 + u] (by simp) (by simp)
      have hz2 : 1 ≤ z ∧ z ≤ 12 := by simp at hz; omega
      simp at ez
      have hF : F < 1000000 := by omega
      have el : atI (iv F V ++ [.int (min left z)]) (-1) = some (.int (min left z)) := atI_last _ _
      simp [hl, hi4, eu, ez, hF, el]
      refine turns_nx ⟨F + 1, put V F (min left z), left - min left z, B3, .cl (.int i), fun z => absurd z (by omega), fun _ => by omega, by omega, by omega, by omega, by omega, fun f hf => ?_, ?_⟩
      · by_cases hf2 : f = F
        · subst hf2; rw [put_same]; omega
        · rw [put_ne hf2]; exact hV f (by omega)
      · rw [iv_succ, put_same, iv_congr (w := put V F (min left z)) (v := V) fun k hk => put_ne (by omega)]
    · simp [hl]
      refine turns_nx ⟨F, V, left, B1, .cl (.int i), fun z => absurd z (by omega), fun _ => by omega, by omega, a4, a5, a6, hV, rfl⟩
  · intro ρ' h
    rw [rngD_len] at h
    obtain ⟨F, V, left, B', c, a1, a2, a3, a4, a5, a6, hV, rfl⟩ := h
    simp
    refine ⟨(min many things).toNat, F, V, B', ?_, by omega, a2 (by omega), a4, hV⟩
    rw [show (((min many things).toNat : Nat) : Int) = min many things by omega]
end LW
namespace LW
open PySem L2 DL
end LW
namespace LW
open PySem L2 DL
end LW
namespace LW
open PySem L2 DL
theorem sizes_of (n F : Nat) (hF : F < 1000) (T : Nat → Nat → Int) (o : PyData) : F_known_sizes [.tuple [o, .tuple (rowsT F (n + 1) T)]] = some (.cl (.tuple (iv F fun f => T f n))) := by
  unfold F_known_sizes g_known_sizes
  rw [e_runP]
  simp [argE, rowsT]
  rw [lc_gl (fun f => .int (T f n)) (by simp) (by omega) (by simp) (by
    intro f hf
    simp [iv_last])]
  simp [iv, gl]
def goes (n : Nat) (a b : Nat → Int) : Bool := (List.range n).all fun k => !decide (a k < a (k + 1)) || decide (b k < b (k + 1))
theorem rng_gl {a : Int} {n : Nat} : rngD a n 1 = gl n fun k => .int (a + (k : Nat)) := by
  simp [rngD, gl]
end LW
namespace LW
open PySem L2 DL
def house (n F : Nat) (V : Nat → Int) : PyData := .tuple [.int n, .tuple (iv F V)]
def pre (V : Nat → Int) : Nat → Int
  | 0 => V 0
  | f + 1 => pre V f + V (f + 1)
theorem cut_to {ds : List PyData} {k : Nat} (h : k ≤ ds.length) : cutD ds none (some (k : Int)) = ds.take k := by
  unfold cutD
  rw [HT.sIx_none, HT.sIx_nat, Nat.min_eq_left h]
  simp
theorem iv_take {F k : Nat} {V : Nat → Int} (h : k ≤ F) : (iv F V).take k = iv k V := by
  unfold iv
  rw [← List.map_take, List.take_range, Nat.min_eq_left h]
theorem sum_pre (V : Nat → Int) : ∀ f, ((List.range (f + 1)).map V).sum = pre V f
  | 0 => by simp [pre]
  | f + 1 => by
    rw [List.range_succ, List.map_append, List.sum_append, sum_pre V f]
    simp [pre]
theorem rooms_within_ok (n F : Nat) (V : Nat → Int) (hF : F < 1000) : F__law_rooms_within [house n F V] = some (.own (iv F (pre V))) := by
  unfold F__law_rooms_within g__law_rooms_within house
  rw [e_runP]
  have h1 : (-1000000 : Int) ≤ F ∧ (F : Int) ≤ 1000000 := by omega
  simp [argE, h1.1, h1.2]
  rw [rng_gl, lc_gl (fun f => .int (pre V f)) (by simp) (by omega) (by simp) (by
    intro f hf
    have e1 : cutD (iv F V) none (some ((f : Int) + 1)) = iv (f + 1) V := by
      rw [show ((f : Int) + 1) = ((f + 1 : Nat) : Int) by omega, cut_to (by rw [iv_len]; omega), iv_take (by omega)]
    simp [e1, sum_pre])]
  simp [iv, gl]
/-- who stands at most there -/
def inside (n : Nat) (s : Nat → Int) (f : Int) : List Nat := (List.range n).filter fun k => decide (s k ≤ f)
theorem fm_filter {n : Nat} {p : Nat → Bool} {u : Nat → PyData} : (List.range n).filterMap (fun k => if p k = true then some (u k) else none) = ((List.range n).filter p).map u := by
  induction (List.range n) with
  | nil => rfl
  | cons k l ih =>
    rw [List.filterMap_cons, List.filter_cons]
    by_cases h : p k = true
    · simp [h, ih]
    · simp [h, ih]
theorem within_ok (n F : Nat) (V s : Nat → Int) (f : Int) (hn : n < 1000) : F__law_within [house n F V, .tuple (iv n s), .int f] = some (.own ((inside n s f).map fun k => .int (k : Nat))) := by
  unfold F__law_within g__law_within house
  rw [e_runP]
  have h1 : (-1000000 : Int) ≤ n ∧ (n : Int) ≤ 1000000 := by omega
  simp [argE, h1.1, h1.2]
  rw [rng_gl, lc_glf (fun k => if decide (s k ≤ f) = true then some (.int (k : Nat)) else none) (by simp) (by omega) (by simp) (by
    intro k hk
    have e1 : atI (iv n s) (k : Int) = some (.int (s k)) := iv_at rfl hk
    by_cases h : s k ≤ f
    · simp [e1, h]
    · simp [e1, h]), fm_filter]
  simp [inside]
theorem sizes_of_state (n F : Nat) (V s : Nat → Int) (hn : n < 1000) (hF : F < 1000) : F__law_sizes [house n F V, .tuple (iv n s)] = some (.cl (.tuple (iv F fun f => ((inside n s f).length : Nat)))) := by
  have hw := fun f : Int => within_ok n F V s f hn
  unfold house at hw
  unfold F__law_sizes g__law_sizes house
  rw [e_runP]
  have h1 : (-1000000 : Int) ≤ F ∧ (F : Int) ≤ 1000000 := by omega
  simp [argE, h1.1, h1.2]
  rw [rng_gl, lc_gl (fun f => .int ((inside n s f).length : Nat)) (by simp) (by omega) (by simp) (by
    intro f hf
    simp [hw])]
  simp [iv, gl]
end LW
namespace LW
open PySem L2 DL
def MixP (xs : List PyData) (x : Option (Val × List PyData)) : Prop := ∃ ds B', x = some (.own ds, Bag.toD B') ∧ ds.Perm xs
def MixJ (xs : List PyData) (i : Nat) (ρ : DL.Env) : Prop := ∃ (ds : List PyData) (B' : Bag) (c : Cell), ds.Perm (xs.take i) ∧ ρ = [.pm (Bag.toD B'), .cl (.list xs), .op ds, c]
theorem mixed_perm (B : Bag) (xs : List PyData) (hx : xs.length ≤ 1000) : MixP xs (F__law_mixed B.toD [.list xs]) := by
  unfold F__law_mixed g__law_mixed
  rw [e_runM]
  simp [argM]
  refine use_loop (P := fun x => MixP xs (kM (kSq x _))) (MixJ xs) ?_ ?_ ?_
  · exact ⟨[], B, .no, by simp, rfl⟩
  · rintro i d ρ hd ⟨ds, B1, c, hp, rfl⟩
    have hi := (List.getElem?_eq_some_iff.mp hd).1
    have hl : ds.length = i := by rw [hp.length_eq, List.length_take]; omega
    obtain ⟨t, B2, et, t0, t1⟩ := take_ok B1 (i + 1) (by omega) (by omega)
    have h2 : i < 1000000 := by omega
    have h3 : t ≤ 1000000 := by omega
    simp [hl, et, h2, h3, t0]
    refine turns_nx ⟨_, B2, .cl d, ?_, rfl⟩
    have e1 : xs.take (i + 1) = xs.take i ++ [d] := by rw [List.take_add_one, hd]; rfl
    rw [e1]
    have e2 : (ds.take t.toNat ++ d :: ds.drop t.toNat).Perm (d :: ds) := by
      have := List.perm_middle (a := d) (l₁ := ds.take t.toNat) (l₂ := ds.drop t.toNat)
      rwa [List.take_append_drop] at this
    refine e2.trans ?_
    exact ((List.Perm.cons d hp).trans (List.perm_append_singleton d (xs.take i)).symm)
  · rintro ρ' ⟨ds, B', c, hp, rfl⟩
    rw [List.take_length] at hp
    simp
    exact ⟨ds, B', rfl, hp⟩
def on (n : Nat) (s : Nat → Int) (f : Nat) : Nat := ((List.range n).filter fun k => decide (s k = f)).length
structure Legal (n F : Nat) (V s : Nat → Int) : Prop where
  rng : ∀ k, k < n → 0 ≤ s k ∧ s k ≤ F
  fit : ∀ f, f < F → (on n s f : Int) ≤ V f
theorem on_put {n : Nat} {s : Nat → Int} {m f : Nat} {x : Int} (h : m < n) : (on n (put s m x) f : Int) = on n s f - (if s m = f then 1 else 0) + (if x = f then 1 else 0) := by
  unfold on
  induction n with
  | zero => omega
  | succ n ih =>
    rw [List.range_succ, List.filter_append, List.filter_append, List.length_append, List.length_append]
    by_cases hm : m = n
    · subst hm
      have e : (List.range m).filter (fun k => decide (put s m x k = f)) = (List.range m).filter (fun k => decide (s k = f)) := by
        apply List.filter_congr
        intro k hk
        have := List.mem_range.mp hk
        rw [put_ne (by omega)]
      rw [e]
      by_cases h1 : s m = f <;> by_cases h2 : x = f <;> simp [List.filter_cons, put_same, h1, h2] <;> omega
    · have ih := ih (by omega)
      have e : put s m x n = s n := put_ne (fun z => hm z.symm)
      by_cases h1 : s n = f <;> simp [List.filter_cons, e, h1] <;> omega
end LW
namespace LW
open PySem L2 DL
theorem nil_shaped : SeqAt.shaped (.list []) = true := rfl
theorem ne_nil {ρ : DL.Env} {a : Val} {ns : List Int} (h : datOf ρ a = some (.list (ns.map .int))) (hf : ∀ x, a ≠ .cl x) (hb : ∀ x ∈ ns, -1000000 ≤ x ∧ x ≤ 1000000) (hl : ns.length ≤ 1000) : eqQ true ρ a (.own []) = some (.cl (.bool (!ns.isEmpty)), ρ) := by
  have N : Ok60 (.list (ns.map .int)) := by
    have := nice_lst (h := 0) (w := 21) (xs := ns.map .int) fun x hx => by
      obtain ⟨k, hk, rfl⟩ := List.mem_map.mp hx
      exact nice_int (hb k hk).1 (hb k hk).2
    refine this.mono (by omega) ?_
    rw [List.length_map]
    omega
  have e : eqG true ρ a (.own []) = some (.cl (.bool (true ^^ PyData.eqv (.list (ns.map .int)) (.list []))), ρ) := by
    unfold eqG
    rw [h]
    show (if SeqAt.shaped (.list (ns.map .int)) = true ∧ SeqAt.shaped (.list []) = true then _ else _) = _
    rw [if_pos ⟨shaped_of N, nil_shaped⟩]
  have e2 : (true ^^ PyData.eqv (.list (ns.map .int)) (.list [])) = !ns.isEmpty := by
    cases ns <;> rfl
  unfold eqQ
  split
  · rename_i x y z w
    exact absurd rfl (hf _)
  · rw [e, e2]
def StateEnd (n F : Nat) (V : Nat → Int) (x : Option (Val × List PyData)) : Prop := ∃ s B', x = some (.cl (.tuple (iv n s)), Bag.toD B') ∧ Legal n F V s
def StI (n F : Nat) (V : Nat → Int) (way : Int) (ds : List PyData) (i : Nat) (ρ : DL.Env) : Prop := ∃ (s Lf : Nat → Int) (B' : Bag) (c7 c8 : Cell), (∀ k, k < n → 0 ≤ s k ∧ s k ≤ F) ∧ (∀ k, k < n → PyData.int (k : Nat) ∉ ds.take i → s k = F) ∧ (∀ f, f < F → 0 ≤ Lf f ∧ (on n s f : Int) + Lf f ≤ V f) ∧
  ρ = [.pm (Bag.toD B'), .cl (.tuple [.int n, .tuple (iv F V)]), .cl (.int n), .cl (.tuple (iv F V)), .op (iv F Lf), .cl (.int way), .op (iv n s), c7, c8, .no, .no]
theorem iv_const {n : Nat} {x : Int} : List.replicate n (PyData.int x) = iv n fun _ => x := by
  simp [iv, List.map_const']
theorem on_const {n : Nat} {x : Int} {f : Nat} (h : x ≠ f) : on n (fun _ => x) f = 0 := by
  unfold on
  simp [h]
def opn (F : Nat) (Lf : Nat → Int) : List Int := ((List.range F).filter fun f => decide (0 < Lf f)).map fun (f : Nat) => (f : Int)
theorem opn_mem {F : Nat} {Lf : Nat → Int} {x : Int} (h : x ∈ opn F Lf) : ∃ f : Nat, x = f ∧ f < F ∧ 0 < Lf f := by
  unfold opn at h
  simp only [List.mem_map, List.mem_filter, List.mem_range, decide_eq_true_eq] at h
  obtain ⟨f, ⟨h1, h2⟩, rfl⟩ := h
  exact ⟨f, rfl, h1, h2⟩
theorem opn_len {F : Nat} {Lf : Nat → Int} : (opn F Lf).length ≤ F := by
  unfold opn
  rw [List.length_map]
  have := List.length_filter_le (fun f => decide (0 < Lf f)) (List.range F)
  rwa [List.length_range] at this
theorem state_ok (B : Bag) (n F : Nat) (V : Nat → Int) (hn : n ≤ 100) (hF : F ≤ 20) (hV : ∀ f, f < F → 0 ≤ V f) : StateEnd n F V (F__law_state B.toD [house n F V]) := by
  obtain ⟨way, B1, ew, w0, w1⟩ := take_ok B 4 (by decide) (by decide)
  have hn3 : (-1000000 : Int) ≤ n ∧ (n : Int) ≤ 1000000 := by omega
  have hn4 : (-1000 : Int) ≤ n ∧ (n : Int) ≤ 1000 := by omega
  obtain ⟨ds, B2, em, hp⟩ := mixed_perm B1 (rngD 0 n 1) (by rw [rngD_len]; omega)
  have hnd : ds.Nodup := by
    rw [hp.nodup_iff, rng_gl]
    unfold gl
    refine List.Pairwise.map _ (fun a b h hab => ?_) List.nodup_range
    simp at hab
    exact h (by omega)
  have hmem : ∀ d ∈ ds, ∃ k : Nat, k < n ∧ d = .int (k : Nat) := fun d hd => by
    have := hp.mem_iff.mp hd
    rw [rng_gl] at this
    unfold gl at this
    simp only [List.mem_map, List.mem_range] at this
    obtain ⟨k, hk, rfl⟩ := this
    exact ⟨k, hk, by simp⟩
  unfold F__law_state g__law_state house
  rw [e_runM]
  simp [argM, ew, em, hn3.1, hn3.2, hn4.1, hn4.2]
  refine use_loop (P := fun x => StateEnd n F V (kM (kSq x _))) (StI n F V way ds) ?_ ?_ ?_
  · exact ⟨fun _ => F, V, B2, .no, .no, fun k _ => ⟨by show (0 : Int) ≤ F; omega, Int.le_refl _⟩, fun _ _ _ => rfl, fun f hf => ⟨hV f hf, by rw [on_const (by omega)]; omega⟩, by rw [iv_const]⟩
  · rintro i d ρ hd ⟨s, Lf, B3, c7, c8, h1, h2, h3, rfl⟩
    obtain ⟨k, hk, rfl⟩ := hmem d (List.mem_of_getElem? hd)
    have hi := (List.getElem?_eq_some_iff.mp hd).1
    have hk2 : PyData.int (k : Nat) ∉ ds.take i := fun z => by
      obtain ⟨m, hm⟩ := List.mem_iff_getElem?.mp z
      have hmi := (List.getElem?_eq_some_iff.mp hm).1
      rw [List.length_take] at hmi
      rw [List.getElem?_take_of_lt (by omega)] at hm
      have := (List.getElem?_inj hi hnd).mp (hd.trans hm.symm)
      omega
    have sk : s k = F := h2 k hk hk2
    have e8 : ∀ c7', lcB 4 [9, 10] (tupT [9, 10]) (testD (binD (varD 10) (conD (PyData.int 0)) (intG (i2b fun i j => decide (j < i))))) (varD 9)
        [Cell.pm B3.toD, Cell.cl (PyData.tuple [PyData.int ↑n, PyData.tuple (iv F V)]), Cell.cl (PyData.int ↑n), Cell.cl (PyData.tuple (iv F V)), Cell.op (iv F Lf), Cell.cl (PyData.int way), Cell.op (iv n s), c7', c8, .no, .no]
        = some (.own ((opn F Lf).map .int), [Cell.pm B3.toD, Cell.cl (PyData.tuple [PyData.int ↑n, PyData.tuple (iv F V)]), Cell.cl (PyData.int ↑n), Cell.cl (PyData.tuple (iv F V)), Cell.op (iv F Lf), Cell.cl (PyData.int way), Cell.op (iv n s), c7', c8, .no, .no]) := fun c7' => by
      refine lcB_pure rfl ?_
      rw [enum_iv, lc_glf (fun f => if decide (0 < Lf f) = true then some (.int (f : Nat)) else none) (by simp) (by omega) (by simp) (by
        intro f hf
        by_cases h : 0 < Lf f
        · simp [h]
        · simp [h]), fm_filter]
      simp [opn]
    have eB : ∀ c7', eqQ true [Cell.pm B3.toD, Cell.cl (PyData.tuple [PyData.int ↑n, PyData.tuple (iv F V)]), Cell.cl (PyData.int ↑n), Cell.cl (PyData.tuple (iv F V)), Cell.op (iv F Lf), Cell.cl (PyData.int way), Cell.op (iv n s), c7', Cell.op (List.map PyData.int (opn F Lf)), Cell.no, Cell.no] (Val.sl 8) (Val.own [])
        = some (.cl (.bool (!(opn F Lf).isEmpty)), [Cell.pm B3.toD, Cell.cl (PyData.tuple [PyData.int ↑n, PyData.tuple (iv F V)]), Cell.cl (PyData.int ↑n), Cell.cl (PyData.tuple (iv F V)), Cell.op (iv F Lf), Cell.cl (PyData.int way), Cell.op (iv n s), c7', Cell.op (List.map PyData.int (opn F Lf)), Cell.no, Cell.no]) := fun c7' =>
      ne_nil rfl (fun x z => by cases z) (fun x hx => by obtain ⟨f, rfl, hf, _⟩ := opn_mem hx; omega) (by have := opn_len (F := F) (Lf := Lf); omega)
    have ek : ixN n (k : Int) = some k := ixN_nat rfl hk
    have inv : ∀ (x : Int) (L2 : Nat → Int) (B9 : Bag) (c7 c8 : Cell), 0 ≤ x → x ≤ F → (∀ f, f < F → 0 ≤ L2 f ∧ L2 f + (if x = (f : Int) then 1 else 0) ≤ Lf f) → StI n F V way ds (i + 1) [.pm (Bag.toD B9), .cl (.tuple [.int n, .tuple (iv F V)]), .cl (.int n), .cl (.tuple (iv F V)), .op (iv F L2), .cl (.int way), .op (iv n (put s k x)), c7, c8, .no, .no] := fun x L2 B9 c7 c8 x0 x1 hL => by
      refine ⟨put s k x, L2, B9, c7, c8, fun m hm => ?_, fun m hm hm2 => ?_, fun f hf => ?_, rfl⟩
      · by_cases e : m = k
        · subst e; rw [put_same]; exact ⟨x0, x1⟩
        · rw [put_ne e]; exact h1 m hm
      · rw [List.take_add_one, hd] at hm2
        simp only [Option.toList_some, List.mem_append, List.mem_singleton, not_or] at hm2
        have e : m ≠ k := fun z => hm2.2 (by rw [z])
        rw [put_ne e]
        exact h2 m hm hm2.1
      · have a1 := hL f hf
        have a2 := h3 f hf
        have a3 := on_put (s := s) (f := f) (x := x) hk
        rw [sk] at a3
        have a4 : ¬ ((F : Int) = (f : Nat)) := by omega
        rw [if_neg a4] at a3
        refine ⟨a1.1, ?_⟩
        rw [a3]
        omega
    have same : iv n s = iv n (put s k F) := iv_congr fun m hm => by
      by_cases e : m = k
      · subst e; rw [put_same, sk]
      · rw [put_ne e]
    have stay : ∀ (B9 : Bag) (c7 c8 : Cell), StI n F V way ds (i + 1) [.pm (Bag.toD B9), .cl (.tuple [.int n, .tuple (iv F V)]), .cl (.int n), .cl (.tuple (iv F V)), .op (iv F Lf), .cl (.int way), .op (iv n (put s k F)), c7, c8, .no, .no] := fun B9 c7 c8 =>
      inv F Lf B9 c7 c8 (by omega) (Int.le_refl _) fun f hf => ⟨(h3 f hf).1, by rw [if_neg (by omega)]; omega⟩
    have goes : ∀ (f : Nat) (B9 : Bag) (c7 c8 : Cell), f < F → 0 < Lf f → StI n F V way ds (i + 1) [.pm (Bag.toD B9), .cl (.tuple [.int n, .tuple (iv F V)]), .cl (.int n), .cl (.tuple (iv F V)), .op (iv F (put Lf f (Lf f - 1))), .cl (.int way), .op (iv n (put s k f)), c7, c8, .no, .no] := fun f B9 c7 c8 hf hp =>
      inv f _ B9 c7 c8 (by omega) (by omega) fun g hg => by
        have := h3 g hg
        by_cases e : g = f
        · subst e; rw [put_same, if_pos rfl]; omega
        · rw [put_ne e, if_neg (by omega)]; omega
    have at6 : ∀ x, atI (iv n (put s k x)) (k : Int) = some (.int x) := fun x => by rw [iv_at rfl hk, put_same]
    have e0 : atI (iv n s) (k : Int) = some (.int F) := by rw [iv_at rfl hk, sk]
    cases ho : opn F Lf with
    | nil =>
      have hB : (!(opn F Lf).isEmpty) = false := by rw [ho]; rfl
      rw [hB] at eB
      rw [ho] at e8 eB
      have cs : way = 0 ∨ way = 1 ∨ 1 < way := by omega
      rcases cs with rfl | rfl | hw
      · simp [e8, e0]
        exact turns_nx (same ▸ stay _ _ _)
      · simp [e8, e0] at eB ⊢
        simp [eB, e0]
        exact turns_nx (same ▸ stay _ _ _)
      · have hw1 : ¬ way = 1 := by omega
        simp [e8, e0, hw1, hw] at eB ⊢
        simp [eB, e0]
        exact turns_nx (same ▸ stay _ _ _)
    | cons f0 rest =>
      have hB : (!(opn F Lf).isEmpty) = true := by rw [ho]; rfl
      rw [hB] at eB
      obtain ⟨f, ef, hf, hLf⟩ := opn_mem (F := F) (Lf := Lf) (x := f0) (by rw [ho]; exact List.mem_cons_self ..)
      have cs : way = 0 ∨ way = 1 ∨ 1 < way := by omega
      rcases cs with rfl | rfl | hw
      · simp [e8, e0]
        exact turns_nx (same ▸ stay _ _ _)
      · rw [ho] at e8 eB
        subst ef
        have hfF : (f : Int) < F := by omega
        have eL : atI (iv F Lf) (f : Int) = some (.int (Lf f)) := iv_at rfl hf
        have eF : ixN F (f : Int) = some f := ixN_nat rfl hf
        simp [e8, e0] at eB ⊢
        simp [eB, ek, iv_set, at6, hfF, eL, eF]
        exact turns_nx (goes f _ _ _ hf hLf)
      · have hw1 : ¬ way = 1 := by omega
        have hw2 : (-1000 : Int) ≤ way - 2 ∧ way - 2 ≤ 1000 := by omega
        have hlen := opn_len (F := F) (Lf := Lf)
        obtain ⟨x, B9, hx, ex⟩ := one_int B3 (opn F Lf ++ List.replicate (way - 2).toNat (F : Int)) (by rw [ho]; simp) (by rw [List.length_append, List.length_replicate]; omega)
        have eA : ∀ c7', addG [Cell.pm B3.toD, Cell.cl (PyData.tuple [PyData.int ↑n, PyData.tuple (iv F V)]), Cell.cl (PyData.int ↑n), Cell.cl (PyData.tuple (iv F V)), Cell.op (iv F Lf), Cell.cl (PyData.int way), Cell.op (iv n s), c7', Cell.op (List.map PyData.int (opn F Lf)), Cell.no, Cell.no] (.sl 8) (.own (List.replicate (way - 2).toNat (.int F)))
            = some (.own ((opn F Lf ++ List.replicate (way - 2).toNat (F : Int)).map .int), [Cell.pm B3.toD, Cell.cl (PyData.tuple [PyData.int ↑n, PyData.tuple (iv F V)]), Cell.cl (PyData.int ↑n), Cell.cl (PyData.tuple (iv F V)), Cell.op (iv F Lf), Cell.cl (PyData.int way), Cell.op (iv n s), c7', Cell.op (List.map PyData.int (opn F Lf)), Cell.no, Cell.no]) := fun c7' => by
          rw [add_seq (xs := (opn F Lf).map .int) (ys := List.replicate (way - 2).toNat (.int F)) rfl rfl (by rw [List.length_map, List.length_replicate]; omega)]
          simp
        rcases List.mem_append.mp hx with hx | hx
        · obtain ⟨g, rfl, hg, hLg⟩ := opn_mem hx
          have hgF : (g : Int) < F := by omega
          have eL : atI (iv F Lf) (g : Int) = some (.int (Lf g)) := iv_at rfl hg
          have eF : ixN F (g : Int) = some g := ixN_nat rfl hg
          simp [e8, e0, hw1, hw, eB, hw2.1, hw2.2, eA, -List.map_append, ex, ek, iv_set, at6, hgF, eL, eF]
          exact turns_nx (goes g _ _ _ hg hLg)
        · have hxF := List.eq_of_mem_replicate hx
          subst hxF
          simp [e8, e0, hw1, hw, eB, hw2.1, hw2.2, eA, -List.map_append, ex, ek, iv_set, at6]
          exact turns_nx (stay _ _ _)
  · rintro ρ' ⟨s, Lf, B3, c7, c8, h1, h2, h3, rfl⟩
    simp
    exact ⟨s, B3, rfl, h1, fun f hf => by have := h3 f hf; omega⟩
end LW
namespace LW
open PySem L2 DL
def Rng (n F : Nat) (s : Nat → Int) : Prop := ∀ k, k < n → 0 ≤ s k ∧ s k ≤ F
end LW
noncomputable section
namespace DL
open PySem L2
section
variable {c : TD} {body : SD} {ρ : DL.Env} {n : Nat}
def kWh (x : Option Out) : Option Out := x
@[simp] theorem e_while : whileS n c body ρ = kWh (whileD c body n ρ) := rfl
/-- a loop of at most m turns: what holds at its heads, what holds behind it -/
theorem use_while {P : Option Out → Prop} (I : Nat → DL.Env → Prop) (R : DL.Env → Prop) (m : Nat) (hm : m < n) (h0 : I 0 ρ)
    (hs : ∀ i ρ, I i ρ → (∃ ρ', c ρ = some (false, ρ') ∧ R ρ') ∨ (i < m ∧ ∃ ρ1, c ρ = some (true, ρ1) ∧ Turns (I (i + 1)) (body ρ1)))
    (hk : ∀ ρ', R ρ' → P (some (.nx ρ'))) : P (kWh (whileD c body n ρ)) := by
  have go : ∀ (k i : Nat) (ρ : DL.Env), I i ρ → m < i + k → i ≤ m → ∃ ρ', whileD c body k ρ = some (.nx ρ') ∧ R ρ' := by
    intro k
    induction k with
    | zero =>
      intro i ρ hi hk hle
      omega
    | succ k ih =>
      intro i ρ hi hk hle
      rcases hs i ρ hi with ⟨ρ', e, r⟩ | ⟨h, ρ1, e, ρ2, e2, h2⟩
      · refine ⟨ρ', ?_, r⟩
        show (c ρ).bind _ = _
        rw [e]; rfl
      · obtain ⟨ρ', e3, r⟩ := ih (i + 1) ρ2 h2 (by omega) (by omega)
        refine ⟨ρ', ?_, r⟩
        show (c ρ).bind _ = _
        rw [e]
        show (body ρ1).bind _ = _
        rw [e2]
        exact e3
  by_cases hz : m < n
  · obtain ⟨ρ', e, r⟩ := go n 0 ρ h0 (by omega) (Nat.zero_le _)
    unfold kWh
    rw [e]
    exact hk ρ' r
  · exact absurd hm hz
end
section
variable {ρ : DL.Env} {f : ED} {j : Nat} {n : Int} {ds : List PyData} {ns : List Int}
def kSk3 (x : Option (List Int)) (n : Int) (ρ : DL.Env) : Option (Val × DL.Env) := x.bind fun ns => if (-lim ≤ n ∧ n ≤ lim) ∧ n.toNat ≤ ns.length then some (.own ((sortK ns n.toNat).map .int), ρ) else none
def kSk2 (c : Cell) (n : Int) (ρ : DL.Env) : Option (Val × DL.Env) := match c with
  | .cl (.tuple ds) => kSk3 (intsOf ds) n ρ
  | _ => none
def kSk (x : Option (Val × DL.Env)) (j : Nat) : Option (Val × DL.Env) := x.bind fun p => match p.1 with
  | .cl (.int n) => kSk2 (p.2.getD j .no) n p.2
  | _ => none
@[simp] theorem e_srtK : srtKD f j ρ = kSk (f ρ) j := by
  unfold srtKD kSk kSk2 kSk3
  cases f ρ with
  | none => rfl
  | some p =>
    obtain ⟨r, ρ'⟩ := p
    cases r with
    | cl d => cases d <;> simp [Option.bind] <;> split <;> simp_all
    | own d => rfl
    | sl i => rfl
@[simp] theorem s_Sk : kSk (some (.cl (.int n), ρ)) j = kSk2 (ρ.getD j .no) n ρ := rfl
@[simp] theorem s_Sk2 : kSk2 (.cl (.tuple ds)) n ρ = kSk3 (intsOf ds) n ρ := rfl
@[simp] theorem s_Sk3 (h1 : -1000000 ≤ n) (h2 : n ≤ 1000000) (h3 : n.toNat ≤ ns.length) : kSk3 (some ns) n ρ = some (.own ((sortK ns n.toNat).map .int), ρ) := by
  unfold kSk3
  show (if _ then _ else _) = _
  rw [if_pos ⟨⟨by rw [lim_eq]; omega, by rw [lim_eq]; omega⟩, h3⟩]
end
end DL
end
namespace LW
open PySem L2 DL
def nats (ds : List Nat) : List PyData := ds.map fun (k : Nat) => .int (k : Nat)
def there (n : Nat) (x : Nat) (i : Nat) (s : Nat → Int) : List Nat := (List.range n).filter fun k => decide (s k = (i : Nat)) && (decide (0 < i) || !decide (k = x))
end LW
namespace LW
open PySem L2 DL
end LW
namespace LW
open PySem L2 DL
theorem cut_from {ds : List PyData} {k : Nat} (h : k ≤ ds.length) : cutD ds (some (k : Int)) none = ds.drop k := by
  unfold cutD
  rw [HT.sIx_none, HT.sIx_nat, Nat.min_eq_left h, List.take_of_length_le (by rw [List.length_drop]; omega)]
def knowD (os : List Int) (F : Nat) (T : Nat → Nat → Int) : PyData := .tuple [.tuple (os.map .int), .tuple (rowsT F (os.length + 1) T)]
def lessF (i : Int) (f : Nat) : Int := if i ≤ (f : Int) then 1 else 0
def cutR (T : Nat → Nat → Int) (e : Nat) (i : Int) (f k : Nat) : Int := if k < e then T f k else if k = e then max (T f e) (T f (e + 1) - lessF i f) else T f (k + 1) - lessF i f
def cutS (T : Nat → Nat → Int) (n : Nat) (i : Int) (f : Nat) : Int := T f n - lessF i f
end LW
namespace LW
open PySem L2 DL
structure Kn (n F : Nat) (V : Nat → Int) (os : List Int) (T : Nat → Nat → Int) : Prop where
  perm : os.Perm (DL.upto n)
  tight : Tight F n T fun f => T f n
  room : 0 < F → T 0 n ≤ V 0
  next : ∀ f, f + 1 < F → T (f + 1) n - T f n ≤ V (f + 1)
theorem upto_len (n : Nat) : (DL.upto n).length = n := by unfold DL.upto; rw [List.length_map, List.length_range]
theorem Kn.len {n F : Nat} {V : Nat → Int} {os : List Int} {T : Nat → Nat → Int} (K : Kn n F V os T) : os.length = n := by rw [K.perm.length_eq, upto_len]
end LW
namespace LW
open PySem L2 DL
end LW
namespace LW
open PySem L2 DL
end LW
namespace LW
open PySem L2 DL
def HouseGen (things : Int) (fl rm : Nat) (x : Option (Val × List PyData)) : Prop := ∃ (n F : Nat) (V : Nat → Int) (B' : Bag), x = some (.cl (.tuple [.int n, .tuple (iv F V)]), Bag.toD B') ∧ (n : Int) ≤ things ∧ 1 ≤ F ∧ F ≤ fl ∧ ∀ f, f < F → 1 ≤ V f ∧ V f ≤ rm
def HouseJ (things : Int) (fl rm : Nat) (many : Int) (i : Nat) (ρ : DL.Env) : Prop := ∃ (F : Nat) (V : Nat → Int) (left : Int) (B' : Bag) (c : Cell), (i = 0 → F = 0 ∧ left = rm) ∧ (1 ≤ i → 1 ≤ F) ∧ F ≤ i ∧ F ≤ fl ∧ 0 ≤ left ∧ left ≤ rm ∧ (∀ f, f < F → 1 ≤ V f ∧ V f ≤ rm) ∧
  ρ = [.pm (Bag.toD B'), .cl (.int things), .cl (.int fl), .cl (.int rm), .cl (.int many), .op (iv F V), .cl (.int left), c]
theorem house_gen (B : Bag) (things : Int) (fl rm : Nat) (h0 : 0 ≤ things) (h1 : things ≤ 100) (g0 : 1 ≤ fl) (g1 : fl ≤ 20) (r0 : 1 ≤ rm) (r1 : rm ≤ 100) : HouseGen things fl rm (F__law_house B.toD [.int things, .int fl, .int rm]) := by
  obtain ⟨t, B1, et, t0, t1⟩ := take_ok B (things + 1) (by omega) (by omega)
  obtain ⟨many, B2, hm, em⟩ := one_int B1 [things, things, 3, 2, 1, 0, t] (by simp) (by simp)
  obtain ⟨u, B3, eu, u0, u1⟩ := take_ok B2 fl (by omega) (by omega)
  obtain ⟨q, B4, hq, eq⟩ := one_int B3 [(fl : Int), 2, fl, 1, 1 + u] (by simp) (by simp)
  have hm2 : 0 ≤ many ∧ many ≤ 100 := by simp at hm; omega
  have hq2 : 1 ≤ q ∧ q ≤ 100 := by simp at hq; omega
  simp at em eq
  unfold F__law_house g__law_house
  rw [e_runM]
  have hq3 : (-1000000 : Int) ≤ q ∧ q ≤ 1000000 := by omega
  simp [argM, et, em, eu, eq, hq3.1, hq3.2]
  refine use_loop (P := fun x => HouseGen things fl rm (kM (kSq x _))) (HouseJ things fl rm many) ?_ ?_ ?_
  · exact ⟨0, fun _ => 0, rm, B4, .no, fun _ => ⟨rfl, rfl⟩, fun z => absurd z (by omega), Nat.le_refl _, by omega, by omega, by omega, fun f hf => absurd hf (by omega), by simp [iv]⟩
  · rintro i d ρ hd ⟨F, V, left, B1, c, a1, a2, a3, a4, a5, a6, hV, rfl⟩
    obtain ⟨hi, rfl⟩ := rng_get hd
    by_cases hl : 0 < left ∧ (i : Int) < fl
    · obtain ⟨hl, hi4⟩ := hl
      have hi5 : i < fl := by omega
      obtain ⟨u, B2, eu, u0, u1⟩ := take_ok B1 rm (by omega) (by omega)
      obtain ⟨z, B3, hz, ez⟩ := one_int B2 [1, 2, 1, 3, 1, 2, 1 + u] (by simp) (by simp)
      have hz2 : 1 ≤ z ∧ z ≤ 200 := by simp at hz; omega
      simp at ez
      have hF : F < 1000000 := by omega
      have el : atI (iv F V ++ [.int (min left z)]) (-1) = some (.int (min left z)) := atI_last _ _
      simp [hl, hi4, hi5, eu, ez, hF, el]
      refine turns_nx ⟨F + 1, put V F (min left z), left - min left z, B3, .cl (.int i), fun z => absurd z (by omega), fun _ => by omega, by omega, by omega, by omega, by omega, fun f hf => ?_, ?_⟩
      · by_cases hf2 : f = F
        · subst hf2; rw [put_same]; omega
        · rw [put_ne hf2]; exact hV f (by omega)
      · rw [iv_succ, put_same, iv_congr (w := put V F (min left z)) (v := V) fun k hk => put_ne (by omega)]
    · by_cases hl1 : 0 < left
      · have hi5 : ¬ i < fl := fun z => hl ⟨hl1, by omega⟩
        simp [hl1, hi5]
        refine turns_nx ⟨F, V, left, B1, .cl (.int i), fun z => absurd z (by omega), fun _ => by omega, by omega, a4, a5, a6, hV, rfl⟩
      simp [hl1]
      refine turns_nx ⟨F, V, left, B1, .cl (.int i), fun z => absurd z (by omega), fun _ => by omega, by omega, a4, a5, a6, hV, rfl⟩
  · intro ρ' h
    rw [rngD_len] at h
    obtain ⟨F, V, left, B', c, a1, a2, a3, a4, a5, a6, hV, rfl⟩ := h
    simp
    refine ⟨(min many things).toNat, F, V, B', ?_, by omega, a2 (by omega), a4, hV⟩
    rw [show (((min many things).toNat : Nat) : Int) = min many things by omega]
end LW
noncomputable section
namespace DL
open PySem L2
section
variable {own : List Nat} {tg : GD} {tt : TD} {te : ED} {ρ : DL.Env} {α : Type}
theorem range_get (l : List α) (d : α) : (List.range l.length).map (fun k => l.getD k d) = l := by
  apply List.ext_getElem?
  intro k
  rw [List.getElem?_map]
  by_cases hk : k < l.length
  · simp [hk]
  · simp [hk]
theorem lc_mapF {l : List α} {g : α → PyData} (f : α → Option PyData) (ho : own.all (fun i => !(ρ.getD i .no).isOpen) = true) (hn : l.length ≤ 1000000) (hr : restE (wipeE ρ own) ρ own = ρ)
    (hs : ∀ a ∈ l, lcItem own tg tt te (wipeE ρ own) (g a) = some (f a, wipeE ρ own)) : lcGo own tg tt te (l.map g) ρ = some (.own (l.filterMap f), ρ) := by
  by_cases hl : l = []
  · subst hl
    have := lc_eq (own := own) (tg := tg) (tt := tt) (te := te) (ρ := ρ) (ds := []) 0 (fun _ => .none) (fun _ => none) rfl ho (by omega) hr (fun k hk => absurd hk (by omega))
    simpa using this
  · obtain ⟨d, hd⟩ : ∃ d, d ∈ l := by
      cases l with
      | nil => exact absurd rfl hl
      | cons a l => exact ⟨a, List.mem_cons_self ..⟩
    have e := range_get l d
    have hm : ∀ k, k < l.length → l.getD k d ∈ l := fun k hk => by
      rw [List.getD_eq_getElem?_getD, List.getElem?_eq_getElem hk]
      exact List.getElem_mem hk
    have := lc_eq (own := own) (tg := tg) (tt := tt) (te := te) (ρ := ρ) (ds := l.map g) l.length (fun k => g (l.getD k d)) (fun k => f (l.getD k d)) (by
      conv => lhs; rw [← e]
      rw [List.map_map]; rfl) ho hn hr (fun k hk => hs _ (hm k hk))
    rw [this]
    have : (List.range l.length).filterMap (fun k => f (l.getD k d)) = l.filterMap f := by
      conv => rhs; rw [← e]
      rw [List.filterMap_map]; rfl
    rw [this]
theorem lc_mapL {l : List α} {g : α → PyData} (u : α → PyData) (ho : own.all (fun i => !(ρ.getD i .no).isOpen) = true) (hn : l.length ≤ 1000000) (hr : restE (wipeE ρ own) ρ own = ρ)
    (hs : ∀ a ∈ l, lcItem own tg tt te (wipeE ρ own) (g a) = some (some (u a), wipeE ρ own)) : lcGo own tg tt te (l.map g) ρ = some (.own (l.map u), ρ) := by
  rw [lc_mapF (fun a => some (u a)) ho hn hr hs, List.filterMap_eq_map']
theorem lc_filL {l : List α} {g : α → PyData} (p : α → Bool) (ho : own.all (fun i => !(ρ.getD i .no).isOpen) = true) (hn : l.length ≤ 1000000) (hr : restE (wipeE ρ own) ρ own = ρ)
    (hs : ∀ a ∈ l, lcItem own tg tt te (wipeE ρ own) (g a) = some (if p a = true then some (g a) else none, wipeE ρ own)) : lcGo own tg tt te (l.map g) ρ = some (.own ((l.filter p).map g), ρ) := by
  rw [lc_mapF (fun a => if p a = true then some (g a) else none) ho hn hr hs]
  have : ∀ l : List α, l.filterMap (fun a => if p a = true then some (g a) else none) = (l.filter p).map g := fun l => by
    induction l with
    | nil => rfl
    | cons a l ih =>
      rw [List.filterMap_cons, List.filter_cons]
      by_cases h : p a = true <;> simp [h, ih]
  rw [this]
end
end DL
end
namespace LW
open PySem L2 DL
def cutB (w : Nat → Int) (k : Nat) : Bool := decide (w k < w (k + 1)) && decide (w (k + 2) = w (k + 1))
def cutL (m : Nat) (w : Nat → Int) : List Nat := ((List.range (m - 1)).filter (cutB w)).map (· + 1)
theorem cutL_mem {m d : Nat} {w : Nat → Int} : d ∈ cutL m w ↔ 0 < d ∧ d < m ∧ cutB w (d - 1) = true := by
  unfold cutL
  simp only [List.mem_map, List.mem_filter, List.mem_range]
  constructor
  · rintro ⟨k, ⟨h1, h2⟩, rfl⟩
    exact ⟨by omega, by omega, h2⟩
  · rintro ⟨h1, h2, h3⟩
    exact ⟨d - 1, ⟨by omega, h3⟩, by omega⟩
theorem cutL_asc {m : Nat} {w : Nat → Int} : (cutL m w).Pairwise (· < ·) := by
  unfold cutL
  rw [List.pairwise_map]
  exact (List.Pairwise.filter _ List.pairwise_lt_range).imp fun h => by omega
theorem iv_at1 {n k : Nat} {w : Nat → Int} (h : k < n) {i : Int} (e : i = k) : atI (iv n w) i = some (.int (w k)) := iv_at e h
def prs : Nat → List Nat → List (Nat × Nat)
  | _, [] => []
  | b, e :: es => (b, e) :: prs e es
theorem prs_mem : ∀ {es : List Nat} {b : Nat} {p : Nat × Nat}, p ∈ prs b es → p.2 ∈ es ∧ (p.1 = b ∨ p.1 ∈ es)
  | [], b, p, h => absurd h (by simp [prs])
  | e :: es, b, p, h => by
    simp only [prs, List.mem_cons] at h
    rcases h with rfl | h
    · exact ⟨List.mem_cons_self .., .inl rfl⟩
    · obtain ⟨h1, h2⟩ := prs_mem h
      refine ⟨List.mem_cons_of_mem _ h1, .inr ?_⟩
      rcases h2 with rfl | h2
      · exact List.mem_cons_self ..
      · exact List.mem_cons_of_mem _ h2
def part (os : List Int) (p : Nat × Nat) : List Int := (os.drop p.1).take (p.2 - p.1)
def lot (os : List Int) (p : Nat × Nat) : List Int := sortI (part os p)
def tupI (l : List Int) : PyData := .tuple (l.map .int)
theorem nats_len {es : List Nat} : (nats es).length = es.length := by unfold nats; rw [List.length_map]
def blkD (os : List Int) (w : Nat → Int) (es : List Nat) : PyData := .tuple ((prs 0 es).map fun p => .tuple [tupI (lot os p), .int (w p.2)])
def blocksD (os : List Int) (F : Nat) (T : Nat → Nat → Int) : PyData := .tuple (gl F fun f => blkD os (T f) (cutL os.length (T f)))
end LW
namespace LW
open PySem L2 DL
def cutsI (n F : Nat) (T : Nat → Nat → Int) : List Int := ((List.range F).flatMap fun f => cutL n (T f)).map fun k => ((k : Nat) : Int)
def allC (n F : Nat) (T : Nat → Nat → Int) : List Nat := (sortU (cutsI n F T)).map Int.toNat
theorem cutsI_mem {n F : Nat} {T : Nat → Nat → Int} {x : Int} : x ∈ cutsI n F T ↔ ∃ f d, f < F ∧ d ∈ cutL n (T f) ∧ x = ((d : Nat) : Int) := by
  unfold cutsI
  simp only [List.mem_map, List.mem_flatMap, List.mem_range]
  constructor
  · rintro ⟨d, ⟨f, hf, hd⟩, rfl⟩
    exact ⟨f, d, hf, hd, rfl⟩
  · rintro ⟨f, d, hf, hd, rfl⟩
    exact ⟨d, ⟨f, hf, hd⟩, rfl⟩
theorem allC_back {n F : Nat} {T : Nat → Nat → Int} : (allC n F T).map (fun k => ((k : Nat) : Int)) = sortU (cutsI n F T) := by
  unfold allC
  rw [List.map_map]
  conv => rhs; rw [← List.map_id (sortU (cutsI n F T))]
  apply List.map_congr_left
  intro x hx
  obtain ⟨f, d, _, _, rfl⟩ := cutsI_mem.mp (sortU_mem.mp hx)
  rfl
theorem allC_mem {n F : Nat} {T : Nat → Nat → Int} {d : Nat} : d ∈ allC n F T ↔ ∃ f, f < F ∧ d ∈ cutL n (T f) := by
  unfold allC
  rw [List.mem_map]
  constructor
  · rintro ⟨x, hx, rfl⟩
    obtain ⟨f, d, hf, hd, rfl⟩ := cutsI_mem.mp (sortU_mem.mp hx)
    exact ⟨f, hf, hd⟩
  · rintro ⟨f, hf, hd⟩
    exact ⟨_, sortU_mem.mpr (cutsI_mem.mpr ⟨f, d, hf, hd, rfl⟩), rfl⟩
theorem sortU_asc (ns : List Int) : (sortU ns).Pairwise (· < ·) := by
  have n2 : (sortU ns).Nodup := (sortI_perm (dd ns)).nodup_iff.mpr (dd_nodup ns)
  exact ((sortI_pair (dd ns)).and n2).imp fun h => by have := h.1; have := h.2; omega
theorem allC_asc {n F : Nat} {T : Nat → Nat → Int} : (allC n F T).Pairwise (· < ·) := by
  have h := sortU_asc (cutsI n F T)
  rw [← allC_back, List.pairwise_map] at h
  exact h.imp fun h => by omega
theorem asc_app {n : Nat} : ∀ {es : List Nat}, es.Pairwise (· < ·) → (∀ e ∈ es, e < n) → (es ++ [n]).Pairwise (· < ·) := fun {es} h1 h2 => by
  rw [List.pairwise_append]
  exact ⟨h1, List.pairwise_singleton .., fun a ha b hb => by rw [List.mem_singleton] at hb; subst hb; exact h2 a ha⟩
theorem allC_lt {n F : Nat} {T : Nat → Nat → Int} : ∀ d ∈ allC n F T, 0 < d ∧ d < n := fun d hd => by
  obtain ⟨f, _, h⟩ := allC_mem.mp hd
  obtain ⟨h1, h2, _⟩ := cutL_mem.mp h
  exact ⟨h1, h2⟩
theorem allC_len {n F : Nat} {T : Nat → Nat → Int} : (allC n F T).length ≤ n := by
  have h1 : (allC n F T).Nodup := allC_asc.imp fun h => by omega
  have := h1.length_le_of_subset (l₂ := List.range n) fun d hd => List.mem_range.mpr (allC_lt d hd).2
  rwa [List.length_range] at this
/-- all lots' ends -/
def endsC (n F : Nat) (T : Nat → Nat → Int) : List Nat := allC n F T ++ [n]
theorem endsC_asc {n F : Nat} {T : Nat → Nat → Int} : (endsC n F T).Pairwise (· < ·) := asc_app allC_asc fun e he => (allC_lt e he).2
theorem endsC_le {n F : Nat} {T : Nat → Nat → Int} : ∀ e ∈ endsC n F T, e ≤ n := fun e he => by
  rcases List.mem_append.mp he with h | h
  · exact Nat.le_of_lt (allC_lt e h).2
  · rw [List.mem_singleton] at h; omega
def prsC (n F : Nat) (T : Nat → Nat → Int) : List (Nat × Nat) := prs 0 (endsC n F T)
def normO (os : List Int) (F : Nat) (T : Nat → Nat → Int) : List Int := (prsC os.length F T).flatMap fun p => lot os p
def MixL : List (List Int) → List (List Int) → Prop
  | [], [] => True
  | q :: qs, p :: ps => q.Perm p ∧ MixL qs ps
  | _, _ => False
theorem mixL_map {α : Type} (f g : α → List Int) : ∀ l : List α, (∀ a ∈ l, (f a).Perm (g a)) → MixL (l.map f) (l.map g)
  | [], _ => trivial
  | a :: l, h => ⟨h a (List.mem_cons_self ..), mixL_map f g l fun b hb => h b (List.mem_cons_of_mem _ hb)⟩
theorem mix_take {os : List Int} : ∀ {es : List Nat} {b : Nat} {qs : List (List Int)}, (b :: es).Pairwise (· < ·) → (∀ e ∈ es, e ≤ os.length) → MixL qs ((prs b es).map (part os)) →
    ∀ d ∈ es, (qs.flatten.take (d - b)).Perm ((os.drop b).take (d - b))
  | [], b, qs, _, _, _, d, hd => absurd hd (by simp)
  | e :: es, b, [], _, _, h, d, hd => absurd h (by simp [prs, MixL])
  | e :: es, b, q :: qs, ha, hl, h, d, hd => by
    obtain ⟨h1, h2⟩ := h
    have hbe : b < e := (List.pairwise_cons.mp ha).1 e (List.mem_cons_self ..)
    have ha' := (List.pairwise_cons.mp ha).2
    have he := hl e (List.mem_cons_self ..)
    have lp : (part os (b, e)).length = e - b := by
      unfold part
      rw [List.length_take, List.length_drop]
      show min (e - b) (os.length - b) = _
      omega
    have lq : q.length = e - b := h1.length_eq.trans lp
    rw [List.flatten_cons]
    rcases List.mem_cons.mp hd with rfl | hd
    · rw [List.take_append, lq, Nat.sub_self, List.take_zero, List.append_nil, List.take_of_length_le (by omega)]
      exact h1
    · have hed : e < d := (List.pairwise_cons.mp ha').1 d hd
      rw [List.take_append, lq, List.take_of_length_le (by omega : q.length ≤ d - b), show d - b - (e - b) = d - e by omega]
      have e1 : (os.drop b).take (d - b) = part os (b, e) ++ (os.drop e).take (d - e) := by
        rw [show d - b = (e - b) + (d - e) by omega, List.take_add, List.drop_drop, show b + (e - b) = e by omega]
        rfl
      rw [e1]
      exact h1.append (mix_take ha' (fun x hx => hl x (List.mem_cons_of_mem _ hx)) h2 d hd)
/-- two orders with the same things in front of each end -/
structure Like (n F : Nat) (T : Nat → Nat → Int) (os os' : List Int) : Prop where
  l1 : os.length = n
  l2 : os'.length = n
  tk : ∀ d ∈ endsC n F T, (os'.take d).Perm (os.take d)
theorem Like.symm {n F : Nat} {T : Nat → Nat → Int} {os os' : List Int} (L : Like n F T os os') : Like n F T os' os := ⟨L.l2, L.l1, fun d hd => (L.tk d hd).symm⟩
theorem zero_asc {n F : Nat} {T : Nat → Nat → Int} (hn : 0 < n) : (0 :: endsC n F T).Pairwise (· < ·) := by
  rw [List.pairwise_cons]
  refine ⟨fun d hd => ?_, endsC_asc⟩
  rcases List.mem_append.mp hd with h | h
  · exact (allC_lt d h).1
  · rw [List.mem_singleton] at h; omega
theorem mix_like {n F : Nat} {T : Nat → Nat → Int} {os : List Int} {qs : List (List Int)} (hl : os.length = n) (h : MixL qs ((prsC n F T).map (part os))) : Like n F T os qs.flatten := by
  by_cases hn : n = 0
  · subst hn
    have e1 : allC 0 F T = [] := List.eq_nil_of_length_eq_zero (Nat.le_zero.mp allC_len)
    have e2 : os = [] := List.eq_nil_of_length_eq_zero hl
    have e3 : prsC 0 F T = [(0, 0)] := by unfold prsC endsC; rw [e1]; rfl
    rw [e3] at h
    have hq : qs.flatten = [] := by
      subst e2
      match qs, h with
      | [q], h => simp [MixL, part] at h; simp [h]
    refine ⟨hl, by rw [hq]; rfl, fun d hd => ?_⟩
    rw [hq, e2]
  · have key := mix_take (zero_asc (n := n) (F := F) (T := T) (by omega)) (fun e he => by rw [hl]; exact endsC_le e he) h
    have hn2 := key n (List.mem_append_right _ (List.mem_singleton.mpr rfl))
    have len : ∀ {es : List Nat} {b : Nat} {qs : List (List Int)}, (b :: es).Pairwise (· < ·) → (∀ e ∈ es, e ≤ os.length) → MixL qs ((prs b es).map (part os)) → ∀ z, (b :: es).getLast? = some z → qs.flatten.length = z - b := by
      intro es
      induction es with
      | nil =>
        intro b qs _ _ h z hz
        have : qs = [] := by
          cases qs with
          | nil => rfl
          | cons q qs => exact absurd h (by simp [prs, MixL])
        subst this
        simp at hz
        subst hz
        simp
      | cons e es ih =>
        intro b qs ha hle h z hz
        cases qs with
        | nil => exact absurd h (by simp [prs, MixL])
        | cons q qs =>
          obtain ⟨h1, h2⟩ := h
          have hbe : b < e := (List.pairwise_cons.mp ha).1 e (List.mem_cons_self ..)
          have ha' := (List.pairwise_cons.mp ha).2
          have he := hle e (List.mem_cons_self ..)
          have lp : q.length = e - b := by
            rw [h1.length_eq]
            unfold part
            rw [List.length_take, List.length_drop]
            show min (e - b) (os.length - b) = _
            omega
          rw [List.getLast?_cons_cons] at hz
          have := ih ha' (fun x hx => hle x (List.mem_cons_of_mem _ hx)) h2 z hz
          have hez : e ≤ z := by
            have hm := List.mem_of_getLast? hz
            rcases List.mem_cons.mp hm with rfl | hm
            · omega
            · exact Nat.le_of_lt ((List.pairwise_cons.mp ha').1 z hm)
          rw [List.flatten_cons, List.length_append, lp, this]
          omega
    have hlen := len (zero_asc (n := n) (F := F) (T := T) (by omega)) (fun e he => by rw [hl]; exact endsC_le e he) h n (by unfold endsC; rw [← List.cons_append]; exact List.getLast?_concat ..)
    refine ⟨hl, by omega, fun d hd => ?_⟩
    have := key d hd
    simpa using this
theorem Like.part {n F : Nat} {T : Nat → Nat → Int} {os os' : List Int} (L : Like n F T os os') {b e : Nat} (hb : b = 0 ∨ b ∈ endsC n F T) (he : e ∈ endsC n F T) (h : b ≤ e) : (part os' (b, e)).Perm (part os (b, e)) := by
  have e1 : ∀ l : List Int, l.take e = l.take b ++ LW.part l (b, e) := fun l => by
    unfold LW.part
    show _ = l.take b ++ (l.drop b).take (e - b)
    rw [← List.take_add, show b + (e - b) = e by omega]
  have h1 := L.tk e he
  have h2 : (os'.take b).Perm (os.take b) := by
    rcases hb with rfl | hb
    · simp
    · exact L.tk b hb
  rw [e1 os, e1 os'] at h1
  exact (List.perm_append_left_iff _).mp (((h2.append_right _).symm.trans h1))
theorem sortI_eq {a b : List Int} (h : a.Perm b) : sortI a = sortI b := sorted_one ((sortI_perm a).trans (h.trans (sortI_perm b).symm)) (sortI_pair a) (sortI_pair b)
theorem prs_le : ∀ {es : List Nat} {b : Nat} {p : Nat × Nat}, (b :: es).Pairwise (· < ·) → p ∈ prs b es → p.1 ≤ p.2
  | [], b, p, _, h => absurd h (by simp [prs])
  | e :: es, b, p, ha, h => by
    simp only [prs, List.mem_cons] at h
    rcases h with rfl | h
    · exact Nat.le_of_lt ((List.pairwise_cons.mp ha).1 e (List.mem_cons_self ..))
    · exact prs_le (List.pairwise_cons.mp ha).2 h
theorem prs_le0 {es : List Nat} {p : Nat × Nat} (ha : es.Pairwise (· < ·)) (h : p ∈ prs 0 es) : p.1 ≤ p.2 := by
  cases es with
  | nil => exact absurd h (by simp [prs])
  | cons e es =>
    simp only [prs, List.mem_cons] at h
    rcases h with rfl | h
    · exact Nat.zero_le _
    · exact prs_le ha h
theorem Like.lot {n F : Nat} {T : Nat → Nat → Int} {os os' : List Int} (L : Like n F T os os') {es : List Nat} (ha : es.Pairwise (· < ·)) (hs : ∀ e ∈ es, e ∈ endsC n F T) {p : Nat × Nat} (hp : p ∈ prs 0 es) : lot os' p = lot os p := by
  obtain ⟨m1, m2⟩ := prs_mem hp
  have m3 : p.1 = 0 ∨ p.1 ∈ endsC n F T := by
    rcases m2 with z | z
    · exact .inl z
    · exact .inr (hs _ z)
  exact sortI_eq (L.part m3 (hs _ m1) (prs_le0 ha hp))
theorem Like.blk {n F : Nat} {T : Nat → Nat → Int} {os os' : List Int} (L : Like n F T os os') {f : Nat} (hf : f < F) : blkD os' (T f) (cutL n (T f)) = blkD os (T f) (cutL n (T f)) := by
  unfold blkD
  congr 1
  apply List.map_congr_left
  intro p hp
  rw [L.lot cutL_asc (fun e he => List.mem_append_left _ (allC_mem.mpr ⟨f, hf, he⟩)) hp]
theorem Like.blocks {n F : Nat} {T : Nat → Nat → Int} {os os' : List Int} (L : Like n F T os os') : blocksD os' F T = blocksD os F T := by
  unfold blocksD
  rw [L.l1, L.l2]
  congr 1
  exact gl_congr fun f hf => L.blk hf
theorem Like.norm {n F : Nat} {T : Nat → Nat → Int} {os os' : List Int} (L : Like n F T os os') : normO os' F T = normO os F T := by
  unfold normO
  rw [L.l1, L.l2, List.flatMap_def, List.flatMap_def]
  congr 1
  apply List.map_congr_left
  intro p hp
  exact L.lot endsC_asc (fun e he => he) hp
theorem norm_like {n F : Nat} {T : Nat → Nat → Int} {os : List Int} (hl : os.length = n) : Like n F T os (normO os F T) := by
  unfold normO
  rw [hl, List.flatMap_def]
  exact mix_like hl (mixL_map _ _ _ fun p hp => sortI_perm _)
end LW
noncomputable section
namespace LW
open PySem L2 DL
theorem norm_len (os : List Int) (F : Nat) (T : Nat → Nat → Int) : (normO os F T).length = os.length := (norm_like (F := F) (T := T) (rfl : os.length = os.length)).l2
theorem nats_app {es : List Nat} {n : Nat} : nats es ++ [.int (n : Nat)] = nats (es ++ [n]) := by
  unfold nats
  rw [List.map_append]
  rfl
end LW
end
namespace LW
open PySem L2 DL
def nth (os : List Int) (k : Nat) : Int := os.getD k 0
def cnt (s : Nat → Int) (f : Nat) (os : List Int) (k : Nat) : Nat := (os.take k).countP fun x => decide (s x.toNat ≤ (f : Int))
def fitW (n : Nat) (os : List Int) (T : Nat → Nat → Int) (s : Nat → Int) (f : Nat) : Bool := (List.range n).all fun k => decide (T f (k + 1) ≤ (cnt s f os (k + 1) : Int))
def sameB (n F : Nat) (T : Nat → Nat → Int) (s : Nat → Int) : Bool := PyData.eqv (.tuple (iv F fun f => ((inside n s (f : Nat)).length : Nat))) (.tuple (iv F fun f => T f n))
def fitsB (n F : Nat) (os : List Int) (T : Nat → Nat → Int) (s : Nat → Int) : Bool := sameB n F T s && (List.range F).all fun f => fitW n os T s f
theorem iv_getD {os : List Int} : os.map PyData.int = iv os.length (nth os) := by
  unfold iv
  conv => lhs; rw [← range_get os 0]
  rw [List.map_map]
  rfl
end LW
namespace LW
open PySem L2 DL
/-- what holds at the cuts and at the end holds everywhere -/
theorem fit_cuts {n : Nat} {w : Nat → Int} {c : Nat → Nat} (W : Word n w) (h0 : w 0 = 0) (hm : ∀ k, k < n → c k ≤ c (k + 1) ∧ c (k + 1) ≤ c k + 1) (hn : w n ≤ c n) (hc : ∀ d ∈ cutL n w, w d ≤ c d) : ∀ d, d ≤ n → w d ≤ c d := by
  have left : ∀ d, d < n → w (d + 1) = w d → w d ≤ c d := by
    intro d
    induction d with
    | zero => intro _ _; omega
    | succ d ih =>
      intro hd hf
      by_cases hr : w d < w (d + 1)
      · exact hc (d + 1) (cutL_mem.mpr ⟨by omega, hd, by unfold cutB; rw [show d + 1 - 1 = d by omega, decide_eq_true hr, decide_eq_true hf]; rfl⟩)
      · have h1 := W.mono d (by omega)
        have h2 := ih (by omega) (by omega)
        have h3 := (hm d (by omega)).1
        omega
  have right : ∀ j, j ≤ n → w (n - j) ≤ c (n - j) := by
    intro j
    induction j with
    | zero => intro _; exact hn
    | succ j ih =>
      intro hj
      have ih := ih (by omega)
      have e : n - j = (n - (j + 1)) + 1 := by omega
      rw [e] at ih
      have hd : n - (j + 1) < n := by omega
      by_cases hf : w (n - (j + 1) + 1) = w (n - (j + 1))
      · exact left _ hd hf
      · have h1 := W.mono _ hd
        have h2 := W.step _ hd
        have h3 := (hm _ hd).2
        omega
  intro d hd
  have := right (n - d) (by omega)
  rwa [show n - (n - d) = d by omega] at this
theorem Like.perm {n F : Nat} {T : Nat → Nat → Int} {os os' : List Int} (L : Like n F T os os') : os'.Perm os := by
  have := L.tk n (List.mem_append_right _ (List.mem_singleton.mpr rfl))
  rwa [List.take_of_length_le (by rw [L.l2]; exact Nat.le_refl _), List.take_of_length_le (by rw [L.l1]; exact Nat.le_refl _)] at this
end LW
noncomputable section
namespace DL
open PySem L2
section
variable {ρ : DL.Env} {j : Nat} {fk fv : ED} {t : Bool} {ds ds' : List (PyData × PyData)} {d dk : PyData} {r : Val}
@[simp] theorem e_newT : newT j ρ = some (.nx (ρ.set j (.dk true []))) := rfl
@[simp] theorem e_newK : newK j ρ = some (.nx (ρ.set j (.dk false []))) := rfl
def kPu4 (x : Option (List (PyData × PyData))) (ρ : DL.Env) (j : Nat) (t : Bool) : Option Out := x.map fun ds' => .nx (ρ.set j (.dk t ds'))
def kPu3 (x : Option (PyData × DL.Env)) (dk : PyData) (j : Nat) : Option Out := x.bind fun s => match s.2.getD j .no with
  | .dk t ds => kPu4 (putP t ds dk s.1) s.2 j t
  | _ => none
def kPu2 (x : Option (Val × DL.Env)) (r : Val) (j : Nat) : Option Out := x.bind fun q => match q.1 with
  | .cl dk => kPu3 (psV q.2 r) dk j
  | _ => none
def kPu1 (x : Option (Val × DL.Env)) (fk : ED) (j : Nat) : Option Out := x.bind fun p => match p.2.getD j .no with
  | .dk _ _ => kPu2 (fk p.2) p.1 j
  | _ => none
@[simp] theorem e_putS : putS j fk fv ρ = kPu1 (fv ρ) fk j := by
  unfold putS kPu1
  cases fv ρ with
  | none => rfl
  | some p =>
    show (match p.2.getD j .no with | .dk _ _ => _ | _ => none) = (match p.2.getD j .no with | .dk _ _ => _ | _ => none)
    split
    · unfold kPu2
      cases fk p.2 with
      | none => rfl
      | some q =>
        show (match q.1 with | .cl dk => _ | _ => none) = (match q.1 with | .cl dk => _ | _ => none)
        split
        · unfold kPu3
          cases psV q.2 p.1 <;> rfl
        · rfl
    · rfl
@[simp] theorem s_Pu1 : kPu1 (some (r, ρ)) fk j = match ρ.getD j .no with
  | .dk _ _ => kPu2 (fk ρ) r j
  | _ => none := rfl
@[simp] theorem s_Pu2 : kPu2 (some (.cl dk, ρ)) r j = kPu3 (psV ρ r) dk j := rfl
@[simp] theorem s_Pu3 : kPu3 (some (d, ρ)) dk j = match ρ.getD j .no with
  | .dk t ds => kPu4 (putP t ds dk d) ρ j t
  | _ => none := rfl
@[simp] theorem s_Pu4 : kPu4 (some ds') ρ j t = some (.nx (ρ.set j (.dk t ds'))) := rfl
end
end DL
end
namespace DL
open PySem L2
section
variable {ρ : DL.Env} {ds : List PyData} {k : Int}
@[simp] theorem e_rev : revG ρ ds [] = some (.cl .none, ds.reverse, ρ) := rfl
def kSS (x : Option (List PyData × DL.Env)) (a k1 b k2 : Nat) : Option Out := x.bind fun q => match q.1 with
  | [d1, d2] => itemBoth q.2 a k1 b k2 d1 d2
  | _ => none
@[simp] theorem e_asgSS {a k1 b k2 : Nat} {t : AD} : asgSS a k1 b k2 t ρ = kSS (kPs (t ρ)) a k1 b k2 := by
  unfold asgSS kSS kPs
  cases t ρ <;> rfl
@[simp] theorem s_SS {a k1 b k2 : Nat} {d1 d2 : PyData} : kSS (some ([d1, d2], ρ)) a k1 b k2 = itemBoth ρ a k1 b k2 d1 d2 := rfl
end
end DL
namespace LW
open PySem L2 DL
theorem nth_mem {os : List Int} {k : Nat} (h : k < os.length) : nth os k ∈ os := by
  unfold nth
  rw [List.getD_eq_getElem?_getD, List.getElem?_eq_getElem h]
  exact List.getElem_mem h
theorem upto_nodup (n : Nat) : (DL.upto n).Nodup := by
  unfold DL.upto
  rw [List.nodup_iff_pairwise_ne, List.pairwise_map]
  exact List.nodup_range.imp fun h z => h (by omega)
theorem Kn.nodup {n F : Nat} {V : Nat → Int} {os : List Int} {T : Nat → Nat → Int} (K : Kn n F V os T) : os.Nodup := K.perm.nodup_iff.mpr (upto_nodup n)
theorem idx_nth {os : List Int} (hn : os.Nodup) {k : Nat} (h : k < os.length) : os.idxOf (nth os k) = k := by
  unfold nth
  rw [List.getD_eq_getElem?_getD, List.getElem?_eq_getElem h]
  exact hn.idxOf_getElem k h
end LW
namespace LW
open PySem L2 DL
section
variable {n F : Nat} {V : Nat → Int} {os : List Int} {T : Nat → Nat → Int}
theorem Kn.word (K : Kn n F V os T) {f : Nat} (hf : f < F) {a b : Nat} (h : a ≤ b) (hb : b ≤ n) : T f a ≤ T f b ∧ T f b ≤ T f a + (b - a : Nat) := by
  have W := K.tight.word f hf
  obtain ⟨d, rfl⟩ : ∃ d, b = a + d := ⟨b - a, by omega⟩
  clear h
  induction d with
  | zero => rw [Nat.add_zero]; exact ⟨Int.le_refl _, by omega⟩
  | succ d ih =>
    have ih := ih (by omega)
    have h1 := W.mono (a + d) (by omega)
    have h2 := W.step (a + d) (by omega)
    have e : a + (d + 1) = a + d + 1 := by omega
    rw [e]
    omega
theorem Kn.bound (K : Kn n F V os T) {f : Nat} (hf : f < F) {k : Nat} (hk : k ≤ n) : 0 ≤ T f k ∧ T f k ≤ k ∧ T f k ≤ T f n := by
  have h1 := K.word hf (Nat.zero_le k) hk
  have h2 := K.word hf hk (Nat.le_refl n)
  have h0 := K.tight.first f hf
  omega
theorem Kn.floors (K : Kn n F V os T) {f g : Nat} (h : f ≤ g) (hg : g < F) {k : Nat} (hk : k ≤ n) : T f k ≤ T g k ∧ T g k ≤ T f k + (T g n - T f n) := by
  obtain ⟨d, rfl⟩ : ∃ d, g = f + d := ⟨g - f, by omega⟩
  clear h
  induction d with
  | zero => rw [Nat.add_zero]; exact ⟨Int.le_refl _, by omega⟩
  | succ d ih =>
    have ih := ih (by omega)
    have h1 := K.tight.up (f + d) (by omega) k hk
    have h2 := K.tight.down (f + d) (by omega) k hk
    have e : f + (d + 1) = f + d + 1 := by omega
    rw [e]
    omega
/-- how many stand in front of each floor -/
def endS (n F : Nat) (T : Nat → Nat → Int) (g : Nat) : Int := if g = 0 then 0 else if g ≤ F then T (g - 1) n else n
structure Goes1 (n F : Nat) (T : Nat → Nat → Int) (p g : Nat) : Prop where
  le : g ≤ F
  may : g < F → T g p < T g n
  left : 0 < g → T (g - 1) (p + 1) ≠ ((p + 1 : Nat) : Int)
  num : endS n F T g < endS n F T (g + 1)
theorem endS_succ {g : Nat} (h : g < F) : endS n F T (g + 1) = T g n := by
  unfold endS
  rw [if_neg (by omega), if_pos (by omega)]
  rfl
theorem endS_last : endS n F T (F + 1) = n := by
  unfold endS
  rw [if_neg (by omega), if_neg (by omega)]
theorem endS_pos {g : Nat} (h0 : 0 < g) (h : g ≤ F) : endS n F T g = T (g - 1) n := by
  unfold endS
  rw [if_neg (by omega), if_pos h]
end
end LW
namespace LW
open PySem L2 DL
end LW
namespace LW
open PySem L2 DL
def cntB (b : Nat → Bool) (d : Nat) : Nat := ((List.range d).filter b).length
theorem cntB_succ {b : Nat → Bool} {d : Nat} : cntB b (d + 1) = cntB b d + (if b d = true then 1 else 0) := by
  unfold cntB
  rw [List.range_succ, List.filter_append, List.length_append]
  cases h : b d <;> simp [List.filter_cons, h]
end LW
noncomputable section
namespace DL
open PySem L2
def kIsi (x : Option (Val × DL.Env)) (T : String) : Option (Val × DL.Env) := x.bind fun p => (tyVal p.1).bind fun n => (kitB n T).map fun b => (.cl (.bool b), p.2)
section
variable {ρ : DL.Env} {f : ED} {T : String}
@[simp] theorem e_isin : isinD f T ρ = kIsi (f ρ) T := rfl
theorem kit_self {a : String} : kitB a a = some true := by
  unfold kitB
  rw [if_pos]
  exact beq_self_eq_true _
theorem kit_ib : kitB "int" "bool" = some false := by decide +kernel
@[simp] theorem s_IsiT {ds : List PyData} : kIsi (some (.cl (.tuple ds), ρ)) "tuple" = some (.cl (.bool true), ρ) := by
  unfold kIsi
  simp only [Option.bind_some, tyVal, tyD, kit_self, Option.map_some]
@[simp] theorem s_IsiI {i : Int} : kIsi (some (.cl (.int i), ρ)) "int" = some (.cl (.bool true), ρ) := by
  unfold kIsi
  simp only [Option.bind_some, tyVal, tyD, kit_self, Option.map_some]
@[simp] theorem s_IsiB {i : Int} : kIsi (some (.cl (.int i), ρ)) "bool" = some (.cl (.bool false), ρ) := by
  unfold kIsi
  simp only [Option.bind_some, tyVal, tyD, kit_ib, Option.map_some]
def kSn (x : Option (List Val × DL.Env)) (i : Int) : Option (List Val × DL.Env) := x.map fun p => (p.1 ++ [.cl (.int i)], p.2)
@[simp] theorem e_snoc {t : AD} {i : Int} : tsnoc t i ρ = kSn (t ρ) i := rfl
@[simp] theorem s_Sn {rs : List Val} {i : Int} : kSn (some (rs, ρ)) i = some (rs ++ [.cl (.int i)], ρ) := rfl
end
end DL
end
namespace LW
open PySem L2 DL
theorem cut_upto {ds : List PyData} {k : Nat} : cutD ds none (some (k : Int)) = ds.take k := by
  unfold cutD
  rw [HT.sIx_none, HT.sIx_nat]
  by_cases h : k ≤ ds.length
  · rw [Nat.min_eq_left h]; simp
  · rw [Nat.min_eq_right (by omega), List.drop_zero, Nat.sub_zero, List.take_of_length_le (Nat.le_refl _), List.take_of_length_le (by omega)]
def plc (os : List Int) (n : Nat) (b : Nat → Bool) : List Int := ((List.range n).filter b).map (nth os)
section
variable {n F : Nat} {V : Nat → Int} {os : List Int} {T : Nat → Nat → Int}
theorem plc_all (K : Kn n F V os T) : plc os n (fun _ => true) = os := by
  unfold plc
  have e : (List.range n).filter (fun _ => true) = List.range n := List.filter_eq_self.mpr fun _ _ => rfl
  rw [e, ← K.len]
  exact range_get os 0
theorem cntB_not {b : Nat → Bool} : ∀ d, cntB b d + cntB (fun k => !b k) d = d
  | 0 => rfl
  | d + 1 => by
    rw [cntB_succ, cntB_succ]
    have := cntB_not (b := b) d
    cases h : b d <;> simp <;> omega
theorem plc_len {b : Nat → Bool} : (plc os n b).length = cntB b n := by unfold plc cntB; rw [List.length_map]
end
def wr (c : Bool) (l : List Int) : PyData := if c = true then .list (l.map .int) else .tuple (l.map .int)
def notIn (lots : List (List Int)) (x : Int) : Nat := (lots.filter fun l => !decide (x ∈ l)).length
theorem not_in_wr {ρ : DL.Env} {c : Bool} {l : List Int} {x : Int} {neg : Bool} : inG neg ρ (.cl (.int x)) (.cl (wr c l)) = some (.cl (.bool (neg ^^ decide (x ∈ l))), ρ) := by
  have : ∃ k, seqOf ρ (.cl (wr c l)) = some (k, l.map .int) := by
    cases c
    · exact ⟨false, rfl⟩
    · exact ⟨true, rfl⟩
  obtain ⟨k, e⟩ := this
  rw [e_in, f_int, s_In0, e, s_In1, f_ints]
  cases neg
  · rw [s_InI]; simp
  · rw [s_NiI]; simp
theorem of_lots_ok (n F : Nat) (V : Nat → Int) (c : Bool) (lots : List (List Int)) (hn : n < 1000) (hl : lots.length ≤ 1000) : F_state_of_lots [house n F V, .list (lots.map (wr c))] = some (.cl (.tuple (iv n fun x => (notIn lots ((x : Nat) : Int) : Nat)))) := by
  unfold F_state_of_lots g_state_of_lots house
  rw [e_runP]
  have h1 : (-1000000 : Int) ≤ n ∧ (n : Int) ≤ 1000000 := by omega
  simp [argE, h1.1, h1.2]
  rw [rng_gl, lc_gl (fun x => .int (notIn lots ((x : Nat) : Int) : Nat)) (by simp) (by omega) (by simp) (by
    intro x hx
    simp
    rw [lc_filL (fun l => !decide (((x : Nat) : Int) ∈ l)) (by simp) (by omega) (by simp) (by
      intro l hl2
      have e := fun ρ => not_in_wr (ρ := ρ) (c := c) (l := l) (x := ((x : Nat) : Int)) (neg := true)
      by_cases q : ((x : Nat) : Int) ∈ l
      · simp [-e_in, e, q]
      · simp [-e_in, e, q])]
    simp [notIn])]
  simp [iv, gl]
end LW
namespace LW
open PySem L2 DL
section
variable {n F : Nat} {V : Nat → Int} {os : List Int} {T : Nat → Nat → Int}
def wlL (os : List Int) (n : Nat) (T : Nat → Nat → Int) (b : Nat → Bool) (f : Nat) : List Int := (plc os n b).take (T f n).toNat ++ (plc os n fun k => !b k).take (max 0 (T f n - cntB b n)).toNat
end
end LW
namespace LW
open PySem L2 DL
section
variable {n F : Nat} {V : Nat → Int} {os : List Int} {T : Nat → Nat → Int}
theorem pwithin_ok (n F : Nat) (V s : Nat → Int) (f : Int) (hn : n < 1000) : F_things_within [house n F V, .tuple (iv n s), .int f] = some (.cl (.tuple ((inside n s f).map fun k => .int (k : Nat)))) := by
  unfold F_things_within g_things_within house
  rw [e_runP]
  have h1 : (-1000000 : Int) ≤ n ∧ (n : Int) ≤ 1000000 := by omega
  simp [argE, h1.1, h1.2]
  rw [rng_gl, lc_glf (fun k => if decide (s k ≤ f) = true then some (.int (k : Nat)) else none) (by simp) (by omega) (by simp) (by
    intro k hk
    have e1 : atI (iv n s) (k : Int) = some (.int (s k)) := iv_at rfl hk
    by_cases h : s k ≤ f
    · simp [e1, h]
    · simp [e1, h]), fm_filter]
  simp [inside]
theorem psizes_ok (n F : Nat) (V s : Nat → Int) (hn : n < 1000) (hF : F < 1000) : F_sizes_of [house n F V, .tuple (iv n s)] = some (.cl (.tuple (iv F fun f => ((inside n s f).length : Nat)))) := by
  have hw := fun f : Int => pwithin_ok n F V s f hn
  unfold house at hw
  unfold F_sizes_of g_sizes_of house
  rw [e_runP]
  have h1 : (-1000000 : Int) ≤ F ∧ (F : Int) ≤ 1000000 := by omega
  simp [argE, h1.1, h1.2]
  rw [rng_gl, lc_gl (fun f => .int ((inside n s f).length : Nat)) (by simp) (by omega) (by simp) (by
    intro f hf
    simp [hw])]
  simp [iv, gl]
end
end LW
namespace LW
open PySem L2 DL
end LW
namespace LW
open PySem L2 DL
end LW
namespace LW
open PySem L2 DL
end LW
namespace LW
open PySem L2 DL
end LW
namespace LW
open PySem L2 DL
end LW
namespace LW
open PySem L2 DL
end LW
namespace LW
open PySem L2 DL
end LW
namespace LW
open PySem L2 DL
end LW
namespace LW
open PySem L2 DL
theorem prooms_ok (n F : Nat) (V : Nat → Int) (hF : F < 1000) : F_rooms_within [house n F V] = some (.cl (.tuple (iv F (pre V)))) := by
  unfold F_rooms_within g_rooms_within house
  rw [e_runP]
  have h1 : (-1000000 : Int) ≤ F ∧ (F : Int) ≤ 1000000 := by omega
  simp [argE, h1.1, h1.2]
  rw [rng_gl, lc_gl (fun f => .int (pre V f)) (by simp) (by omega) (by simp) (by
    intro f hf
    have e1 : cutD (iv F V) none (some ((f : Int) + 1)) = iv (f + 1) V := by
      rw [show ((f : Int) + 1) = ((f + 1 : Nat) : Int) by omega, cut_to (by rw [iv_len]; omega), iv_take (by omega)]
    simp [e1, sum_pre])]
  simp [iv, gl]
end LW
namespace LW
open PySem L2 DL
end LW
noncomputable section
namespace DL
open PySem L2
end DL
namespace LW
open PySem L2 DL
end LW
end
namespace LW
open PySem L2 DL
end LW
noncomputable section
namespace DL
open PySem L2
section
variable {ρ ρ' : DL.Env} {n : Nat} {ds : List PyData}
def kZl (x : Option (List PyData × DL.Env)) : Option (Val × DL.Env) := x.bind fun p => if p.1.length ≤ lim then some (.own p.1, p.2) else none
@[simp] theorem e_zipL {t : AD} : zipLD t ρ = kZl (zipI t ρ) := rfl
@[simp] theorem s_Zl (h : ds.length ≤ 1000000) : kZl (some (ds, ρ)) = some (.own ds, ρ) := if_pos (by rw [lim_eq]; exact h)
def kH4 (o : Option (Val ⊕ Int)) (ρ : DL.Env) (m1 m2 : Str) : Option (Val × DL.Env) := o.bind fun o => match o with
  | .inl (.cl d) => some (.cl (.tuple [.str m1, d]), ρ)
  | .inl (.own ds) => some (.cl (.tuple [.str m1, .list ds]), ρ)
  | .inl (.sl _) => none
  | .inr i => some (.cl (.tuple [.str m2, .int i]), ρ)
def kH5 (x : Option (List PyData × DL.Env)) (n : Nat) (G : FE) (m1 m2 : Str) : Option (Val × DL.Env) := x.bind fun q => if q.1.length = n then kH4 (G q.1) q.2 m1 m2 else none
@[simp] theorem e_heard {G : FE} {t : AD} {m1 m2 : Str} : heardD n G t m1 m2 ρ = kH5 (kPs (t ρ)) n G m1 m2 := by
  unfold heardD kPs kH5 kH4
  cases t ρ with
  | none => rfl
  | some p => rfl
@[simp] theorem s_H5 {G : FE} {m1 m2 : Str} (h : ds.length = n) : kH5 (some (ds, ρ)) n G m1 m2 = kH4 (G ds) ρ m1 m2 := if_pos h
@[simp] theorem s_H4c {d : PyData} {m1 m2 : Str} : kH4 (some (.inl (.cl d))) ρ m1 m2 = some (.cl (.tuple [.str m1, d]), ρ) := rfl
@[simp] theorem s_H4o {m1 m2 : Str} : kH4 (some (.inl (.own ds))) ρ m1 m2 = some (.cl (.tuple [.str m1, .list ds]), ρ) := rfl
@[simp] theorem s_H4r {i : Int} {m1 m2 : Str} : kH4 (some (.inr i)) ρ m1 m2 = some (.cl (.tuple [.str m2, .int i]), ρ) := rfl
def kRz1 (x : Option (Out ⊕ Int)) : Option (Val ⊕ Int) := x.bind fun o => match o with
  | .inr i => some (.inr i)
  | .inl (.rt r ρ') => (retV ρ' r).map .inl
  | .inl (.nx _) => some (.inl (.cl .none))
  | _ => none
theorem e_runE {N : Nat} {g : SE} : runE N g ds = kRz1 (g (argE N ds)) := rfl
def kRz2 (x : Option Out) (h : SE) : Option (Out ⊕ Int) := x.bind fun o => match o with
  | .nx ρ' => h ρ'
  | o => some (.inl o)
def kRz4 (x : Option (Bool × DL.Env)) (g h : SE) : Option (Out ⊕ Int) := x.bind fun p => if p.1 = true then g p.2 else h p.2
def kRz5 (x : Option Out) : Option (Out ⊕ Int) := x.map .inl
def kRz6 (x : Option (Val × DL.Env)) : Option (Out ⊕ Int) := x.bind fun p => match p.1 with
  | .cl (.int i) => some (.inr i)
  | _ => none
@[simp] theorem e_seqE {g : SD} {h : SE} : seqE g h ρ = kRz2 (g ρ) h := rfl
@[simp] theorem e_ifE {c : TD} {g h : SE} : ifE c g h ρ = kRz4 (c ρ) g h := rfl
@[simp] theorem e_pureE {g : SD} : pureE g ρ = kRz5 (g ρ) := rfl
@[simp] theorem e_raiE {f : ED} : raiseE f ρ = kRz6 (f ρ) := rfl
@[simp] theorem s_Rz2 {h : SE} : kRz2 (some (.nx ρ)) h = h ρ := rfl
@[simp] theorem s_Rz4t {g h : SE} : kRz4 (some (true, ρ)) g h = g ρ := rfl
@[simp] theorem s_Rz4f {g h : SE} : kRz4 (some (false, ρ)) g h = h ρ := rfl
@[simp] theorem s_Rz5 {o : Out} : kRz5 (some o) = some (.inl o) := rfl
@[simp] theorem s_Rz6 {i : Int} : kRz6 (some (.cl (.int i), ρ)) = some (.inr i) := rfl
@[simp] theorem s_Rz1r {i : Int} : kRz1 (some (.inr i)) = some (.inr i) := rfl
@[simp] theorem s_Rz1c {d : PyData} : kRz1 (some (.inl (.rt (.cl d) ρ))) = some (.inl (.cl d)) := rfl
@[simp] theorem s_Rz1o : kRz1 (some (.inl (.rt (.own ds) ρ))) = some (.inl (.own ds)) := rfl
@[simp] theorem s_Rz1s {i : Nat} : kRz1 (some (.inl (.rt (.sl i) ρ))) = match ρ.getD i .no with
  | .op ds => some (.inl (.own ds))
  | .cl d => some (.inl (.cl d))
  | .dk t ds => some (.inl (.cl (dOf t ds)))
  | _ => none := by
  show (retV ρ (.sl i)).map _ = _
  unfold retV
  simp only
  cases ρ.getD i .no <;> rfl
def kRz7 (x : Option (List PyData × DL.Env)) (n : Nat) (G : FE) (y : Option Out) : Option (Out ⊕ Int) := x.bind fun q => if q.1.length = n then (G q.1).bind fun o => match o with
  | .inl _ => y.map .inl
  | .inr i => some (.inr i)
  else none
@[simp] theorem e_exC {G : FE} {t : AD} {g : SD} : exC n G t g ρ = kRz7 (kPs (t ρ)) n G (g ρ) := by
  unfold exC kPs kRz7
  cases t ρ with
  | none => rfl
  | some p => rfl
end
end DL
end
namespace LW
open PySem L2 DL
end LW
namespace LW
open PySem L2 DL
theorem fm_ints {os : List Int} {P : Int → Bool} : (List.range os.length).filterMap (fun k => if P (nth os k) = true then some (PyData.int (nth os k)) else none) = (os.filter P).map .int := by
  have e : os = (List.range os.length).map (nth os) := by
    apply List.ext_getElem?
    intro k
    by_cases hk : k < os.length
    · rw [List.getElem?_map, List.getElem?_range hk, List.getElem?_eq_getElem hk]
      unfold nth
      simp [List.getD, List.getElem?_eq_getElem hk]
    · rw [List.getElem?_eq_none (by omega), List.getElem?_eq_none (by rw [List.length_map, List.length_range]; omega)]
  have e2 : os.filter P = ((List.range os.length).filter fun k => P (nth os k)).map (nth os) := by
    conv => lhs; rw [e]
    rw [List.filter_map]
    rfl
  rw [e2, List.map_map]
  exact fm_filter (p := fun k => P (nth os k)) (u := fun k => PyData.int (nth os k))
theorem lc_ints {own : List Nat} {tg : GD} {tt : TD} {te : ED} {ρ : DL.Env} {os : List Int} (P : Int → Bool) (ho : own.all (fun i => !(ρ.getD i .no).isOpen) = true) (hn : os.length ≤ 1000000)
    (hr : restE (wipeE ρ own) ρ own = ρ) (hs : ∀ y, y ∈ os → lcItem own tg tt te (wipeE ρ own) (.int y) = some (if P y = true then some (.int y) else none, wipeE ρ own)) : lcGo own tg tt te (os.map .int) ρ = some (.own ((os.filter P).map .int), ρ) := by
  rw [iv_getD, ← fm_ints]
  exact lc_glf (n := os.length) (g := fun k => .int (nth os k)) (fun k => if P (nth os k) = true then some (.int (nth os k)) else none) ho hn hr fun k hk => hs _ (nth_mem hk)
end LW
namespace LW
open PySem L2 DL
section
variable {n F : Nat} {V : Nat → Int}
/-- what a loop of turns leaves -/
def kLo (x : Option Out) (k : DL.Env → Option Out) : Option Out := x.bind fun o => match o with
  | .nx ρ => k ρ
  | .ct ρ => k ρ
  | .bk ρ => some (.nx ρ)
  | .rt r ρ => some (.rt r ρ)
theorem loop_cons {tg : GD} {body : SD} {ρ : DL.Env} {d : PyData} {l : List PyData} : loopD tg body (d :: l) ρ = kLo (turn tg body ρ d) (loopD tg body l) := by
  show ((tg ρ d).bind fun ρ1 => (body ρ1).bind _) = kLo ((tg ρ d).bind body) _
  cases tg ρ d with
  | none => rfl
  | some ρ1 => rfl
end
end LW
namespace LW
open PySem L2 DL
end LW
namespace DL
open PySem L2
end DL
namespace LW
open PySem L2 DL
end LW
namespace LW
open PySem L2 DL
end LW
namespace LW
open PySem L2 DL
end LW
namespace LW
open PySem L2 DL
end LW
namespace LW
open PySem L2 DL
theorem nice_str {s : Str} (h1 : (PyData.str s).showable = true := by decide +kernel) (h2 : (PyData.str s).leavesShort 13 = true := by decide +kernel) (h3 : (PyData.str s).weight ≤ 100 := by decide +kernel) (h4 : PyData.strOk s = true := by decide +kernel) : Nice 0 100 (.str s) := ⟨h1, by simp only [PyData.hasDict], by simp only [PyData.canLay0]; exact h4, h2, by simp only [PyData.depth]; omega, h3⟩
theorem nice_told : Nice 0 100 (.str "told") := nice_str
end LW
noncomputable section
namespace DL
open PySem L2
section
variable {ρ ρ' ρ1 ρ2 : DL.Env} {n i j : Nat} {ds : List PyData} {f : EY} {t : AY} {c : TY} {g h : SY} {er : ErT} {r : Val} {rs : List Val} {G : FY} {b : Bool} {o : Out}
def kYpp (x : Option (Val × DL.Env)) : Option ((Val × DL.Env) ⊕ ErT) := x.map .inl
def kYa (x : Option (List Val × DL.Env)) : Option ((List Val × DL.Env) ⊕ ErT) := x.map .inl
def kYt (x : Option (Bool × DL.Env)) : Option ((Bool × DL.Env) ⊕ ErT) := x.map .inl
def kYs (x : Option Out) : Option (Out ⊕ ErT) := x.map .inl
def kYf (x : Option Val) : Option (Val ⊕ ErT) := x.map .inl
@[simp] theorem e_purY {f : ED} : purY f ρ = kYpp (f ρ) := rfl
@[simp] theorem e_purAY {t : AD} : purAY t ρ = kYa (t ρ) := rfl
@[simp] theorem e_purTY {c : TD} : purTY c ρ = kYt (c ρ) := rfl
@[simp] theorem e_pureY {g : SD} : pureY g ρ = kYs (g ρ) := rfl
@[simp] theorem e_purFY {F : FP} : purFY F ds = kYf (F ds) := rfl
@[simp] theorem s_Ypp : kYpp (some (r, ρ)) = some (.inl (r, ρ)) := rfl
@[simp] theorem s_Ya : kYa (some (rs, ρ)) = some (.inl (rs, ρ)) := rfl
@[simp] theorem s_Yt : kYt (some (b, ρ)) = some (.inl (b, ρ)) := rfl
@[simp] theorem s_Ys : kYs (some o) = some (.inl o) := rfl
@[simp] theorem s_Yf : kYf (some r) = some (.inl r) := rfl
def kY3 (x : Option (Val ⊕ ErT)) (ρ1 ρ2 : DL.Env) : Option ((Val × DL.Env) ⊕ ErT) := x.bind fun o2 => match o2 with
  | .inr er => some (.inr er)
  | .inl r => some (.inl (if flatV' r = true then (r, ρ1) else (r, ρ2)))
def kY2 (x : Option (List PyData × DL.Env)) (n : Nat) (G : FY) (ρ1 : DL.Env) : Option ((Val × DL.Env) ⊕ ErT) := x.bind fun q => if q.1.length = n then kY3 (G q.1) ρ1 q.2 else none
def kY1 (x : Option ((List Val × DL.Env) ⊕ ErT)) (n : Nat) (G : FY) : Option ((Val × DL.Env) ⊕ ErT) := x.bind fun o => match o with
  | .inr er => some (.inr er)
  | .inl p => kY2 (psAll p.2 p.1) n G p.2
@[simp] theorem e_callY : callY n G t ρ = kY1 (t ρ) n G := rfl
@[simp] theorem s_Y1l : kY1 (some (.inl (rs, ρ))) n G = kY2 (psAll ρ rs) n G ρ := rfl
@[simp] theorem s_Y1r : kY1 (some (.inr er)) n G = some (.inr er) := rfl
@[simp] theorem s_Y2 (h : ds.length = n) : kY2 (some (ds, ρ2)) n G ρ1 = kY3 (G ds) ρ1 ρ2 := if_pos h
@[simp] theorem s_Y3r : kY3 (some (.inr er)) ρ1 ρ2 = some (.inr er) := rfl
@[simp] theorem s_Y3l : kY3 (some (.inl r)) ρ1 ρ2 = some (.inl (if flatV' r = true then (r, ρ1) else (r, ρ2))) := rfl
def kYst (x : Option ((Val × DL.Env) ⊕ ErT)) (i : Nat) : Option (Out ⊕ ErT) := x.bind fun o => match o with
  | .inr er => some (.inr er)
  | .inl p => kYs (kN (stV p.2 i p.1))
@[simp] theorem e_setY : setY i f ρ = kYst (f ρ) i := by
  unfold setY kYst
  cases f ρ with
  | none => rfl
  | some o =>
    cases o with
    | inr er => rfl
    | inl p =>
      show (stV p.2 i p.1).map _ = (((stV p.2 i p.1).map Out.nx).map Sum.inl)
      rw [Option.map_map]; rfl
@[simp] theorem s_Ystr : kYst (some (.inr er)) i = some (.inr er) := rfl
@[simp] theorem s_Ystl : kYst (some (.inl (r, ρ))) i = kYs (kN (stV ρ i r)) := rfl
def kYru (x : Option (Out ⊕ ErT)) : Option (Val ⊕ ErT) := x.bind fun o => match o with
  | .inr er => some (.inr er)
  | .inl o => kYf (kPu (some o))
@[simp] theorem s_Yrur : kYru (some (.inr er)) = some (.inr er) := rfl
@[simp] theorem s_Yrul : kYru (some (.inl o)) = kYf (kPu (some o)) := rfl
def kYra (x : Option (Val × DL.Env)) (j : Nat) : Option (Out ⊕ ErT) := x.bind fun p => match p.1 with
  | .cl d => some (.inr (j, d))
  | _ => none
@[simp] theorem e_raiseY {f : ED} : raiseY j f ρ = kYra (f ρ) j := rfl
@[simp] theorem s_Yra {d : PyData} : kYra (some (.cl d, ρ)) j = some (.inr (j, d)) := rfl
def kHY6 (o : Option (Val ⊕ ErT)) (ρ : DL.Env) (m1 m2 m3 : Str) : Option (Val × DL.Env) := o.bind fun o => match o with
  | .inl (.cl d) => some (.cl (.tuple [.str m1, d]), ρ)
  | .inl (.own ds) => some (.cl (.tuple [.str m1, .list ds]), ρ)
  | .inl (.sl _) => none
  | .inr (0, i) => some (.cl (.tuple [.str m2, i]), ρ)
  | .inr (1, _) => some (.cl (.tuple [.str m3]), ρ)
  | .inr (_ + 2, _) => none
def kHY7 (x : Option (List PyData × DL.Env)) (n : Nat) (G : FY) (m1 m2 m3 : Str) : Option (Val × DL.Env) := x.bind fun q => if q.1.length = n then kHY6 (G q.1) q.2 m1 m2 m3 else none
@[simp] theorem e_heardY {t : AD} {m1 m2 m3 : Str} : heardY n G t m1 m2 m3 ρ = kHY7 (kPs (t ρ)) n G m1 m2 m3 := by
  unfold heardY kPs kHY7 kHY6
  cases t ρ with
  | none => rfl
  | some p => rfl
@[simp] theorem s_HY7 {m1 m2 m3 : Str} (h : ds.length = n) : kHY7 (some (ds, ρ)) n G m1 m2 m3 = kHY6 (G ds) ρ m1 m2 m3 := if_pos h
@[simp] theorem s_HY6c {d : PyData} {m1 m2 m3 : Str} : kHY6 (some (.inl (.cl d))) ρ m1 m2 m3 = some (.cl (.tuple [.str m1, d]), ρ) := rfl
@[simp] theorem s_HY60 {i : PyData} {m1 m2 m3 : Str} : kHY6 (some (.inr (0, i))) ρ m1 m2 m3 = some (.cl (.tuple [.str m2, i]), ρ) := rfl
@[simp] theorem s_HY61 {i : PyData} {m1 m2 m3 : Str} : kHY6 (some (.inr (1, i))) ρ m1 m2 m3 = some (.cl (.tuple [.str m3]), ρ) := rfl
end
end DL
end
namespace LW
open PySem L2 DL
section
variable {n F : Nat} {V : Nat → Int}
theorem at_nat {xs : List PyData} {k : Nat} (h : k < xs.length) : atI xs (k : Int) = some xs[k] := by
  rw [atI_nat' rfl h, List.getElem?_eq_getElem h]
end
end LW
namespace LW
open PySem L2 DL
end LW
namespace LW
open PySem L2 DL
end LW
namespace LW
open PySem L2 DL
section
variable {n m F e p : Nat} {V : Nat → Int} {os : List Int} {T : Nat → Nat → Int} {w : Nat → Int} {s : Int}
variable {R : Nat → Nat → Int} {S : Nat → Int}
theorem Goes1.sizes (K : Kn n F V os T) (hm : n = m + 1) (G : Goes1 n F T e p) (he : e < n) {f : Nat} (hf : f < F) : 0 ≤ cutS T n p f ∧ cutS T n p f ≤ m := by
  have hb := K.bound hf (Nat.le_refl n)
  unfold cutS lessF
  by_cases q : (p : Int) ≤ (f : Int)
  · rw [if_pos q]
    have h1 := G.may (by omega)
    have h2 := (K.floors (show p ≤ f by omega) hf (Nat.le_refl n)).1
    have h3 := (K.bound (show p < F by omega) (show e ≤ n by omega)).1
    omega
  · rw [if_neg q]
    have h1 := G.num
    rw [endS_pos (by omega) G.le] at h1
    have h2 := (K.floors (show f ≤ p - 1 by omega) (show p - 1 < F by have := G.le; omega) (Nat.le_refl n)).1
    have h3 : endS n F T (p + 1) ≤ n := by
      by_cases z : p < F
      · rw [endS_succ z]; exact (K.bound z (Nat.le_refl n)).2.1
      · rw [show p = F by have := G.le; omega, endS_last]; exact Int.le_refl _
    omega
theorem Goes1.cut (K : Kn n F V os T) (hm : n = m + 1) (he : e < n) (G : Goes1 n F T e p) {f : Nat} (hf : f < F) {k : Nat} (hk : k ≤ m) : cutR T e p f k ≤ min (k : Int) (cutS T n p f) := by
  have hb := fun k (hk : k ≤ n) => K.bound hf hk
  have hsz := G.sizes K hm he hf
  unfold cutR cutS lessF at *
  by_cases q : (p : Int) ≤ (f : Int)
  · rw [if_pos q] at hsz ⊢
    have h1 := G.may (by omega)
    have h2 := (K.floors (show p ≤ f by omega) hf (show e ≤ n by omega)).2
    have h4 := hb e (by omega)
    have h5 := hb (e + 1) (by omega)
    by_cases c1 : k < e
    · rw [if_pos c1]
      have h3 := (K.word hf (show k ≤ e by omega) (show e ≤ n by omega)).1
      have := hb k (by omega)
      omega
    · rw [if_neg c1]
      by_cases c2 : k = e
      · rw [if_pos c2]; subst c2
        omega
      · rw [if_neg c2]
        have := hb (k + 1) (by omega)
        omega
  · rw [if_neg q] at hsz ⊢
    have h1 := G.left (by omega)
    have h2 := (K.floors (show f ≤ p - 1 by omega) (show p - 1 < F by have := G.le; omega) (show e + 1 ≤ n by omega)).1
    have h3 := (K.bound (show p - 1 < F by have := G.le; omega) (show e + 1 ≤ n by omega)).2.1
    have h4 := hb e (by omega)
    have h5 := hb (e + 1) (by omega)
    by_cases c1 : k < e
    · rw [if_pos c1]
      have := hb k (by omega)
      omega
    · rw [if_neg c1]
      by_cases c2 : k = e
      · rw [if_pos c2]; subst c2
        omega
      · rw [if_neg c2]
        have h6 := hb (k + 1) (by omega)
        have h7 := (K.word hf (show e + 1 ≤ k + 1 by omega) (show k + 1 ≤ n by omega)).2
        omega
end
end LW
namespace LW
open PySem L2 DL
section
variable {n m F e g : Nat} {V : Nat → Int} {os : List Int} {T : Nat → Nat → Int}
def less (g f : Nat) : Nat := if g ≤ f then 1 else 0
end
end LW
namespace DL
open PySem L2
@[simp] theorem e_keyI {j : Nat} {ρ : DL.Env} : keyI j ρ = match ρ.getD j .no with
  | .cl (.dict ds) => if markD ds = true then none else some (ds.map (·.1), ρ)
  | _ => none := rfl
@[simp] theorem e_in1 {neg : Bool} {ρ : DL.Env} {x y : Int} {d : PyData} : inDG neg ρ (.cl (.int y)) (.cl (.dict [(.int x, d)])) = some (.cl (.bool (neg ^^ decide (x = y))), ρ) := by
  unfold inDG
  simp only [mark_int, Bool.false_eq_true, if_false, keyOf, Option.map_some]
  unfold lookD
  have : isKey (.inl y) (.int x) = decide (x = y) := by
    unfold isKey
    rw [decide_eq_decide]
    exact ⟨fun z => by cases z; rfl, fun z => by rw [z]⟩
  rw [this]
  by_cases q : x = y
  · simp [q]
  · simp [q, lookD]
@[simp] theorem e_ix1 {ρ : DL.Env} {x : Int} {d : PyData} : ixDG ρ (.cl (.dict [(.int x, d)])) (.cl (.int x)) = some (.cl d, ρ) := by
  unfold ixDG
  simp only [keyOf, Option.bind_some]
  unfold lookD
  have : isKey (.inl x) (.int x) = true := by unfold isKey; exact decide_eq_true rfl
  rw [this]
  rfl
@[simp] theorem e_dicV {i j : Nat} {ρ : DL.Env} : dicV i j ρ = match ρ.getD i .no, ρ.getD j .no with
  | .cl d, .cl e => (keyOf d).map fun _ => (.cl (.dict [(d, e)]), ρ)
  | _, _ => none := rfl
end DL
namespace LW
open PySem L2 DL
theorem add_so {ρ : DL.Env} {j : Nat} {xs ys : List PyData} (h : ρ.getD j .no = .op xs) (hl : xs.length + ys.length ≤ 1000000) : addG ρ (.sl j) (.own ys) = some (.own (xs ++ ys), ρ) := by
  unfold addG
  simp only [seqOf, h]
  rw [if_pos (by rw [lim_eq]; exact hl)]
end LW
namespace LW
open PySem L2 DL
def lq (n F : Nat) (T : Nat → Nat → Int) (e q : Nat) : Bool := !(decide (0 < q) && decide (T (q - 1) (e + 1) = (e : Int) + 1)) && !(decide (q < F) && decide (T q n = endS n F T q))
end LW
namespace LW
open PySem L2 DL
end LW
namespace LW
open PySem L2 DL
end LW
namespace LW
open PySem L2 DL
end LW
namespace LA
def ch : Nat → Nat → Nat
  | _, 0 => 1
  | 0, _ + 1 => 0
  | n + 1, k + 1 => ch n k + ch n (k + 1)
theorem ch_zero (n : Nat) : ch n 0 = 1 := by cases n <;> rfl
theorem ch_over : ∀ (n k : Nat), n < k → ch n k = 0
  | 0, 0, h => absurd h (Nat.lt_irrefl 0)
  | 0, k + 1, _ => rfl
  | n + 1, 0, h => absurd h (Nat.not_lt_zero _)
  | n + 1, k + 1, h => by
    show ch n k + ch n (k + 1) = 0
    rw [ch_over n k (by omega), ch_over n (k + 1) (by omega)]
theorem ch_pos : ∀ (n k : Nat), k ≤ n → 0 < ch n k
  | n, 0, _ => by rw [ch_zero]; exact Nat.one_pos
  | 0, k + 1, h => absurd h (Nat.not_succ_le_zero _)
  | n + 1, k + 1, h => by
    show 0 < ch n k + ch n (k + 1)
    have := ch_pos n k (by omega)
    omega
theorem ch_mul : ∀ (n k : Nat), (k + 1) * ch n (k + 1) = ch n k * (n - k)
  | 0, k => by
    have e1 : ch 0 (k + 1) = 0 := rfl
    rw [e1, Nat.zero_sub, Nat.mul_zero, Nat.mul_zero]
  | n + 1, 0 => by
    have ih : 1 * ch n 1 = ch n 0 * (n - 0) := ch_mul n 0
    rw [ch_zero] at ih ⊢
    show 1 * (ch n 0 + ch n 1) = 1 * (n + 1 - 0)
    rw [ch_zero]
    omega
  | n + 1, j + 1 => by
    have i1 := ch_mul n j
    have i2 := ch_mul n (j + 1)
    show (j + 1 + 1) * (ch n (j + 1) + ch n (j + 1 + 1)) = (ch n j + ch n (j + 1)) * (n + 1 - (j + 1))
    have e : n + 1 - (j + 1) = n - j := by omega
    rw [e, Nat.mul_add, i2, Nat.add_mul (ch n j) (ch n (j + 1)), ← i1, Nat.succ_mul (j + 1), Nat.add_assoc]
    congr 1
    by_cases q : j < n
    · have e2 : n - j = (n - (j + 1)) + 1 := by omega
      rw [e2, Nat.mul_succ]; omega
    · rw [ch_over n (j + 1) (by omega), Nat.zero_mul, Nat.zero_mul]
def mult : List Nat → Nat
  | [] => 1
  | c :: cs => ch (c + cs.sum) c * mult cs
/-- one less -/
def dec (cs : List Nat) (f : Nat) : List Nat := cs.set f (cs.getD f 0 - 1)
theorem sum_dec : ∀ {cs : List Nat} {f : Nat}, 0 < cs.getD f 0 → (dec cs f).sum + 1 = cs.sum
  | [], f, h => by simp at h
  | c :: cs, 0, h => by
    have h : 0 < c := h
    show ((c - 1) :: cs).sum + 1 = (c :: cs).sum
    rw [List.sum_cons, List.sum_cons]; omega
  | c :: cs, f + 1, h => by
    have ih := sum_dec (cs := cs) (f := f) h
    show (c :: dec cs f).sum + 1 = (c :: cs).sum
    rw [List.sum_cons, List.sum_cons]; omega
theorem pascal (c s : Nat) (h : 0 < c + s) : (if 0 < c then ch (c - 1 + s) (c - 1) else 0) + (if 0 < s then ch (c + (s - 1)) c else 0) = ch (c + s) c := by
  cases c with
  | zero =>
    rw [if_neg (Nat.lt_irrefl 0), ch_zero, if_pos (by omega), ch_zero]
  | succ c =>
    rw [if_pos (Nat.succ_pos c)]
    have e : c + 1 + s = (c + s) + 1 := by omega
    have e1 : c + 1 - 1 + s = c + s := by omega
    have e2 : c + 1 - 1 = c := by omega
    rw [e, e1, e2]
    show _ = ch (c + s) c + ch (c + s) (c + 1)
    by_cases q : 0 < s
    · have e3 : c + 1 + (s - 1) = c + s := by omega
      rw [if_pos q, e3]
    · have : s = 0 := by omega
      subst this
      rw [if_neg q, Nat.add_zero c, ch_over c (c + 1) (by omega)]
theorem mult_sum : ∀ (cs : List Nat), 0 < cs.sum → ((List.range cs.length).map fun f => if 0 < cs.getD f 0 then mult (dec cs f) else 0).sum = mult cs
  | [], h => absurd h (Nat.lt_irrefl 0)
  | c :: cs, h => by
    rw [List.sum_cons] at h
    rw [List.length_cons, List.range_succ_eq_map, List.map_cons, List.map_map, List.sum_cons]
    have e0 : (if 0 < (c :: cs).getD 0 0 then mult (dec (c :: cs) 0) else 0) = (if 0 < c then ch (c - 1 + cs.sum) (c - 1) else 0) * mult cs := by
      show (if 0 < c then ch (c - 1 + cs.sum) (c - 1) * mult cs else 0) = _
      split <;> simp
    have e1 : ((List.range cs.length).map ((fun f => if 0 < (c :: cs).getD f 0 then mult (dec (c :: cs) f) else 0) ∘ Nat.succ)).sum = (if 0 < cs.sum then ch (c + (cs.sum - 1)) c else 0) * mult cs := by
      have e2 : ((List.range cs.length).map ((fun f => if 0 < (c :: cs).getD f 0 then mult (dec (c :: cs) f) else 0) ∘ Nat.succ)) = (List.range cs.length).map fun f => ch (c + (cs.sum - 1)) c * (if 0 < cs.getD f 0 then mult (dec cs f) else 0) := by
        refine List.map_congr_left fun f hf => ?_
        show (if 0 < cs.getD f 0 then ch (c + (dec cs f).sum) c * mult (dec cs f) else 0) = _
        by_cases q : 0 < cs.getD f 0
        · rw [if_pos q, if_pos q]
          have := sum_dec q
          have e3 : (dec cs f).sum = cs.sum - 1 := by omega
          rw [e3]
        · rw [if_neg q, if_neg q, Nat.mul_zero]
      have ms : ∀ (a : Nat) (g : Nat → Nat) (l : List Nat), (l.map fun f => a * g f).sum = a * (l.map g).sum := by
        intro a g l
        induction l with
        | nil => rfl
        | cons x l ih => rw [List.map_cons, List.map_cons, List.sum_cons, List.sum_cons, ih, Nat.mul_add]
      rw [e2, ms]
      by_cases q : 0 < cs.sum
      · rw [mult_sum cs q, if_pos q]
      · rw [if_neg q, Nat.zero_mul]
        have z : ((List.range cs.length).map fun f => if 0 < cs.getD f 0 then mult (dec cs f) else 0) = (List.range cs.length).map fun _ => 0 := by
          refine List.map_congr_left fun f hf => ?_
          rw [if_neg]
          intro w
          have := sum_dec w
          omega
        rw [z]
        have zs : ∀ l : List Nat, (l.map fun _ => 0).sum = 0 := by
          intro l
          induction l with
          | nil => rfl
          | cons x l ih => rw [List.map_cons, List.sum_cons, ih]
        rw [zs, Nat.mul_zero]
    rw [e0, e1, ← Nat.add_mul, pascal c cs.sum h]
    rfl
def arr : Nat → List Nat → List (List Nat)
  | 0, _ => [[]]
  | k + 1, cs => (List.range cs.length).flatMap fun f => if 0 < cs.getD f 0 then (arr k (dec cs f)).map (f :: ·) else []
theorem dec_len {cs : List Nat} {f : Nat} : (dec cs f).length = cs.length := List.length_set
theorem arr_len : ∀ (k : Nat) (cs : List Nat), cs.sum = k → (arr k cs).length = mult cs
  | 0, cs, h => by
    have z : ∀ cs : List Nat, cs.sum = 0 → mult cs = 1 := by
      intro cs
      induction cs with
      | nil => intro _; rfl
      | cons c cs ih =>
        intro h
        rw [List.sum_cons] at h
        have h1 : c = 0 := by omega
        subst h1
        show ch (0 + cs.sum) 0 * mult cs = 1
        rw [ih (by omega), ch_zero]
    rw [z cs h]; rfl
  | k + 1, cs, h => by
    show ((List.range cs.length).flatMap _).length = _
    rw [List.length_flatMap, ← mult_sum cs (by omega)]
    congr 1
    refine List.map_congr_left fun f hf => ?_
    by_cases q : 0 < cs.getD f 0
    · rw [if_pos q, if_pos q, List.length_map, arr_len k (dec cs f) (by have := sum_dec q; omega)]
    · rw [if_neg q, if_neg q]; rfl
end LA
namespace LA
def Desc (l : List Nat) : Prop := l.Pairwise fun a b => b ≤ a
/-- t is the next one behind s -/
def Nx (s t : List Nat) : Prop := ∃ A x D1 y D2, s = A ++ x :: (D1 ++ y :: D2) ∧ t = A ++ y :: (D1 ++ x :: D2).reverse ∧ Desc (D1 ++ y :: D2) ∧ x < y ∧ ∀ d ∈ D2, d ≤ x
theorem Nx.cons {s t : List Nat} (a : Nat) : Nx s t → Nx (a :: s) (a :: t)
  | ⟨A, x, D1, y, D2, e1, e2, h⟩ => ⟨a :: A, x, D1, y, D2, by rw [e1]; rfl, by rw [e2]; rfl, h⟩
/-- a chain -/
def Ch {α : Type} (R : α → α → Prop) : List α → Prop
  | [] => True
  | [_] => True
  | a :: b :: l => R a b ∧ Ch R (b :: l)
theorem Ch.app {α : Type} {R : α → α → Prop} : ∀ {l m : List α}, Ch R l → Ch R m → (∀ a ∈ l.getLast?, ∀ b ∈ m.head?, R a b) → Ch R (l ++ m)
  | [], m, _, h, _ => h
  | [a], [], _, _, _ => trivial
  | [a], b :: m, _, h, g => ⟨g a rfl b rfl, h⟩
  | a :: b :: l, m, ⟨h1, h2⟩, h, g => ⟨h1, Ch.app (l := b :: l) h2 h fun x hx y hy => g x (by rw [List.getLast?_cons_cons]; exact hx) y hy⟩
theorem Ch.map {α β : Type} {R : α → α → Prop} {S : β → β → Prop} {f : α → β} (h : ∀ a b, R a b → S (f a) (f b)) : ∀ {l : List α}, Ch R l → Ch S (l.map f)
  | [], _ => trivial
  | [a], _ => trivial
  | a :: b :: l, ⟨h1, h2⟩ => ⟨h a b h1, Ch.map h (l := b :: l) h2⟩
def ex : Nat → List Nat → List Nat
  | _, [] => []
  | o, c :: cs => List.replicate c o ++ ex (o + 1) cs
theorem ex_len : ∀ (o : Nat) (cs : List Nat), (ex o cs).length = cs.sum
  | _, [] => rfl
  | o, c :: cs => by
    show (List.replicate c o ++ ex (o + 1) cs).length = _
    rw [List.length_append, List.length_replicate, ex_len, List.sum_cons]
theorem ex_ge : ∀ {o : Nat} {cs : List Nat} {x : Nat}, x ∈ ex o cs → o ≤ x
  | _, [], _, h => nomatch h
  | o, c :: cs, x, h => by
    rcases List.mem_append.mp h with z | z
    · have := (List.mem_replicate.mp z).2; omega
    · have := ex_ge z; omega
theorem ex_asc : ∀ (o : Nat) (cs : List Nat), (ex o cs).Pairwise fun a b => a ≤ b
  | _, [] => .nil
  | o, c :: cs => by
    refine List.pairwise_append.mpr ⟨?_, ex_asc (o + 1) cs, fun a ha b hb => ?_⟩
    · exact List.pairwise_replicate.mpr (.inr (Nat.le_refl _))
    · have := (List.mem_replicate.mp ha).2
      have := ex_ge hb
      omega
theorem ex_mem : ∀ {o : Nat} {cs : List Nat} {x : Nat}, x ∈ ex o cs ↔ o ≤ x ∧ 0 < cs.getD (x - o) 0
  | o, [], x => by
    constructor
    · exact fun z => nomatch z
    · rintro ⟨_, h⟩; simp at h
  | o, c :: cs, x => by
    show x ∈ List.replicate c o ++ ex (o + 1) cs ↔ _
    rw [List.mem_append, List.mem_replicate, ex_mem]
    constructor
    · rintro (⟨h1, rfl⟩ | ⟨h1, h2⟩)
      · refine ⟨Nat.le_refl _, ?_⟩
        rw [Nat.sub_self]
        show 0 < c
        omega
      · refine ⟨by omega, ?_⟩
        have e : x - o = (x - (o + 1)) + 1 := by omega
        rw [e]; exact h2
    · rintro ⟨h1, h2⟩
      by_cases q : x = o
      · subst q
        rw [Nat.sub_self] at h2
        have h2 : 0 < c := h2
        exact .inl ⟨by omega, rfl⟩
      · refine .inr ⟨by omega, ?_⟩
        have e : x - o = (x - (o + 1)) + 1 := by omega
        rw [e] at h2; exact h2
theorem ex_dec : ∀ {o : Nat} {cs : List Nat} {f : Nat}, 0 < cs.getD f 0 → ((o + f) :: ex o (dec cs f)).Perm (ex o cs)
  | o, [], f, h => by simp at h
  | o, c :: cs, 0, h => by
    have h : 0 < c := h
    obtain ⟨c', rfl⟩ : ∃ c', c = c' + 1 := ⟨c - 1, by omega⟩
    exact .refl _
  | o, c :: cs, f + 1, h => by
    have ih := ex_dec (o := o + 1) (cs := cs) (f := f) h
    show ((o + (f + 1)) :: (List.replicate c o ++ ex (o + 1) (dec cs f))).Perm (List.replicate c o ++ ex (o + 1) cs)
    have e : o + (f + 1) = o + 1 + f := by omega
    rw [e]
    exact (List.perm_middle.symm).trans (List.Perm.append_left _ ih)
def asc (cs : List Nat) : List Nat := ex 0 cs
theorem asc_dec {cs : List Nat} {f : Nat} (h : 0 < cs.getD f 0) : (f :: asc (dec cs f)).Perm (asc cs) := by
  have := ex_dec (o := 0) h
  rwa [Nat.zero_add] at this
theorem asc_mem {cs : List Nat} {x : Nat} : x ∈ asc cs ↔ 0 < cs.getD x 0 := by
  unfold asc
  rw [ex_mem, Nat.sub_zero]
  exact ⟨fun h => h.2, fun h => ⟨Nat.zero_le _, h⟩⟩
theorem desc_rev {l : List Nat} (h : l.Pairwise fun a b => a ≤ b) : Desc l.reverse := List.pairwise_reverse.mpr h
theorem one_desc : ∀ {l m : List Nat}, l.Perm m → Desc l → Desc m → l = m
  | [], m, p, _, _ => (List.Perm.nil_eq p)
  | a :: l, [], p, _, _ => absurd p.length_eq (by simp)
  | a :: l, b :: m, p, h, g => by
    have h1 := List.pairwise_cons.mp h
    have g1 := List.pairwise_cons.mp g
    have e : a = b := by
      have ma := p.mem_iff.mp (List.mem_cons_self ..)
      have mb := p.mem_iff.mpr (List.mem_cons_self ..)
      rcases List.mem_cons.mp ma with z | z
      · exact z
      · rcases List.mem_cons.mp mb with w | w
        · exact w.symm
        · have := g1.1 a z
          have := h1.1 b w
          omega
    subst e
    rw [one_desc (List.Perm.cons_inv p) h1.2 g1.2]
theorem desc_split {g f : Nat} (hfg : f < g) : ∀ {D : List Nat}, Desc D → (∀ d ∈ D, d ≤ f ∨ g ≤ d) → g ∈ D → ∃ D1 D2, D = D1 ++ g :: D2 ∧ (∀ d ∈ D1, g ≤ d) ∧ ∀ d ∈ D2, d ≤ f
  | [], _, _, h => nomatch h
  | a :: D, hd, hs, hm => by
    have h1 := List.pairwise_cons.mp hd
    by_cases q : g ∈ D
    · obtain ⟨D1, D2, e, e1, e2⟩ := desc_split hfg h1.2 (fun d z => hs d (List.mem_cons_of_mem _ z)) q
      refine ⟨a :: D1, D2, by rw [e]; rfl, fun d z => ?_, e2⟩
      rcases List.mem_cons.mp z with rfl | z
      · exact h1.1 g q
      · exact e1 d z
    · have e : a = g := by
        rcases List.mem_cons.mp hm with z | z
        · exact z.symm
        · exact absurd z q
      subst e
      refine ⟨[], D, rfl, (fun _ z => nomatch z), fun d z => ?_⟩
      rcases hs d (List.mem_cons_of_mem _ z) with w | w
      · exact w
      · have := h1.1 d z
        have : d = a := by omega
        subst this
        exact absurd z q
/-- from the last one with a floor in front to the first one with the next floor in front -/
theorem nx_block {cs : List Nat} {f g : Nat} (hf : 0 < cs.getD f 0) (hg : 0 < cs.getD g 0) (hfg : f < g) (no : ∀ h, f < h → h < g → cs.getD h 0 = 0) : Nx (f :: (asc (dec cs f)).reverse) (g :: asc (dec cs g)) := by
  have hD : Desc (asc (dec cs f)).reverse := desc_rev (ex_asc 0 _)
  have sub : ∀ d ∈ (asc (dec cs f)).reverse, d ≤ f ∨ g ≤ d := fun d hd => by
    have : d ∈ asc cs := (asc_dec hf).mem_iff.mp (List.mem_cons_of_mem _ (List.mem_reverse.mp hd))
    have := asc_mem.mp this
    by_cases q1 : d ≤ f
    · exact .inl q1
    · by_cases q2 : g ≤ d
      · exact .inr q2
      · rw [no d (by omega) (by omega)] at this; omega
  have hm : g ∈ (asc (dec cs f)).reverse := by
    have : g ∈ f :: asc (dec cs f) := (asc_dec hf).mem_iff.mpr (asc_mem.mpr hg)
    rcases List.mem_cons.mp this with z | z
    · omega
    · exact List.mem_reverse.mpr z
  obtain ⟨D1, D2, e, h1, h2⟩ := desc_split hfg hD sub hm
  refine ⟨[], f, D1, g, D2, by rw [e]; rfl, ?_, by rw [← e]; exact hD, hfg, h2⟩
  show g :: asc (dec cs g) = g :: (D1 ++ f :: D2).reverse
  congr 1
  have hd2 : Desc (D1 ++ f :: D2) := by
    rw [e] at hD
    obtain ⟨a, b, c⟩ := List.pairwise_append.mp hD
    have b' := List.pairwise_cons.mp b
    refine List.pairwise_append.mpr ⟨a, List.pairwise_cons.mpr ⟨fun d z => h2 d z, b'.2⟩, fun x hx y hy => ?_⟩
    rcases List.mem_cons.mp hy with rfl | z
    · have := h1 x hx; omega
    · exact c x hx y (List.mem_cons_of_mem _ z)
  have p1 : (D1 ++ f :: D2).Perm (asc (dec cs g)) := by
    refine List.Perm.cons_inv (a := g) ?_
    refine List.Perm.trans ?_ (asc_dec hg).symm
    refine List.Perm.trans ?_ (asc_dec hf)
    have q1 : (f :: asc (dec cs f)).Perm (f :: (D1 ++ g :: D2)) := List.Perm.cons _ (by rw [← e]; exact (List.reverse_perm _).symm)
    refine List.Perm.trans ?_ q1.symm
    exact ((List.Perm.cons g List.perm_middle).trans (List.Perm.swap ..)).trans (List.Perm.cons f List.perm_middle.symm)
  have := one_desc (p1.trans (List.reverse_perm _).symm) hd2 (desc_rev (ex_asc 0 _))
  rw [this, List.reverse_reverse]
def blk (k : Nat) (cs : List Nat) (f : Nat) : List (List Nat) := if 0 < cs.getD f 0 then (arr k (dec cs f)).map (f :: ·) else []
theorem arr_succ {k : Nat} {cs : List Nat} : arr (k + 1) cs = (List.range cs.length).flatMap (blk k cs) := rfl
structure Good (k : Nat) (cs : List Nat) : Prop where
  hd : (arr k cs).head? = some (asc cs)
  lt : (arr k cs).getLast? = some (asc cs).reverse
  ch : Ch Nx (arr k cs)
theorem good_floors {k : Nat} {cs : List Nat} (ih : ∀ f, 0 < cs.getD f 0 → Good k (dec cs f)) : ∀ (m i : Nat), i + m = cs.length → (∃ f, i ≤ f ∧ f < cs.length ∧ 0 < cs.getD f 0) →
    ∃ a b, i ≤ a ∧ 0 < cs.getD a 0 ∧ (∀ h, i ≤ h → h < a → cs.getD h 0 = 0) ∧ ((List.range' i m).flatMap (blk k cs)).head? = some (a :: asc (dec cs a)) ∧
      0 < cs.getD b 0 ∧ (∀ h, b < h → cs.getD h 0 = 0) ∧ ((List.range' i m).flatMap (blk k cs)).getLast? = some (b :: (asc (dec cs b)).reverse) ∧ Ch Nx ((List.range' i m).flatMap (blk k cs))
  | 0, i, h, ⟨f, h1, h2, _⟩ => by omega
  | m + 1, i, h, he => by
    have e0 : (List.range' i (m + 1)).flatMap (blk k cs) = blk k cs i ++ (List.range' (i + 1) m).flatMap (blk k cs) := by
      rw [List.range'_succ, List.flatMap_cons]
    rw [e0]
    by_cases q : 0 < cs.getD i 0
    · have G := ih i q
      have eb : blk k cs i = (arr k (dec cs i)).map (i :: ·) := if_pos q
      have bh : (blk k cs i).head? = some (i :: asc (dec cs i)) := by rw [eb, List.head?_map, G.hd]; rfl
      have bl : (blk k cs i).getLast? = some (i :: (asc (dec cs i)).reverse) := by rw [eb, List.getLast?_map, G.lt]; rfl
      have bc : Ch Nx (blk k cs i) := by rw [eb]; exact Ch.map (fun a b h => h.cons i) G.ch
      by_cases r : ∃ f, i + 1 ≤ f ∧ f < cs.length ∧ 0 < cs.getD f 0
      · obtain ⟨a, b, a1, a2, a3, a4, b1, b2, b3, c1⟩ := good_floors ih m (i + 1) (by omega) r
        refine ⟨i, b, Nat.le_refl _, q, fun h z1 z2 => by omega, ?_, b1, b2, ?_, ?_⟩
        · rw [List.head?_append, bh]; rfl
        · rw [List.getLast?_append, b3]; rfl
        · refine bc.app c1 fun x hx y hy => ?_
          rw [bl] at hx
          rw [a4] at hy
          cases hx
          cases hy
          exact nx_block q a2 (by omega) fun h z1 z2 => a3 h (by omega) z2
      · have nil : (List.range' (i + 1) m).flatMap (blk k cs) = [] := by
          refine List.flatMap_eq_nil_iff.mpr fun f hf => ?_
          have := List.mem_range'_1.mp hf
          exact if_neg fun z => r ⟨f, by omega, by omega, z⟩
        rw [nil, List.append_nil]
        refine ⟨i, i, Nat.le_refl _, q, fun h z1 z2 => by omega, bh, q, fun h z => ?_, bl, bc⟩
        by_cases w : h < cs.length
        · by_cases u : 0 < cs.getD h 0
          · exact absurd ⟨h, by omega, w, u⟩ r
          · omega
        · rw [List.getD_eq_getElem?_getD, List.getElem?_eq_none (by omega)]; rfl
    · have eb : blk k cs i = [] := if_neg q
      rw [eb, List.nil_append]
      obtain ⟨f, f1, f2, f3⟩ := he
      have : f ≠ i := fun z => q (by rw [← z]; exact f3)
      obtain ⟨a, b, a1, a2, a3, a4, b1, b2, b3, c1⟩ := good_floors ih m (i + 1) (by omega) ⟨f, by omega, f2, f3⟩
      refine ⟨a, b, by omega, a2, fun h z1 z2 => ?_, a4, b1, b2, b3, c1⟩
      by_cases u : h = i
      · subst u; omega
      · exact a3 h (by omega) z2
theorem asc_first {cs : List Nat} {a : Nat} (ha : 0 < cs.getD a 0) (h : ∀ f, f < a → cs.getD f 0 = 0) : asc cs = a :: asc (dec cs a) := by
  have p := asc_dec ha
  have d1 : Desc (asc cs).reverse := desc_rev (ex_asc 0 _)
  have d2 : Desc (a :: asc (dec cs a)).reverse := by
    refine desc_rev (List.pairwise_cons.mpr ⟨fun b hb => ?_, ex_asc 0 _⟩)
    have := asc_mem.mp (p.mem_iff.mp (List.mem_cons_of_mem _ hb))
    by_cases q : a ≤ b
    · exact q
    · rw [h b (by omega)] at this; omega
  have := one_desc (((List.reverse_perm _).trans p.symm).trans (List.reverse_perm _).symm) d1 d2
  have := congrArg List.reverse this
  rwa [List.reverse_reverse, List.reverse_reverse] at this
theorem asc_last {cs : List Nat} {b : Nat} (hb : 0 < cs.getD b 0) (h : ∀ f, b < f → cs.getD f 0 = 0) : (asc cs).reverse = b :: (asc (dec cs b)).reverse := by
  have p := asc_dec hb
  refine one_desc (((List.reverse_perm _).trans p.symm).trans (List.Perm.cons _ (List.reverse_perm _).symm)) (desc_rev (ex_asc 0 _)) (List.pairwise_cons.mpr ⟨fun x hx => ?_, desc_rev (ex_asc 0 _)⟩)
  have := asc_mem.mp (p.mem_iff.mp (List.mem_cons_of_mem _ (List.mem_reverse.mp hx)))
  by_cases q : x ≤ b
  · exact q
  · rw [h x (by omega)] at this; omega
theorem good : ∀ (k : Nat) (cs : List Nat), cs.sum = k → Good k cs
  | 0, cs, h => by
    have e : asc cs = [] := List.eq_nil_of_length_eq_zero (by unfold asc; rw [ex_len, h])
    refine ⟨?_, ?_, trivial⟩
    · rw [e]; rfl
    · rw [e]; rfl
  | k + 1, cs, h => by
    have some_f : ∃ f, 0 ≤ f ∧ f < cs.length ∧ 0 < cs.getD f 0 := by
      have ne : asc cs ≠ [] := fun z => by
        have := congrArg List.length z
        unfold asc at this
        rw [ex_len, h] at this
        simp at this
      obtain ⟨f, hf⟩ := List.exists_mem_of_ne_nil _ ne
      have hf := asc_mem.mp hf
      refine ⟨f, Nat.zero_le _, ?_, hf⟩
      by_cases w : f < cs.length
      · exact w
      · rw [List.getD_eq_getElem?_getD, List.getElem?_eq_none (by omega)] at hf
        exact absurd hf (Nat.lt_irrefl 0)
    obtain ⟨a, b, _, a2, a3, a4, b1, b2, b3, c1⟩ := good_floors (k := k) (fun f hf => good k (dec cs f) (by have := sum_dec hf; omega)) cs.length 0 (by omega) some_f
    rw [← List.range_eq_range'] at a4 b3 c1
    refine ⟨?_, ?_, c1⟩
    · rw [asc_first a2 fun f hf => a3 f (Nat.zero_le _) hf]; exact a4
    · rw [asc_last b1 b2]; exact b3
end LA
namespace K01
open PySem L2 DL LW LA
theorem at_nats {s : List Nat} {k v : Nat} (h : s[k]? = some v) : atI (nats s) (k : Int) = some (.int ((v : Nat) : Int)) := by
  have e : (nats s)[k]? = some (.int ((v : Nat) : Int)) := by
    unfold nats
    rw [List.getElem?_map, h]; rfl
  obtain ⟨hk, e2⟩ := List.getElem?_eq_some_iff.mp e
  rw [at_nat hk, e2]
def W1 (s : List Nat) (i : Nat) (ρ : DL.Env) : Prop := ρ = [.cl (.tuple (nats s)), .cl (.int ((s.length : Int) - 2 - i)), .no, .no]
theorem nats_len (s : List Nat) : (nats s).length = s.length := by unfold nats; rw [List.length_map]
theorem after_desc {s : List Nat} (hs : s.length ≤ 1000) (h : Desc s) : F_state_after [.tuple (nats s)] = some (.cl .none) := by
  unfold F_state_after g_state_after
  rw [e_runP]
  simp [argE, nats_len]
  refine use_while (P := fun x => kPu (kSq x _) = some (.cl .none)) (W1 s) (fun ρ => ∃ a : Int, a < 0 ∧ ρ = [.cl (.tuple (nats s)), .cl (.int a), .no, .no]) s.length (by omega) (show W1 s 0 _ by unfold W1; simp) ?_ ?_
  · rintro i ρ rfl
    by_cases q : (0 : Int) ≤ (s.length : Int) - 2 - i
    · obtain ⟨k, hk⟩ : ∃ k : Nat, (s.length : Int) - 2 - i = k := ⟨((s.length : Int) - 2 - i).toNat, by omega⟩
      have h1 : k < s.length := by omega
      have h2 : k + 1 < s.length := by omega
      have a1 := at_nats (List.getElem?_eq_getElem h1)
      have a2 := at_nats (List.getElem?_eq_getElem h2)
      rw [show ((k + 1 : Nat) : Int) = (k : Int) + 1 by omega] at a2
      have le : s[k + 1] ≤ s[k] := List.pairwise_iff_getElem.mp h k (k + 1) h1 h2 (by omega)
      have le2 : ((s[k + 1] : Nat) : Int) ≤ (s[k] : Nat) := by omega
      refine .inr ⟨by omega, [.cl (.tuple (nats s)), .cl (.int (k : Int)), .no, .no], ?_, ?_⟩
      · rw [hk]
        simp [a1, a2, le]
      · simp
        exact turns_nx (by unfold W1; rw [← hk]; congr 4; omega)
    · refine .inl ⟨[.cl (.tuple (nats s)), .cl (.int ((s.length : Int) - 2 - i)), .no, .no], ?_, _, by omega, rfl⟩
      simp [q]
      intro z
      exact absurd (by omega) q
  · rintro ρ' ⟨a, ha, rfl⟩
    simp [ha]
end K01
namespace K01
open PySem L2 DL LW LA
def W2 (s : List Nat) (a : Nat) (i : Nat) (ρ : DL.Env) : Prop := ρ = [.cl (.tuple (nats s)), .cl (.int (a : Nat)), .cl (.int ((s.length : Int) - 1 - i)), .no]
theorem nats_app (a b : List Nat) : nats a ++ nats b = nats (a ++ b) := by unfold nats; rw [List.map_append]
theorem after_nx {s t : List Nat} (hs : s.length ≤ 1000) (h : Nx s t) : F_state_after [.tuple (nats s)] = some (.cl (.tuple (nats t))) := by
  obtain ⟨A, x, D1, y, D2, e1, e2, hd, hxy, hle⟩ := h
  have ls : s.length = A.length + 1 + D1.length + 1 + D2.length := by rw [e1]; simp; omega
  have hx : s[A.length]? = some x := by rw [e1]; simp
  have hD : ∀ k, s[A.length + 1 + k]? = (D1 ++ y :: D2)[k]? := fun k => by
    rw [e1, List.getElem?_append_right (by omega)]
    rw [show A.length + 1 + k - A.length = k + 1 by omega, List.getElem?_cons_succ]
  have hy : s[A.length + 1 + D1.length]? = some y := by rw [hD]; simp
  have ax := at_nats hx
  have ay := at_nats hy
  have dl : (D1 ++ y :: D2).length = D1.length + 1 + D2.length := by simp; omega
  -- the greatest of what comes behind
  have h0 : ∃ v, s[A.length + 1]? = some v ∧ x < v := by
    have : 0 < (D1 ++ y :: D2).length := by omega
    refine ⟨(D1 ++ y :: D2)[0], by have := hD 0; rw [Nat.add_zero] at this; rw [this]; exact List.getElem?_eq_getElem _, ?_⟩
    cases D1 with
    | nil => exact hxy
    | cons z D1 =>
      have := (List.pairwise_cons.mp hd).1 y (by simp)
      show x < z
      omega
  obtain ⟨v0, hv0, lv0⟩ := h0
  have av0 := at_nats hv0
  have u1 : (s.set A.length y).set (A.length + 1 + D1.length) x = A ++ y :: (D1 ++ x :: D2) := by
    rw [e1]
    simp [List.set_append]
    rw [show A.length + 1 + D1.length - A.length = D1.length + 1 by omega]
    simp [List.set_append]
    omega
  have nset : ∀ (l : List Nat) (k v : Nat), (nats l).set k (.int ((v : Nat) : Int)) = nats (l.set k v) := fun l k v => by
    unfold nats; rw [List.map_set]
  unfold F_state_after g_state_after
  rw [e_runP]
  simp [argE, nats_len]
  refine use_while (P := fun z => kPu (kSq z _) = some (.cl (.tuple (nats t)))) (fun i ρ => W1 s i ρ ∧ i ≤ D1.length + D2.length) (fun ρ => ρ = [.cl (.tuple (nats s)), .cl (.int (A.length : Nat)), .no, .no]) (D1.length + D2.length) (by omega) ⟨show W1 s 0 _ by unfold W1; simp, by omega⟩ ?_ ?_
  · rintro i ρ ⟨rfl, hi⟩
    have hk : (s.length : Int) - 2 - i = ((A.length + (D1.length + D2.length - i) : Nat) : Int) := by omega
    by_cases q : i < D1.length + D2.length
    · obtain ⟨k, hk2⟩ : ∃ k, D1.length + D2.length - i = k + 1 := ⟨D1.length + D2.length - i - 1, by omega⟩
      have b1 : k + 1 < (D1 ++ y :: D2).length := by omega
      have b0 : k < (D1 ++ y :: D2).length := by omega
      have g1 : s[A.length + (k + 1)]? = some (D1 ++ y :: D2)[k] := by rw [show A.length + (k + 1) = A.length + 1 + k by omega, hD]; exact List.getElem?_eq_getElem b0
      have g2 : s[A.length + (k + 1) + 1]? = some (D1 ++ y :: D2)[k + 1] := by rw [show A.length + (k + 1) + 1 = A.length + 1 + (k + 1) by omega, hD]; exact List.getElem?_eq_getElem b1
      have a1 := at_nats g1
      have a2 := at_nats g2
      have le : (D1 ++ y :: D2)[k + 1] ≤ (D1 ++ y :: D2)[k] := List.pairwise_iff_getElem.mp hd k (k + 1) b0 b1 (by omega)
      generalize (D1 ++ y :: D2)[k + 1] = w1 at *
      generalize (D1 ++ y :: D2)[k] = w0 at *
      rw [hk2] at hk
      obtain ⟨m, hm⟩ : ∃ m, m = A.length + (k + 1) := ⟨_, rfl⟩
      rw [← hm] at hk a1 a2
      rw [show ((m + 1 : Nat) : Int) = (m : Int) + 1 by omega] at a2
      refine .inr ⟨q, [.cl (.tuple (nats s)), .cl (.int (m : Int)), .no, .no], ?_, ?_⟩
      · rw [hk]
        simp [a1, a2, le]
      · simp
        exact turns_nx ⟨by unfold W1; rw [← hk]; congr 4; omega, by omega⟩
    · have hi2 : D1.length + D2.length - i = 0 := by omega
      rw [hi2, Nat.add_zero] at hk
      have av0' := av0
      rw [show ((A.length + 1 : Nat) : Int) = (A.length : Int) + 1 by omega] at av0'
      refine .inl ⟨[.cl (.tuple (nats s)), .cl (.int (A.length : Nat)), .no, .no], ?_, rfl⟩
      rw [hk]
      have nle : ¬ v0 ≤ x := by omega
      simp [ax, av0', nle]
  · rintro ρ' rfl
    have nn : ¬ ((A.length : Nat) : Int) < 0 := by omega
    simp [nn, nats_len]
    refine use_while (P := fun z => kPu (kSq z _) = some (.cl (.tuple (nats t)))) (fun i ρ => W2 s A.length i ρ ∧ i ≤ D2.length) (fun ρ => ρ = [.cl (.tuple (nats s)), .cl (.int (A.length : Nat)), .cl (.int ((A.length + 1 + D1.length : Nat) : Int)), .no]) D2.length (by omega) ⟨show W2 s A.length 0 _ by unfold W2; simp, by omega⟩ ?_ ?_
    · rintro i ρ ⟨rfl, hi⟩
      by_cases q : i < D2.length
      · obtain ⟨m, hm⟩ : ∃ m, m = D2.length - 1 - i := ⟨_, rfl⟩
        have g1 : s[A.length + 1 + (D1.length + 1 + m)]? = some D2[m] := by
          rw [hD, List.getElem?_append_right (by omega)]
          rw [show D1.length + 1 + m - D1.length = m + 1 by omega, List.getElem?_cons_succ]
          exact List.getElem?_eq_getElem _
        have a1 := at_nats g1
        have le := hle D2[m] (List.getElem_mem _)
        have hk : (s.length : Int) - 1 - i = ((A.length + 1 + (D1.length + 1 + m) : Nat) : Int) := by omega
        generalize D2[m] = w0 at *
        generalize A.length + 1 + (D1.length + 1 + m) = mm at *
        refine .inr ⟨q, [.cl (.tuple (nats s)), .cl (.int (A.length : Nat)), .cl (.int (mm : Int)), .no], ?_, ?_⟩
        · rw [hk]
          simp [a1, ax, le]
        · simp
          exact turns_nx ⟨by unfold W2; rw [← hk]; congr 5; omega, by omega⟩
      · have hk : (s.length : Int) - 1 - i = ((A.length + 1 + D1.length : Nat) : Int) := by omega
        refine .inl ⟨[.cl (.tuple (nats s)), .cl (.int (A.length : Nat)), .cl (.int ((A.length + 1 + D1.length : Nat) : Int)), .no], ?_, rfl⟩
        rw [hk]
        have nle : ¬ y ≤ x := by omega
        generalize A.length + 1 + D1.length = mm at *
        simp [ay, ax, nle]
    · rintro ρ' rfl
      have i1 : ixN s.length ((A.length : Nat) : Int) = some A.length := ixN_nat rfl (by omega)
      have i2 : ixN s.length ((A.length + 1 + D1.length : Nat) : Int) = some (A.length + 1 + D1.length) := ixN_nat rfl (by omega)
      generalize hmm : A.length + 1 + D1.length = mm at *
      obtain ⟨u, hu⟩ : ∃ u, u = A ++ y :: (D1 ++ x :: D2) := ⟨_, rfl⟩
      rw [← hu] at u1
      have both : itemBoth [.cl (.tuple (nats s)), .cl (.int (A.length : Nat)), .cl (.int (mm : Int)), .op (nats s)] 3 1 3 2 (.int y) (.int x) = some (.nx [.cl (.tuple (nats s)), .cl (.int (A.length : Nat)), .cl (.int (mm : Int)), .op (nats u)]) := by
        have q1 : itemSt [.cl (.tuple (nats s)), .cl (.int (A.length : Nat)), .cl (.int (mm : Int)), .op (nats s)] 3 1 (.int y) = some (.nx [.cl (.tuple (nats s)), .cl (.int (A.length : Nat)), .cl (.int (mm : Int)), .op (nats (s.set A.length y))]) := by
          show ((ixN (nats s).length ((A.length : Nat) : Int)).bind fun m => some (Out.nx (opSet _ 3 _ ((nats s).set m (.int y))))) = _
          rw [nats_len, i1, Option.bind_some, nset]
          rfl
        have q2 : itemSt [.cl (.tuple (nats s)), .cl (.int (A.length : Nat)), .cl (.int (mm : Int)), .op (nats (s.set A.length y))] 3 2 (.int x) = some (.nx [.cl (.tuple (nats s)), .cl (.int (A.length : Nat)), .cl (.int (mm : Int)), .op (nats u)]) := by
          show ((ixN (nats (s.set A.length y)).length ((mm : Nat) : Int)).bind fun m => some (Out.nx (opSet _ 3 _ ((nats (s.set A.length y)).set m (.int x))))) = _
          rw [nats_len, List.length_set, i2, Option.bind_some, nset, u1]
          rfl
        unfold itemBoth
        rw [q1]
        exact q2
      have down : downD (varD 3) (aP (varD 1)) [.cl (.tuple (nats s)), .cl (.int (A.length : Nat)), .cl (.int (mm : Int)), .op (nats u)] = some (.own (nats (D1 ++ x :: D2).reverse), [.cl (.tuple (nats s)), .cl (.int (A.length : Nat)), .cl (.int (mm : Int)), .op (nats u)]) := by
        have f1 : varD 3 [.cl (.tuple (nats s)), .cl (.int (A.length : Nat)), .cl (.int (mm : Int)), .op (nats u)] = some (.sl 3, [.cl (.tuple (nats s)), .cl (.int (A.length : Nat)), .cl (.int (mm : Int)), .op (nats u)]) := rfl
        have f2 : aP (varD 1) [.cl (.tuple (nats s)), .cl (.int (A.length : Nat)), .cl (.int (mm : Int)), .op (nats u)] = some (some ((A.length : Nat) : Int), [.cl (.tuple (nats s)), .cl (.int (A.length : Nat)), .cl (.int (mm : Int)), .op (nats u)]) := rfl
        unfold downD
        rw [f1]
        simp only [Option.bind_some]
        rw [f2]
        simp only [Option.bind_some]
        rw [if_pos (by omega)]
        have e3 : ((nats u).drop (A.length + 1)).reverse = nats (D1 ++ x :: D2).reverse := by
          unfold nats
          rw [hu, ← List.map_drop, List.map_reverse]
          congr 2
          rw [List.drop_append]
          simp
        show some (Val.own ((nats u).drop (A.length + 1)).reverse, _) = _
        rw [e3]
      have cut : cutD (nats u) none (some ((A.length : Int) + 1)) = nats (A ++ [y]) := by
        rw [show ((A.length : Int) + 1) = ((A.length + 1 : Nat) : Int) by omega, cut_to (by rw [nats_len, hu]; simp)]
        unfold nats
        rw [hu, ← List.map_take]
        congr 1
        rw [List.take_append]
        simp
        exact List.take_of_length_le (by omega)
      have ad : ∀ {ρ : DL.Env}, addG ρ (.own (nats (A ++ [y]))) (.own (nats (D2.reverse ++ x :: D1.reverse))) = some (.own (nats t), ρ) := fun {ρ} => by
        rw [e_addO (by rw [nats_len, nats_len]; simp; omega), nats_app, e2]
        simp
      simp [ay, ax, both, down, cut, nats_len, ad]
end K01
namespace LW
open PySem L2 DL
section
variable {n F : Nat} {V s : Nat → Int}
def othL (n : Nat) (s : Nat → Int) (x : Nat) (f : Nat) : List Nat := (List.range n).filter fun k => decide (s k = (f : Int)) && decide (k ≠ x)
theorem things_on_ok (hn : n ≤ 900) (f : Nat) : F_things_on [house n F V, .tuple (iv n s), .int (f : Nat)] = some (.cl (.tuple (nats ((List.range n).filter fun k => decide (s k = (f : Int)))))) := by
  unfold F_things_on g_things_on house
  rw [e_runP]
  have h1 : (-1000000 : Int) ≤ n ∧ (n : Int) ≤ 1000000 := by omega
  simp [argE, h1.1, h1.2]
  rw [rng_gl, lc_glf (fun k => if decide (s k = (f : Int)) = true then some (.int (k : Nat)) else none) (by simp) (by omega) (by simp) (by
    intro k hk
    have a1 : atI (iv n s) (k : Int) = some (.int (s k)) := iv_at1 hk rfl
    by_cases q : s k = (f : Int)
    · simp [a1, q]
    · simp [a1, q]), fm_filter]
  simp [nats]
end
end LW
namespace LW
open PySem L2 DL
end LW
namespace LW
open PySem L2 DL
end LW
namespace LW
open PySem L2 DL
end LW
namespace LW
open PySem L2 DL
end LW
namespace LW
open PySem L2 DL
end LW
namespace LW
open PySem L2 DL
section
variable {n F : Nat} {V s : Nat → Int} {x : Nat} {ds : List Nat}
def moveD (w : Str) (x : Nat) (ds : List Nat) : PyData := .tuple [.str w, .int (x : Nat), .tuple (nats ds)]
end
end LW
namespace DL
open PySem L2
section
variable {ρ : DL.Env} {tg : GD} {g h body : SE} {fi : ID} {d : PyData} {l ds : List PyData}
def kSee (x : Option (Out ⊕ Int)) (h : SE) : Option (Out ⊕ Int) := x.bind fun o => match o with
  | .inl (.nx ρ') => h ρ'
  | o => some o
@[simp] theorem e_seqEE : seqEE g h ρ = kSee (g ρ) h := rfl
@[simp] theorem s_SeeN : kSee (some (.inl (.nx ρ))) h = h ρ := rfl
@[simp] theorem s_SeeR {i : Int} : kSee (some (.inr i)) h = some (.inr i) := rfl
def kLe (x : Option (Out ⊕ Int)) (k : DL.Env → Option (Out ⊕ Int)) : Option (Out ⊕ Int) := x.bind fun o => match o with
  | .inl (.nx ρ2) => k ρ2
  | .inl (.ct ρ2) => k ρ2
  | .inl (.bk ρ2) => some (.inl (.nx ρ2))
  | .inl (.rt r ρ2) => some (.inl (.rt r ρ2))
  | .inr i => some (.inr i)
@[simp] theorem s_LeN {k : DL.Env → Option (Out ⊕ Int)} : kLe (some (.inl (.nx ρ))) k = k ρ := rfl
@[simp] theorem s_LeR {k : DL.Env → Option (Out ⊕ Int)} {i : Int} : kLe (some (.inr i)) k = some (.inr i) := rfl
/-- numbered from k on -/
def en : Nat → List PyData → List PyData
  | _, [] => []
  | k, d :: l => .tuple [.int (k : Nat), d] :: en (k + 1) l
theorem en_get : ∀ (l : List PyData) (k i : Nat), (en k l)[i]? = (l[i]?).map fun d => PyData.tuple [.int ((k + i : Nat) : Int), d]
  | [], k, i => by simp [en]
  | d :: l, k, 0 => by simp [en]
  | d :: l, k, i + 1 => by
    have := en_get l (k + 1) i
    simp only [en, List.getElem?_cons_succ, this]
    rw [show k + 1 + i = k + (i + 1) by omega]
theorem enum_en {l : List PyData} : enumD l = en 0 l := by
  apply List.ext_getElem?
  intro i
  rw [en_get]
  unfold enumD
  rw [List.getElem?_mapIdx, Nat.zero_add]
end
end DL
namespace LW
open PySem L2 DL
end LW
namespace LA
/-- the counts that sizes ask for -/
def cnts (n : Nat) : Nat → List Int → List Int → Option (List Nat)
  | _, [], _ => some []
  | a, z :: zs, r :: rs => if (a : Int) ≤ z ∧ z - a ≤ r ∧ z ≤ n then (cnts n z.toNat zs rs).map ((z.toNat - a) :: ·) else none
  | _, _ :: _, [] => none
theorem cnts_ok {n : Nat} : ∀ {a : Nat} {zs rs : List Int} {cs : List Nat}, cnts n a zs rs = some cs → a ≤ n → a + cs.sum ≤ n ∧ cs.length = zs.length ∧ zs.getLastD (a : Int) = ((a + cs.sum : Nat) : Int)
  | a, [], rs, cs, e, ha => by
    have e : some [] = some cs := by simpa [cnts] using e
    cases e
    exact ⟨ha, rfl, rfl⟩
  | a, z :: zs, [], cs, e, ha => by simp [cnts] at e
  | a, z :: zs, r :: rs, cs, e, ha => by
    unfold cnts at e
    split at e
    · rename_i h
      obtain ⟨ds, e1, e2⟩ := Option.map_eq_some_iff.mp e
      subst e2
      obtain ⟨h1, h2, h3⟩ := cnts_ok e1 (by omega)
      refine ⟨by rw [List.sum_cons]; omega, by rw [List.length_cons, List.length_cons, h2], ?_⟩
      rw [List.sum_cons]
      have e3 : (z :: zs).getLastD (a : Int) = zs.getLastD z := by
        cases zs with
        | nil => rfl
        | cons w ws => simp [List.getLastD]
      have e4 : (z.toNat : Int) = z := by omega
      rw [e4] at h3
      rw [e3, h3]
      omega
    · cases e
/-- the differences of the sizes -/
theorem cnts_diff {n : Nat} : ∀ {a : Nat} {zs rs : List Int} {cs : List Nat}, cnts n a zs rs = some cs → (zs.zip ((a : Int) :: zs)).map (fun p => p.1 - p.2) = cs.map fun c => ((c : Nat) : Int)
  | a, [], rs, cs, e => by
    have e : some [] = some cs := by simpa [cnts] using e
    cases e
    rfl
  | a, z :: zs, [], cs, e => by simp [cnts] at e
  | a, z :: zs, r :: rs, cs, e => by
    unfold cnts at e
    split at e
    · rename_i h
      obtain ⟨ds, e1, e2⟩ := Option.map_eq_some_iff.mp e
      subst e2
      have ih := cnts_diff e1
      have e4 : (z.toNat : Int) = z := by omega
      rw [e4] at ih
      rw [List.zip_cons_cons, List.map_cons, List.map_cons, ih]
      congr 1
      show z - (a : Int) = ((z.toNat - a : Nat) : Int)
      omega
    · cases e
def pr : Nat → List Nat → Nat
  | _, [] => 1
  | l, c :: cs => ch l c * pr (l - c) cs
theorem ch_self : ∀ n : Nat, ch n n = 1
  | 0 => rfl
  | n + 1 => by
    show ch n n + ch n (n + 1) = 1
    rw [ch_self n, ch_over n (n + 1) (by omega)]
theorem sum_snoc (cs : List Nat) (k : Nat) : (cs ++ [k]).sum = cs.sum + k := by rw [List.sum_append]; simp
theorem mult_pr : ∀ {cs : List Nat} {l : Nat}, cs.sum ≤ l → mult (cs ++ [l - cs.sum]) = pr l cs
  | [], l, h => by
    show ch (l - 0 + 0) (l - 0) * 1 = 1
    rw [Nat.sub_zero, Nat.add_zero, ch_self]
  | c :: cs, l, h => by
    rw [List.sum_cons] at h
    show ch (c + (cs ++ [l - (c :: cs).sum]).sum) c * mult (cs ++ [l - (c :: cs).sum]) = ch l c * pr (l - c) cs
    have e1 : l - (c :: cs).sum = l - c - cs.sum := by rw [List.sum_cons]; omega
    rw [e1, sum_snoc, mult_pr (by omega)]
    congr 2
    omega
theorem pr_pos : ∀ {cs : List Nat} {l : Nat}, cs.sum ≤ l → 0 < pr l cs
  | [], _, _ => Nat.one_pos
  | c :: cs, l, h => by
    rw [List.sum_cons] at h
    exact Nat.mul_pos (ch_pos l c (by omega)) (pr_pos (by omega))
theorem ex_app : ∀ (o : Nat) (cs : List Nat) (k : Nat), ex o (cs ++ [k]) = ex o cs ++ List.replicate k (o + cs.length)
  | o, [], k => by
    show List.replicate k o ++ [] = [] ++ List.replicate k (o + 0)
    rw [List.append_nil, List.nil_append, Nat.add_zero]
  | o, c :: cs, k => by
    show List.replicate c o ++ ex (o + 1) (cs ++ [k]) = (List.replicate c o ++ ex (o + 1) cs) ++ List.replicate k (o + (cs.length + 1))
    rw [ex_app, List.append_assoc, show o + 1 + cs.length = o + (cs.length + 1) by omega]
def lay (L : List (List Nat × List Nat)) : List (List Nat × List Nat) := L.flatMap fun q => (List.range q.2.length).flatMap fun f => if 0 < q.2.getD f 0 then [(q.1 ++ [f], dec q.2 f)] else []
def lays : Nat → List (List Nat × List Nat) → List (List Nat × List Nat)
  | 0, L => L
  | k + 1, L => lays k (lay L)
theorem lays_arr : ∀ (k : Nat) (L : List (List Nat × List Nat)), (lays k L).map (·.1) = L.flatMap fun q => (arr k q.2).map (q.1 ++ ·)
  | 0, L => by
    show L.map (·.1) = L.flatMap fun q => [[]].map (q.1 ++ ·)
    induction L with
    | nil => rfl
    | cons q L ih =>
      rw [List.map_cons, List.flatMap_cons, ih]
      show _ = [q.1 ++ []] ++ _
      rw [List.append_nil]; rfl
  | k + 1, L => by
    show (lays k (lay L)).map (·.1) = _
    rw [lays_arr k (lay L)]
    unfold lay
    rw [List.flatMap_assoc]
    congr 1
    funext q
    rw [arr_succ, List.map_flatMap, List.flatMap_assoc]
    congr 1
    funext f
    unfold blk
    by_cases z : 0 < q.2.getD f 0
    · rw [if_pos z, if_pos z, List.flatMap_cons, List.flatMap_nil, List.append_nil, List.map_map]
      congr 1
      funext p
      show q.1 ++ [f] ++ p = q.1 ++ (f :: p)
      rw [List.append_assoc]; rfl
    · rw [if_neg z, if_neg z]; rfl
theorem arr_ne : ∀ (k : Nat) (cs : List Nat), cs.sum = k → arr k cs ≠ [] := fun k cs h z => by
  have := (good k cs h).hd
  rw [z] at this
  cases this
/-- the layers do not grow beyond the last one -/
def Sums (k : Nat) (L : List (List Nat × List Nat)) : Prop := ∀ q ∈ L, q.2.sum = k
theorem lay_sums {k : Nat} {L : List (List Nat × List Nat)} (h : Sums (k + 1) L) : Sums k (lay L) := by
  intro q hq
  obtain ⟨p, hp, h1⟩ := List.mem_flatMap.mp hq
  obtain ⟨f, _, h2⟩ := List.mem_flatMap.mp h1
  by_cases z : 0 < p.2.getD f 0
  · rw [if_pos z] at h2
    rw [List.mem_singleton.mp h2]
    have := sum_dec z
    have := h p hp
    show (dec p.2 f).sum = k
    omega
  · rw [if_neg z] at h2; cases h2
theorem lays_len {k : Nat} {L : List (List Nat × List Nat)} (h : Sums k L) : L.length ≤ (lays k L).length := by
  have e : (lays k L).length = ((lays k L).map (·.1)).length := by rw [List.length_map]
  rw [e, lays_arr, List.length_flatMap]
  induction L with
  | nil => exact Nat.zero_le _
  | cons q L ih =>
    have ih := ih fun p hp => h p (List.mem_cons_of_mem _ hp)
    have e2 := e
    rw [List.map_cons, List.sum_cons, List.length_cons, List.length_map]
    have := List.length_pos_iff.mpr (arr_ne k q.2 (h q (List.mem_cons_self ..)))
    have ih2 := ih (by rw [List.length_map])
    omega
theorem arr_mem : ∀ (k : Nat) (cs : List Nat) {l : List Nat}, l ∈ arr k cs → l.length = k ∧ ∀ f ∈ l, f < cs.length
  | 0, cs, l, h => by
    have : l = [] := List.mem_singleton.mp h
    subst this
    exact ⟨rfl, fun _ z => nomatch z⟩
  | k + 1, cs, l, h => by
    rw [arr_succ] at h
    obtain ⟨f, hf, h1⟩ := List.mem_flatMap.mp h
    unfold blk at h1
    by_cases z : 0 < cs.getD f 0
    · rw [if_pos z] at h1
      obtain ⟨p, hp, rfl⟩ := List.mem_map.mp h1
      obtain ⟨i1, i2⟩ := arr_mem k (dec cs f) hp
      refine ⟨by rw [List.length_cons, i1], fun g hg => ?_⟩
      rcases List.mem_cons.mp hg with rfl | w
      · exact List.mem_range.mp hf
      · have := i2 g w
        rwa [dec_len] at this
    · rw [if_neg z] at h1; cases h1
end LA
namespace K01
open PySem L2 DL LW LA
def hs (n : Nat) (R : List Int) : PyData := .tuple [.int (n : Nat), .tuple (R.map .int)]
noncomputable def bodyLS : SD := (seqS (setS 7 (binD (varD 6) (callD (acons (varD 4) anil) (oneG lenG)) (intG (i2i fun i j => i - j))))
    (seqS (ifS (orT (testD (binD (varD 7) (conD (.int 0)) (intG (i2b fun i j => decide (i < j))))) (orT (testD (binD (varD 7) (binD (varD 3) (varD 5) ixG) (intG (i2b fun i j => decide (j < i))))) (testD (binD (varD 6) (varD 2) (intG (i2b fun i j => decide (j < i))))))) (retS (conD .none)) nilS)
    (dropS (metD 4 (acons (binD (lstD (acons (varD 5) anil)) (varD 7) mulG) anil) extG))))
theorem nats_rep (f c : Nat) : (List.replicate c [PyData.int ((f : Nat) : Int)]).flatten = nats (List.replicate c f) := by
  unfold nats
  induction c with
  | zero => rfl
  | succ c ih => rw [List.replicate_succ, List.replicate_succ, List.flatten_cons, List.map_cons, ih]; rfl
theorem least_loop {n : Nat} {R : List Int} (hn : n ≤ 16) (hR : R.length ≤ 4) {h s : PyData} : ∀ (zs rs : List Int) (f : Nat) (fl : List Nat) (c5 c6 c7 : Cell), R.drop f = rs → fl.length ≤ n → zs.length = rs.length → (∀ z ∈ zs, -1000 ≤ z ∧ z ≤ 1000) →
    (cnts n fl.length zs rs = none ∧ ∃ ρ', loopD (tupT [5, 6]) bodyLS (en f (zs.map .int)) [.cl h, .cl s, .cl (.int (n : Nat)), .cl (.tuple (R.map .int)), .op (nats fl), c5, c6, c7] = some (.rt (.cl .none) ρ')) ∨
    ∃ cs, cnts n fl.length zs rs = some cs ∧ ∃ c5' c6' c7', loopD (tupT [5, 6]) bodyLS (en f (zs.map .int)) [.cl h, .cl s, .cl (.int (n : Nat)), .cl (.tuple (R.map .int)), .op (nats fl), c5, c6, c7] = some (.nx [.cl h, .cl s, .cl (.int (n : Nat)), .cl (.tuple (R.map .int)), .op (nats (fl ++ ex f cs)), c5', c6', c7']) := by
  intro zs
  induction zs with
  | nil =>
    intro rs f fl c5 c6 c7 hr hf hl hz
    refine .inr ⟨[], by unfold cnts; rfl, c5, c6, c7, ?_⟩
    show some (Out.nx _) = _
    simp [ex]
  | cons z zs ih =>
    intro rs f fl c5 c6 c7 hr hf hl hz
    cases rs with
    | nil => cases hl
    | cons r rs =>
      have hr2 : R.drop (f + 1) = rs := by rw [← List.drop_drop, hr]; rfl
      have fl4 : f < R.length := by
        by_cases q : f < R.length
        · exact q
        · rw [List.drop_eq_nil_of_le (by omega)] at hr; cases hr
      have hRf : R[f]? = some r := by
        have := List.getElem?_drop (xs := R) (i := f) (j := 0)
        rw [hr] at this
        rw [Nat.add_zero] at this
        exact this.symm
      have ar : atI (R.map PyData.int) ((f : Nat) : Int) = some (.int r) := by
        have e : (R.map PyData.int)[f]? = some (.int r) := by rw [List.getElem?_map, hRf]; rfl
        obtain ⟨hk, e2⟩ := List.getElem?_eq_some_iff.mp e
        rw [at_nat hk, e2]
      have bz := hz z (List.mem_cons_self ..)
      have hz2 : ∀ w ∈ zs, -1000 ≤ w ∧ w ≤ 1000 := fun w hw => hz w (List.mem_cons_of_mem _ hw)
      have e0 : en f ((z :: zs).map .int) = .tuple [.int (f : Nat), .int z] :: en (f + 1) (zs.map .int) := rfl
      rw [e0, loop_cons]
      by_cases q : (fl.length : Int) ≤ z ∧ z - fl.length ≤ r ∧ z ≤ n
      · obtain ⟨q1, q2, q3⟩ := q
        have hc : cnts n fl.length (z :: zs) (r :: rs) = (cnts n z.toNat zs rs).map ((z.toNat - fl.length) :: ·) := by
          conv => lhs; unfold cnts
          rw [if_pos ⟨q1, q2, q3⟩]
        have fl' : (fl ++ List.replicate (z.toNat - fl.length) f).length = z.toNat := by rw [List.length_append, List.length_replicate]; omega
        have n1 : ¬ z - (fl.length : Int) < 0 := by omega
        have n2 : ¬ r < z - (fl.length : Int) := by omega
        have n3 : ¬ (n : Int) < z := by omega
        have ml : ∀ {ρ : DL.Env}, mulG ρ (.own [.int ((f : Nat) : Int)]) (.cl (.int (z - (fl.length : Int)))) = some (.own (nats (List.replicate (z.toNat - fl.length) f)), ρ) := fun {ρ} => by
          have e : mulG ρ (.own [.int ((f : Nat) : Int)]) (.cl (.int (z - (fl.length : Int)))) = some (.own (List.replicate (z - (fl.length : Int)).toNat [PyData.int ((f : Nat) : Int)]).flatten, ρ) := if_pos ⟨by omega, by omega, by simp⟩
          rw [e, nats_rep, show (z - (fl.length : Int)).toNat = z.toNat - fl.length by omega]
        have b1 : fl.length + (z.toNat - fl.length) ≤ 1000000 := by omega
        have step : ∀ (c5 c6 c7 : Cell), turn (tupT [5, 6]) bodyLS [.cl h, .cl s, .cl (.int (n : Nat)), .cl (.tuple (R.map .int)), .op (nats fl), c5, c6, c7] (.tuple [.int (f : Nat), .int z]) = some (.nx [.cl h, .cl s, .cl (.int (n : Nat)), .cl (.tuple (R.map .int)), .op (nats (fl ++ List.replicate (z.toNat - fl.length) f)), .cl (.int (f : Nat)), .cl (.int z), .cl (.int (z - fl.length))]) := fun c5 c6 c7 => by
          unfold bodyLS
          simp [nats_len, ar, n1, n2, n3, ml, b1, nats_app]
        rw [step]
        rcases ih rs (f + 1) (fl ++ List.replicate (z.toNat - fl.length) f) (.cl (.int (f : Nat))) (.cl (.int z)) (.cl (.int (z - fl.length))) hr2 (by rw [fl']; omega) (by simpa using hl) hz2 with ⟨h1, ρ', h2⟩ | ⟨cs, h1, c5', c6', c7', h2⟩
        · rw [fl'] at h1
          exact .inl ⟨by rw [hc, h1]; rfl, ρ', h2⟩
        · rw [fl'] at h1
          refine .inr ⟨(z.toNat - fl.length) :: cs, by rw [hc, h1]; rfl, c5', c6', c7', ?_⟩
          rw [List.append_assoc] at h2
          exact h2
      · refine .inl ⟨?_, ?_⟩
        · unfold cnts
          rw [if_neg q]
        · have bad : z - (fl.length : Int) < 0 ∨ r < z - (fl.length : Int) ∨ (n : Int) < z := by omega
          have step : ∀ (c5 c6 c7 : Cell), ∃ ρ', turn (tupT [5, 6]) bodyLS [.cl h, .cl s, .cl (.int (n : Nat)), .cl (.tuple (R.map .int)), .op (nats fl), c5, c6, c7] (.tuple [.int (f : Nat), .int z]) = some (.rt (.cl .none) ρ') := fun c5 c6 c7 => by
            unfold bodyLS
            by_cases w1 : z - (fl.length : Int) < 0
            · simp [nats_len, w1]
            · by_cases w2 : r < z - (fl.length : Int)
              · simp [nats_len, w1, ar, w2]
              · have w3 : (n : Int) < z := by omega
                simp [nats_len, w1, ar, w2, w3]
          obtain ⟨ρ', e⟩ := step c5 c6 c7
          exact ⟨ρ', by rw [e]; rfl⟩
theorem least_ok {n : Nat} {R zs : List Int} (hn : n ≤ 16) (hR : R.length ≤ 4) (hl : zs.length = R.length) (hz : ∀ z ∈ zs, -1000 ≤ z ∧ z ≤ 1000) :
    F_least_state [hs n R, .tuple (zs.map .int)] = match cnts n 0 zs R with
      | none => some (.cl .none)
      | some cs => some (.cl (.tuple (nats (LA.asc (cs ++ [n - cs.sum]))))) := by
  have lp := least_loop hn hR (h := hs n R) (s := .tuple (zs.map .int)) zs R 0 [] .no .no .no rfl (Nat.zero_le _) hl hz
  have n0 : nats [] = [] := rfl
  have z0 : ([] : List Nat).length = 0 := rfl
  rw [n0, z0] at lp
  unfold bodyLS at lp
  unfold F_least_state LW.F_least_state LW.g_least_state
  rw [e_runP]
  unfold hs
  rcases lp with ⟨h1, ρ', h2⟩ | ⟨cs, h1, c5', c6', c7', h2⟩
  · rw [h1]
    unfold hs at h2
    simp [argE]
    rw [enum_en, h2]
    simp
  · rw [h1]
    unfold hs at h2
    obtain ⟨k1, k2, k3⟩ := cnts_ok h1 (Nat.zero_le _)
    rw [Nat.zero_add] at k1
    have ml : ∀ {ρ : DL.Env}, mulG ρ (.own [.int ((R.length : Nat) : Int)]) (.cl (.int ((n : Int) - (cs.sum : Nat)))) = some (.own (nats (List.replicate (n - cs.sum) R.length)), ρ) := fun {ρ} => by
      have e : mulG ρ (.own [.int ((R.length : Nat) : Int)]) (.cl (.int ((n : Int) - (cs.sum : Nat)))) = some (.own (List.replicate ((n : Int) - (cs.sum : Nat)).toNat [PyData.int ((R.length : Nat) : Int)]).flatten, ρ) := if_pos ⟨by omega, by omega, by simp⟩
      rw [e, nats_rep, show ((n : Int) - (cs.sum : Nat)).toNat = n - cs.sum by omega]
    have el : (ex 0 cs).length = cs.sum := ex_len 0 cs
    have as : LA.asc (cs ++ [n - cs.sum]) = ex 0 cs ++ List.replicate (n - cs.sum) R.length := by
      unfold LA.asc
      rw [ex_app, Nat.zero_add, k2, hl]
    have b1 : cs.sum + (n - cs.sum) ≤ 1000000 := by omega
    rw [List.nil_append] at h2
    simp [argE]
    rw [enum_en, h2]
    have ad : ∀ a b c d e f g : Cell, addG [a, b, c, d, .op (nats (ex 0 cs)), e, f, g] (.sl 4) (.own (nats (List.replicate (n - cs.sum) R.length))) = some (.own (nats (LA.asc (cs ++ [n - cs.sum]))), [a, b, c, d, .op (nats (ex 0 cs)), e, f, g]) := fun a b c d e f g => by
      show (if (nats (ex 0 cs)).length + (nats (List.replicate (n - cs.sum) R.length)).length ≤ lim then some (Val.own (nats (ex 0 cs) ++ nats (List.replicate (n - cs.sum) R.length)), [a, b, c, d, .op (nats (ex 0 cs)), e, f, g]) else none) = _
      rw [if_pos (by rw [nats_len, nats_len, el, List.length_replicate, lim_eq]; exact b1), nats_app, as]
    simp [nats_len, el, ml, ad]
end K01
namespace K01
open PySem L2 DL LW LA
noncomputable def c_all : TD := (testD (binD (varD 2) (conD .none) (isNG' true)))
noncomputable def b_all : SE := (ifE (testD (binD (callD (acons (varD 3) anil) (oneG lenG)) (conD (.int 3000)) (eqQ false))) (raiseE (conD (.int 3000)))
    (pureE (seqS (dropS (metD 3 (acons (varD 2) anil) appG))
    (setS 2 (callP 1 F_state_after (acons (varD 2) anil))))))
def tupN (s : List Nat) : PyData := .tuple (nats s)
/-- the loop from a state that has a chain behind it -/
theorem all_loop {h z : PyData} : ∀ (L : List (List Nat)) (s : List Nat) (acc : List PyData) (fuel : Nat), Ch Nx (s :: L) → (∀ t ∈ s :: L, t.length ≤ 1000) → (∀ t ∈ (s :: L).getLast?, Desc t) → acc.length ≤ 3000 → 3005 ≤ fuel + acc.length →
    whileDE c_all b_all fuel [.cl h, .cl z, .cl (tupN s), .op acc] = if 3000 < acc.length + (L.length + 1) then some (.inr 3000) else some (.inl (.nx [.cl h, .cl z, .cl .none, .op (acc ++ (s :: L).map tupN)]))
  | L, s, acc, 0, _, _, _, _, hf => absurd hf (by omega)
  | L, s, acc, 1, _, _, _, _, hf => absurd hf (by omega)
  | L, s, acc, fuel + 2, hc, hl, hd, ha, hf => by
    have ct : ∀ c3 : Cell, c_all [.cl h, .cl z, .cl (tupN s), c3] = some (true, [.cl h, .cl z, .cl (tupN s), c3]) := fun c3 => by
      unfold c_all tupN
      have nv : isNV (.cl (.tuple (nats s))) = false := rfl
      simp [nv]
    have len3 : ∀ {c : Cell}, (callD (acons (varD 3) anil) (oneG lenG)) [.cl h, .cl z, c, .op acc] = some (.cl (.int (acc.length : Nat)), [.cl h, .cl z, c, .op acc]) := fun {c} => by simp
    by_cases q : acc.length = 3000
    · have bt : b_all [.cl h, .cl z, .cl (tupN s), .op acc] = some (.inr 3000) := by
        unfold b_all
        simp [argE, q]
      rw [whileE_raise (ct _) bt, if_pos (by omega)]
    · have q2 : ¬ ((acc.length : Nat) : Int) = 3000 := by omega
      have b1 : acc.length < 1000000 := by omega
      cases L with
      | nil =>
        have af := after_desc (hl s (List.mem_cons_self ..)) (hd s rfl)
        have bt : b_all [.cl h, .cl z, .cl (tupN s), .op acc] = some (.inl (.nx [.cl h, .cl z, .cl .none, .op (acc ++ [tupN s])])) := by
          unfold b_all tupN
          simp [argE, q2, b1, af]
        have cf : c_all [.cl h, .cl z, .cl .none, .op (acc ++ [tupN s])] = some (false, [.cl h, .cl z, .cl .none, .op (acc ++ [tupN s])]) := by
          unfold c_all
          simp
        rw [whileE_go (ct _) bt, whileE_stop cf, if_neg (by rw [List.length_nil]; omega)]
        rfl
      | cons t L =>
        have af := after_nx (hl s (List.mem_cons_self ..)) hc.1
        have bt : b_all [.cl h, .cl z, .cl (tupN s), .op acc] = some (.inl (.nx [.cl h, .cl z, .cl (tupN t), .op (acc ++ [tupN s])])) := by
          unfold b_all tupN
          simp [argE, q2, b1, af]
        rw [whileE_go (ct _) bt, all_loop L t (acc ++ [tupN s]) (fuel + 1) hc.2 (fun x hx => hl x (List.mem_cons_of_mem _ hx)) (fun x hx => hd x (by rw [List.getLast?_cons_cons]; exact hx)) (by rw [List.length_append]; show acc.length + 1 ≤ 3000; omega) (by rw [List.length_append]; show 3005 ≤ fuel + 1 + (acc.length + 1); omega)]
        have e : (acc ++ [tupN s]).length + (L.length + 1) = acc.length + ((t :: L).length + 1) := by simp; omega
        rw [e, List.append_assoc]
        rfl
/-- all states of sizes: how many, which ones -/
def full (n : Nat) (cs : List Nat) : List Nat := cs ++ [n - cs.sum]
theorem full_sum {n : Nat} {cs : List Nat} (h : cs.sum ≤ n) : (full n cs).sum = n := by
  unfold full
  rw [sum_snoc]; omega
theorem all_ok {n : Nat} {R zs : List Int} (hn : n ≤ 16) (hR : R.length ≤ 4) (hl : zs.length = R.length) (hz : ∀ z ∈ zs, -1000 ≤ z ∧ z ≤ 1000) :
    G_all_states [hs n R, .tuple (zs.map .int)] = match cnts n 0 zs R with
      | none => some (.inl (.own []))
      | some cs => if 3000 < pr n cs then some (.inr 3000) else some (.inl (.own ((arr n (full n cs)).map tupN))) := by
  have ls := least_ok hn hR hl hz
  have i2 : F_least_state [hs n R, .tuple (zs.map .int)] = F_least_state [hs n R, .tuple (zs.map .int)] := rfl
  have ct : ∀ a b : Cell, c_all [a, b, .cl .none, .op []] = some (false, [a, b, .cl .none, .op []]) := fun a b => by
    unfold c_all
    simp
  cases hc : cnts n 0 zs R with
  | none =>
    rw [hc] at ls
    have ls : F_least_state [hs n R, .tuple (zs.map .int)] = some (.cl .none) := ls
    have e : whileE 10000 c_all b_all [.cl (hs n R), .cl (.tuple (zs.map .int)), .cl .none, .op []] = some (.inl (.nx [.cl (hs n R), .cl (.tuple (zs.map .int)), .cl .none, .op []])) := whileE_stop (body := b_all) (n := 9999) (ct (.cl (hs n R)) (.cl (.tuple (zs.map .int))))
    unfold c_all b_all at e
    unfold G_all_states g_all_states
    rw [e_runE]
    simp [argE, ls, e]
  | some cs =>
    rw [hc] at ls
    have ls : F_least_state [hs n R, .tuple (zs.map .int)] = some (.cl (tupN (LA.asc (full n cs)))) := ls
    obtain ⟨k1, _, _⟩ := cnts_ok hc (Nat.zero_le _)
    rw [Nat.zero_add] at k1
    have G := good n (full n cs) (full_sum k1)
    have al := arr_len n (full n cs) (full_sum k1)
    have mp : mult (full n cs) = pr n cs := mult_pr k1
    obtain ⟨L, hL⟩ : ∃ L, arr n (full n cs) = LA.asc (full n cs) :: L := by
      have := G.hd
      cases h : arr n (full n cs) with
      | nil => rw [h] at this; cases this
      | cons a L =>
        rw [h] at this
        injection this with this
        exact ⟨L, by rw [this]⟩
    have lp := all_loop (h := hs n R) (z := .tuple (zs.map .int)) L (LA.asc (full n cs)) [] 10000 (by rw [← hL]; exact G.ch) (fun t ht => by rw [← hL] at ht; rw [(arr_mem n _ ht).1]; omega) (fun t ht => by
      rw [← hL, G.lt] at ht
      cases ht
      exact desc_rev (ex_asc 0 _)) (by simp) (by simp)
    have ll : ([] : List PyData).length + (L.length + 1) = pr n cs := by
      rw [← mp, ← al, hL]; simp
    rw [ll] at lp
    have e : whileE 10000 c_all b_all [.cl (hs n R), .cl (.tuple (zs.map .int)), .cl (tupN (LA.asc (full n cs))), .op []] = _ := lp
    unfold c_all b_all at e
    unfold G_all_states g_all_states
    rw [e_runE]
    rw [← hL] at e
    show (_ : Option (Val ⊕ Int)) = (if 3000 < pr n cs then some (Sum.inr 3000) else some (Sum.inl (Val.own ((arr n (full n cs)).map tupN))))
    by_cases q : 3000 < pr n cs
    · rw [if_pos q] at e ⊢
      simp [argE, ls, e]
    · rw [if_neg q] at e ⊢
      rw [List.nil_append] at e
      simp [argE, ls, e]
end K01
namespace K01
open PySem L2 DL LW LA
noncomputable def bodyM : SD := (seqS (setS 7 (binD (varD 5) (varD 4) (intG (i2i fun i j => i - j))))
    (seqS (ifS (notT (testD (chainD (conD (.int 0)) (varD 7) (callD (acons (varD 6) (acons (varD 3) anil)) min2G) (intG (i2b fun i j => decide (i ≤ j))) (intG (i2b fun i j => decide (i ≤ j)))))) (retS (conD (.int 0))) nilS)
    (seqS (forS (rng1I (acons (varD 7) anil)) (nameT 8) (setS 2 (binD (binD (varD 2) (binD (varD 3) (varD 8) (intG (i2i fun i j => i - j))) mulG) (binD (varD 8) (conD (.int 1)) addG) (intG fdivG))))
    (parS [3, 4] (acons (binD (varD 3) (varD 7) (intG (i2i fun i j => i - j))) (acons (varD 5) anil))))))
def InI (h z : PyData) (P l : Nat) (c4 c5 c6 c7 : Cell) (k : Nat) (ρ : DL.Env) : Prop := ∃ c8 : Cell, ρ = [.cl h, .cl z, .cl (.int ((P : Int) * ((ch l k : Nat) : Int))), .cl (.int (l : Nat)), c4, c5, c6, c7, c8]
theorem ch_step (P l k : Nat) (h : k ≤ l) : (P : Int) * ((ch l k : Nat) : Int) * ((l : Int) - k) / ((k : Int) + 1) = (P : Int) * ((ch l (k + 1) : Nat) : Int) := by
  have e := ch_mul l k
  have e2 : (l : Int) - k = ((l - k : Nat) : Int) := by omega
  have e3 : P * ch l k * (l - k) = P * ch l (k + 1) * (k + 1) := by
    rw [Nat.mul_assoc, ← e, Nat.mul_assoc, Nat.mul_comm (k + 1)]
  rw [e2, ← Int.natCast_mul, ← Int.natCast_mul, e3, Int.natCast_mul, Int.natCast_mul]
  show _ * ((k + 1 : Nat) : Int) / ((k : Int) + 1) = _
  exact Int.mul_ediv_cancel _ (by omega)
theorem in_loop {h z : PyData} {P l m : Nat} (hm : m ≤ l) (hl : l ≤ 16) (c4 c5 c6 c7 c8 : Cell) : ∃ c8', loopD (nameT 8) (setS 2 (binD (binD (varD 2) (binD (varD 3) (varD 8) (intG (i2i fun i j => i - j))) mulG) (binD (varD 8) (conD (.int 1)) addG) (intG fdivG))) (rngD 0 m 1) [.cl h, .cl z, .cl (.int (P : Nat)), .cl (.int (l : Nat)), c4, c5, c6, c7, c8] =
    some (.nx [.cl h, .cl z, .cl (.int ((P : Int) * ((ch l m : Nat) : Int))), .cl (.int (l : Nat)), c4, c5, c6, c7, c8']) := by
  have hlen : (rngD 0 m 1).length = m := by rw [rngD_len]
  refine use_loop (P := fun x => ∃ c8', x = some (.nx [.cl h, .cl z, .cl (.int ((P : Int) * ((ch l m : Nat) : Int))), .cl (.int (l : Nat)), c4, c5, c6, c7, c8'])) (InI h z P l c4 c5 c6 c7) ⟨c8, by rw [ch_zero]; simp⟩ ?_ ?_
  · rintro k d ρ hd ⟨c8', rfl⟩
    obtain ⟨hk, rfl⟩ := rng_get hd
    have hk2 : k < m := by omega
    have st := ch_step P l k (by omega)
    have m1 : (((l : Nat) : Int) - (k : Int)).natAbs < 2 ^ 64 := by omega
    have d1 : (0 : Int) < (k : Int) + 1 := by omega
    have d2 : (k : Int) + 1 ≤ 4611686018427387904 := by omega
    simp [mulOk_r m1, d1, d2, st]
    exact turns_nx ⟨_, rfl⟩
  · rintro ρ' ⟨c8', rfl⟩
    rw [hlen]
    exact ⟨c8', rfl⟩
def zipZ (zs rs : List Int) : List PyData := (zs.zip rs).map fun p => .tuple [.int p.1, .int p.2]
theorem zip_zz : ∀ (zs rs : List Int), zipD (zs.map .int) (rs.map .int) = zipZ zs rs
  | [], _ => rfl
  | z :: zs, [] => rfl
  | z :: zs, r :: rs => by
    show PyData.tuple [.int z, .int r] :: zipD (zs.map .int) (rs.map .int) = _
    rw [zip_zz]; rfl
theorem many_loop {n : Nat} (hn : n ≤ 16) {h s : PyData} : ∀ (zs rs : List Int) (a P : Nat) (c5 c6 c7 c8 : Cell), a ≤ n → zs.length = rs.length → (∀ z ∈ zs, -1000 ≤ z ∧ z ≤ 1000) →
    (cnts n a zs rs = none ∧ ∃ ρ', loopD (tupT [5, 6]) bodyM (zipZ zs rs) [.cl h, .cl s, .cl (.int (P : Nat)), .cl (.int ((n - a : Nat) : Int)), .cl (.int (a : Nat)), c5, c6, c7, c8] = some (.rt (.cl (.int 0)) ρ')) ∨
    ∃ cs, cnts n a zs rs = some cs ∧ ∃ c3' c4' c5' c6' c7' c8', loopD (tupT [5, 6]) bodyM (zipZ zs rs) [.cl h, .cl s, .cl (.int (P : Nat)), .cl (.int ((n - a : Nat) : Int)), .cl (.int (a : Nat)), c5, c6, c7, c8] = some (.nx [.cl h, .cl s, .cl (.int ((P : Int) * ((pr (n - a) cs : Nat) : Int))), c3', c4', c5', c6', c7', c8']) := by
  intro zs
  induction zs with
  | nil =>
    intro rs a P c5 c6 c7 c8 ha hl hz
    refine .inr ⟨[], by unfold cnts; rfl, .cl (.int ((n - a : Nat) : Int)), .cl (.int (a : Nat)), c5, c6, c7, c8, ?_⟩
    show some (Out.nx _) = _
    simp [pr]
  | cons z zs ih =>
    intro rs a P c5 c6 c7 c8 ha hl hz
    cases rs with
    | nil => cases hl
    | cons r rs =>
      have bz := hz z (List.mem_cons_self ..)
      have hz2 : ∀ w ∈ zs, -1000 ≤ w ∧ w ≤ 1000 := fun w hw => hz w (List.mem_cons_of_mem _ hw)
      have e0 : zipZ (z :: zs) (r :: rs) = .tuple [.int z, .int r] :: zipZ zs rs := rfl
      have b2 : -1000000 ≤ z - (a : Int) ∧ z - (a : Int) ≤ 1000000 := by omega
      rw [e0, loop_cons]
      by_cases q : (a : Int) ≤ z ∧ z - a ≤ r ∧ z ≤ n
      · obtain ⟨q1, q2, q3⟩ := q
        have hc : cnts n a (z :: zs) (r :: rs) = (cnts n z.toNat zs rs).map ((z.toNat - a) :: ·) := by
          conv => lhs; unfold cnts
          rw [if_pos ⟨q1, q2, q3⟩]
        obtain ⟨w, rfl⟩ : ∃ w : Nat, z = w := ⟨z.toNat, by omega⟩
        have ew : ((w : Nat) : Int).toNat = w := Int.toNat_natCast w
        rw [ew] at hc
        have p0 : a ≤ w := by omega
        have p1 : (0 : Int) ≤ (w : Int) - a := by omega
        have p2 : (w : Int) - a ≤ min r ((n - a : Nat) : Int) := by omega
        have step : ∀ (c5 c6 c7 c8 : Cell), ∃ c8', turn (tupT [5, 6]) bodyM [.cl h, .cl s, .cl (.int (P : Nat)), .cl (.int ((n - a : Nat) : Int)), .cl (.int (a : Nat)), c5, c6, c7, c8] (.tuple [.int (w : Nat), .int r]) = some (.nx [.cl h, .cl s, .cl (.int ((P : Int) * ((ch (n - a) (w - a) : Nat) : Int))), .cl (.int ((n - w : Nat) : Int)), .cl (.int (w : Nat)), .cl (.int (w : Nat)), .cl (.int r), .cl (.int ((w : Int) - a)), c8']) := fun c5 c6 c7 c8 => by
          unfold bodyM
          simp [p0, p1, p2, b2.1, b2.2]
          obtain ⟨c8', e⟩ := in_loop (h := h) (z := s) (P := P) (show w - a ≤ n - a by omega) (by omega) (.cl (.int (a : Nat))) (.cl (.int (w : Nat))) (.cl (.int r)) (.cl (.int ((w : Int) - a))) c8
          refine ⟨c8', ?_⟩
          rw [e]
          simp
          omega
        obtain ⟨c8', e⟩ := step c5 c6 c7 c8
        rw [e]
        have e5 : ((P : Int) * ((ch (n - a) (w - a) : Nat) : Int)) = ((P * ch (n - a) (w - a) : Nat) : Int) := by simp
        rw [e5]
        rcases ih rs w (P * ch (n - a) (w - a)) (.cl (.int (w : Nat))) (.cl (.int r)) (.cl (.int ((w : Int) - a))) c8' (by omega) (by simpa using hl) hz2 with ⟨h1, ρ', h2⟩ | ⟨cs, h1, c3', c4', c5', c6', c7', c8'', h2⟩
        · exact .inl ⟨by rw [hc, h1]; rfl, ρ', h2⟩
        · refine .inr ⟨(w - a) :: cs, by rw [hc, h1]; rfl, c3', c4', c5', c6', c7', c8'', ?_⟩
          show loopD _ _ _ _ = _
          rw [h2]
          have e6 : pr (n - a) ((w - a) :: cs) = ch (n - a) (w - a) * pr (n - w) cs := by
            show ch (n - a) (w - a) * pr (n - a - (w - a)) cs = _
            rw [show n - a - (w - a) = n - w by omega]
          rw [e6]
          simp [Int.mul_assoc]
      · refine .inl ⟨by unfold cnts; rw [if_neg q], ?_⟩
        have step : ∀ (c5 c6 c7 c8 : Cell), ∃ ρ', turn (tupT [5, 6]) bodyM [.cl h, .cl s, .cl (.int (P : Nat)), .cl (.int ((n - a : Nat) : Int)), .cl (.int (a : Nat)), c5, c6, c7, c8] (.tuple [.int z, .int r]) = some (.rt (.cl (.int 0)) ρ') := fun c5 c6 c7 c8 => by
          unfold bodyM
          by_cases w1 : (0 : Int) ≤ z - a
          · have w2 : ¬ z - (a : Int) ≤ min r ((n - a : Nat) : Int) := by omega
            have w0 : (a : Int) ≤ z := by omega
            simp [w0, w1, w2, b2.1, b2.2]
          · have w0 : ¬ (a : Int) ≤ z := by omega
            simp [w0, w1]
        obtain ⟨ρ', e⟩ := step c5 c6 c7 c8
        exact ⟨ρ', by rw [e]; rfl⟩
theorem many_ok {n : Nat} {R zs : List Int} (hn : n ≤ 16) (hl : zs.length = R.length) (hz : ∀ z ∈ zs, -1000 ≤ z ∧ z ≤ 1000) :
    F__law_states_many [hs n R, .tuple (zs.map .int)] = match cnts n 0 zs R with
      | none => some (.cl (.int 0))
      | some cs => some (.cl (.int ((pr n cs : Nat) : Int))) := by
  have lp := many_loop hn (h := hs n R) (s := .tuple (zs.map .int)) zs R 0 1 .no .no .no .no (Nat.zero_le _) hl hz
  unfold bodyM at lp
  unfold F__law_states_many LW.F__law_states_many LW.g__law_states_many
  rw [e_runP]
  unfold hs at lp ⊢
  rcases lp with ⟨h1, ρ', h2⟩ | ⟨cs, h1, c3', c4', c5', c6', c7', c8', h2⟩
  · rw [h1]
    simp [argE, zip_zz]
    rw [Nat.sub_zero] at h2
    have h2' := h2
    simp at h2'
    rw [h2']
    simp
  · rw [h1]
    simp [argE, zip_zz]
    rw [Nat.sub_zero] at h2
    have h2' := h2
    simp at h2'
    rw [h2']
    simp
end K01
namespace LW
open PySem L2 DL
end LW
namespace LW
open PySem L2 DL
end LW
namespace DL
open PySem L2
end DL
namespace LW
open PySem L2 DL
end LW
namespace LW
open PySem L2 DL
end LW
namespace DL
open PySem L2
end DL
namespace LW
open PySem L2 DL
end LW
namespace LW
open PySem L2 DL
end LW
namespace LW
open PySem L2 DL
end LW
namespace LW
open PySem L2 DL
structure Asked (n F : Nat) (V s s' : Nat → Int) (x L : Nat) (d : Nat → Nat) : Prop where
  le : L ≤ F
  full : ∀ f, f < L → ((othL n s x f).length : Int) = V f
  free : L < F → ((othL n s x L).length : Int) < V L
  down : ∀ f, f < L → d f < n ∧ d f ≠ x ∧ (s (d f) = (f : Int) ∨ (0 < f ∧ d f = d (f - 1)))
  top : s' x = 0
  moved : ∀ y, y < n → y ≠ x → ∀ f : Nat, f < F → (s' y ≤ (f : Int) ↔ s y ≤ (f : Int) ∧ ¬(f < L ∧ y = d f))
section
variable {n m F : Nat} {V s s' : Nat → Int} {os ys : List Int} {T : Nat → Nat → Int} {x g e L : Nat} {d : Nat → Nat}
theorem Asked.at (A : Asked n F V s s' x L d) : ∀ {f : Nat}, f < L → s (d f) ≤ (f : Int)
  | 0, h => by rcases (A.down 0 h).2.2 with z | z <;> omega
  | f + 1, h => by
    rcases (A.down (f + 1) h).2.2 with z | ⟨_, z⟩
    · omega
    · rw [z, Nat.add_sub_cancel]
      have := A.at (f := f) (by omega)
      omega
end
end LW
namespace LW
open PySem L2 DL
end LW
namespace LW
open PySem L2 DL
end LW
namespace LW
open PySem L2 DL
end LW
namespace LW
open PySem L2 DL
end LW
namespace LW
open PySem L2 DL
end LW
namespace LW
open PySem L2 DL
end LW
namespace LW
open PySem L2 DL
end LW
namespace LW
open PySem L2 DL
end LW
namespace LW
open PySem L2 DL
end LW
namespace LW
open PySem L2 DL
end LW
namespace DL
open PySem L2
end DL
namespace LW
open PySem L2 DL LV
end LW
namespace LW
open PySem L2 DL
end LW
namespace LW
open PySem L2 DL
end LW
namespace LW
open PySem L2 DL
section
variable {n F : Nat} {V : Nat → Int}
/-- knowledges and states, side by side -/
inductive Fitted (n F : Nat) (V : Nat → Int) : List PyData → List PyData → Prop
  | nil : Fitted n F V [] []
  | cons {os : List Int} {T : Nat → Nat → Int} {s : Nat → Int} {ks ss : List PyData} : Kn n F V os T → fitsB n F os T s = true → Rng n F s → Fitted n F V ks ss → Fitted n F V (knowD os F T :: ks) (.tuple (iv n s) :: ss)
theorem Fitted.len {ks ss : List PyData} (h : Fitted n F V ks ss) : ks.length = ss.length := by
  induction h with
  | nil => rfl
  | cons _ _ _ _ ih => rw [List.length_cons, List.length_cons, ih]
theorem Fitted.get {ks ss : List PyData} (h : Fitted n F V ks ss) : ∀ {i : Nat}, i < ks.length → ∃ os T s, ks[i]? = some (knowD os F T) ∧ ss[i]? = some (.tuple (iv n s)) ∧ Kn n F V os T ∧ fitsB n F os T s = true ∧ Rng n F s := by
  induction h with
  | nil => intro i hi; exact absurd hi (Nat.not_lt_zero i)
  | @cons os T s ks ss a b c _ ih =>
    intro i hi
    cases i with
    | zero => exact ⟨os, T, s, rfl, rfl, a, b, c⟩
    | succ i => exact ih (i := i) (by simpa using hi)
end
end LW
namespace LW
open PySem L2 DL
end LW
namespace LW
open PySem L2 DL
end LW
namespace LW
open PySem L2 DL
end LW
namespace LW
open PySem L2 DL
end LW
namespace LW
open PySem L2 DL
end LW
namespace LW
open PySem L2 DL
abbrev Dl := List (Nat × Nat)
def tolK (D : Dl) (x : Nat) : Bool := D.any fun p => decide (p.1 = x)
structure Dok (n F : Nat) (D : Dl) : Prop where
  nd : (D.map (·.1)).Nodup
  rng : ∀ p ∈ D, p.1 < n ∧ p.2 ≤ F
theorem tolK_iff {D : Dl} {x : Nat} : tolK D x = true ↔ ∃ p ∈ D, p.1 = x := by
  unfold tolK
  rw [List.any_eq_true]
  exact ⟨fun ⟨p, h, e⟩ => ⟨p, h, of_decide_eq_true e⟩, fun ⟨p, h, e⟩ => ⟨p, h, decide_eq_true e⟩⟩
section
variable {n F : Nat} {V : Nat → Int} {os : List Int} {T : Nat → Nat → Int} {D : Dl}
/-- place k is that of a thing without told floor -/
def freeB (os : List Int) (D : Dl) (k : Nat) : Bool := !tolK D (nth os k).toNat
def nTol (D : Dl) (f : Nat) : Nat := (D.filter fun p => decide (p.2 ≤ f)).length
end
end LW
namespace LW
open PySem L2 DL
def tP (D : Dl) : List (PyData × PyData) := D.map fun p => (.int (p.1 : Nat), .int (p.2 : Nat))
@[simp] theorem mark_tP {D : Dl} : markD (tP D) = false := by
  cases D with
  | nil => rfl
  | cons p D => exact mark_int
theorem Dok.len {n F : Nat} {D : Dl} (O : Dok n F D) : D.length ≤ n := by
  have p : (D.map (·.1)).Perm ((List.range n).filter fun x => tolK D x) := by
    refine (List.perm_ext_iff_of_nodup O.nd (List.nodup_range.sublist List.filter_sublist)).mpr fun x => ?_
    rw [List.mem_map, List.mem_filter, List.mem_range, tolK_iff]
    exact ⟨fun ⟨q, hq, e⟩ => ⟨by rw [← e]; exact (O.rng q hq).1, q, hq, e⟩, fun ⟨_, q, hq, e⟩ => ⟨q, hq, e⟩⟩
  have h1 := p.length_eq
  have h2 := List.length_filter_le (fun x => tolK D x) (List.range n)
  rw [List.length_map] at h1
  rw [List.length_range] at h2
  omega
section
variable {n F : Nat} {V : Nat → Int} {os : List Int} {T : Nat → Nat → Int} {D : Dl}
def freeL (n : Nat) (os : List Int) (D : Dl) : List Int := plc os n (freeB os D)
end
end LW
namespace LW
open PySem L2 DL
section
variable {n F : Nat} {V : Nat → Int} {os : List Int} {T : Nat → Nat → Int} {D : Dl}
def needD (n : Nat) (T : Nat → Nat → Int) (D : Dl) (f : Nat) : Int := T f n - (nTol D f : Nat)
def beg (n : Nat) (T : Nat → Nat → Int) (D : Dl) : Nat → Int
  | 0 => 0
  | f + 1 => needD n T D f
def Chain (n F : Nat) (os : List Int) (T : Nat → Nat → Int) (D : Dl) (j : Nat) : Prop := ∀ f, f < j → beg n T D f ≤ needD n T D f ∧ needD n T D f ≤ ((freeL n os D).length : Nat)
theorem Chain.up {j : Nat} (C : Chain n F os T D j) {f : Nat} : ∀ g, f ≤ g → g ≤ j → beg n T D f ≤ beg n T D g
  | 0, h, _ => by rw [show f = 0 by omega]; exact Int.le_refl _
  | g + 1, h, hg => by
    by_cases q : f ≤ g
    · have := C.up g q (by omega)
      have := (C g (by omega)).1
      show beg n T D f ≤ needD n T D g
      omega
    · rw [show f = g + 1 by omega]; exact Int.le_refl _
def LsEnd (v : PyData) (x : Option Val) : Prop := x = some (.cl v)
end
end LW
namespace LW
open PySem L2 DL
end LW
namespace LW
open PySem L2 DL
end LW
namespace LW
open PySem L2 DL
end LW
namespace LW
open PySem L2 DL
section
variable {n F : Nat} {V : Nat → Int} {os : List Int} {T U : Nat → Nat → Int}
theorem rowsT_cong2 {m : Nat} (h : ∀ f, f < F → ∀ k, k < m → T f k = U f k) : rowsT F m T = rowsT F m U := by
  unfold rowsT gl
  apply List.map_congr_left
  intro f hf
  have hf := List.mem_range.mp hf
  congr 1
  unfold iv
  apply List.map_congr_left
  intro k hk
  rw [h f hf k (List.mem_range.mp hk)]
def chos (os l : List Int) (k : Nat) : Bool := decide (nth os k ∈ l)
def togB (n : Nat) (w : Nat → Int) (os l : List Int) : Bool := (List.range n).all fun p => decide (((cntB (chos os l) n : Nat) : Int) - (cntB (chos os l) p : Nat) ≤ w n - w p)
theorem togB_iff {w : Nat → Int} {l : List Int} : togB n w os l = true ↔ ∀ p, p < n → ((cntB (chos os l) n : Nat) : Int) - (cntB (chos os l) p : Nat) ≤ w n - w p := by
  unfold togB
  rw [List.all_eq_true]
  exact ⟨fun h p hp => of_decide_eq_true (h p (List.mem_range.mpr hp)), fun h p hp => decide_eq_true (h p (List.mem_range.mp hp))⟩
theorem cnt_late {a b : Nat → Bool} (h : ∀ k, a k = true → b k = true) {p : Nat} : ∀ q, p ≤ q → cntB a q - cntB a p ≤ cntB b q - cntB b p ∧ cntB a p ≤ cntB a q ∧ cntB b p ≤ cntB b q
  | 0, hq => by rw [show p = 0 by omega]; simp
  | q + 1, hq => by
    by_cases e : p = q + 1
    · subst e; omega
    · have ih := cnt_late h (p := p) q (by omega)
      rw [cntB_succ, cntB_succ]
      have := h q
      cases ha : a q with
      | true => rw [this ha]; simp; omega
      | false => cases b q <;> simp <;> omega
theorem tog_anti {w : Nat → Int} {l m : List Int} (h : ∀ x ∈ l, x ∈ m) (t : togB n w os m = true) : togB n w os l = true := by
  rw [togB_iff] at *
  intro p hp
  have := t p hp
  have := cnt_late (a := chos os l) (b := chos os m) (fun k hk => decide_eq_true (h _ (of_decide_eq_true hk))) (p := p) n (by omega)
  omega
def grd (n : Nat) (w : Nat → Int) (os : List Int) : List Int → List Int → List Int
  | acc, [] => acc
  | acc, y :: ys => if togB n w os (acc ++ [y]) = true then grd n w os (acc ++ [y]) ys else grd n w os acc ys
theorem grd_spec {w : Nat → Int} : ∀ (ys acc : List Int), togB n w os acc = true →
    (∀ x ∈ acc, x ∈ grd n w os acc ys) ∧ togB n w os (grd n w os acc ys) = true ∧ (∀ y ∈ ys, y ∈ grd n w os acc ys ∨ togB n w os (grd n w os acc ys ++ [y]) = false) ∧ ∀ x ∈ grd n w os acc ys, x ∈ acc ∨ x ∈ ys
  | [], acc, h => ⟨fun x hx => hx, h, fun y hy => (nomatch hy), fun x hx => .inl hx⟩
  | y :: ys, acc, h => by
    unfold grd
    by_cases q : togB n w os (acc ++ [y]) = true
    · rw [if_pos q]
      obtain ⟨a, b, c, d⟩ := grd_spec ys (acc ++ [y]) q
      refine ⟨fun x hx => a x (List.mem_append_left _ hx), b, fun z hz => ?_, fun x hx => ?_⟩
      · rcases List.mem_cons.mp hz with e | e
        · exact .inl (a z (List.mem_append_right _ (by simp [e])))
        · exact c z e
      · rcases d x hx with e | e
        · rcases List.mem_append.mp e with e | e
          · exact .inl e
          · exact .inr (List.mem_cons.mpr (.inl (by simpa using e)))
        · exact .inr (List.mem_cons_of_mem _ e)
    · rw [if_neg q]
      obtain ⟨a, b, c, d⟩ := grd_spec ys acc h
      refine ⟨a, b, fun z hz => ?_, fun x hx => ?_⟩
      · rcases List.mem_cons.mp hz with e | e
        · right
          cases t : togB n w os (grd n w os acc ys ++ [z]) with
          | false => rfl
          | true =>
            refine absurd (tog_anti (fun x hx => ?_) t) q
            rcases List.mem_append.mp hx with g | g
            · exact List.mem_append_left _ (a x g)
            · exact List.mem_append_right _ (by rw [e]; exact g)
        · exact c z e
      · rcases d x hx with e | e
        · exact .inl e
        · exact .inr (List.mem_cons_of_mem _ e)
/-- nothing more can be chosen: then as many are chosen as the word ends with -/
theorem full_of (K : Kn n F V os T) {f : Nat} (hf : f < F) {l : List Int} (h : togB n (T f) os l = true) (hm : ∀ k, k < n → nth os k ∈ l ∨ togB n (T f) os (l ++ [nth os k]) = false) : T f n ≤ (cntB (chos os l) n : Nat) := by
  rw [togB_iff] at h
  have all : ∀ q, q ≤ n → (∀ p, p < q → chos os l p = true) ∨ T f n ≤ (cntB (chos os l) n : Nat) := fun q => by
    induction q with
    | zero => exact fun _ => .inl fun p hp => absurd hp (by omega)
    | succ q ih =>
      intro hq
      rcases ih (by omega) with a | a
      · rcases hm q (by omega) with c | c
        · left
          intro p hp
          by_cases e : p = q
          · subst e; exact decide_eq_true c
          · exact a p (by omega)
        · right
          have hn : ¬ ∀ p, p < n → ((cntB (chos os (l ++ [nth os q])) n : Nat) : Int) - (cntB (chos os (l ++ [nth os q])) p : Nat) ≤ T f n - T f p := fun z => by
            rw [togB_iff.mpr z] at c
            cases c
          obtain ⟨r, hr⟩ := Classical.not_forall.mp hn
          obtain ⟨hr1, hr2⟩ := Classical.not_imp.mp hr
          have one : ∀ j, j ≤ n → cntB (chos os (l ++ [nth os q])) j ≤ cntB (chos os l) j + (if q < j then 1 else 0) := fun j => by
            induction j with
            | zero => intro _; simp [cntB]
            | succ j ihj =>
              intro hj
              have i1 := ihj (by omega)
              rw [cntB_succ, cntB_succ]
              by_cases e : j = q
              · subst e
                have : ¬ (j < j) := by omega
                rw [if_neg this] at i1
                rw [if_pos (show j < j + 1 by omega)]
                split <;> split <;> omega
              · have hne : chos os (l ++ [nth os q]) j = chos os l j := by
                  unfold chos
                  rw [decide_eq_decide, List.mem_append]
                  refine ⟨fun z => z.resolve_right fun y => ?_, .inl⟩
                  have y : nth os j = nth os q := by simpa using y
                  have e1 := idx_nth K.nodup (show j < os.length by rw [K.len]; omega)
                  have e2 := idx_nth K.nodup (show q < os.length by rw [K.len]; omega)
                  rw [y, e2] at e1
                  exact e e1.symm
                rw [hne]
                by_cases z : q < j
                · rw [if_pos z] at i1
                  rw [if_pos (show q < j + 1 by omega)]
                  omega
                · rw [if_neg z] at i1
                  rw [if_neg (show ¬ q < j + 1 by omega)]
                  omega
          have ge : ∀ j, cntB (chos os l) j ≤ cntB (chos os (l ++ [nth os q])) j := fun j => by
            have := (cnt_late (a := chos os l) (b := chos os (l ++ [nth os q])) (fun k hk => decide_eq_true (List.mem_append_left _ (of_decide_eq_true hk))) (p := 0) j (by omega)).1
            have e0 : cntB (chos os l) 0 = 0 := rfl
            have e1 : cntB (chos os (l ++ [nth os q])) 0 = 0 := rfl
            omega
          have g1 := ge r
          have g2 := one n (Nat.le_refl n)
          rw [if_pos (by omega)] at g2
          have g3 := h r hr1
          have hrq : r ≤ q := by
            by_cases z : r ≤ q
            · exact z
            · exfalso
              -- the place stands ahead of r: nothing is later
              have same : ∀ j, q < j → j ≤ n → cntB (chos os (l ++ [nth os q])) j = cntB (chos os l) j + (cntB (chos os (l ++ [nth os q])) (q + 1) - cntB (chos os l) (q + 1)) := fun j => by
                induction j with
                | zero => intro y; omega
                | succ j ihj =>
                  intro y1 y2
                  by_cases e : j = q
                  · subst e
                    have := ge (j + 1)
                    omega
                  · have i1 := ihj (by omega) (by omega)
                    rw [cntB_succ (d := j), cntB_succ (d := j)]
                    have hne : chos os (l ++ [nth os q]) j = chos os l j := by
                      unfold chos
                      rw [decide_eq_decide, List.mem_append]
                      refine ⟨fun z => z.resolve_right fun y => ?_, .inl⟩
                      have y : nth os j = nth os q := by simpa using y
                      have e1 := idx_nth K.nodup (show j < os.length by rw [K.len]; omega)
                      have e2 := idx_nth K.nodup (show q < os.length by rw [K.len]; omega)
                      rw [y, e2] at e1
                      exact e e1.symm
                    rw [hne]
                    omega
              have s1 := same n (by omega) (Nat.le_refl n)
              have s2 := same r (by omega) (by omega)
              omega
          have cq : ∀ j, j ≤ r → cntB (chos os l) j = j := fun j => by
            induction j with
            | zero => intro _; rfl
            | succ j ihj =>
              intro hj
              rw [cntB_succ, ihj (by omega), a j (by omega)]
              rfl
          have c1 := cq r (Nat.le_refl r)
          have b1 := K.bound hf (show r ≤ n by omega)
          omega
      · exact .inr a
  rcases all n (Nat.le_refl n) with a | a
  · have cq : ∀ j, j ≤ n → cntB (chos os l) j = j := fun j => by
      induction j with
      | zero => intro _; rfl
      | succ j ihj =>
        intro hj
        rw [cntB_succ, ihj (by omega), a j (by omega)]
        rfl
    have c1 := cq n (Nat.le_refl n)
    have b1 := K.bound hf (Nat.le_refl n)
    omega
  · exact a
/-- of the first things of the order no fewer are chosen than the word tells, whatever things come first -/
theorem grd_least (K : Kn n F V os T) {f : Nat} (hf : f < F) {ys : List Int} (hy : ∀ k, k < n → nth os k ∈ ys) {e : Nat} (he : e < n) : T f e ≤ (cntB (chos os (grd n (T f) os [] ys)) e : Nat) := by
  have h0 : togB n (T f) os [] = true := togB_iff.mpr fun p hp => by
    have e : ∀ j, cntB (chos os []) j = 0 := fun j => by
      induction j with
      | zero => rfl
      | succ j ih => rw [cntB_succ, ih]; simp [chos]
    rw [e, e]
    have := (K.word hf (show p ≤ n by omega) (Nat.le_refl n)).1
    omega
  obtain ⟨_, b, c, _⟩ := grd_spec ys [] h0
  have fu := full_of K hf b fun k hk => c _ (hy k hk)
  have := togB_iff.mp b e he
  omega
end
end LW
namespace LW
open PySem L2 DL
section
variable {n F : Nat} {V : Nat → Int} {os : List Int} {T U : Nat → Nat → Int}
theorem in_listI {ρ : DL.Env} {l : List Int} {x : Int} {neg : Bool} : inG neg ρ (.cl (.int x)) (.cl (.list (l.map .int))) = some (.cl (.bool (neg ^^ decide (x ∈ l))), ρ) := not_in_wr (c := true)
theorem in_tupI {ρ : DL.Env} {l : List Int} {x : Int} {neg : Bool} : inG neg ρ (.cl (.int x)) (.cl (.tuple (l.map .int))) = some (.cl (.bool (neg ^^ decide (x ∈ l))), ρ) := not_in_wr (c := false)
theorem iv_lastI {m : Nat} {w : Nat → Int} : atI (iv (m + 1) w) (-1) = some (.int (w m)) := by
  unfold atI
  rw [iv_len, ixN_last]
  show (iv (m + 1) w)[m]? = _
  unfold iv
  rw [List.getElem?_map, List.getElem?_range (by omega)]
  rfl
def TogI (o w l : PyData) (n : Nat) (wf : Nat → Int) (c : Nat → Bool) (i : Nat) (ρ : DL.Env) : Prop := (∀ p, n - i ≤ p → p < n → ((cntB c n : Nat) : Int) - (cntB c p : Nat) ≤ wf n - wf p) ∧ ∃ c4, ρ = [.cl o, .cl w, .cl l, .cl (.int (((cntB c n : Nat) : Int) - (cntB c (n - i) : Nat))), c4]
def TogR (n : Nat) (wf : Nat → Int) (c : Nat → Bool) (r : Val) (ρ : DL.Env) : Prop := r = .cl (.bool false) ∧ ¬ ∀ p, p < n → ((cntB c n : Nat) : Int) - (cntB c p : Nat) ≤ wf n - wf p
theorem together_ok (ho : os.length = n) (hn : n ≤ 100) {w : Nat → Int} (hw : ∀ k, k ≤ n → 0 ≤ w k ∧ w k ≤ 1000) (l : List Int) : LsEnd (.bool (togB n w os l)) (F_can_be_together [.tuple (os.map .int), .tuple (iv (n + 1) w), .list (l.map .int)]) := by
  have hn3 : (-1000000 : Int) ≤ (n : Int) - 1 ∧ (n : Int) - 1 ≤ 1000000 := by omega
  have e0 : os.map PyData.int = iv n (nth os) := by rw [iv_getD, ho]
  unfold F_can_be_together g_can_be_together
  rw [e_runP]
  simp [argE, ho, hn3.1, hn3.2]
  refine use_loopT (P := fun r => LsEnd _ (kPu (kSq r _))) (TogI (.tuple (os.map .int)) (.tuple (iv (n + 1) w)) (.list (l.map .int)) n w (chos os l)) (TogR n w (chos os l)) ?_ ?_ ?_ ?_
  · exact ⟨fun p h1 h2 => absurd h1 (by omega), .no, by simp⟩
  · rintro i d ρ hd ⟨hI, c4, rfl⟩
    obtain ⟨hi, rfl⟩ := rng_get hd
    obtain ⟨p, hp⟩ : ∃ p : Nat, n = p + i + 1 := ⟨n - i - 1, by omega⟩
    have ep : (n : Int) - 1 + (i : Int) * -1 = (p : Nat) := by omega
    rw [ep]
    have e1 : n - i = p + 1 := by omega
    have e2 : n - (i + 1) = p := by omega
    have a1 : atI (os.map PyData.int) ((p : Nat) : Int) = some (.int (nth os p)) := by rw [e0]; exact iv_at1 (by omega) rfl
    have a2 : atI (iv (n + 1) w) ((p : Nat) : Int) = some (.int (w p)) := iv_at1 (by omega) rfl
    have hc : cntB (chos os l) (p + 1) = cntB (chos os l) p + (if chos os l p = true then 1 else 0) := cntB_succ
    have hin : ∀ {ρ : DL.Env}, inG false ρ (.cl (.int (nth os p))) (.cl (.list (l.map .int))) = some (.cl (.bool (chos os l p)), ρ) := fun {ρ} => by rw [in_listI]; simp [chos]
    have nxt : ∀ z : Int, z = ((cntB (chos os l) n : Nat) : Int) - (cntB (chos os l) p : Nat) → z ≤ w n - w p → TurnsR (TogI (.tuple (os.map .int)) (.tuple (iv (n + 1) w)) (.list (l.map .int)) n w (chos os l) (i + 1)) (TogR n w (chos os l)) (some (.nx [.cl (.tuple (os.map .int)), .cl (.tuple (iv (n + 1) w)), .cl (.list (l.map .int)), .cl (.int z), .cl (.int (p : Nat))])) := fun z hz hle => by
      refine turnsR_nx ⟨fun q h1 h2 => ?_, _, by rw [e2, hz]⟩
      by_cases e : q = p
      · subst e; omega
      · exact hI q (by omega) h2
    have bad : ∀ (z : Int) (c : Cell), z = ((cntB (chos os l) n : Nat) : Int) - (cntB (chos os l) p : Nat) → ¬ z ≤ w n - w p → ∀ ρ, TurnsR (TogI (.tuple (os.map .int)) (.tuple (iv (n + 1) w)) (.list (l.map .int)) n w (chos os l) (i + 1)) (TogR n w (chos os l)) (some (.rt (.cl (.bool false)) ρ)) := fun z c hz hle ρ => turnsR_rt ⟨rfl, fun y => hle (by rw [hz]; exact y p (by omega))⟩
    rw [e1] at *
    cases hq : chos os l p with
    | true =>
      rw [hq] at hc hin
      by_cases q : ((cntB (chos os l) n : Nat) : Int) - (cntB (chos os l) (p + 1) : Nat) + 1 ≤ w n - w p
      · have q' : ¬ w n - w p < ((cntB (chos os l) n : Nat) : Int) - (cntB (chos os l) (p + 1) : Nat) + 1 := by omega
        simp [-e_in, a1, hin, a2, iv_lastI, q']
        exact nxt _ (by simp at hc; omega) q
      · have q' : w n - w p < ((cntB (chos os l) n : Nat) : Int) - (cntB (chos os l) (p + 1) : Nat) + 1 := by omega
        simp [-e_in, a1, hin, a2, iv_lastI, q']
        exact bad _ .no (by simp at hc; omega) q _
    | false =>
      rw [hq] at hc hin
      by_cases q : ((cntB (chos os l) n : Nat) : Int) - (cntB (chos os l) (p + 1) : Nat) ≤ w n - w p
      · have q' : ¬ w n - w p < ((cntB (chos os l) n : Nat) : Int) - (cntB (chos os l) (p + 1) : Nat) := by omega
        simp [-e_in, a1, hin, a2, iv_lastI, q']
        exact nxt _ (by simp at hc; omega) q
      · have q' : w n - w p < ((cntB (chos os l) n : Nat) : Int) - (cntB (chos os l) (p + 1) : Nat) := by omega
        simp [-e_in, a1, hin, a2, iv_lastI, q']
        exact bad _ .no (by simp at hc; omega) q _
  · rintro ρ' ⟨hI, c4, rfl⟩
    have t : togB n w os l = true := togB_iff.mpr fun p hp => hI p (by rw [rngD_len]; omega) hp
    rw [t]
    simp
    rfl
  · rintro r ρ' ⟨rfl, h⟩
    have t : togB n w os l = false := by
      cases q : togB n w os l with
      | false => rfl
      | true => exact absurd (togB_iff.mp q) h
    rw [t]
    simp
    rfl
theorem grd_snoc {w : Nat → Int} {y : Int} : ∀ (ys acc : List Int), grd n w os acc (ys ++ [y]) = if togB n w os (grd n w os acc ys ++ [y]) = true then grd n w os acc ys ++ [y] else grd n w os acc ys
  | [], acc => by
    show grd n w os acc [y] = _
    unfold grd
    rfl
  | x :: ys, acc => by
    rw [List.cons_append]
    unfold grd
    split
    · exact grd_snoc ys _
    · exact grd_snoc ys _
theorem grd_len {w : Nat → Int} : ∀ (ys acc : List Int), (grd n w os acc ys).length ≤ acc.length + ys.length
  | [], acc => by unfold grd; simp
  | x :: ys, acc => by
    unfold grd
    split
    · have := grd_len (w := w) ys (acc ++ [x])
      rw [List.length_append] at this
      simp at this ⊢
      omega
    · have := grd_len (w := w) ys acc
      simp
      omega
def ChI (k f t o w : PyData) (n : Nat) (wf : Nat → Int) (os ys : List Int) (i : Nat) (ρ : DL.Env) : Prop := ∃ c6, ρ = [.cl k, .cl f, .cl t, .cl o, .cl w, .op ((grd n wf os [] (ys.take i)).map .int), c6]
theorem choice_ok (K : Kn n F V os T) (hn : n ≤ 16) (hF : F ≤ 4) {f : Nat} (hf : f < F) (ys : List Int) (hy : ys.length ≤ 1000) : F_choice_within [knowD os F T, .int (f : Nat), .list (ys.map .int)] = some (.own ((grd n (T f) os [] ys).map .int)) := by
  have ek : knowD os F T = .tuple [.tuple (os.map .int), .tuple (rowsT F (n + 1) T)] := by unfold knowD; rw [K.len]
  have at1 : atI (rowsT F (n + 1) T) ((f : Nat) : Int) = some (.tuple (iv (n + 1) (T f))) := gl_at rfl hf
  have tog := fun l => together_ok (os := os) K.len (by omega) (w := T f) (fun k hk => by have := K.bound hf hk; omega) l
  unfold LsEnd at tog
  have goal : ∀ x : Option Val, x = some (.own ((grd n (T f) os [] ys).map .int)) → x = some (.own ((grd n (T f) os [] ys).map .int)) := fun _ h => h
  unfold F_choice_within g_choice_within
  rw [e_runP, ek]
  simp [argE]
  refine use_loop (P := fun x => kPu (kSq x _) = _) (ChI (.tuple [.tuple (os.map .int), .tuple (rowsT F (n + 1) T)]) (.int (f : Nat)) (.list (ys.map .int)) (.tuple (os.map .int)) (.tuple (rowsT F (n + 1) T)) n (T f) os ys) ?_ ?_ ?_
  · exact ⟨.no, by simp [grd]⟩
  · rintro i d ρ hd ⟨c6, rfl⟩
    obtain ⟨hi, e⟩ := List.getElem?_eq_some_iff.mp hd
    rw [List.getElem_map] at e
    subst e
    have hi' : i < ys.length := by simpa using hi
    have et : ys.take (i + 1) = ys.take i ++ [ys[i]] := by rw [List.take_add_one, List.getElem?_eq_getElem hi']; rfl
    have hs := grd_snoc (n := n) (os := os) (w := T f) (y := ys[i]) (ys.take i) []
    rw [← et] at hs
    have hl := grd_len (n := n) (os := os) (w := T f) (ys.take i) []
    rw [List.length_take] at hl
    simp only [List.length_nil] at hl
    have tg := tog (grd n (T f) os [] (ys.take i) ++ [ys[i]])
    rw [List.map_append] at tg
    have nxt : ∀ G : List Int, G = grd n (T f) os [] (ys.take (i + 1)) → Turns (ChI (.tuple [.tuple (os.map .int), .tuple (rowsT F (n + 1) T)]) (.int (f : Nat)) (.list (ys.map .int)) (.tuple (os.map .int)) (.tuple (rowsT F (n + 1) T)) n (T f) os ys (i + 1)) (some (.nx [.cl (.tuple [.tuple (os.map .int), .tuple (rowsT F (n + 1) T)]), .cl (.int (f : Nat)), .cl (.list (ys.map .int)), .cl (.tuple (os.map .int)), .cl (.tuple (rowsT F (n + 1) T)), .op (G.map .int), .cl (.int ys[i])])) := fun G hG => by
      rw [hG]
      exact turns_nx ⟨_, rfl⟩
    generalize hG : grd n (T f) os [] (ys.take i) = G at *
    have hadd : ∀ {ρ : DL.Env}, ρ.getD 5 .no = .op (G.map .int) → addG ρ (.sl 5) (.own [.int ys[i]]) = some (.own (G.map .int ++ [.int ys[i]]), ρ) := fun {ρ} h => add_so h (by rw [List.length_map]; simp; omega)
    have tg' : F_can_be_together [.tuple (os.map .int), .tuple (iv (n + 1) (T f)), .list (G.map .int ++ [.int ys[i]])] = some (.cl (.bool (togB n (T f) os (G ++ [ys[i]])))) := tg
    have hlt : (G.map PyData.int).length < 1000000 := by rw [List.length_map]; omega
    have hlt2 : G.length < 1000000 := by omega
    cases q : togB n (T f) os (G ++ [ys[i]]) with
    | true =>
      rw [q] at hs tg'
      rw [if_pos rfl] at hs
      simp [at1, hadd, tg', hlt2]
      have := nxt (G ++ [ys[i]]) hs.symm
      rw [List.map_append] at this
      exact this
    | false =>
      rw [q] at hs tg'
      rw [if_neg (by simp)] at hs
      simp [at1, hadd, tg']
      exact nxt G hs.symm
  · rintro ρ' ⟨c6, rfl⟩
    rw [List.length_map, List.take_length]
    simp
theorem lot_filter (K : Kn n F V os T) (l : List Int) (neg : Bool) : os.filter (fun x => neg ^^ decide (x ∈ l)) = plc os n fun k => neg ^^ chos os l k := by
  have e0 : os = (List.range n).map (nth os) := by
    conv => lhs; rw [← plc_all K]
    unfold plc
    rw [List.filter_eq_self.mpr fun _ _ => rfl]
  conv => lhs; rw [e0]
  rw [List.filter_map]
  rfl
end
end LW
namespace LW
open PySem L2 DL
section
variable {n F : Nat} {V : Nat → Int} {os : List Int} {T U : Nat → Nat → Int}
/-- the state for a lot, told in any order -/
theorem with_lot_any (K : Kn n F V os T) (l : List Int) (hn : n < 900) (hF : F < 900) : ∃ s : Nat → Int, (∀ x, 0 ≤ s x ∧ s x ≤ F) ∧ F_state_with_lot [house n F V, knowD os F T, .list (l.map .int)] = some (.cl (.tuple (iv n s))) := by
  have e1 := sizes_of n F (by omega) T (.tuple (os.map .int))
  have ek : knowD os F T = .tuple [.tuple (os.map .int), .tuple (rowsT F (n + 1) T)] := by unfold knowD; rw [K.len]
  have e2 := of_lots_ok n F V true ((List.range F).map (wlL os n T (chos os l))) (by omega) (by rw [List.length_map, List.length_range]; omega)
  rw [List.map_map] at e2
  have hl := K.len
  have p1 := lot_filter K l false
  have p2 := lot_filter K l true
  have hpl : (plc os n (chos os l)).length ≤ n := by
    rw [plc_len]
    have := cntB_not (b := chos os l) n
    omega
  have hpl2 : (plc os n fun k => !chos os l k).length ≤ n := by
    rw [plc_len]
    have := cntB_not (b := chos os l) n
    omega
  refine ⟨fun x => (notIn ((List.range F).map (wlL os n T (chos os l))) ((x : Nat) : Int) : Nat), fun x => ?_, ?_⟩
  · have := List.length_filter_le (fun l => !decide (((x : Nat) : Int) ∈ l)) ((List.range F).map (wlL os n T (chos os l)))
    rw [List.length_map, List.length_range] at this
    exact ⟨Int.natCast_nonneg _, Int.ofNat_le.mpr this⟩
  unfold F_state_with_lot g_state_with_lot
  rw [e_runP, ek]
  simp [argE]
  rw [lc_filL (fun x => false ^^ decide (x ∈ l)) (by simp) (by omega) (by simp) (by
    intro x hx
    have e : ∀ ρ : DL.Env, inG false ρ (.cl (.int x)) (.cl (.list (l.map .int))) = some (.cl (.bool (false ^^ decide (x ∈ l))), ρ) := fun ρ => in_listI
    by_cases q : x ∈ l
    · simp [-e_in, e, q]
    · simp [-e_in, e, q]), p1]
  simp
  rw [lc_filL (fun x => true ^^ decide (x ∈ l)) (by simp) (by omega) (by simp) (by
    intro x hx
    have e : ∀ ρ : DL.Env, inG true ρ (.cl (.int x)) (.cl (.list (l.map .int))) = some (.cl (.bool (true ^^ decide (x ∈ l))), ρ) := fun ρ => in_listI
    by_cases q : x ∈ l
    · simp [-e_in, e, q]
    · simp [-e_in, e, q]), p2]
  simp [e1]
  have eb : (plc os n fun k => chos os l k) = plc os n (chos os l) := rfl
  rw [eb]
  have eg : (iv F fun f => T f n) = gl F fun f => .int (T f n) := rfl
  generalize hb : chos os l = b at *
  rw [eg, lc_gl (fun f => wr true (wlL os n T b f)) (by simp) (by omega) (by simp) (by
    intro f hf
    have hb := K.bound hf (Nat.le_refl n)
    have c1 : cutD ((plc os n b).map PyData.int) none (some (T f n)) = ((plc os n b).take (T f n).toNat).map .int := by
      conv => lhs; rw [show T f n = (((T f n).toNat : Nat) : Int) by omega]
      rw [cut_upto, List.map_take]
    have c2 : cutD ((plc os n fun k => !b k).map PyData.int) none (some (max 0 (T f n - ((plc os n b).length : Nat)))) = ((plc os n fun k => !b k).take (max 0 (T f n - cntB b n)).toNat).map .int := by
      conv => lhs; rw [show max 0 (T f n - (((plc os n b).length : Nat) : Int)) = (((max 0 (T f n - cntB b n)).toNat : Nat) : Int) by rw [plc_len]; omega]
      rw [cut_upto, List.map_take]
    have ea : ∀ ρ : DL.Env, addG ρ (.own (((plc os n b).take (T f n).toNat).map .int)) (.own (((plc os n fun k => !b k).take (max 0 (T f n - cntB b n)).toNat).map .int)) = some (.own ((wlL os n T b f).map .int), ρ) := fun ρ => by
      rw [add_seq rfl rfl (by rw [List.length_map, List.length_map, List.length_take, List.length_take]; omega), ← List.map_append]
      rfl
    have b1 : -1000000 ≤ T f n ∧ T f n ≤ 1000000 := by omega
    have b2 : -1000000 ≤ max 0 (T f n - ((plc os n b).length : Nat)) ∧ max 0 (T f n - ((plc os n b).length : Nat)) ≤ 1000000 := by omega
    have ex : binD (sliceD (varD 4) noP (aP (varD 8)) cutG) (sliceD (varD 5) noP (aP (callD (acons (conD (.int 0)) (acons (binD (varD 8) (callD (acons (varD 4) anil) (oneG lenG)) (intG (i2i fun i j => i - j))) anil)) max2G)) cutG) addG
        [.cl (house n F V), .cl (.tuple [.tuple (os.map .int), .tuple (rowsT F (n + 1) T)]), .cl (.list (l.map .int)), .cl (.tuple (os.map .int)), .op ((plc os n b).map .int), .op ((plc os n fun k => !b k).map .int), .no, .no, .cl (.int (T f n))] =
        some (.own ((wlL os n T b f).map .int), [.cl (house n F V), .cl (.tuple [.tuple (os.map .int), .tuple (rowsT F (n + 1) T)]), .cl (.list (l.map .int)), .cl (.tuple (os.map .int)), .op ((plc os n b).map .int), .op ((plc os n fun k => !b k).map .int), .no, .no, .cl (.int (T f n))]) := by
      simp [b1.1, b1.2, b2.1, b2.2, c1]
      rw [c2, ← List.map_take, ea]
    simp [-e_bin, ex, wr])]
  have e2' : F_state_of_lots [house n F V, .list (gl F fun f => wr true (wlL os n T b f))] = some (.cl (.tuple (iv n fun x => (notIn ((List.range F).map (wlL os n T b)) ((x : Nat) : Int) : Nat)))) := e2
  simp [e2']
theorem take_chosen (K : Kn n F V os T) (l : List Int) : ∀ e, e ≤ n → ((os.take e).filter fun x => decide (x ∈ l)).length = cntB (chos os l) e
  | 0, _ => by simp [cntB]
  | e + 1, h => by
    have he : e < os.length := by rw [K.len]; omega
    have hx : nth os e = os[e] := by unfold nth; rw [List.getD_eq_getElem?_getD, List.getElem?_eq_getElem he]; rfl
    rw [List.take_add_one, List.getElem?_eq_getElem he, List.filter_append, List.length_append, take_chosen K l e (by omega), cntB_succ]
    congr 1
    unfold chos
    rw [hx]
    by_cases q : os[e] ∈ l <;> simp [q]
theorem number_ok (K : Kn n F V os T) (hn : n ≤ 16) (hF : F ≤ 4) (l : List Int) {e : Nat} (he : e ≤ n) : ∃ s : Nat → Int, (∀ x, 0 ≤ s x ∧ s x ≤ F) ∧ F_number_within [house n F V, knowD os F T, .tuple ((os.take e).map .int), .list (l.map .int)] = some (.cl (.tuple [.int (cntB (chos os l) e : Nat), .tuple (iv n s)])) := by
  obtain ⟨s, hs, ew⟩ := with_lot_any K l (by omega) (by omega)
  refine ⟨s, hs, ?_⟩
  have hl := K.len
  have hc := take_chosen K l e he
  have hle : (os.take e).length ≤ 16 := by rw [List.length_take]; omega
  have hfl : ((os.take e).filter fun x => decide (x ∈ l)).length ≤ 16 := Nat.le_trans (List.length_filter_le _ _) hle
  unfold F_number_within g_number_within
  rw [e_runP]
  generalize house n F V = hs at *
  generalize knowD os F T = kn at *
  simp only [argE]
  generalize os.take e = lt at *
  simp
  rw [lc_ints (fun x => decide (x ∈ l)) (by simp) (by omega) (by simp) (by
    intro x hx
    have e : ∀ ρ : DL.Env, inG false ρ (.cl (.int x)) (.cl (.list (l.map .int))) = some (.cl (.bool (false ^^ decide (x ∈ l))), ρ) := fun ρ => in_listI
    by_cases q : x ∈ l
    · simp [-e_in, e, q]
    · simp [-e_in, e, q])]
  simp [ew, hc]
theorem least_ok (K : Kn n F V os T) (hn : n ≤ 16) (hF : F ≤ 4) {f : Nat} (hf : f < F) {e : Nat} (he : e < n) : ∃ (N : Nat) (s : Nat → Int), T f e ≤ (N : Nat) ∧ N ≤ n ∧ F_least_within [house n F V, knowD os F T, .tuple ((os.take e).map .int), .int (f : Nat)] = some (.cl (.tuple [.int (N : Nat), .tuple (iv n s)])) := by
  have hl := K.len
  have ho : (os.filter fun x => decide (x ∉ os.take e)).length ≤ n := Nat.le_trans (List.length_filter_le _ _) (by omega)
  have htl : (os.take e).length ≤ n := by rw [List.length_take]; omega
  have ch := choice_ok K hn hF hf ((os.filter fun x => decide (x ∉ os.take e)) ++ os.take e) (by rw [List.length_append]; omega)
  obtain ⟨s, hs, en⟩ := number_ok K hn hF (grd n (T f) os [] ((os.filter fun x => decide (x ∉ os.take e)) ++ os.take e)) (e := e) (by omega)
  have hg := grd_least K hf (ys := (os.filter fun x => decide (x ∉ os.take e)) ++ os.take e) (fun k hk => by
    have hm : nth os k ∈ os := nth_mem (by rw [hl]; exact hk)
    by_cases q : nth os k ∈ os.take e
    · exact List.mem_append_right _ q
    · exact List.mem_append_left _ (List.mem_filter.mpr ⟨hm, decide_eq_true q⟩)) he
  have hb : cntB (chos os (grd n (T f) os [] ((os.filter fun x => decide (x ∉ os.take e)) ++ os.take e))) e ≤ n := by
    have := cntB_not (b := chos os (grd n (T f) os [] ((os.filter fun x => decide (x ∉ os.take e)) ++ os.take e))) e
    omega
  refine ⟨_, s, hg, hb, ?_⟩
  have ek : knowD os F T = .tuple [.tuple (os.map .int), .tuple (rowsT F (n + 1) T)] := by unfold knowD; rw [K.len]
  unfold F_least_within g_least_within
  rw [e_runP]
  rw [ek] at ch en ⊢
  simp only [argE]
  rw [List.map_append] at ch
  generalize hG : grd n (T f) os [] ((os.filter fun x => decide (x ∉ os.take e)) ++ os.take e) = G at *
  generalize hO : (os.filter fun x => decide (x ∉ os.take e)) = O at *
  generalize hL : os.take e = lt at *
  simp
  rw [lc_ints (fun x => decide (x ∉ lt)) (by simp) (by omega) (by simp) (by
    intro x hx
    have e : ∀ ρ : DL.Env, inG true ρ (.cl (.int x)) (.cl (.tuple (lt.map .int))) = some (.cl (.bool (true ^^ decide (x ∈ lt))), ρ) := fun ρ => in_tupI
    by_cases q : x ∈ lt
    · simp [-e_in, e, q]
    · simp [-e_in, e, q]), hO]
  have hadd : ∀ {ρ : DL.Env}, ρ.getD 4 .no = .op (O.map .int) → addG ρ (.sl 4) (.own (lt.map .int)) = some (.own (O.map .int ++ lt.map .int), ρ) := fun {ρ} h => add_so h (by rw [List.length_map, List.length_map]; omega)
  simp [hadd, ch, en]
end
end LW
namespace LW
open PySem L2 DL
section
variable {n F : Nat} {V : Nat → Int} {os : List Int} {T U : Nat → Nat → Int} {b : Nat → Bool}
theorem cntB_mono {b : Nat → Bool} {d : Nat} : ∀ e, d ≤ e → cntB b d ≤ cntB b e ∧ cntB b e ≤ cntB b d + (e - d)
  | 0, h => by rw [show d = 0 by omega]; omega
  | e + 1, h => by
    by_cases q : d = e + 1
    · subst q; omega
    · have := cntB_mono (b := b) (d := d) e (by omega)
      rw [cntB_succ]
      split <;> omega
end
end LW
namespace LW
open PySem L2 DL
def lstV (w : Nat → Int) (c : Nat → Bool) (p : Nat) : Int := w p - (cntB (fun k => !c k) p : Nat)
def lstN (w : Nat → Int) (c : Nat → Bool) : Nat → Int
  | 0 => max 0 (lstV w c 0)
  | p + 1 => max (lstN w c p) (lstV w c (p + 1))
theorem lstN_at {w : Nat → Int} {c : Nat → Bool} (h0 : w 0 = 0) : ∀ m, ∃ p, p ≤ m ∧ lstN w c m = lstV w c p
  | 0 => ⟨0, Nat.le_refl _, by
    have e : lstV w c 0 = 0 := by
      have : cntB (fun k => !c k) 0 = 0 := rfl
      unfold lstV
      omega
    show max 0 (lstV w c 0) = _
    omega⟩
  | m + 1 => by
    obtain ⟨p, hp, e⟩ := lstN_at (c := c) h0 m
    by_cases q : lstN w c m ≤ lstV w c (m + 1)
    · exact ⟨m + 1, Nat.le_refl _, by show max (lstN w c m) (lstV w c (m + 1)) = _; omega⟩
    · exact ⟨p, by omega, by show max (lstN w c m) (lstV w c (m + 1)) = _; omega⟩
theorem cntB_split {b c : Nat → Bool} : ∀ d, cntB b d = cntB (fun k => b k && c k) d + cntB (fun k => b k && !c k) d
  | 0 => rfl
  | d + 1 => by
    rw [cntB_succ, cntB_succ, cntB_succ, cntB_split (c := c) d]
    cases b d <;> cases c d <;> simp <;> omega
theorem cntB_imp {a b : Nat → Bool} : ∀ d, (∀ k, k < d → a k = true → b k = true) → cntB a d ≤ cntB b d
  | 0, _ => Nat.le_refl _
  | d + 1, h => by
    rw [cntB_succ, cntB_succ]
    have ih := cntB_imp d fun k hk => h k (by omega)
    have := h d (by omega)
    cases ha : a d with
    | true => rw [this ha]; simp; omega
    | false => cases b d <;> simp <;> omega
theorem lst_low {n : Nat} {w : Nat → Int} {b c : Nat → Bool} (h : ∀ p, p ≤ n → w p ≤ (cntB b p : Nat)) {p : Nat} (hp : p ≤ n) : lstV w c p ≤ (cntB (fun k => b k && c k) n : Nat) := by
  have h1 := h p hp
  have h2 := cntB_split (b := b) (c := c) p
  have h3 := cntB_imp (a := fun k => b k && !c k) (b := fun k => !c k) p (fun k _ z => by
    rw [Bool.and_eq_true] at z
    exact z.2)
  have h4 := (cntB_mono (b := fun k => b k && c k) (d := p) n hp).1
  unfold lstV
  omega
end LW
namespace LW
open PySem L2 DL
section
variable {n F : Nat} {V : Nat → Int} {os os2 : List Int} {T U : Nat → Nat → Int}
/-- what one knowledge tells is enough for the cuts of another one -/
def liesC (n F : Nat) (os : List Int) (T : Nat → Nat → Int) (os2 : List Int) (U : Nat → Nat → Int) : Prop := ∀ f, f < F → ∀ d ∈ cutL n (U f), U f d ≤ lstN (T f) (chos os (os2.take d)) n
/-- a state that fits one knowledge, but not another one: too few of a cut's things are within a floor -/
structure Beyond (n F : Nat) (os : List Int) (T : Nat → Nat → Int) (os2 : List Int) (U : Nat → Nat → Int) (b : Nat → Bool) (f d : Nat) : Prop where
  hf : f < F
  hd : d ∈ cutL n (U f)
  full : (cntB b n : Int) = T f n
  low : ∀ d, d ≤ n → T f d ≤ (cntB b d : Nat)
  less : (cntB (fun k => b k && chos os (os2.take d) k) n : Int) < U f d
theorem Beyond.not (B : Beyond n F os T os2 U b f d) (K : Kn n F V os T) : ¬ liesC n F os T os2 U := fun h => by
  have h1 := h f B.hf d B.hd
  obtain ⟨p, hp, e⟩ := lstN_at (c := chos os (os2.take d)) (K.tight.first f B.hf) n
  have := lst_low (c := chos os (os2.take d)) B.low hp
  have := B.less
  omega
end
end LW
namespace LW
open PySem L2 DL
end LW
namespace LW
open PySem L2 DL
end LW
namespace LW
open PySem L2 DL
section
variable {n F : Nat} {V : Nat → Int} {os os2 : List Int} {T U : Nat → Nat → Int}
theorem cut_own (K : Kn n F V os T) {f d : Nat} (hf : f < F) (hd : d ∈ cutL n (T f)) : 0 < d ∧ d < n ∧ T f (d - 1) < T f d ∧ T f (d + 1) = T f d := by
  obtain ⟨h1, h2, h3⟩ := cutL_mem.mp hd
  unfold cutB at h3
  rw [Bool.and_eq_true, decide_eq_true_eq, decide_eq_true_eq, show d - 1 + 1 = d by omega, show d - 1 + 2 = d + 1 by omega] at h3
  exact ⟨h1, h2, h3⟩
end
end LW
namespace LW
open PySem L2 DL
section
variable {n F : Nat} {V : Nat → Int} {os os2 : List Int} {T U : Nat → Nat → Int}
/-- the same sizes, the same cuts, with the same things ahead -/
structure Cuts (n F : Nat) (os : List Int) (T : Nat → Nat → Int) (os2 : List Int) (U : Nat → Nat → Int) : Prop where
  sz : ∀ f, f < F → T f n = U f n
  cut : ∀ f, f < F → ∀ d, d ∈ cutL n (T f) ↔ d ∈ cutL n (U f)
  val : ∀ f, f < F → ∀ d ∈ cutL n (T f), U f d = T f d ∧ (os2.take d).Perm (os.take d)
theorem Cuts.symm (C : Cuts n F os T os2 U) : Cuts n F os2 U os T := ⟨fun f hf => (C.sz f hf).symm, fun f hf d => (C.cut f hf d).symm, fun f hf d hd => by
  obtain ⟨a, b⟩ := C.val f hf d ((C.cut f hf d).mpr hd)
  exact ⟨a.symm, b.symm⟩⟩
theorem Cuts.le (C : Cuts n F os T os2 U) (K : Kn n F V os T) (K2 : Kn n F V os2 U) {f : Nat} (hf : f < F) {k : Nat} (hk : k ≤ n) : T f k ≤ U f k := by
  have := fit_cuts (n := n) (w := T f) (c := fun k => (U f (min k n)).toNat) (K.tight.word f hf) (K.tight.first f hf) (fun k hk => by
    have := (K2.word hf (show k ≤ k + 1 by omega) (by omega))
    have := (K2.bound hf (show k ≤ n by omega)).1
    simp only [show min k n = k by omega, show min (k + 1) n = k + 1 by omega]
    omega) (by
    have := (K2.bound hf (Nat.le_refl n)).1
    have := C.sz f hf
    simp only [Nat.min_self]
    omega) (fun d hd => by
    have := (cut_own K hf hd).2.1
    have := (C.val f hf d hd).1
    have := (K2.bound hf (show d ≤ n by omega)).1
    simp only [show min d n = d by omega]
    omega) k hk
  have := (K2.bound hf hk).1
  simp only [show min k n = k by omega] at *
  omega
theorem Cuts.words (C : Cuts n F os T os2 U) (K : Kn n F V os T) (K2 : Kn n F V os2 U) : ∀ f, f < F → ∀ k, k ≤ n → T f k = U f k := fun f hf k hk => by
  have := C.le K K2 hf hk
  have := C.symm.le K2 K hf hk
  omega
theorem Cuts.like (C : Cuts n F os T os2 U) (K : Kn n F V os T) (K2 : Kn n F V os2 U) : Like n F T os os2 := ⟨K.len, K2.len, fun d hd => by
  rcases List.mem_append.mp hd with h | h
  · obtain ⟨f, hf, hc⟩ := allC_mem.mp h
    exact (C.val f hf d hc).2
  · rw [List.mem_singleton.mp h, List.take_of_length_le (by rw [K2.len]; exact Nat.le_refl _), List.take_of_length_le (by rw [K.len]; exact Nat.le_refl _)]
    exact K2.perm.trans K.perm.symm⟩
end
end LW
namespace LW
open PySem L2 DL
section
variable {n F : Nat} {V : Nat → Int} {os os2 : List Int} {T U : Nat → Nat → Int}
abbrev Blk := List Int × Int
def itemD (p : Blk) : PyData := .tuple [tupI p.1, .int p.2]
def blkV (os : List Int) (w : Nat → Int) (es : List Nat) (b : Nat) : List Blk := (prs b es).map fun p => (lot os p, w p.2)
def blocksV (n : Nat) (os : List Int) (F : Nat) (T : Nat → Nat → Int) : List (List Blk) := (List.range F).map fun f => blkV os (T f) (cutL n (T f)) 0
theorem blocksV_D (hl : os.length = n) : blocksD os F T = .tuple ((blocksV n os F T).map fun l => .tuple (l.map itemD)) := by
  unfold blocksD blocksV gl blkV blkD
  rw [List.map_map, hl]
  congr 1
  apply List.map_congr_left
  intro f _
  show _ = PyData.tuple _
  rw [List.map_map]
  rfl
theorem cutL_congr {w u : Nat → Int} (h : ∀ k, k ≤ n → w k = u k) : cutL n w = cutL n u := by
  unfold cutL
  congr 1
  apply List.filter_congr
  intro k hk
  have hk := List.mem_range.mp hk
  unfold cutB
  rw [h k (by omega), h (k + 1) (by omega), h (k + 2) (by omega)]
theorem blocks_congr (hl : os.length = n) (h : ∀ f, f < F → ∀ k, k ≤ n → T f k = U f k) : blocksD os F T = blocksD os F U := by
  rw [blocksV_D hl, blocksV_D hl]
  congr 2
  unfold blocksV
  apply List.map_congr_left
  intro f hf
  have hf := List.mem_range.mp hf
  rw [cutL_congr (h f hf)]
  unfold blkV
  apply List.map_congr_left
  intro p hp
  have := (cutL_mem.mp (prs_mem hp).1).2.1
  rw [h f hf p.2 (by omega)]
theorem norm_congr (hl : os.length = n) (h : ∀ f, f < F → ∀ k, k ≤ n → T f k = U f k) : normO os F T = normO os F U := by
  have e : (List.range F).flatMap (fun f => cutL n (T f)) = (List.range F).flatMap fun f => cutL n (U f) := by
    rw [List.flatMap_def, List.flatMap_def]
    congr 1
    apply List.map_congr_left
    intro f hf
    exact cutL_congr (h f (List.mem_range.mp hf))
  unfold normO prsC endsC allC cutsI
  rw [hl, e]
theorem know_congr (hl : os.length = n) (h : ∀ f, f < F → ∀ k, k ≤ n → T f k = U f k) : knowD os F T = knowD os F U := by
  unfold knowD
  rw [hl, rowsT_cong2 fun f hf k hk => h f hf k (by omega)]
theorem Cuts.data (C : Cuts n F os T os2 U) (K : Kn n F V os T) (K2 : Kn n F V os2 U) : blocksD os2 F U = blocksD os F T ∧ knowD (normO os2 F U) F U = knowD (normO os F T) F T := by
  have w := C.words K K2
  have L := C.like K K2
  have w2 : ∀ f, f < F → ∀ k, k ≤ n → U f k = T f k := fun f hf k hk => (w f hf k hk).symm
  refine ⟨?_, ?_⟩
  · rw [blocks_congr K2.len w2, L.blocks]
  · rw [norm_congr K2.len w2, L.norm, know_congr (by rw [norm_len]; exact K.len) w2]
end
end LW
namespace LW
open PySem L2 DL
end LW
namespace LW
open PySem L2 DL
end LW
namespace LW
open PySem L2 DL
end LW
namespace LW
open PySem L2 DL
end LW
namespace DL
open PySem L2
section
variable {ρ : DL.Env} {α β : Type} {te : ED} {tt : TD} {fi1 : ID}
@[simp] theorem e_dic2V {i j k l : Nat} : dic2V i j k l ρ = match ρ.getD i .no, ρ.getD j .no, ρ.getD k .no, ρ.getD l .no with
  | .cl d, .cl e, .cl d2, .cl e2 => (keyOf d).bind fun q => (keyOf d2).bind fun q2 => if q = q2 then none else some (.cl (.dict [(d, e), (d2, e2)]), ρ)
  | _, _, _, _ => none := rfl
end
end DL
namespace LW
open PySem L2 DL
end LW
namespace LM
open PySem L2 DL LW
theorem take_succ {α : Type} {l : List α} {i : Nat} {a : α} (h : l[i]? = some a) : l.take (i + 1) = l.take i ++ [a] := by rw [List.take_add_one, h]; rfl
end LM
namespace K01
open PySem L2 DL LW LA
def qD (q : List Nat × List Nat) : PyData := .tuple [tupN q.1, tupN q.2]
def lay1 (q : List Nat × List Nat) (f : Nat) : List (List Nat × List Nat) := if 0 < q.2.getD f 0 then [(q.1 ++ [f], dec q.2 f)] else []
def layQ (q : List Nat × List Nat) : List (List Nat × List Nat) := (List.range q.2.length).flatMap (lay1 q)
noncomputable def bodyF : SD := (ifS (testD (binD (varD 9) (conD (.int 0)) (intG (i2b fun i j => decide (j < i))))) (dropS (metD 5 (acons (tupD (acons (binD (varD 6) (tupD (acons (varD 8) anil)) addG) (acons (binD (binD (sliceD (varD 7) noP (aP (varD 8)) cutG) (tupD (acons (binD (varD 9) (conD (.int 1)) (intG (i2i fun i j => i - j))) anil)) addG) (sliceD (varD 7) (aP (binD (varD 8) (conD (.int 1)) addG)) noP cutG) addG) anil))) anil) appG)) nilS)
noncomputable def bodyS2 : SD := (forS (enumI (acons (varD 7) anil)) (tupT [8, 9]) bodyF)
def F1 (h z : PyData) (c2 c3 c4 : Cell) (base : List PyData) (q : List Nat × List Nat) (i : Nat) (ρ : DL.Env) : Prop := ∃ c8 c9 : Cell, ρ = [.cl h, .cl z, c2, c3, c4, .op (base ++ ((List.range i).flatMap (lay1 q)).map qD), .cl (tupN q.1), .cl (tupN q.2), c8, c9, .no, .no]
theorem lay1_len (q : List Nat × List Nat) (f : Nat) : (lay1 q f).length ≤ 1 := by unfold lay1; split <;> simp
theorem flat_len {α β : Type} {g : α → List β} {m : Nat} (h : ∀ a, (g a).length ≤ m) : ∀ l : List α, (l.flatMap g).length ≤ m * l.length
  | [] => by simp
  | a :: l => by
    have := flat_len h l
    have := h a
    rw [List.flatMap_cons, List.length_append, List.length_cons, Nat.mul_succ]
    omega
theorem en_len2 : ∀ (l : List PyData) (k : Nat), (en k l).length = l.length
  | [], _ => rfl
  | d :: l, k => by
    show (en (k + 1) l).length + 1 = _
    rw [en_len2]; rfl
theorem dec_cut {cs : List Nat} {f c : Nat} (h : cs[f]? = some c) : nats (cs.take f) ++ ([.int ((c : Int) - 1)] ++ nats (cs.drop (f + 1))) = nats (dec cs f) ∨ c = 0 := by
  by_cases q : c = 0
  · exact .inr q
  left
  obtain ⟨hf, e⟩ := List.getElem?_eq_some_iff.mp h
  unfold dec
  rw [List.set_eq_take_append_cons_drop, if_pos hf]
  unfold nats
  rw [List.map_append, List.map_cons]
  have e2 : cs.getD f 0 = c := by rw [List.getD_eq_getElem?_getD, h]; rfl
  rw [e2, show (((c - 1 : Nat) : Nat) : Int) = (c : Int) - 1 by omega]
  rfl
theorem inner_ok {h z : PyData} {c2 c3 c4 c8 c9 : Cell} {base : List PyData} {q : List Nat × List Nat} (hb : base.length ≤ 100000) (h1 : q.1.length ≤ 1000) (h2 : q.2.length ≤ 10) :
    ∃ c8' c9', bodyS2 [.cl h, .cl z, c2, c3, c4, .op base, .cl (tupN q.1), .cl (tupN q.2), c8, c9, .no, .no] = some (.nx [.cl h, .cl z, c2, c3, c4, .op (base ++ (layQ q).map qD), .cl (tupN q.1), .cl (tupN q.2), c8', c9', .no, .no]) := by
  unfold bodyS2 tupN
  simp
  refine use_loop (P := fun x => ∃ c8' c9', x = some (.nx [.cl h, .cl z, c2, c3, c4, .op (base ++ (layQ q).map qD), .cl (tupN q.1), .cl (tupN q.2), c8', c9', .no, .no])) (F1 h z c2 c3 c4 base q) ⟨c8, c9, by simp [tupN]⟩ ?_ ?_
  · rintro i d ρ hd ⟨c8', c9', rfl⟩
    rw [enum_en, en_get] at hd
    obtain ⟨d0, hd0, rfl⟩ := Option.map_eq_some_iff.mp hd
    unfold nats at hd0
    rw [List.getElem?_map] at hd0
    obtain ⟨c, hc, rfl⟩ := Option.map_eq_some_iff.mp hd0
    have hi : i < q.2.length := (List.getElem?_eq_some_iff.mp hc).1
    have ll := flat_len (lay1_len q) (List.range i)
    rw [List.length_range] at ll
    have e2 : q.2.getD i 0 = c := by rw [List.getD_eq_getElem?_getD, hc]; rfl
    have er : (List.range (i + 1)).flatMap (lay1 q) = (List.range i).flatMap (lay1 q) ++ lay1 q i := by
      rw [List.range_succ, List.flatMap_append]; simp
    unfold bodyF tupN
    by_cases w : 0 < c
    · have dc := (dec_cut hc).resolve_right (by omega)
      have k1 : cutD (nats q.2) none (some ((i : Nat) : Int)) = nats (q.2.take i) := by
        rw [cut_to (by rw [nats_len]; omega)]; unfold nats; rw [List.map_take]
      have k2 : cutD (nats q.2) (some ((i : Int) + 1)) none = nats (q.2.drop (i + 1)) := by
        rw [show ((i : Int) + 1) = ((i + 1 : Nat) : Int) by omega, cut_from (by rw [nats_len]; omega)]; unfold nats; rw [List.map_drop]
      have e3 : lay1 q i = [(q.1 ++ [i], dec q.2 i)] := by unfold lay1; rw [e2, if_pos w]
      rw [e3] at er
      generalize (List.range i).flatMap (lay1 q) = X at *
      have l1 : q.1.length + 1 ≤ 1000000 := by omega
      have l2 : min i q.2.length + 1 ≤ 1000000 := by omega
      have l3 : min i q.2.length + 1 + (q.2.length - (i + 1)) ≤ 1000000 := by omega
      have l4 : base.length + X.length < 1000000 := by omega
      simp [w, k1, k2, l1, l2, l3, l4, nats_len]
      refine turns_nx ⟨.cl (.int (i : Nat)), .cl (.int (c : Nat)), ?_⟩
      have e5 : qD (q.1 ++ [i], dec q.2 i) = .tuple [.tuple (nats q.1 ++ [.int ((i : Nat) : Int)]), .tuple (nats (q.2.take i) ++ ([.int ((c : Int) - 1)] ++ nats (q.2.drop (i + 1))))] := by
        rw [dc]
        show PyData.tuple [.tuple (nats (q.1 ++ [i])), .tuple (nats (dec q.2 i))] = _
        rw [← nats_app]; rfl
      rw [er, List.map_append, List.map_cons, List.map_nil, e5]
      rfl
    · have e3 : lay1 q i = [] := by unfold lay1; rw [e2, if_neg w]
      simp [w]
      refine turns_nx ⟨.cl (.int (i : Nat)), .cl (.int (c : Nat)), ?_⟩
      rw [er, e3, List.append_nil]
      rfl
  · rintro ρ' ⟨c8', c9', rfl⟩
    refine ⟨c8', c9', ?_⟩
    have e6 : (enumD (nats q.2)).length = q.2.length := by rw [enum_en, en_len2, nats_len]
    rw [e6]
    rfl
noncomputable def bodyL1 : SD := (seqS (setS 5 (lstD anil))
    (seqS (forS (seqI (varD 3)) (tupT [6, 7]) bodyS2)
    (setS 3 (varD 5))))
def F2 (h z : PyData) (c2 c3 c4 : Cell) (L : List (List Nat × List Nat)) (i : Nat) (ρ : DL.Env) : Prop := ∃ c6 c7 c8 c9 : Cell, (c6.isOpen = false ∧ c7.isOpen = false) ∧ ρ = [.cl h, .cl z, c2, c3, c4, .op (((L.take i).flatMap layQ).map qD), c6, c7, c8, c9, .no, .no]
theorem layQ_len {q : List Nat × List Nat} (h : q.2.length ≤ 10) : (layQ q).length ≤ 10 := by
  have := flat_len (lay1_len q) (List.range q.2.length)
  rw [List.length_range] at this
  unfold layQ
  omega
theorem flat_le {L : List (List Nat × List Nat)} (h : ∀ q ∈ L, q.2.length ≤ 10) : (L.flatMap layQ).length ≤ 10 * L.length := by
  induction L with
  | nil => simp
  | cons q L ih =>
    have := ih fun p hp => h p (List.mem_cons_of_mem _ hp)
    have := layQ_len (h q (List.mem_cons_self ..))
    rw [List.flatMap_cons, List.length_append, List.length_cons]
    omega
theorem layer_ok {h z : PyData} {c2 c4 c5 c6 c7 c8 c9 c3 : Cell} {L : List (List Nat × List Nat)} (h3 : c3 = .op (L.map qD) ∨ c3 = .cl (.list (L.map qD))) (hL : L.length ≤ 3000) (hq : ∀ q ∈ L, q.1.length ≤ 1000 ∧ q.2.length ≤ 10) (o : c6.isOpen = false ∧ c7.isOpen = false) :
    ∃ c5' c6' c7' c8' c9', (c6'.isOpen = false ∧ c7'.isOpen = false) ∧ bodyL1 [.cl h, .cl z, c2, c3, c4, c5, c6, c7, c8, c9, .no, .no] = some (.nx [.cl h, .cl z, c2, .cl (.list ((lay L).map qD)), c4, c5', c6', c7', c8', c9', .no, .no]) := by
  have lp : ∀ c3 : Cell, ∃ c6' c7' c8' c9', (c6'.isOpen = false ∧ c7'.isOpen = false) ∧ loopD (tupT [6, 7]) bodyS2 (L.map qD) [.cl h, .cl z, c2, c3, c4, .op [], c6, c7, c8, c9, .no, .no] = some (.nx [.cl h, .cl z, c2, c3, c4, .op ((lay L).map qD), c6', c7', c8', c9', .no, .no]) := fun c3 => by
    refine use_loop (P := fun x => ∃ c6' c7' c8' c9', (c6'.isOpen = false ∧ c7'.isOpen = false) ∧ x = some (.nx [.cl h, .cl z, c2, c3, c4, .op ((lay L).map qD), c6', c7', c8', c9', .no, .no])) (F2 h z c2 c3 c4 L) ?_ ?_ ?_
    · exact ⟨c6, c7, c8, c9, o, by simp⟩
    · rintro i d ρ hd ⟨c6', c7', c8', c9', o', rfl⟩
      rw [List.getElem?_map] at hd
      obtain ⟨q, hq2, rfl⟩ := Option.map_eq_some_iff.mp hd
      obtain ⟨q1, q2⟩ := hq q (List.mem_of_getElem? hq2)
      have fl := flat_le (L := L.take i) fun p hp => (hq p (List.mem_of_mem_take hp)).2
      have lt := List.length_take_le i L
      obtain ⟨c8'', c9'', e⟩ := inner_ok (h := h) (z := z) (c2 := c2) (c3 := c3) (c4 := c4) (c8 := c8') (c9 := c9') (base := ((L.take i).flatMap layQ).map qD) (by rw [List.length_map, List.length_take] at *; omega) q1 q2
      have et : (L.take (i + 1)).flatMap layQ = (L.take i).flatMap layQ ++ layQ q := by
        rw [LM.take_succ hq2, List.flatMap_append]; simp
      rw [show qD q = PyData.tuple [tupN q.1, tupN q.2] from rfl]
      simp
      rw [e]
      exact turns_nx ⟨.cl (tupN q.1), .cl (tupN q.2), c8'', c9'', ⟨rfl, rfl⟩, by rw [et, List.map_append]⟩
    · rintro ρ' ⟨c6', c7', c8', c9', o', rfl⟩
      rw [List.length_map, List.take_length]
      exact ⟨_, _, _, _, o', rfl⟩
  unfold bodyL1
  rcases h3 with rfl | rfl
  · obtain ⟨c6', c7', c8', c9', o', e⟩ := lp (.cl (.list (L.map qD)))
    refine ⟨.cl (.list ((lay L).map qD)), c6', c7', c8', c9', o', ?_⟩
    simp
    rw [e]
    simp
  · obtain ⟨c6', c7', c8', c9', o', e⟩ := lp (.cl (.list (L.map qD)))
    refine ⟨.cl (.list ((lay L).map qD)), c6', c7', c8', c9', o', ?_⟩
    simp
    rw [e]
    simp
end K01
namespace K01
open PySem L2 DL LW LA
def AllL (i m : Nat) (L : List (List Nat × List Nat)) : Prop := ∀ q ∈ L, q.1.length = i ∧ q.2.length = m
theorem lay_all {i m : Nat} {L : List (List Nat × List Nat)} (h : AllL i m L) : AllL (i + 1) m (lay L) := by
  intro q hq
  obtain ⟨p, hp, h1⟩ := List.mem_flatMap.mp hq
  obtain ⟨f, _, h2⟩ := List.mem_flatMap.mp h1
  by_cases z : 0 < p.2.getD f 0
  · rw [if_pos z] at h2
    rw [List.mem_singleton.mp h2]
    obtain ⟨a, b⟩ := h p hp
    exact ⟨by rw [List.length_append, a]; rfl, by rw [← b]; exact dec_len⟩
  · rw [if_neg z] at h2; cases h2
def F3 (h z : PyData) (c2 : Cell) (n m : Nat) (L0 : List (List Nat × List Nat)) (i : Nat) (ρ : DL.Env) : Prop := ∃ (L : List (List Nat × List Nat)) (c3 c4 c5 c6 c7 c8 c9 : Cell), lays (n - i) L = lays n L0 ∧ Sums (n - i) L ∧ AllL i m L ∧ (c3 = .op (L.map qD) ∨ c3 = .cl (.list (L.map qD))) ∧ (c6.isOpen = false ∧ c7.isOpen = false) ∧ ρ = [.cl h, .cl z, c2, c3, c4, c5, c6, c7, c8, c9, .no, .no]
theorem sizes_ok {n : Nat} {R zs : List Int} (hn : n ≤ 16) (hR1 : 1 ≤ R.length) (hR : R.length ≤ 4) (hl : zs.length = R.length) (hz : ∀ z ∈ zs, -1000 ≤ z ∧ z ≤ 1000) :
    (cnts n 0 zs R = none → F__law_states_of_sizes [hs n R, .tuple (zs.map .int)] = some (.own [])) ∧
    ∀ cs, cnts n 0 zs R = some cs → pr n cs ≤ 3000 → F__law_states_of_sizes [hs n R, .tuple (zs.map .int)] = some (.own ((arr n (full n cs)).map tupN)) := by
  have my := many_ok hn hl hz
  constructor
  · intro hc
    rw [hc] at my
    have my : F__law_states_many [hs n R, .tuple (zs.map .int)] = some (.cl (.int 0)) := my
    unfold F__law_states_of_sizes LW.F__law_states_of_sizes LW.g__law_states_of_sizes
    rw [e_runP]
    simp [argE, my]
  · intro cs hc hp
    rw [hc] at my
    have my : F__law_states_many [hs n R, .tuple (zs.map .int)] = some (.cl (.int ((pr n cs : Nat) : Int))) := my
    obtain ⟨k1, k2, k3⟩ := cnts_ok hc (Nat.zero_le _)
    rw [Nat.zero_add] at k1
    have pp : ¬ pr n cs = 0 := by have := pr_pos k1; omega
    have df := cnts_diff hc
    have zp : zipD (zs.map PyData.int) (PyData.int 0 :: zs.map PyData.int) = (zs.zip (0 :: zs)).map fun p => .tuple [.int p.1, .int p.2] := zip_zz zs (0 :: zs)
    have zl : (zs.zip (0 :: zs)).length ≤ 4 := by rw [List.length_zip]; omega
    have lc := lc_mapL (α := Int × Int) (own := [10, 11]) (tg := tupT [10, 11]) (tt := yesT) (te := binD (varD 10) (varD 11) (intG (i2i fun i j => i - j))) (ρ := [.cl (hs n R), .cl (.tuple (zs.map .int)), .no, .no, .no, .no, .no, .no, .no, .no, .no, .no]) (l := zs.zip (0 :: zs)) (g := fun p => .tuple [.int p.1, .int p.2]) (fun p => .int (p.1 - p.2)) (by simp) (by omega) (by simp) (fun p _ => by simp)
    have em : ((zs.zip (0 :: zs)).map fun p => PyData.int (p.1 - p.2)) = nats cs := by
      have := congrArg (List.map PyData.int) df
      rw [List.map_map, List.map_map] at this
      exact this
    rw [em] at lc
    have lst : atI (zs.map PyData.int) (-1) = some (.int ((cs.sum : Nat) : Int)) := by
      rw [Nat.zero_add] at k3
      rcases List.eq_nil_or_concat zs with rfl | ⟨init, x, rfl⟩
      · rw [List.length_nil] at hl; omega
      · rw [List.concat_eq_append] at k3 ⊢
        have : x = ((cs.sum : Nat) : Int) := by rw [← k3]; simp
        rw [List.map_append, ← this]
        exact atI_last _ _
    have fl : nats cs ++ [.int ((n : Int) - ((cs.sum : Nat) : Int))] = nats (full n cs) := by
      unfold full
      rw [← nats_app, show (n : Int) - ((cs.sum : Nat) : Int) = ((n - cs.sum : Nat) : Int) by omega]
      rfl
    have fsum := full_sum k1
    have flen : (full n cs).length = R.length + 1 := by unfold full; rw [List.length_append, k2, hl]; rfl
    have al := arr_len n (full n cs) fsum
    have mp : mult (full n cs) = pr n cs := mult_pr k1
    have la := lays_arr n [([], full n cs)]
    have lall : (lays n [([], full n cs)]).length = pr n cs := by
      have := congrArg List.length la
      rw [List.length_map] at this
      rw [this, ← mp, ← al]; simp
    have csl : cs.length + 1 ≤ 1000000 := by rw [k2, hl]; omega
    unfold F__law_states_of_sizes LW.F__law_states_of_sizes LW.g__law_states_of_sizes
    rw [e_runP]
    have az : 1 + zs.length ≤ 1000000 := by omega
    simp [argE, my, pp, zp, az]
    rw [lc]
    have u : hs n R = .tuple [.int (n : Nat), .tuple (R.map .int)] := rfl
    rw [u]
    have bn : (n : Int) ≤ 1000000 := by omega
    have bn0 : (-1000000 : Int) ≤ n := by omega
    simp [lst, nats_len, csl, fl, bn, bn0]
    have hlen : (rngD 0 n 1).length = n := by rw [rngD_len]
    refine use_loop (P := fun x => kPu (kSq x _) = some (.own ((arr n (full n cs)).map tupN))) (F3 (.tuple [.int (n : Nat), .tuple (R.map .int)]) (.tuple (zs.map .int)) (.op (nats (full n cs))) n (R.length + 1) [([], full n cs)]) ?_ ?_ ?_
    · refine ⟨[([], full n cs)], _, _, _, _, _, _, _, rfl, fun q hq => ?_, fun q hq => ?_, .inl rfl, ⟨rfl, rfl⟩, rfl⟩
      · rw [List.mem_singleton.mp hq]; exact fsum
      · rw [List.mem_singleton.mp hq]; exact ⟨rfl, flen⟩
    · rintro i d ρ hd ⟨L, c3, c4, c5, c6, c7, c8, c9, h1, h2, h3, h4, h5, rfl⟩
      obtain ⟨hi, rfl⟩ := rng_get hd
      have ll := lays_len h2
      rw [h1, lall] at ll
      obtain ⟨m, hm⟩ : ∃ m, n - i = m + 1 := ⟨n - i - 1, by omega⟩
      obtain ⟨c5', c6', c7', c8', c9', o', e⟩ := layer_ok (h := .tuple [.int (n : Nat), .tuple (R.map .int)]) (z := .tuple (zs.map .int)) (c2 := .op (nats (full n cs))) (c4 := .cl (.int ((0 : Int) + (i : Nat) * 1))) (c5 := c5) (c6 := c6) (c7 := c7) (c8 := c8) (c9 := c9) h4 (by omega) (fun q hq => ⟨by rw [(h3 q hq).1]; omega, by rw [(h3 q hq).2]; omega⟩) h5
      unfold bodyL1 bodyS2 bodyF at e
      have tn : ∀ k : SD, turn (nameT 4) k [.cl (.tuple [.int (n : Nat), .tuple (R.map .int)]), .cl (.tuple (zs.map .int)), .op (nats (full n cs)), c3, c4, c5, c6, c7, c8, c9, .no, .no] (.int ((0 : Int) + (i : Nat) * 1)) = k [.cl (.tuple [.int (n : Nat), .tuple (R.map .int)]), .cl (.tuple (zs.map .int)), .op (nats (full n cs)), c3, .cl (.int ((0 : Int) + (i : Nat) * 1)), c5, c6, c7, c8, c9, .no, .no] := fun k => rfl
      rw [tn, e]
      refine turns_nx ⟨lay L, _, _, _, _, _, _, _, ?_, ?_, lay_all h3, .inr rfl, o', rfl⟩
      · rw [hm] at h1
        rw [show n - (i + 1) = m by omega]
        exact h1
      · rw [hm] at h2
        rw [show n - (i + 1) = m by omega]
        exact lay_sums h2
    · rintro ρ' ⟨L, c3, c4, c5, c6, c7, c8, c9, h1, h2, h3, h4, h5, rfl⟩
      rw [hlen] at h1 h2 h3
      rw [Nat.sub_self] at h1 h2
      have h1 : L = lays n [([], full n cs)] := h1
      have ll : L.length ≤ 3000 := by rw [h1, lall]; exact hp
      have lc2 : ∀ c3 : Cell, lcGo [6, 7] (tupT [6, 7]) yesT (varD 6) (L.map qD) [.cl (.tuple [.int (n : Nat), .tuple (R.map .int)]), .cl (.tuple (zs.map .int)), .op (nats (full n cs)), c3, c4, c5, c6, c7, c8, c9, .no, .no] = some (.own (L.map fun q => tupN q.1), [.cl (.tuple [.int (n : Nat), .tuple (R.map .int)]), .cl (.tuple (zs.map .int)), .op (nats (full n cs)), c3, c4, c5, c6, c7, c8, c9, .no, .no]) := fun c3 =>
        lc_mapL (α := List Nat × List Nat) (own := [6, 7]) (tg := tupT [6, 7]) (tt := yesT) (te := varD 6) (l := L) (g := qD) (fun q => tupN q.1) (by simp [h5.1, h5.2]) (by omega) (by simp) (fun q _ => by unfold qD; simp)
      have fin : (L.map fun q => tupN q.1) = (arr n (full n cs)).map tupN := by
        have e : (L.map fun q => tupN q.1) = (L.map (·.1)).map tupN := by rw [List.map_map]; rfl
        rw [e, h1, la]
        simp
      rcases h4 with rfl | rfl
      · simp
        rw [lc2, fin]
        simp
      · simp
        rw [lc2, fin]
        simp
end K01
namespace K01
open PySem L2 DL LW LA
theorem toldV_in {j n k : Nat} {G : FE} {t : AD} {m1 m2 : Str} {q c : TD} {r1 e : ED} {ρ ρ1 ρ2 ρ3 ρ4 ρ5 : DL.Env} {rs : List Val} {v : Val} {ds es : List PyData} (h : t ρ = some (rs, ρ1)) (hp : psAll ρ1 rs = some (ds, ρ1)) (hl : ds.length = n) (hj : j < ρ1.length) (hk : k ≠ j) (hG : G ds = some (.inl (.own es))) (he : es.length < 1000000)
    (hc : c ((shutE ρ1).set j (.cl (.tuple [.str m1, .list es]))) = some (false, ρ2)) (hy : e (ρ1.set j .no) = some (v, ρ3)) (hs : stV ρ3 k v = some ρ4) (hq : q ((shutE ρ4).set j (.cl (.tuple [.str m1, .list es]))) = some (false, ρ5)) : toldV j n G t m1 m2 c r1 k e q ρ = some (.nx (ρ4.set j .no)) := by
  unfold toldV
  rw [h]
  simp only [Option.bind_some]
  rw [hp]
  simp only [Option.bind_some]
  rw [if_pos ⟨hl, hj, hk⟩, hG]
  simp only [Option.bind_some]
  rw [if_pos (by rw [lim_eq]; exact he), hc]
  simp only [Option.bind_some]
  rw [if_neg Bool.false_ne_true, hy]
  simp only [Option.bind_some]
  rw [hs]
  simp only [Option.bind_some]
  rw [hq]
  simp only [Option.bind_some]
  rw [if_neg Bool.false_ne_true]
theorem toldV_out {j n k : Nat} {G : FE} {t : AD} {m1 m2 : Str} {q c : TD} {r1 e : ED} {ρ ρ1 ρ2 ρ3 : DL.Env} {rs : List Val} {ds : List PyData} {i : Int} {z : Bool} (h : t ρ = some (rs, ρ1)) (hp : psAll ρ1 rs = some (ds, ρ1)) (hl : ds.length = n) (hj : j < ρ1.length) (hk : k ≠ j) (hG : G ds = some (.inr i))
    (hc : c ((shutE ρ1).set j (.cl (.tuple [.str m2, .int i]))) = some (true, ρ2)) (hr : r1 ((shutE ρ1).set j (.cl (.tuple [.str m2, .int i]))) = some (.cl (.bool z), ρ3)) : toldV j n G t m1 m2 c r1 k e q ρ = some (.rt (.cl (.bool z)) (ρ1.set j .no)) := by
  unfold toldV
  rw [h]
  simp only [Option.bind_some]
  rw [hp]
  simp only [Option.bind_some]
  rw [if_pos ⟨hl, hj, hk⟩, hG]
  simp only [Option.bind_some]
  rw [hc]
  simp only [Option.bind_some]
  rw [if_pos trivial, hr]
  rfl
theorem nice_small {g : Nat} (h : g ≤ 7) : Nice 0 8 (.int ((g : Nat) : Int)) := by
  match g, h with
  | 0, _ => exact ⟨rfl, rfl, rfl, rfl, by decide, by decide⟩
  | 1, _ => exact ⟨rfl, rfl, rfl, rfl, by decide, by decide⟩
  | 2, _ => exact ⟨rfl, rfl, rfl, rfl, by decide, by decide⟩
  | 3, _ => exact ⟨rfl, rfl, rfl, rfl, by decide, by decide⟩
  | 4, _ => exact ⟨rfl, rfl, rfl, rfl, by decide, by decide⟩
  | 5, _ => exact ⟨rfl, rfl, rfl, rfl, by decide, by decide⟩
  | 6, _ => exact ⟨rfl, rfl, rfl, rfl, by decide, by decide⟩
  | 7, _ => exact ⟨rfl, rfl, rfl, rfl, by decide, by decide⟩
theorem nice_arr {n m : Nat} {cs : List Nat} (hn : n ≤ 16) (hm : cs.length ≤ 7) (hl : (arr n cs).length ≤ 3000) : Nice 2 435000 (.list ((arr n cs).map tupN)) := by
  have one : ∀ p ∈ (arr n cs).map tupN, Nice 1 144 p := fun p hp => by
    obtain ⟨l, h1, rfl⟩ := List.mem_map.mp hp
    obtain ⟨a1, a2⟩ := arr_mem n cs h1
    have := nice_tup (h := 0) (w := 8) (xs := nats l) fun x hx => by
      unfold nats at hx
      obtain ⟨g, h2, rfl⟩ := List.mem_map.mp hx
      exact nice_small (by have := a2 g h2; omega)
    refine this.mono (by omega) ?_
    rw [nats_len, a1]
    omega
  have := nice_lst one
  refine this.mono (by omega) ?_
  rw [List.length_map]
  have := Nat.mul_le_mul_left (144 + 1) hl
  omega
theorem nice_toldD {h w : Nat} {d : PyData} (N : Nice h w d) : Nice (h + 2) (w + 110) (.tuple [.str "told", d]) := by
  have N0 : Nice 0 100 (.str "told") := LW.nice_told
  refine ⟨?_, ?_, ?_, ?_, ?_, ?_⟩
  · simp only [PyData.showable, PyData.showableAll, N.sh, Bool.and_self]
  · simp only [PyData.hasDict, PyData.hasDictAll, N.nd, Bool.or_self]
  · show (PyData.canLay0 (.str "told") && (PyData.canLay0 d && true)) = true
    rw [N0.cl, N.cl]; rfl
  · show (PyData.leavesShort 13 (.str "told") && (PyData.leavesShort 13 d && true)) = true
    rw [N0.ls, N.ls]; rfl
  · have := N.dp
    have := N0.dp
    simp only [PyData.depth, PyData.depthAll] at *
    omega
  · have := N.wt
    have := N0.wt
    simp only [PyData.weight, PyData.weightAll] at *
    omega
theorem ok_many3 : Ok60 (.tuple [.str "many", .int 3000]) := by
  have := nice_tup (h := 0) (w := 100) (xs := [.str "many", .int 3000]) (by
    intro z hz
    simp only [List.mem_cons, List.not_mem_nil, or_false] at hz
    rcases hz with rfl | rfl
    · exact nice_str
    · exact (nice_int (by omega) (by omega)).mono (by omega) (by omega))
  exact this.mono (by omega) (by show (100 + 1) * 2 ≤ _; omega)
/-- the law's word on all states of sizes -/
theorem right_ok {n : Nat} {R zs : List Int} (hn : n ≤ 16) (hR1 : 1 ≤ R.length) (hR : R.length ≤ 4) (hl : zs.length = R.length) (hz : ∀ z ∈ zs, -1000 ≤ z ∧ z ≤ 1000) : F__law_are_states_right [hs n R, .tuple (zs.map .int)] = some (.cl (.bool true)) := by
  have my := many_ok hn hl hz
  have ao := all_ok hn hR hl hz
  have so := sizes_ok hn hR1 hR hl hz
  -- both told
  have told : ∀ (p : Nat) (es : List PyData), p ≤ 3000 → F__law_states_many [hs n R, .tuple (zs.map .int)] = some (.cl (.int (p : Nat))) → G_all_states [hs n R, .tuple (zs.map .int)] = some (.inl (.own es)) → F__law_states_of_sizes [hs n R, .tuple (zs.map .int)] = some (.own es) → es.length < 1000000 → Nice 2 435000 (.list es) → F__law_are_states_right [hs n R, .tuple (zs.map .int)] = some (.cl (.bool true)) := by
    intro p es hp m1 g1 s1 hle N
    have al := alike_ok ((nice_toldD N).mono (show 2 + 2 ≤ 60 by omega) (show 435000 + 110 ≤ 1000000 by omega))
    have al2 := alike_ok (N.mono (show 2 ≤ 60 by omega) (show 435000 ≤ 1000000 by omega))
    have np : ¬ (3000 : Int) < (p : Nat) := by omega
    have e : toldV 3 2 G_all_states (acons (varD 0) (acons (varD 1) anil)) ("told" : Str) ("many" : Str) (testD (binD (varD 2) (conD (.int 3000)) (intG (i2b fun i j => decide (j < i))))) (callP 2 F__law_alike (acons (varD 3) (acons (tupD (acons (conD (.str ("many" : Str))) (acons (conD (.int 3000)) anil))) anil))) 4 (callP 2 F__law_states_of_sizes (acons (varD 0) (acons (varD 1) anil))) (notT (testD (callP 2 F__law_alike (acons (varD 3) (acons (tupD (acons (conD (.str ("told" : Str))) (acons (varD 4) anil))) anil))))) [.cl (hs n R), .cl (.tuple (zs.map .int)), .cl (.int (p : Nat)), .no, .no] =
        some (.nx (([.cl (hs n R), .cl (.tuple (zs.map .int)), .cl (.int (p : Nat)), .no, .op es] : DL.Env).set 3 .no)) :=
      toldV_in (ρ1 := [.cl (hs n R), .cl (.tuple (zs.map .int)), .cl (.int (p : Nat)), .no, .no]) (ρ3 := [.cl (hs n R), .cl (.tuple (zs.map .int)), .cl (.int (p : Nat)), .no, .no]) (v := .own es) (ds := [hs n R, .tuple (zs.map .int)]) (es := es) (by simp; rfl) (by simp) rfl (by simp) (by omega) g1 hle (by
        simp only [shutE, shutC, List.map_cons, List.map_nil, List.set_cons_zero, List.set_cons_succ]
        simp [np]
        rfl) (by simp [s1]) rfl (by
        simp only [shutE, shutC, List.map_cons, List.map_nil, List.set_cons_zero, List.set_cons_succ]
        simp [al]
        rfl)
    unfold F__law_are_states_right g__law_are_states_right
    rw [e_runP]
    simp [argE, m1]
    rw [e]
    simp [okE, g1, al2]
  cases hc : cnts n 0 zs R with
  | none =>
    rw [hc] at my ao
    exact told 0 [] (by omega) my ao (so.1 hc) (by simp) ⟨rfl, rfl, rfl, rfl, by decide, by decide⟩
  | some cs =>
    rw [hc] at my ao
    have my : F__law_states_many [hs n R, .tuple (zs.map .int)] = some (.cl (.int ((pr n cs : Nat) : Int))) := my
    have ao : G_all_states [hs n R, .tuple (zs.map .int)] = if 3000 < pr n cs then some (Sum.inr 3000) else some (Sum.inl (Val.own ((arr n (full n cs)).map tupN))) := ao
    obtain ⟨k1, k2, _⟩ := cnts_ok hc (Nat.zero_le _)
    rw [Nat.zero_add] at k1
    have al := arr_len n (full n cs) (full_sum k1)
    have mp : mult (full n cs) = pr n cs := mult_pr k1
    by_cases q : 3000 < pr n cs
    · rw [if_pos q] at ao
      have al := alike_ok ok_many3
      have np : (3000 : Int) < (pr n cs : Nat) := by omega
      have e : toldV 3 2 G_all_states (acons (varD 0) (acons (varD 1) anil)) ("told" : Str) ("many" : Str) (testD (binD (varD 2) (conD (.int 3000)) (intG (i2b fun i j => decide (j < i))))) (callP 2 F__law_alike (acons (varD 3) (acons (tupD (acons (conD (.str ("many" : Str))) (acons (conD (.int 3000)) anil))) anil))) 4 (callP 2 F__law_states_of_sizes (acons (varD 0) (acons (varD 1) anil))) (notT (testD (callP 2 F__law_alike (acons (varD 3) (acons (tupD (acons (conD (.str ("told" : Str))) (acons (varD 4) anil))) anil))))) [.cl (hs n R), .cl (.tuple (zs.map .int)), .cl (.int ((pr n cs : Nat) : Int)), .no, .no] =
          some (.rt (.cl (.bool true)) (([.cl (hs n R), .cl (.tuple (zs.map .int)), .cl (.int ((pr n cs : Nat) : Int)), .no, .no] : DL.Env).set 3 .no)) :=
        toldV_out (ρ1 := [.cl (hs n R), .cl (.tuple (zs.map .int)), .cl (.int ((pr n cs : Nat) : Int)), .no, .no]) (ds := [hs n R, .tuple (zs.map .int)]) (i := 3000) (by simp; rfl) (by simp) rfl (by simp) (by omega) ao (by
          simp only [shutE, shutC, List.map_cons, List.map_nil, List.set_cons_zero, List.set_cons_succ]
          simp [np]
          rfl) (by
          simp only [shutE, shutC, List.map_cons, List.map_nil, List.set_cons_zero, List.set_cons_succ]
          simp [al]
          rfl)
      unfold F__law_are_states_right g__law_are_states_right
      rw [e_runP]
      simp [argE, my]
      rw [e]
      simp
    · rw [if_neg q] at ao
      refine told (pr n cs) _ (by omega) my ao (so.2 cs hc (by omega)) (by rw [List.length_map, al, mp]; omega) (nice_arr (m := 0) hn (by unfold full; rw [List.length_append, k2, hl]; show R.length + 1 ≤ 7; omega) (by rw [al, mp]; omega))
end K01
namespace K01
open PySem L2 DL LW
section
variable {n F : Nat} {V s : Nat → Int}
noncomputable def onT (n : Nat) (s : Nat → Int) (f : Nat) : PyData := .tuple (nats ((List.range n).filter fun k => decide (s k = (f : Int))))
noncomputable def inT (n : Nat) (s : Nat → Int) (f : Nat) : PyData := .tuple ((inside n s (f : Int)).map fun k => .int (k : Nat))
noncomputable def szF (n : Nat) (s : Nat → Int) (f : Nat) : Int := ((inside n s (f : Int)).length : Nat)
theorem nice_lows {l : List Nat} (hn : n ≤ 16) (hl : l.length ≤ 16) (h : ∀ k ∈ l, k < n) : Nice 1 (22 * 16) (.tuple (nats l)) := by
  have := nice_tup (h := 0) (w := 21) (xs := nats l) fun x hx => by
    unfold nats at hx
    obtain ⟨g, h1, rfl⟩ := List.mem_map.mp hx
    have := h g h1
    exact nice_int (by omega) (by omega)
  refine this.mono (Nat.le_refl _) ?_
  rw [nats_len]
  exact Nat.mul_le_mul_left _ hl
theorem filt_low {p : Nat → Bool} (hn : n ≤ 16) : ((List.range n).filter p).length ≤ 16 ∧ ∀ k ∈ (List.range n).filter p, k < n :=
  ⟨Nat.le_trans (List.length_filter_le _ _) (by rw [List.length_range]; exact hn), fun k hk => List.mem_range.mp (List.mem_filter.mp hk).1⟩
theorem nice_onT (hn : n ≤ 16) (f : Nat) : Nice 1 (22 * 16) (onT n s f) := nice_lows hn (filt_low hn).1 (filt_low hn).2
theorem nice_inT (hn : n ≤ 16) (f : Nat) : Nice 1 (22 * 16) (inT n s f) := nice_lows (l := inside n s (f : Int)) hn (filt_low hn).1 (filt_low hn).2
theorem ok_gl {m w h : Nat} {g : Nat → PyData} (hm : m ≤ 5) (hw : w ≤ 5000) (hh : h ≤ 50) (H : ∀ k, Nice h w (g k)) : Ok60 (.list (gl m g)) := by
  have := nice_lst (h := h) (w := w) (xs := gl m g) fun x hx => by
    unfold gl at hx
    obtain ⟨k, _, rfl⟩ := List.mem_map.mp hx
    exact H k
  refine this.mono (by omega) ?_
  have e : (gl m g).length = m := by unfold gl; rw [List.length_map, List.length_range]
  rw [e]
  have := Nat.mul_le_mul (show w + 1 ≤ 5001 by omega) hm
  omega
theorem filled_ok (hn : n ≤ 16) (hF : F ≤ 4) {f : Nat} (hf : f < F) : F_filled_up [house n F V, .tuple (iv n s), .int (f : Nat)] = some (.cl (.bool (decide (szF n s f = pre V f)))) := by
  have e1 := psizes_ok n F V s (by omega) (by omega)
  have e2 := prooms_ok n F V (by omega)
  have a1 : atI (iv F fun f => (((inside n s f).length : Nat) : Int)) (f : Int) = some (.int (szF n s f)) := iv_at1 hf rfl
  have a2 : atI (iv F (pre V)) (f : Int) = some (.int (pre V f)) := iv_at1 hf rfl
  unfold F_filled_up LW.F_filled_up LW.g_filled_up
  rw [e_runP]
  simp [argE, e1, e2, a1, a2]
theorem zip_map2 {α : Type} (f g : α → PyData) : ∀ l : List α, zipD (l.map f) (l.map g) = l.map fun x => .tuple [f x, g x]
  | [] => rfl
  | a :: l => by
    show PyData.tuple [f a, g a] :: zipD (l.map f) (l.map g) = _
    rw [zip_map2 f g l]; rfl
theorem pre_small (hV : ∀ f, f < F → 1 ≤ V f ∧ V f ≤ 12) : ∀ f, f < F → 0 ≤ pre V f ∧ pre V f ≤ 12 * (f + 1)
  | 0, h => by
    have := hV 0 h
    show 0 ≤ V 0 ∧ V 0 ≤ _
    omega
  | f + 1, h => by
    have ih := pre_small hV f (by omega)
    have := hV (f + 1) h
    show 0 ≤ pre V f + V (f + 1) ∧ pre V f + V (f + 1) ≤ _
    omega
theorem told_right (hn : n ≤ 16) (hF1 : 1 ≤ F) (hF : F ≤ 4) (hs : ∀ k, k < n → 0 ≤ s k ∧ s k ≤ F) (hV : ∀ f, f < F → 1 ≤ V f ∧ V f ≤ 12) : F__law_is_told_right [house n F V, .tuple (iv n s)] = some (.cl (.bool true)) := by
  have r1 := rooms_within_ok n F V (show F < 1000 by omega)
  have r2 := sizes_of_state n F V s (show n < 1000 by omega) (show F < 1000 by omega)
  have r3 := fun f : Nat => things_on_ok (F := F) (V := V) (s := s) (show n ≤ 900 by omega) f
  have r4 := fun f : Nat => pwithin_ok n F V s (f : Int) (show n < 1000 by omega)
  have r5 := fun f : Nat => within_ok n F V s (f : Int) (show n < 1000 by omega)
  have r6 := psizes_ok n F V s (show n < 1000 by omega) (show F < 1000 by omega)
  have r7 := prooms_ok n F V (show F < 1000 by omega)
  have al1 := alike_ok (ok_gl (m := F + 1) (show F + 1 ≤ 5 by omega) (show 22 * 16 ≤ 5000 by omega) (show 1 ≤ 50 by omega) fun k => nice_onT (s := s) hn k)
  have al2 := alike_ok (ok_gl (m := F) (show F ≤ 5 by omega) (show 22 * 16 ≤ 5000 by omega) (show 1 ≤ 50 by omega) fun k => nice_inT (s := s) hn k)
  have al3 := alike_ok (ok_gl (m := F) (g := fun f => .bool (decide (szF n s f = pre V f))) (show F ≤ 5 by omega) (show 0 ≤ 5000 by omega) (show 0 ≤ 50 by omega) fun k => nice_bool _)
  have h1 : (-1000000 : Int) ≤ n ∧ (n : Int) ≤ 1000000 := by omega
  have h2 : (-1000000 : Int) ≤ F ∧ (F : Int) ≤ 1000000 := by omega
  have h3 : (-1000000 : Int) ≤ (F : Int) + 1 ∧ (F : Int) + 1 ≤ 1000000 := by omega
  have hFn : ((F : Int) + 1).toNat = F + 1 := by omega
  unfold F__law_is_told_right LW.F__law_is_told_right LW.g__law_is_told_right
  rw [e_runP]
  unfold house at r1 r2 r3 r4 r5 r6 r7 ⊢
  have q3 : ∀ f : Nat, LW.F_things_on [.tuple [.int n, .tuple (iv F V)], .tuple (iv n s), .int (f : Nat)] = some (.cl (onT n s f)) := r3
  have q4 : ∀ f : Nat, LW.F_things_within [.tuple [.int n, .tuple (iv F V)], .tuple (iv n s), .int (f : Nat)] = some (.cl (inT n s f)) := r4
  have q5 := fun f (hf : f < F) => filled_ok (V := V) (s := s) hn hF hf
  unfold house at q5
  have lcOn : ∀ c3 c4 c5 c6 c7 : Cell, lcGo [8] (nameT 8) yesT (callD (acons (lcD [9] (rng1I (acons (binD (varD 0) (conD (.int 0)) ixG) anil)) (nameT 9) (testD (binD (binD (varD 1) (varD 9) ixG) (varD 8) (eqQ false))) (varD 9)) anil) (oneG tupleG)) (rngD 0 (F + 1) 1) [.cl (.tuple [.int n, .tuple (iv F V)]), .cl (.tuple (iv n s)), .cl (.int F), c3, c4, c5, c6, c7, .no, .no, .no, .no] = some (.own (gl (F + 1) (onT n s)), [.cl (.tuple [.int n, .tuple (iv F V)]), .cl (.tuple (iv n s)), .cl (.int F), c3, c4, c5, c6, c7, .no, .no, .no, .no]) := fun c3 c4 c5 c6 c7 => by
    rw [rng_gl, lc_gl (onT n s) (by simp) (by omega) (by simp) (by
      intro f hf
      simp [h1.1, h1.2]
      rw [rng_gl, lc_glf (fun k => if decide (s k = (f : Int)) = true then some (.int (k : Nat)) else none) (by simp) (by omega) (by simp) (by
        intro k hk
        have a1 : atI (iv n s) (k : Int) = some (.int (s k)) := iv_at1 hk rfl
        by_cases q : s k = (f : Int)
        · simp [a1, q]
        · simp [a1, q]), fm_filter]
      simp [onT, nats])]
  have lcPo : ∀ c3 c4 c5 c6 c7 : Cell, lcGo [8] (nameT 8) yesT (callP 3 LW.F_things_on (acons (varD 0) (acons (varD 1) (acons (varD 8) anil)))) (rngD 0 (F + 1) 1) [.cl (.tuple [.int n, .tuple (iv F V)]), .cl (.tuple (iv n s)), .cl (.int F), c3, c4, c5, c6, c7, .no, .no, .no, .no] = some (.own (gl (F + 1) (onT n s)), [.cl (.tuple [.int n, .tuple (iv F V)]), .cl (.tuple (iv n s)), .cl (.int F), c3, c4, c5, c6, c7, .no, .no, .no, .no]) := fun c3 c4 c5 c6 c7 => by
    rw [rng_gl, lc_gl (onT n s) (by simp) (by omega) (by simp) (by
      intro f hf
      simp [q3])]
  have lcW : ∀ c3 c4 c5 c6 c7 : Cell, lcGo [8] (nameT 8) yesT (callD (acons (callP 3 LW.F__law_within (acons (varD 0) (acons (varD 1) (acons (varD 8) anil)))) anil) (oneG tupleG)) (rngD 0 F 1) [.cl (.tuple [.int n, .tuple (iv F V)]), .cl (.tuple (iv n s)), .cl (.int F), c3, c4, c5, c6, c7, .no, .no, .no, .no] = some (.own (gl F (inT n s)), [.cl (.tuple [.int n, .tuple (iv F V)]), .cl (.tuple (iv n s)), .cl (.int F), c3, c4, c5, c6, c7, .no, .no, .no, .no]) := fun c3 c4 c5 c6 c7 => by
    rw [rng_gl, lc_gl (inT n s) (by simp) (by omega) (by simp) (by
      intro f hf
      simp [r5, inT])]
  have lcPw : ∀ c3 c4 c5 c6 c7 : Cell, lcGo [8] (nameT 8) yesT (callP 3 LW.F_things_within (acons (varD 0) (acons (varD 1) (acons (varD 8) anil)))) (rngD 0 F 1) [.cl (.tuple [.int n, .tuple (iv F V)]), .cl (.tuple (iv n s)), .cl (.int F), c3, c4, c5, c6, c7, .no, .no, .no, .no] = some (.own (gl F (inT n s)), [.cl (.tuple [.int n, .tuple (iv F V)]), .cl (.tuple (iv n s)), .cl (.int F), c3, c4, c5, c6, c7, .no, .no, .no, .no]) := fun c3 c4 c5 c6 c7 => by
    rw [rng_gl, lc_gl (inT n s) (by simp) (by omega) (by simp) (by
      intro f hf
      simp [q4])]
  have lcPf : ∀ c3 c4 c5 c6 c7 : Cell, lcGo [8] (nameT 8) yesT (callP 3 LW.F_filled_up (acons (varD 0) (acons (varD 1) (acons (varD 8) anil)))) (rngD 0 F 1) [.cl (.tuple [.int n, .tuple (iv F V)]), .cl (.tuple (iv n s)), .cl (.int F), c3, c4, c5, c6, c7, .no, .no, .no, .no] = some (.own (gl F fun f => .bool (decide (szF n s f = pre V f))), [.cl (.tuple [.int n, .tuple (iv F V)]), .cl (.tuple (iv n s)), .cl (.int F), c3, c4, c5, c6, c7, .no, .no, .no, .no]) := fun c3 c4 c5 c6 c7 => by
    rw [rng_gl, lc_gl (fun f => .bool (decide (szF n s f = pre V f))) (by simp) (by omega) (by simp) (by
      intro f hf
      have q5 : LW.F_filled_up [.tuple [.int n, .tuple (iv F V)], .tuple (iv n s), .int (f : Nat)] = some (.cl (.bool (decide (szF n s f = pre V f)))) := q5 f hf
      simp [q5])]
  have zp : zipD (iv F fun f => (((inside n s f).length : Nat) : Int)) (iv F (pre V)) = gl F fun f => .tuple [.int (szF n s f), .int (pre V f)] := by
    unfold iv gl
    exact zip_map2 _ _ _
  have lcZ : ∀ c3 c4 c5 c6 c7 : Cell, lcGo [10, 11] (tupT [10, 11]) yesT (binD (varD 10) (varD 11) (eqQ false)) (gl F fun f => .tuple [.int (szF n s f), .int (pre V f)]) [.cl (.tuple [.int n, .tuple (iv F V)]), .cl (.tuple (iv n s)), .cl (.int F), c3, c4, c5, c6, c7, .no, .no, .no, .no] = some (.own (gl F fun f => .bool (decide (szF n s f = pre V f))), [.cl (.tuple [.int n, .tuple (iv F V)]), .cl (.tuple (iv n s)), .cl (.int F), c3, c4, c5, c6, c7, .no, .no, .no, .no]) := fun c3 c4 c5 c6 c7 => by
    rw [lc_gl (fun f => .bool (decide (szF n s f = pre V f))) (by simp) (by omega) (by simp) (by
      intro f hf
      simp)]
  simp [argE, r1, r2, h1.1, h1.2, h2.1, h2.2, h3.1, h3.2, hFn]
  rw [lcOn]
  simp [h3.1, h3.2, hFn]
  rw [lcPo]
  simp [al1, h2.1, h2.2]
  rw [lcW]
  simp [h2.1, h2.2]
  rw [lcPw]
  simp [al2, zp]
  rw [lcZ]
  simp [h2.1, h2.2]
  rw [lcPf]
  have bn : (-1000 : Int) ≤ n ∧ (n : Int) ≤ 1000 := by omega
  have em : LW.F_empty_state [.tuple [.int n, .tuple (iv F V)]] = some (.cl (.tuple (nats (List.replicate n F)))) := by
    unfold LW.F_empty_state LW.g_empty_state
    rw [e_runP]
    simp [argE, bn.1, bn.2]
    unfold nats
    rw [List.map_replicate]
  have al4 := alike_ok (d := .list [.tuple (iv F (pre V)), .tuple (iv F fun f => (((inside n s f).length : Nat) : Int)), .tuple (nats (List.replicate n F))]) (by
    have := nice_lst (h := 1) (w := 22 * 16) (xs := [.tuple (iv F (pre V)), .tuple (iv F fun f => (((inside n s f).length : Nat) : Int)), .tuple (nats (List.replicate n F))]) (by
      intro x hx
      simp only [List.mem_cons, List.not_mem_nil, or_false] at hx
      rcases hx with rfl | rfl | rfl
      · exact (nice_row (w := pre V) fun k hk => by have := pre_small hV k hk; omega).mono (Nat.le_refl _) (by omega)
      · refine (nice_row (n := F) (w := fun f => (((inside n s f).length : Nat) : Int)) fun k hk => ?_).mono (Nat.le_refl _) (by omega)
        have : (inside n s (k : Int)).length ≤ 16 := (filt_low hn).1
        show -1000000 ≤ (((inside n s (k : Int)).length : Nat) : Int) ∧ _
        omega
      · have := nice_tup (h := 0) (w := 21) (xs := nats (List.replicate n F)) fun x hx => by
          unfold nats at hx
          obtain ⟨g, h1, rfl⟩ := List.mem_map.mp hx
          have := (List.mem_replicate.mp h1).2
          exact nice_int (by omega) (by omega)
        refine this.mono (Nat.le_refl _) ?_
        rw [nats_len, List.length_replicate]
        omega)
    exact this.mono (by omega) (by show (22 * 16 + 1) * 3 ≤ _; omega))
  have ml : ∀ {ρ : DL.Env}, mulG ρ (.cl (.tuple [.int ((F : Nat) : Int)])) (.cl (.int ((n : Nat) : Int))) = some (.cl (.tuple (nats (List.replicate n F))), ρ) := fun {ρ} => by
    rw [e_mulT bn.1 bn.2 (by simp), Int.toNat_natCast, nats_rep]
  simp [al3, r6, r7, em, ml, al4]
end
end K01
namespace K01
open PySem L2 DL LW LA
def NearSz (m : Nat) (x : Option (Val × List PyData)) : Prop := ∃ (zs : List Int) (B : Bag), x = some (.cl (.tuple (zs.map .int)), Bag.toD B) ∧ zs.length = m ∧ ∀ z ∈ zs, -1000 ≤ z ∧ z ≤ 1000
theorem near_ok (B : Bag) {zs : List Int} (h1 : 1 ≤ zs.length) (h2 : zs.length ≤ 10) (hz : ∀ z ∈ zs, -100 ≤ z ∧ z ≤ 100) : NearSz zs.length (F__law_near_sizes B.toD [.tuple (zs.map .int)]) := by
  obtain ⟨a, B1, e1, a0, a1⟩ := take_ok B (zs.length : Int) (by omega) (by omega)
  have e1' : F__law_take B.toD [.int (zs.length : Nat)] = some (.cl (.int a), Bag.toD B1) := e1
  obtain ⟨k, rfl⟩ : ∃ k : Nat, a = k := ⟨a.toNat, by omega⟩
  obtain ⟨w, B2, hw, e2⟩ := one_int B1 [1, -1, 0, -20, 3, 99, -99] (by simp) (by simp)
  have e2' : F__law_one B1.toD [.list [.int 1, .int (-1), .int 0, .int (-20), .int 3, .int 99, .int (-99)]] = some (.cl (.int w), Bag.toD B2) := e2
  have hw2 : -99 ≤ w ∧ w ≤ 99 := by simp only [List.mem_cons, List.not_mem_nil, or_false] at hw; omega
  have hk : k < zs.length := by omega
  have at1 : atI (zs.map PyData.int) ((k : Nat) : Int) = some (.int zs[k]) := by
    have hk2 : k < (zs.map PyData.int).length := by rw [List.length_map]; exact hk
    rw [at_nat hk2, List.getElem_map]
  have ix1 : ixN zs.length ((k : Nat) : Int) = some k := ixN_nat rfl hk
  unfold F__law_near_sizes LW.F__law_near_sizes LW.g__law_near_sizes
  rw [e_runM]
  simp [argM, e1', e2', at1, ix1]
  refine ⟨zs.set k (zs[k] + w), B2, ?_, by rw [List.length_set], fun z h => ?_⟩
  · rw [List.map_set]
  · rcases List.mem_or_eq_of_mem_set h with q | q
    · have := hz z q; omega
    · have := hz zs[k] (List.getElem_mem hk); omega
end K01
namespace K01
open PySem L2 DL LW
def LawI (_ : Nat) (ρ : DL.Env) : Prop := ∃ (B : Bag) (c2 c3 c4 c5 c6 c7 c8 : Cell), ρ = [.no, .op (Bag.toD B), c2, c3, c4, c5, c6, c7, c8]
def roomsL (F : Nat) (V : Nat → Int) : List Int := (List.range F).map V
theorem iv_rooms (F : Nat) (V : Nat → Int) : iv F V = (roomsL F V).map .int := by
  unfold roomsL iv
  rw [List.map_map]; rfl
theorem house_hs (n F : Nat) (V : Nat → Int) : house n F V = hs n (roomsL F V) := by
  unfold house hs
  rw [iv_rooms]
theorem rooms_len (F : Nat) (V : Nat → Int) : (roomsL F V).length = F := by unfold roomsL; rw [List.length_map, List.length_range]
theorem es_str (x : Str) {ρ : DL.Env} : eqQ true ρ (.cl (.str x)) (.cl (.str x)) = some (.cl (.bool false), ρ) := by
  show some (Val.cl (.bool (true ^^ decide (x = x))), ρ) = _
  simp
/-- the first loop's turn -/
noncomputable def body1 : SD := (seqS (setS 3 (callM 1 3 F__law_house (acons (callM 1 1 F__law_one (acons (lstD (acons (conD (.int 6)) (acons (conD (.int 16)) (acons (conD (.int 9)) (acons (conD (.int 14)) anil))))) anil)) (acons (conD (.int 4)) (acons (conD (.int 12)) anil)))))
    (seqS (setS 4 (callM 1 1 F__law_state (acons (varD 3) anil)))
    (seqS (setS 5 (callD (acons (lstD (acons (varD 3) (acons (varD 4) anil))) anil) (oneG repG)))
    (ifS (orT (notT (testD (callP 2 F__law_is_told_right (acons (varD 3) (acons (varD 4) anil))))) (testD (binD (callD (acons (lstD (acons (varD 3) (acons (varD 4) anil))) anil) (oneG repG)) (varD 5) (eqQ true)))) (retS (conD (.bool false))) nilS))))
theorem body1_ok {i : Nat} {x : PyData} {ρ : DL.Env} (R : LawI i ρ) : Turns (LawI (i + 1)) (turn (nameT 2) body1 ρ x) := by
  obtain ⟨B, c2, c3, c4, c5, c6, c7, c8, rfl⟩ := R
  obtain ⟨m, B1, hm, e1⟩ := one_int B [6, 16, 9, 14] (by simp) (by simp)
  have e1' : F__law_one B.toD [.list [.int 6, .int 16, .int 9, .int 14]] = some (.cl (.int m), Bag.toD B1) := e1
  have hm2 : 0 ≤ m ∧ m ≤ 16 := by simp only [List.mem_cons, List.not_mem_nil, or_false] at hm; omega
  obtain ⟨n, F, V, B2, e2, hn, hF1, hF, hV⟩ := house_ok B1 m hm2.1 hm2.2
  have e2' : F__law_house B1.toD [.int m, .int 4, .int 12] = some (.cl (house n F V), Bag.toD B2) := e2
  obtain ⟨s, B3, e3, Lg⟩ := state_ok B2 n F V (by omega) (by omega) (fun f hf => by have := hV f hf; omega)
  have e3' : F__law_state B2.toD [house n F V] = some (.cl (.tuple (iv n s)), Bag.toD B3) := e3
  have tr := told_right (V := V) hn hF1 hF (fun k hk => Lg.rng k hk) hV
  have N : Ok60 (.list [house n F V, .tuple (iv n s)]) := by
    have N1 : Nice 2 400 (house n F V) := by
      have := nice_tup (h := 1) (w := 22 * 4) (xs := [.int (n : Nat), .tuple (iv F V)]) (by
        intro y hy
        simp only [List.mem_cons, List.not_mem_nil, or_false] at hy
        rcases hy with rfl | rfl
        · exact (nice_int (by omega) (by omega)).mono (by omega) (by omega)
        · exact (nice_row (w := V) fun k hk => by have := hV k hk; omega).mono (Nat.le_refl _) (Nat.mul_le_mul_left _ hF))
      exact this.mono (by omega) (by show (22 * 4 + 1) * 2 ≤ _; omega)
    have := nice_lst (h := 2) (w := 400) (xs := [house n F V, .tuple (iv n s)]) (by
      intro y hy
      simp only [List.mem_cons, List.not_mem_nil, or_false] at hy
      rcases hy with rfl | rfl
      · exact N1
      · exact (nice_row (w := s) fun k hk => by have := Lg.rng k hk; omega).mono (by omega) (by omega))
    exact this.mono (by omega) (by show (400 + 1) * 2 ≤ _; omega)
  have r4 : ∀ {ρ : DL.Env}, repG ρ (.own [house n F V, .tuple (iv n s)]) = some (.cl (.str (PyData.list [house n F V, .tuple (iv n s)]).shown), ρ) := fun {ρ} => rep_own N
  unfold body1
  simp [e1', e2', e3', r4, tr, es_str]
  exact turns_nx ⟨_, _, _, _, _, _, _, _, rfl⟩
noncomputable def test2 : SD := (ifS (notT (testD (callP 2 F__law_are_states_right (acons (varD 3) (acons (varD 7) anil))))) (retS (conD (.bool false))) nilS)
noncomputable def body2 : SD := (seqS (setS 3 (callM 1 3 F__law_house (acons (callM 1 1 F__law_one (acons (lstD (acons (conD (.int 5)) (acons (conD (.int 7)) (acons (conD (.int 16)) anil)))) anil)) (acons (conD (.int 3)) (acons (conD (.int 5)) anil)))))
    (seqS (setS 6 (callP 2 F__law_sizes (acons (varD 3) (acons (callM 1 1 F__law_state (acons (varD 3) anil)) anil))))
    (forS (seqI (tupD (acons (varD 6) (acons (callM 1 1 F__law_near_sizes (acons (varD 6) anil)) anil)))) (nameT 7) test2)))
def HouI (h : PyData) (_ : Nat) (ρ : DL.Env) : Prop := ∃ (B : Bag) (c2 c4 c5 c6 c7 c8 : Cell), ρ = [.no, .op (Bag.toD B), c2, .cl h, c4, c5, c6, c7, c8]
theorem body2_ok {i : Nat} {x : PyData} {ρ : DL.Env} (R : LawI i ρ) : Turns (LawI (i + 1)) (turn (nameT 2) body2 ρ x) := by
  obtain ⟨B, c2, c3, c4, c5, c6, c7, c8, rfl⟩ := R
  obtain ⟨m, B1, hm, e1⟩ := one_int B [5, 7, 16] (by simp) (by simp)
  have e1' : F__law_one B.toD [.list [.int 5, .int 7, .int 16]] = some (.cl (.int m), Bag.toD B1) := e1
  have hm2 : 0 ≤ m ∧ m ≤ 16 := by simp only [List.mem_cons, List.not_mem_nil, or_false] at hm; omega
  obtain ⟨n, F, V, B2, e2, hn, hF1, hF, hV⟩ := house_gen B1 m 3 5 hm2.1 (by omega) (by omega) (by omega) (by omega) (by omega)
  have e2' : F__law_house B1.toD [.int m, .int 3, .int 5] = some (.cl (house n F V), Bag.toD B2) := e2
  have hn2 : n ≤ 16 := by omega
  obtain ⟨s, B3, e3, Lg⟩ := state_ok B2 n F V (by omega) (by omega) (fun f hf => by have := hV f hf; omega)
  have e3' : F__law_state B2.toD [house n F V] = some (.cl (.tuple (iv n s)), Bag.toD B3) := e3
  have e4 := sizes_of_state n F V s (show n < 1000 by omega) (show F < 1000 by omega)
  obtain ⟨zs, hzs⟩ : ∃ zs, zs = roomsL F fun f => (((inside n s f).length : Nat) : Int) := ⟨_, rfl⟩
  have e4' : F__law_sizes [house n F V, .tuple (iv n s)] = some (.cl (.tuple (zs.map .int))) := by
    rw [hzs, ← iv_rooms]
    exact e4
  have zl : zs.length = F := by rw [hzs, rooms_len]
  have zb : ∀ z ∈ zs, -100 ≤ z ∧ z ≤ 100 := fun z hz => by
    rw [hzs] at hz
    unfold roomsL at hz
    obtain ⟨f, _, rfl⟩ := List.mem_map.mp hz
    have : (inside n s (f : Int)).length ≤ 16 := (filt_low hn2).1
    omega
  obtain ⟨ws, B4, e5, wl, wb⟩ := near_ok B3 (by omega) (by omega) zb
  have r1 := right_ok (n := n) (R := roomsL F V) hn2 (by rw [rooms_len]; exact hF1) (by rw [rooms_len]; omega) (zs := zs) (by rw [rooms_len, zl]) (fun z hz => by have := zb z hz; omega)
  have r2 := right_ok (n := n) (R := roomsL F V) hn2 (by rw [rooms_len]; exact hF1) (by rw [rooms_len]; omega) (zs := ws) (by rw [rooms_len, wl, zl]) wb
  rw [← house_hs] at r1 r2
  unfold body2
  simp [e1', e2', e3', e4', e5]
  refine use_loop (P := fun x => Turns (LawI (i + 1)) x) (HouI (house n F V)) ⟨_, _, _, _, _, _, _, rfl⟩ ?_ ?_
  · rintro j t ρ ht ⟨B5, d2, d4, d5, d6, d7, d8, rfl⟩
    have := List.mem_of_getElem? ht
    simp only [List.mem_cons, List.not_mem_nil, or_false] at this
    unfold test2
    rcases this with rfl | rfl
    · simp [r1]
      exact turns_nx ⟨_, _, _, _, _, _, _, rfl⟩
    · simp [r2]
      exact turns_nx ⟨_, _, _, _, _, _, _, rfl⟩
  · rintro ρ' ⟨B5, d2, d4, d5, d6, d7, d8, rfl⟩
    exact turns_nx ⟨_, _, _, _, _, _, _, _, rfl⟩
def menuA : List PyData := [PyData.tuple [.tuple [.int 16, .tuple [.int 3, .int 3, .int 3, .int 3]], .tuple [.int 3, .int 6, .int 9, .int 12]], PyData.tuple [.tuple [.int 16, .tuple [.int 4, .int 4, .int 4]], .tuple [.int 4, .int 8, .int 12]], PyData.tuple [.tuple [.int 15, .tuple [.int 5]], .tuple [.int 5]]]
def menuB : List PyData := [PyData.tuple [.tuple [.int 15, .tuple [.int 1, .int 1, .int 1]], .tuple [.int 1, .int 2, .int 3]], PyData.tuple [.tuple [.int 15, .tuple [.int 2, .int 2]], .tuple [.int 2, .int 4]], PyData.tuple [.tuple [.int 14, .tuple [.int 4, .int 1]], .tuple [.int 4, .int 4]]]
theorem menu_ok {d : PyData} (h : d ∈ menuA ++ menuB) : ∃ h z : PyData, d = .tuple [h, z] ∧ F__law_are_states_right [h, z] = some (.cl (.bool true)) := by
  simp only [menuA, menuB, List.cons_append, List.nil_append, List.mem_cons, List.not_mem_nil, or_false] at h
  rcases h with rfl | rfl | rfl | rfl | rfl | rfl
  · exact ⟨_, _, rfl, right_ok (n := 16) (R := [3, 3, 3, 3]) (zs := [3, 6, 9, 12]) (by omega) (by decide) (by decide) rfl (by decide)⟩
  · exact ⟨_, _, rfl, right_ok (n := 16) (R := [4, 4, 4]) (zs := [4, 8, 12]) (by omega) (by decide) (by decide) rfl (by decide)⟩
  · exact ⟨_, _, rfl, right_ok (n := 15) (R := [5]) (zs := [5]) (by omega) (by decide) (by decide) rfl (by decide)⟩
  · exact ⟨_, _, rfl, right_ok (n := 15) (R := [1, 1, 1]) (zs := [1, 2, 3]) (by omega) (by decide) (by decide) rfl (by decide)⟩
  · exact ⟨_, _, rfl, right_ok (n := 15) (R := [2, 2]) (zs := [2, 4]) (by omega) (by decide) (by decide) rfl (by decide)⟩
  · exact ⟨_, _, rfl, right_ok (n := 14) (R := [4, 1]) (zs := [4, 4]) (by omega) (by decide) (by decide) rfl (by decide)⟩
noncomputable def end3 : SD := (seqS (setS 8 (lstD (acons (tupD (acons (tupD (acons (conD (.int 16)) (acons (tupD (acons (conD (.int 3)) (acons (conD (.int 3)) (acons (conD (.int 3)) (acons (conD (.int 3)) anil))))) anil))) (acons (tupD (acons (conD (.int 3)) (acons (conD (.int 6)) (acons (conD (.int 9)) (acons (conD (.int 12)) anil))))) anil))) (acons (tupD (acons (tupD (acons (conD (.int 16)) (acons (tupD (acons (conD (.int 4)) (acons (conD (.int 4)) (acons (conD (.int 4)) anil)))) anil))) (acons (tupD (acons (conD (.int 4)) (acons (conD (.int 8)) (acons (conD (.int 12)) anil)))) anil))) (acons (tupD (acons (tupD (acons (conD (.int 15)) (acons (tupD (acons (conD (.int 5)) anil)) anil))) (acons (tupD (acons (conD (.int 5)) anil)) anil))) anil)))))
    (seqS (setS 8 (binD (varD 8) (lstD (acons (tupD (acons (tupD (acons (conD (.int 15)) (acons (tupD (acons (conD (.int 1)) (acons (conD (.int 1)) (acons (conD (.int 1)) anil)))) anil))) (acons (tupD (acons (conD (.int 1)) (acons (conD (.int 2)) (acons (conD (.int 3)) anil)))) anil))) (acons (tupD (acons (tupD (acons (conD (.int 15)) (acons (tupD (acons (conD (.int 2)) (acons (conD (.int 2)) anil))) anil))) (acons (tupD (acons (conD (.int 2)) (acons (conD (.int 4)) anil))) anil))) (acons (tupD (acons (tupD (acons (conD (.int 14)) (acons (tupD (acons (conD (.int 4)) (acons (conD (.int 1)) anil))) anil))) (acons (tupD (acons (conD (.int 4)) (acons (conD (.int 4)) anil))) anil))) anil)))) addG))
    (seqS (unpS (tupT [3, 6]) (callM 1 1 F__law_one (acons (varD 8) anil)))
    (retS (callP 2 F__law_are_states_right (acons (varD 3) (acons (varD 6) anil)))))))
theorem end3_ok (B : Bag) (c2 c3 c4 c5 c6 c7 c8 : Cell) : ∃ ρ', end3 [.no, .op (Bag.toD B), c2, c3, c4, c5, c6, c7, c8] = some (.rt (.cl (.bool true)) ρ') := by
  obtain ⟨d, B1, hd, e1⟩ := one_ok B (menuA ++ menuB) (by unfold menuA; simp) (by unfold menuA menuB; simp)
  obtain ⟨h, z, rfl, r⟩ := menu_ok hd
  have e1' : F__law_one B.toD [.list (menuA ++ menuB)] = some (.cl (.tuple [h, z]), Bag.toD B1) := e1
  have ad : ∀ a b c d e f g i : Cell, addG [a, b, c, d, e, f, g, i, .op menuA] (.sl 8) (.own menuB) = some (.own (menuA ++ menuB), [a, b, c, d, e, f, g, i, .op menuA]) := fun a b c d e f g i =>
    if_pos (by rw [lim_eq]; decide)
  unfold menuA menuB at ad e1'
  simp only [List.cons_append, List.nil_append] at ad e1'
  unfold end3
  simp [ad, e1', r]
theorem g_eq : g_law = seqS (forS (rng1I (acons (conD (.int 4)) anil)) (nameT 2) body1) (seqS (forS (rng1I (acons (conD (.int 2)) anil)) (nameT 2) body2) end3) := by
  unfold g_law body1 body2 test2 end3
  rfl
theorem law_bag (B : Bag) : ∃ ρ', g_law (Cell.no :: Cell.op (Bag.toD B) :: List.replicate 7 .no) = some (.rt (.cl (.bool true)) ρ') := by
  rw [g_eq]
  simp
  refine use_loop (P := fun y => ∃ ρ', kSq y (seqS (forS (rng1I (acons (conD (.int 2)) anil)) (nameT 2) body2) end3) = some (.rt (.cl (.bool true)) ρ')) LawI ⟨B, _, _, _, _, _, _, _, rfl⟩ (fun i x ρ _ R => body1_ok R) ?_
  rintro ρ' ⟨B1, c2, c3, c4, c5, c6, c7, c8, rfl⟩
  simp
  refine use_loop (P := fun y => ∃ ρ', kSq y end3 = some (.rt (.cl (.bool true)) ρ')) LawI ⟨B1, _, _, _, _, _, _, _, rfl⟩ (fun i x ρ _ R => body2_ok R) ?_
  rintro ρ' ⟨B2, c2, c3, c4, c5, c6, c7, c8, rfl⟩
  simp
  exact end3_ok B2 c2 c3 c4 c5 c6 c7 c8
theorem law_true : ∀ ns : List Int, ns.length ≤ 63 → ∃ ρ', g_law (Cell.no :: Cell.op (bagD ns) :: List.replicate 7 .no) = some (.rt (.cl (.bool true)) ρ') := by
  intro ns hns
  have e : bagD ns = Bag.toD ⟨0, 1234567891, 0, (ns.take 63).map fun i => if i < 0 then -i else i, by simp; omega⟩ := rfl
  rw [e]
  exact law_bag _
end K01
namespace K01
open PySem PySem.Spec PyProof.Rows L2 DL
theorem def_of {K : PySem.W.Frag} {T : TL} {h : Heap} {mg : Str → Option Value} (X : K.In h) (G : h.Ns mainGlobals mg) {x : Str} {st : Stmt} {ps : List Str} {f : Addr} {od an : Option Addr} {sl : Array (Option Value)} {oc kV dc pm cd ct : Value}
    (a : PySem.W.nsIn K mainGlobals x = some (some (.ref f))) (l : K.lookup f = some ⟨oc, od, .func (PySem.W.fnOf x x (defArgs st) (defBody st) (defScope st) .none kV dc pm an cd ct), sl⟩) (c : PySem.W.codeIn K cd x = true) (k : PySem.W.keepIn K (.ref f) = true)
    (hb : ∀ (kV doc pm : Value) (an : Option Addr) (cdv ct : Value) (us : List Value), us.length = ps.length → bindArgs (PySem.W.fnOf x x (defArgs st) (defBody st) (defScope st) .none kV doc pm an cdv ct) ⟨us, []⟩ = pure (ps.zip us)) : Def ⟨K, T⟩ mg x st ps :=
  have F := fun_mk (K := K) (st := st) l c k
  ⟨⟨f, _, F, PySem.W.mg_of X G a, k, F.binds hb⟩⟩
theorem def_ofC {K : PySem.W.Frag} {T : TL} {h : Heap} {mg : Str → Option Value} (X : K.In h) (G : h.Ns mainGlobals mg) {x : Str} {st : Stmt} {ps : List Str} {f lc : Addr} {od an : Option Addr} {sl : Array (Option Value)} {oc kV dc pm ct : Value}
    (a : PySem.W.nsIn K mainGlobals x = some (some (.ref f))) (l : K.lookup f = some ⟨oc, od, .func (PySem.W.fnOf x x (defArgs st) (defBody st) (defScope st) .none kV dc pm an (.ref lc) ct), sl⟩) (c : PySem.W.codeIn K (.ref lc) x = true) (k : PySem.W.keepIn K (.ref f) = true)
    (hb : ∀ (kV doc pm : Value) (an : Option Addr) (cdv ct : Value) (us : List Value), us.length = ps.length → bindArgs (PySem.W.fnOf x x (defArgs st) (defBody st) (defScope st) .none kV doc pm an cdv ct) ⟨us, []⟩ = pure (ps.zip us)) : DefC ⟨K, T⟩ mg x st ps lc :=
  have F := fun_mk (K := K) (st := st) l c k
  ⟨⟨f, _, F, PySem.W.mg_of X G a, k, F.binds hb, rfl⟩⟩
set_option maxHeartbeats 0 in
theorem all_of {P : Program} {w : World} {K : PySem.W.Frag} {h : Heap} {mg : Str → Option Value} {fa lp__law_are_states_right : Addr} (X : K.In h) (G : h.Ns mainGlobals mg) (hfa : mg "law" = some (.ref fa))
    {froomsuwithin : Addr} {odroomsuwithin anroomsuwithin : Option Addr} {slroomsuwithin : Array (Option Value)} {ocroomsuwithin kVroomsuwithin dcroomsuwithin pmroomsuwithin cdroomsuwithin ctroomsuwithin : Value} (aroomsuwithin : PySem.W.nsIn K mainGlobals "rooms_within" = some (some (.ref froomsuwithin))) (lroomsuwithin : K.lookup froomsuwithin = some ⟨ocroomsuwithin, odroomsuwithin, .func (PySem.W.fnOf "rooms_within" "rooms_within" (defArgs s_rooms_within) (defBody s_rooms_within) (defScope s_rooms_within) .none kVroomsuwithin dcroomsuwithin pmroomsuwithin anroomsuwithin cdroomsuwithin ctroomsuwithin), slroomsuwithin⟩) (croomsuwithin : PySem.W.codeIn K cdroomsuwithin "rooms_within" = true) (kroomsuwithin : PySem.W.keepIn K (.ref froomsuwithin) = true)
    {fthingsuwithin : Addr} {odthingsuwithin anthingsuwithin : Option Addr} {slthingsuwithin : Array (Option Value)} {octhingsuwithin kVthingsuwithin dcthingsuwithin pmthingsuwithin cdthingsuwithin ctthingsuwithin : Value} (athingsuwithin : PySem.W.nsIn K mainGlobals "things_within" = some (some (.ref fthingsuwithin))) (lthingsuwithin : K.lookup fthingsuwithin = some ⟨octhingsuwithin, odthingsuwithin, .func (PySem.W.fnOf "things_within" "things_within" (defArgs s_things_within) (defBody s_things_within) (defScope s_things_within) .none kVthingsuwithin dcthingsuwithin pmthingsuwithin anthingsuwithin cdthingsuwithin ctthingsuwithin), slthingsuwithin⟩) (cthingsuwithin : PySem.W.codeIn K cdthingsuwithin "things_within" = true) (kthingsuwithin : PySem.W.keepIn K (.ref fthingsuwithin) = true)
    {fsizesuof : Addr} {odsizesuof ansizesuof : Option Addr} {slsizesuof : Array (Option Value)} {ocsizesuof kVsizesuof dcsizesuof pmsizesuof cdsizesuof ctsizesuof : Value} (asizesuof : PySem.W.nsIn K mainGlobals "sizes_of" = some (some (.ref fsizesuof))) (lsizesuof : K.lookup fsizesuof = some ⟨ocsizesuof, odsizesuof, .func (PySem.W.fnOf "sizes_of" "sizes_of" (defArgs s_sizes_of) (defBody s_sizes_of) (defScope s_sizes_of) .none kVsizesuof dcsizesuof pmsizesuof ansizesuof cdsizesuof ctsizesuof), slsizesuof⟩) (csizesuof : PySem.W.codeIn K cdsizesuof "sizes_of" = true) (ksizesuof : PySem.W.keepIn K (.ref fsizesuof) = true)
    {fthingsuon : Addr} {odthingsuon anthingsuon : Option Addr} {slthingsuon : Array (Option Value)} {octhingsuon kVthingsuon dcthingsuon pmthingsuon cdthingsuon ctthingsuon : Value} (athingsuon : PySem.W.nsIn K mainGlobals "things_on" = some (some (.ref fthingsuon))) (lthingsuon : K.lookup fthingsuon = some ⟨octhingsuon, odthingsuon, .func (PySem.W.fnOf "things_on" "things_on" (defArgs s_things_on) (defBody s_things_on) (defScope s_things_on) .none kVthingsuon dcthingsuon pmthingsuon anthingsuon cdthingsuon ctthingsuon), slthingsuon⟩) (cthingsuon : PySem.W.codeIn K cdthingsuon "things_on" = true) (kthingsuon : PySem.W.keepIn K (.ref fthingsuon) = true)
    {ffilleduup : Addr} {odfilleduup anfilleduup : Option Addr} {slfilleduup : Array (Option Value)} {ocfilleduup kVfilleduup dcfilleduup pmfilleduup cdfilleduup ctfilleduup : Value} (afilleduup : PySem.W.nsIn K mainGlobals "filled_up" = some (some (.ref ffilleduup))) (lfilleduup : K.lookup ffilleduup = some ⟨ocfilleduup, odfilleduup, .func (PySem.W.fnOf "filled_up" "filled_up" (defArgs s_filled_up) (defBody s_filled_up) (defScope s_filled_up) .none kVfilleduup dcfilleduup pmfilleduup anfilleduup cdfilleduup ctfilleduup), slfilleduup⟩) (cfilleduup : PySem.W.codeIn K cdfilleduup "filled_up" = true) (kfilleduup : PySem.W.keepIn K (.ref ffilleduup) = true)
    {femptyustate : Addr} {odemptyustate anemptyustate : Option Addr} {slemptyustate : Array (Option Value)} {ocemptyustate kVemptyustate dcemptyustate pmemptyustate cdemptyustate ctemptyustate : Value} (aemptyustate : PySem.W.nsIn K mainGlobals "empty_state" = some (some (.ref femptyustate))) (lemptyustate : K.lookup femptyustate = some ⟨ocemptyustate, odemptyustate, .func (PySem.W.fnOf "empty_state" "empty_state" (defArgs s_empty_state) (defBody s_empty_state) (defScope s_empty_state) .none kVemptyustate dcemptyustate pmemptyustate anemptyustate cdemptyustate ctemptyustate), slemptyustate⟩) (cemptyustate : PySem.W.codeIn K cdemptyustate "empty_state" = true) (kemptyustate : PySem.W.keepIn K (.ref femptyustate) = true)
    {fleastustate : Addr} {odleastustate anleastustate : Option Addr} {slleastustate : Array (Option Value)} {ocleastustate kVleastustate dcleastustate pmleastustate cdleastustate ctleastustate : Value} (aleastustate : PySem.W.nsIn K mainGlobals "least_state" = some (some (.ref fleastustate))) (lleastustate : K.lookup fleastustate = some ⟨ocleastustate, odleastustate, .func (PySem.W.fnOf "least_state" "least_state" (defArgs s_least_state) (defBody s_least_state) (defScope s_least_state) .none kVleastustate dcleastustate pmleastustate anleastustate cdleastustate ctleastustate), slleastustate⟩) (cleastustate : PySem.W.codeIn K cdleastustate "least_state" = true) (kleastustate : PySem.W.keepIn K (.ref fleastustate) = true)
    {fstateuafter : Addr} {odstateuafter anstateuafter : Option Addr} {slstateuafter : Array (Option Value)} {ocstateuafter kVstateuafter dcstateuafter pmstateuafter cdstateuafter ctstateuafter : Value} (astateuafter : PySem.W.nsIn K mainGlobals "state_after" = some (some (.ref fstateuafter))) (lstateuafter : K.lookup fstateuafter = some ⟨ocstateuafter, odstateuafter, .func (PySem.W.fnOf "state_after" "state_after" (defArgs s_state_after) (defBody s_state_after) (defScope s_state_after) .none kVstateuafter dcstateuafter pmstateuafter anstateuafter cdstateuafter ctstateuafter), slstateuafter⟩) (cstateuafter : PySem.W.codeIn K cdstateuafter "state_after" = true) (kstateuafter : PySem.W.keepIn K (.ref fstateuafter) = true)
    {fallustates : Addr} {odallustates anallustates : Option Addr} {slallustates : Array (Option Value)} {ocallustates kVallustates dcallustates pmallustates cdallustates ctallustates : Value} (aallustates : PySem.W.nsIn K mainGlobals "all_states" = some (some (.ref fallustates))) (lallustates : K.lookup fallustates = some ⟨ocallustates, odallustates, .func (PySem.W.fnOf "all_states" "all_states" (defArgs s_all_states) (defBody s_all_states) (defScope s_all_states) .none kVallustates dcallustates pmallustates anallustates cdallustates ctallustates), slallustates⟩) (callustates : PySem.W.codeIn K cdallustates "all_states" = true) (kallustates : PySem.W.keepIn K (.ref fallustates) = true)
    {fulawutake : Addr} {odulawutake anulawutake : Option Addr} {slulawutake : Array (Option Value)} {oculawutake kVulawutake dculawutake pmulawutake cdulawutake ctulawutake : Value} (aulawutake : PySem.W.nsIn K mainGlobals "_law_take" = some (some (.ref fulawutake))) (lulawutake : K.lookup fulawutake = some ⟨oculawutake, odulawutake, .func (PySem.W.fnOf "_law_take" "_law_take" (defArgs s__law_take) (defBody s__law_take) (defScope s__law_take) .none kVulawutake dculawutake pmulawutake anulawutake cdulawutake ctulawutake), slulawutake⟩) (culawutake : PySem.W.codeIn K cdulawutake "_law_take" = true) (kulawutake : PySem.W.keepIn K (.ref fulawutake) = true)
    {fulawuone : Addr} {odulawuone anulawuone : Option Addr} {slulawuone : Array (Option Value)} {oculawuone kVulawuone dculawuone pmulawuone cdulawuone ctulawuone : Value} (aulawuone : PySem.W.nsIn K mainGlobals "_law_one" = some (some (.ref fulawuone))) (lulawuone : K.lookup fulawuone = some ⟨oculawuone, odulawuone, .func (PySem.W.fnOf "_law_one" "_law_one" (defArgs s__law_one) (defBody s__law_one) (defScope s__law_one) .none kVulawuone dculawuone pmulawuone anulawuone cdulawuone ctulawuone), slulawuone⟩) (culawuone : PySem.W.codeIn K cdulawuone "_law_one" = true) (kulawuone : PySem.W.keepIn K (.ref fulawuone) = true)
    {fulawumixed : Addr} {odulawumixed anulawumixed : Option Addr} {slulawumixed : Array (Option Value)} {oculawumixed kVulawumixed dculawumixed pmulawumixed cdulawumixed ctulawumixed : Value} (aulawumixed : PySem.W.nsIn K mainGlobals "_law_mixed" = some (some (.ref fulawumixed))) (lulawumixed : K.lookup fulawumixed = some ⟨oculawumixed, odulawumixed, .func (PySem.W.fnOf "_law_mixed" "_law_mixed" (defArgs s__law_mixed) (defBody s__law_mixed) (defScope s__law_mixed) .none kVulawumixed dculawumixed pmulawumixed anulawumixed cdulawumixed ctulawumixed), slulawumixed⟩) (culawumixed : PySem.W.codeIn K cdulawumixed "_law_mixed" = true) (kulawumixed : PySem.W.keepIn K (.ref fulawumixed) = true)
    {fulawualike : Addr} {odulawualike anulawualike : Option Addr} {slulawualike : Array (Option Value)} {oculawualike kVulawualike dculawualike pmulawualike cdulawualike ctulawualike : Value} (aulawualike : PySem.W.nsIn K mainGlobals "_law_alike" = some (some (.ref fulawualike))) (lulawualike : K.lookup fulawualike = some ⟨oculawualike, odulawualike, .func (PySem.W.fnOf "_law_alike" "_law_alike" (defArgs s__law_alike) (defBody s__law_alike) (defScope s__law_alike) .none kVulawualike dculawualike pmulawualike anulawualike cdulawualike ctulawualike), slulawualike⟩) (culawualike : PySem.W.codeIn K cdulawualike "_law_alike" = true) (kulawualike : PySem.W.keepIn K (.ref fulawualike) = true)
    {fulawuhouse : Addr} {odulawuhouse anulawuhouse : Option Addr} {slulawuhouse : Array (Option Value)} {oculawuhouse kVulawuhouse dculawuhouse pmulawuhouse cdulawuhouse ctulawuhouse : Value} (aulawuhouse : PySem.W.nsIn K mainGlobals "_law_house" = some (some (.ref fulawuhouse))) (lulawuhouse : K.lookup fulawuhouse = some ⟨oculawuhouse, odulawuhouse, .func (PySem.W.fnOf "_law_house" "_law_house" (defArgs s__law_house) (defBody s__law_house) (defScope s__law_house) .none kVulawuhouse dculawuhouse pmulawuhouse anulawuhouse cdulawuhouse ctulawuhouse), slulawuhouse⟩) (culawuhouse : PySem.W.codeIn K cdulawuhouse "_law_house" = true) (kulawuhouse : PySem.W.keepIn K (.ref fulawuhouse) = true)
    {fulawuroomsuwithin : Addr} {odulawuroomsuwithin anulawuroomsuwithin : Option Addr} {slulawuroomsuwithin : Array (Option Value)} {oculawuroomsuwithin kVulawuroomsuwithin dculawuroomsuwithin pmulawuroomsuwithin cdulawuroomsuwithin ctulawuroomsuwithin : Value} (aulawuroomsuwithin : PySem.W.nsIn K mainGlobals "_law_rooms_within" = some (some (.ref fulawuroomsuwithin))) (lulawuroomsuwithin : K.lookup fulawuroomsuwithin = some ⟨oculawuroomsuwithin, odulawuroomsuwithin, .func (PySem.W.fnOf "_law_rooms_within" "_law_rooms_within" (defArgs s__law_rooms_within) (defBody s__law_rooms_within) (defScope s__law_rooms_within) .none kVulawuroomsuwithin dculawuroomsuwithin pmulawuroomsuwithin anulawuroomsuwithin cdulawuroomsuwithin ctulawuroomsuwithin), slulawuroomsuwithin⟩) (culawuroomsuwithin : PySem.W.codeIn K cdulawuroomsuwithin "_law_rooms_within" = true) (kulawuroomsuwithin : PySem.W.keepIn K (.ref fulawuroomsuwithin) = true)
    {fulawuwithin : Addr} {odulawuwithin anulawuwithin : Option Addr} {slulawuwithin : Array (Option Value)} {oculawuwithin kVulawuwithin dculawuwithin pmulawuwithin cdulawuwithin ctulawuwithin : Value} (aulawuwithin : PySem.W.nsIn K mainGlobals "_law_within" = some (some (.ref fulawuwithin))) (lulawuwithin : K.lookup fulawuwithin = some ⟨oculawuwithin, odulawuwithin, .func (PySem.W.fnOf "_law_within" "_law_within" (defArgs s__law_within) (defBody s__law_within) (defScope s__law_within) .none kVulawuwithin dculawuwithin pmulawuwithin anulawuwithin cdulawuwithin ctulawuwithin), slulawuwithin⟩) (culawuwithin : PySem.W.codeIn K cdulawuwithin "_law_within" = true) (kulawuwithin : PySem.W.keepIn K (.ref fulawuwithin) = true)
    {fulawusizes : Addr} {odulawusizes anulawusizes : Option Addr} {slulawusizes : Array (Option Value)} {oculawusizes kVulawusizes dculawusizes pmulawusizes cdulawusizes ctulawusizes : Value} (aulawusizes : PySem.W.nsIn K mainGlobals "_law_sizes" = some (some (.ref fulawusizes))) (lulawusizes : K.lookup fulawusizes = some ⟨oculawusizes, odulawusizes, .func (PySem.W.fnOf "_law_sizes" "_law_sizes" (defArgs s__law_sizes) (defBody s__law_sizes) (defScope s__law_sizes) .none kVulawusizes dculawusizes pmulawusizes anulawusizes cdulawusizes ctulawusizes), slulawusizes⟩) (culawusizes : PySem.W.codeIn K cdulawusizes "_law_sizes" = true) (kulawusizes : PySem.W.keepIn K (.ref fulawusizes) = true)
    {fulawustate : Addr} {odulawustate anulawustate : Option Addr} {slulawustate : Array (Option Value)} {oculawustate kVulawustate dculawustate pmulawustate cdulawustate ctulawustate : Value} (aulawustate : PySem.W.nsIn K mainGlobals "_law_state" = some (some (.ref fulawustate))) (lulawustate : K.lookup fulawustate = some ⟨oculawustate, odulawustate, .func (PySem.W.fnOf "_law_state" "_law_state" (defArgs s__law_state) (defBody s__law_state) (defScope s__law_state) .none kVulawustate dculawustate pmulawustate anulawustate cdulawustate ctulawustate), slulawustate⟩) (culawustate : PySem.W.codeIn K cdulawustate "_law_state" = true) (kulawustate : PySem.W.keepIn K (.ref fulawustate) = true)
    {fulawustatesumany : Addr} {odulawustatesumany anulawustatesumany : Option Addr} {slulawustatesumany : Array (Option Value)} {oculawustatesumany kVulawustatesumany dculawustatesumany pmulawustatesumany cdulawustatesumany ctulawustatesumany : Value} (aulawustatesumany : PySem.W.nsIn K mainGlobals "_law_states_many" = some (some (.ref fulawustatesumany))) (lulawustatesumany : K.lookup fulawustatesumany = some ⟨oculawustatesumany, odulawustatesumany, .func (PySem.W.fnOf "_law_states_many" "_law_states_many" (defArgs s__law_states_many) (defBody s__law_states_many) (defScope s__law_states_many) .none kVulawustatesumany dculawustatesumany pmulawustatesumany anulawustatesumany cdulawustatesumany ctulawustatesumany), slulawustatesumany⟩) (culawustatesumany : PySem.W.codeIn K cdulawustatesumany "_law_states_many" = true) (kulawustatesumany : PySem.W.keepIn K (.ref fulawustatesumany) = true)
    {fulawustatesuofusizes : Addr} {odulawustatesuofusizes anulawustatesuofusizes : Option Addr} {slulawustatesuofusizes : Array (Option Value)} {oculawustatesuofusizes kVulawustatesuofusizes dculawustatesuofusizes pmulawustatesuofusizes cdulawustatesuofusizes ctulawustatesuofusizes : Value} (aulawustatesuofusizes : PySem.W.nsIn K mainGlobals "_law_states_of_sizes" = some (some (.ref fulawustatesuofusizes))) (lulawustatesuofusizes : K.lookup fulawustatesuofusizes = some ⟨oculawustatesuofusizes, odulawustatesuofusizes, .func (PySem.W.fnOf "_law_states_of_sizes" "_law_states_of_sizes" (defArgs s__law_states_of_sizes) (defBody s__law_states_of_sizes) (defScope s__law_states_of_sizes) .none kVulawustatesuofusizes dculawustatesuofusizes pmulawustatesuofusizes anulawustatesuofusizes cdulawustatesuofusizes ctulawustatesuofusizes), slulawustatesuofusizes⟩) (culawustatesuofusizes : PySem.W.codeIn K cdulawustatesuofusizes "_law_states_of_sizes" = true) (kulawustatesuofusizes : PySem.W.keepIn K (.ref fulawustatesuofusizes) = true)
    {fulawuisutolduright : Addr} {odulawuisutolduright anulawuisutolduright : Option Addr} {slulawuisutolduright : Array (Option Value)} {oculawuisutolduright kVulawuisutolduright dculawuisutolduright pmulawuisutolduright cdulawuisutolduright ctulawuisutolduright : Value} (aulawuisutolduright : PySem.W.nsIn K mainGlobals "_law_is_told_right" = some (some (.ref fulawuisutolduright))) (lulawuisutolduright : K.lookup fulawuisutolduright = some ⟨oculawuisutolduright, odulawuisutolduright, .func (PySem.W.fnOf "_law_is_told_right" "_law_is_told_right" (defArgs s__law_is_told_right) (defBody s__law_is_told_right) (defScope s__law_is_told_right) .none kVulawuisutolduright dculawuisutolduright pmulawuisutolduright anulawuisutolduright cdulawuisutolduright ctulawuisutolduright), slulawuisutolduright⟩) (culawuisutolduright : PySem.W.codeIn K cdulawuisutolduright "_law_is_told_right" = true) (kulawuisutolduright : PySem.W.keepIn K (.ref fulawuisutolduright) = true)
    {fulawunearusizes : Addr} {odulawunearusizes anulawunearusizes : Option Addr} {slulawunearusizes : Array (Option Value)} {oculawunearusizes kVulawunearusizes dculawunearusizes pmulawunearusizes cdulawunearusizes ctulawunearusizes : Value} (aulawunearusizes : PySem.W.nsIn K mainGlobals "_law_near_sizes" = some (some (.ref fulawunearusizes))) (lulawunearusizes : K.lookup fulawunearusizes = some ⟨oculawunearusizes, odulawunearusizes, .func (PySem.W.fnOf "_law_near_sizes" "_law_near_sizes" (defArgs s__law_near_sizes) (defBody s__law_near_sizes) (defScope s__law_near_sizes) .none kVulawunearusizes dculawunearusizes pmulawunearusizes anulawunearusizes cdulawunearusizes ctulawunearusizes), slulawunearusizes⟩) (culawunearusizes : PySem.W.codeIn K cdulawunearusizes "_law_near_sizes" = true) (kulawunearusizes : PySem.W.keepIn K (.ref fulawunearusizes) = true)
    {fulawuareustatesuright lc__law_are_states_right : Addr} {odulawuareustatesuright anulawuareustatesuright : Option Addr} {slulawuareustatesuright : Array (Option Value)} {oculawuareustatesuright kVulawuareustatesuright dculawuareustatesuright pmulawuareustatesuright ctulawuareustatesuright : Value} (aulawuareustatesuright : PySem.W.nsIn K mainGlobals "_law_are_states_right" = some (some (.ref fulawuareustatesuright))) (lulawuareustatesuright : K.lookup fulawuareustatesuright = some ⟨oculawuareustatesuright, odulawuareustatesuright, .func (PySem.W.fnOf "_law_are_states_right" "_law_are_states_right" (defArgs s__law_are_states_right) (defBody s__law_are_states_right) (defScope s__law_are_states_right) .none kVulawuareustatesuright dculawuareustatesuright pmulawuareustatesuright anulawuareustatesuright (.ref lc__law_are_states_right) ctulawuareustatesuright), slulawuareustatesuright⟩) (culawuareustatesuright : PySem.W.codeIn K (.ref lc__law_are_states_right) "_law_are_states_right" = true) (kulawuareustatesuright : PySem.W.keepIn K (.ref fulawuareustatesuright) = true)
    {fulawubag : Addr} {odulawubag anulawubag : Option Addr} {slulawubag : Array (Option Value)} {oculawubag kVulawubag dculawubag pmulawubag cdulawubag ctulawubag : Value} (aulawubag : PySem.W.nsIn K mainGlobals "_law_bag" = some (some (.ref fulawubag))) (lulawubag : K.lookup fulawubag = some ⟨oculawubag, odulawubag, .func (PySem.W.fnOf "_law_bag" "_law_bag" (defArgs s__law_bag) (defBody s__law_bag) (defScope s__law_bag) .none kVulawubag dculawubag pmulawubag anulawubag cdulawubag ctulawubag), slulawubag⟩) (culawubag : PySem.W.codeIn K cdulawubag "_law_bag" = true) (kulawubag : PySem.W.keepIn K (.ref fulawubag) = true)
    {flaw : Addr} {odlaw anlaw : Option Addr} {sllaw : Array (Option Value)} {oclaw kVlaw dclaw pmlaw cdlaw ctlaw : Value} (alaw : PySem.W.nsIn K mainGlobals "law" = some (some (.ref flaw))) (llaw : K.lookup flaw = some ⟨oclaw, odlaw, .func (PySem.W.fnOf "law" "law" (defArgs s_law) (defBody s_law) (defScope s_law) .none kVlaw dclaw pmlaw anlaw cdlaw ctlaw), sllaw⟩) (claw : PySem.W.codeIn K cdlaw "law" = true) (klaw : PySem.W.keepIn K (.ref flaw) = true)
    (hq__law_are_states_right : nameAt lp__law_are_states_right = "_law_are_states_right.<locals>.<lambda>")
    {c_TooMany fI_TooMany cN_TooMany : Addr} {nm_TooMany q_TooMany : Str} {bs_TooMany bm_TooMany su_TooMany : List Value} {sn_TooMany : List Str} {ab_TooMany : Bool} {co_TooMany : Option Bool} {dd_TooMany od_TooMany an_TooMany : Option Addr} {k0_TooMany k1_TooMany k2_TooMany k3_TooMany k5_TooMany : Option Value} {osl_TooMany : Array (Option Value)} {oc_TooMany kV_TooMany dc_TooMany pm_TooMany cd_TooMany ct_TooMany : Value} (ugTooMany : PySem.W.nsIn K mainGlobals "TooMany" = some (some (.ref c_TooMany))) (ulTooMany : K.lookup c_TooMany = some (excClassObj nm_TooMany q_TooMany c_TooMany cN_TooMany bs_TooMany bm_TooMany true sn_TooMany su_TooMany ab_TooMany co_TooMany dd_TooMany k0_TooMany k1_TooMany k2_TooMany k3_TooMany k5_TooMany "ValueError.__new__")) (urTooMany : PySem.HandSPX.refsVE bm_TooMany = true) (usTooMany : PySem.W.findIn K (.ref c_TooMany) "__setattr__" = some (some (.builtin "object.__setattr__"))) (ubTooMany : PySem.W.subIn K (.ref c_TooMany) (.type "BaseException") = some true) (utTooMany : PySem.W.typeIn K (.ref c_TooMany) = some (.type "type")) (ukTooMany : PySem.W.keepIn K (.ref c_TooMany) = true) (ufTooMany : L2.xfB K c_TooMany = true) (unTooMany : PySem.W.findIn K (.ref c_TooMany) "most" = some none) (umTooMany : PySem.W.exmOne K (.ref c_TooMany) (.ref c_TooMany) = some true) (uiTooMany : PySem.W.findIn K (.ref c_TooMany) "__init__" = some (some (.ref fI_TooMany))) (ujTooMany : PySem.W.typeIn K (.ref fI_TooMany) = some (.type "function")) (uoTooMany : K.lookup fI_TooMany = some ⟨oc_TooMany, od_TooMany, .func (PySem.W.fnOf "__init__" "TooMany.__init__" (defArgs s_TooMany_init) (defBody s_TooMany_init) (defScope s_TooMany_init) .none kV_TooMany dc_TooMany pm_TooMany an_TooMany cd_TooMany ct_TooMany), osl_TooMany⟩) (ucTooMany : PySem.W.codeIn K cd_TooMany "TooMany.__init__" = true) (uyTooMany : PySem.W.keepIn K (.ref fI_TooMany) = true)
    {fulawuheard : Addr} {odulawuheard anulawuheard : Option Addr} {slulawuheard : Array (Option Value)} {oculawuheard kVulawuheard dculawuheard pmulawuheard cdulawuheard ctulawuheard : Value} (aulawuheard : PySem.W.nsIn K mainGlobals "_law_heard" = some (some (.ref fulawuheard))) (lulawuheard : K.lookup fulawuheard = some ⟨oculawuheard, odulawuheard, .func (PySem.W.fnOf "_law_heard" "_law_heard" (defArgs s__law_heard) (defBody s__law_heard) (defScope s__law_heard) .none kVulawuheard dculawuheard pmulawuheard anulawuheard cdulawuheard ctulawuheard), slulawuheard⟩) (culawuheard : PySem.W.codeIn K cdulawuheard "_law_heard" = true) (kulawuheard : PySem.W.keepIn K (.ref fulawuheard) = true)
    {tkMOST_STATES : Tok} (xcMOST_STATES : PySem.W.nsIn K mainGlobals "MOST_STATES" = some (some (.int 3000 tkMOST_STATES)))
    (zlen : PySem.W.nsIn K mainGlobals "len" = some none)
    (zrange : PySem.W.nsIn K mainGlobals "range" = some none)
    (zmax : PySem.W.nsIn K mainGlobals "max" = some none)
    (zmin : PySem.W.nsIn K mainGlobals "min" = some none)
    (zint : PySem.W.nsIn K mainGlobals "int" = some none)
    (zabs : PySem.W.nsIn K mainGlobals "abs" = some none)
    (zlist : PySem.W.nsIn K mainGlobals "list" = some none)
    (ztuple : PySem.W.nsIn K mainGlobals "tuple" = some none)
    (zrepr : PySem.W.nsIn K mainGlobals "repr" = some none)
    (zany : PySem.W.nsIn K mainGlobals "any" = some none)
    (zall : PySem.W.nsIn K mainGlobals "all" = some none)
    (zzip : PySem.W.nsIn K mainGlobals "zip" = some none)
    (zenumerate : PySem.W.nsIn K mainGlobals "enumerate" = some none)
    (zsum : PySem.W.nsIn K mainGlobals "sum" = some none)
    (zsorted : PySem.W.nsIn K mainGlobals "sorted" = some none)
    (zset : PySem.W.nsIn K mainGlobals "set" = some none)
    (zisinstance : PySem.W.nsIn K mainGlobals "isinstance" = some none)
    (zstr : PySem.W.nsIn K mainGlobals "str" = some none)
    (zbool : PySem.W.nsIn K mainGlobals "bool" = some none)
    (zdict : PySem.W.nsIn K mainGlobals "dict" = some none)
    (zreversed : PySem.W.nsIn K mainGlobals "reversed" = some none)
    : ∃ fd : FuncData, (∀ (t : Shared) (u : Value), BindsTo t fd ⟨[u], []⟩ [("_law_script", u)]) ∧ ∀ base : Heap, K.In base → base.Ns mainGlobals mg → (∀ p ∈ [(lc__law_are_states_right, lp__law_are_states_right)], LamX.TabB base mg p.1 p.2) → FnG P w K mg base CX0 7 fa fd ["_law_script"] (spL ⟨K, [lp__law_are_states_right]⟩) := by
  have e := hfa.symm.trans (PySem.W.mg_of X G alaw)
  cases e
  have F_TooMany := fun_mk (K := K) (st := s_TooMany_init) uoTooMany ucTooMany uyTooMany
  have E_TooMany : ErrD ⟨K, [lp__law_are_states_right]⟩ mg "TooMany" c_TooMany "most" := ErrD.mk' (PySem.W.mg_of X G ugTooMany) ⟨⟨_, _, _, _, _, _, _, _, _, _, _, _, _, _, _, ulTooMany, urTooMany⟩, usTooMany, ubTooMany, utTooMany, ukTooMany⟩ ufTooMany unTooMany umTooMany uiTooMany ujTooMany F_TooMany sc_TooMany_init (F_TooMany.binds fun _ _ _ _ _ _ us hl => match us, hl with | [_, _], _ => rfl) rfl
  have H__law_heard : OkH ⟨K, [lp__law_are_states_right]⟩ mg "_law_heard" c_TooMany "most" "told" "many" := OkH.mk (Ng := N__law_heard) (st := s__law_heard) (a := "_law_act") (e := "e") (y := "TooMany") (PySem.W.mg_of X G aulawuheard) kulawuheard lulawuheard culawuheard ((fun_mk (K := K) (st := s__law_heard) lulawuheard culawuheard kulawuheard).binds fun _ _ _ _ _ _ us hl => match us, hl with | [_], _ => rfl) sc__law_heard rfl E_TooMany rfl rfl (i := 1) rfl rfl (by decide)
  have T : Tops ⟨K, [lp__law_are_states_right]⟩ mg lc__law_are_states_right c_TooMany := {
    blt := {len := PySem.W.mg_none_of X G zlen, range := PySem.W.mg_none_of X G zrange, max := PySem.W.mg_none_of X G zmax, min := PySem.W.mg_none_of X G zmin, int := PySem.W.mg_none_of X G zint, abs := PySem.W.mg_none_of X G zabs, list := PySem.W.mg_none_of X G zlist, tuple := PySem.W.mg_none_of X G ztuple, repr := PySem.W.mg_none_of X G zrepr, any := PySem.W.mg_none_of X G zany, all := PySem.W.mg_none_of X G zall, zip := PySem.W.mg_none_of X G zzip, enumerate := PySem.W.mg_none_of X G zenumerate, sum := PySem.W.mg_none_of X G zsum, sorted := PySem.W.mg_none_of X G zsorted, set := PySem.W.mg_none_of X G zset, isinstance := PySem.W.mg_none_of X G zisinstance, str := PySem.W.mg_none_of X G zstr, bool := PySem.W.mg_none_of X G zbool, dict := PySem.W.mg_none_of X G zdict, reversed := PySem.W.mg_none_of X G zreversed}
    E_TooMany := E_TooMany
    H__law_heard := H__law_heard
    C_MOST_STATES := ⟨_, PySem.W.mg_of X G xcMOST_STATES, ⟨tkMOST_STATES, rfl⟩⟩
    D_rooms_within := def_of (T := [lp__law_are_states_right]) X G aroomsuwithin lroomsuwithin croomsuwithin kroomsuwithin fun _ _ _ _ _ _ us hl => match us, hl with | [_], _ => rfl
    D_things_within := def_of (T := [lp__law_are_states_right]) X G athingsuwithin lthingsuwithin cthingsuwithin kthingsuwithin fun _ _ _ _ _ _ us hl => match us, hl with | [_, _, _], _ => rfl
    D_sizes_of := def_of (T := [lp__law_are_states_right]) X G asizesuof lsizesuof csizesuof ksizesuof fun _ _ _ _ _ _ us hl => match us, hl with | [_, _], _ => rfl
    D_things_on := def_of (T := [lp__law_are_states_right]) X G athingsuon lthingsuon cthingsuon kthingsuon fun _ _ _ _ _ _ us hl => match us, hl with | [_, _, _], _ => rfl
    D_filled_up := def_of (T := [lp__law_are_states_right]) X G afilleduup lfilleduup cfilleduup kfilleduup fun _ _ _ _ _ _ us hl => match us, hl with | [_, _, _], _ => rfl
    D_empty_state := def_of (T := [lp__law_are_states_right]) X G aemptyustate lemptyustate cemptyustate kemptyustate fun _ _ _ _ _ _ us hl => match us, hl with | [_], _ => rfl
    D_least_state := def_of (T := [lp__law_are_states_right]) X G aleastustate lleastustate cleastustate kleastustate fun _ _ _ _ _ _ us hl => match us, hl with | [_, _], _ => rfl
    D_state_after := def_of (T := [lp__law_are_states_right]) X G astateuafter lstateuafter cstateuafter kstateuafter fun _ _ _ _ _ _ us hl => match us, hl with | [_], _ => rfl
    D_all_states := def_of (T := [lp__law_are_states_right]) X G aallustates lallustates callustates kallustates fun _ _ _ _ _ _ us hl => match us, hl with | [_, _], _ => rfl
    D__law_take := def_of (T := [lp__law_are_states_right]) X G aulawutake lulawutake culawutake kulawutake fun _ _ _ _ _ _ us hl => match us, hl with | [_, _], _ => rfl
    D__law_one := def_of (T := [lp__law_are_states_right]) X G aulawuone lulawuone culawuone kulawuone fun _ _ _ _ _ _ us hl => match us, hl with | [_, _], _ => rfl
    D__law_mixed := def_of (T := [lp__law_are_states_right]) X G aulawumixed lulawumixed culawumixed kulawumixed fun _ _ _ _ _ _ us hl => match us, hl with | [_, _], _ => rfl
    D__law_alike := def_of (T := [lp__law_are_states_right]) X G aulawualike lulawualike culawualike kulawualike fun _ _ _ _ _ _ us hl => match us, hl with | [_, _], _ => rfl
    D__law_house := def_of (T := [lp__law_are_states_right]) X G aulawuhouse lulawuhouse culawuhouse kulawuhouse fun _ _ _ _ _ _ us hl => match us, hl with | [_, _, _, _], _ => rfl
    D__law_rooms_within := def_of (T := [lp__law_are_states_right]) X G aulawuroomsuwithin lulawuroomsuwithin culawuroomsuwithin kulawuroomsuwithin fun _ _ _ _ _ _ us hl => match us, hl with | [_], _ => rfl
    D__law_within := def_of (T := [lp__law_are_states_right]) X G aulawuwithin lulawuwithin culawuwithin kulawuwithin fun _ _ _ _ _ _ us hl => match us, hl with | [_, _, _], _ => rfl
    D__law_sizes := def_of (T := [lp__law_are_states_right]) X G aulawusizes lulawusizes culawusizes kulawusizes fun _ _ _ _ _ _ us hl => match us, hl with | [_, _], _ => rfl
    D__law_state := def_of (T := [lp__law_are_states_right]) X G aulawustate lulawustate culawustate kulawustate fun _ _ _ _ _ _ us hl => match us, hl with | [_, _], _ => rfl
    D__law_states_many := def_of (T := [lp__law_are_states_right]) X G aulawustatesumany lulawustatesumany culawustatesumany kulawustatesumany fun _ _ _ _ _ _ us hl => match us, hl with | [_, _], _ => rfl
    D__law_states_of_sizes := def_of (T := [lp__law_are_states_right]) X G aulawustatesuofusizes lulawustatesuofusizes culawustatesuofusizes kulawustatesuofusizes fun _ _ _ _ _ _ us hl => match us, hl with | [_, _], _ => rfl
    D__law_is_told_right := def_of (T := [lp__law_are_states_right]) X G aulawuisutolduright lulawuisutolduright culawuisutolduright kulawuisutolduright fun _ _ _ _ _ _ us hl => match us, hl with | [_, _], _ => rfl
    D__law_near_sizes := def_of (T := [lp__law_are_states_right]) X G aulawunearusizes lulawunearusizes culawunearusizes kulawunearusizes fun _ _ _ _ _ _ us hl => match us, hl with | [_, _], _ => rfl
    D__law_are_states_right := def_ofC (T := [lp__law_are_states_right]) X G aulawuareustatesuright lulawuareustatesuright culawuareustatesuright kulawuareustatesuright fun _ _ _ _ _ _ us hl => match us, hl with | [_, _], _ => rfl
    D__law_bag := def_of (T := [lp__law_are_states_right]) X G aulawubag lulawubag culawubag kulawubag fun _ _ _ _ _ _ us hl => match us, hl with | [_], _ => rfl
  }
  have F := fun_mk (K := K) (st := s_law) llaw claw klaw
  exact ⟨_, fun s v => .of_eq rfl, fun base _ _ tb => whole (tb _ (.head _)) (.head _) hq__law_are_states_right T F law_true⟩
end K01
open PySem PySem.W PyProof.Rows
set_option maxRecDepth 100000 in
set_option maxHeartbeats 0 in
theorem PySem.Challenge.cw_floorkeepers_k01_houses_and_states_holds : PySem.Challenge.rw_floorkeepers_k01_houses_and_states.Holds := by
  w_on; o_law; k_head; (case hw => w_witness2)
  k_fill
  refine' DL.walkT (l := PySem.Challenge.rw_floorkeepers_k01_houses_and_states) (n := 63) (k := 7) (x := "_law_script") (sp := DL.spL) [(_, _)] rfl (by rw [sizeLine_eq]; decide) rfl ⟨rfl, by decide, by decide⟩ rfl (fun w h Y => PySem.W.km_in_of Y) (fun w h Y => DL.tabsN _ (PySem.W.km_tabs_of Y)) ?hN ?hC ?F (fun K H a ns hl ht hS => ⟨a, ns, rfl, hS, hl, ht, fun _ => rfl⟩)
  case F =>
    intro w mg fa h KX G hmg
    refine' K01.all_of KX G hmg ?aroomsuwithin ?lroomsuwithin ?croomsuwithin ?kroomsuwithin ?athingsuwithin ?lthingsuwithin ?cthingsuwithin ?kthingsuwithin ?asizesuof ?lsizesuof ?csizesuof ?ksizesuof ?athingsuon ?lthingsuon ?cthingsuon ?kthingsuon ?afilleduup ?lfilleduup ?cfilleduup ?kfilleduup ?aemptyustate ?lemptyustate ?cemptyustate ?kemptyustate ?aleastustate ?lleastustate ?cleastustate ?kleastustate ?astateuafter ?lstateuafter ?cstateuafter ?kstateuafter ?aallustates ?lallustates ?callustates ?kallustates ?aulawutake ?lulawutake ?culawutake ?kulawutake ?aulawuone ?lulawuone ?culawuone ?kulawuone ?aulawumixed ?lulawumixed ?culawumixed ?kulawumixed ?aulawualike ?lulawualike ?culawualike ?kulawualike ?aulawuhouse ?lulawuhouse ?culawuhouse ?kulawuhouse ?aulawuroomsuwithin ?lulawuroomsuwithin ?culawuroomsuwithin ?kulawuroomsuwithin ?aulawuwithin ?lulawuwithin ?culawuwithin ?kulawuwithin ?aulawusizes ?lulawusizes ?culawusizes ?kulawusizes ?aulawustate ?lulawustate ?culawustate ?kulawustate ?aulawustatesumany ?lulawustatesumany ?culawustatesumany ?kulawustatesumany ?aulawustatesuofusizes ?lulawustatesuofusizes ?culawustatesuofusizes ?kulawustatesuofusizes ?aulawuisutolduright ?lulawuisutolduright ?culawuisutolduright ?kulawuisutolduright ?aulawunearusizes ?lulawunearusizes ?culawunearusizes ?kulawunearusizes ?aulawuareustatesuright ?lulawuareustatesuright ?culawuareustatesuright ?kulawuareustatesuright ?aulawubag ?lulawubag ?culawubag ?kulawubag ?alaw ?llaw ?claw ?klaw ?hq__law_are_states_right ?ugTooMany ?ulTooMany ?urTooMany ?usTooMany ?ubTooMany ?utTooMany ?ukTooMany ?ufTooMany ?unTooMany ?umTooMany ?uiTooMany ?ujTooMany ?uoTooMany ?ucTooMany ?uyTooMany ?aulawuheard ?lulawuheard ?culawuheard ?kulawuheard ?xcMOST_STATES ?zlen ?zrange ?zmax ?zmin ?zint ?zabs ?zlist ?ztuple ?zrepr ?zany ?zall ?zzip ?zenumerate ?zsum ?zsorted ?zset ?zisinstance ?zstr ?zbool ?zdict ?zreversed
    (case aroomsuwithin => k_is)
    (case lroomsuwithin => k_is)
    (case croomsuwithin => k_is)
    (case kroomsuwithin => k_is)
    (case athingsuwithin => k_is)
    (case lthingsuwithin => k_is)
    (case cthingsuwithin => k_is)
    (case kthingsuwithin => k_is)
    (case asizesuof => k_is)
    (case lsizesuof => k_is)
    (case csizesuof => k_is)
    (case ksizesuof => k_is)
    (case athingsuon => k_is)
    (case lthingsuon => k_is)
    (case cthingsuon => k_is)
    (case kthingsuon => k_is)
    (case afilleduup => k_is)
    (case lfilleduup => k_is)
    (case cfilleduup => k_is)
    (case kfilleduup => k_is)
    (case aemptyustate => k_is)
    (case lemptyustate => k_is)
    (case cemptyustate => k_is)
    (case kemptyustate => k_is)
    (case aleastustate => k_is)
    (case lleastustate => k_is)
    (case cleastustate => k_is)
    (case kleastustate => k_is)
    (case astateuafter => k_is)
    (case lstateuafter => k_is)
    (case cstateuafter => k_is)
    (case kstateuafter => k_is)
    (case aallustates => k_is)
    (case lallustates => k_is)
    (case callustates => k_is)
    (case kallustates => k_is)
    (case aulawutake => k_is)
    (case lulawutake => k_is)
    (case culawutake => k_is)
    (case kulawutake => k_is)
    (case aulawuone => k_is)
    (case lulawuone => k_is)
    (case culawuone => k_is)
    (case kulawuone => k_is)
    (case aulawumixed => k_is)
    (case lulawumixed => k_is)
    (case culawumixed => k_is)
    (case kulawumixed => k_is)
    (case aulawualike => k_is)
    (case lulawualike => k_is)
    (case culawualike => k_is)
    (case kulawualike => k_is)
    (case aulawuhouse => k_is)
    (case lulawuhouse => k_is)
    (case culawuhouse => k_is)
    (case kulawuhouse => k_is)
    (case aulawuroomsuwithin => k_is)
    (case lulawuroomsuwithin => k_is)
    (case culawuroomsuwithin => k_is)
    (case kulawuroomsuwithin => k_is)
    (case aulawuwithin => k_is)
    (case lulawuwithin => k_is)
    (case culawuwithin => k_is)
    (case kulawuwithin => k_is)
    (case aulawusizes => k_is)
    (case lulawusizes => k_is)
    (case culawusizes => k_is)
    (case kulawusizes => k_is)
    (case aulawustate => k_is)
    (case lulawustate => k_is)
    (case culawustate => k_is)
    (case kulawustate => k_is)
    (case aulawustatesumany => k_is)
    (case lulawustatesumany => k_is)
    (case culawustatesumany => k_is)
    (case kulawustatesumany => k_is)
    (case aulawustatesuofusizes => k_is)
    (case lulawustatesuofusizes => k_is)
    (case culawustatesuofusizes => k_is)
    (case kulawustatesuofusizes => k_is)
    (case aulawuisutolduright => k_is)
    (case lulawuisutolduright => k_is)
    (case culawuisutolduright => k_is)
    (case kulawuisutolduright => k_is)
    (case aulawunearusizes => k_is)
    (case lulawunearusizes => k_is)
    (case culawunearusizes => k_is)
    (case kulawunearusizes => k_is)
    (case aulawuareustatesuright => k_is)
    (case lulawuareustatesuright => k_is)
    (case culawuareustatesuright => k_is)
    (case kulawuareustatesuright => k_is)
    (case aulawubag => k_is)
    (case lulawubag => k_is)
    (case culawubag => k_is)
    (case kulawubag => k_is)
    (case alaw => k_is)
    (case llaw => k_is)
    (case claw => k_is)
    (case klaw => k_is)
    (case hq__law_are_states_right => rfl)
    (case ugTooMany => k_is)
    (case ulTooMany => k_is)
    (case urTooMany => kernel_rfl)
    (case usTooMany => k_is)
    (case ubTooMany => k_is)
    (case utTooMany => k_is)
    (case ukTooMany => k_is)
    (case ufTooMany => kernel_rfl)
    (case unTooMany => k_is)
    (case umTooMany => kernel_rfl)
    (case uiTooMany => k_is)
    (case ujTooMany => k_is)
    (case uoTooMany => k_is)
    (case ucTooMany => k_is)
    (case uyTooMany => k_is)
    (case aulawuheard => k_is)
    (case lulawuheard => k_is)
    (case culawuheard => k_is)
    (case kulawuheard => k_is)
    (case xcMOST_STATES => k_is)
    (case zlen => k_is)
    (case zrange => k_is)
    (case zmax => k_is)
    (case zmin => k_is)
    (case zint => k_is)
    (case zabs => k_is)
    (case zlist => k_is)
    (case ztuple => k_is)
    (case zrepr => k_is)
    (case zany => k_is)
    (case zall => k_is)
    (case zzip => k_is)
    (case zenumerate => k_is)
    (case zsum => k_is)
    (case zsorted => k_is)
    (case zset => k_is)
    (case zisinstance => k_is)
    (case zstr => k_is)
    (case zbool => k_is)
    (case zdict => k_is)
    (case zreversed => k_is)
  case hN => exact fun w => by kernel_rfl
  case hC =>
    intro w p hp
    rcases hp with _ | ⟨_, hp⟩
    · kernel_rfl
    cases hp
