import PyProof.Rows.All
import Wide.All
import OpenK.AllK
import Wide.FinOn
import HandS.ForMost
import HandS.IsInst
import HandS.DictComp
import HandS.SortInts
import HandS.More
import HandS.Conv
import HandS.Style
import HandS.Exc
import HandS.TupAny
import HandS.Walk
import HandS.Evl
import HandS.Zip
import PySem.Challenge.RW_asyncframes_k01_boxes_are_listed_and_che
set_option Elab.async false
set_option linter.all false
set_option maxRecDepth 100000
/-! Rules that were lacking: a list extended by a tuple, a tuple turned round by a slice. -/
namespace AF
open PySem PySem.Spec PyProof.Rows L2

theorem ext_tup_meets (l : Addr) (xs : Array Value) (n : Nat) (b : Addr) (ys : Array Value) (n2 : Nat) (dd : Option Addr) (sl : Array (Option Value))
    (h0 : ¬(!xs.isEmpty && Builtin.List.listTooLong (xs.size + ys.size)) = true) (h1 : xs.size ≤ sizeLine) (h2 : xs.size + ys.size ≤ sizeLine + 1) :
    Meets (Builtin.«list.extend» ⟨[.ref l, .ref b], []⟩)
      (fun _ R s => s.heap.get? l = some { cls := .type "list", dict := none, data := .seq xs n, slots := #[] }
        ∧ s.heap.get? b = some { cls := .type "tuple", dict := dd, data := .seq ys n2, slots := sl }
        ∧ R (.ok (.ret Value.none)) { s with heap := s.heap.update l (Obj.mapSeq fun x => x ++ ys), toks := s.toks }) :=
  .of_wp fun prog w A R s h => by
    obtain ⟨hp, g, d, tk, os⟩ := s
    obtain ⟨hl, hb, h⟩ := h
    have f1 := AutoSeq1.idx_int
    have f2 := AutoSeq1.sub_tuple_tuple
    have f3 := AutoSeq1.sub_list_list
    have f4 := AutoSeq1.sub_tuple_list
    have f5 := AutoSeq1.sub_list_tuple
    have hz' : (xs ++ ys).size ≤ sizeLine + 1 := by
      rw [Array.size_append]
      exact h2
    wp_walk using (wpAny_updateSeq hl rfl (hz := h1) (_hz' := hz')), AutoSeq1.wpAny_loadPart' hl, AutoSeq1.wpAny_loadPart' hb
    exact ⟨_, rfl, h⟩

def rExtT (K : PySem.W.Frag) : V → List V → Hp → VK → Prop := fun x vs H Q => ∃ l b xs zs, x = .ref l ∧ vs = [.ref b] ∧ H l = some (.lst xs) ∧ SqT K H b zs ∧ xs.length + zs.length ≤ sizeLine ∧ Q .non (upd H l (.lst (xs ++ zs)))
section
variable {X : Cx}
theorem mt_extT : MtM X "list.extend" (rExtT X.K) := by
  intro pins s σ H x vs v us Q I rx rv h
  obtain ⟨l, b, xs, zs, rfl, rfl, hH, hB, hz, q⟩ := h
  cases rx
  obtain ⟨u, rfl, ru⟩ := rv.one
  cases ru
  obtain ⟨z, its, n, r, hl, e⟩ := I.lstM hH
  obtain ⟨its2, r2, ⟨o, ho, hc, n2, hd⟩, z2⟩ := I.tuple hB
  have hl2 := r2.length
  obtain ⟨cls, dd, data, sl⟩ := o
  simp only at hc hd
  subst hc hd
  have hsz : its.toArray.size + its2.toArray.size ≤ sizeLine := by
    rw [List.size_toArray, List.size_toArray]
    omega
  have hlong : ¬ (!its.toArray.isEmpty && Builtin.List.listTooLong (its.toArray.size + its2.toArray.size)) = true := by
    rw [notLongL hsz, Bool.and_false]
    exact Bool.false_ne_true
  refine call_meets F.slot_list_extend ⟨_, e, rfl⟩ F.entry_list_extend (F.args_list_extend_2 _ _)
    (ext_tup_meets l its.toArray n b its2.toArray n2 dd sl hlong (by rw [List.size_toArray]; omega) (by omega)) ⟨e, ho, ?_⟩
  refine ⟨.non, _, I.lset (its' := its ++ its2) hH e (by simp) (r.append r2) ?_, rfl, q⟩
  rw [List.length_append]
  omega

/-! ### t[::-1] of a tuple -/
theorem adjust_rev (n : Nat) : Builtin.Slice.sliceAdjust none none (-1) (n : Int) = ((n : Int) - 1, -1) := by
  unfold Builtin.Slice.sliceAdjust
  simp
theorem places_rev (n : Nat) : Builtin.Slice.slicePlaces ((n : Int) - 1) (-1) (-1) = n := by
  unfold Builtin.Slice.slicePlaces
  have h1 : ¬ ((-1 : Int) > 0) := by omega
  simp only [h1, if_false]
  have e : -(-1 : Int) = 1 := by omega
  simp only [e, Int.ediv_one]
  split <;> omega

theorem applied_rev {prog : Program} {w : World} {A : Around} {E : Value → Shared → Prop} {s : Shared} {sl : Addr} {vl vu vs : Value} {n : Nat} {Q : Int × Int × Nat → Shared → Prop}
    (hs : s.heap.IsSliceOf sl vl vu vs) (pl : IsPart vl none) (pu : IsPart vu none) (ps : IsPart vs (some (-1)))
    (h : Q ((n : Int) - 1, -1, n) s) : wpAny (model prog w) A (Builtin.Slice.sliceApplied (.ref sl) (pure (n : Int))) Q E s := by
  obtain ⟨os, hos, hcs, hds⟩ := id hs
  unfold Builtin.Slice.sliceApplied Builtin.Slice.sliceFields
  refine wpAny_bind (wpAny_bind (wpAny_field hos hds (x := vl) rfl
    (wpAny_bind (wpAny_field hos hds (x := vu) rfl (wpAny_bind (wpAny_field hos hds (x := vs) rfl (wpAny_pure ?_)))))))
  refine wpAny_bind (HT.slicePart_ ps ?_)
  show wpAny _ _ (if ((-1 : Int) == 0) = true then _ else _) _ _ s
  rw [if_neg (by decide)]
  refine wpAny_bind (HT.slicePart_ pl (wpAny_bind (HT.slicePart_ pu (wpAny_bind (wpAny_pure ?_)))))
  show wpAny _ _ (match Builtin.Slice.sliceAdjust none none (-1) (n : Int) with | (lo, hi) => pure (lo, (-1 : Int), Builtin.Slice.slicePlaces lo hi (-1))) _ _ s
  rw [adjust_rev n]
  show wpAny _ _ (pure ((n : Int) - 1, (-1 : Int), Builtin.Slice.slicePlaces ((n : Int) - 1) (-1) (-1))) _ _ s
  rw [places_rev]
  exact wpAny_pure h
theorem pick_rev (xs : Array Value) : ((List.range xs.size).filterMap fun (m : Nat) => xs[(((xs.size : Int) - 1) + (m : Int) * (-1)).toNat]?).toArray = xs.toList.reverse.toArray := by
  have e : (List.range xs.size).filterMap (fun (m : Nat) => xs[(((xs.size : Int) - 1) + (m : Int) * (-1)).toNat]?) = (List.range xs.size).filterMap (fun m => xs[xs.size - 1 - m]?) := by
    have key : ∀ (l : List Nat), (∀ m ∈ l, m < xs.size) → l.filterMap (fun (m : Nat) => xs[(((xs.size : Int) - 1) + (m : Int) * (-1)).toNat]?) = l.filterMap (fun m => xs[xs.size - 1 - m]?) := by
      intro l
      induction l with
      | nil => intro _; rfl
      | cons m r ih =>
        intro hm
        have h1 := hm m List.mem_cons_self
        have q : (((xs.size : Int) - 1) + (m : Int) * (-1)).toNat = xs.size - 1 - m := by omega
        rw [List.filterMap_cons, List.filterMap_cons, q, ih fun j hj => hm j (List.mem_cons_of_mem _ hj)]
    exact key _ fun m hm => List.mem_range.mp hm
  rw [e]
  have e2 : (fun m => xs[xs.size - 1 - m]?) = (xs[·]?) ∘ (fun k => xs.size - 1 - k) := rfl
  rw [e2, ← List.filterMap_map, PySem.W.krv_range, List.filterMap_reverse, PySem.W.krv_all]
theorem getItem_tuple_rev {prog : Program} {w : World} {A : Around} {E : Value → Shared → Prop} {s : Shared} {t sl : Addr} {items : Array Value} {vl vu vs : Value} {Q : Value → Shared → Prop}
    (ht : IsTup s.heap t items) (hs : s.heap.IsSliceOf sl vl vu vs) (pl : IsPart vl none) (pu : IsPart vu none) (ps : IsPart vs (some (-1)))
    (h : Q (.ref s.heap.objs.size) { s with heap := s.heap.push { cls := .type "tuple", data := .seq items.toList.reverse.toArray } })
    (hsz : items.size ≤ sizeLine) : wpAny (model prog w) A (getItem (.ref t) (.ref sl)) Q E s := by
  have hok : sizeOk (.seq items.toList.reverse.toArray) := by
    show items.toList.reverse.toArray.size ≤ sizeLine
    rw [List.size_toArray, List.length_reverse, Array.length_toList]
    exact hsz
  obtain ⟨os, hos, hcs, hds⟩ := id hs
  have hTs : s.TypeIs (.ref sl) "slice" := ⟨os, hos, hcs⟩
  unfold getItem
  try with_reducible refine wpAny_holding ?_
  first | refine wpAny_bind (wpAny_pure ?_) | skip
  refine wpAny_bind (wpAny_sequenceKey ht.typeIs (by decide) ?_)
  refine wpAny_bind (wpAny_callSpecial?_slot (name := Str.ofString "__getitem__") ht.typeIs PyProof.Rows.slot_tuple_getitem
    (wpAny_call_entry PyProof.Rows.slot_tuple_getitem ht.typeIs entry_tuple_getitem ?_ (args_tuple_getitem _ _)))
  show wpAny _ _ (Builtin.Tuple.tupleItemsOf (.ref t) >>= _) _ _ s
  refine wpAny_bind (tupleItemsOf_ ht ?_)
  refine wpAny_bind (wpAny_typeOf hTs ?_)
  rw [if_pos (by decide)]
  refine wpAny_bind (applied_rev hs pl pu ps ?_)
  have hno : ¬ ((((items.size : Int) - 1) == 0 && (-1 : Int) == 1 && items.size == items.size) = true) := by
    have z : ((-1 : Int) == 1) = false := by decide
    rw [z]
    simp
  show wpAny _ _ (if (((items.size : Int) - 1) == 0 && (-1 : Int) == 1 && items.size == items.size) = true then _ else _) _ _ s
  rw [if_neg hno, pick_rev]
  first
    | exact wpAny_bind (m := Builtin.Tuple.tupleExact _) (wpAny_newObj_type (wpAny_pure ⟨_, rfl, wpAny_pure h⟩) hok)
    | exact wpAny_bind (m := Builtin.Tuple.tupleExact _) (wpAny_newObj_type (wpAny_bind (wpAny_pure (wpAny_pure ⟨_, rfl, wpAny_pure h⟩))) hok)
    | exact wpAny_bind (wpAny_bind (m := Builtin.Tuple.tupleExact _) (wpAny_newObj_type (wpAny_pure (wpAny_pure ⟨_, rfl, wpAny_pure h⟩)) hok))
    | exact wpAny_bind (wpAny_bind (m := Builtin.Tuple.tupleExact _) (wpAny_newObj_type (wpAny_pure ⟨_, rfl, wpAny_pure h⟩) hok))
def tRevT (K : PySem.W.Frag) (te : TE) : TE := fun σ H Q => te σ H fun x H1 => ∃ a xs, x = .ref a ∧ SqT K H1 a xs ∧ ∀ p, H1 p = none → Q (.ref p) (upd H1 p (.tup xs.reverse))
theorem pe_revT {e : Expr} {te : TE} {k : Nat} {p1 p2 p3 pos : Pos} (he : PE X e te) : PE X (.Subscript e (.Slice none none (some (.UnaryOp .USub (.Constant (.int 1) k p1) p2)) p3) pos) (tRevT X.K te) := by
  refine ⟨fun pins s σ H Q I h => ?_⟩
  refine Subscript_ (thn (he.run pins s σ H _ I h) fun v s1 ⟨x, H1, I1, r1, q1⟩ => ?_)
  obtain ⟨a, xs, ex, hx, q⟩ := q1
  subst ex
  cases r1
  have hst : PO X (some (.UnaryOp .USub (.Constant (.int 1) k p1) p2)) (tPart (tUn (rU fun i => .int (-i)) (tC (.int 1)))) := po_some (pe_un un_neg pe_int)
  refine wpAny_Slice (thn (po_none.run pins s1 σ H1 (fun o H2 => o = none ∧ H2 = H1) I1 ⟨rfl, rfl⟩) fun vl s2 ⟨l, H2, I2, pl, el, e2⟩ => ?_)
  subst el e2
  refine thn (po_none.run pins s2 σ H2 (fun o H3 => o = none ∧ H3 = H2) I2 ⟨rfl, rfl⟩) fun vu s3 ⟨u, H3, I3, pu, eu, e3⟩ => ?_
  subst eu e3
  refine thn (hst.run pins s3 σ H3 (fun o H4 => o = some (-1) ∧ H4 = H3) I3 ⟨1, rfl, -1, rfl, rfl, rfl⟩) fun vs s4 ⟨o, H4, I4, ps, eo, e4⟩ => ?_
  subst eo e4
  have I5 : Inv X pins σ H4 { s4 with heap := s4.heap.push { cls := .type "slice", data := .fields #[vl, vu, vs] } } :=
    I4.kept (t' := s4.toks) fun b ob q => Heap.get?_push_of_some _ q
  obtain ⟨its, r, ht, hz⟩ := I5.tuple hx
  have hlen := r.length
  show wpAny (model X.prog X.w) X.A (subscriptTail e (.Slice none none (some (.UnaryOp .USub (.Constant (.int 1) k p1) p2)) p3) (.ref a) (.ref s4.heap.objs.size)) (EP X pins σ Q) X.xe
    { s4 with heap := s4.heap.push { cls := .type "slice", data := .fields #[vl, vu, vs] } }
  refine tail_any (ops := [.ref a, .ref s4.heap.objs.size]) ht.typeIs (PyProof.Rows.slot_tuple_getitem.lookup) ?_ (by with_unfolding_all rfl)
  refine getItem_tuple_rev ht (Heap.IsSliceOf.new _ vl vu vs) pl pu ps ?_ (by rw [List.size_toArray]; omega)
  refine ⟨.ref _, _, I5.laid (t' := s4.toks) (o := .tup xs.reverse) (fun b ob q => Heap.get?_push_of_some _ q) (Nat.le_refl _) ?_, rfl, q _ (I5.hok.fresh (Nat.le_refl _))⟩
  exact ⟨by rw [List.length_reverse]; exact hz, its.reverse, r.reverse, IsTup.new _ _⟩
end
/-! ### a def of the text, its call -/
structure DF (K : PySem.W.Frag) (mg : Str → Option Value) (x : Str) (st : Stmt) (ps : List Str) where
  f : Addr
  fd : FuncData
  F : Fun K x x st f fd
  b : Binds K fd ps []
  m : mg x = some (.ref f)
section
variable {X : Cx}
theorem cal {x : Str} {st : Stmt} {ps : List Str} {k : Nat} {sp : Sp} {p pos : Pos} {e : Expr} {es : List Expr} {t : TA} (D : DF X.K X.mg x st ps)
    (G : FnOk X.prog X.w X.K X.mg X.base CX0 k D.f D.fd ps sp) (hr : Room k X.A) (ha : PA X (e :: es) t) (hg : Gl X x := by rfl)
    (hdb : (x == ("__debug__" : Str)) = false := by decide) (he : starEach (e :: es) X.env = (false, eval e X.env) :: starEach es X.env := by rfl)
    (hpl : (backTo pos (starEach es X.env)).any (·.1) = false := by rfl) : PE X (.Call (.Name x p) (e :: es) [] pos) (tCall sp [] E0 t) :=
  pe_call G hr hg D.m D.F.kp D.b .nil pass0 ha hdb he hpl
theorem cal0 {x : Str} {st : Stmt} {ps : List Str} {k : Nat} {sp : Sp} {p pos : Pos} (D : DF X.K X.mg x st ps)
    (G : FnOk X.prog X.w X.K X.mg X.base CX0 k D.f D.fd ps sp) (hr : Room k X.A) (hg : Gl X x := by rfl)
    (hdb : (x == ("__debug__" : Str)) = false := by decide) : PE X (.Call (.Name x p) [] [] pos) (tCall sp [] E0 tNil) :=
  pe_call0 G hr hg D.m D.F.kp D.b .nil pass0 hdb
/-- an item of a list or of a tuple -/
def rIxLT (K : PySem.W.Frag) : R2 := fun x y H Q => rIxL K x y H Q ∨ rIxT K x y H Q
/-! ### rules that name the written part K: within a comprehension's block X.K is no word that stands outside of it -/
theorem ixT (K : PySem.W.Frag) (h : X.K = K) : IxR X (rIxT K) := by subst h; exact ix_tup
theorem ixL (K : PySem.W.Frag) (h : X.K = K) : IxR X (rIxL K) := by subst h; exact ix_list
theorem ixLT (K : PySem.W.Frag) (h : X.K = K) : IxR X (rIxLT K) := by subst h; exact ix_list.or ix_tup
theorem slL (K : PySem.W.Frag) (h : X.K = K) : SlR X (rSlL K) := by subst h; exact sl_list
theorem slT (K : PySem.W.Frag) (h : X.K = K) : SlR X (rSlA K) := by subst h; exact sl_tupA
def rLenQ (K : PySem.W.Frag) : List V → Hp → VK → Prop := fun xs H Q => ∃ p ys, xs = [.ref p] ∧ (SqL K H p ys ∨ SqT K H p ys) ∧ Q (.int ys.length) H
theorem lenK (K : PySem.W.Frag) (h : X.K = K) : CallR X (.builtin "len") (rLenQ K) := by subst h; exact call_len_seq
theorem sumK (K : PySem.W.Frag) (h : X.K = K) (hc : X.calm = true) : CallR X (.builtin "sum") (rSum K) := by subst h; exact cr_sum hc
theorem allK (K : PySem.W.Frag) (h : X.K = K) (hc : X.calm = true) : CallR X (.builtin "all") (rAll K) := by subst h; exact cr_all hc
theorem anyK (K : PySem.W.Frag) (h : X.K = K) (hc : X.calm = true) : CallR X (.builtin "any") (rAny K) := by subst h; exact cr_any hc
theorem maxK (K : PySem.W.Frag) (h : X.K = K) (hc : X.calm = true) : CallR X (.builtin "max") (rMax K) := by subst h; exact cr_max hc
theorem minK (K : PySem.W.Frag) (h : X.K = K) (hc : X.calm = true) : CallR X (.builtin "min") (rMin K) := by subst h; exact cr_min hc
theorem sortedK (K : PySem.W.Frag) (h : X.K = K) : CallR X (.builtin "sorted") (rSortedI K) := by subst h; exact cr_sortedI
def rListQ (K : PySem.W.Frag) : List V → Hp → VK → Prop := fun xs H Q => ∃ p ys, xs = [.ref p] ∧ (SqL K H p ys ∨ SqT K H p ys) ∧ ∀ l, H l = none → Q (.ref l) (upd H l (.lst ys))
theorem listK (K : PySem.W.Frag) (h : X.K = K) : CallR X (.type "list") (rListQ K) := by subst h; exact call_list_of
def rTupQ (K : PySem.W.Frag) : List V → Hp → VK → Prop := fun xs H Q => ∃ p ys, xs = [.ref p] ∧ ((SqL K H p ys ∧ ∀ l, H l = none → Q (.ref l) (upd H l (.tup ys))) ∨ (SqT K H p ys ∧ Q (.ref p) H))
theorem tupK (K : PySem.W.Frag) (h : X.K = K) : CallR X (.type "tuple") (rTupQ K) := by subst h; exact call_tuple_of
theorem isiK (K : PySem.W.Frag) (h : X.K = K) : CallR X (.builtin "isinstance") (rIsi K) := by subst h; exact call_isi
theorem isiTK (K : PySem.W.Frag) (h : X.K = K) : CallR X (.builtin "isinstance") (rIsiT K) := by subst h; exact call_isiT
theorem piL {tg l : Expr} {tl : TE} (K : PySem.W.Frag) (h : X.K = K) (hl : PE X l tl) : PI X tg l (iList K tl) := by subst h; exact pi_list hl
theorem piT {tg l : Expr} {tl : TE} (K : PySem.W.Frag) (h : X.K = K) (hl : PE X l tl) : PI X tg l (iTup K tl) := by subst h; exact pi_tup hl
theorem catTK (K : PySem.W.Frag) (h : X.K = K) : OpR X (binaryOp .Add) (rCatA K) := by subst h; exact op_catA
theorem eqK (K : PySem.W.Frag) (h : X.K = K) (hu : X.A.units + 64 < cLine) : OpR X (compareOp .Eq) (rEqD K) := by subst h; exact op_eqD hu
theorem neK (K : PySem.W.Frag) (h : X.K = K) (hu : X.A.units + 64 < cLine) : OpR X (compareOp .NotEq) (rNeD K) := by subst h; exact op_neD hu
theorem inK (K : PySem.W.Frag) (h : X.K = K) : OpR X (compareOp .In) (rIn K false) := by subst h; exact op_in_seq
theorem notInK (K : PySem.W.Frag) (h : X.K = K) : OpR X (compareOp .NotIn) (rIn K true) := by subst h; exact op_notIn_seq
theorem extTK (K : PySem.W.Frag) (h : X.K = K) : MtM X "list.extend" (rExtT K) := by subst h; exact mt_extT
theorem revTK {e : Expr} {te : TE} {k : Nat} {p1 p2 p3 pos : Pos} (K : PySem.W.Frag) (h : X.K = K) (he : PE X e te) : PE X (.Subscript e (.Slice none none (some (.UnaryOp .USub (.Constant (.int 1) k p1) p2)) p3) pos) (tRevT K te) := by
  subst h
  exact pe_revT he
def tTru (K : PySem.W.Frag) (ta : TE) : TT := fun σ H Q => ta σ H fun x H' => ∃ k, TruV K x H' k ∧ Q k H'
theorem truK {a : Expr} {ta : TE} (K : PySem.W.Frag) (h : X.K = K) (ha : PE X a ta) (he : ∀ whole, isTrue a X.env whole = (do let v ← whole; standAt a.pos; holding [v] (truthy v)) := by intro _; rfl) : PT X a (tTru K ta) := by
  subst h
  exact pt_truth ha he
end
theorem iteP {c A B : Prop} [Decidable c] (h : c) (k : A) : if c then A else B := by
  rw [if_pos h]
  exact k
theorem iteN {c A B : Prop} [Decidable c] (h : ¬ c) (k : B) : if c then A else B := by
  rw [if_neg h]
  exact k
/-- what law(script) promises -/
def spLaw (K : PySem.W.Frag) : Sp := fun vs H Q _ => ∃ (a : Addr) (ns : List Int), vs = [.ref a] ∧ SqL K H a (ns.map V.int) ∧ ns.length ≤ 63 ∧ ∀ H', Q (.bl true) H'
theorem walk_law {k : Nat} {l : PySem.W.OpenLaw} {q : Program} {loose : List Str} {XP : (Str → Option Value) → Heap → Prop} {YP : World → Heap → Prop} {d : DefRec} {K : Params → PySem.W.Frag}
    (hn : l.most = some 63) (hdf : d.params.defaults = []) (hk : k ≤ 200) (hY : ∀ (w : World) (h : Heap), YP w h → (K w.params).In h)
    (F : ∀ (w : World) (mg : Str → Option Value) (fa : Addr) (h : Heap), (K w.params).In h → h.Ns mainGlobals mg → mg d.name = some (.ref fa) →
      ∃ fd : FuncData, (∀ (s : Shared) (u : Value), BindsTo s fd ⟨[u], []⟩ [("script", u)]) ∧
        ∀ base : Heap, (K w.params).In base → base.Ns mainGlobals mg → FnOk l.prog w (K w.params) mg base CX0 k fa fd ["script"] (spLaw (K w.params))) :
    PySem.W.WalkO q loose XP YP l.row.toRowW d [] (fun f vs => PySem.call f vs) :=
  L2.walk_of (n := 63) (k := k) (x := "script") (CX := fun _ => CX0) (sp := fun w => spLaw (K w.params)) hn (by decide) hdf
    (Room.mono (k := 200) ⟨rfl, by decide, by decide⟩ hk) hY F (fun _ _ a ns hl _ hS => ⟨a, ns, rfl, hS, hl, fun _ => rfl⟩) fun _ _ _ _ _ z => z
end AF
/-! Boxes as data, and how they lie in a heap. -/
namespace AF
open PySem PySem.Spec PyProof.Rows L2

inductive Box where
  | blk (n h : Int)
  | scr (n h : Int) (ps : List Box)
namespace Box
def num : Box → Int
  | .blk n _ => n
  | .scr n _ _ => n
def ht : Box → Int
  | .blk _ h => h
  | .scr _ h _ => h
def parts : Box → List Box
  | .blk _ _ => []
  | .scr _ _ ps => ps
def isS : Box → Bool
  | .blk _ _ => false
  | .scr _ _ _ => true
def kind : Box → Str
  | .blk _ _ => "block"
  | .scr _ _ _ => "scroller"
mutual
def pre : Box → List Box
  | .blk n h => [.blk n h]
  | .scr n h ps => .scr n h ps :: preL ps
def preL : List Box → List Box
  | [] => []
  | b :: r => b.pre ++ preL r
end
mutual
def depth : Box → Nat
  | .blk _ _ => 0
  | .scr _ _ ps => depthL ps + 1
def depthL : List Box → Nat
  | [] => 0
  | b :: r => max b.depth (depthL r)
end
mutual
def py : Box → PyData
  | .blk n h => .tuple [.str "block", .int n, .int h]
  | .scr n h ps => .tuple [.str "scroller", .int n, .int h, .tuple (pyL ps)]
def pyL : List Box → List PyData
  | [] => []
  | b :: r => b.py :: pyL r
end
theorem pre_eq (b : Box) : b.pre = b :: preL b.parts := by
  cases b with
  | blk n h => simp [pre, parts, preL]
  | scr n h ps => simp [pre, parts]
theorem pyL_eq : ∀ l : List Box, pyL l = l.map py
  | [] => by simp [pyL]
  | b :: r => by simp [pyL, pyL_eq r]
theorem preL_eq : ∀ l : List Box, preL l = l.flatMap pre
  | [] => by simp [preL]
  | b :: r => by simp [preL, preL_eq r]
theorem depthL_mem : ∀ {l : List Box} {b : Box}, b ∈ l → b.depth ≤ depthL l
  | c :: r, b, h => by
    rcases List.mem_cons.mp h with e | h
    · subst e
      simp only [depthL]
      omega
    · have := depthL_mem h
      simp only [depthL]
      omega
end Box

mutual
def BoxAt (H : Hp) : V → Box → Prop
  | v, .blk n h => ∃ a : Addr, v = .ref a ∧ H a = some (.tup [.str "block", .int n, .int h])
  | v, .scr n h ps => ∃ (a p : Addr) (vs : List V), v = .ref a ∧ H a = some (.tup [.str "scroller", .int n, .int h, .ref p]) ∧ H p = some (.tup vs) ∧ BoxesAt H vs ps
def BoxesAt (H : Hp) : List V → List Box → Prop
  | vs, [] => vs = []
  | vs, b :: bs => ∃ (v : V) (r : List V), vs = v :: r ∧ BoxAt H v b ∧ BoxesAt H r bs
end
/-- tuples stand -/
def KeepT (H H' : Hp) : Prop := ∀ b xs, H b = some (.tup xs) → H' b = some (.tup xs)
theorem KeepT.refl (H : Hp) : KeepT H H := fun _ _ h => h
theorem KeepT.trans {H H1 H2 : Hp} (a : KeepT H H1) (b : KeepT H1 H2) : KeepT H H2 := fun c xs h => b c xs (a c xs h)
theorem Same.keepT {H H' : Hp} (e : Same H H') : KeepT H H' := fun b xs h => e b _ h
/-- all that was tracked is as it was, but at the places l -/
def But (l : List Addr) (H H' : Hp) : Prop := ∀ b o, b ∉ l → H b = some o → H' b = some o
theorem But.refl (l : List Addr) (H : Hp) : But l H H := fun _ _ _ h => h
theorem But.trans {l : List Addr} {H H1 H2 : Hp} (a : But l H H1) (b : But l H1 H2) : But l H H2 := fun c o n h => b c o n (a c o n h)
theorem But.of {l : List Addr} {H H' : Hp} (e : Same H H') : But l H H' := fun b o _ h => e b o h
theorem But.mono {l l' : List Addr} {H H' : Hp} (e : But l H H') (h : ∀ b ∈ l, b ∈ l') : But l' H H' := fun b o n q => e b o (fun z => n (h b z)) q
theorem same_new {H : Hp} {p : Addr} (h : H p = none) (o : HO) : Same H (upd H p o) := fun b u q => by
  rw [upd_ne (ne_of_none q h)]
  exact q
theorem but_upd {H : Hp} {p : Addr} (o : HO) : But [p] H (upd H p o) := fun b u n q => by
  rw [upd_ne (fun e => n (by rw [e]; exact List.mem_cons_self))]
  exact q
/-- a store to what is new to H -/
theorem same_upd {H H' : Hp} {p : Addr} (e : Same H H') (h : H p = none) (o : HO) : Same H (upd H' p o) := fun b u q => by
  rw [upd_ne (ne_of_none q h)]
  exact e b u q
theorem keepT_upd {H : Hp} {p : Addr} {xs : List V} (h : H p = some (.lst xs)) (o : HO) : KeepT H (upd H p o) := fun b ys q => by
  rw [upd_ne (ne_of q h (fun z => nomatch z))]
  exact q
theorem keepT_updK {H : Hp} {p : Addr} {xs : List (Key × V)} (h : H p = some (.dK xs)) (o : HO) : KeepT H (upd H p o) := fun b ys q => by
  rw [upd_ne (ne_of q h (fun z => nomatch z))]
  exact q

mutual
theorem BoxAt.keep {H H' : Hp} (k : KeepT H H') : ∀ (b : Box) (v : V), BoxAt H v b → BoxAt H' v b
  | .blk n h, v, q => by
    simp only [BoxAt] at q ⊢
    obtain ⟨a, e, q⟩ := q
    exact ⟨a, e, k _ _ q⟩
  | .scr n h ps, v, q => by
    simp only [BoxAt] at q ⊢
    obtain ⟨a, p, vs, e, q1, q2, q3⟩ := q
    exact ⟨a, p, vs, e, k _ _ q1, k _ _ q2, BoxesAt.keep k ps vs q3⟩
theorem BoxesAt.keep {H H' : Hp} (k : KeepT H H') : ∀ (bs : List Box) (vs : List V), BoxesAt H vs bs → BoxesAt H' vs bs
  | [], vs, q => by
    simp only [BoxesAt] at q ⊢
    exact q
  | b :: bs, vs, q => by
    simp only [BoxesAt] at q ⊢
    obtain ⟨v, r, e, q1, q2⟩ := q
    exact ⟨v, r, e, BoxAt.keep k b v q1, BoxesAt.keep k bs r q2⟩
end
section
variable {H H' : Hp} {v : V} {b : Box} {vs ws : List V} {bs cs : List Box}
theorem BoxAt.k (q : BoxAt H v b) (k : KeepT H H') : BoxAt H' v b := BoxAt.keep k b v q
theorem BoxesAt.k (q : BoxesAt H vs bs) (k : KeepT H H') : BoxesAt H' vs bs := BoxesAt.keep k bs vs q
theorem BoxAt.s (q : BoxAt H v b) (k : Same H H') : BoxAt H' v b := BoxAt.keep (Same.keepT k) b v q
theorem BoxesAt.s (q : BoxesAt H vs bs) (k : Same H H') : BoxesAt H' vs bs := BoxesAt.keep (Same.keepT k) bs vs q
/-- the first three items of a box's tuple -/
theorem BoxAt.tup (q : BoxAt H v b) : ∃ (a : Addr) (xs : List V), v = .ref a ∧ H a = some (.tup xs) ∧ xs.take 3 = [.str b.kind, .int b.num, .int b.ht] := by
  cases b with
  | blk n h =>
    simp only [BoxAt] at q
    obtain ⟨a, e, q⟩ := q
    exact ⟨a, _, e, q, rfl⟩
  | scr n h ps =>
    simp only [BoxAt] at q
    obtain ⟨a, p, vs, e, q, _⟩ := q
    exact ⟨a, _, e, q, rfl⟩
theorem BoxAt.scr (q : BoxAt H v (.scr n h ps)) : ∃ (a p : Addr) (vs : List V), v = .ref a ∧ H a = some (.tup [.str "scroller", .int n, .int h, .ref p]) ∧ H p = some (.tup vs) ∧ BoxesAt H vs ps := by
  simp only [BoxAt] at q
  exact q
theorem BoxAt.mkS {a p : Addr} (h1 : H a = some (.tup [.str "scroller", .int n, .int h, .ref p])) (h2 : H p = some (.tup vs)) (q : BoxesAt H vs bs) : BoxAt H (.ref a) (.scr n h bs) := by
  simp only [BoxAt]
  exact ⟨a, p, vs, rfl, h1, h2, q⟩
theorem BoxAt.mkB {a : Addr} (h1 : H a = some (.tup [.str "block", .int n, .int h])) : BoxAt H (.ref a) (.blk n h) := by
  simp only [BoxAt]
  exact ⟨a, rfl, h1⟩
theorem BoxesAt.nil : BoxesAt H [] [] := by
  simp only [BoxesAt]
theorem BoxesAt.cons (h1 : BoxAt H v b) (h2 : BoxesAt H vs bs) : BoxesAt H (v :: vs) (b :: bs) := by
  simp only [BoxesAt]
  exact ⟨v, vs, rfl, h1, h2⟩
theorem BoxesAt.cons_inv (q : BoxesAt H vs (b :: bs)) : ∃ v r, vs = v :: r ∧ BoxAt H v b ∧ BoxesAt H r bs := by
  simp only [BoxesAt] at q
  exact q
theorem BoxesAt.nil_inv (q : BoxesAt H vs []) : vs = [] := by
  simp only [BoxesAt] at q
  exact q
theorem BoxesAt.len : ∀ {bs : List Box} {vs : List V}, BoxesAt H vs bs → vs.length = bs.length
  | [], vs, q => by
    rw [q.nil_inv]
    rfl
  | b :: bs, vs, q => by
    obtain ⟨v, r, rfl, _, q2⟩ := q.cons_inv
    rw [List.length_cons, List.length_cons, BoxesAt.len q2]
theorem BoxesAt.get : ∀ {bs : List Box} {vs : List V} {i : Nat} {v : V}, BoxesAt H vs bs → vs[i]? = some v → ∃ b, bs[i]? = some b ∧ BoxAt H v b
  | [], vs, i, v, q, e => by
    rw [q.nil_inv] at e
    simp at e
  | b :: bs, vs, 0, v, q, e => by
    obtain ⟨u, r, rfl, q1, q2⟩ := q.cons_inv
    have e : u = v := by simpa using e
    subst e
    exact ⟨b, rfl, q1⟩
  | b :: bs, vs, i + 1, v, q, e => by
    obtain ⟨u, r, rfl, q1, q2⟩ := q.cons_inv
    exact BoxesAt.get (i := i) q2 (by simpa using e)
theorem BoxesAt.append : ∀ {bs cs : List Box} {vs ws : List V}, BoxesAt H vs bs → BoxesAt H ws cs → BoxesAt H (vs ++ ws) (bs ++ cs)
  | [], cs, vs, ws, q, q' => by
    rw [q.nil_inv]
    exact q'
  | b :: bs, cs, vs, ws, q, q' => by
    obtain ⟨v, r, rfl, q1, q2⟩ := q.cons_inv
    exact BoxesAt.cons q1 (BoxesAt.append q2 q')
theorem BoxesAt.one (h : BoxAt H v b) : BoxesAt H [v] [b] := .cons h .nil
theorem BoxesAt.reverse : ∀ {bs : List Box} {vs : List V}, BoxesAt H vs bs → BoxesAt H vs.reverse bs.reverse
  | [], vs, q => by
    rw [q.nil_inv]
    exact .nil
  | b :: bs, vs, q => by
    obtain ⟨v, r, rfl, q1, q2⟩ := q.cons_inv
    rw [List.reverse_cons, List.reverse_cons]
    exact (BoxesAt.reverse q2).append (.one q1)
theorem BoxesAt.take : ∀ {bs : List Box} {vs : List V} (i : Nat), BoxesAt H vs bs → BoxesAt H (vs.take i) (bs.take i)
  | _, _, 0, _ => .nil
  | [], vs, i + 1, q => by
    rw [q.nil_inv]
    exact .nil
  | b :: bs, vs, i + 1, q => by
    obtain ⟨v, r, rfl, q1, q2⟩ := q.cons_inv
    exact BoxesAt.cons q1 (BoxesAt.take i q2)
theorem BoxesAt.split_last (q : BoxesAt H vs (bs ++ [b])) : ∃ v ws, vs = ws ++ [v] ∧ BoxesAt H ws bs ∧ BoxAt H v b := by
  have r := q.reverse
  rw [List.reverse_append] at r
  obtain ⟨v, ws, e, q1, q2⟩ := BoxesAt.cons_inv (by simpa using r)
  refine ⟨v, ws.reverse, ?_, ?_, q1⟩
  · have := congrArg List.reverse e
    simpa using this
  · have := q2.reverse
    simpa using this
end
end AF
namespace AF
namespace Box
theorem preL_append : ∀ a b : List Box, preL (a ++ b) = preL a ++ preL b
  | [], b => by simp [preL]
  | x :: a, b => by simp [preL, preL_append a b]
theorem preL_ge : ∀ l : List Box, l.length ≤ (preL l).length
  | [] => Nat.zero_le _
  | b :: r => by
    have := preL_ge r
    simp only [preL, List.length_append, List.length_cons, pre_eq b]
    omega
end Box
end AF
/-! Data at any depth (Dp): boxes, lists of them, ints; the facts that == and isinstance ask. -/
namespace AF
open PySem PySem.Spec PyProof.Rows L2
section
variable {K : PySem.W.Frag} {H H' : Hp}
theorem Same.seqT {a : Addr} {xs : List V} (e : Same H H') (h : SqT K H a xs) : SqT K H' a xs := by
  rcases h with (h | ⟨o, h⟩) | h
  · exact .inl (.inl (e _ _ h))
  · exact .inl (.inr ⟨o, e _ _ h⟩)
  · exact .inr h
/-- lists, tuples and what is locked -/
def sqO : HO → Bool
  | .lst _ => true
  | .tup _ => true
  | .frz _ _ => true
  | _ => false
def KeepS (H H' : Hp) : Prop := ∀ b o, sqO o = true → H b = some o → H' b = some o
theorem Same.keepS (e : Same H H') : KeepS H H' := fun b o _ h => e b o h
theorem KeepS.seq {a : Addr} {xs : List V} (e : KeepS H H') (h : SqL K H a xs) : SqL K H' a xs := by
  rcases h with (h | ⟨o, h⟩) | h
  · exact .inl (.inl (e _ _ rfl h))
  · exact .inl (.inr ⟨o, e _ _ rfl h⟩)
  · exact .inr h
theorem KeepS.seqT {a : Addr} {xs : List V} (e : KeepS H H') (h : SqT K H a xs) : SqT K H' a xs := by
  rcases h with (h | ⟨o, h⟩) | h
  · exact .inl (.inl (e _ _ rfl h))
  · exact .inl (.inr ⟨o, e _ _ rfl h⟩)
  · exact .inr h
mutual
theorem Dp.keep (e : KeepS H H') : ∀ (d : PyData) (v : V), Dp K H v d → Dp K H' v d
  | .none, v, h => by
    cases h
    exact .non
  | .bool b, v, h => by
    cases h
    exact .bl b
  | .int i, v, h => by
    cases h
    exact .int i
  | .str x, v, h => by
    cases h
    exact .str x
  | .list ds, v, h => by
    cases h with
    | lst h1 h2 => exact .lst (e.seq h1) (DpAll.keep e ds _ h2)
  | .tuple ds, v, h => by
    cases h with
    | tup h1 h2 => exact .tup (e.seqT h1) (DpAll.keep e ds _ h2)
  | .dict _, v, h => by cases h
theorem DpAll.keep (e : KeepS H H') : ∀ (ds : List PyData) (vs : List V), DpAll K H vs ds → DpAll K H' vs ds
  | [], vs, h => by
    cases h
    exact .nil
  | d :: ds, vs, h => by
    cases h with
    | cons h1 h2 => exact .cons (Dp.keep e d _ h1) (DpAll.keep e ds _ h2)
end
theorem Dp.same (e : Same H H') (d : PyData) (v : V) (h : Dp K H v d) : Dp K H' v d := Dp.keep (Same.keepS e) d v h
theorem DpAll.same (e : Same H H') (ds : List PyData) (vs : List V) (h : DpAll K H vs ds) : DpAll K H' vs ds := DpAll.keep (Same.keepS e) ds vs h
theorem Dp.s {v : V} {d : PyData} (h : Dp K H v d) (e : Same H H') : Dp K H' v d := Dp.same e d v h
theorem DpAll.get : ∀ {ds : List PyData} {vs : List V} {i : Nat} {d : PyData}, DpAll K H vs ds → ds[i]? = some d → ∃ v, vs[i]? = some v ∧ Dp K H v d
  | [], _, _, _, _, e => by simp at e
  | c :: ds, vs, 0, d, h, e => by
    cases h with
    | cons h1 h2 =>
      have e : c = d := by simpa using e
      subst e
      exact ⟨_, rfl, h1⟩
  | c :: ds, vs, i + 1, d, h, e => by
    cases h with
    | cons h1 h2 =>
      obtain ⟨v, q, r⟩ := DpAll.get (i := i) h2 (by simpa using e)
      exact ⟨v, by simpa using q, r⟩
theorem DpAll.len : ∀ {ds : List PyData} {vs : List V}, DpAll K H vs ds → vs.length = ds.length
  | [], _, h => by
    cases h
    rfl
  | d :: ds, _, h => by
    cases h with
    | cons h1 h2 => rw [List.length_cons, List.length_cons, DpAll.len h2]
mutual
theorem BoxAt.dp : ∀ (b : Box) (v : V), BoxAt H v b → Dp K H v b.py
  | .blk n h, v, q => by
    simp only [BoxAt] at q
    obtain ⟨a, rfl, q⟩ := q
    simp only [Box.py]
    exact .tup (.of q) (.cons (.str _) (.cons (.int _) (.cons (.int _) .nil)))
  | .scr n h ps, v, q => by
    simp only [BoxAt] at q
    obtain ⟨a, p, vs, rfl, q1, q2, q3⟩ := q
    simp only [Box.py]
    exact .tup (.of q1) (.cons (.str _) (.cons (.int _) (.cons (.int _) (.cons (.tup (.of q2) (BoxesAt.dp ps vs q3)) .nil))))
theorem BoxesAt.dp : ∀ (bs : List Box) (vs : List V), BoxesAt H vs bs → DpAll K H vs (Box.pyL bs)
  | [], vs, q => by
    simp only [BoxesAt] at q
    subst q
    simp only [Box.pyL]
    exact .nil
  | b :: bs, vs, q => by
    simp only [BoxesAt] at q
    obtain ⟨v, r, rfl, q1, q2⟩ := q
    simp only [Box.pyL]
    exact .cons (BoxAt.dp b v q1) (BoxesAt.dp bs r q2)
end
theorem dpInts : ∀ ns : List Int, DpAll K H (ns.map V.int) (ns.map PyData.int)
  | [] => .nil
  | n :: r => .cons (.int n) (dpInts r)
theorem dpIntL {a : Addr} {ns : List Int} (h : SqL K H a (ns.map V.int)) : Dp K H (.ref a) (.list (ns.map PyData.int)) := .lst h (dpInts ns)

/-! how deep data is, and that it has no dict -/
mutual
def dd : PyData → Nat
  | .list ds => ddL ds + 1
  | .tuple ds => ddL ds + 1
  | _ => 0
def ddL : List PyData → Nat
  | [] => 0
  | d :: r => max (dd d) (ddL r)
end
theorem ddL_mem : ∀ {l : List PyData} {d : PyData}, d ∈ l → dd d ≤ ddL l
  | c :: r, d, h => by
    rcases List.mem_cons.mp h with e | h
    · subst e
      simp only [ddL]
      omega
    · have := ddL_mem h
      simp only [ddL]
      omega
theorem ddL_ints : ∀ ns : List Int, ddL (ns.map PyData.int) = 0
  | [] => by simp [ddL]
  | n :: r => by simp [ddL, dd, ddL_ints r]
mutual
theorem dd_py : ∀ b : Box, dd b.py ≤ 2 * b.depth + 1
  | .blk n h => by simp [Box.py, dd, ddL]
  | .scr n h ps => by
    have := dd_pyL ps
    simp only [Box.py, dd, ddL, Box.depth]
    omega
theorem dd_pyL : ∀ l : List Box, ddL (Box.pyL l) ≤ 2 * Box.depthL l + 1
  | [] => by simp [Box.pyL, ddL]
  | b :: r => by
    have h1 := dd_py b
    have h2 := dd_pyL r
    simp only [Box.pyL, ddL, Box.depthL]
    omega
end

/-! isinstance -/
theorem ty_lst {a : Addr} {xs : List V} (h : SqL K H a xs) : TyX K H (.ref a) (.type "list") := by
  rcases h with (h | ⟨o, h⟩) | ⟨o, its, n, h, c, _⟩
  · exact .base (.lst h)
  · exact .base (.frz h)
  · exact .kList h c
theorem ty_tup {a : Addr} {xs : List V} (h : SqT K H a xs) : TyX K H (.ref a) (.type "tuple") := by
  rcases h with (h | ⟨o, h⟩) | ⟨o, its, n, h, c, _⟩
  · exact .base (.tup h)
  · exact .fTuple h
  · exact .kTuple h c
/-- the name of the type of a piece of data -/
def tyn : PyData → String
  | .none => "NoneType"
  | .bool _ => "bool"
  | .int _ => "int"
  | .str _ => "str"
  | .list _ => "list"
  | .tuple _ => "tuple"
  | .dict _ => "dict"
theorem Dp.ty {v : V} {d : PyData} (h : Dp K H v d) : TyX K H v (.type (tyn d)) := by
  cases h with
  | non => exact .base .non
  | bl b => exact .base (.bl b)
  | int i => exact .base (.int i)
  | str x => exact .base (.str x)
  | lst h1 h2 => exact ty_lst h1
  | tup h1 h2 => exact ty_tup h1
end
section
variable {K : PySem.W.Frag}
def nN (n t : String) : Bool := n == t || (n == "int" && t == "bool")
theorem kb_all : ∀ t ∈ ["NoneType", "bool", "int", "str", "list", "tuple"], ∀ n ∈ ["list", "tuple", "bool", "str", "int"], kitB t n = some (nN n t) := by decide +kernel
theorem tyn_mem {d : PyData} (h : tyn d ≠ "dict") : tyn d ∈ ["NoneType", "bool", "int", "str", "list", "tuple"] := by
  cases d <;> first | exact absurd rfl h | simp [tyn]
def isLi : PyData → Bool
  | .list _ => true
  | _ => false
def isTu : PyData → Bool
  | .tuple _ => true
  | _ => false
def isBo : PyData → Bool
  | .bool _ => true
  | _ => false
def isSt : PyData → Bool
  | .str _ => true
  | _ => false
def isIn : PyData → Bool
  | .int _ => true
  | .bool _ => true
  | _ => false
theorem kit_li {d : PyData} (h : tyn d ≠ "dict") : PySem.W.kitOne K (.type (tyn d)) (.type "list") = some (isLi d) := by
  have q := kb_all _ (tyn_mem h) "list" (by simp)
  have e : nN "list" (tyn d) = isLi d := by cases d <;> rfl
  rw [e] at q
  exact kit_ty q
theorem kit_tu {d : PyData} (h : tyn d ≠ "dict") : PySem.W.kitOne K (.type (tyn d)) (.type "tuple") = some (isTu d) := by
  have q := kb_all _ (tyn_mem h) "tuple" (by simp)
  have e : nN "tuple" (tyn d) = isTu d := by cases d <;> rfl
  rw [e] at q
  exact kit_ty q
theorem kit_bo {d : PyData} (h : tyn d ≠ "dict") : PySem.W.kitOne K (.type (tyn d)) (.type "bool") = some (isBo d) := by
  have q := kb_all _ (tyn_mem h) "bool" (by simp)
  have e : nN "bool" (tyn d) = isBo d := by cases d <;> rfl
  rw [e] at q
  exact kit_ty q
theorem kit_st {d : PyData} (h : tyn d ≠ "dict") : PySem.W.kitOne K (.type (tyn d)) (.type "str") = some (isSt d) := by
  have q := kb_all _ (tyn_mem h) "str" (by simp)
  have e : nN "str" (tyn d) = isSt d := by cases d <;> rfl
  rw [e] at q
  exact kit_ty q
theorem kit_in {d : PyData} (h : tyn d ≠ "dict") : PySem.W.kitOne K (.type (tyn d)) (.type "int") = some (isIn d) := by
  have q := kb_all _ (tyn_mem h) "int" (by simp)
  have e : nN "int" (tyn d) = isIn d := by cases d <;> rfl
  rw [e] at q
  exact kit_ty q
theorem kit_seq {d : PyData} (h : tyn d ≠ "dict") : PySem.W.kitAny K (.type (tyn d)) [.type "list", .type "tuple"] = some (isLi d || isTu d) :=
  kitAny_cons (kit_li h) (fun e => kitAny_cons (kit_tu h) (fun e2 => by rw [e, e2]; exact kitAny_nil) (fun e2 => by rw [e2, Bool.or_true])) (fun e => by rw [e, Bool.true_or])
theorem kit_di : PySem.W.kitOne K (.type "dict") (.type "dict") = some true := kit_ty (by decide +kernel)
theorem Dp.nodict {H : Hp} {v : V} {d : PyData} (h : Dp K H v d) : tyn d ≠ "dict" := by
  cases h <;> simp [tyn]
theorem cls2 : Paired ClsV [V.ty "list", V.ty "tuple"] [Value.type "list", Value.type "tuple"] := .cons (.ty _) (.cons (.ty _) .nil)
end
end AF
namespace AF
open PySem PySem.Spec PyProof.Rows L2
/-! how wide data is -/
mutual
def wd : PyData → Nat
  | .list ds => max ds.length (wdL ds)
  | .tuple ds => max ds.length (wdL ds)
  | _ => 0
def wdL : List PyData → Nat
  | [] => 0
  | d :: r => max (wd d) (wdL r)
end
theorem wdL_mem : ∀ {l : List PyData} {d : PyData}, d ∈ l → wd d ≤ wdL l
  | c :: r, d, h => by
    rcases List.mem_cons.mp h with e | h
    · subst e
      simp only [wdL]
      omega
    · have := wdL_mem h
      simp only [wdL]
      omega
theorem wdL_ints : ∀ ns : List Int, wdL (ns.map PyData.int) = 0
  | [] => by simp [wdL]
  | n :: r => by simp [wdL, wd, wdL_ints r]
theorem sl1000 : 1000 < sizeLine := by decide
end AF
/-! Sums of heights, ranges, dicts from ints to ints. -/
namespace AF
open PySem PySem.Spec PyProof.Rows L2
namespace Box
def sumH (l : List Box) : Int := (l.map ht).sum
def placesFrom (z : Int) : List Box → List Int
  | [] => []
  | b :: r => z :: placesFrom (z + b.ht) r
def rng (b : Box) : Int := if sumH b.parts - b.ht > 0 then sumH b.parts - b.ht else 0
theorem placesFrom_len (z : Int) : ∀ l : List Box, (placesFrom z l).length = l.length
  | [] => rfl
  | b :: r => by
    show (placesFrom (z + b.ht) r).length + 1 = r.length + 1
    rw [placesFrom_len]
theorem sumH_cons (b : Box) (r : List Box) : sumH (b :: r) = b.ht + sumH r := by
  simp [sumH]
theorem sumH_append (a b : List Box) : sumH (a ++ b) = sumH a + sumH b := by
  simp [sumH]
theorem sumH_take_succ {l : List Box} {i : Nat} {b : Box} (h : l[i]? = some b) : sumH (l.take (i + 1)) = sumH (l.take i) + b.ht := by
  rw [List.take_add_one, h, sumH_append]
  simp [sumH]
theorem placesFrom_get (z : Int) : ∀ (l : List Box) (i : Nat), i < l.length → (placesFrom z l)[i]? = some (z + sumH (l.take i))
  | b :: r, 0, _ => by simp [placesFrom, sumH]
  | b :: r, i + 1, h => by
    have ih := placesFrom_get (z + b.ht) r i (by simpa using h)
    show (placesFrom (z + b.ht) r)[i]? = _
    rw [ih, List.take_succ_cons, sumH_cons]
    exact congrArg some (by omega)
theorem placesFrom_take {l : List Box} {i : Nat} (h : i < l.length) : (placesFrom 0 l).take (i + 1) = (placesFrom 0 l).take i ++ [sumH (l.take i)] := by
  rw [List.take_add_one, placesFrom_get 0 l i h]
  show _ ++ [0 + sumH (l.take i)] = _
  rw [Int.zero_add]
end Box

/-! dicts of ints -/
def dI (l : List (Int × Int)) : List (Key × V) := l.map fun p => (Sum.inl p.1, V.int p.2)
def getI (l : List (Int × Int)) (n : Int) : Option Int := (l.find? fun p => decide (p.1 = n)).map (·.2)
def putI (l : List (Int × Int)) (n z : Int) : List (Int × Int) := if (l.any fun p => decide (p.1 = n)) = true then l.map (fun p => if p.1 = n then (p.1, z) else p) else l ++ [(n, z)]
theorem dI_len (l : List (Int × Int)) : (dI l).length = l.length := List.length_map _
theorem inl_iff {a b : Int} : ((Sum.inl a : Key) = Sum.inl b) ↔ a = b := ⟨fun h => Sum.inl.inj h, fun h => by rw [h]⟩
theorem valV_dI (n : Int) : ∀ l : List (Int × Int), valV (dI l) (Sum.inl n : Key) = (getI l n).map V.int
  | [] => rfl
  | p :: r => by
    have ih := valV_dI n r
    by_cases e : p.1 = n
    · have h1 : valV (dI (p :: r)) (Sum.inl n : Key) = some (V.int p.2) := valV_pos (p := ((Sum.inl p.1 : Key), V.int p.2)) (by rw [e])
      rw [h1]
      simp [getI, List.find?_cons, e]
    · have h1 : valV (dI (p :: r)) (Sum.inl n : Key) = valV (dI r) (Sum.inl n : Key) := valV_neg (p := ((Sum.inl p.1 : Key), V.int p.2)) (fun z => e (inl_iff.mp z))
      rw [h1, ih]
      simp [getI, List.find?_cons, e]
theorem any_dI (n : Int) (l : List (Int × Int)) : ((dI l).any fun kv => decide (kv.1 = (Sum.inl n : Key))) = (l.any fun p => decide (p.1 = n)) := by
  induction l with
  | nil => rfl
  | cons p r ih =>
    have h : decide ((Sum.inl p.1 : Key) = Sum.inl n) = decide (p.1 = n) := decide_eq_decide.mpr inl_iff
    show (decide ((Sum.inl p.1 : Key) = Sum.inl n) || (dI r).any _) = (decide (p.1 = n) || r.any _)
    rw [h, ih]
theorem map_dI (n z : Int) (l : List (Int × Int)) : ((dI l).map fun kv => if kv.1 = (Sum.inl n : Key) then (kv.1, V.int z) else kv) = dI (l.map fun p => if p.1 = n then (p.1, z) else p) := by
  induction l with
  | nil => rfl
  | cons p r ih =>
    show (if (Sum.inl p.1 : Key) = Sum.inl n then ((Sum.inl p.1 : Key), V.int z) else (Sum.inl p.1, V.int p.2)) :: (dI r).map _ = dI ((if p.1 = n then (p.1, z) else p) :: _)
    rw [ih]
    by_cases e : p.1 = n
    · rw [if_pos (inl_iff.mpr e), if_pos e]
      rfl
    · rw [if_neg (fun q => e (inl_iff.mp q)), if_neg e]
      rfl
theorem putK_dI (l : List (Int × Int)) (n z : Int) : putK (dI l) (Sum.inl n : Key) (V.int z) = dI (putI l n z) := by
  unfold putK putI
  rw [any_dI]
  by_cases h : (l.any fun p => decide (p.1 = n)) = true
  · rw [if_pos h, if_pos h, map_dI]
  · rw [if_neg h, if_neg h]
    simp [dI]
theorem getI_nil (n : Int) : getI [] n = none := rfl
theorem getI_cons (p : Int × Int) (r : List (Int × Int)) (n : Int) : getI (p :: r) n = if p.1 = n then some p.2 else getI r n := by
  by_cases e : p.1 = n <;> simp [getI, List.find?_cons, e]
theorem getI_none {l : List (Int × Int)} {n : Int} : getI l n = none ↔ n ∉ l.map (·.1) := by
  induction l with
  | nil => simp [getI_nil]
  | cons p r ih =>
    rw [getI_cons, List.map_cons, List.mem_cons]
    by_cases e : p.1 = n
    · rw [if_pos e]
      simp [e]
    · rw [if_neg e, ih]
      constructor
      · intro h z
        rcases z with z | z
        · exact e z.symm
        · exact h z
      · intro h z
        exact h (.inr z)
theorem putI_new {l : List (Int × Int)} {n z : Int} (h : n ∉ l.map (·.1)) : putI l n z = l ++ [(n, z)] := by
  unfold putI
  rw [if_neg]
  intro q
  obtain ⟨p, hp, e⟩ := List.any_eq_true.mp q
  exact h (List.mem_map.mpr ⟨p, hp, of_decide_eq_true e⟩)
theorem putI_len (l : List (Int × Int)) (n z : Int) : (putI l n z).length ≤ l.length + 1 := by
  unfold putI
  split
  · rw [List.length_map]
    omega
  · rw [List.length_append]
    exact Nat.le_refl _
theorem getI_append (a b : List (Int × Int)) (n : Int) : getI (a ++ b) n = (getI a n).or (getI b n) := by
  induction a with
  | nil => rfl
  | cons p r ih =>
    rw [List.cons_append, getI_cons, getI_cons, ih]
    by_cases e : p.1 = n
    · rw [if_pos e, if_pos e]
      rfl
    · rw [if_neg e, if_neg e]
theorem getI_put (l : List (Int × Int)) (n z m : Int) : getI (putI l n z) m = if n = m then some z else getI l m := by
  by_cases h : (l.any fun p => decide (p.1 = n)) = true
  · unfold putI
    rw [if_pos h]
    revert h
    induction l with
    | nil => intro h; cases h
    | cons p r ih =>
      intro h
      rw [List.map_cons, getI_cons, getI_cons]
      by_cases e : p.1 = n
      · rw [if_pos e]
        show (if p.1 = m then some z else _) = _
        by_cases e2 : n = m
        · rw [if_pos (e.trans e2), if_pos e2]
        · rw [if_neg (fun q => e2 (e.symm.trans q)), if_neg e2, if_neg (fun q => e2 (e.symm.trans q))]
          have key : ∀ l : List (Int × Int), getI (l.map fun p => if p.1 = n then (p.1, z) else p) m = getI l m := by
            intro l
            induction l with
            | nil => rfl
            | cons q r ih =>
              rw [List.map_cons, getI_cons, getI_cons, ih]
              by_cases eq : q.1 = n
              · rw [if_pos eq]
                show (if q.1 = m then some z else _) = _
                rw [if_neg (fun w => e2 (eq.symm.trans w)), if_neg (fun w => e2 (eq.symm.trans w))]
              · rw [if_neg eq]
          exact key r
      · rw [if_neg e]
        have h' : (r.any fun p => decide (p.1 = n)) = true := by
          rw [List.any_cons] at h
          simpa [e] using h
        rw [ih h']
        by_cases e3 : p.1 = m
        · rw [if_pos e3, if_pos e3]
          by_cases e2 : n = m
          · exact absurd (e3.trans e2.symm) e
          · rw [if_neg e2]
        · rw [if_neg e3, if_neg e3]
  · have hn : n ∉ l.map (·.1) := by
      intro q
      obtain ⟨p, hp, e⟩ := List.mem_map.mp q
      exact h (List.any_eq_true.mpr ⟨p, hp, decide_eq_true e⟩)
    rw [putI_new hn, getI_append]
    by_cases e : n = m
    · subst e
      rw [if_pos rfl, getI_none.mpr hn, getI_cons, if_pos rfl]
      rfl
    · rw [if_neg e, getI_cons, if_neg e, getI_nil]
      cases getI l m <;> rfl
end AF
namespace AF
open PySem PySem.Spec PyProof.Rows L2
namespace Box
mutual
theorem pre_mem_len : ∀ (b : Box) (c : Box), c ∈ b.pre → c.pre.length ≤ b.pre.length
  | .blk n h, c, m => by
    have e : c = .blk n h := by simpa [pre] using m
    rw [e]
    exact Nat.le_refl _
  | .scr n h ps, c, m => by
    have m : c = .scr n h ps ∨ c ∈ preL ps := by simpa [pre] using m
    rcases m with e | m
    · rw [e]
      exact Nat.le_refl _
    · have := preL_mem_len ps c m
      simp only [pre, List.length_cons]
      omega
theorem preL_mem_len : ∀ (l : List Box) (c : Box), c ∈ preL l → c.pre.length ≤ (preL l).length
  | [], c, m => by simp [preL] at m
  | b :: r, c, m => by
    have m : c ∈ b.pre ∨ c ∈ preL r := by simpa [preL] using m
    simp only [preL, List.length_append]
    rcases m with m | m
    · have := pre_mem_len b c m
      omega
    · have := preL_mem_len r c m
      omega
end
theorem parts_le (b : Box) : b.parts.length + 1 ≤ b.pre.length := by
  have := preL_ge b.parts
  rw [pre_eq, List.length_cons]
  omega
/-- brought into the range -/
def clamp (b : Box) (w : Int) : Int := if (if b.rng < w then b.rng else w) > 0 then (if b.rng < w then b.rng else w) else 0
/-- the fitted offsets of the scrollers among l -/
def fitI (ofs : List (Int × Int)) (l : List Box) : List (Int × Int) := (l.filter isS).map fun s => (s.num, s.clamp ((getI ofs s.num).getD 0))
theorem fitI_len (ofs : List (Int × Int)) (l : List Box) : (fitI ofs l).length ≤ l.length := by
  unfold fitI
  rw [List.length_map]
  exact List.length_filter_le _ _
theorem fitI_key {ofs : List (Int × Int)} {l : List Box} {n : Int} (h : n ∈ (fitI ofs l).map (·.1)) : n ∈ l.map num := by
  unfold fitI at h
  rw [List.map_map] at h
  obtain ⟨s, hs, e⟩ := List.mem_map.mp h
  exact List.mem_map.mpr ⟨s, (List.mem_filter.mp hs).1, e⟩
theorem fitI_succ {ofs : List (Int × Int)} {l : List Box} {i : Nat} {c : Box} (h : l[i]? = some c) :
    fitI ofs (l.take (i + 1)) = fitI ofs (l.take i) ++ (if c.isS = true then [(c.num, c.clamp ((getI ofs c.num).getD 0))] else []) := by
  rw [List.take_add_one, h]
  unfold fitI
  show List.map _ (List.filter isS (l.take i ++ [c])) = _
  rw [List.filter_append, List.map_append]
  congr 1
  by_cases e : c.isS = true
  · rw [if_pos e]
    simp [e]
  · rw [if_neg e]
    simp [e]
theorem nodup_take {l : List Box} (hn : (l.map num).Nodup) {i : Nat} {c : Box} (h : l[i]? = some c) : c.num ∉ (l.take i).map num := by
  intro m
  have e : (l.map num).take i = (l.take i).map num := List.map_take.symm
  rw [← e] at m
  obtain ⟨j, hj, e2⟩ := List.mem_take_iff_getElem.mp m
  have hi : (l.map num)[i]? = some c.num := by
    rw [List.getElem?_map, h]
    rfl
  have hj2 : (l.map num)[j]? = some c.num := by
    rw [List.getElem?_eq_getElem (by omega), e2]
  have := nd_ix hn hi hj2
  omega
end Box
theorem DGet.dI {H : Hp} {a : Addr} {l : List (Int × Int)} {n : Int} (e : H a = some (.dK (dI l))) : DGet H a (.int n) ((getI l n).map V.int) := by
  have h := DGet.k (k := (Sum.inl n : Key)) e
  rw [valV_dI] at h
  exact h
theorem DPut.dI {H : Hp} {a : Addr} {l : List (Int × Int)} {n z : Int} (e : H a = some (.dK (dI l))) (hl : l.length < sizeLine) : DPut H a (.int n) (.int z) (upd H a (.dK (AF.dI (putI l n z)))) := by
  have h := DPut.k (k := (Sum.inl n : Key)) (v := .int z) e (by rw [dI_len]; exact hl)
  rw [putK_dI] at h
  exact h
theorem getD_int (o : Option Int) (z : Int) : (o.map V.int).getD (V.int z) = V.int (o.getD z) := by cases o <;> rfl
end AF
namespace AF
open PySem PySem.Spec PyProof.Rows L2
/-- the state of the law's draws -/
def DrawAt (H : Hp) (d l : Addr) : Prop := ∃ (ns : List Int) (i r z : Int), H d = some (.lst [.ref l, .int i, .int r, .int z]) ∧ H l = some (.lst (ns.map V.int)) ∧ 0 ≤ i ∧ l ≠ d
theorem But.keepT {H H' : Hp} {d : Addr} {xs : List V} (b : But [d] H H') (h : H d = some (.lst xs)) : KeepT H H' := fun a ys e =>
  b a _ (fun m => by
    have q : a = d := by simpa using m
    subst q
    rw [h] at e
    cases e) e
theorem But.at {H H' : Hp} {l : List Addr} {b : Addr} {o : HO} (k : But l H H') (n : b ∉ l) (h : H b = some o) : H' b = some o := k b o n h
theorem but_one {H H' : Hp} {d a : Addr} {o : HO} (k : But [d] H H') (h : H a = some o) (n : a ≠ d) : H' a = some o := k a o (by simpa using n) h
theorem DrawAt.lst {H : Hp} {d l : Addr} (h : DrawAt H d l) : ∃ xs, H d = some (.lst xs) := by
  obtain ⟨ns, i, r, z, e, _⟩ := h
  exact ⟨_, e⟩
theorem DrawAt.lst2 {H : Hp} {d l : Addr} (h : DrawAt H d l) : ∃ ns : List Int, H l = some (.lst (ns.map V.int)) := by
  obtain ⟨ns, i, r, z, _, e, _⟩ := h
  exact ⟨_, e⟩
theorem DrawAt.ne {H : Hp} {d l : Addr} (h : DrawAt H d l) : l ≠ d := by
  obtain ⟨ns, i, r, z, _, _, _, n⟩ := h
  exact n
theorem DrawAt.same {H H' : Hp} {d l : Addr} (h : DrawAt H d l) (k : Same H H') : DrawAt H' d l := by
  obtain ⟨ns, i, r, z, e, e2, h0, n⟩ := h
  exact ⟨ns, i, r, z, k _ _ e, k _ _ e2, h0, n⟩
/-- where d and l stand -/
theorem DrawAt.but {H H' : Hp} {d l : Addr} {x : List Addr} (h : DrawAt H d l) (k : But x H H') (h1 : d ∉ x) (h2 : l ∉ x) : DrawAt H' d l := by
  obtain ⟨ns, i, r, z, e, e2, h0, n⟩ := h
  exact ⟨ns, i, r, z, k _ _ h1 e, k _ _ h2 e2, h0, n⟩
theorem fmod_lo {a m : Int} (h : 0 < m) : 0 ≤ a % m := Int.emod_nonneg a (by omega)
theorem fmod_hi {a m : Int} (h : 0 < m) : a % m < m := Int.emod_lt_of_pos a h
end AF
namespace AF
open PySem PySem.Spec PyProof.Rows L2
/-- a dict locked while it is walked -/
def lockH (H : Hp) (c : Addr) (od : Obj) (kvs : List (Key × V)) : Hp := upd H c (.frz od (.dK kvs))
abbrev KeepL (H H' : Hp) : Prop := Same H H'
theorem keepS_lock {H : Hp} {c : Addr} {od : Obj} {kvs : List (Key × V)} (h : H c = some (.dK kvs)) : KeepS H (lockH H c od kvs) := fun b o hb e => by
  unfold lockH
  by_cases hbc : b = c
  · subst hbc
    rw [h] at e
    cases e
    cases hb
  · rw [upd_ne hbc]
    exact e
theorem lock_back {H H' : Hp} {c : Addr} {od : Obj} {kvs : List (Key × V)} (h : H c = some (.dK kvs)) (s : Same (lockH H c od kvs) H') : Same H (upd H' c (.dK kvs)) := fun b o e => by
  by_cases hbc : b = c
  · subst hbc
    rw [upd_same, ← h, e]
  · rw [upd_ne hbc]
    refine s b o ?_
    unfold lockH
    rw [upd_ne hbc]
    exact e
theorem canLay_ints : ∀ ns : List Int, PyData.canLayAll0 (ns.map PyData.int) = true
  | [] => by simp [PyData.canLayAll0]
  | n :: r => by simp [PyData.canLayAll0, PyData.canLay0, canLay_ints r]
theorem depth_ints : ∀ ns : List Int, PyData.depthAll (ns.map PyData.int) ≤ 1
  | [] => by simp [PyData.depthAll]
  | n :: r => by
    have := depth_ints r
    simp only [List.map_cons, PyData.depthAll, PyData.depth]
    omega
theorem shaped_ints (ns : List Int) : SeqAt.shaped (.list (ns.map PyData.int)) = true := by
  have h1 := canLay_ints ns
  have h2 := depth_ints ns
  show (PyData.canLay0 (.list (ns.map PyData.int)) && decide (PyData.depth (.list (ns.map PyData.int)) ≤ 64)) = true
  rw [Bool.and_eq_true]
  refine ⟨by simp only [PyData.canLay0]; exact h1, decide_eq_true ?_⟩
  simp only [PyData.depth]
  omega
end AF
namespace AF
open PySem PySem.Spec PyProof.Rows L2
theorem putI_mem {l : List (Int × Int)} {n z k : Int} (h : k ∈ (putI l n z).map (·.1)) : k ∈ l.map (·.1) ∨ k = n := by
  unfold putI at h
  split at h
  · left
    obtain ⟨p, hp, e⟩ := List.mem_map.mp h
    obtain ⟨q, hq, e2⟩ := List.mem_map.mp hp
    refine List.mem_map.mpr ⟨q, hq, ?_⟩
    by_cases c : q.1 = n
    · rw [if_pos c] at e2
      rw [← e, ← e2]
    · rw [if_neg c] at e2
      rw [← e, ← e2]
  · rw [List.map_append] at h
    rcases List.mem_append.mp h with h | h
    · exact .inl h
    · exact .inr (by simpa using h)
theorem putI_keys {l : List (Int × Int)} {n z : Int} (h : (l.any fun p => decide (p.1 = n)) = true) : (putI l n z).map (·.1) = l.map (·.1) := by
  unfold putI
  rw [if_pos h, List.map_map]
  refine List.map_congr_left fun p _ => ?_
  show (if p.1 = n then (p.1, z) else p).1 = p.1
  by_cases c : p.1 = n
  · rw [if_pos c]
  · rw [if_neg c]
theorem putI_nodup {l : List (Int × Int)} {n z : Int} (h : (l.map (·.1)).Nodup) : ((putI l n z).map (·.1)).Nodup := by
  by_cases c : (l.any fun p => decide (p.1 = n)) = true
  · rw [putI_keys c]
    exact h
  · have hn : n ∉ l.map (·.1) := by
      intro q
      obtain ⟨p, hp, e⟩ := List.mem_map.mp q
      exact c (List.any_eq_true.mpr ⟨p, hp, decide_eq_true e⟩)
    rw [putI_new hn, List.map_append]
    exact nd_snoc h hn
theorem getI_self {l : List (Int × Int)} (h : (l.map (·.1)).Nodup) {p : Int × Int} (hp : p ∈ l) : getI l p.1 = some p.2 := by
  induction l with
  | nil => cases hp
  | cons q r ih =>
    rw [List.map_cons] at h
    obtain ⟨h1, h2⟩ := List.nodup_cons.mp h
    rw [getI_cons]
    rcases List.mem_cons.mp hp with rfl | hp
    · rw [if_pos rfl]
    · rw [if_neg (fun e => h1 (List.mem_map.mpr ⟨p, hp, e.symm⟩)), ih h2 hp]
/-- each pair of such a dict is found by its key -/
theorem dI_self {l : List (Int × Int)} (h : (l.map (·.1)).Nodup) {p : Key × V} (hp : p ∈ dI l) : ∃ q ∈ l, p = (Sum.inl q.1, V.int q.2) ∧ valV (dI l) p.1 = some p.2 := by
  unfold dI at hp
  obtain ⟨q, hq, rfl⟩ := List.mem_map.mp hp
  refine ⟨q, hq, rfl, ?_⟩
  show valV (dI l) (Sum.inl q.1 : Key) = some (V.int q.2)
  rw [valV_dI, getI_self h hq]
  rfl
theorem dI_keys (l : List (Int × Int)) : (dI l).map (·.1) = (l.map (·.1)).map Sum.inl := by
  unfold dI
  rw [List.map_map, List.map_map]
  rfl
namespace Box
theorem fitI_keys (ofs : List (Int × Int)) (l : List Box) : (fitI ofs l).map (·.1) = (l.filter isS).map num := by
  unfold fitI
  rw [List.map_map]
  rfl
theorem fitI_nodup {ofs : List (Int × Int)} {l : List Box} (h : (l.map num).Nodup) : ((fitI ofs l).map (·.1)).Nodup := by
  rw [fitI_keys]
  exact h.sublist (List.filter_sublist.map num)
theorem fitI_congr {o1 o2 : List (Int × Int)} {l : List Box} (h : ∀ c ∈ l, getI o1 c.num = getI o2 c.num) : fitI o1 l = fitI o2 l := by
  unfold fitI
  refine List.map_congr_left fun s hs => ?_
  rw [h s (List.mem_filter.mp hs).1]
theorem rng_nonneg (b : Box) : 0 ≤ b.rng := by
  unfold rng
  split <;> omega
theorem clamp_zero (b : Box) : b.clamp 0 = 0 := by
  have := rng_nonneg b
  unfold clamp
  rw [if_neg (show ¬ b.rng < 0 by omega)]
  rfl
theorem fitI_zero (ofs : List (Int × Int)) (l : List Box) : (fitI ofs l).map (fun p => (p.1, (0 : Int))) = fitI [] l := by
  unfold fitI
  rw [List.map_map]
  refine List.map_congr_left fun s _ => ?_
  show (s.num, (0 : Int)) = (s.num, s.clamp ((getI [] s.num).getD 0))
  rw [getI_nil]
  show (s.num, (0 : Int)) = (s.num, s.clamp 0)
  rw [clamp_zero]
end Box
end AF
/-! The documents that the laws draw. -/
namespace AF
open PySem PySem.Spec PyProof.Rows L2
namespace Box
/-- how many boxes a drawn box of depth n has at most -/
def most : Nat → Nat
  | 0 => 1
  | n + 1 => 1 + 2 * most n
/-- drawn siblings: their numbers rise from above lo to hi -/
structure Good (n : Nat) (lo hi : Int) (bs : List Box) : Prop where
  asc : ((preL bs).map num).Pairwise (· < ·)
  low : ∀ c ∈ preL bs, lo < c.num
  top : ∀ c ∈ preL bs, c.num ≤ hi
  le : lo ≤ hi
  hts : ∀ c ∈ preL bs, 0 ≤ c.ht ∧ c.ht ≤ 8
  dep : depthL bs ≤ n
  few : hi ≤ lo + 3 * (preL bs).length
  cnt : (preL bs).length ≤ bs.length * most n
  two : ∀ c ∈ preL bs, c.parts.length ≤ 2
theorem Good.nil (n : Nat) (lo : Int) : Good n lo lo [] := by
  refine ⟨?_, ?_, ?_, Int.le_refl _, ?_, ?_, ?_, ?_, ?_⟩ <;> simp [preL, depthL]
theorem depthL_append : ∀ a b : List Box, depthL (a ++ b) = max (depthL a) (depthL b)
  | [], b => by simp [depthL]
  | x :: a, b => by
    have := depthL_append a b
    simp only [List.cons_append, depthL, this]
    omega
theorem Good.append {n : Nat} {lo mid hi : Int} {xs ys : List Box} (a : Good n lo mid xs) (b : Good n mid hi ys) : Good n lo hi (xs ++ ys) := by
  have e := preL_append xs ys
  refine ⟨?_, ?_, ?_, Int.le_trans a.le b.le, ?_, ?_, ?_, ?_, ?_⟩
  · rw [e, List.map_append]
    refine List.pairwise_append.mpr ⟨a.asc, b.asc, fun x hx y hy => ?_⟩
    obtain ⟨c, hc, rfl⟩ := List.mem_map.mp hx
    obtain ⟨d, hd, rfl⟩ := List.mem_map.mp hy
    exact Int.lt_of_le_of_lt (a.top c hc) (b.low d hd)
  · intro c hc
    rw [e] at hc
    rcases List.mem_append.mp hc with h | h
    · exact a.low c h
    · exact Int.lt_of_le_of_lt a.le (b.low c h)
  · intro c hc
    rw [e] at hc
    rcases List.mem_append.mp hc with h | h
    · exact Int.le_trans (a.top c h) b.le
    · exact b.top c h
  · intro c hc
    rw [e] at hc
    rcases List.mem_append.mp hc with h | h
    · exact a.hts c h
    · exact b.hts c h
  · rw [depthL_append]
    have := a.dep
    have := b.dep
    omega
  · rw [e, List.length_append]
    have := a.few
    have := b.few
    omega
  · rw [e, List.length_append, List.length_append, Nat.add_mul]
    have := a.cnt
    have := b.cnt
    omega
  · intro c hc
    rw [e] at hc
    rcases List.mem_append.mp hc with h | h
    · exact a.two c h
    · exact b.two c h
theorem Good.blk {n : Nat} {lo m h : Int} (h1 : lo < m) (h2 : m ≤ lo + 3) (h3 : 0 ≤ h) (h4 : h ≤ 8) : Good n lo m [.blk m h] := by
  have e : preL [.blk m h] = [.blk m h] := by simp [preL, pre]
  have hm : 1 ≤ most n := by
    cases n with
    | zero => exact Nat.le_refl _
    | succ n =>
      simp only [most]
      omega
  refine ⟨?_, ?_, ?_, Int.le_of_lt h1, ?_, ?_, ?_, ?_, ?_⟩
  · simp [e]
  · intro c hc
    rw [e] at hc
    rw [List.mem_singleton.mp hc]
    exact h1
  · intro c hc
    rw [e] at hc
    rw [List.mem_singleton.mp hc]
    exact Int.le_refl _
  · intro c hc
    rw [e] at hc
    rw [List.mem_singleton.mp hc]
    exact ⟨h3, h4⟩
  · simp [depthL, depth]
  · rw [e, List.length_singleton]
    omega
  · rw [e, List.length_singleton]
    omega
  · intro c hc
    rw [e] at hc
    rw [List.mem_singleton.mp hc]
    exact Nat.zero_le _
theorem Good.scr {n : Nat} {lo m hi h : Int} {ps : List Box} (g : Good n m hi ps) (h1 : lo < m) (h2 : m ≤ lo + 3) (h3 : 0 ≤ h) (h4 : h ≤ 8) (h5 : ps.length ≤ 2) : Good (n + 1) lo hi [.scr m h ps] := by
  have e : preL [.scr m h ps] = .scr m h ps :: preL ps := by simp [preL, pre]
  refine ⟨?_, ?_, ?_, by have := g.le; omega, ?_, ?_, ?_, ?_, ?_⟩
  · rw [e, List.map_cons]
    refine List.pairwise_cons.mpr ⟨fun x hx => ?_, g.asc⟩
    obtain ⟨c, hc, rfl⟩ := List.mem_map.mp hx
    exact g.low c hc
  · intro c hc
    rw [e] at hc
    rcases List.mem_cons.mp hc with rfl | hc
    · exact h1
    · have := g.low c hc
      omega
  · intro c hc
    rw [e] at hc
    rcases List.mem_cons.mp hc with rfl | hc
    · exact g.le
    · exact g.top c hc
  · intro c hc
    rw [e] at hc
    rcases List.mem_cons.mp hc with rfl | hc
    · exact ⟨h3, h4⟩
    · exact g.hts c hc
  · have := g.dep
    simp only [depthL, depth]
    omega
  · rw [e, List.length_cons]
    have := g.few
    omega
  · rw [e, List.length_cons, List.length_singleton]
    have h6 := g.cnt
    have h7 : ps.length * most n ≤ 2 * most n := Nat.mul_le_mul_right _ h5
    simp only [most]
    omega
  · intro c hc
    rw [e] at hc
    rcases List.mem_cons.mp hc with rfl | hc
    · exact h5
    · exact g.two c hc
theorem Good.up {n : Nat} {lo hi : Int} {bs : List Box} (g : Good n lo hi bs) : Good (n + 1) lo hi bs := by
  refine ⟨g.asc, g.low, g.top, g.le, g.hts, Nat.le_succ_of_le g.dep, g.few, Nat.le_trans g.cnt (Nat.mul_le_mul_left _ ?_), g.two⟩
  simp only [most]
  omega
theorem Good.mono {n k : Nat} {lo hi : Int} {bs : List Box} (g : Good n lo hi bs) (h : n ≤ k) : Good k lo hi bs := by
  induction h with
  | refl => exact g
  | step _ ih => exact ih.up
/-- a drawn document -/
structure Doc (b : Box) : Prop where
  ex : ∃ (n h hi : Int) (ps : List Box), b = .scr n h ps ∧ 1 ≤ n ∧ n ≤ 5 ∧ 0 ≤ h ∧ h ≤ 20 ∧ Good 2 n hi ps ∧ ps.length ≤ 4
theorem Doc.len {b : Box} (d : Doc b) : b.pre.length ≤ 29 := by
  obtain ⟨n, h, hi, ps, rfl, _, _, _, _, g, l⟩ := d.ex
  have h1 := g.cnt
  have h2 : most 2 = 7 := rfl
  rw [h2] at h1
  simp only [pre, List.length_cons]
  omega
theorem Doc.asc {b : Box} (d : Doc b) : (b.pre.map num).Pairwise (· < ·) := by
  obtain ⟨n, h, hi, ps, rfl, _, _, _, _, g, l⟩ := d.ex
  simp only [pre, List.map_cons]
  refine List.pairwise_cons.mpr ⟨fun x hx => ?_, g.asc⟩
  obtain ⟨c, hc, rfl⟩ := List.mem_map.mp hx
  exact g.low c hc
theorem Doc.nodup {b : Box} (d : Doc b) : (b.pre.map num).Nodup := d.asc.imp fun h => Int.ne_of_lt h
theorem Doc.nums {b : Box} (d : Doc b) : ∀ c ∈ b.pre, 1 ≤ c.num ∧ c.num ≤ 89 := by
  obtain ⟨n, h, hi, ps, rfl, h1, h2, _, _, g, l⟩ := d.ex
  intro c hc
  have h3 := g.cnt
  have h4 : most 2 = 7 := rfl
  rw [h4] at h3
  have h5 := g.few
  have h6 := g.le
  simp only [pre] at hc
  rcases List.mem_cons.mp hc with rfl | hc
  · exact ⟨h1, by simp only [num]; omega⟩
  · have a1 := g.low c hc
    have a2 := g.top c hc
    omega
theorem Doc.hts {b : Box} (d : Doc b) : ∀ c ∈ b.pre, 0 ≤ c.ht ∧ c.ht ≤ 20 := by
  obtain ⟨n, h, hi, ps, rfl, _, _, h1, h2, g, l⟩ := d.ex
  intro c hc
  simp only [pre] at hc
  rcases List.mem_cons.mp hc with rfl | hc
  · exact ⟨h1, h2⟩
  · have := g.hts c hc
    omega
theorem Doc.dep {b : Box} (d : Doc b) : b.depth ≤ 3 := by
  obtain ⟨n, h, hi, ps, rfl, _, _, _, _, g, l⟩ := d.ex
  have := g.dep
  simp only [depth]
  omega
theorem Doc.isS {b : Box} (d : Doc b) : b.isS = true := by
  obtain ⟨n, h, hi, ps, rfl, _⟩ := d.ex
  rfl
theorem Doc.kids {b : Box} (d : Doc b) : ∀ c ∈ b.pre, c.parts.length ≤ 4 := by
  obtain ⟨n, h, hi, ps, rfl, _, _, _, _, g, l⟩ := d.ex
  intro c hc
  simp only [pre] at hc
  rcases List.mem_cons.mp hc with rfl | hc
  · exact l
  · have := g.two c hc
    omega
mutual
theorem pre_dep : ∀ (b c : Box), c ∈ b.pre → c.depth ≤ b.depth
  | .blk n h, c, m => by
    have e : c = .blk n h := by simpa [pre] using m
    rw [e]
    exact Nat.le_refl _
  | .scr n h ps, c, m => by
    have m : c = .scr n h ps ∨ c ∈ preL ps := by simpa [pre] using m
    rcases m with e | m
    · rw [e]
      exact Nat.le_refl _
    · have := preL_dep ps c m
      simp only [depth]
      omega
theorem preL_dep : ∀ (l : List Box) (c : Box), c ∈ preL l → c.depth ≤ depthL l
  | [], c, m => by simp [preL] at m
  | b :: r, c, m => by
    have m : c ∈ b.pre ∨ c ∈ preL r := by simpa [preL] using m
    simp only [depthL]
    rcases m with m | m
    · have := pre_dep b c m
      omega
    · have := preL_dep r c m
      omega
end
end Box
end AF
/-! Comprehensions with two fors, walked; len(set(xs)) of ints that may stand twice. -/
namespace AF
open PySem PySem.Spec PyProof.Rows L2
section
variable {J : It} {n : Nat} {G : Hp → Prop} {Y : Nat → Hp → V → Hp → Prop}
/-- the inner for of a comprehension: from the heap as it stands -/
theorem lc_in (w : Walk J n G Y) {g : TG} {tt : TT} {te : TE} {vs : List Nat} {σ : L2.St} {H0 : Hp} {D : Addr} {Qd : Hp → Prop} (Pv : Nat → Hp → Prop) (h0 : Pv 0 H0) (hG : ∀ i H, i ≤ n → Pv i H → G H)
    (hs : ∀ i x H H', i < n → Pv i H → Y i H x H' → g x (wipe σ vs) H' fun σ2 H2 => wipe σ2 vs = wipe σ vs ∧ tt σ2 H2 fun b H3 =>
      if b = true then te σ2 H3 fun y H4 => ∃ acc, H4 D = some (.lst acc) ∧ acc.length < sizeLine ∧ Pv (i + 1) (upd H4 D (.lst (acc ++ [y]))) else Pv (i + 1) H3) (hd : ∀ H, Pv n H → Qd H) :
    ∃ W : Nat → Nat → Hp → Prop, (∃ m, W 0 m H0) ∧ ∀ i m H, W i m H →
      (J.stop i H ∧ Qd H) ∨ (J.go i H ∧ ∃ Nx : Hp → Prop, (∀ H', Nx H' → ∃ m', m' < m ∧ W (i + 1) m' H') ∧ ∀ x H', J.yld i H x H' → g x (wipe σ vs) H' fun σ2 H2 => wipe σ2 vs = wipe σ vs ∧ tt σ2 H2 fun b H3 =>
        if b = true then te σ2 H3 fun y H4 => ∃ acc, H4 D = some (.lst acc) ∧ acc.length < sizeLine ∧ Nx (upd H4 D (.lst (acc ++ [y]))) else Nx H3) := by
  refine ⟨fun i m H => m = n - i ∧ i ≤ n ∧ Pv i H, ⟨n, by simp, Nat.zero_le _, h0⟩, ?_⟩
  rintro i m H ⟨rfl, hi, p⟩
  have q := hG i H hi p
  by_cases hlt : i < n
  · exact .inr ⟨w.goes i H hlt q, Pv (i + 1), fun H' p' => ⟨n - (i + 1), by omega, rfl, hlt, p'⟩, fun x H' y => hs i x H H' hlt p (w.yields i H x H' hlt q y)⟩
  · have e : i = n := by omega
    subst e
    exact .inl ⟨w.stops H q, hd H p⟩
/-- the outer for of a comprehension with two: what follows of the inner one is asked as it stands -/
theorem lc_out (w : Walk J n G Y) {g : TG} {tt : TT} {wi1 : TI} {g1 : TG} {tt1 : TT} {te : TE} {vs vs1 : List Nat} {σ : L2.St} {H1 : Hp} {D : Addr} {Qd : Hp → Prop} (Pv : Nat → Hp → Prop) (h0 : Pv 0 (upd H1 D (.lst []))) (hG : ∀ i H, i ≤ n → Pv i H → G H)
    (hs : ∀ i x H H', i < n → Pv i H → Y i H x H' → g x (wipe σ vs) H' fun σ2 H2 => wipe σ2 vs = wipe σ vs ∧ tt σ2 H2 fun b H3 =>
      if b = true then wi1 σ2 H3 fun J1 H4 => ∃ W1 : Nat → Nat → Hp → Prop, (∃ m, W1 0 m H4) ∧ ∀ j k H, W1 j k H →
        (J1.stop j H ∧ Pv (i + 1) H) ∨ (J1.go j H ∧ ∃ Nx1 : Hp → Prop, (∀ H', Nx1 H' → ∃ k', k' < k ∧ W1 (j + 1) k' H') ∧ ∀ x H', J1.yld j H x H' → g1 x (wipe σ2 vs1) H' fun σ3 H5 => wipe σ3 vs1 = wipe σ2 vs1 ∧ tt1 σ3 H5 fun b H6 =>
          if b = true then te σ3 H6 fun y H7 => ∃ acc, H7 D = some (.lst acc) ∧ acc.length < sizeLine ∧ Nx1 (upd H7 D (.lst (acc ++ [y]))) else Nx1 H6)
      else Pv (i + 1) H3) (hd : ∀ H, Pv n H → Qd H) :
    ∃ W : Nat → Nat → Hp → Prop, (∃ m, W 0 m (upd H1 D (.lst []))) ∧ ∀ i m H, W i m H →
      (J.stop i H ∧ Qd H) ∨ (J.go i H ∧ ∃ Nx : Hp → Prop, (∀ H', Nx H' → ∃ m', m' < m ∧ W (i + 1) m' H') ∧ ∀ x H', J.yld i H x H' → g x (wipe σ vs) H' fun σ2 H2 => wipe σ2 vs = wipe σ vs ∧ tt σ2 H2 fun b H3 =>
        if b = true then wi1 σ2 H3 fun J1 H4 => ∃ W1 : Nat → Nat → Hp → Prop, (∃ m, W1 0 m H4) ∧ ∀ j k H, W1 j k H →
          (J1.stop j H ∧ Nx H) ∨ (J1.go j H ∧ ∃ Nx1 : Hp → Prop, (∀ H', Nx1 H' → ∃ k', k' < k ∧ W1 (j + 1) k' H') ∧ ∀ x H', J1.yld j H x H' → g1 x (wipe σ2 vs1) H' fun σ3 H5 => wipe σ3 vs1 = wipe σ2 vs1 ∧ tt1 σ3 H5 fun b H6 =>
            if b = true then te σ3 H6 fun y H7 => ∃ acc, H7 D = some (.lst acc) ∧ acc.length < sizeLine ∧ Nx1 (upd H7 D (.lst (acc ++ [y]))) else Nx1 H6)
        else Nx H3) := by
  refine ⟨fun i m H => m = n - i ∧ i ≤ n ∧ Pv i H, ⟨n, by simp, Nat.zero_le _, h0⟩, ?_⟩
  rintro i m H ⟨rfl, hi, p⟩
  have q := hG i H hi p
  by_cases hlt : i < n
  · exact .inr ⟨w.goes i H hlt q, Pv (i + 1), fun H' p' => ⟨n - (i + 1), by omega, rfl, hlt, p'⟩, fun x H' y => hs i x H H' hlt p (w.yields i H x H' hlt q y)⟩
  · have e : i = n := by omega
    subst e
    exact .inl ⟨w.stops H q, hd H p⟩
end

/-! len(set(xs)) -/
theorem firstMet_full (ns : List Int) : ∀ i, i ≤ ns.length → ((PyProof.Rows.firstMet (fun i => ns.getD i 0) i).length = i ↔ (ns.take i).Nodup)
  | 0, _ => by simp [PyProof.Rows.firstMet_zero]
  | i + 1, hi => by
    have hlt : i < ns.length := hi
    have ih := firstMet_full ns i (Nat.le_of_lt hlt)
    have hle := PyProof.Rows.firstMet_length_le (fun i => ns.getD i 0) i
    have e1 : ns.getD i 0 = ns[i] := by
      rw [List.getD_eq_getElem?_getD, List.getElem?_eq_getElem hlt]
      rfl
    have e2 : ns.take (i + 1) = ns.take i ++ [ns[i]] := by
      rw [List.take_add_one, List.getElem?_eq_getElem hlt]
      rfl
    have es : PyProof.Rows.firstMet (fun i => ns.getD i 0) (i + 1) = if (PyProof.Rows.firstMet (fun i => ns.getD i 0) i).any (· == ns[i]) then PyProof.Rows.firstMet (fun i => ns.getD i 0) i else PyProof.Rows.firstMet (fun i => ns.getD i 0) i ++ [ns[i]] := by
      rw [PyProof.Rows.firstMet_succ, ← e1]
      rfl
    rw [es, e2]
    constructor
    · intro h
      by_cases c : (PyProof.Rows.firstMet (fun i => ns.getD i 0) i).any (· == ns[i]) = true
      · rw [if_pos c] at h
        omega
      · rw [if_neg c, List.length_append, List.length_singleton] at h
        have hn : (ns.take i).Nodup := ih.mp (by omega)
        have et : PyProof.Rows.firstMet (fun i => ns.getD i 0) i = ns.take i := by
          have hfull : (ns.take i).length = i := by rw [List.length_take]; omega
          have key := RZ.firstMet_nodup (ns := ns.take i) hn i (by omega)
          have ee : ∀ j, j ≤ i → PyProof.Rows.firstMet (fun i => ns.getD i 0) j = PyProof.Rows.firstMet (fun k => (ns.take i).getD k 0) j := by
            intro j
            induction j with
            | zero => intro _; rfl
            | succ j ihj =>
              intro hj
              rw [PyProof.Rows.firstMet_succ, PyProof.Rows.firstMet_succ, ihj (by omega)]
              have : ns.getD j 0 = (ns.take i).getD j 0 := by
                rw [List.getD_eq_getElem?_getD, List.getD_eq_getElem?_getD, List.getElem?_take, if_pos (show j < i by omega)]
              rw [this]
          rw [ee i (Nat.le_refl _), key, List.take_take, Nat.min_self]
        rw [et] at c
        refine nd_snoc hn fun m => c ?_
        exact List.any_eq_true.mpr ⟨_, m, by simp⟩
    · intro h
      have h1 : (ns.take i).Nodup := (List.nodup_append.mp h).1
      have hl := ih.mpr h1
      by_cases c : (PyProof.Rows.firstMet (fun i => ns.getD i 0) i).any (· == ns[i]) = true
      · exfalso
        have hfull : (ns.take i).length = i := by rw [List.length_take]; omega
        have key := RZ.firstMet_nodup (ns := ns.take i) h1 i (by omega)
        have ee : ∀ j, j ≤ i → PyProof.Rows.firstMet (fun i => ns.getD i 0) j = PyProof.Rows.firstMet (fun k => (ns.take i).getD k 0) j := by
          intro j
          induction j with
          | zero => intro _; rfl
          | succ j ihj =>
            intro hj
            rw [PyProof.Rows.firstMet_succ, PyProof.Rows.firstMet_succ, ihj (by omega)]
            have : ns.getD j 0 = (ns.take i).getD j 0 := by
              rw [List.getD_eq_getElem?_getD, List.getD_eq_getElem?_getD, List.getElem?_take, if_pos (show j < i by omega)]
            rw [this]
        rw [ee i (Nat.le_refl _), key, List.take_take, Nat.min_self] at c
        obtain ⟨y, hy, ey⟩ := List.any_eq_true.mp c
        have ey : y = ns[i] := eq_of_beq ey
        subst ey
        have := (List.nodup_append.mp h).2.2 _ hy _ (List.mem_singleton_self _)
        exact this rfl
      · rw [if_neg c, List.length_append, hl]
        rfl
def tLenSetA (K : PySem.W.Frag) (ta : TE) : TE := fun σ H Q => ta σ H fun x H1 => ∃ (l : Addr) (ns : List Int), x = .ref l ∧ SqL K H1 l (ns.map V.int) ∧ ns.length ≤ 4000 ∧ ∀ n : Nat, (n = ns.length ↔ ns.Nodup) → Q (.int (n : Int)) H1
theorem pe_lenSetA {X : Cx} {a : Expr} {ta : TE} {p p2 q pos : Pos} (K : PySem.W.Frag) (hK : X.K = K) (hg : Gl X "len") (hm : X.mg "len" = none) (hg2 : Gl X "set") (hm2 : X.mg "set" = none) (ha : PE X a ta) (hc : X.calm = true := by rfl)
    (na : starEach [a] X.env = (false, eval a X.env) :: starEach [] X.env := by rfl) : PE X (.Call (.Name "len" p) [.Call (.Name "set" p2) [a] [] q] [] pos) (tLenSetA K ta) := by
  subst hK
  refine ⟨fun pins s σ H Q I h => ?_⟩
  refine Call_ (ld_blt I hg hm boot_len ?_)
  refine PyProof.Rows.callWith_builtin1 (PyProof.Rows.args_cons ?_ rfl) rfl rfl
  refine Call_ (ld_blt I hg2 hm2 boot_set ?_)
  refine PyProof.Rows.callWith_type1 (PyProof.Rows.args_cons (thn (ha.run pins s σ H _ I h) fun v s1 ⟨x, H1, I1, r1, q1⟩ => PyProof.Rows.args_nil ?_) na) na rfl
  obtain ⟨l, ns, rfl, hq, hl, q1⟩ := q1
  cases r1
  obtain ⟨its, r, pl, hz⟩ := I1.list hq
  have hlen : its.toArray.size = ns.length := by
    rw [List.size_toArray, ← r.length, List.length_map]
  refine call_set_list (I1.ok.hd hc) pl.isList (by simpa using RZ.intsAre_vals r) (by rw [hlen]; unfold scanBound; omega) fun h' tk hS hk => ?_
  refine PyProof.Rows.args_nil ?_
  rw [hlen] at hS
  have hle := PyProof.Rows.firstMet_length_le (fun i => ns.getD i 0) ns.length
  have hfull := firstMet_full ns ns.length (Nat.le_refl _)
  rw [List.take_length] at hfull
  obtain ⟨o, es, ep, t, ho, hex, hd, _, _, _, hf, hn⟩ := hS
  have I2 : Inv X pins σ H1 { s1 with heap := h', toks := tk } := I1.kept fun b o e => hk b o (Heap.lt_size e) e
  exact call_len_set ho hex hd hf (by rw [hn] <;> omega) ⟨.int _, H1, I2.tok _, ⟨_, by rw [hn]⟩, q1 _ hfull⟩
end AF
namespace AF
open PySem PySem.Spec PyProof.Rows L2
theorem find_at {α : Type} {l : List α} {p : α → Bool} {i : Nat} {c : α} (h : (l.take i).find? p = none) (hc : l[i]? = some c) (hp : p c = true) : l.find? p = some c := by
  obtain ⟨hi, e⟩ := List.getElem?_eq_some_iff.mp hc
  have e2 : l = l.take i ++ (c :: l.drop (i + 1)) := by
    rw [← e, List.getElem_cons_drop, List.take_append_drop]
  rw [e2, List.find?_append, h, List.find?_cons, hp]
  rfl
theorem find_step {α : Type} {l : List α} {p : α → Bool} {i : Nat} {c : α} (h : (l.take i).find? p = none) (hc : l[i]? = some c) (hp : p c = false) : (l.take (i + 1)).find? p = none := by
  rw [List.take_add_one, hc, List.find?_append, h]
  show (none : Option α).or ([c].find? p) = none
  rw [List.find?_cons, hp]
  rfl
/-- a box or None -/
def OptAt (H : Hp) (v : V) : Option Box → Prop
  | none => v = .non
  | some c => BoxAt H v c
def optI : Option Int → V
  | none => .non
  | some i => .int i
def optPy : Option Box → PyData
  | none => .none
  | some c => c.py
theorem OptAt.dp {K : PySem.W.Frag} {H : Hp} {v : V} : ∀ {o : Option Box}, OptAt H v o → Dp K H v (optPy o)
  | none, h => by
    have h : v = .non := h
    subst h
    exact .non
  | some c, h => BoxAt.dp c v h
theorem OptAt.s {H H' : Hp} {v : V} {o : Option Box} (h : OptAt H v o) (e : Same H H') : OptAt H' v o := by
  cases o with
  | none => exact h
  | some c => exact BoxAt.s h e
namespace Box
def byNum (n : Int) (c : Box) : Bool := decide (c.num = n)
def hasNum (n : Int) (c : Box) : Bool := (c.parts.find? (byNum n)).isSome
def parB (b : Box) (n : Int) : Option Int := (b.pre.find? (hasNum n)).map num
theorem mem_pre_parts {b c d : Box} (h1 : c ∈ b.pre) (h2 : d ∈ c.parts) : c.parts.length + 1 ≤ b.pre.length := by
  have := parts_le c
  have := pre_mem_len b c h1
  omega
/-- what a document is -/
structure IsDoc (b : Box) : Prop where
  s : b.isS = true
  n : ∀ c ∈ b.pre, 1 ≤ c.num ∧ c.num ≤ 999
  h : ∀ c ∈ b.pre, 0 ≤ c.ht ∧ c.ht ≤ 1000
  l : b.pre.length ≤ 40
  u : (b.pre.map num).Nodup
  d : b.depth ≤ 4
/-! layers -/
theorem depthL_filter : ∀ l : List Box, depthL l = if (l.filter isS).isEmpty then 0 else 1 + depthL ((l.filter isS).flatMap parts)
  | [] => by simp [depthL]
  | .blk n h :: r => by
    have ih := depthL_filter r
    have e : (Box.blk n h :: r).filter isS = r.filter isS := rfl
    rw [e]
    simp only [depthL, depth]
    omega
  | .scr n h ps :: r => by
    have ih := depthL_filter r
    have e : (Box.scr n h ps :: r).filter isS = .scr n h ps :: r.filter isS := rfl
    rw [e]
    have e2 : (Box.scr n h ps :: r.filter isS).flatMap parts = ps ++ (r.filter isS).flatMap parts := by simp [parts]
    rw [e2, depthL_append]
    simp only [depthL, depth]
    by_cases c : (r.filter isS).isEmpty = true
    · rw [if_pos c] at ih
      have c2 : r.filter isS = [] := List.isEmpty_iff.mp c
      rw [ih, c2]
      simp [depthL]
      omega
    · rw [if_neg c] at ih
      simp
      omega
theorem preL_layer : ∀ l : List Box, (preL ((l.filter isS).flatMap parts)).length + l.length ≤ (preL l).length
  | [] => by simp [preL]
  | .blk n h :: r => by
    have ih := preL_layer r
    have e : (Box.blk n h :: r).filter isS = r.filter isS := rfl
    rw [e]
    simp only [preL, pre, List.length_append, List.length_cons, List.length_nil]
    omega
  | .scr n h ps :: r => by
    have ih := preL_layer r
    have e : (Box.scr n h ps :: r).filter isS = .scr n h ps :: r.filter isS := rfl
    have e2 : (Box.scr n h ps :: r.filter isS).flatMap parts = ps ++ (r.filter isS).flatMap parts := by simp [parts]
    rw [e, e2, preL_append]
    simp only [preL, pre, List.length_append, List.length_cons]
    omega
end Box
end AF
namespace AF
open PySem PySem.Spec PyProof.Rows L2
theorem flat_ints (ns : List Int) : (ns.map V.int).all flatV = true := by
  rw [List.all_map]
  exact List.all_eq_true.mpr fun _ _ => rfl
theorem inV_ints (n : Int) (ns : List Int) : (inV (.int n) (ns.map V.int) = true) ↔ n ∈ ns := by
  unfold inV
  rw [List.any_map, List.any_eq_true]
  constructor
  · rintro ⟨m, hm, e⟩
    have e : (eqV (V.int m) (V.int n)) = true := e
    have : m = n := by simpa [eqV] using e
    rw [← this]
    exact hm
  · intro h
    exact ⟨n, h, by simp [eqV]⟩
namespace Box
theorem depthL_ge : ∀ (ps : List Box), ∀ c ∈ ps, c.depth ≤ depthL ps := fun ps c h => depthL_mem h
theorem depthL_in : ∀ ps : List Box, (depthL ps : Int) ∈ (0 : Int) :: ps.map fun c => (c.depth : Int)
  | [] => by simp [depthL]
  | b :: r => by
    have ih := depthL_in r
    simp only [depthL]
    by_cases h : depthL r ≤ b.depth
    · rw [Nat.max_eq_left h]
      simp
    · rw [Nat.max_eq_right (by omega)]
      rcases List.mem_cons.mp ih with e | e
      · omega
      · simp only [List.map_cons]
        exact List.mem_cons_of_mem _ (List.mem_cons_of_mem _ e)
theorem depthL_max {ps : List Box} {k : Int} (h1 : k ∈ (0 : Int) :: ps.map fun c => (c.depth : Int)) (h2 : ∀ y, y ∈ ((0 : Int) :: ps.map fun c => (c.depth : Int)) → y ≤ k) : k = (depthL ps : Int) := by
  have a := h2 _ (depthL_in ps)
  refine Int.le_antisymm ?_ a
  rcases List.mem_cons.mp h1 with e | e
  · omega
  · obtain ⟨c, hc, rfl⟩ := List.mem_map.mp e
    have := depthL_mem hc
    omega
end Box
end AF
namespace AF
open PySem PySem.Spec PyProof.Rows L2
section
variable {K : PySem.W.Frag} {H : Hp} {Q : VK}
/-- t + u of two tuples, whichever is empty -/
theorem catA_ok {a b : Addr} {xs ys : List V} (ha : H a = some (.tup xs)) (hb : H b = some (.tup ys)) (hl : xs.length + ys.length ≤ 1000) (q : ∀ (p : Addr) (H' : Hp), Same H H' → H' p = some (.tup (xs ++ ys)) → Q (.ref p) H') :
    rCatA K (.ref a) (.ref b) H Q := by
  refine ⟨a, b, xs, ys, rfl, rfl, .of ha, .of hb, Nat.le_of_lt (small1000 hl), fun e => ?_, fun _ e => ?_, fun _ _ p np => ?_⟩
  · refine q b H (.refl H) ?_
    rw [e]
    exact hb
  · refine q a H (.refl H) ?_
    rw [e, List.append_nil]
    exact ha
  · exact q p _ (same_new np _) upd_same
theorem cut_whole {xs : List V} {lo hi : Option Int} (h : HT.sIx xs.length 0 lo = 0 ∧ HT.sIx xs.length xs.length hi = xs.length) : cutV xs lo hi = xs := by
  unfold cutV
  rw [h.1, h.2, List.drop_zero, Nat.sub_zero, List.take_length]
/-- t[lo:hi] of a tuple, the whole or not -/
theorem slA_ok {a : Addr} {xs zs : List V} {lo hi : Option Int} (ha : H a = some (.tup xs)) (e : cutV xs lo hi = zs) (q : ∀ (p : Addr) (H' : Hp), Same H H' → H' p = some (.tup zs) → Q (.ref p) H') : rSlA K (.ref a) lo hi H Q := by
  refine ⟨a, xs, rfl, .of ha, fun h => ?_, fun _ p np => ?_⟩
  · refine q a H (.refl H) ?_
    rw [← e, cut_whole h]
    exact ha
  · rw [e]
    exact q p _ (same_new np _) upd_same
end
namespace Box
def nest (last : Int) : Nat → Box
  | 0 => .blk 900 3
  | k + 1 => .scr (last + k) 5 [nest last k]
theorem nest_len (last : Int) : ∀ k, (nest last k).pre.length = k + 1
  | 0 => by simp [nest, pre]
  | k + 1 => by simp [nest, pre, preL, nest_len last k]
theorem nest_dep (last : Int) : ∀ k, (nest last k).depth = k
  | 0 => by simp [nest, depth]
  | k + 1 => by simp [nest, depth, depthL, nest_dep last k]
mutual
theorem wd_py : ∀ b : Box, wd b.py ≤ b.pre.length + 4
  | .blk n h => by simp [py, wd, wdL, pre]
  | .scr n h ps => by
    have h1 := wd_pyL ps
    have h2 := preL_ge ps
    have h3 : (pyL ps).length = ps.length := by rw [pyL_eq, List.length_map]
    simp only [py, wd, wdL, pre, List.length_cons, List.length_nil]
    omega
theorem wd_pyL : ∀ l : List Box, wdL (pyL l) ≤ (preL l).length + 4
  | [] => by simp [pyL, wdL, preL]
  | b :: r => by
    have h1 := wd_py b
    have h2 := wd_pyL r
    simp only [pyL, wdL, preL, List.length_append]
    omega
end
theorem hasNum_iff {n : Int} {c : Box} : hasNum n c = true ↔ n ∈ c.parts.map num := by
  unfold hasNum
  rw [List.find?_isSome, List.mem_map]
  constructor
  · rintro ⟨d, hd, e⟩
    exact ⟨d, hd, of_decide_eq_true e⟩
  · rintro ⟨d, hd, e⟩
    exact ⟨d, hd, decide_eq_true e⟩
theorem parB_eq (b : Box) (n : Int) : b.parB n = ((b.pre.filter (hasNum n)).map num).head? := by
  unfold parB
  rw [List.head?_map, List.head?_filter]
theorem depthL_pre : ∀ (l : List Box) (k : Nat), (∀ c ∈ l, c.depth ≤ k) → depthL l ≤ k
  | [], k, _ => Nat.zero_le _
  | b :: r, k, h => by
    have h1 := h b List.mem_cons_self
    have h2 := depthL_pre r k fun c hc => h c (List.mem_cons_of_mem _ hc)
    simp only [depthL]
    omega
/-- a drawn document is a document -/
theorem Doc.isDoc {b : Box} (d : Doc b) : IsDoc b where
  s := d.isS
  n := fun c hc => by
    have := d.nums c hc
    omega
  h := fun c hc => by
    have := d.hts c hc
    omega
  l := by
    have := d.len
    omega
  u := d.nodup
  d := by
    have := d.dep
    omega
end Box
end AF
namespace K01
open PySem PySem.Spec PyProof.Rows L2
def topS (i : Nat) : Stmt := PySem.Challenge.pw_asyncframes_k01_boxes_are_listed_and_che.main.body.getD i (.Pass ⟨0, 0, 0, 0⟩)
abbrev s_is_scroller : Stmt := topS 7
abbrev s_number_of : Stmt := topS 8
abbrev s_height_of : Stmt := topS 9
abbrev s_parts_of : Stmt := topS 10
abbrev s_all_boxes : Stmt := topS 11
abbrev s_find : Stmt := topS 12
abbrev s_parent_of : Stmt := topS 13
abbrev s_is_number : Stmt := topS 14
abbrev s_is_height : Stmt := topS 15
abbrev s_scrollers_within : Stmt := topS 16
abbrev s_is_document : Stmt := topS 17
abbrev s_law_draw : Stmt := topS 19
abbrev s_law_next : Stmt := topS 20
abbrev s_law_same : Stmt := topS 21
abbrev s_law_box : Stmt := topS 22
abbrev s_law_document : Stmt := topS 23
abbrev s_law_all : Stmt := topS 24
abbrev s_law_length : Stmt := topS 25
abbrev s_law_range : Stmt := topS 26
abbrev s_law_offsets : Stmt := topS 27
abbrev s_law_named : Stmt := topS 28
abbrev s_law_depth : Stmt := topS 29
abbrev s_law_is_document : Stmt := topS 30
abbrev s_law_nested : Stmt := topS 31
abbrev s_law_faulty : Stmt := topS 32
abbrev s_law : Stmt := topS 33
theorem sc_is_scroller : FnScope ["box"] ["box"] (defScope s_is_scroller) :=
  ⟨rfl, rfl, rfl, by decide +kernel, rfl, by decide +kernel, by decide +kernel⟩
theorem sc_number_of : FnScope ["box"] ["box"] (defScope s_number_of) :=
  ⟨rfl, rfl, rfl, by decide +kernel, rfl, by decide +kernel, by decide +kernel⟩
theorem sc_height_of : FnScope ["box"] ["box"] (defScope s_height_of) :=
  ⟨rfl, rfl, rfl, by decide +kernel, rfl, by decide +kernel, by decide +kernel⟩
theorem sc_parts_of : FnScope ["box"] ["box"] (defScope s_parts_of) :=
  ⟨rfl, rfl, rfl, by decide +kernel, rfl, by decide +kernel, by decide +kernel⟩
theorem sc_all_boxes : FnScope ["document", "boxes", "coming", "box"] ["document"] (defScope s_all_boxes) :=
  ⟨rfl, rfl, rfl, by decide +kernel, rfl, by decide +kernel, by decide +kernel⟩
theorem sc_find : FnScope ["document", "number", "box"] ["document", "number"] (defScope s_find) :=
  ⟨rfl, rfl, rfl, by decide +kernel, rfl, by decide +kernel, by decide +kernel⟩
theorem sc_parent_of : FnScope ["document", "number", "box", "part"] ["document", "number"] (defScope s_parent_of) :=
  ⟨rfl, rfl, rfl, by decide +kernel, rfl, by decide +kernel, by decide +kernel⟩
theorem sc_is_number : FnScope ["value"] ["value"] (defScope s_is_number) :=
  ⟨rfl, rfl, rfl, by decide +kernel, rfl, by decide +kernel, by decide +kernel⟩
theorem sc_is_height : FnScope ["value"] ["value"] (defScope s_is_height) :=
  ⟨rfl, rfl, rfl, by decide +kernel, rfl, by decide +kernel, by decide +kernel⟩
theorem sc_scrollers_within : FnScope ["box", "many", "layer", "each", "part"] ["box"] (defScope s_scrollers_within) :=
  ⟨rfl, rfl, rfl, by decide +kernel, rfl, by decide +kernel, by decide +kernel⟩
theorem sc_is_document : FnScope ["box", "boxes", "numbers", "heights", "each", "number", "height"] ["box"] (defScope s_is_document) :=
  ⟨rfl, rfl, rfl, by decide +kernel, rfl, by decide +kernel, by decide +kernel⟩
theorem sc_law_draw : FnScope ["script"] ["script"] (defScope s_law_draw) :=
  ⟨rfl, rfl, rfl, by decide +kernel, rfl, by decide +kernel, by decide +kernel⟩
theorem sc_law_next : FnScope ["draw", "many", "found", "cell"] ["draw", "many"] (defScope s_law_next) :=
  ⟨rfl, rfl, rfl, by decide +kernel, rfl, by decide +kernel, by decide +kernel⟩
theorem sc_law_same : FnScope ["actual", "due", "k"] ["actual", "due"] (defScope s_law_same) :=
  ⟨rfl, rfl, rfl, by decide +kernel, rfl, by decide +kernel, by decide +kernel⟩
theorem sc_law_box : FnScope ["draw", "last", "depth", "number", "height", "k"] ["draw", "last", "depth"] (defScope s_law_box) :=
  ⟨rfl, rfl, rfl, by decide +kernel, rfl, by decide +kernel, by decide +kernel⟩
theorem sc_law_document : FnScope ["draw", "last", "height", "number", "k"] ["draw"] (defScope s_law_document) :=
  ⟨rfl, rfl, rfl, by decide +kernel, rfl, by decide +kernel, by decide +kernel⟩
theorem sc_law_all : FnScope ["box", "found", "part"] ["box"] (defScope s_law_all) :=
  ⟨rfl, rfl, rfl, by decide +kernel, rfl, by decide +kernel, by decide +kernel⟩
theorem sc_law_named : FnScope ["document", "number", "box"] ["document", "number"] (defScope s_law_named) :=
  ⟨rfl, rfl, rfl, by decide +kernel, rfl, by decide +kernel, by decide +kernel⟩
theorem sc_law_depth : FnScope ["box", "part"] ["box"] (defScope s_law_depth) :=
  ⟨rfl, rfl, rfl, by decide +kernel, rfl, by decide +kernel, by decide +kernel⟩
theorem sc_law_is_document : FnScope ["box", "boxes", "seen", "one"] ["box"] (defScope s_law_is_document) :=
  ⟨rfl, rfl, rfl, by decide +kernel, rfl, by decide +kernel, by decide +kernel⟩
theorem sc_law_nested : FnScope ["many", "last", "box", "k"] ["many", "last"] (defScope s_law_nested) :=
  ⟨rfl, rfl, rfl, by decide +kernel, rfl, by decide +kernel, by decide +kernel⟩
theorem sc_law_faulty : FnScope ["draw", "document", "boxes", "number", "extra", "form", "k"] ["draw", "document"] (defScope s_law_faulty) :=
  ⟨rfl, rfl, rfl, by decide +kernel, rfl, by decide +kernel, by decide +kernel⟩
theorem sc_law : FnScope ["script", "draw", "turn", "document", "boxes", "number", "faulty", "parents", "box", "part"] ["script"] (defScope s_law) :=
  ⟨rfl, rfl, rfl, by decide +kernel, rfl, by decide +kernel, by decide +kernel⟩
/-- what the text's top leaves, as far as the walk asks -/
structure Tx (K : PySem.W.Frag) (mg : Str → Option Value) where
  d_is_scroller : AF.DF K mg "is_scroller" s_is_scroller ["box"]
  d_number_of : AF.DF K mg "number_of" s_number_of ["box"]
  d_height_of : AF.DF K mg "height_of" s_height_of ["box"]
  d_parts_of : AF.DF K mg "parts_of" s_parts_of ["box"]
  d_all_boxes : AF.DF K mg "all_boxes" s_all_boxes ["document"]
  d_find : AF.DF K mg "find" s_find ["document", "number"]
  d_parent_of : AF.DF K mg "parent_of" s_parent_of ["document", "number"]
  d_is_number : AF.DF K mg "is_number" s_is_number ["value"]
  d_is_height : AF.DF K mg "is_height" s_is_height ["value"]
  d_scrollers_within : AF.DF K mg "scrollers_within" s_scrollers_within ["box"]
  d_is_document : AF.DF K mg "is_document" s_is_document ["box"]
  d_law_draw : AF.DF K mg "_law_draw" s_law_draw ["script"]
  d_law_next : AF.DF K mg "_law_next" s_law_next ["draw", "many"]
  d_law_same : AF.DF K mg "_law_same" s_law_same ["actual", "due"]
  d_law_box : AF.DF K mg "_law_box" s_law_box ["draw", "last", "depth"]
  d_law_document : AF.DF K mg "_law_document" s_law_document ["draw"]
  d_law_all : AF.DF K mg "_law_all" s_law_all ["box"]
  d_law_named : AF.DF K mg "_law_named" s_law_named ["document", "number"]
  d_law_depth : AF.DF K mg "_law_depth" s_law_depth ["box"]
  d_law_is_document : AF.DF K mg "_law_is_document" s_law_is_document ["box"]
  d_law_nested : AF.DF K mg "_law_nested" s_law_nested ["many", "last"]
  d_law_faulty : AF.DF K mg "_law_faulty" s_law_faulty ["draw", "document"]
  d_law : AF.DF K mg "law" s_law ["script"]
  t_LEAST_NUMBER : Tok
  c_LEAST_NUMBER : mg "LEAST_NUMBER" = some (.int 1 t_LEAST_NUMBER)
  t_GREATEST_NUMBER : Tok
  c_GREATEST_NUMBER : mg "GREATEST_NUMBER" = some (.int 999 t_GREATEST_NUMBER)
  t_LEAST_HEIGHT : Tok
  c_LEAST_HEIGHT : mg "LEAST_HEIGHT" = some (.int 0 t_LEAST_HEIGHT)
  t_GREATEST_HEIGHT : Tok
  c_GREATEST_HEIGHT : mg "GREATEST_HEIGHT" = some (.int 1000 t_GREATEST_HEIGHT)
  t_MOST_BOXES : Tok
  c_MOST_BOXES : mg "MOST_BOXES" = some (.int 40 t_MOST_BOXES)
  t_MOST_SCROLLERS_WITHIN : Tok
  c_MOST_SCROLLERS_WITHIN : mg "MOST_SCROLLERS_WITHIN" = some (.int 4 t_MOST_SCROLLERS_WITHIN)
  z_abs : mg "abs" = none
  z_all : mg "all" = none
  z_bool : mg "bool" = none
  z_int : mg "int" = none
  z_isinstance : mg "isinstance" = none
  z_len : mg "len" = none
  z_list : mg "list" = none
  z_max : mg "max" = none
  z_range : mg "range" = none
  z_set : mg "set" = none
  z_str : mg "str" = none
  z_sum : mg "sum" = none
  z_tuple : mg "tuple" = none
end K01
namespace K01
open PySem PySem.Spec PyProof.Rows L2
section
variable {P : Program} {w : World} {K : PySem.W.Frag} {mg : Str → Option Value} {base : Heap}
/-! ### boxes.py -/
def spIsS : Sp := fun vs H Q _ => ∃ (v : V) (b : AF.Box), vs = [v] ∧ AF.BoxAt H v b ∧ Q (.bl b.isS) H
def spNum : Sp := fun vs H Q _ => ∃ (v : V) (b : AF.Box), vs = [v] ∧ AF.BoxAt H v b ∧ Q (.int b.num) H
def spHt : Sp := fun vs H Q _ => ∃ (v : V) (b : AF.Box), vs = [v] ∧ AF.BoxAt H v b ∧ Q (.int b.ht) H
def spParts : Sp := fun vs H Q _ => ∃ (v : V) (b : AF.Box), vs = [v] ∧ AF.BoxAt H v b ∧
  ∀ (p : Addr) (ws : List V) (H' : Hp), Same H H' → H' p = some (.tup ws) → AF.BoxesAt H' ws b.parts → Q (.ref p) H'
theorem ok_is_scroller (T : Tx K mg) : FnOk P w K mg base CX0 1 T.d_is_scroller.f T.d_is_scroller.fd ["box"] spIsS := by
  refine T.d_is_scroller.F.ok sc_is_scroller (fun vs H Q E h => ?_) (fun cdv A outer s H vs Q E hr h => ?_)
  · obtain ⟨v, b, rfl, _⟩ := h
    rfl
  obtain ⟨v, b, rfl, hb, q⟩ := h
  refine ⟨_, (pss_one (ps_ret (pe_cmpR op_eq (pe_ix (AF.ixT K rfl) (pv 0) pe_int (fun _ _ => rfl)) pe_str (nomark _)))), ?_⟩
  obtain ⟨a, xs, rfl, ha, e⟩ := hb.tup
  have e0 : xs[0]? = some (.str b.kind) := by
    have := congrArg (fun l => l[0]?) e
    simpa using this
  refine ⟨_, rfl, a, _, _, _, rfl, rfl, .of ha, atI_nat (j := 0) e0, rfl, ?_⟩
  have z : (decide (V.str b.kind = V.str "scroller")) = b.isS := by
    cases b with
    | blk n h => exact decide_eq_false (by intro z; cases z)
    | scr n h ps => exact decide_eq_true rfl
  rw [z]
  exact q
theorem ok_number_of (T : Tx K mg) : FnOk P w K mg base CX0 1 T.d_number_of.f T.d_number_of.fd ["box"] spNum := by
  refine T.d_number_of.F.ok sc_number_of (fun vs H Q E h => ?_) (fun cdv A outer s H vs Q E hr h => ?_)
  · obtain ⟨v, b, rfl, _⟩ := h
    rfl
  obtain ⟨v, b, rfl, hb, q⟩ := h
  refine ⟨_, (pss_one (ps_ret (pe_ix (AF.ixT K rfl) (pv 0) pe_int (fun _ _ => rfl)))), ?_⟩
  obtain ⟨a, xs, rfl, ha, e⟩ := hb.tup
  have e0 : xs[1]? = some (.int b.num) := by
    have := congrArg (fun l => l[1]?) e
    simpa using this
  exact ⟨_, rfl, a, _, _, _, rfl, rfl, .of ha, atI_nat (j := 1) e0, q⟩
theorem ok_height_of (T : Tx K mg) : FnOk P w K mg base CX0 1 T.d_height_of.f T.d_height_of.fd ["box"] spHt := by
  refine T.d_height_of.F.ok sc_height_of (fun vs H Q E h => ?_) (fun cdv A outer s H vs Q E hr h => ?_)
  · obtain ⟨v, b, rfl, _⟩ := h
    rfl
  obtain ⟨v, b, rfl, hb, q⟩ := h
  refine ⟨_, (pss_one (ps_ret (pe_ix (AF.ixT K rfl) (pv 0) pe_int (fun _ _ => rfl)))), ?_⟩
  obtain ⟨a, xs, rfl, ha, e⟩ := hb.tup
  have e0 : xs[2]? = some (.int b.ht) := by
    have := congrArg (fun l => l[2]?) e
    simpa using this
  exact ⟨_, rfl, a, _, _, _, rfl, rfl, .of ha, atI_nat (j := 2) e0, q⟩
theorem ok_parts_of (T : Tx K mg) : FnOk P w K mg base CX0 2 T.d_parts_of.f T.d_parts_of.fd ["box"] spParts := by
  have G_is_scroller := ok_is_scroller (P := P) (w := w) (base := base) T
  refine T.d_parts_of.F.ok sc_parts_of (fun vs H Q E h => ?_) (fun cdv A outer s H vs Q E hr h => ?_)
  · obtain ⟨v, b, rfl, _⟩ := h
    rfl
  obtain ⟨v, b, rfl, hb, q⟩ := h
  refine ⟨_, (pss_cons (ps_if (pt_val (AF.cal T.d_is_scroller G_is_scroller (hr.mono (by omega)) (pa_cons (pv 0) pa_nil)))
      (pss_one (ps_ret (pe_ix (AF.ixT K rfl) (pv 0) pe_int (fun _ _ => rfl))))
      pss_nil)
      (pss_one (ps_ret (pe_tup pa_nil)))), ?_⟩
  refine ⟨v, rfl, v, b, rfl, hb, b.isS, rfl, ?_⟩
  cases b with
  | blk n h =>
    refine iteF ⟨Nat.zero_le _, fun p hp => ?_⟩
    exact q p [] _ (AF.same_new hp _) upd_same .nil
  | scr n h ps =>
    refine iteT ?_
    obtain ⟨a, p, vs, rfl, h1, h2, h3⟩ := hb.scr
    exact ⟨_, rfl, a, _, _, _, rfl, rfl, .of h1, atI_nat (j := 3) rfl, q p vs H (.refl H) h2 h3⟩
def spAll : Sp := fun vs H Q _ => ∃ (v : V) (b : AF.Box), vs = [v] ∧ AF.BoxAt H v b ∧ b.pre.length ≤ 1000 ∧
  ∀ (l : Addr) (ws : List V) (H' : Hp), Same H H' → H l = none → H' l = some (.lst ws) → AF.BoxesAt H' ws b.pre → Q (.ref l) H'
theorem ok_all_boxes (T : Tx K mg) : FnOk P w K mg base CX0 3 T.d_all_boxes.f T.d_all_boxes.fd ["document"] spAll := by
  have G_parts_of := ok_parts_of (P := P) (w := w) (base := base) T
  refine T.d_all_boxes.F.ok sc_all_boxes (fun vs H Q E h => ?_) (fun cdv A outer s H vs Q E hr h => ?_)
  · obtain ⟨v, b, rfl, _⟩ := h
    rfl
  obtain ⟨v, b, rfl, hb, hlen, q⟩ := h
  refine ⟨_, (pss_cons (ps_set (i := 1) sc_all_boxes.nd rfl (Or.inl rfl) (pe_lst pa_nil))
      (pss_cons (ps_set (i := 2) sc_all_boxes.nd rfl (Or.inl rfl) (pe_lst (pa_cons (pv 0) pa_nil)))
      (pss_cons (ps_while PassesOwn.never (AF.truK K rfl (pv 2))
      (pss_cons (ps_set (i := 3) sc_all_boxes.nd rfl (Or.inl rfl) (pe_bm0 PySem.F.plainAttrs_list PySem.F.slot_list_pop PySem.F.type_list_pop mt_pop (pv 2)))
      (pss_cons (ps_expr (pe_bm PySem.F.plainAttrs_list PySem.F.slot_list_append PySem.F.type_list_append mt_append (pv 1) (pa_cons (pv 3) pa_nil)))
      (pss_one (ps_expr (pe_bm PySem.F.plainAttrs_list PySem.F.slot_list_extend PySem.F.type_list_extend (AF.extTK K rfl) (pv 2) (pa_cons (AF.revTK K rfl (AF.cal T.d_parts_of G_parts_of (hr.mono (by omega)) (pa_cons (pv 3) pa_nil))) pa_nil)))))))
      (pss_one (ps_ret (pv 1)))))), ?_⟩
  refine ⟨Nat.zero_le _, fun l nl => ?_⟩
  refine ⟨v, rfl, (by show 1 ≤ sizeLine; decide), fun c nc => ?_⟩
  have nlc : l ≠ c := fun e => by rw [← e, upd_same] at nc; cases nc
  have nHc : H c = none := by rw [upd_ne nlc.symm] at nc; exact nc
  -- what is done, what is still to come (the last is the next)
  dsimp only [gName, tSeq]
  refine while_by (Pv := fun σ H3 => ∃ (x : Option V) (ws us : List V) (done todo : List AF.Box), σ = [some v, some (.ref l), some (.ref c), x] ∧ Same H H3 ∧
      H3 l = some (.lst ws) ∧ H3 c = some (.lst us) ∧ AF.BoxesAt H3 ws done ∧ AF.BoxesAt H3 us todo ∧ done ++ AF.Box.preL todo.reverse = b.pre)
    (μ := fun σ H3 => match H3 l with | some (.lst ws) => 1000 - ws.length | _ => 0) ?_ ?_ ?_
  · refine ⟨none, [], [v], [], [b], rfl, ?_, ?_, upd_same, .nil, .one ?_, ?_⟩
    · exact AF.same_upd (AF.same_new nl _) nHc _
    · rw [upd_ne nlc]
      exact upd_same
    · exact hb.s (AF.same_upd (AF.same_new nl _) nHc _)
    · simp [AF.Box.preL]
  · rintro σ H3 ⟨x, ws, us, done, todo, rfl, sm, el, ec, bw, bu, hpre⟩
    refine ⟨.ref c, rfl, !us.isEmpty, .inl ⟨us, .of ec, rfl⟩, ?_⟩
    have hlu := bu.len
    by_cases hn : todo = []
    · subst hn
      have e : us = [] := bu.nil_inv
      subst e
      refine iteF ?_
      have hd : done = b.pre := by simpa [AF.Box.preL] using hpre
      subst hd
      exact ⟨.ref l, rfl, q l ws H3 sm nl el bw⟩
    · obtain ⟨td, bx, rfl⟩ : ∃ td bx, todo = td ++ [bx] := ⟨todo.dropLast, todo.getLast hn, (List.dropLast_concat_getLast hn).symm⟩
      obtain ⟨y, us', rfl, bu', by_⟩ := bu.split_last
      have he : (us' ++ [y]).isEmpty = false := by simp
      rw [he]
      refine iteT ?_
      -- box = coming.pop()
      refine ⟨.ref c, rfl, .inl ⟨rfl, _, .of ec⟩, c, _, y, rfl, rfl, ec, by simp, ?_⟩
      have edl : (us' ++ [y]).dropLast = us' := by simp
      rw [edl]
      have k1 : AF.KeepT H3 (upd H3 c (.lst us')) := AF.keepT_upd ec _
      have el1 : (upd H3 c (.lst us')) l = some (.lst ws) := by rw [upd_ne nlc]; exact el
      have hw : ws.length < 1000 := by
        have h1 := bw.len
        have h2 : (done ++ AF.Box.preL (td ++ [bx]).reverse).length ≤ 1000 := by rw [hpre]; exact hlen
        rw [List.reverse_append, List.length_append] at h2
        have h3 : AF.Box.preL ([bx].reverse ++ td.reverse) = bx.pre ++ AF.Box.preL td.reverse := by simp [AF.Box.preL]
        rw [h3, List.length_append, AF.Box.pre_eq, List.length_cons] at h2
        omega
      -- boxes.append(box)
      refine ⟨.ref l, rfl, .inl ⟨rfl, _, .of el1⟩, y, rfl, l, ws, y, rfl, rfl, el1, small1000 (by omega), ?_⟩
      -- coming.extend(parts_of(box)[::-1])
      have k2 : AF.KeepT (upd H3 c (.lst us')) (upd (upd H3 c (.lst us')) l (.lst (ws ++ [y]))) := AF.keepT_upd el1 _
      have ec2 : (upd (upd H3 c (.lst us')) l (.lst (ws ++ [y]))) c = some (.lst us') := by rw [upd_ne nlc.symm]; exact upd_same
      have by2 := by_.k (k1.trans k2)
      refine ⟨.ref c, rfl, .inl ⟨rfl, _, .of ec2⟩, y, rfl, y, bx, rfl, by2, fun p ps H4 s4 ep bp => ?_⟩
      have ec4 := s4 _ _ ec2
      refine ⟨p, ps, rfl, .of ep, fun t nt => ?_⟩
      have s5 : Same H4 (upd H4 t (.tup ps.reverse)) := AF.same_new nt _
      have ec5 := s5 _ _ ec4
      have hps := bp.len
      have hus := bu'.len
      have hcount : us'.length + ps.length ≤ 1000 := by
        have h2 : (done ++ AF.Box.preL (td ++ [bx]).reverse).length ≤ 1000 := by rw [hpre]; exact hlen
        rw [List.reverse_append, List.length_append] at h2
        have h3 : AF.Box.preL ([bx].reverse ++ td.reverse) = bx.pre ++ AF.Box.preL td.reverse := by simp [AF.Box.preL]
        rw [h3, List.length_append, AF.Box.pre_eq, List.length_cons] at h2
        have h4 := AF.Box.preL_ge bx.parts
        have h5 := AF.Box.preL_ge td.reverse
        rw [List.length_reverse] at h5
        omega
      refine ⟨c, t, us', ps.reverse, rfl, rfl, ec5, .of upd_same, ?_, ?_⟩
      · rw [List.length_reverse]
        exact Nat.le_of_lt (small1000 hcount)
      have k6 : AF.KeepT (upd H4 t (.tup ps.reverse)) (upd (upd H4 t (.tup ps.reverse)) c (.lst (us' ++ ps.reverse))) := AF.keepT_upd ec5 _
      have kk : AF.KeepT H3 (upd (upd H4 t (.tup ps.reverse)) c (.lst (us' ++ ps.reverse))) := ((k1.trans k2).trans (AF.Same.keepT s4)).trans ((AF.Same.keepT s5).trans k6)
      have el6 : (upd (upd H4 t (.tup ps.reverse)) c (.lst (us' ++ ps.reverse))) l = some (.lst (ws ++ [y])) := by
        rw [upd_ne nlc]
        exact s5 _ _ (s4 _ _ upd_same)
      refine ⟨⟨some y, ws ++ [y], us' ++ ps.reverse, done ++ [bx], td ++ bx.parts.reverse, rfl, ?_, el6, upd_same, ?_, ?_, ?_⟩, ?_⟩
      · refine AF.same_upd (fun b u z => s5 _ _ (s4 _ _ ?_)) nHc _
        rw [upd_ne (ne_of_none z nl), upd_ne (ne_of_none z nHc)]
        exact sm _ _ z
      · exact (bw.k kk).append (.one (by_.k kk))
      · exact (bu'.k kk).append ((bp.k ((AF.Same.keepT s5).trans k6)).reverse)
      · rw [← hpre, List.reverse_append, List.reverse_append, List.reverse_reverse]
        simp [AF.Box.preL, AF.Box.preL_append, AF.Box.pre_eq bx, List.append_assoc]
      · show (match (upd (upd H4 t (.tup ps.reverse)) c (.lst (us' ++ ps.reverse))) l with | some (.lst ws) => 1000 - ws.length | _ => 0) < (match H3 l with | some (.lst ws) => 1000 - ws.length | _ => 0)
        rw [el6, el]
        show 1000 - (ws ++ [y]).length < 1000 - ws.length
        rw [List.length_append, List.length_singleton]
        omega
  · intro σ H3 Q Q' m h
    obtain ⟨v1, e1, k, e2, h⟩ := h
    exact ⟨v1, e1, k, e2, m _ _ h⟩

end
end K01
namespace K01
open PySem PySem.Spec PyProof.Rows L2
section
variable {P : Program} {w : World} {K : PySem.W.Frag} {mg : Str → Option Value} {base : Heap}
def spFind : Sp := fun vs H Q _ => ∃ (v : V) (b : AF.Box) (n : Int), vs = [v, .int n] ∧ AF.BoxAt H v b ∧ b.pre.length ≤ 1000 ∧
  ∀ (w : V) (H' : Hp), Same H H' → AF.OptAt H' w (b.pre.find? (AF.Box.byNum n)) → Q w H'
theorem ok_find (T : Tx K mg) : FnOk P w K mg base CX0 4 T.d_find.f T.d_find.fd ["document", "number"] spFind := by
  have G_all_boxes := ok_all_boxes (P := P) (w := w) (base := base) T
  have G_number_of := ok_number_of (P := P) (w := w) (base := base) T
  refine T.d_find.F.ok sc_find (fun vs H Q E h => ?_) (fun cdv A outer s H vs Q E hr h => ?_)
  · obtain ⟨_, _, _, rfl, _⟩ := h
    rfl
  obtain ⟨v, b, n, rfl, hb, hlen, q⟩ := h
  refine ⟨_, (pss_cons (ps_for PassesOwn.never rfl (AF.piL K rfl (AF.cal T.d_all_boxes G_all_boxes (hr.mono (by omega)) (pa_cons (pv 0) pa_nil))) (pg_name (i := 2) sc_find.nd rfl (Or.inl rfl))
      (pss_one (ps_if (pt_cmpR op_eq (AF.cal T.d_number_of G_number_of (hr.mono (by omega)) (pa_cons (pv 2) pa_nil)) (pv 1) (nomark _))
      (pss_one (ps_ret (pv 2)))
      pss_nil)))
      (pss_one (ps_ret pe_non))), ?_⟩
  refine ⟨v, rfl, v, b, rfl, hb, hlen, fun l ws H1 s1 nl el bw => ?_⟩
  refine ⟨l, rfl, ⟨ws, .of el⟩, ?_⟩
  have hw := bw.len
  refine for_list (xs := ws) (Pv := fun i σ H3 => ∃ x : Option V, σ = [some v, some (.int n), x] ∧ H3 = H1 ∧ (b.pre.take i).find? (AF.Box.byNum n) = none) ?_ ?_ ?_ ?_
  · exact ⟨none, rfl, rfl, rfl⟩
  · rintro i σ H3 _ ⟨x, _, rfl, _⟩
    exact .of el
  · rintro i y σ H3 hy ⟨x, rfl, rfl, hf⟩
    obtain ⟨c, hc, by_⟩ := bw.get hy
    refine ⟨y, rfl, y, c, rfl, by_, .int n, rfl, rfl, _, rfl, ite2 (fun cc => ?_) (fun cc => ?_)⟩
    · have e : c.num = n := V.int.inj (of_decide_eq_true cc)
      refine ⟨y, rfl, q y H3 s1 ?_⟩
      rw [AF.find_at hf hc (decide_eq_true e)]
      exact by_
    · have e : ¬ c.num = n := fun z => cc (decide_eq_true (congrArg V.int z))
      exact ⟨some y, rfl, rfl, AF.find_step hf hc (decide_eq_false e)⟩
  · rintro σ H3 ⟨x, rfl, rfl, hf⟩
    rw [hw, List.take_length] at hf
    exact q .non H3 s1 (by rw [hf]; rfl)
def spPar : Sp := fun vs H Q _ => ∃ (v : V) (b : AF.Box) (n : Int), vs = [v, .int n] ∧ AF.BoxAt H v b ∧ b.pre.length ≤ 1000 ∧ ∀ H' : Hp, Same H H' → Q (AF.optI (b.parB n)) H'
theorem ok_parent_of (T : Tx K mg) : FnOk P w K mg base CX0 4 T.d_parent_of.f T.d_parent_of.fd ["document", "number"] spPar := by
  have G_all_boxes := ok_all_boxes (P := P) (w := w) (base := base) T
  have G_number_of := ok_number_of (P := P) (w := w) (base := base) T
  have G_parts_of := ok_parts_of (P := P) (w := w) (base := base) T
  refine T.d_parent_of.F.ok sc_parent_of (fun vs H Q E h => ?_) (fun cdv A outer s H vs Q E hr h => ?_)
  · obtain ⟨_, _, _, rfl, _⟩ := h
    rfl
  obtain ⟨v, b, n, rfl, hb, hlen, q⟩ := h
  refine ⟨_, (pss_cons (ps_for PassesOwn.never rfl (AF.piL K rfl (AF.cal T.d_all_boxes G_all_boxes (hr.mono (by omega)) (pa_cons (pv 0) pa_nil))) (pg_name (i := 2) sc_parent_of.nd rfl (Or.inl rfl))
      (pss_one (ps_for PassesOwn.never rfl (AF.piT K rfl (AF.cal T.d_parts_of G_parts_of (hr.mono (by omega)) (pa_cons (pv 2) pa_nil))) (pg_name (i := 3) sc_parent_of.nd rfl (Or.inl rfl))
      (pss_one (ps_if (pt_cmpR op_eq (AF.cal T.d_number_of G_number_of (hr.mono (by omega)) (pa_cons (pv 3) pa_nil)) (pv 1) (nomark _))
      (pss_one (ps_ret (AF.cal T.d_number_of G_number_of (hr.mono (by omega)) (pa_cons (pv 2) pa_nil))))
      pss_nil)))))
      (pss_one (ps_ret pe_non))), ?_⟩
  refine ⟨v, rfl, v, b, rfl, hb, hlen, fun l ws H1 s1 nl el bw => ?_⟩
  refine ⟨l, rfl, ⟨ws, .of el⟩, ?_⟩
  have hw := bw.len
  refine for_list (xs := ws) (Pv := fun i σ H3 => ∃ x y : Option V, σ = [some v, some (.int n), x, y] ∧ Same H1 H3 ∧ (b.pre.take i).find? (AF.Box.hasNum n) = none) ?_ ?_ ?_ ?_
  · exact ⟨none, none, rfl, .refl _, rfl⟩
  · rintro i σ H3 _ ⟨x, y, _, s3, _⟩
    exact .of (s3 _ _ el)
  · rintro i u σ H3 hu ⟨x, y, rfl, s3, hf⟩
    obtain ⟨c, hc, bu⟩ := bw.get hu
    refine ⟨u, rfl, u, c, rfl, bu.s s3, fun p ps H4 s4 ep bp => ?_⟩
    refine ⟨p, rfl, ⟨ps, .of ep⟩, ?_⟩
    have hps := bp.len
    refine for_tup (xs := ps) (Pv := fun j σ H5 => ∃ y : Option V, σ = [some v, some (.int n), some u, y] ∧ H5 = H4 ∧ (c.parts.take j).find? (AF.Box.byNum n) = none) ?_ ?_ ?_ ?_
    · exact ⟨y, rfl, rfl, rfl⟩
    · rintro j σ H5 _ ⟨y, _, rfl, _⟩
      exact .of ep
    · rintro j z σ H5 hz ⟨y, rfl, rfl, hf2⟩
      obtain ⟨d, hd, bz⟩ := bp.get hz
      refine ⟨z, rfl, z, d, rfl, bz, .int n, rfl, rfl, _, rfl, ite2 (fun cc => ?_) (fun cc => ?_)⟩
      · have e : d.num = n := V.int.inj (of_decide_eq_true cc)
        have hh : AF.Box.hasNum n c = true := by
          unfold AF.Box.hasNum
          rw [AF.find_at hf2 hd (decide_eq_true e)]
          rfl
        refine ⟨u, rfl, u, c, rfl, (bu.s s3).s s4, ?_⟩
        have := q H5 ((s1.trans s3).trans s4)
        unfold AF.Box.parB at this
        rw [AF.find_at hf hc hh] at this
        exact this
      · have e : ¬ d.num = n := fun z => cc (decide_eq_true (congrArg V.int z))
        exact ⟨some z, rfl, rfl, AF.find_step hf2 hd (decide_eq_false e)⟩
    · rintro σ H5 ⟨y, rfl, rfl, hf2⟩
      rw [hps, List.take_length] at hf2
      refine ⟨some u, y, rfl, s3.trans s4, AF.find_step hf hc ?_⟩
      unfold AF.Box.hasNum
      rw [hf2]
      rfl
  · rintro σ H3 ⟨x, y, rfl, s3, hf⟩
    rw [hw, List.take_length] at hf
    have := q H3 (s1.trans s3)
    unfold AF.Box.parB at this
    rw [hf] at this
    exact this
def spRange (lo hi : Int) : Sp := fun vs H Q _ => ∃ i : Int, vs = [.int i] ∧ ∀ k : Bool, (k = true ↔ lo ≤ i ∧ i ≤ hi) → Q (.bl k) H
theorem ok_is_number (T : Tx K mg) : FnOk P w K mg base CX0 1 T.d_is_number.f T.d_is_number.fd ["value"] (spRange 1 999) := by
  refine T.d_is_number.F.ok sc_is_number (fun vs H Q E h => ?_) (fun cdv A outer s H vs Q E hr h => ?_)
  · obtain ⟨_, rfl, _⟩ := h
    rfl
  obtain ⟨i, rfl, q⟩ := h
  refine ⟨_, (pss_one (ps_ret (pe_chain op_le op_le (pe_glob (v := .int 1) rfl T.c_LEAST_NUMBER ⟨_, rfl⟩) (pv 0) (pe_glob (v := .int 999) rfl T.c_GREATEST_NUMBER ⟨_, rfl⟩)))), ?_⟩
  refine ⟨.int i, rfl, _, _, rfl, rfl, _, rfl, ?_⟩
  refine ite2 (fun c => ?_) (fun c => ?_)
  · have c' := of_decide_eq_true c
    exact ⟨_, _, rfl, rfl, q _ ⟨fun z => ⟨c', of_decide_eq_true z⟩, fun z => decide_eq_true z.2⟩⟩
  · exact q _ ⟨(fun z => nomatch z), fun z => absurd (decide_eq_true z.1) c⟩
theorem ok_is_height (T : Tx K mg) : FnOk P w K mg base CX0 1 T.d_is_height.f T.d_is_height.fd ["value"] (spRange 0 1000) := by
  refine T.d_is_height.F.ok sc_is_height (fun vs H Q E h => ?_) (fun cdv A outer s H vs Q E hr h => ?_)
  · obtain ⟨_, rfl, _⟩ := h
    rfl
  obtain ⟨i, rfl, q⟩ := h
  refine ⟨_, (pss_one (ps_ret (pe_chain op_le op_le (pe_glob (v := .int 0) rfl T.c_LEAST_HEIGHT ⟨_, rfl⟩) (pv 0) (pe_glob (v := .int 1000) rfl T.c_GREATEST_HEIGHT ⟨_, rfl⟩)))), ?_⟩
  refine ⟨.int i, rfl, _, _, rfl, rfl, _, rfl, ?_⟩
  refine ite2 (fun c => ?_) (fun c => ?_)
  · have c' := of_decide_eq_true c
    exact ⟨_, _, rfl, rfl, q _ ⟨fun z => ⟨c', of_decide_eq_true z⟩, fun z => decide_eq_true z.2⟩⟩
  · exact q _ ⟨(fun z => nomatch z), fun z => absurd (decide_eq_true z.1) c⟩
def spWithin : Sp := fun vs H Q _ => ∃ (v : V) (b : AF.Box), vs = [v] ∧ AF.BoxAt H v b ∧ b.pre.length ≤ 1000 ∧ ∀ H' : Hp, Same H H' → Q (.int (b.depth : Int)) H'
theorem ok_scrollers_within (T : Tx K mg) : FnOk P w K mg base CX0 3 T.d_scrollers_within.f T.d_scrollers_within.fd ["box"] spWithin := by
  have G_is_scroller := ok_is_scroller (P := P) (w := w) (base := base) T
  have G_parts_of := ok_parts_of (P := P) (w := w) (base := base) T
  refine T.d_scrollers_within.F.ok sc_scrollers_within (fun vs H Q E h => ?_) (fun cdv A outer s H vs Q E hr h => ?_)
  · obtain ⟨_, _, rfl, _⟩ := h
    rfl
  obtain ⟨v, b, rfl, hb, hlen, q⟩ := h
  refine ⟨_, (pss_cons (ps_set (i := 1) sc_scrollers_within.nd rfl (Or.inl rfl) pe_int)
      (pss_cons (ps_set (i := 2) sc_scrollers_within.nd rfl (Or.inl rfl) (pe_lst (pa_cons (pv 0) pa_nil)))
      (pss_cons (ps_while PassesOwn.never (AF.truK K rfl (pv 2))
      (pss_cons (ps_setLc (i := 2) (own := [("each", 3)]) (g := gName 3) rfl sc_scrollers_within.nd rfl rfl (sw_true rfl rfl rfl (by decide +kernel)) (AF.piL K rfl (pv 2)) (blkOk_by (own := [("each", 3)]) (N := ["box", "many", "layer", "each", "part"]) (sc := defScope s_scrollers_within) (by decide +kernel)) (fun _ _ _ _ _ => (pg_name (i := 3) sc_scrollers_within.nd rfl (Or.inl rfl))) (fun _ _ _ _ _ => pts_one (pt_val (AF.cal T.d_is_scroller G_is_scroller (hr.mono (by omega)) (pa_cons (pv 3) pa_nil)))) (fun _ _ _ _ _ => (pv 3)))
      (Evl.pss_cut (ps_if (AF.truK K rfl (pv 2))
      (pss_one (ps_aug (i := 1) sc_scrollers_within.nd rfl (Or.inl rfl) pe_int ip_add))
      pss_nil)
      (pss_one (ps_setLc2 (i := 2) (own := [("each", 3), ("part", 4)]) (vs1 := [4]) (g := gName 3) (g1 := gName 4) rfl sc_scrollers_within.nd rfl rfl (sw_true rfl rfl rfl (by decide +kernel)) (AF.piL K rfl (pv 2)) (blkOk_by (own := [("each", 3), ("part", 4)]) (N := ["box", "many", "layer", "each", "part"]) (sc := defScope s_scrollers_within) (by decide +kernel)) (by decide) (fun _ _ _ _ _ => (pg_name (i := 3) sc_scrollers_within.nd rfl (Or.inl rfl))) (fun _ _ _ _ _ => pts_nil) (fun _ _ _ _ _ => (AF.piT K rfl (AF.cal T.d_parts_of G_parts_of (hr.mono (by omega)) (pa_cons (pv 3) pa_nil)))) (fun _ _ _ _ _ => (pg_name (i := 4) sc_scrollers_within.nd rfl (Or.inl rfl))) (fun _ _ _ _ _ => pts_nil) (fun _ _ _ _ _ => (pv 4)))))))
      (pss_one (ps_ret (pv 1)))))), ?_⟩
  refine ⟨v, rfl, (by show 1 ≤ sizeLine; decide), fun l0 nl0 => ?_⟩
  have s0 : Same H (upd H l0 (.lst [v])) := AF.same_new nl0 _
  dsimp only [gName, tSeq]
  refine ⟨fun m σ H1 => ∃ (l : Addr) (z : Int) (ws : List V) (bs : List AF.Box) (x y : Option V), σ = [some v, some (.int z), some (.ref l), x, y] ∧ Same H H1 ∧ H1 l = some (.lst ws) ∧ AF.BoxesAt H1 ws bs ∧
    m = (AF.Box.preL bs).length ∧ (AF.Box.preL bs).length ≤ 1000 ∧ z + (AF.Box.depthL bs : Int) = (b.depth : Int), ⟨b.pre.length, l0, 0, [v], [b], none, none, rfl, s0, upd_same, .one (hb.s s0), ?_, ?_, ?_⟩, ?_⟩
  · simp [AF.Box.preL]
  · simpa [AF.Box.preL] using hlen
  · simp [AF.Box.depthL]
  rintro m σ H1 ⟨l, z, ws, bs, x, y, rfl, s1, el, bw, rfl, hm, hz⟩
  have hw := bw.len
  refine ⟨.ref l, rfl, _, .inl ⟨ws, .of el, rfl⟩, ?_⟩
  by_cases hn : bs = []
  · subst hn
    have ew : ws = [] := bw.nil_inv
    subst ew
    refine iteF ⟨.int z, rfl, ?_⟩
    have e : z = (b.depth : Int) := by simpa [AF.Box.depthL] using hz
    rw [e]
    exact q H1 s1
  · have hb1 : 1 ≤ bs.length := List.length_pos_iff.mpr hn
    have hne : ws.isEmpty = false := by
      cases ws with
      | nil =>
        simp at hw
        omega
      | cons _ _ => rfl
    rw [hne]
    refine iteT ⟨fun σ H' => ∃ (l : Addr) (z : Int) (ws : List V) (bs' : List AF.Box) (x y : Option V), σ = [some v, some (.int z), some (.ref l), x, y] ∧ Same H H' ∧ H' l = some (.lst ws) ∧ AF.BoxesAt H' ws bs' ∧
      (AF.Box.preL bs').length < (AF.Box.preL bs).length ∧ z + (AF.Box.depthL bs' : Int) = (b.depth : Int), ?_, ?_⟩
    · rintro σ' H' ⟨l', z', ws', bs', x', y', rfl, s', el', bw', hlt, hz'⟩
      exact ⟨_, hlt, l', z', ws', bs', x', y', rfl, s', el', bw', rfl, by omega, hz'⟩
    have hge := AF.Box.preL_ge bs
    -- layer = [each for each in layer if is_scroller(each)]
    refine ⟨.ref l, rfl, l, rfl, ⟨ws, .of el⟩, fun D nD => ?_⟩
    refine lc_list (xs := ws) (Pv := fun i H3 => ∃ us, Same H1 H3 ∧ H3 D = some (.lst us) ∧ AF.BoxesAt H3 us ((bs.take i).filter AF.Box.isS) ∧ us.length ≤ i) ?_ ?_ ?_ ?_
    · exact ⟨[], AF.same_new nD _, upd_same, .nil, Nat.le_refl _⟩
    · rintro i H3 _ ⟨us, s3, _⟩
      exact .of (s3 _ _ el)
    · rintro i u H3 hu ⟨us, s3, eD, bu, hul⟩
      obtain ⟨c, hc, bc⟩ := bw.get hu
      have hi := (List.getElem?_eq_some_iff.mp hc).1
      have bc3 := bc.s s3
      have et : (bs.take (i + 1)).filter AF.Box.isS = (bs.take i).filter AF.Box.isS ++ (if c.isS = true then [c] else []) := by
        rw [List.take_add_one, hc, List.filter_append]
        show _ ++ [c].filter AF.Box.isS = _
        by_cases e : c.isS = true
        · rw [if_pos e]
          simp [e]
        · rw [if_neg e]
          simp [e]
      refine ⟨rfl, u, rfl, u, c, rfl, bc3, c.isS, rfl, ite2 (fun e => ?_) (fun e => ?_)⟩
      · refine ⟨u, rfl, us, eD, small1000 (by omega), us ++ [u], AF.same_upd s3 nD _, upd_same, ?_, by rw [List.length_append]; exact Nat.succ_le_succ hul⟩
        rw [et, if_pos e]
        exact (bu.k (AF.keepT_upd eD _)).append (.one (bc3.k (AF.keepT_upd eD _)))
      · refine ⟨us, s3, eD, ?_, Nat.le_succ_of_le hul⟩
        rw [et, if_neg e, List.append_nil]
        exact bu
    rintro H2 ⟨us, s2, eD, bu, hul⟩
    rw [hw, List.take_length] at bu
    -- if layer: many += 1
    refine ⟨fun σ H3 => σ = [some v, some (.int (if (bs.filter AF.Box.isS).isEmpty then z else z + 1)), some (.ref D), x, y] ∧ H3 = H2, ?_, ?_⟩
    · refine ⟨.ref D, rfl, _, .inl ⟨us, .of eD, rfl⟩, ?_⟩
      have hl := bu.len
      cases hf : bs.filter AF.Box.isS with
      | nil =>
        rw [hf] at bu
        have e : us = [] := bu.nil_inv
        subst e
        exact iteF ⟨rfl, rfl⟩
      | cons c0 r0 =>
        rw [hf] at bu
        obtain ⟨u0, us0, rfl, _⟩ := bu.cons_inv
        exact iteT ⟨.int z, rfl, _, _, rfl, rfl, rfl, rfl⟩
    rintro σ H3 ⟨rfl, rfl⟩
    -- layer = [part for each in layer for part in parts_of(each)]
    refine ⟨.ref D, rfl, D, rfl, ⟨us, .of eD⟩, fun D2 nD2 => ?_⟩
    have hul2 := bu.len
    have hlay := AF.Box.preL_layer bs
    refine AF.lc_out (walk_list (K := K) (a := D) (xs := us)) (Pv := fun i H4 => ∃ ts, Same H3 H4 ∧ H4 D2 = some (.lst ts) ∧ AF.BoxesAt H4 ts (((bs.filter AF.Box.isS).take i).flatMap AF.Box.parts)) ?_ ?_ ?_ ?_
    · exact ⟨[], AF.same_new nD2 _, upd_same, .nil⟩
    · rintro i H4 _ ⟨ts, s4, _⟩
      exact .of (s4 _ _ eD)
    · rintro i u H4 H4' hi ⟨ts, s4, eD2, bt⟩ ⟨rfl, hu⟩
      obtain ⟨c, hc, bc⟩ := bu.get hu
      have et : ((bs.filter AF.Box.isS).take (i + 1)).flatMap AF.Box.parts = ((bs.filter AF.Box.isS).take i).flatMap AF.Box.parts ++ c.parts := by
        rw [List.take_add_one, hc, List.flatMap_append]
        show _ ++ [c].flatMap AF.Box.parts = _
        simp
      have hcnt : (((bs.filter AF.Box.isS).take i).flatMap AF.Box.parts).length + c.parts.length ≤ 1000 := by
        rw [← List.length_append, ← et]
        have h1 := AF.Box.preL_ge ((bs.filter AF.Box.isS).flatMap AF.Box.parts)
        have h2 : (((bs.filter AF.Box.isS).take (i + 1)).flatMap AF.Box.parts).length ≤ ((bs.filter AF.Box.isS).flatMap AF.Box.parts).length := by
          have h3 : (bs.filter AF.Box.isS).flatMap AF.Box.parts = ((bs.filter AF.Box.isS).take (i + 1)).flatMap AF.Box.parts ++ ((bs.filter AF.Box.isS).drop (i + 1)).flatMap AF.Box.parts := by
            rw [← List.flatMap_append, List.take_append_drop]
          rw [h3, List.length_append]
          omega
        omega
      refine ⟨rfl, ?_⟩
      refine ⟨u, rfl, u, c, rfl, bc.s s4, fun p ps H5 s5 ep bp => ?_⟩
      refine ⟨p, rfl, ⟨ps, .of ep⟩, ?_⟩
      have hps := bp.len
      have hts := bt.len
      refine AF.lc_in (walk_tup (K := K) (a := p) (xs := ps)) (Pv := fun j H6 => ∃ ts2, Same H3 H6 ∧ AF.KeepT H5 H6 ∧ H6 D2 = some (.lst ts2) ∧ AF.BoxesAt H6 ts2 (((bs.filter AF.Box.isS).take i).flatMap AF.Box.parts ++ c.parts.take j)) ?_ ?_ ?_ ?_
      · refine ⟨ts, s4.trans s5, .refl _, s5 _ _ eD2, ?_⟩
        rw [List.take_zero, List.append_nil]
        exact bt.s s5
      · rintro j H6 _ ⟨_, _, k6, _⟩
        exact .of (k6 _ _ ep)
      · rintro j g H6 H6' hj ⟨ts2, s6, k6, eD6, bt6⟩ ⟨rfl, hg⟩
        obtain ⟨d, hd, bd⟩ := bp.get hg
        have hl6 := bt6.len
        rw [List.length_append, List.length_take] at hl6
        refine ⟨rfl, g, rfl, ts2, eD6, small1000 (by omega), ts2 ++ [g], AF.same_upd s6 nD2 _, k6.trans (AF.keepT_upd eD6 _), upd_same, ?_⟩
        have e3 : c.parts.take (j + 1) = c.parts.take j ++ [d] := by
          rw [List.take_add_one, hd]
          rfl
        rw [e3, ← List.append_assoc]
        exact (bt6.k (AF.keepT_upd eD6 _)).append (.one ((bd.k k6).k (AF.keepT_upd eD6 _)))
      · rintro H6 ⟨ts2, s6, k6, eD6, bt6⟩
        rw [hps, List.take_length, ← et] at bt6
        exact ⟨ts2, s6, eD6, bt6⟩
    rintro H4 ⟨ts, s4, eD2, bt⟩
    rw [hul2, List.take_length] at bt
    refine ⟨D2, _, ts, _, x, y, rfl, (s1.trans s2).trans s4, eD2, bt, by omega, ?_⟩
    have hd := AF.Box.depthL_filter bs
    by_cases c : (bs.filter AF.Box.isS).isEmpty = true
    · rw [if_pos c] at hd
      have c2 : bs.filter AF.Box.isS = [] := List.isEmpty_iff.mp c
      rw [if_pos c, c2]
      simp [AF.Box.depthL]
      omega
    · rw [if_neg c] at hd
      rw [if_neg c]
      omega

end
end K01
namespace K01
open PySem PySem.Spec PyProof.Rows L2
section
variable {P : Program} {w : World} {K : PySem.W.Frag} {mg : Str → Option Value} {base : Heap}
def spIsDoc : Sp := fun vs H Q _ => ∃ (v : V) (b : AF.Box), vs = [v] ∧ AF.BoxAt H v b ∧ b.pre.length ≤ 1000 ∧ ∀ (k : Bool) (H' : Hp), Same H H' → (k = true ↔ AF.Box.IsDoc b) → Q (.bl k) H'
theorem ok_is_document (T : Tx K mg) : FnOk P w K mg base CX0 4 T.d_is_document.f T.d_is_document.fd ["box"] spIsDoc := by
  have G_all_boxes := ok_all_boxes (P := P) (w := w) (base := base) T
  have G_number_of := ok_number_of (P := P) (w := w) (base := base) T
  have G_height_of := ok_height_of (P := P) (w := w) (base := base) T
  have G_is_scroller := ok_is_scroller (P := P) (w := w) (base := base) T
  have G_is_number := ok_is_number (P := P) (w := w) (base := base) T
  have G_is_height := ok_is_height (P := P) (w := w) (base := base) T
  have G_scrollers_within := ok_scrollers_within (P := P) (w := w) (base := base) T
  refine T.d_is_document.F.ok sc_is_document (fun vs H Q E h => ?_) (fun cdv A outer s H vs Q E hr h => ?_)
  · obtain ⟨_, _, rfl, _⟩ := h
    rfl
  obtain ⟨v, b, rfl, hb, hlen, q⟩ := h
  refine ⟨_, (pss_cons (ps_set (i := 1) sc_is_document.nd rfl (Or.inl rfl) (AF.cal T.d_all_boxes G_all_boxes (hr.mono (by omega)) (pa_cons (pv 0) pa_nil)))
      (pss_cons (ps_setLc (i := 2) (own := [("each", 4)]) (g := gName 4) rfl sc_is_document.nd rfl rfl (sw_true rfl rfl rfl (by decide +kernel)) (AF.piL K rfl (pv 1)) (blkOk_by (own := [("each", 4)]) (N := ["box", "boxes", "numbers", "heights", "each", "number", "height"]) (sc := defScope s_is_document) (by decide +kernel)) (fun _ _ _ _ _ => (pg_name (i := 4) sc_is_document.nd rfl (Or.inl rfl))) (fun _ _ _ _ _ => pts_nil) (fun _ _ _ _ _ => (AF.cal T.d_number_of G_number_of (hr.mono (by omega)) (pa_cons (pv 4) pa_nil))))
      (pss_cons (ps_setLc (i := 3) (own := [("each", 4)]) (g := gName 4) rfl sc_is_document.nd rfl rfl (sw_true rfl rfl rfl (by decide +kernel)) (AF.piL K rfl (pv 1)) (blkOk_by (own := [("each", 4)]) (N := ["box", "boxes", "numbers", "heights", "each", "number", "height"]) (sc := defScope s_is_document) (by decide +kernel)) (fun _ _ _ _ _ => (pg_name (i := 4) sc_is_document.nd rfl (Or.inl rfl))) (fun _ _ _ _ _ => pts_nil) (fun _ _ _ _ _ => (AF.cal T.d_height_of G_height_of (hr.mono (by omega)) (pa_cons (pv 4) pa_nil))))
      (pss_one (ps_ret (pe_and (AF.cal T.d_is_scroller G_is_scroller (hr.mono (by omega)) (pa_cons (pv 0) pa_nil)) (pe_and (pe_callB (AF.allK K rfl rfl) (by rfl) T.z_all (by decide +kernel) (pa_cons (pe_lc (own := [("number", 5)]) (g := gName 5) rfl sc_is_document.nd (AF.piL K rfl (pv 2)) (blkOk_by (own := [("number", 5)]) (N := ["box", "boxes", "numbers", "heights", "each", "number", "height"]) (sc := defScope s_is_document) (by decide +kernel)) (fun _ _ _ _ _ => (pg_name (i := 5) sc_is_document.nd rfl (Or.inl rfl))) (fun _ _ _ _ _ => pts_nil) (fun _ _ _ _ _ => (AF.cal T.d_is_number G_is_number (hr.mono (by omega)) (pa_cons (pv 5) pa_nil)))) pa_nil)) (pe_and (pe_callB (AF.allK K rfl rfl) (by rfl) T.z_all (by decide +kernel) (pa_cons (pe_lc (own := [("height", 6)]) (g := gName 6) rfl sc_is_document.nd (AF.piL K rfl (pv 3)) (blkOk_by (own := [("height", 6)]) (N := ["box", "boxes", "numbers", "heights", "each", "number", "height"]) (sc := defScope s_is_document) (by decide +kernel)) (fun _ _ _ _ _ => (pg_name (i := 6) sc_is_document.nd rfl (Or.inl rfl))) (fun _ _ _ _ _ => pts_nil) (fun _ _ _ _ _ => (AF.cal T.d_is_height G_is_height (hr.mono (by omega)) (pa_cons (pv 6) pa_nil)))) pa_nil)) (pe_and (pe_cmpR op_le (pe_callB (AF.lenK K rfl) (by rfl) T.z_len (by decide +kernel) (pa_cons (pv 1) pa_nil)) (pe_glob (v := .int 40) rfl T.c_MOST_BOXES ⟨_, rfl⟩) (nomark _)) (pe_and (pe_cmpR op_eq (AF.pe_lenSetA K rfl (by rfl) T.z_len (by rfl) T.z_set (pv 2)) (pe_callB (AF.lenK K rfl) (by rfl) T.z_len (by decide +kernel) (pa_cons (pv 2) pa_nil)) (nomark _)) (pe_one (pe_cmpR op_le (AF.cal T.d_scrollers_within G_scrollers_within (hr.mono (by omega)) (pa_cons (pv 0) pa_nil)) (pe_glob (v := .int 4) rfl T.c_MOST_SCROLLERS_WITHIN ⟨_, rfl⟩) (nomark _))))))))))))), ?_⟩
  refine ⟨v, rfl, v, b, rfl, hb, hlen, fun l ws H1 s1 nl el bw => ?_⟩
  have hw := bw.len
  -- numbers
  refine ⟨.ref l, rfl, l, rfl, ⟨ws, .of el⟩, fun D nD => ?_⟩
  refine lc_list (xs := ws) (Pv := fun i H3 => Same H1 H3 ∧ H3 D = some (.lst (((b.pre.map AF.Box.num).take i).map V.int))) ?_ ?_ ?_ ?_
  · exact ⟨AF.same_new nD _, upd_same⟩
  · rintro i H3 _ ⟨s3, _⟩
    exact .of (s3 _ _ el)
  · rintro i y H3 hy ⟨s3, eD⟩
    obtain ⟨c, hc, by_⟩ := bw.get hy
    refine ⟨rfl, y, rfl, y, c, rfl, by_.s s3, _, eD, ?_, AF.same_upd s3 nD _, ?_⟩
    · rw [List.length_map, List.length_take, List.length_map]
      exact small1000 (by omega)
    · rw [upd_same, List.take_add_one, List.getElem?_map, hc, List.map_append]
      rfl
  rintro H2 ⟨s2, eN⟩
  rw [hw, ← List.length_map (f := AF.Box.num), List.take_length] at eN
  -- heights
  refine ⟨.ref l, rfl, l, rfl, ⟨ws, .of (s2 _ _ el)⟩, fun D2 nD2 => ?_⟩
  refine lc_list (xs := ws) (Pv := fun i H3 => Same H2 H3 ∧ H3 D2 = some (.lst (((b.pre.map AF.Box.ht).take i).map V.int))) ?_ ?_ ?_ ?_
  · exact ⟨AF.same_new nD2 _, upd_same⟩
  · rintro i H3 _ ⟨s3, _⟩
    exact .of (s3 _ _ (s2 _ _ el))
  · rintro i y H3 hy ⟨s3, eD⟩
    obtain ⟨c, hc, by_⟩ := bw.get hy
    refine ⟨rfl, y, rfl, y, c, rfl, by_.s (s2.trans s3), _, eD, ?_, AF.same_upd s3 nD2 _, ?_⟩
    · rw [List.length_map, List.length_take, List.length_map]
      exact small1000 (by omega)
    · rw [upd_same, List.take_add_one, List.getElem?_map, hc, List.map_append]
      rfl
  rintro H3 ⟨s3, eH⟩
  rw [hw, ← List.length_map (f := AF.Box.ht), List.take_length] at eH
  have el3 := s3 _ _ (s2 _ _ el)
  have eN3 := s3 _ _ eN
  have s13 := (s1.trans s2).trans s3
  -- is_scroller(box)
  refine ⟨v, rfl, v, b, rfl, hb.s s13, b.isS, rfl, ite2 (fun cS => ?_) (fun cS => ?_)⟩
  rotate_left
  · exact q false H3 s13 ⟨(fun z => nomatch z), fun z => absurd z.s cS⟩
  -- all([is_number(number) for number in numbers])
  refine ⟨.ref D, rfl, D, rfl, ⟨_, .of eN3⟩, fun D3 nD3 => ?_⟩
  refine lc_list (xs := (b.pre.map AF.Box.num).map V.int) (Pv := fun i H4 => ∃ bs : List Bool, Same H3 H4 ∧ H4 D3 = some (.lst (bs.map V.bl)) ∧ bs.length = i ∧ (bs.all id = true ↔ ∀ c ∈ b.pre.take i, 1 ≤ c.num ∧ c.num ≤ 999)) ?_ ?_ ?_ ?_
  · exact ⟨[], AF.same_new nD3 _, upd_same, rfl, by simp⟩
  · rintro i H4 _ ⟨_, s4, _⟩
    exact .of (s4 _ _ eN3)
  · rintro i y H4 hy ⟨bs, s4, eD4, hbl, hall⟩
    rw [List.getElem?_map, List.getElem?_map] at hy
    cases hc : b.pre[i]? with
    | none =>
      rw [hc] at hy
      cases hy
    | some c =>
      rw [hc] at hy
      have hy := Option.some.inj hy
      subst hy
      have hi := (List.getElem?_eq_some_iff.mp hc).1
      refine ⟨rfl, .int c.num, rfl, c.num, rfl, fun k hk => ⟨_, eD4, ?_, bs ++ [k], AF.same_upd s4 nD3 _, ?_, by rw [List.length_append, hbl]; rfl, ?_⟩⟩
      · rw [List.length_map, hbl]
        exact small1000 (by omega)
      · rw [upd_same, List.map_append]
        rfl
      · rw [List.all_append, Bool.and_eq_true, hall, List.take_add_one, hc]
        show _ ∧ ([k].all id) = true ↔ ∀ c' ∈ b.pre.take i ++ [c], _
        have e : [k].all id = k := by simp
        rw [e, hk]
        constructor
        · rintro ⟨h1, h2⟩ c' hc'
          rcases List.mem_append.mp hc' with h | h
          · exact h1 c' h
          · rw [List.mem_singleton.mp h]
            exact h2
        · intro h
          exact ⟨fun c' hc' => h c' (List.mem_append_left _ hc'), h c (List.mem_append_right _ (List.mem_singleton_self c))⟩
  rintro H4 ⟨bs, s4, eD4, hbl, hall⟩
  rw [List.length_map, List.length_map, List.take_length] at hall
  refine ⟨D3, bs, rfl, .of eD4, bs.all id, rfl, ite2 (fun cN => ?_) (fun cN => ?_)⟩
  rotate_left
  · exact q false H4 (s13.trans s4) ⟨(fun z => nomatch z), fun z => absurd (hall.mpr z.n) cN⟩
  have hN := hall.mp cN
  clear hall
  -- all([is_height(height) for height in heights])
  have eH4 := s4 _ _ eH
  refine ⟨.ref D2, rfl, D2, rfl, ⟨_, .of eH4⟩, fun D5 nD5 => ?_⟩
  refine lc_list (xs := (b.pre.map AF.Box.ht).map V.int) (Pv := fun i H5 => ∃ bs : List Bool, Same H4 H5 ∧ H5 D5 = some (.lst (bs.map V.bl)) ∧ bs.length = i ∧ (bs.all id = true ↔ ∀ c ∈ b.pre.take i, 0 ≤ c.ht ∧ c.ht ≤ 1000)) ?_ ?_ ?_ ?_
  · exact ⟨[], AF.same_new nD5 _, upd_same, rfl, by simp⟩
  · rintro i H5 _ ⟨_, s5, _⟩
    exact .of (s5 _ _ eH4)
  · rintro i y H5 hy ⟨bs, s5, eD5, hbl, hall⟩
    rw [List.getElem?_map, List.getElem?_map] at hy
    cases hc : b.pre[i]? with
    | none =>
      rw [hc] at hy
      cases hy
    | some c =>
      rw [hc] at hy
      have hy := Option.some.inj hy
      subst hy
      have hi := (List.getElem?_eq_some_iff.mp hc).1
      refine ⟨rfl, .int c.ht, rfl, c.ht, rfl, fun k hk => ⟨_, eD5, ?_, bs ++ [k], AF.same_upd s5 nD5 _, ?_, by rw [List.length_append, hbl]; rfl, ?_⟩⟩
      · rw [List.length_map, hbl]
        exact small1000 (by omega)
      · rw [upd_same, List.map_append]
        rfl
      · rw [List.all_append, Bool.and_eq_true, hall, List.take_add_one, hc]
        show _ ∧ ([k].all id) = true ↔ ∀ c' ∈ b.pre.take i ++ [c], _
        have e : [k].all id = k := by simp
        rw [e, hk]
        constructor
        · rintro ⟨h1, h2⟩ c' hc'
          rcases List.mem_append.mp hc' with h | h
          · exact h1 c' h
          · rw [List.mem_singleton.mp h]
            exact h2
        · intro h
          exact ⟨fun c' hc' => h c' (List.mem_append_left _ hc'), h c (List.mem_append_right _ (List.mem_singleton_self c))⟩
  rintro H5 ⟨bs2, s5, eD5, hbl2, hall⟩
  rw [List.length_map, List.length_map, List.take_length] at hall
  have s15 := (s13.trans s4).trans s5
  refine ⟨D5, bs2, rfl, .of eD5, bs2.all id, rfl, ite2 (fun cH => ?_) (fun cH => ?_)⟩
  rotate_left
  · exact q false H5 s15 ⟨(fun z => nomatch z), fun z => absurd (hall.mpr z.h) cH⟩
  have hH := hall.mp cH
  -- len(boxes) <= 40
  have el5 := s5 _ _ (s4 _ _ el3)
  have eN5 := s5 _ _ (s4 _ _ eN3)
  refine ⟨.ref l, rfl, l, ws, rfl, .inl (.of el5), _, _, rfl, rfl, _, rfl, ite2 (fun cL => ?_) (fun cL => ?_)⟩
  rotate_left
  · refine q false H5 s15 ⟨(fun z => nomatch z), fun z => absurd (decide_eq_true ?_) cL⟩
    have := z.l
    omega
  have hL : ((ws.length : Nat) : Int) ≤ 40 := of_decide_eq_true cL
  -- len(set(numbers)) == len(numbers)
  refine ⟨.ref D, rfl, D, _, rfl, .of eN5, by rw [List.length_map]; omega, fun n hn => ?_⟩
  refine ⟨.ref D, rfl, D, _, rfl, .inl (.of eN5), rfl, _, rfl, ite2 (fun cU => ?_) (fun cU => ?_)⟩
  rotate_left
  · refine q false H5 s15 ⟨(fun z => nomatch z), fun z => absurd (decide_eq_true (congrArg V.int ?_)) cU⟩
    have := hn.mpr z.u
    rw [this, List.length_map, List.length_map, List.length_map]
  have hU : (b.pre.map AF.Box.num).Nodup := by
    have e := V.int.inj (of_decide_eq_true cU)
    rw [List.length_map] at e
    exact hn.mp (by omega)
  -- scrollers_within(box) <= 4
  refine ⟨v, rfl, v, b, rfl, hb.s s15, hlen, fun H6 s6 => ⟨_, _, rfl, rfl, ?_⟩⟩
  refine q _ H6 (s15.trans s6) ⟨fun z => ⟨cS, hN, hH, by omega, hU, ?_⟩, fun z => decide_eq_true ?_⟩
  · have := of_decide_eq_true z
    omega
  · have := z.d
    omega

end
end K01
namespace K01
open PySem PySem.Spec PyProof.Rows L2
section
variable {P : Program} {w : World} {K : PySem.W.Frag} {mg : Str → Option Value} {base : Heap}
/-! ### the law's draws -/
def spDraw (K : PySem.W.Frag) : Sp := fun vs H Q _ => ∃ (a : Addr) (ns : List Int), vs = [.ref a] ∧ SqL K H a (ns.map V.int) ∧ ∀ (d l : Addr) (H' : Hp), Same H H' → H d = none → H l = none → AF.DrawAt H' d l → Q (.ref d) H'
theorem ok_law_draw (T : Tx K mg) : FnOk P w K mg base CX0 1 T.d_law_draw.f T.d_law_draw.fd ["script"] (spDraw K) := by
  refine T.d_law_draw.F.ok sc_law_draw (fun vs H Q E h => ?_) (fun cdv A outer s H vs Q E hr h => ?_)
  · obtain ⟨a, ns, rfl, _⟩ := h
    rfl
  obtain ⟨a, ns, rfl, hS, q⟩ := h
  refine ⟨_, (pss_one (ps_ret (pe_lst (pa_cons (pe_callTy (AF.listK K rfl) (by rfl) T.z_list (by decide +kernel) (pa_cons (pv 0) pa_nil)) (pa_cons pe_int (pa_cons pe_int (pa_cons pe_int pa_nil))))))), ?_⟩
  refine ⟨.ref a, rfl, a, _, rfl, .inl hS, fun l nl => ⟨(by show 4 ≤ sizeLine; decide), fun d nd => ?_⟩⟩
  have s1 : Same H (upd H l (.lst (ns.map V.int))) := AF.same_new nl _
  have nld : l ≠ d := fun e => by rw [← e, upd_same] at nd; cases nd
  refine q d l _ (s1.trans (AF.same_new nd _)) (Same.free s1 nd) nl ⟨ns, 0, 0, 17, upd_same, ?_, Int.le_refl 0, nld⟩
  rw [upd_ne nld]
  exact upd_same
def spNext : Sp := fun vs H Q _ => ∃ (d l : Addr) (m : Int), vs = [.ref d, .int m] ∧ AF.DrawAt H d l ∧ 0 < m ∧ m < 1073741824 ∧
  ∀ (x : Int) (H' : Hp), 0 ≤ x → x < m → AF.DrawAt H' d l → AF.But [d] H H' → AF.KeepT H H' → Q (.int x) H'
theorem ok_law_next (T : Tx K mg) : FnOk P w K mg base CX0 1 T.d_law_next.f T.d_law_next.fd ["draw", "many"] spNext := by
  refine T.d_law_next.F.ok sc_law_next (fun vs H Q E h => ?_) (fun cdv A outer s H vs Q E hr h => ?_)
  · obtain ⟨d, l, m, rfl, _⟩ := h
    rfl
  obtain ⟨d, l, m, rfl, hD, hm, hm2, q⟩ := h
  obtain ⟨ns, i, r, z, hd, hl, hi, nld⟩ := hD
  refine ⟨_, (pss_cons (ps_if (pt_cmpR op_gt (pe_ix (AF.ixL K rfl) (pv 0) pe_int (fun _ _ => rfl)) pe_int (nomark _))
      (pss_cons (ps_set (i := 2) sc_law_next.nd rfl (Or.inl rfl) (pe_op op_mod (pe_callTy call_int1 (by rfl) T.z_int (by decide +kernel) (pa_cons (pe_ix (AF.ixL K rfl) (pv 0) pe_int (fun _ _ => rfl)) pa_nil)) (pv 1)))
      (pss_cons (ps_asg (pe_op op_fdiv (pe_ix (AF.ixL K rfl) (pv 0) pe_int (fun _ _ => rfl)) (pv 1)) (pg_sub (pv 0) pe_int set_list))
      (pss_one (ps_ret (pv 2)))))
      pss_nil)
      (pss_cons (ps_if (pt_cmpR op_lt (pe_ix (AF.ixL K rfl) (pv 0) pe_int (fun _ _ => rfl)) (pe_callB (AF.lenK K rfl) (by rfl) T.z_len (by decide +kernel) (pa_cons (pe_ix (AF.ixL K rfl) (pv 0) pe_int (fun _ _ => rfl)) pa_nil)) (nomark _))
      (pss_cons (ps_set (i := 3) sc_law_next.nd rfl (Or.inl rfl) (pe_callB call_abs (by rfl) T.z_abs (by decide +kernel) (pa_cons (pe_ix (AF.ixL K rfl) (pe_ix (AF.ixL K rfl) (pv 0) pe_int (fun _ _ => rfl)) (pe_ix (AF.ixL K rfl) (pv 0) pe_int (fun _ _ => rfl)) (fun _ _ => rfl)) pa_nil)))
      (pss_cons (ps_asg (pe_op op_add (pe_ix (AF.ixL K rfl) (pv 0) pe_int (fun _ _ => rfl)) pe_int) (pg_sub (pv 0) pe_int set_list))
      (pss_cons (ps_if (pt_cmpR op_ge (pv 3) (pe_op op_pow pe_int pe_int) (nomark _))
      (pss_cons (ps_asg (pe_op op_fdiv (pv 3) (pv 1)) (pg_sub (pv 0) pe_int set_list))
      (pss_one (ps_ret (pe_op op_mod (pe_callTy call_int1 (by rfl) T.z_int (by decide +kernel) (pa_cons (pv 3) pa_nil)) (pv 1)))))
      pss_nil)
      (pss_one (ps_asg (pe_op op_mod (pe_callTy call_int1 (by rfl) T.z_int (by decide +kernel) (pa_cons (pe_op op_add (pe_op op_add (pe_op op_mul (pe_ix (AF.ixL K rfl) (pv 0) pe_int (fun _ _ => rfl)) pe_int) (pv 3)) pe_int) pa_nil)) pe_int) (pg_sub (pv 0) pe_int set_list))))))
      (pss_one (ps_asg (pe_op op_mod (pe_callTy call_int1 (by rfl) T.z_int (by decide +kernel) (pa_cons (pe_op op_add (pe_op op_mul (pe_ix (AF.ixL K rfl) (pv 0) pe_int (fun _ _ => rfl)) pe_int) pe_int) pa_nil)) pe_int) (pg_sub (pv 0) pe_int set_list))))
      (pss_one (ps_ret (pe_op op_mod (pe_op op_fdiv (pe_callTy call_int1 (by rfl) T.z_int (by decide +kernel) (pa_cons (pe_op op_mod (pe_op op_mul (pe_ix (AF.ixL K rfl) (pv 0) pe_int (fun _ _ => rfl)) pe_int) pe_int) pa_nil)) pe_int) (pv 1)))))), ?_⟩
  have hdl : ∀ o, (upd H d o) l = some (.lst (ns.map V.int)) := fun o => by
    rw [upd_ne nld]
    exact hl
  refine ⟨.ref d, rfl, d, _, _, _, rfl, rfl, .of hd, rfl, _, _, rfl, rfl, _, rfl, ite2 (fun c => ?_) (fun c => ?_)⟩
  · refine ⟨.ref d, rfl, d, _, _, _, rfl, rfl, .of hd, rfl, .inl ⟨r, rfl, _, rfl, _, _, rfl, rfl, hm, ?_⟩⟩
    refine ⟨.ref d, rfl, d, _, _, _, rfl, rfl, .of hd, rfl, _, rfl, _, _, rfl, rfl, ⟨hm, hm2⟩, .ref d, rfl, d, _, _, _, rfl, rfl, hd, rfl, ?_⟩
    refine ⟨_, rfl, ?_⟩
    exact q _ _ (AF.fmod_lo hm) (AF.fmod_hi hm) ⟨ns, i, r / m, z, upd_same, hdl _, hi, nld⟩ (AF.but_upd _) (AF.keepT_upd hd _)
  · -- the end, the same on every way
    have fin : ∀ (i' r' z' : Int) (H1 : Hp), H1 = upd H d (.lst [.ref l, .int i', .int r', .int z']) → 0 ≤ i' → Q (.int (z' * 69621 % 2147483629 / 7 % m)) H1 := by
      rintro i' r' z' H1 rfl h0
      exact q _ _ (AF.fmod_lo hm) (AF.fmod_hi hm) ⟨ns, i', r', z', upd_same, hdl _, h0, nld⟩ (AF.but_upd _) (AF.keepT_upd hd _)
    refine ⟨.ref d, rfl, d, _, _, _, rfl, rfl, .of hd, rfl, .ref d, rfl, d, _, _, _, rfl, rfl, .of hd, rfl, l, _, rfl, .inl (.of hl), _, _, rfl, rfl, _, rfl, ite2 (fun c2 => ?_) (fun c2 => ?_)⟩
    · have hlt : i.toNat < ns.length := by
        have h1 : i < (((ns.map V.int).length : Nat) : Int) := of_decide_eq_true c2
        rw [List.length_map] at h1
        omega
      have ei : i = ((i.toNat : Nat) : Int) := by omega
      have ea : atI (ns.map V.int) i = some (V.int ns[i.toNat]) := by
        have : atI (ns.map V.int) ((i.toNat : Nat) : Int) = some (V.int ns[i.toNat]) := atI_nat (by rw [List.getElem?_map, List.getElem?_eq_getElem hlt]; rfl)
        rw [← ei] at this
        exact this
      refine ⟨.ref d, rfl, d, _, _, _, rfl, rfl, .of hd, rfl, .ref d, rfl, d, _, _, _, rfl, rfl, .of hd, rfl, l, _, _, _, rfl, rfl, .of hl, ea, _, rfl, ?_⟩
      -- draw[1] = draw[1] + 1
      refine ⟨.ref d, rfl, d, _, _, _, rfl, rfl, .of hd, rfl, _, _, rfl, rfl, .ref d, rfl, d, _, _, _, rfl, rfl, hd, rfl, ?_⟩
      have hd1 : (upd H d (.lst [.ref l, .int (i + 1), .int r, .int z])) d = some (.lst [.ref l, .int (i + 1), .int r, .int z]) := upd_same
      refine ⟨_, rfl, _, _, rfl, rfl, ⟨by decide, by decide, by decide⟩, _, _, rfl, rfl, _, rfl, ite2 (fun c3 => ?_) (fun c3 => ?_)⟩
      · refine ⟨_, rfl, _, rfl, _, _, rfl, rfl, ⟨hm, hm2⟩, .ref d, rfl, d, _, _, _, rfl, rfl, hd1, rfl, ?_⟩
        refine ⟨_, rfl, .inl ⟨_, rfl, _, rfl, _, _, rfl, rfl, hm, ?_⟩⟩
        rw [upd_upd]
        exact q _ _ (AF.fmod_lo hm) (AF.fmod_hi hm) ⟨ns, i + 1, _, z, upd_same, hdl _, by omega, nld⟩ (AF.but_upd _) (AF.keepT_upd hd _)
      · refine ⟨.ref d, rfl, d, _, _, _, rfl, rfl, .of hd1, rfl, _, _, rfl, rfl, .inr ⟨by decide, by decide⟩, _, rfl, _, _, rfl, rfl, _, _, rfl, rfl, .inl ⟨_, rfl, _, _, rfl, rfl, (by show (0 : Int) < 2147483647; decide), .ref d, rfl, d, _, _, _, rfl, rfl, hd1, rfl, ?_⟩⟩
        refine ⟨.ref d, rfl, d, _, _, _, rfl, rfl, .of upd_same, rfl, _, _, rfl, rfl, .inr ⟨by decide, by decide⟩, _, _, rfl, rfl, (by show (0 : Int) < 2147483629; decide), .inl ⟨_, rfl, _, _, rfl, rfl, ⟨by decide, by decide⟩, _, rfl, _, _, rfl, rfl, hm, ?_⟩⟩
        exact fin (i + 1) r _ _ upd_upd (by omega)
    · refine ⟨.ref d, rfl, d, _, _, _, rfl, rfl, .of hd, rfl, _, _, rfl, rfl, .inr ⟨by decide, by decide⟩, _, _, rfl, rfl, .inl ⟨_, rfl, _, _, rfl, rfl, (by show (0 : Int) < 2147483647; decide), .ref d, rfl, d, _, _, _, rfl, rfl, hd, rfl, ?_⟩⟩
      refine ⟨.ref d, rfl, d, _, _, _, rfl, rfl, .of upd_same, rfl, _, _, rfl, rfl, .inr ⟨by decide, by decide⟩, _, _, rfl, rfl, (by show (0 : Int) < 2147483629; decide), .inl ⟨_, rfl, _, _, rfl, rfl, ⟨by decide, by decide⟩, _, rfl, _, _, rfl, rfl, hm, ?_⟩⟩
      exact fin i r _ _ rfl hi

end
end K01
namespace K01
open PySem PySem.Spec PyProof.Rows L2
section
variable {P : Program} {w : World} {K : PySem.W.Frag} {mg : Str → Option Value} {base : Heap}
/-! ### the law's comparison, of data that is the same -/
def spSame (K : PySem.W.Frag) (n : Nat) : Sp := fun vs H Q _ => ∃ (x y : V) (d : PyData), vs = [x, y] ∧ Dp K H x d ∧ Dp K H y d ∧ AF.dd d < n ∧ AF.wd d ≤ 1000 ∧ ∀ H' : Hp, Same H H' → Q (.bl true) H'
theorem ok_same_step (T : Tx K mg) {n : Nat} (G_law_same : FnOk P w K mg base CX0 n T.d_law_same.f T.d_law_same.fd ["actual", "due"] (spSame K n)) :
    FnOk P w K mg base CX0 (n + 1) T.d_law_same.f T.d_law_same.fd ["actual", "due"] (spSame K (n + 1)) := by
  refine T.d_law_same.F.ok sc_law_same (fun vs H Q E h => ?_) (fun cdv A outer s H vs Q E hr h => ?_)
  · obtain ⟨x, y, d, rfl, _⟩ := h
    rfl
  obtain ⟨x, y, d, rfl, hx, hy, hd, hw, q⟩ := h
  have nd := AF.Dp.nodict hx
  refine ⟨_, (pss_cons (ps_if (pt_val (pe_callB (AF.isiTK K rfl) (by rfl) T.z_isinstance (by decide +kernel) (pa_cons (pv 1) (pa_cons (pe_tup (pa_cons (pe_bltn (v := .ty "list") (by rfl) T.z_list (by decide +kernel) rfl) (pa_cons (pe_bltn (v := .ty "tuple") (by rfl) T.z_tuple (by decide +kernel) rfl) pa_nil))) pa_nil))))
      (pss_cons (ps_if (PW.pt (pw_or (pt_cmpR op_ne (pe_callB (AF.isiK K rfl) (by rfl) T.z_isinstance (by decide +kernel) (pa_cons (pv 1) (pa_cons (pe_bltn (v := .ty "list") (by rfl) T.z_list (by decide +kernel) rfl) pa_nil))) (pe_callB (AF.isiK K rfl) (by rfl) T.z_isinstance (by decide +kernel) (pa_cons (pv 0) (pa_cons (pe_bltn (v := .ty "list") (by rfl) T.z_list (by decide +kernel) rfl) pa_nil))) (nomark _)) (pw_or1 (pt_cmpR op_ne (pe_callB (AF.isiK K rfl) (by rfl) T.z_isinstance (by decide +kernel) (pa_cons (pv 1) (pa_cons (pe_bltn (v := .ty "tuple") (by rfl) T.z_tuple (by decide +kernel) rfl) pa_nil))) (pe_callB (AF.isiK K rfl) (by rfl) T.z_isinstance (by decide +kernel) (pa_cons (pv 0) (pa_cons (pe_bltn (v := .ty "tuple") (by rfl) T.z_tuple (by decide +kernel) rfl) pa_nil))) (nomark _)))))
      (pss_one (ps_ret pe_bl))
      pss_nil)
      (pss_cons (ps_if (pt_cmpR op_ne (pe_callB (AF.lenK K rfl) (by rfl) T.z_len (by decide +kernel) (pa_cons (pv 0) pa_nil)) (pe_callB (AF.lenK K rfl) (by rfl) T.z_len (by decide +kernel) (pa_cons (pv 1) pa_nil)) (nomark _))
      (pss_one (ps_ret pe_bl))
      pss_nil)
      (pss_one (ps_ret (pe_callB (AF.allK K rfl rfl) (by rfl) T.z_all (by decide +kernel) (pa_cons (pe_lc (own := [("k", 2)]) (g := gName 2) rfl sc_law_same.nd (pi_range1 (by rfl) T.z_range (pa_cons (pe_callB (AF.lenK K rfl) (by rfl) T.z_len (by decide +kernel) (pa_cons (pv 1) pa_nil)) pa_nil)) (blkOk_by (own := [("k", 2)]) (N := ["actual", "due", "k"]) (sc := defScope s_law_same) (by decide +kernel)) (fun _ _ _ _ _ => (pg_name (i := 2) sc_law_same.nd rfl (Or.inl rfl))) (fun _ _ _ _ _ => pts_nil) (fun _ _ _ _ _ => (AF.cal T.d_law_same G_law_same (hr.mono (by omega)) (pa_cons (pe_ix (AF.ixLT K rfl) (pv 0) (pv 2) (fun _ _ => rfl)) (pa_cons (pe_ix (AF.ixLT K rfl) (pv 1) (pv 2) (fun _ _ => rfl)) pa_nil))))) pa_nil))))))
      pss_nil)
      (pss_cons (ps_if (pt_cmpR op_isN (pv 1) pe_non (nomark _))
      (pss_one (ps_ret (pe_cmpR op_isN (pv 0) pe_non (nomark _))))
      pss_nil)
      (pss_cons (ps_if (pt_cmpR op_ne (pe_callB (AF.isiK K rfl) (by rfl) T.z_isinstance (by decide +kernel) (pa_cons (pv 1) (pa_cons (pe_bltn (v := .ty "bool") (by rfl) T.z_bool (by decide +kernel) rfl) pa_nil))) (pe_callB (AF.isiK K rfl) (by rfl) T.z_isinstance (by decide +kernel) (pa_cons (pv 0) (pa_cons (pe_bltn (v := .ty "bool") (by rfl) T.z_bool (by decide +kernel) rfl) pa_nil))) (nomark _))
      (pss_one (ps_ret pe_bl))
      pss_nil)
      (pss_cons (ps_if (pt_val (pe_callB (AF.isiK K rfl) (by rfl) T.z_isinstance (by decide +kernel) (pa_cons (pv 1) (pa_cons (pe_bltn (v := .ty "str") (by rfl) T.z_str (by decide +kernel) rfl) pa_nil))))
      (pss_one (ps_ret (pe_and (pe_callB (AF.isiK K rfl) (by rfl) T.z_isinstance (by decide +kernel) (pa_cons (pv 0) (pa_cons (pe_bltn (v := .ty "str") (by rfl) T.z_str (by decide +kernel) rfl) pa_nil))) (pe_one (pe_cmpR op_eq (pv 0) (pv 1) (nomark _))))))
      pss_nil)
      (pss_one (ps_ret (pe_and (pe_callB (AF.isiK K rfl) (by rfl) T.z_isinstance (by decide +kernel) (pa_cons (pv 0) (pa_cons (pe_bltn (v := .ty "int") (by rfl) T.z_int (by decide +kernel) rfl) pa_nil))) (pe_one (pe_cmpR op_eq (pv 0) (pv 1) (nomark _)))))))))), ?_⟩
  refine ⟨y, rfl, (by show 2 ≤ sizeLine; decide), fun t nt => ?_⟩
  have s0 : Same H (upd H t (.tup [.ty "list", .ty "tuple"])) := AF.same_new nt _
  have hx0 := AF.Dp.s hx s0
  have hy0 := AF.Dp.s hy s0
  refine ⟨y, t, _, _, _, _, rfl, upd_same, AF.cls2, (AF.Dp.ty hy0), AF.kit_seq nd, _, rfl, ?_⟩
  by_cases hs : (AF.isLi d || AF.isTu d) = true
  · refine AF.iteP hs ?_
    refine ⟨y, rfl, y, _, _, _, _, rfl, .ty _, (AF.Dp.ty hy0), AF.kit_li nd, x, rfl, x, _, _, _, _, rfl, .ty _, (AF.Dp.ty hx0), AF.kit_li nd, rfl, _, rfl, iteNS rfl ?_⟩
    refine ⟨y, rfl, y, _, _, _, _, rfl, .ty _, (AF.Dp.ty hy0), AF.kit_tu nd, x, rfl, x, _, _, _, _, rfl, .ty _, (AF.Dp.ty hx0), AF.kit_tu nd, rfl, _, rfl, iteNS rfl ?_⟩
    obtain ⟨a, b, xs, ys, ds, rfl, rfl, hds, h1, h2, hxs, hys⟩ : ∃ (a b : Addr) (xs ys : List V) (ds : List PyData), x = .ref a ∧ y = .ref b ∧ (d = .list ds ∨ d = .tuple ds) ∧
        (SqL K (upd H t (.tup [.ty "list", .ty "tuple"])) a xs ∨ SqT K (upd H t (.tup [.ty "list", .ty "tuple"])) a xs) ∧ (SqL K (upd H t (.tup [.ty "list", .ty "tuple"])) b ys ∨ SqT K (upd H t (.tup [.ty "list", .ty "tuple"])) b ys) ∧
        DpAll K (upd H t (.tup [.ty "list", .ty "tuple"])) xs ds ∧ DpAll K (upd H t (.tup [.ty "list", .ty "tuple"])) ys ds := by
      cases d with
      | list ds =>
        cases hx0 with
        | lst a1 a2 =>
          cases hy0 with
          | lst b1 b2 => exact ⟨_, _, _, _, ds, rfl, rfl, .inl rfl, .inl a1, .inl b1, a2, b2⟩
      | tuple ds =>
        cases hx0 with
        | tup a1 a2 =>
          cases hy0 with
          | tup b1 b2 => exact ⟨_, _, _, _, ds, rfl, rfl, .inr rfl, .inr a1, .inr b1, a2, b2⟩
      | none => cases hs
      | bool _ => cases hs
      | int _ => cases hs
      | str _ => cases hs
      | dict _ => cases hs
    have lx := AF.DpAll.len hxs
    have ly := AF.DpAll.len hys
    have hdl : AF.ddL ds < n ∧ ds.length ≤ 1000 ∧ AF.wdL ds ≤ 1000 := by
      rcases hds with rfl | rfl
      · simp only [AF.dd, AF.wd] at hd hw
        omega
      · simp only [AF.dd, AF.wd] at hd hw
        omega
    have ll : ((xs.length : Nat) : Int) = ((ys.length : Nat) : Int) := by omega
    refine ⟨.ref a, rfl, a, xs, rfl, h1, .ref b, rfl, b, ys, rfl, h2, rfl, _, rfl, iteNS (congrArg V.int ll) ?_⟩
    refine ⟨.ref b, rfl, b, ys, rfl, h2, ((ys.length : Nat) : Int), rfl, by omega, by omega, fun D nD => ?_⟩
    have nHD : H D = none := Same.free s0 nD
    refine lc_range (lo := 0) (n := ys.length) (Pv := fun i H3 => Same (upd H t (.tup [.ty "list", .ty "tuple"])) H3 ∧ H3 D = some (.lst ((List.replicate i true).map V.bl))) ?_ ?_ ?_
    · exact ⟨AF.same_new nD _, upd_same⟩
    · rintro i H3 hi ⟨sm, eD⟩
      have hi2 : i < ds.length := by omega
      have hc : ds[i]? = some ds[i] := List.getElem?_eq_getElem hi2
      obtain ⟨v, hv, dv⟩ := AF.DpAll.get hxs hc
      obtain ⟨u, hu, du⟩ := AF.DpAll.get hys hc
      have hm : ds[i] ∈ ds := List.getElem_mem hi2
      have hm1 := AF.ddL_mem hm
      have hm2 := AF.wdL_mem hm
      have i1 : rIxL K (.ref a) (.int (0 + (i : Int))) H3 (fun z H' => z = v ∧ H' = H3) ∨ rIxT K (.ref a) (.int (0 + (i : Int))) H3 (fun z H' => z = v ∧ H' = H3) := by
        rcases h1 with h1 | h1
        · exact .inl ⟨a, xs, _, v, rfl, rfl, Same.seq sm h1, at_of (Int.zero_add _) hv, rfl, rfl⟩
        · exact .inr ⟨a, xs, _, v, rfl, rfl, AF.Same.seqT sm h1, at_of (Int.zero_add _) hv, rfl, rfl⟩
      refine ⟨rfl, .ref a, rfl, .int (0 + (i : Int)), rfl, ?_⟩
      have fin : ∀ H' : Hp, Same H3 H' → ∃ acc, H' D = some (.lst acc) ∧ acc.length < sizeLine ∧ Same (upd H t (.tup [.ty "list", .ty "tuple"])) (upd H' D (.lst (acc ++ [.bl true]))) ∧
          (upd H' D (.lst (acc ++ [.bl true]))) D = some (.lst ((List.replicate (i + 1) true).map V.bl)) := fun H' s' => by
        refine ⟨_, s' _ _ eD, ?_, AF.same_upd (sm.trans s') nD _, ?_⟩
        · rw [List.length_map, List.length_replicate]
          exact Nat.lt_of_le_of_lt (by omega) AF.sl1000
        · rw [upd_same, List.replicate_succ', List.map_append]
          rfl
      have go : spSame K n [v, u] H3 (fun y H4 => ∃ acc, H4 D = some (.lst acc) ∧ acc.length < sizeLine ∧ Same (upd H t (.tup [.ty "list", .ty "tuple"])) (upd H4 D (.lst (acc ++ [y]))) ∧
          (upd H4 D (.lst (acc ++ [y]))) D = some (.lst ((List.replicate (i + 1) true).map V.bl))) E0 :=
        ⟨v, u, ds[i], rfl, AF.Dp.s dv sm, AF.Dp.s du sm, by omega, by omega, fin⟩
      have i2 : ∀ R : V → Hp → Prop, R u H3 → (rIxL K (.ref b) (.int (0 + (i : Int))) H3 R ∨ rIxT K (.ref b) (.int (0 + (i : Int))) H3 R) := fun R hR => by
        rcases h2 with h2 | h2
        · exact .inl ⟨b, ys, _, u, rfl, rfl, Same.seq sm h2, at_of (Int.zero_add _) hu, hR⟩
        · exact .inr ⟨b, ys, _, u, rfl, rfl, AF.Same.seqT sm h2, at_of (Int.zero_add _) hu, hR⟩
      rcases h1 with h1 | h1
      · exact .inl ⟨a, xs, _, v, rfl, rfl, Same.seq sm h1, at_of (Int.zero_add _) hv, .ref b, rfl, .int (0 + (i : Int)), rfl, i2 _ go⟩
      · exact .inr ⟨a, xs, _, v, rfl, rfl, AF.Same.seqT sm h1, at_of (Int.zero_add _) hv, .ref b, rfl, .int (0 + (i : Int)), rfl, i2 _ go⟩
    · rintro H3 ⟨sm, eD⟩
      refine ⟨D, _, rfl, .of eD, ?_⟩
      have e : (List.replicate ys.length true).all id = true := by simp
      rw [e]
      exact q H3 (s0.trans sm)
  · refine AF.iteN hs ?_
    -- no seq
    have tail : (∀ z : V, y = z → x = z) := fun z e => by
      subst e
      cases d <;> first | (cases hx; done) | (cases hx; cases hy; rfl) | exact absurd rfl hs
    have exy : x = y := tail y rfl
    subst exy
    refine ⟨x, rfl, rfl, _, rfl, ite2 (fun c => ?_) (fun c => ?_)⟩
    · have e : x = .non := of_decide_eq_true c
      subst e
      exact ⟨.non, rfl, rfl, q _ s0⟩
    · refine ⟨x, rfl, x, _, _, _, _, rfl, .ty _, (AF.Dp.ty hx0), AF.kit_bo nd, x, rfl, x, _, _, _, _, rfl, .ty _, (AF.Dp.ty hx0), AF.kit_bo nd, rfl, _, rfl, iteNS rfl ?_⟩
      refine ⟨x, rfl, x, _, _, _, _, rfl, .ty _, (AF.Dp.ty hx0), AF.kit_st nd, _, rfl, ?_⟩
      have fin : scal x x = true → scal x x = true ∧ Q (.bl (decide (x = x))) (upd H t (.tup [.ty "list", .ty "tuple"])) := fun z => ⟨z, by
        rw [decide_eq_true rfl]
        exact q _ s0⟩
      by_cases hst : AF.isSt d = true
      · refine AF.iteP hst ?_
        refine ⟨x, rfl, x, _, _, _, _, rfl, .ty _, (AF.Dp.ty hx0), AF.kit_st nd, _, rfl, ?_⟩
        refine AF.iteP hst ?_
        refine ⟨x, rfl, x, rfl, fin ?_⟩
        cases d <;> first | (cases hx; rfl) | cases hst
      · refine AF.iteN hst ?_
        have hin : AF.isIn d = true := by
          cases d with
          | int _ => rfl
          | bool _ => rfl
          | none =>
            cases hx
            exact absurd (decide_eq_true rfl) c
          | str _ => exact absurd rfl hst
          | list _ => exact absurd rfl hs
          | tuple _ => exact absurd rfl hs
          | dict _ => cases hx
        refine ⟨x, rfl, x, _, _, _, _, rfl, .ty _, (AF.Dp.ty hx0), AF.kit_in nd, _, rfl, ?_⟩
        refine AF.iteP hin ?_
        refine ⟨x, rfl, x, rfl, fin ?_⟩
        cases d <;> first | (cases hx; rfl) | cases hin
theorem ok_same0 (T : Tx K mg) : FnOk P w K mg base CX0 0 T.d_law_same.f T.d_law_same.fd ["actual", "due"] (spSame K 0) := by
  have no : ∀ vs H Q E, ¬ spSame K 0 vs H Q E := fun vs H Q E h => by
    obtain ⟨x, y, d, _, _, _, h, _⟩ := h
    omega
  exact ⟨fun vs H Q E h => absurd h (no vs H Q E), fun A outer s H args us vs Q E _ _ _ _ h => absurd h (no vs H Q E)⟩
theorem ok_law_same (T : Tx K mg) : ∀ n : Nat, FnOk P w K mg base CX0 n T.d_law_same.f T.d_law_same.fd ["actual", "due"] (spSame K n)
  | 0 => ok_same0 T
  | n + 1 => ok_same_step T (ok_law_same T n)

end
end K01
namespace K01
open PySem PySem.Spec PyProof.Rows L2
section
variable {P : Program} {w : World} {K : PySem.W.Frag} {mg : Str → Option Value} {base : Heap}
/-! ### the law's documents -/
def spBox (n : Nat) : Sp := fun vs H Q _ => ∃ (d e l : Addr) (lo : Int) (m : Nat), vs = [.ref d, .ref e, .int (m : Int)] ∧ m < n ∧ AF.DrawAt H d l ∧ H e = some (.lst [.int lo]) ∧ e ≠ d ∧ e ≠ l ∧
  ∀ (v : V) (b : AF.Box) (hi : Int) (H' : Hp), AF.BoxAt H' v b → AF.Box.Good m lo hi [b] → AF.DrawAt H' d l → H' e = some (.lst [.int hi]) → AF.But [d, e] H H' → AF.KeepT H H' → Q v H'
theorem ok_box0 (T : Tx K mg) : FnOk P w K mg base CX0 1 T.d_law_box.f T.d_law_box.fd ["draw", "last", "depth"] (spBox 0) := by
  have no : ∀ vs H Q E, ¬ spBox 0 vs H Q E := fun vs H Q E h => by
    obtain ⟨_, _, _, _, m, _, h, _⟩ := h
    omega
  exact ⟨fun vs H Q E h => absurd h (no vs H Q E), fun A outer s H args us vs Q E _ _ _ _ h => absurd h (no vs H Q E)⟩
theorem ok_box_step (T : Tx K mg) {n : Nat} (G_law_box : FnOk P w K mg base CX0 (n + 1) T.d_law_box.f T.d_law_box.fd ["draw", "last", "depth"] (spBox n)) :
    FnOk P w K mg base CX0 (n + 2) T.d_law_box.f T.d_law_box.fd ["draw", "last", "depth"] (spBox (n + 1)) := by
  have G_law_next := ok_law_next (P := P) (w := w) (base := base) T
  refine T.d_law_box.F.ok sc_law_box (fun vs H Q E h => ?_) (fun cdv A outer s H vs Q E hr h => ?_)
  · obtain ⟨_, _, _, _, _, rfl, _⟩ := h
    rfl
  obtain ⟨d, e, l, lo, m, rfl, hmn, hD, he, ned, nel, q⟩ := h
  refine ⟨_, (pss_cons (ps_asg (pe_op op_add (pe_op op_add (pe_ix (AF.ixL K rfl) (pv 1) pe_int (fun _ _ => rfl)) pe_int) (AF.cal T.d_law_next G_law_next (hr.mono (by omega)) (pa_cons (pv 0) (pa_cons pe_int pa_nil)))) (pg_sub (pv 1) pe_int set_list))
      (pss_cons (ps_set (i := 3) sc_law_box.nd rfl (Or.inl rfl) (pe_ix (AF.ixL K rfl) (pv 1) pe_int (fun _ _ => rfl)))
      (pss_cons (ps_if (PW.pt (pw_or (pt_cmpR op_eq (pv 2) pe_int (nomark _)) (pw_or1 (pt_cmpR op_gt (AF.cal T.d_law_next G_law_next (hr.mono (by omega)) (pa_cons (pv 0) (pa_cons pe_int pa_nil))) pe_int (nomark _)))))
      (pss_one (ps_ret (pe_tup (pa_cons pe_str (pa_cons (pv 3) (pa_cons (AF.cal T.d_law_next G_law_next (hr.mono (by omega)) (pa_cons (pv 0) (pa_cons pe_int pa_nil))) pa_nil))))))
      pss_nil)
      (pss_cons (ps_set (i := 4) sc_law_box.nd rfl (Or.inl rfl) (AF.cal T.d_law_next G_law_next (hr.mono (by omega)) (pa_cons (pv 0) (pa_cons pe_int pa_nil))))
      (pss_one (ps_ret (pe_tup (pa_cons pe_str (pa_cons (pv 3) (pa_cons (pv 4) (pa_cons (pe_callTy (AF.tupK K rfl) (by rfl) T.z_tuple (by decide +kernel) (pa_cons (pe_lc (own := [("k", 5)]) (g := gName 5) rfl sc_law_box.nd (pi_range1 (by rfl) T.z_range (pa_cons (AF.cal T.d_law_next G_law_next (hr.mono (by omega)) (pa_cons (pv 0) (pa_cons pe_int pa_nil))) pa_nil)) (blkOk_by (own := [("k", 5)]) (N := ["draw", "last", "depth", "number", "height", "k"]) (sc := defScope s_law_box) (by decide +kernel)) (fun _ _ _ _ _ => (pg_name (i := 5) sc_law_box.nd rfl (Or.inl rfl))) (fun _ _ _ _ _ => pts_nil) (fun _ _ _ _ _ => (AF.cal T.d_law_box G_law_box (hr.mono (by omega)) (pa_cons (pv 0) (pa_cons (pv 1) (pa_cons (pe_op op_sub (pv 2) pe_int) pa_nil)))))) pa_nil)) pa_nil))))))))))), ?_⟩
  refine ⟨.ref e, rfl, e, _, _, _, rfl, rfl, .of he, rfl, _, _, rfl, rfl, .ref d, rfl, d, l, 3, rfl, hD, by decide, by decide, fun x H1 hx0 hx1 hD1 b1 k1 => ?_⟩
  have he1 : H1 e = some (.lst [.int lo]) := AF.but_one b1 he ned
  refine ⟨_, _, rfl, rfl, .ref e, rfl, e, _, _, _, rfl, rfl, he1, rfl, ?_⟩
  have ce : AF.But [d, e] H1 (upd H1 e (.lst [.int (lo + 1 + x)])) := (AF.but_upd _).mono (fun b h => List.mem_cons_of_mem _ h)
  have be : AF.But [d, e] H (upd H1 e (.lst [.int (lo + 1 + x)])) := (b1.mono (fun b h => by rw [List.mem_singleton.mp h]; exact List.mem_cons_self)).trans ce
  have ke : AF.KeepT H (upd H1 e (.lst [.int (lo + 1 + x)])) := k1.trans (AF.keepT_upd he1 _)
  have hD2 : AF.DrawAt (upd H1 e (.lst [.int (lo + 1 + x)])) d l := AF.DrawAt.but hD1 (AF.but_upd _) (by simpa using ned.symm) (by simpa using nel.symm)
  refine ⟨.ref e, rfl, e, _, _, _, rfl, rfl, .of upd_same, rfl, ?_⟩
  -- the end where a block comes out
  have blk : ∀ (H3 : Hp), AF.DrawAt H3 d l → H3 e = some (.lst [.int (lo + 1 + x)]) → AF.But [d, e] H H3 → AF.KeepT H H3 →
      spNext [.ref d, .int 7] H3 (fun y H4 => 3 ≤ sizeLine ∧ ∀ p, H4 p = none → Q (.ref p) (upd H4 p (.tup [.str "block", .int (lo + 1 + x), y]))) E0 := fun H3 hD3 he3 b3 k3 => by
    refine ⟨d, l, 7, rfl, hD3, by decide, by decide, fun y H4 hy0 hy1 hD4 b4 k4 => ⟨by decide, fun p np => ?_⟩⟩
    have s4 : Same H4 (upd H4 p (.tup [.str "block", .int (lo + 1 + x), .int y])) := AF.same_new np _
    have b34 : AF.But [d, e] H3 H4 := b4.mono (fun b h => by rw [List.mem_singleton.mp h]; exact List.mem_cons_self)
    refine q (.ref p) (.blk (lo + 1 + x) y) (lo + 1 + x) _ (AF.BoxAt.mkB upd_same) (AF.Box.Good.blk (by omega) (by omega) hy0 (by omega)) (AF.DrawAt.same hD4 s4) (s4 _ _ (AF.but_one b4 he3 ned)) ?_ ?_
    · exact (b3.trans b34).trans (.of s4)
    · exact (k3.trans k4).trans (AF.Same.keepT s4)
  refine ⟨.int (m : Int), rfl, rfl, _, rfl, ite2 (fun c => ?_) (fun c => ?_)⟩
  · exact iteT ⟨.int (lo + 1 + x), rfl, .ref d, rfl, blk _ hD2 upd_same be ke⟩
  · refine ⟨.ref d, rfl, d, l, 3, rfl, hD2, by decide, by decide, fun y H3 hy0 hy1 hD3 b3 k3 => ?_⟩
    have b23 : AF.But [d, e] (upd H1 e (.lst [.int (lo + 1 + x)])) H3 := b3.mono (fun b h => by rw [List.mem_singleton.mp h]; exact List.mem_cons_self)
    have he3 : H3 e = some (.lst [.int (lo + 1 + x)]) := AF.but_one b3 upd_same ned
    refine ⟨_, _, rfl, rfl, _, rfl, ite2 (fun c2 => ?_) (fun c2 => ?_)⟩
    · exact ⟨.int (lo + 1 + x), rfl, .ref d, rfl, blk _ hD3 he3 (be.trans b23) (ke.trans k3)⟩
    · obtain ⟨m', rfl⟩ : ∃ m', m = m' + 1 := by
        cases m with
        | zero => exact absurd (decide_eq_true rfl) c
        | succ m' => exact ⟨m', rfl⟩
      refine ⟨.ref d, rfl, d, l, 9, rfl, hD3, by decide, by decide, fun g H4 hg0 hg1 hD4 b4 k4 => ?_⟩
      have b34 : AF.But [d, e] H3 H4 := b4.mono (fun b h => by rw [List.mem_singleton.mp h]; exact List.mem_cons_self)
      have he4 := AF.but_one b4 he3 ned
      refine ⟨.int (lo + 1 + x), rfl, .int g, rfl, .ref d, rfl, d, l, 3, rfl, hD4, by decide, by decide, fun z H5 hz0 hz1 hD5 b5 k5 => ?_⟩
      have b45 : AF.But [d, e] H4 H5 := b5.mono (fun b h => by rw [List.mem_singleton.mp h]; exact List.mem_cons_self)
      have he5 := AF.but_one b5 he4 ned
      have bAll : AF.But [d, e] H H5 := ((be.trans b23).trans b34).trans b45
      have kAll : AF.KeepT H H5 := ((ke.trans k3).trans k4).trans k5
      refine ⟨z, rfl, by omega, by omega, fun D nD => ?_⟩
      have nDd : D ≠ d := by
        obtain ⟨xs, h⟩ := AF.DrawAt.lst hD5
        exact (ne_of_none h nD).symm
      have nDe : D ≠ e := (ne_of_none he5 nD).symm
      have nDl : D ≠ l := by
        obtain ⟨xs, h⟩ := AF.DrawAt.lst2 hD5
        exact (ne_of_none h nD).symm
      have nHD : ∀ b o, b ∉ [d, e] → H b = some o → b ≠ D := fun b o hn h => ne_of_none (bAll b o hn h) nD
      refine lc_range (lo := 0) (n := z.toNat) (Pv := fun i H6 => ∃ (ws : List V) (bs : List AF.Box) (hi : Int), H6 D = some (.lst ws) ∧ AF.BoxesAt H6 ws bs ∧ bs.length = i ∧ AF.Box.Good m' (lo + 1 + x) hi bs ∧
        AF.DrawAt H6 d l ∧ H6 e = some (.lst [.int hi]) ∧ AF.But [d, e] H H6 ∧ AF.KeepT H H6) ?_ ?_ ?_
      · have s6 : Same H5 (upd H5 D (.lst [])) := AF.same_new nD _
        exact ⟨[], [], lo + 1 + x, upd_same, .nil, rfl, .nil _ _, AF.DrawAt.same hD5 s6, s6 _ _ he5, bAll.trans (.of s6), kAll.trans (AF.Same.keepT s6)⟩
      · rintro i H6 hi6 ⟨ws, bs, hi, eD, bw, bl, gd, hD6, he6, b6, k6⟩
        refine ⟨rfl, .ref d, rfl, .ref e, rfl, .int ((m' + 1 : Nat) : Int), rfl, _, _, rfl, rfl, d, e, l, hi, m', ?_, by omega, hD6, he6, ned, nel, fun v b hi' H7 bv g7 hD7 he7 b7 k7 => ?_⟩
        · have z1 : (((m' + 1 : Nat) : Int) - 1) = (m' : Int) := by omega
          exact congrArg (fun i => [V.ref d, V.ref e, V.int i]) z1
        · have eD7 : H7 D = some (.lst ws) := b7 D _ (by simp [nDd, nDe]) eD
          have hwl := bw.len
          have c7 : AF.But [D] H7 (upd H7 D (.lst (ws ++ [v]))) := AF.but_upd _
          have kt7 : AF.KeepT H7 (upd H7 D (.lst (ws ++ [v]))) := AF.keepT_upd eD7 _
          refine ⟨ws, eD7, small1000 (by omega), ws ++ [v], bs ++ [b], hi', upd_same, ((bw.k k7).k kt7).append (.one (bv.k kt7)), by rw [List.length_append, bl]; rfl, gd.append g7, ?_, ?_, ?_, ?_⟩
          · exact AF.DrawAt.but hD7 c7 (by simpa using nDd.symm) (by simpa using nDl.symm)
          · rw [upd_ne nDe.symm]
            exact he7
          · intro b o hn h
            rw [upd_ne (nHD b o hn h)]
            exact (b6.trans b7) b o hn h
          · exact (k6.trans k7).trans kt7
      · rintro H6 ⟨ws, bs, hi, eD, bw, bl, gd, hD6, he6, b6, k6⟩
        refine ⟨D, ws, rfl, .inl ⟨.of eD, fun t nt => ⟨(by show 4 ≤ sizeLine; decide), fun p np => ?_⟩⟩⟩
        have s7 : Same H6 (upd H6 t (.tup ws)) := AF.same_new nt _
        have s8 : Same (upd H6 t (.tup ws)) (upd (upd H6 t (.tup ws)) p (.tup [.str "scroller", .int (lo + 1 + x), .int g, .ref t])) := AF.same_new np _
        have s78 := s7.trans s8
        refine q (.ref p) (.scr (lo + 1 + x) g bs) hi _ (AF.BoxAt.mkS upd_same (s8 _ _ upd_same) (bw.s s78)) (gd.scr (by omega) (by omega) hg0 (by omega) (by omega)) (AF.DrawAt.same hD6 s78) (s78 _ _ he6) (b6.trans (.of s78)) (k6.trans (AF.Same.keepT s78))
theorem ok_law_box (T : Tx K mg) : ∀ n : Nat, FnOk P w K mg base CX0 (n + 1) T.d_law_box.f T.d_law_box.fd ["draw", "last", "depth"] (spBox n)
  | 0 => ok_box0 T
  | n + 1 => ok_box_step T (ok_law_box T n)
def spDoc : Sp := fun vs H Q _ => ∃ (d l : Addr), vs = [.ref d] ∧ AF.DrawAt H d l ∧
  ∀ (v : V) (b : AF.Box) (H' : Hp), AF.BoxAt H' v b → AF.Box.Doc b → AF.DrawAt H' d l → AF.But [d] H H' → AF.KeepT H H' → Q v H'
theorem ok_law_document (T : Tx K mg) : FnOk P w K mg base CX0 5 T.d_law_document.f T.d_law_document.fd ["draw"] spDoc := by
  have G_law_next := ok_law_next (P := P) (w := w) (base := base) T
  have G_law_box := ok_law_box (P := P) (w := w) (base := base) T 3
  refine T.d_law_document.F.ok sc_law_document (fun vs H Q E h => ?_) (fun cdv A outer s H vs Q E hr h => ?_)
  · obtain ⟨_, _, rfl, _⟩ := h
    rfl
  obtain ⟨d, l, rfl, hD, q⟩ := h
  refine ⟨_, (pss_cons (ps_set (i := 1) sc_law_document.nd rfl (Or.inr rfl) (pe_lst (pa_cons (pe_op op_add pe_int (AF.cal T.d_law_next G_law_next (hr.mono (by omega)) (pa_cons (pv 0) (pa_cons pe_int pa_nil)))) pa_nil)))
      (pss_cons (ps_set (i := 2) sc_law_document.nd rfl (Or.inl rfl) (pe_ix (AF.ixL K rfl) (pe_lst (pa_cons pe_int (pa_cons pe_int (pa_cons pe_int (pa_cons pe_int (pa_cons pe_int (pa_cons pe_int pa_nil))))))) (AF.cal T.d_law_next G_law_next (hr.mono (by omega)) (pa_cons (pv 0) (pa_cons pe_int pa_nil))) (fun _ _ => rfl)))
      (pss_cons (ps_set (i := 3) sc_law_document.nd rfl (Or.inl rfl) (pe_ix (AF.ixL K rfl) (pv 1) pe_int (fun _ _ => rfl)))
      (pss_one (ps_ret (pe_tup (pa_cons pe_str (pa_cons (pv 3) (pa_cons (pv 2) (pa_cons (pe_callTy (AF.tupK K rfl) (by rfl) T.z_tuple (by decide +kernel) (pa_cons (pe_lc (own := [("k", 4)]) (g := gName 4) rfl sc_law_document.nd (pi_range1 (by rfl) T.z_range (pa_cons (AF.cal T.d_law_next G_law_next (hr.mono (by omega)) (pa_cons (pv 0) (pa_cons pe_int pa_nil))) pa_nil)) (blkOk_by (own := [("k", 4)]) (N := ["draw", "last", "height", "number", "k"]) (sc := defScope s_law_document) (by decide +kernel)) (fun _ _ _ _ _ => (pg_name (i := 4) sc_law_document.nd rfl (Or.inl rfl))) (fun _ _ _ _ _ => pts_nil) (fun _ _ _ _ _ => (AF.cal T.d_law_box G_law_box (hr.mono (by omega)) (pa_cons (pv 0) (pa_cons (pv 1) (pa_cons (pe_op op_add pe_int (AF.cal T.d_law_next G_law_next (hr.mono (by omega)) (pa_cons (pv 0) (pa_cons pe_int pa_nil)))) pa_nil)))))) pa_nil)) pa_nil)))))))))), ?_⟩
  refine ⟨.ref d, rfl, d, l, 5, rfl, hD, by decide, by decide, fun x H1 hx0 hx1 hD1 b1 k1 => ?_⟩
  refine ⟨_, _, rfl, rfl, (by show 1 ≤ sizeLine; decide), fun e ne => ?_⟩
  have s2 : Same H1 (upd H1 e (.lst [.int (1 + x)])) := AF.same_new ne _
  have hD2 := AF.DrawAt.same hD1 s2
  have ned : e ≠ d := by
    obtain ⟨xs, h⟩ := AF.DrawAt.lst hD1
    exact (ne_of_none h ne).symm
  have nel : e ≠ l := by
    obtain ⟨xs, h⟩ := AF.DrawAt.lst2 hD1
    exact (ne_of_none h ne).symm
  -- height = [..][..]
  refine ⟨by decide, fun g ng => ?_⟩
  have s3 : Same (upd H1 e (.lst [.int (1 + x)])) (upd (upd H1 e (.lst [.int (1 + x)])) g (.lst [.int 0, .int 3, .int 6, .int 9, .int 12, .int 20])) := AF.same_new ng _
  have hD3 := AF.DrawAt.same hD2 s3
  refine ⟨.ref d, rfl, d, l, 6, rfl, hD3, by decide, by decide, fun y H4 hy0 hy1 hD4 b4 k4 => ?_⟩
  have eg4 : H4 g = some (.lst [.int 0, .int 3, .int 6, .int 9, .int 12, .int 20]) := AF.but_one b4 upd_same (by
    obtain ⟨xs, h⟩ := AF.DrawAt.lst hD2
    exact (ne_of_none h ng).symm)
  have he4 : H4 e = some (.lst [.int (1 + x)]) := AF.but_one b4 (s3 _ _ upd_same) ned
  obtain ⟨z, hz, hz0, hz1⟩ : ∃ z : Int, atI [V.int 0, V.int 3, V.int 6, V.int 9, V.int 12, V.int 20] y = some (.int z) ∧ 0 ≤ z ∧ z ≤ 20 := by
    have hc : y = 0 ∨ y = 1 ∨ y = 2 ∨ y = 3 ∨ y = 4 ∨ y = 5 := by omega
    rcases hc with rfl | rfl | rfl | rfl | rfl | rfl
    · exact ⟨0, rfl, by decide, by decide⟩
    · exact ⟨3, rfl, by decide, by decide⟩
    · exact ⟨6, rfl, by decide, by decide⟩
    · exact ⟨9, rfl, by decide, by decide⟩
    · exact ⟨12, rfl, by decide, by decide⟩
    · exact ⟨20, rfl, by decide, by decide⟩
  refine ⟨g, _, _, _, rfl, rfl, .of eg4, hz, .ref e, rfl, e, _, _, _, rfl, rfl, .of he4, rfl, ?_⟩
  have bH4 : AF.But [d] H H4 := (b1.trans (.of (s2.trans s3))).trans b4
  have kH4 : AF.KeepT H H4 := (k1.trans (AF.Same.keepT (s2.trans s3))).trans k4
  have nHe : ∀ b o, b ∉ [d] → H b = some o → b ≠ e := fun b o hn h => ne_of_none (b1 b o hn h) ne
  refine ⟨.int (1 + x), rfl, .int z, rfl, .ref d, rfl, d, l, 5, rfl, hD4, by decide, by decide, fun u H5 hu0 hu1 hD5 b5 k5 => ?_⟩
  have he5 := AF.but_one b5 he4 ned
  refine ⟨u, rfl, by omega, by omega, fun D nD => ?_⟩
  have nDd : D ≠ d := by
    obtain ⟨xs, h⟩ := AF.DrawAt.lst hD5
    exact (ne_of_none h nD).symm
  have nDe : D ≠ e := (ne_of_none he5 nD).symm
  have nDl : D ≠ l := by
    obtain ⟨xs, h⟩ := AF.DrawAt.lst2 hD5
    exact (ne_of_none h nD).symm
  have bH5 := bH4.trans b5
  have kH5 := kH4.trans k5
  have nHD : ∀ b o, b ∉ [d] → H b = some o → b ≠ D := fun b o hn h => ne_of_none (bH5 b o hn h) nD
  refine lc_range (lo := 0) (n := u.toNat) (Pv := fun i H6 => ∃ (ws : List V) (bs : List AF.Box) (hi : Int), H6 D = some (.lst ws) ∧ AF.BoxesAt H6 ws bs ∧ bs.length = i ∧ AF.Box.Good 2 (1 + x) hi bs ∧
    AF.DrawAt H6 d l ∧ H6 e = some (.lst [.int hi]) ∧ AF.But [d] H H6 ∧ AF.KeepT H H6) ?_ ?_ ?_
  · have s6 : Same H5 (upd H5 D (.lst [])) := AF.same_new nD _
    exact ⟨[], [], 1 + x, upd_same, .nil, rfl, .nil _ _, AF.DrawAt.same hD5 s6, s6 _ _ he5, bH5.trans (.of s6), kH5.trans (AF.Same.keepT s6)⟩
  · rintro i H6 hi6 ⟨ws, bs, hi, eD, bw, bl, gd, hD6, he6, b6, k6⟩
    refine ⟨rfl, .ref d, rfl, .ref e, rfl, .ref d, rfl, d, l, 2, rfl, hD6, by decide, by decide, fun r H7 hr0 hr1 hD7 b7 k7 => ?_⟩
    have he7 := AF.but_one b7 he6 ned
    have eD7 : H7 D = some (.lst ws) := AF.but_one b7 eD nDd
    obtain ⟨m, hm, hm2⟩ : ∃ m : Nat, (1 : Int) + r = (m : Int) ∧ m < 3 := ⟨(1 + r).toNat, by omega, by omega⟩
    refine ⟨_, _, rfl, rfl, d, e, l, hi, m, congrArg (fun i => [V.ref d, V.ref e, V.int i]) hm, hm2, hD7, he7, ned, nel, fun v b hi' H8 bv g8 hD8 he8 b8 k8 => ?_⟩
    have eD8 : H8 D = some (.lst ws) := b8 D _ (by simp [nDd, nDe]) eD7
    have hwl := bw.len
    have c8 : AF.But [D] H8 (upd H8 D (.lst (ws ++ [v]))) := AF.but_upd _
    have kt8 : AF.KeepT H8 (upd H8 D (.lst (ws ++ [v]))) := AF.keepT_upd eD8 _
    refine ⟨ws, eD8, small1000 (by omega), ws ++ [v], bs ++ [b], hi', upd_same, (((bw.k k7).k k8).k kt8).append (.one (bv.k kt8)), by rw [List.length_append, bl]; rfl, gd.append (g8.mono (by omega)), ?_, ?_, ?_, ?_⟩
    · exact AF.DrawAt.but hD8 c8 (by simpa using nDd.symm) (by simpa using nDl.symm)
    · rw [upd_ne nDe.symm]
      exact he8
    · intro b o hn h
      rw [upd_ne (nHD b o hn h)]
      refine b8 b o ?_ ((b6.trans b7) b o hn h)
      have h1 : b ≠ d := by simpa using hn
      have h2 := nHe b o hn h
      simp [h1, h2]
    · exact ((k6.trans k7).trans k8).trans kt8
  · rintro H6 ⟨ws, bs, hi, eD, bw, bl, gd, hD6, he6, b6, k6⟩
    refine ⟨D, ws, rfl, .inl ⟨.of eD, fun t nt => ⟨(by show 4 ≤ sizeLine; decide), fun p np => ?_⟩⟩⟩
    have s7 : Same H6 (upd H6 t (.tup ws)) := AF.same_new nt _
    have s8 : Same (upd H6 t (.tup ws)) (upd (upd H6 t (.tup ws)) p (.tup [.str "scroller", .int (1 + x), .int z, .ref t])) := AF.same_new np _
    have s78 := s7.trans s8
    refine q (.ref p) (.scr (1 + x) z bs) _ (AF.BoxAt.mkS upd_same (s8 _ _ upd_same) (bw.s s78)) ⟨1 + x, z, hi, bs, rfl, by omega, by omega, hz0, hz1, gd, by omega⟩ (AF.DrawAt.same hD6 s78) (b6.trans (.of s78)) (k6.trans (AF.Same.keepT s78))

end
end K01
namespace K01
open PySem PySem.Spec PyProof.Rows L2
section
variable {P : Program} {w : World} {K : PySem.W.Frag} {mg : Str → Option Value} {base : Heap}
/-! ### the law's own walk over the boxes -/
def spLAll (n : Nat) : Sp := fun vs H Q _ => ∃ (v : V) (b : AF.Box), vs = [v] ∧ AF.BoxAt H v b ∧ b.depth < n ∧ b.pre.length ≤ 1000 ∧
  ∀ (l : Addr) (ws : List V) (H' : Hp), Same H H' → H l = none → H' l = some (.lst ws) → AF.BoxesAt H' ws b.pre → Q (.ref l) H'
theorem ok_all0 (T : Tx K mg) : FnOk P w K mg base CX0 0 T.d_law_all.f T.d_law_all.fd ["box"] (spLAll 0) := by
  have no : ∀ vs H Q E, ¬ spLAll 0 vs H Q E := fun vs H Q E h => by
    obtain ⟨_, _, _, _, h, _⟩ := h
    omega
  exact ⟨fun vs H Q E h => absurd h (no vs H Q E), fun A outer s H args us vs Q E _ _ _ _ h => absurd h (no vs H Q E)⟩
theorem ok_all_step (T : Tx K mg) {n : Nat} (G_law_all : FnOk P w K mg base CX0 n T.d_law_all.f T.d_law_all.fd ["box"] (spLAll n)) :
    FnOk P w K mg base CX0 (n + 1) T.d_law_all.f T.d_law_all.fd ["box"] (spLAll (n + 1)) := by
  refine T.d_law_all.F.ok sc_law_all (fun vs H Q E h => ?_) (fun cdv A outer s H vs Q E hr h => ?_)
  · obtain ⟨_, _, rfl, _⟩ := h
    rfl
  obtain ⟨v, b, rfl, hb, hdep, hlen, q⟩ := h
  refine ⟨_, (pss_cons (ps_set (i := 1) sc_law_all.nd rfl (Or.inl rfl) (pe_lst (pa_cons (pv 0) pa_nil)))
      (pss_cons (ps_for PassesOwn.never rfl (AF.piT K rfl (pe_ifExp (pt_cmpR op_eq (pe_ix (AF.ixT K rfl) (pv 0) pe_int (fun _ _ => rfl)) pe_str (nomark _)) (pe_ix (AF.ixT K rfl) (pv 0) pe_int (fun _ _ => rfl)) (pe_tup pa_nil))) (pg_name (i := 2) sc_law_all.nd rfl (Or.inl rfl))
      (pss_one (ps_set (i := 1) sc_law_all.nd rfl (Or.inl rfl) (pe_op op_cat (pv 1) (AF.cal T.d_law_all G_law_all (hr.mono (by omega)) (pa_cons (pv 2) pa_nil))))))
      (pss_one (ps_ret (pv 1))))), ?_⟩
  refine ⟨v, rfl, (by show 1 ≤ sizeLine; decide), fun f nf => ?_⟩
  have s0 : Same H (upd H f (.lst [v])) := AF.same_new nf _
  have hb0 := hb.s s0
  obtain ⟨a, xs, ev, ha, e⟩ := hb0.tup
  have e0 : xs[0]? = some (.str b.kind) := by
    have := congrArg (fun l => l[0]?) e
    simpa using this
  refine ⟨v, rfl, a, _, _, _, ev, rfl, .of ha, atI_nat (j := 0) e0, rfl, _, rfl, ?_⟩
  have hpre := AF.Box.pre_eq b
  -- from the parts on
  have go : ∀ (p : Addr) (ps : List V) (H1 : Hp), Same (upd H f (.lst [v])) H1 → H1 p = some (.tup ps) → AF.BoxesAt H1 ps b.parts →
      ∃ W : Nat → Nat → L2.St → Hp → Prop, (∃ m, W 0 m [some v, some (.ref f), none] H1) ∧ ∀ i m σ H2, W i m σ H2 →
        ((Itt K p).stop i H2 ∧ tRet (tVar 1) { nx := fun _ H' => Q .non H', rt := Q } σ H2) ∨ ((Itt K p).go i H2 ∧ ∃ N : L2.St → Hp → Prop, (∀ σ' H', N σ' H' → ∃ m', m' < m ∧ W (i + 1) m' σ' H') ∧ ∀ x H', (Itt K p).yld i H2 x H' → gName 2 x σ H' fun σ2 H2 =>
          tAsg (tOp rCat (tVar 1) (tCall (spLAll n) [] E0 (tCons (tVar 2) tNil))) (gName 1) { nx := N, rt := Q, ct := N, bk := tRet (tVar 1) { nx := fun _ H' => Q .non H', rt := Q } } σ2 H2) := by
    intro p ps H1 s1 ep bp
    have hps := bp.len
    refine for_tup (xs := ps) (D := { nx := tRet (tVar 1) { nx := fun _ H' => Q .non H', rt := Q }, rt := Q }) (Pv := fun i σ H3 => ∃ (c : Addr) (x : Option V) (ws : List V), σ = [some v, some (.ref c), x] ∧ Same H H3 ∧ AF.KeepT H1 H3 ∧ H c = none ∧ H3 c = some (.lst ws) ∧
      AF.BoxesAt H3 ws (b :: AF.Box.preL (b.parts.take i))) ?_ ?_ ?_ ?_
    · refine ⟨f, none, [v], rfl, s0.trans s1, .refl _, nf, s1 _ _ upd_same, ?_⟩
      exact .one ((hb0.s s1))
    · rintro i σ H3 _ ⟨c, x, ws, _, _, k, _⟩
      exact .of (k _ _ ep)
    · rintro i y σ H3 hy ⟨c, x, ws, rfl, sm, k, nc, ec, bw⟩
      obtain ⟨d, hd, by_⟩ := bp.get hy
      have hi := (List.getElem?_eq_some_iff.mp hd).1
      have et : b.parts.take (i + 1) = b.parts.take i ++ [d] := by rw [List.take_add_one, hd]; rfl
      have hd1 : d.depth < n := by
        cases b with
        | blk _ _ => simp [AF.Box.parts] at hd
        | scr m g qs =>
          have := AF.Box.depthL_mem (List.mem_of_getElem? hd)
          simp only [AF.Box.depth] at hdep
          simp only [AF.Box.parts] at this
          omega
      have hdm : d.pre.length ≤ b.pre.length := by
        refine AF.Box.pre_mem_len b d ?_
        rw [hpre, AF.Box.preL_eq]
        refine List.mem_cons_of_mem _ (List.mem_flatMap.mpr ⟨d, List.mem_of_getElem? hd, ?_⟩)
        rw [AF.Box.pre_eq d]
        exact List.mem_cons_self
      have hsum : (b :: AF.Box.preL (b.parts.take i)).length + d.pre.length ≤ b.pre.length := by
        have h1 : AF.Box.preL b.parts = AF.Box.preL (b.parts.take (i + 1)) ++ AF.Box.preL (b.parts.drop (i + 1)) := by rw [← AF.Box.preL_append, List.take_append_drop]
        rw [hpre, h1, et, AF.Box.preL_append]
        simp only [List.length_cons, List.length_append, AF.Box.preL, List.length_nil]
        omega
      refine ⟨.ref c, rfl, y, rfl, y, d, rfl, by_.k k, hd1, by omega, fun l us H4 s4 nl el bu => ?_⟩
      have hw := bw.len
      have hu := bu.len
      refine ⟨c, l, ws, us, rfl, rfl, s4 _ _ ec, el, Nat.le_of_lt (small1000 (by omega)), fun z nz => ?_⟩
      have s5 : Same H4 (upd H4 z (.lst (ws ++ us))) := AF.same_new nz _
      refine ⟨z, some y, ws ++ us, rfl, (sm.trans s4).trans s5, (k.trans (AF.Same.keepT s4)).trans (AF.Same.keepT s5), ?_, upd_same, ?_⟩
      · exact Same.free (sm.trans s4) nz
      · rw [et, AF.Box.preL_append, ← List.cons_append]
        have e2 : AF.Box.preL [d] = d.pre := by simp [AF.Box.preL]
        rw [e2]
        exact ((bw.s s4).s s5).append (bu.s s5)
    · rintro σ H3 ⟨c, x, ws, rfl, sm, k, nc, ec, bw⟩
      rw [hps, List.take_length, ← hpre] at bw
      exact ⟨.ref c, rfl, q c ws H3 sm nc ec bw⟩
  cases b with
  | blk m g =>
    refine AF.iteN (by intro z; cases (of_decide_eq_true z)) ⟨Nat.zero_le _, fun p np => ⟨p, rfl, ⟨[], .of upd_same⟩, ?_⟩⟩
    exact go p [] _ (AF.same_new np _) upd_same .nil
  | scr m g ps =>
    refine iteT ?_
    obtain ⟨a2, p, vs, rfl, h1, h2, h3⟩ := hb0.scr
    exact ⟨_, rfl, a2, _, _, _, rfl, rfl, .of h1, atI_nat (j := 3) rfl, p, rfl, ⟨vs, .of h2⟩, go p vs _ (.refl _) h2 h3⟩
theorem ok_law_all (T : Tx K mg) : ∀ n : Nat, FnOk P w K mg base CX0 n T.d_law_all.f T.d_law_all.fd ["box"] (spLAll n)
  | 0 => ok_all0 T
  | n + 1 => ok_all_step T (ok_law_all T n)

end
end K01
namespace K01
open PySem PySem.Spec PyProof.Rows L2
section
variable {P : Program} {w : World} {K : PySem.W.Frag} {mg : Str → Option Value} {base : Heap}
/-! ### the law's own reading of a document -/
def spNamed : Sp := fun vs H Q _ => ∃ (v : V) (b : AF.Box) (n : Int), vs = [v, .int n] ∧ AF.BoxAt H v b ∧ b.depth < 7 ∧ b.pre.length ≤ 1000 ∧
  ∀ (w : V) (H' : Hp), Same H H' → AF.OptAt H' w (b.pre.find? (AF.Box.byNum n)) → Q w H'
theorem ok_law_named (T : Tx K mg) : FnOk P w K mg base CX0 8 T.d_law_named.f T.d_law_named.fd ["document", "number"] spNamed := by
  have G_law_all := ok_law_all (P := P) (w := w) (base := base) T 7
  refine T.d_law_named.F.ok sc_law_named (fun vs H Q E h => ?_) (fun cdv A outer s H vs Q E hr h => ?_)
  · obtain ⟨_, _, _, rfl, _⟩ := h
    rfl
  obtain ⟨v, b, n, rfl, hb, hd, hlen, q⟩ := h
  refine ⟨_, (pss_cons (ps_for PassesOwn.never rfl (AF.piL K rfl (AF.cal T.d_law_all G_law_all (hr.mono (by omega)) (pa_cons (pv 0) pa_nil))) (pg_name (i := 2) sc_law_named.nd rfl (Or.inl rfl))
      (pss_one (ps_if (pt_cmpR op_eq (pe_ix (AF.ixT K rfl) (pv 2) pe_int (fun _ _ => rfl)) (pv 1) (nomark _))
      (pss_one (ps_ret (pv 2)))
      pss_nil)))
      (pss_one (ps_ret pe_non))), ?_⟩
  refine ⟨v, rfl, v, b, rfl, hb, hd, hlen, fun l ws H1 s1 nl el bw => ?_⟩
  refine ⟨l, rfl, ⟨ws, .of el⟩, ?_⟩
  have hw := bw.len
  refine for_list (xs := ws) (Pv := fun i σ H3 => ∃ x : Option V, σ = [some v, some (.int n), x] ∧ H3 = H1 ∧ (b.pre.take i).find? (AF.Box.byNum n) = none) ?_ ?_ ?_ ?_
  · exact ⟨none, rfl, rfl, rfl⟩
  · rintro i σ H3 _ ⟨x, _, rfl, _⟩
    exact .of el
  · rintro i y σ H3 hy ⟨x, rfl, rfl, hf⟩
    obtain ⟨c, hc, by_⟩ := bw.get hy
    obtain ⟨a7, xs7, ey, ha7, e7⟩ := by_.tup
    have i1 : xs7[1]? = some (.int c.num) := by
      have := congrArg (fun l => l[1]?) e7
      simpa using this
    refine ⟨y, rfl, a7, _, _, _, ey, rfl, .of ha7, atI_nat (j := 1) i1, .int n, rfl, rfl, _, rfl, ite2 (fun cc => ?_) (fun cc => ?_)⟩
    · have e : c.num = n := V.int.inj (of_decide_eq_true cc)
      refine ⟨y, rfl, q y H3 s1 ?_⟩
      rw [AF.find_at hf hc (decide_eq_true e)]
      exact by_
    · have e : ¬ c.num = n := fun z => cc (decide_eq_true (congrArg V.int z))
      exact ⟨some y, rfl, rfl, AF.find_step hf hc (decide_eq_false e)⟩
  · rintro σ H3 ⟨x, rfl, rfl, hf⟩
    rw [hw, List.take_length] at hf
    exact q .non H3 s1 (by rw [hf]; rfl)
def spDepth (n : Nat) : Sp := fun vs H Q _ => ∃ (v : V) (b : AF.Box), vs = [v] ∧ AF.BoxAt H v b ∧ b.depth < n ∧ b.pre.length ≤ 1000 ∧ ∀ H' : Hp, Same H H' → Q (.int (b.depth : Int)) H'
theorem ok_depth0 (T : Tx K mg) : FnOk P w K mg base CX0 0 T.d_law_depth.f T.d_law_depth.fd ["box"] (spDepth 0) := by
  have no : ∀ vs H Q E, ¬ spDepth 0 vs H Q E := fun vs H Q E h => by
    obtain ⟨_, _, _, _, h, _⟩ := h
    omega
  exact ⟨fun vs H Q E h => absurd h (no vs H Q E), fun A outer s H args us vs Q E _ _ _ _ h => absurd h (no vs H Q E)⟩
theorem ok_depth_step (T : Tx K mg) {n : Nat} (G_law_depth : FnOk P w K mg base CX0 n T.d_law_depth.f T.d_law_depth.fd ["box"] (spDepth n)) :
    FnOk P w K mg base CX0 (n + 1) T.d_law_depth.f T.d_law_depth.fd ["box"] (spDepth (n + 1)) := by
  refine T.d_law_depth.F.ok sc_law_depth (fun vs H Q E h => ?_) (fun cdv A outer s H vs Q E hr h => ?_)
  · obtain ⟨_, _, rfl, _⟩ := h
    rfl
  obtain ⟨v, b, rfl, hb, hdep, hlen, q⟩ := h
  refine ⟨_, (pss_one (ps_ret (pe_ifExp (pt_cmpR op_eq (pe_ix (AF.ixT K rfl) (pv 0) pe_int (fun _ _ => rfl)) pe_str (nomark _)) pe_int (pe_op op_add pe_int (pe_callB (AF.maxK K rfl rfl) (by rfl) T.z_max (by decide +kernel) (pa_cons (pe_op op_cat (pe_lst (pa_cons pe_int pa_nil)) (pe_lc (own := [("part", 1)]) (g := gName 1) rfl sc_law_depth.nd (AF.piT K rfl (pe_ix (AF.ixT K rfl) (pv 0) pe_int (fun _ _ => rfl))) (blkOk_by (own := [("part", 1)]) (N := ["box", "part"]) (sc := defScope s_law_depth) (by decide +kernel)) (fun _ _ _ _ _ => (pg_name (i := 1) sc_law_depth.nd rfl (Or.inl rfl))) (fun _ _ _ _ _ => pts_nil) (fun _ _ _ _ _ => (AF.cal T.d_law_depth G_law_depth (hr.mono (by omega)) (pa_cons (pv 1) pa_nil))))) pa_nil)))))), ?_⟩
  obtain ⟨a, xs, ev, ha, e⟩ := hb.tup
  have e0 : xs[0]? = some (.str b.kind) := by
    have := congrArg (fun l => l[0]?) e
    simpa using this
  refine ⟨v, rfl, a, _, _, _, ev, rfl, .of ha, atI_nat (j := 0) e0, rfl, _, rfl, ?_⟩
  cases b with
  | blk m g =>
    refine iteT ?_
    have t : Q (.int 0) H := by simpa [AF.Box.depth] using q H (.refl H)
    exact t
  | scr m g ps =>
    refine AF.iteN (by intro z; cases (of_decide_eq_true z)) ?_
    obtain ⟨a2, p, us, rfl, h1, h2, bp⟩ := hb.scr
    refine ⟨(by show 1 ≤ sizeLine; decide), fun z nz => ?_⟩
    have s0 : Same H (upd H z (.lst [.int 0])) := AF.same_new nz _
    refine ⟨_, rfl, a2, _, _, _, rfl, rfl, .of (s0 _ _ h1), atI_nat (j := 3) rfl, p, rfl, ⟨us, .of (s0 _ _ h2)⟩, fun D nD => ?_⟩
    have hus := bp.len
    have hps : ps.length ≤ 1000 := by
      have h3 := AF.Box.preL_ge ps
      simp only [AF.Box.pre, List.length_cons] at hlen
      omega
    refine lc_tup (xs := us) (Pv := fun i H3 => Same (upd H z (.lst [.int 0])) H3 ∧ H3 D = some (.lst (((ps.map fun c => (c.depth : Int)).take i).map V.int))) ?_ ?_ ?_ ?_
    · exact ⟨AF.same_new nD _, upd_same⟩
    · rintro i H3 _ ⟨s3, _⟩
      exact .of (s3 _ _ (s0 _ _ h2))
    · rintro i y H3 hy ⟨s3, eD⟩
      obtain ⟨c, hc, by_⟩ := bp.get hy
      have hm := List.mem_of_getElem? hc
      have hd1 : c.depth < n := by
        have := AF.Box.depthL_mem hm
        simp only [AF.Box.depth] at hdep
        omega
      have hdm : c.pre.length ≤ 1000 := by
        have h4 := AF.Box.pre_mem_len (.scr m g ps) c (by
          simp only [AF.Box.pre]
          rw [AF.Box.preL_eq]
          refine List.mem_cons_of_mem _ (List.mem_flatMap.mpr ⟨c, hm, ?_⟩)
          rw [AF.Box.pre_eq c]
          exact List.mem_cons_self)
        omega
      refine ⟨rfl, y, rfl, y, c, rfl, by_.s (s0.trans s3), hd1, hdm, fun H4 s4 => ⟨_, s4 _ _ eD, ?_, AF.same_upd (s3.trans s4) nD _, ?_⟩⟩
      · rw [List.length_map, List.length_take, List.length_map]
        exact small1000 (by omega)
      · rw [upd_same, List.take_add_one, List.getElem?_map, hc, List.map_append]
        rfl
    · rintro H3 ⟨s3, eD⟩
      rw [hus, ← List.length_map (f := fun c : AF.Box => (c.depth : Int)), List.take_length] at eD
      refine ⟨z, D, _, _, rfl, rfl, s3 _ _ upd_same, eD, ?_, fun r nr => ?_⟩
      · rw [List.length_map, List.length_map]
        exact Nat.le_of_lt (small1000 (by show 1 + ps.length ≤ 1000; have := AF.Box.preL_ge ps; simp only [AF.Box.pre, List.length_cons] at hlen; omega))
      have er : (upd H3 r (.lst ([.int 0] ++ (ps.map fun c => (c.depth : Int)).map V.int))) r = some (.lst (((0 : Int) :: ps.map fun c => (c.depth : Int)).map V.int)) := upd_same
      refine ⟨r, _, rfl, .of er, by simp, fun k hk hmax => ⟨_, _, rfl, rfl, ?_⟩⟩
      have ek : k = (AF.Box.depthL ps : Int) := AF.Box.depthL_max hk hmax
      subst ek
      have e2 : (1 : Int) + (AF.Box.depthL ps : Int) = ((AF.Box.scr m g ps).depth : Int) := by
        simp only [AF.Box.depth]
        omega
      have := q _ ((s0.trans s3).trans (AF.same_new nr (.lst ([.int 0] ++ (ps.map fun c => (c.depth : Int)).map V.int))))
      rw [← e2] at this
      exact this
theorem ok_law_depth (T : Tx K mg) : ∀ n : Nat, FnOk P w K mg base CX0 n T.d_law_depth.f T.d_law_depth.fd ["box"] (spDepth n)
  | 0 => ok_depth0 T
  | n + 1 => ok_depth_step T (ok_law_depth T n)
def spLIsDoc : Sp := fun vs H Q _ => ∃ (v : V) (b : AF.Box), vs = [v] ∧ AF.BoxAt H v b ∧ b.depth < 7 ∧ b.pre.length ≤ 1000 ∧ ∀ (k : Bool) (H' : Hp), Same H H' → (k = true ↔ AF.Box.IsDoc b) → Q (.bl k) H'
theorem ok_law_is_document (T : Tx K mg) : FnOk P w K mg base CX0 8 T.d_law_is_document.f T.d_law_is_document.fd ["box"] spLIsDoc := by
  have G_law_all := ok_law_all (P := P) (w := w) (base := base) T 7
  have G_law_depth := ok_law_depth (P := P) (w := w) (base := base) T 7
  refine T.d_law_is_document.F.ok sc_law_is_document (fun vs H Q E h => ?_) (fun cdv A outer s H vs Q E hr h => ?_)
  · obtain ⟨_, _, rfl, _⟩ := h
    rfl
  obtain ⟨v, b, rfl, hb, hdep, hlen, q⟩ := h
  refine ⟨_, (pss_cons (ps_set (i := 1) sc_law_is_document.nd rfl (Or.inl rfl) (AF.cal T.d_law_all G_law_all (hr.mono (by omega)) (pa_cons (pv 0) pa_nil)))
      (pss_cons (ps_set (i := 2) sc_law_is_document.nd rfl (Or.inl rfl) (pe_lst pa_nil))
      (pss_cons (ps_for PassesOwn.never rfl (AF.piL K rfl (pv 1)) (pg_name (i := 3) sc_law_is_document.nd rfl (Or.inl rfl))
      (pss_cons (ps_if (PW.pt (pw_or (pt_cmpR (AF.inK K rfl) (pe_ix (AF.ixT K rfl) (pv 3) pe_int (fun _ _ => rfl)) (pv 2) (by rfl)) (pw_or (pt_not (pt_chain op_le op_le pe_int (pe_ix (AF.ixT K rfl) (pv 3) pe_int (fun _ _ => rfl)) pe_int)) (pw_or1 (pt_not (pt_chain op_le op_le pe_int (pe_ix (AF.ixT K rfl) (pv 3) pe_int (fun _ _ => rfl)) pe_int))))))
      (pss_one (ps_ret pe_bl))
      pss_nil)
      (pss_one (ps_expr (pe_bm PySem.F.plainAttrs_list PySem.F.slot_list_append PySem.F.type_list_append mt_append (pv 2) (pa_cons (pe_ix (AF.ixT K rfl) (pv 3) pe_int (fun _ _ => rfl)) pa_nil))))))
      (pss_one (ps_ret (pe_and (pe_cmpR op_eq (pe_ix (AF.ixT K rfl) (pv 0) pe_int (fun _ _ => rfl)) pe_str (nomark _)) (pe_and (pe_cmpR op_le (pe_callB (AF.lenK K rfl) (by rfl) T.z_len (by decide +kernel) (pa_cons (pv 1) pa_nil)) pe_int (nomark _)) (pe_one (pe_cmpR op_le (AF.cal T.d_law_depth G_law_depth (hr.mono (by omega)) (pa_cons (pv 0) pa_nil)) pe_int (nomark _)))))))))), ?_⟩
  refine ⟨v, rfl, v, b, rfl, hb, hdep, hlen, fun l ws H1 s1 nl el bw => ?_⟩
  have hw := bw.len
  refine ⟨Nat.zero_le _, fun D nD => ?_⟩
  have s2 : Same H1 (upd H1 D (.lst [])) := AF.same_new nD _
  refine ⟨.ref l, rfl, l, rfl, ⟨ws, .of (s2 _ _ el)⟩, ?_⟩
  refine for_list (xs := ws) (Pv := fun i σ H3 => ∃ x : Option V, σ = [some v, some (.ref l), some (.ref D), x] ∧ Same H1 H3 ∧ H3 D = some (.lst (((b.pre.map AF.Box.num).take i).map V.int)) ∧
    (∀ c ∈ b.pre.take i, (1 ≤ c.num ∧ c.num ≤ 999) ∧ 0 ≤ c.ht ∧ c.ht ≤ 1000) ∧ ((b.pre.map AF.Box.num).take i).Nodup) ?_ ?_ ?_ ?_
  · exact ⟨none, rfl, s2, upd_same, by simp, by simp⟩
  · rintro i σ H3 _ ⟨_, _, s3, _⟩
    exact .of (s3 _ _ el)
  · rintro i y σ H3 hy ⟨x, rfl, s3, eD, hall, hnd⟩
    obtain ⟨c, hc, by_⟩ := bw.get hy
    have hi := (List.getElem?_eq_some_iff.mp hc).1
    have cm := List.mem_of_getElem? hc
    obtain ⟨a7, xs7, ey, ha7, e7⟩ := (by_.s s3).tup
    have i1 : xs7[1]? = some (.int c.num) := by
      have := congrArg (fun l => l[1]?) e7
      simpa using this
    have i2 : xs7[2]? = some (.int c.ht) := by
      have := congrArg (fun l => l[2]?) e7
      simpa using this
    have en : (b.pre.map AF.Box.num)[i]? = some c.num := by
      rw [List.getElem?_map, hc]
      rfl
    have bad : ¬ AF.Box.IsDoc b → Q (.bl false) H3 := fun hn => q false H3 (s1.trans s3) ⟨(fun z => nomatch z), fun z => absurd z hn⟩
    have hinV := AF.inV_ints c.num ((b.pre.map AF.Box.num).take i)
    refine ⟨y, rfl, a7, _, _, _, ey, rfl, .of ha7, atI_nat (j := 1) i1, .ref D, rfl, D, _, rfl, .inl (.of eD), rfl, AF.flat_ints _, _, rfl, ite2 (fun c1 => ?_) (fun c1 => ?_)⟩
    · refine iteT (bad fun z => ?_)
      have m := hinV.mp c1
      obtain ⟨j, hj, ej⟩ := List.mem_take_iff_getElem.mp m
      have ej2 : (b.pre.map AF.Box.num)[j]? = some c.num := by
        rw [List.getElem?_eq_getElem (by omega), ej]
      have := nd_ix z.u en ej2
      omega
    have hnew : c.num ∉ (b.pre.map AF.Box.num).take i := fun m => c1 (hinV.mpr m)
    -- not 1 <= one[1] <= 999
    have fin : ((1 ≤ c.num ∧ c.num ≤ 999) ∧ 0 ≤ c.ht ∧ c.ht ≤ 1000) → ∃ x : Option V, [some v, some (.ref l), some (.ref D), some y] = [some v, some (.ref l), some (.ref D), x] ∧ Same H1 (upd H3 D (.lst (((b.pre.map AF.Box.num).take i).map V.int ++ [.int c.num]))) ∧
        (upd H3 D (.lst (((b.pre.map AF.Box.num).take i).map V.int ++ [.int c.num]))) D = some (.lst (((b.pre.map AF.Box.num).take (i + 1)).map V.int)) ∧ (∀ c ∈ b.pre.take (i + 1), (1 ≤ c.num ∧ c.num ≤ 999) ∧ 0 ≤ c.ht ∧ c.ht ≤ 1000) ∧ ((b.pre.map AF.Box.num).take (i + 1)).Nodup := fun hg => by
      refine ⟨_, rfl, AF.same_upd s3 nD _, ?_, ?_, ?_⟩
      · rw [upd_same, List.take_add_one, en, List.map_append]
        rfl
      · intro d hd
        rw [List.take_add_one, hc] at hd
        rcases List.mem_append.mp hd with h | h
        · exact hall d h
        · have : d = c := by simpa using h
          rw [this]
          exact hg
      · rw [List.take_add_one, en]
        exact nd_snoc hnd hnew
    have hlt : (((b.pre.map AF.Box.num).take i).map V.int).length < sizeLine := by
      rw [List.length_map, List.length_take, List.length_map]
      exact small1000 (by omega)
    -- the append
    have app : ((1 ≤ c.num ∧ c.num ≤ 999) ∧ 0 ≤ c.ht ∧ c.ht ≤ 1000) → rAppend (.ref D) [.int c.num] H3 (fun _ H4 => ∃ x : Option V, [some v, some (.ref l), some (.ref D), some y] = [some v, some (.ref l), some (.ref D), x] ∧ Same H1 H4 ∧
        H4 D = some (.lst (((b.pre.map AF.Box.num).take (i + 1)).map V.int)) ∧ (∀ c ∈ b.pre.take (i + 1), (1 ≤ c.num ∧ c.num ≤ 999) ∧ 0 ≤ c.ht ∧ c.ht ≤ 1000) ∧ ((b.pre.map AF.Box.num).take (i + 1)).Nodup) := fun hg =>
      ⟨D, _, _, rfl, rfl, eD, hlt, fin hg⟩
    refine ⟨y, rfl, a7, _, _, _, ey, rfl, .of ha7, atI_nat (j := 1) i1, _, _, rfl, rfl, _, rfl, ite2 (fun c2 => ?_) (fun c2 => ?_)⟩
    rotate_left
    · refine ⟨_, rfl, iteT (iteT (bad fun z => ?_))⟩
      exact c2 (decide_eq_true (z.n c cm).1)
    refine ⟨_, _, rfl, rfl, _, rfl, ite2 (fun c3 => ?_) (fun c3 => ?_)⟩
    · refine iteT (bad fun z => ?_)
      have h := (z.n c cm).2
      rw [decide_eq_true h] at c3
      cases c3
    have h999 : c.num ≤ 999 := by
      by_cases h : c.num ≤ 999
      · exact h
      · rw [decide_eq_false h] at c3
        exact absurd rfl c3
    have h1 : 1 ≤ c.num := of_decide_eq_true c2
    refine ⟨y, rfl, a7, _, _, _, ey, rfl, .of ha7, atI_nat (j := 2) i2, _, _, rfl, rfl, _, rfl, ite2 (fun c4 => ?_) (fun c4 => ?_)⟩
    rotate_left
    · refine ⟨_, rfl, iteT (bad fun z => ?_)⟩
      exact c4 (decide_eq_true (z.h c cm).1)
    refine ⟨_, _, rfl, rfl, _, rfl, ite2 (fun c5 => ?_) (fun c5 => ?_)⟩
    · refine bad fun z => ?_
      have h := (z.h c cm).2
      rw [decide_eq_true h] at c5
      cases c5
    have h1000 : c.ht ≤ 1000 := by
      by_cases h : c.ht ≤ 1000
      · exact h
      · rw [decide_eq_false h] at c5
        exact absurd rfl c5
    have h0 : 0 ≤ c.ht := of_decide_eq_true c4
    exact ⟨.ref D, rfl, .inl ⟨rfl, _, .of eD⟩, y, rfl, a7, _, _, _, ey, rfl, .of ha7, atI_nat (j := 1) i1, app ⟨⟨h1, h999⟩, h0, h1000⟩⟩
  · rintro σ H3 ⟨x, rfl, s3, eD, hall, hnd⟩
    rw [hw] at hall hnd
    rw [List.take_length] at hall
    rw [← List.length_map (f := AF.Box.num), List.take_length] at hnd
    have s13 := s1.trans s3
    obtain ⟨a7, xs7, ey, ha7, e7⟩ := (hb.s s13).tup
    have i0 : xs7[0]? = some (.str b.kind) := by
      have := congrArg (fun l => l[0]?) e7
      simpa using this
    have hk : (decide (V.str b.kind = V.str "scroller") = true) ↔ b.isS = true := by
      cases b with
      | blk _ _ => exact ⟨(fun z => by cases (of_decide_eq_true z)), (fun z => by cases z)⟩
      | scr _ _ _ => exact ⟨fun _ => rfl, fun _ => decide_eq_true rfl⟩
    refine ⟨v, rfl, a7, _, _, _, ey, rfl, .of ha7, atI_nat (j := 0) i0, rfl, _, rfl, ite2 (fun c1 => ?_) (fun c1 => ?_)⟩
    rotate_left
    · exact q false H3 s13 ⟨(fun z => nomatch z), fun z => absurd (hk.mpr z.s) c1⟩
    refine ⟨.ref l, rfl, l, ws, rfl, .inl (.of (s3 _ _ el)), _, _, rfl, rfl, _, rfl, ite2 (fun c2 => ?_) (fun c2 => ?_)⟩
    rotate_left
    · refine q false H3 s13 ⟨(fun z => nomatch z), fun z => absurd (decide_eq_true ?_) c2⟩
      have := z.l
      omega
    have h40 : ((ws.length : Nat) : Int) ≤ 40 := of_decide_eq_true c2
    refine ⟨v, rfl, v, b, rfl, hb.s s13, hdep, hlen, fun H4 s4 => ⟨_, _, rfl, rfl, ?_⟩⟩
    refine q _ H4 (s13.trans s4) ⟨fun z => ⟨hk.mp c1, fun c hc => (hall c hc).1, fun c hc => (hall c hc).2, by omega, hnd, ?_⟩, fun z => decide_eq_true ?_⟩
    · have := of_decide_eq_true z
      omega
    · have := z.d
      omega

end
end K01
namespace K01
open PySem PySem.Spec PyProof.Rows L2
section
variable {P : Program} {w : World} {K : PySem.W.Frag} {mg : Str → Option Value} {base : Heap}
def spNested : Sp := fun vs H Q _ => ∃ (m last : Int), vs = [.int m, .int last] ∧ 0 ≤ m ∧ m ≤ 1000 ∧ ∀ (v : V) (H' : Hp), Same H H' → AF.BoxAt H' v (AF.Box.nest last m.toNat) → Q v H'
theorem ok_law_nested (T : Tx K mg) : FnOk P w K mg base CX0 1 T.d_law_nested.f T.d_law_nested.fd ["many", "last"] spNested := by
  refine T.d_law_nested.F.ok sc_law_nested (fun vs H Q E h => ?_) (fun cdv A outer s H vs Q E hr h => ?_)
  · obtain ⟨_, _, rfl, _⟩ := h
    rfl
  obtain ⟨m, last, rfl, h0, h1, q⟩ := h
  refine ⟨_, (pss_cons (ps_set (i := 2) sc_law_nested.nd rfl (Or.inl rfl) (pe_tup (pa_cons pe_str (pa_cons pe_int (pa_cons pe_int pa_nil)))))
      (pss_cons (ps_for PassesOwn.never rfl (pi_range1 (by rfl) T.z_range (pa_cons (pv 0) pa_nil)) (pg_name (i := 3) sc_law_nested.nd rfl (Or.inl rfl))
      (pss_one (ps_set (i := 2) sc_law_nested.nd rfl (Or.inl rfl) (pe_tup (pa_cons pe_str (pa_cons (pe_op op_add (pv 1) (pv 3)) (pa_cons pe_int (pa_cons (pe_tup (pa_cons (pv 2) pa_nil)) pa_nil))))))))
      (pss_one (ps_ret (pv 2))))), ?_⟩
  refine ⟨(by show 3 ≤ sizeLine; decide), fun p np => ?_⟩
  have s0 : Same H (upd H p (.tup [.str "block", .int 900, .int 3])) := AF.same_new np _
  refine ⟨.int m, rfl, m, rfl, by omega, by omega, ?_⟩
  refine for_range (lo := 0) (n := m.toNat) (Pv := fun i σ H3 => ∃ (v : V) (x : Option V), σ = [some (.int m), some (.int last), some v, x] ∧ Same H H3 ∧ AF.BoxAt H3 v (AF.Box.nest last i)) ?_ ?_ ?_
  · exact ⟨.ref p, none, rfl, s0, AF.BoxAt.mkB upd_same⟩
  · rintro i σ H3 hi ⟨v, x, rfl, s3, bv⟩
    refine ⟨.int last, rfl, .int (0 + (i : Int)), rfl, _, _, rfl, rfl, v, rfl, (by show 1 ≤ sizeLine; decide), fun t nt => ⟨(by show 4 ≤ sizeLine; decide), fun u nu => ?_⟩⟩
    have s4 : Same H3 (upd H3 t (.tup [v])) := AF.same_new nt _
    have s5 : Same (upd H3 t (.tup [v])) (upd (upd H3 t (.tup [v])) u (.tup [.str "scroller", .int (last + (0 + (i : Int))), .int 5, .ref t])) := AF.same_new nu _
    refine ⟨.ref u, some (.int (0 + (i : Int))), rfl, s3.trans (s4.trans s5), ?_⟩
    have e : AF.Box.nest last (i + 1) = .scr (last + (0 + (i : Int))) 5 [AF.Box.nest last i] := by
      have e : last + (0 + (i : Int)) = last + (i : Int) := by omega
      rw [e]
      rfl
    rw [e]
    exact AF.BoxAt.mkS upd_same ((AF.same_new nu _) _ _ upd_same) (.one (bv.s (s4.trans (AF.same_new nu _))))
  · rintro σ H3 ⟨v, x, rfl, s3, bv⟩
    exact ⟨v, rfl, q v H3 s3 bv⟩
def spFaulty : Sp := fun vs H Q _ => ∃ (d l : Addr) (v : V) (b : AF.Box), vs = [.ref d, v] ∧ AF.DrawAt H d l ∧ AF.BoxAt H v b ∧ AF.Box.Doc b ∧
  ∀ (w : V) (c : AF.Box) (H' : Hp), AF.BoxAt H' w c → c.pre.length ≤ 100 → c.depth < 7 → AF.DrawAt H' d l → AF.But [d] H H' → AF.KeepT H H' → Q w H'
theorem ok_law_faulty (T : Tx K mg) : FnOk P w K mg base CX0 6 T.d_law_faulty.f T.d_law_faulty.fd ["draw", "document"] spFaulty := by
  have G_law_all := ok_law_all (P := P) (w := w) (base := base) T 4
  have G_law_next := ok_law_next (P := P) (w := w) (base := base) T
  have G_law_nested := ok_law_nested (P := P) (w := w) (base := base) T
  refine T.d_law_faulty.F.ok sc_law_faulty (fun vs H Q E h => ?_) (fun cdv A outer s H vs Q E hr h => ?_)
  · obtain ⟨_, _, _, _, rfl, _⟩ := h
    rfl
  obtain ⟨d, l, v, b, rfl, hD, bv, dc, q⟩ := h
  refine ⟨_, (pss_cons (ps_set (i := 2) sc_law_faulty.nd rfl (Or.inl rfl) (AF.cal T.d_law_all G_law_all (hr.mono (by omega)) (pa_cons (pv 1) pa_nil)))
      (pss_cons (ps_set (i := 3) sc_law_faulty.nd rfl (Or.inl rfl) (pe_ix (AF.ixT K rfl) (pe_ix (AF.ixL K rfl) (pv 2) (AF.cal T.d_law_next G_law_next (hr.mono (by omega)) (pa_cons (pv 0) (pa_cons (pe_callB (AF.lenK K rfl) (by rfl) T.z_len (by decide +kernel) (pa_cons (pv 2) pa_nil)) pa_nil))) (fun _ _ => rfl)) pe_int (fun _ _ => rfl)))
      (pss_cons (ps_set (i := 4) sc_law_faulty.nd rfl (Or.inl rfl) (pe_lst (pa_cons (pe_tup (pa_cons pe_str (pa_cons (pv 3) (pa_cons pe_int pa_nil)))) (pa_cons (pe_tup (pa_cons pe_str (pa_cons pe_int (pa_cons pe_int pa_nil)))) (pa_cons (pe_tup (pa_cons pe_str (pa_cons pe_int (pa_cons pe_int pa_nil)))) (pa_cons (pe_tup (pa_cons pe_str (pa_cons pe_int (pa_cons pe_int pa_nil)))) (pa_cons (pe_tup (pa_cons pe_str (pa_cons pe_int (pa_cons (pe_un un_neg pe_int) pa_nil)))) (pa_cons (pe_tup (pa_cons pe_str (pa_cons pe_int (pa_cons pe_int pa_nil)))) (pa_cons (pe_tup (pa_cons pe_str (pa_cons pe_int (pa_cons pe_int pa_nil)))) pa_nil)))))))))
      (pss_cons (ps_set (i := 5) sc_law_faulty.nd rfl (Or.inl rfl) (AF.cal T.d_law_next G_law_next (hr.mono (by omega)) (pa_cons (pv 0) (pa_cons pe_int pa_nil))))
      (pss_cons (ps_if (pt_cmpR op_lt (pv 5) pe_int (nomark _))
      (pss_one (ps_ret (pe_op (AF.catTK K rfl) (pe_slice (AF.slT K rfl) (pv 1) po_none (po_some pe_int)) (pe_tup (pa_cons (pe_op (AF.catTK K rfl) (pe_ix (AF.ixT K rfl) (pv 1) pe_int (fun _ _ => rfl)) (pe_tup (pa_cons (pe_ix (AF.ixL K rfl) (pv 4) (pv 5) (fun _ _ => rfl)) pa_nil))) pa_nil)))))
      pss_nil)
      (pss_cons (ps_if (pt_cmpR op_eq (pv 5) pe_int (nomark _))
      (pss_one (ps_ret (pe_ix (AF.ixL K rfl) (pv 4) (AF.cal T.d_law_next G_law_next (hr.mono (by omega)) (pa_cons (pv 0) (pa_cons pe_int pa_nil))) (fun _ _ => rfl))))
      pss_nil)
      (pss_cons (ps_if (pt_cmpR op_eq (pv 5) pe_int (nomark _))
      (pss_one (ps_ret (AF.cal T.d_law_nested G_law_nested (hr.mono (by omega)) (pa_cons (pe_op op_add pe_int (AF.cal T.d_law_next G_law_next (hr.mono (by omega)) (pa_cons (pv 0) (pa_cons pe_int pa_nil)))) (pa_cons pe_int pa_nil)))))
      pss_nil)
      (pss_cons (ps_if (pt_cmpR op_eq (pv 5) pe_int (nomark _))
      (pss_one (ps_ret (pe_op (AF.catTK K rfl) (pe_op (AF.catTK K rfl) (pe_slice (AF.slT K rfl) (pv 1) po_none (po_some pe_int)) (pe_tup (pa_cons (pe_ix (AF.ixL K rfl) (pe_lst (pa_cons pe_int (pa_cons pe_int (pa_cons pe_int (pa_cons (pe_un un_neg pe_int) pa_nil))))) (AF.cal T.d_law_next G_law_next (hr.mono (by omega)) (pa_cons (pv 0) (pa_cons pe_int pa_nil))) (fun _ _ => rfl)) pa_nil))) (pe_slice (AF.slT K rfl) (pv 1) (po_some pe_int) po_none))))
      pss_nil)
      (pss_one (ps_ret (pe_op (AF.catTK K rfl) (pe_slice (AF.slT K rfl) (pv 1) po_none (po_some pe_int)) (pe_tup (pa_cons (pe_callTy (AF.tupK K rfl) (by rfl) T.z_tuple (by decide +kernel) (pa_cons (pe_lc (own := [("k", 6)]) (g := gName 6) rfl sc_law_faulty.nd (pi_range1 (by rfl) T.z_range (pa_cons (pe_op op_add pe_int (AF.cal T.d_law_next G_law_next (hr.mono (by omega)) (pa_cons (pv 0) (pa_cons pe_int pa_nil)))) pa_nil)) (blkOk_by (own := [("k", 6)]) (N := ["draw", "document", "boxes", "number", "extra", "form", "k"]) (sc := defScope s_law_faulty) (by decide +kernel)) (fun _ _ _ _ _ => (pg_name (i := 6) sc_law_faulty.nd rfl (Or.inl rfl))) (fun _ _ _ _ _ => pts_nil) (fun _ _ _ _ _ => (pe_tup (pa_cons pe_str (pa_cons (pe_op op_add pe_int (pv 6)) (pa_cons pe_int pa_nil)))))) pa_nil)) pa_nil))))))))))))), ?_⟩
  have hlen := dc.len
  have hdep := dc.dep
  refine ⟨v, rfl, v, b, rfl, bv, by omega, by omega, fun l2 ws H1 s1 nl2 el2 bw => ?_⟩
  have hw := bw.len
  have hpos : 1 ≤ ws.length := by
    rw [hw, AF.Box.pre_eq, List.length_cons]
    omega
  have hD1 := AF.DrawAt.same hD s1
  have nl2d : l2 ≠ d := by
    obtain ⟨xs, h⟩ := AF.DrawAt.lst hD
    exact (ne_of_none h nl2).symm
  refine ⟨.ref l2, rfl, .ref d, rfl, .ref l2, rfl, l2, ws, rfl, .inl (.of el2), d, l, _, rfl, hD1, by omega, by omega, fun x H2 hx0 hx1 hD2 b2 k2 => ?_⟩
  have el22 := AF.but_one b2 el2 nl2d
  have hxn : x.toNat < ws.length := by omega
  have hat : atI ws x = some ws[x.toNat] := at_of (j := x.toNat) (by omega) (List.getElem?_eq_getElem hxn)
  obtain ⟨c0, hc0, bc0⟩ := bw.get (List.getElem?_eq_getElem hxn)
  obtain ⟨a0, xs0, ey0, ha0, e0⟩ := (bc0.k k2).tup
  have i1 : xs0[1]? = some (.int c0.num) := by
    have := congrArg (fun l => l[1]?) e0
    simpa using this
  refine ⟨l2, ws, x, _, rfl, rfl, .of el22, hat, a0, xs0, _, _, ey0, rfl, .of ha0, atI_nat (j := 1) i1, ?_⟩
  -- extra
  have l3 : 3 ≤ sizeLine := by decide
  refine ⟨_, rfl, l3, fun t1 n1 => ⟨l3, fun t2 n2 => ⟨l3, fun t3 n3 => ⟨l3, fun t4 n4 => ⟨1, rfl, l3, fun t5 n5 => ⟨l3, fun t6 n6 => ⟨l3, fun t7 n7 => ⟨(by show 7 ≤ sizeLine; decide), fun e ne => ?_⟩⟩⟩⟩⟩⟩⟩⟩
  have g1 := AF.same_new n1 (.tup [.str "block", .int c0.num, .int 1])
  have g2 := AF.same_new n2 (.tup [.str "block", .int 0, .int 1])
  have g3 := AF.same_new n3 (.tup [.str "block", .int 1000, .int 1])
  have g4 := AF.same_new n4 (.tup [.str "block", .int 999, .int 1])
  have g5 := AF.same_new n5 (.tup [.str "block", .int 998, .int (-1)])
  have g6 := AF.same_new n6 (.tup [.str "block", .int 998, .int 1001])
  have g7 := AF.same_new n7 (.tup [.str "block", .int 998, .int 1000])
  have g8 := AF.same_new ne (.lst [.ref t1, .ref t2, .ref t3, .ref t4, .ref t5, .ref t6, .ref t7])
  have b8 : AF.BoxAt _ (.ref t7) (.blk 998 1000) := (AF.BoxAt.mkB (upd_same)).s g8
  have b7 : AF.BoxAt _ (.ref t6) (.blk 998 1001) := (AF.BoxAt.mkB (upd_same)).s (g7.trans g8)
  have b6 : AF.BoxAt _ (.ref t5) (.blk 998 (-1)) := (AF.BoxAt.mkB (upd_same)).s (g6.trans (g7.trans g8))
  have b5 : AF.BoxAt _ (.ref t4) (.blk 999 1) := (AF.BoxAt.mkB (upd_same)).s (g5.trans (g6.trans (g7.trans g8)))
  have b4 : AF.BoxAt _ (.ref t3) (.blk 1000 1) := (AF.BoxAt.mkB (upd_same)).s (g4.trans (g5.trans (g6.trans (g7.trans g8))))
  have b3 : AF.BoxAt _ (.ref t2) (.blk 0 1) := (AF.BoxAt.mkB (upd_same)).s (g3.trans (g4.trans (g5.trans (g6.trans (g7.trans g8)))))
  have b1 : AF.BoxAt _ (.ref t1) (.blk c0.num 1) := (AF.BoxAt.mkB (upd_same)).s (g2.trans (g3.trans (g4.trans (g5.trans (g6.trans (g7.trans g8))))))
  have gg := g1.trans (g2.trans (g3.trans (g4.trans (g5.trans (g6.trans (g7.trans g8))))))
  generalize hHe : upd _ e _ = He at *
  have ee : He e = some (.lst [.ref t1, .ref t2, .ref t3, .ref t4, .ref t5, .ref t6, .ref t7]) := by
    rw [← hHe]
    exact upd_same
  have pick : ∀ i : Int, 0 ≤ i → i < 7 → ∃ (t : Addr) (n h : Int), atI [V.ref t1, .ref t2, .ref t3, .ref t4, .ref t5, .ref t6, .ref t7] i = some (.ref t) ∧ AF.BoxAt He (.ref t) (.blk n h) := by
    intro i h0 h1
    have hc : i = 0 ∨ i = 1 ∨ i = 2 ∨ i = 3 ∨ i = 4 ∨ i = 5 ∨ i = 6 := by omega
    rcases hc with rfl | rfl | rfl | rfl | rfl | rfl | rfl
    · exact ⟨t1, _, _, rfl, b1⟩
    · exact ⟨t2, _, _, rfl, b3⟩
    · exact ⟨t3, _, _, rfl, b4⟩
    · exact ⟨t4, _, _, rfl, b5⟩
    · exact ⟨t5, _, _, rfl, b6⟩
    · exact ⟨t6, _, _, rfl, b7⟩
    · exact ⟨t7, _, _, rfl, b8⟩
  have hDe := AF.DrawAt.same hD2 gg
  have bHe : AF.But [d] H He := (AF.But.of s1).trans (b2.trans (.of gg))
  have kHe : AF.KeepT H He := (AF.Same.keepT s1).trans (k2.trans (AF.Same.keepT gg))
  have ned : e ≠ d := by
    obtain ⟨xs, h⟩ := AF.DrawAt.lst hDe
    intro z
    subst z
    obtain ⟨ns, ii, rr, zz, h2, _⟩ := hDe
    rw [ee] at h2
    cases h2
  -- form
  refine ⟨.ref d, rfl, d, l, 11, rfl, hDe, by decide, by decide, fun f H3 hf0 hf1 hD3 b9 k9 => ?_⟩
  have ee3 := AF.but_one b9 ee ned
  have bH3 := bHe.trans b9
  have kH3 := kHe.trans k9
  obtain ⟨rn, rh, hi, ps, rfl, hn1, hn2, hh1, hh2, gd, hps⟩ := dc.ex
  obtain ⟨a3, p3, us, rfl, h31, h32, bp⟩ := (bv.k kH3).scr
  have hus := bp.len
  have hcnt := gd.cnt
  have hm2 : AF.Box.most 2 = 7 := rfl
  rw [hm2] at hcnt
  have hgdep := gd.dep
  -- how a new root comes out
  have root : ∀ (n h : Int) (cs : List AF.Box) (p t : Addr) (zs : List V) (H4 : Hp), H4 p = some (.tup [.str "scroller", .int n, .int h, .ref t]) → H4 t = some (.tup zs) → AF.BoxesAt H4 zs cs → (AF.Box.preL cs).length ≤ 90 → AF.Box.depthL cs ≤ 5 →
      AF.DrawAt H4 d l → AF.But [d] H H4 → AF.KeepT H H4 → Q (.ref p) H4 := fun n h cs p t zs H4 hp ht bz hl hd hD4 b4' k4' => by
    refine q (.ref p) (.scr n h cs) H4 (AF.BoxAt.mkS hp ht bz) ?_ ?_ hD4 b4' k4'
    · simp only [AF.Box.pre, List.length_cons]
      omega
    · simp only [AF.Box.depth]
      omega
  refine ⟨.int f, rfl, _, _, rfl, rfl, _, rfl, ite2 (fun c1 => ?_) (fun c1 => ?_)⟩
  · -- document[:3] + (document[3] + (extra[form],),)
    have hf7 : f < 7 := of_decide_eq_true c1
    obtain ⟨t, n, h, hat2, bt⟩ := pick f hf0 hf7
    refine ⟨.ref a3, rfl, 3, rfl, AF.slA_ok (zs := [.str "scroller", .int rn, .int rh]) h31 rfl fun p H4 s4 ep => ?_⟩
    refine ⟨.ref a3, rfl, a3, _, _, _, rfl, rfl, .of (s4 _ _ h31), atI_nat (j := 3) rfl, .ref e, rfl, .int f, rfl, e, _, _, _, rfl, rfl, .of (s4 _ _ ee3), hat2, (by show 1 ≤ sizeLine; decide), fun o no => ?_⟩
    have s5 := AF.same_new no (.tup [.ref t])
    refine AF.catA_ok (s5 _ _ (s4 _ _ h32)) upd_same (by show us.length + 1 ≤ 1000; omega) fun p2 H6 s6 ep2 => ⟨(by show 1 ≤ sizeLine; decide), fun o2 no2 => ?_⟩
    have s7 := AF.same_new no2 (.tup [.ref p2])
    refine AF.catA_ok (s7 _ _ (s6 _ _ (s5 _ _ ep))) upd_same (by show 3 + 1 ≤ 1000; omega) fun p4 H8 s8 ep4 => ?_
    have sA : Same H3 H8 := s4.trans (s5.trans (s6.trans (s7.trans s8)))
    refine root rn rh (ps ++ [.blk n h]) p4 p2 (us ++ [.ref t]) H8 ep4 (s8 _ _ (s7 _ _ ep2)) ((bp.s sA).append (.one ((bt.k k9).s sA))) ?_ ?_ (AF.DrawAt.same hD3 sA) (bH3.trans (.of sA)) (kH3.trans (AF.Same.keepT sA))
    · rw [AF.Box.preL_append, List.length_append]
      simp only [AF.Box.preL, AF.Box.pre, List.length_cons, List.length_nil, List.length_append]
      omega
    · rw [AF.Box.depthL_append]
      simp only [AF.Box.depthL, AF.Box.depth]
      omega
  refine ⟨.int f, rfl, rfl, _, rfl, ite2 (fun c2 => ?_) (fun c2 => ?_)⟩
  · -- extra[..]
    refine ⟨.ref e, rfl, .ref d, rfl, d, l, 7, rfl, hD3, by decide, by decide, fun y H4 hy0 hy1 hD4 b10 k10 => ?_⟩
    obtain ⟨t, n, h, hat2, bt⟩ := pick y hy0 hy1
    refine ⟨e, _, _, _, rfl, rfl, .of (AF.but_one b10 ee3 ned), hat2, ?_⟩
    refine q (.ref t) (.blk n h) H4 ((bt.k k9).k k10) ?_ ?_ hD4 (bH3.trans b10) (kH3.trans k10)
    · simp [AF.Box.pre]
    · simp [AF.Box.depth]
  refine ⟨.int f, rfl, rfl, _, rfl, ite2 (fun c3 => ?_) (fun c3 => ?_)⟩
  · -- _law_nested
    refine ⟨.ref d, rfl, d, l, 3, rfl, hD3, by decide, by decide, fun y H4 hy0 hy1 hD4 b10 k10 => ?_⟩
    refine ⟨_, _, rfl, rfl, _, _, rfl, by omega, by omega, fun w H5 s5 bw5 => ?_⟩
    have hl := AF.Box.nest_len 950 (3 + y).toNat
    have hd := AF.Box.nest_dep 950 (3 + y).toNat
    exact q w _ H5 bw5 (by omega) (by omega) (AF.DrawAt.same hD4 s5) ((bH3.trans b10).trans (.of s5)) ((kH3.trans k10).trans (AF.Same.keepT s5))
  refine ⟨.int f, rfl, rfl, _, rfl, ite2 (fun c4 => ?_) (fun c4 => ?_)⟩
  · -- document[:2] + (height,) + document[3:]
    refine ⟨.ref a3, rfl, 2, rfl, AF.slA_ok (zs := [.str "scroller", .int rn]) h31 rfl fun p H4 s4 ep => ?_⟩
    refine ⟨1, rfl, (by show 4 ≤ sizeLine; decide), fun g ng => ?_⟩
    have s5 := AF.same_new ng (.lst [.int 1000, .int 1001, .int 0, .int (-1)])
    have hD5 := AF.DrawAt.same (AF.DrawAt.same hD3 s4) s5
    refine ⟨.ref d, rfl, d, l, 4, rfl, hD5, by decide, by decide, fun y H6 hy0 hy1 hD6 b10 k10 => ?_⟩
    have eg : H6 g = some (.lst [.int 1000, .int 1001, .int 0, .int (-1)]) := AF.but_one b10 upd_same (by
      obtain ⟨xs, h⟩ := AF.DrawAt.lst (AF.DrawAt.same hD3 s4)
      exact (ne_of_none h ng).symm)
    obtain ⟨z, hz⟩ : ∃ z : Int, atI [V.int 1000, .int 1001, .int 0, .int (-1)] y = some (.int z) := by
      have hc : y = 0 ∨ y = 1 ∨ y = 2 ∨ y = 3 := by omega
      rcases hc with rfl | rfl | rfl | rfl
      · exact ⟨_, rfl⟩
      · exact ⟨_, rfl⟩
      · exact ⟨_, rfl⟩
      · exact ⟨_, rfl⟩
    refine ⟨g, _, _, _, rfl, rfl, .of eg, hz, (by show 1 ≤ sizeLine; decide), fun o no => ?_⟩
    have s7 := AF.same_new no (.tup [.int z])
    have kt : AF.KeepT H3 (upd H6 o (.tup [.int z])) := ((AF.Same.keepT s4).trans (AF.Same.keepT s5)).trans (k10.trans (AF.Same.keepT s7))
    refine AF.catA_ok (s7 _ _ (k10 _ _ (s5 _ _ ep))) upd_same (by show 2 + 1 ≤ 1000; omega) fun p2 H8 s8 ep2 => ?_
    have kt8 := kt.trans (AF.Same.keepT s8)
    refine ⟨.ref a3, rfl, 3, rfl, ?_⟩
    dsimp only [tNoPart]
    refine AF.slA_ok (zs := [.ref p3]) (kt8 _ _ h31) rfl fun p4 H9 s9 ep4 => ?_
    refine AF.catA_ok (s9 _ _ ep2) ep4 (by show 3 + 1 ≤ 1000; omega) fun p6 H10 s10 ep6 => ?_
    have kt10 := (kt8.trans (AF.Same.keepT s9)).trans (AF.Same.keepT s10)
    have sB := s7.trans (s8.trans (s9.trans s10))
    refine root rn z ps p6 p3 us H10 ep6 (kt10 _ _ h32) (bp.k kt10) (by omega) (by omega) (AF.DrawAt.same hD6 sB) ?_ (kH3.trans kt10)
    exact (bH3.trans (.of (s4.trans s5))).trans (b10.trans (.of sB))
  · -- many blocks
    refine ⟨.ref a3, rfl, 3, rfl, AF.slA_ok (zs := [.str "scroller", .int rn, .int rh]) h31 rfl fun p H4 s4 ep => ?_⟩
    have hD4 := AF.DrawAt.same hD3 s4
    refine ⟨.ref d, rfl, d, l, 3, rfl, hD4, by decide, by decide, fun y H5 hy0 hy1 hD5 b10 k10 => ?_⟩
    refine ⟨_, _, rfl, rfl, _, rfl, by omega, by omega, fun D nD => ?_⟩
    refine lc_range (lo := 0) (n := (38 + y).toNat) (Pv := fun i H6 => ∃ (zs : List V) (cs : List AF.Box), Same H5 H6 ∧ H6 D = some (.lst zs) ∧ AF.BoxesAt H6 zs cs ∧ cs.length = i ∧ (AF.Box.preL cs).length = i ∧ AF.Box.depthL cs = 0) ?_ ?_ ?_
    · exact ⟨[], [], AF.same_new nD _, upd_same, .nil, rfl, by simp [AF.Box.preL], by simp [AF.Box.depthL]⟩
    · rintro i H6 hi6 ⟨zs, cs, s6, eD, bz, hcl, hpl, hdl⟩
      have hzl := bz.len
      refine ⟨rfl, .int (0 + (i : Int)), rfl, _, _, rfl, rfl, l3, fun o no => ?_⟩
      have s7 := AF.same_new no (.tup [.str "block", .int (100 + (0 + (i : Int))), .int 1])
      have eD7 := s7 _ _ eD
      have kk := AF.keepT_upd eD7 (.lst (zs ++ [.ref o]))
      refine ⟨zs, eD7, small1000 (by omega), zs ++ [.ref o], cs ++ [.blk (100 + (0 + (i : Int))) 1], AF.same_upd (s6.trans s7) nD _, upd_same, ((bz.s s7).k kk).append (.one ((AF.BoxAt.mkB upd_same).k kk)), by rw [List.length_append, hcl]; rfl, ?_, ?_⟩
      · rw [AF.Box.preL_append, List.length_append, hpl]
        simp [AF.Box.preL, AF.Box.pre]
      · rw [AF.Box.depthL_append, hdl]
        simp [AF.Box.depthL, AF.Box.depth]
    · rintro H6 ⟨zs, cs, s6, eD, bz, hcl, hpl, hdl⟩
      refine ⟨D, zs, rfl, .inl ⟨.of eD, fun t nt => ⟨(by show 1 ≤ sizeLine; decide), fun o no => ?_⟩⟩⟩
      have s7 := AF.same_new nt (.tup zs)
      have s8 := AF.same_new no (.tup [.ref t])
      have ep8 := s8 _ _ (s7 _ _ (s6 _ _ (k10 _ _ ep)))
      refine AF.catA_ok ep8 upd_same (by show 3 + 1 ≤ 1000; omega) fun p6 H9 s9 ep6 => ?_
      have sB := s6.trans (s7.trans (s8.trans s9))
      refine root rn rh cs p6 t zs H9 ep6 (s9 _ _ (s8 _ _ upd_same)) (((bz.s s7).s s8).s s9) (by omega) (by omega) (AF.DrawAt.same hD5 sB) ?_ ?_
      · exact (bH3.trans (.of s4)).trans (b10.trans (.of sB))
      · exact (kH3.trans (AF.Same.keepT s4)).trans (k10.trans (AF.Same.keepT sB))

end
end K01
namespace K01
open PySem PySem.Spec PyProof.Rows L2
section
variable {P : Program} {w : World} {K : PySem.W.Frag} {mg : Str → Option Value} {base : Heap}
/-! ### the law -/
theorem ok_all (T : Tx K mg) : FnOk P w K mg base CX0 10 T.d_law.f T.d_law.fd ["script"] (AF.spLaw K) := by
  have G_law_draw := ok_law_draw (P := P) (w := w) (base := base) T
  have G_law_document := ok_law_document (P := P) (w := w) (base := base) T
  have G_law_all := ok_law_all (P := P) (w := w) (base := base) T 7
  have G_law_same := ok_law_same (P := P) (w := w) (base := base) T 9
  have G_all_boxes := ok_all_boxes (P := P) (w := w) (base := base) T
  have G_is_document := ok_is_document (P := P) (w := w) (base := base) T
  have G_law_is_document := ok_law_is_document (P := P) (w := w) (base := base) T
  have G_find := ok_find (P := P) (w := w) (base := base) T
  have G_law_named := ok_law_named (P := P) (w := w) (base := base) T
  have G_parent_of := ok_parent_of (P := P) (w := w) (base := base) T
  have G_law_faulty := ok_law_faulty (P := P) (w := w) (base := base) T
  refine T.d_law.F.ok sc_law (fun vs H Q E h => ?_) (fun cdv A outer s H vs Q E hr h => ?_)
  · obtain ⟨_, _, rfl, _⟩ := h
    rfl
  obtain ⟨a, ns, rfl, hS, h63, q⟩ := h
  refine ⟨_, (pss_cons (ps_set (i := 1) sc_law.nd rfl (Or.inl rfl) (AF.cal T.d_law_draw G_law_draw (hr.mono (by omega)) (pa_cons (pv 0) pa_nil)))
      (pss_cons (ps_for PassesOwn.never rfl (pi_range1 (by rfl) T.z_range (pa_cons pe_int pa_nil)) (pg_name (i := 2) sc_law.nd rfl (Or.inl rfl))
      (pss_cons (ps_set (i := 3) sc_law.nd rfl (Or.inl rfl) (AF.cal T.d_law_document G_law_document (hr.mono (by omega)) (pa_cons (pv 1) pa_nil)))
      (pss_cons (ps_set (i := 4) sc_law.nd rfl (Or.inl rfl) (AF.cal T.d_law_all G_law_all (hr.mono (by omega)) (pa_cons (pv 3) pa_nil)))
      (pss_cons (ps_if (PW.pt (pw_or (pt_not (pt_val (AF.cal T.d_law_same G_law_same (hr.mono (by omega)) (pa_cons (AF.cal T.d_all_boxes G_all_boxes (hr.mono (by omega)) (pa_cons (pv 3) pa_nil)) (pa_cons (pv 4) pa_nil))))) (pw_or1 (pt_not (pt_val (AF.cal T.d_law_same G_law_same (hr.mono (by omega)) (pa_cons (AF.cal T.d_is_document G_is_document (hr.mono (by omega)) (pa_cons (pv 3) pa_nil)) (pa_cons pe_bl pa_nil))))))))
      (pss_one (ps_ret pe_bl))
      pss_nil)
      (pss_cons (ps_for PassesOwn.never rfl (AF.piL K rfl (pe_op op_cat (pe_lc (own := [("box", 8)]) (g := gName 8) rfl sc_law.nd (AF.piL K rfl (pv 4)) (blkOk_by (own := [("box", 8)]) (N := ["script", "draw", "turn", "document", "boxes", "number", "faulty", "parents", "box", "part"]) (sc := defScope s_law) (by decide +kernel)) (fun _ _ _ _ _ => (pg_name (i := 8) sc_law.nd rfl (Or.inl rfl))) (fun _ _ _ _ _ => pts_nil) (fun _ _ _ _ _ => (pe_ix (AF.ixT K rfl) (pv 8) pe_int (fun _ _ => rfl)))) (pe_lst (pa_cons pe_int (pa_cons pe_int pa_nil))))) (pg_name (i := 5) sc_law.nd rfl (Or.inr rfl))
      (pss_cons (ps_setLc (i := 7) (own := [("box", 8)]) (g := gName 8) rfl sc_law.nd rfl rfl (sw_true rfl rfl rfl (by decide +kernel)) (AF.piL K rfl (pv 4)) (blkOk_by (own := [("box", 8)]) (N := ["script", "draw", "turn", "document", "boxes", "number", "faulty", "parents", "box", "part"]) (sc := defScope s_law) (by decide +kernel)) (fun _ _ _ _ _ => (pg_name (i := 8) sc_law.nd rfl (Or.inl rfl))) (fun _ _ _ _ _ => pts_one (PW.pt (pw_and (pt_cmpR op_eq (pe_ix (AF.ixT K rfl) (pv 8) pe_int (fun _ _ => rfl)) pe_str (nomark _)) (pw_and1 (pt_cmpR (AF.inK K rfl) (pv 5) (pe_lc (own := [("part", 9)]) (g := gName 9) rfl sc_law.nd (AF.piT K rfl (pe_ix (AF.ixT K rfl) (pv 8) pe_int (fun _ _ => rfl))) (blkOk_by (by kernel_rfl)) (fun _ _ _ _ _ => (pg_name (i := 9) sc_law.nd rfl (Or.inl rfl))) (fun _ _ _ _ _ => pts_nil) (fun _ _ _ _ _ => (pe_ix (AF.ixT K rfl) (pv 9) pe_int (fun _ _ => rfl)))) (by rfl)))))) (fun _ _ _ _ _ => (pe_ix (AF.ixT K rfl) (pv 8) pe_int (fun _ _ => rfl))))
      (pss_cons (ps_if (pt_not (pt_val (AF.cal T.d_law_same G_law_same (hr.mono (by omega)) (pa_cons (AF.cal T.d_find G_find (hr.mono (by omega)) (pa_cons (pv 3) (pa_cons (pv 5) pa_nil))) (pa_cons (AF.cal T.d_law_named G_law_named (hr.mono (by omega)) (pa_cons (pv 3) (pa_cons (pv 5) pa_nil))) pa_nil)))))
      (pss_one (ps_ret pe_bl))
      pss_nil)
      (pss_one (ps_if (pt_not (pt_val (AF.cal T.d_law_same G_law_same (hr.mono (by omega)) (pa_cons (AF.cal T.d_parent_of G_parent_of (hr.mono (by omega)) (pa_cons (pv 3) (pa_cons (pv 5) pa_nil))) (pa_cons (pe_ifExp (AF.truK K rfl (pv 7)) (pe_ix (AF.ixL K rfl) (pv 7) pe_int (fun _ _ => rfl)) pe_non) pa_nil)))))
      (pss_one (ps_ret pe_bl))
      pss_nil)))))
      (pss_cons (ps_set (i := 6) sc_law.nd rfl (Or.inl rfl) (AF.cal T.d_law_faulty G_law_faulty (hr.mono (by omega)) (pa_cons (pv 1) (pa_cons (pv 3) pa_nil))))
      (pss_one (ps_if (pt_not (pt_val (AF.cal T.d_law_same G_law_same (hr.mono (by omega)) (pa_cons (AF.cal T.d_is_document G_is_document (hr.mono (by omega)) (pa_cons (pv 6) pa_nil)) (pa_cons (AF.cal T.d_law_is_document G_law_is_document (hr.mono (by omega)) (pa_cons (pv 6) pa_nil)) pa_nil)))))
      (pss_one (ps_ret pe_bl))
      pss_nil))))))))
      (pss_one (ps_ret pe_bl)))), ?_⟩
  refine ⟨.ref a, rfl, a, ns, rfl, hS, fun d l H1 s1 nd nl hD => ?_⟩
  refine ⟨4, rfl, by decide, by decide, ?_⟩
  refine for_range (lo := 0) (n := 4) (Pv := fun i σ H3 => ∃ x2 x3 x4 x5 x6 x7 x8 x9 : Option V, σ = [some (.ref a), some (.ref d), x2, x3, x4, x5, x6, x7, x8, x9] ∧ AF.DrawAt H3 d l) ?_ ?_ ?_
  · exact ⟨none, none, none, none, none, none, none, none, rfl, hD⟩
  · rintro i σ H2 hi ⟨x2, x3, x4, x5, x6, x7, x8, x9, rfl, hD2⟩
    refine ⟨.ref d, rfl, d, l, rfl, hD2, fun v b H3 bv dc hD3 b3 k3 => ?_⟩
    have hlen := dc.len
    have hdep := dc.dep
    refine ⟨v, rfl, v, b, rfl, bv, by omega, by omega, fun l2 ws H4 s4 nl2 el2 bw => ?_⟩
    have hw := bw.len
    -- all_boxes(document), boxes
    have hdL : AF.Box.depthL b.pre ≤ 3 := AF.Box.depthL_pre _ _ fun c hc => Nat.le_trans (AF.Box.pre_dep b c hc) hdep
    have hdd : AF.dd (.list (AF.Box.pyL b.pre)) < 9 := by
      have := AF.dd_pyL b.pre
      simp only [AF.dd]
      omega
    have hwd : AF.wd (.list (AF.Box.pyL b.pre)) ≤ 1000 := by
      have h1 := AF.Box.wd_pyL b.pre
      have h2 : (AF.Box.pyL b.pre).length = b.pre.length := by rw [AF.Box.pyL_eq, List.length_map]
      have h3 : (AF.Box.preL b.pre).length ≤ 29 * 29 := by
        have key : ∀ l : List AF.Box, (∀ c ∈ l, c.pre.length ≤ 29) → (AF.Box.preL l).length ≤ l.length * 29 := by
          intro l
          induction l with
          | nil => intro _; simp [AF.Box.preL]
          | cons c r ih =>
            intro h
            have h1 := h c List.mem_cons_self
            have h2 := ih fun c hc => h c (List.mem_cons_of_mem _ hc)
            simp only [AF.Box.preL, List.length_append, List.length_cons]
            omega
        have h4 := key b.pre fun c hc => Nat.le_trans (AF.Box.pre_mem_len b c hc) hlen
        omega
      simp only [AF.wd]
      omega
    refine ⟨v, rfl, v, b, rfl, bv.s s4, by omega, fun l3 ws3 H5 s5 nl3 el3 bw3 => ?_⟩
    refine ⟨.ref l2, rfl, .ref l3, .ref l2, .list (AF.Box.pyL b.pre), rfl, .lst (.of el3) (AF.BoxesAt.dp _ _ bw3), .lst (.of (s5 _ _ el2)) (AF.BoxesAt.dp _ _ (bw.s s5)), hdd, hwd, fun H6 s6 => ?_⟩
    refine ⟨_, rfl, iteF ?_⟩
    -- is_document(document)
    have s36 := (s4.trans s5).trans s6
    refine ⟨v, rfl, v, b, rfl, bv.s s36, by omega, fun k H7 s7 hk => ?_⟩
    have ek : k = true := hk.mpr dc.isDoc
    subst ek
    refine ⟨.bl true, .bl true, .bool true, rfl, .bl _, .bl _, by simp [AF.dd], by simp [AF.wd], fun H8 s8 => ?_⟩
    refine ⟨_, rfl, iteF ?_⟩
    have s38 := (s36.trans s7).trans s8
    have s48 := ((s5.trans s6).trans s7).trans s8
    have el8 := s48 _ _ el2
    have bw8 := bw.s s48
    -- the numbers
    refine ⟨.ref l2, rfl, l2, rfl, ⟨ws, .of el8⟩, fun D nD => ?_⟩
    refine lc_list (xs := ws) (Pv := fun i H9 => Same H8 H9 ∧ H9 D = some (.lst (((b.pre.map AF.Box.num).take i).map V.int))) ?_ ?_ ?_ ?_
    · exact ⟨AF.same_new nD _, upd_same⟩
    · rintro i H9 _ ⟨s9, _⟩
      exact .of (s9 _ _ el8)
    · rintro i y H9 hy ⟨s9, eD⟩
      obtain ⟨c, hc, by_⟩ := bw8.get hy
      obtain ⟨a7, xs7, ey, ha7, e7⟩ := (by_.s s9).tup
      have i1 : xs7[1]? = some (.int c.num) := by
        have := congrArg (fun l => l[1]?) e7
        simpa using this
      refine ⟨rfl, y, rfl, a7, _, _, _, ey, rfl, .of ha7, atI_nat (j := 1) i1, _, eD, ?_, AF.same_upd s9 nD _, ?_⟩
      · rw [List.length_map, List.length_take, List.length_map]
        exact small1000 (by omega)
      · rw [upd_same, List.take_add_one, List.getElem?_map, hc, List.map_append]
        rfl
    rintro H9 ⟨s9, eD⟩
    rw [hw, ← List.length_map (f := AF.Box.num), List.take_length] at eD
    refine ⟨(by show 2 ≤ sizeLine; decide), fun z nz => ?_⟩
    have s10 := AF.same_new nz (.lst [.int 0, .int 777])
    refine ⟨D, z, _, _, rfl, rfl, s10 _ _ eD, upd_same, ?_, fun r nr => ?_⟩
    · rw [List.length_map, List.length_map]
      exact Nat.le_of_lt (small1000 (by show b.pre.length + 2 ≤ 1000; omega))
    have s11 := AF.same_new nr (.lst ((b.pre.map AF.Box.num).map V.int ++ [.int 0, .int 777]))
    have er : (upd (upd H9 z (.lst [.int 0, .int 777])) r (.lst ((b.pre.map AF.Box.num).map V.int ++ [.int 0, .int 777]))) r = some (.lst ((b.pre.map AF.Box.num ++ [0, 777]).map V.int)) := by
      rw [upd_same, List.map_append]
      rfl
    have s811 := (s9.trans s10).trans s11
    refine ⟨r, rfl, ⟨_, .of er⟩, ?_⟩
    generalize hHr : upd (upd H9 z (.lst [.int 0, .int 777])) r (.lst ((b.pre.map AF.Box.num).map V.int ++ [.int 0, .int 777])) = Hr at *
    have hDr := AF.DrawAt.same hD3 (s38.trans s811)
    have elr := s811 _ _ el8
    have bwr := bw8.s s811
    have bvr := bv.s (s38.trans s811)
    refine for_list (xs := (b.pre.map AF.Box.num ++ [0, 777]).map V.int) (Pv := fun j σ H12 => ∃ x5 x6 x7 x8 x9 : Option V, σ = [some (.ref a), some (.ref d), some (.int (0 + (i : Int))), some v, some (.ref l2), x5, x6, x7, x8, x9] ∧ Same Hr H12) ?_ ?_ ?_ ?_
    · exact ⟨x5, x6, x7, x8, x9, rfl, .refl _⟩
    · rintro j σ H12 _ ⟨_, _, _, _, _, _, s12⟩
      exact .of (s12 _ _ er)
    · rintro j u σ H12 hu ⟨x5, x6, x7, x8, x9, rfl, s12⟩
      obtain ⟨n, rfl⟩ : ∃ n : Int, u = .int n := by
        rw [List.getElem?_map] at hu
        cases hq : (b.pre.map AF.Box.num ++ [0, 777])[j]? with
        | none =>
          rw [hq] at hu
          cases hu
        | some n =>
          rw [hq] at hu
          exact ⟨n, (Option.some.inj hu).symm⟩
      -- parents
      refine ⟨.ref l2, rfl, l2, rfl, ⟨ws, .of (s12 _ _ elr)⟩, fun D3 nD3 => ?_⟩
      refine lc_list (xs := ws) (Pv := fun k H13 => ∃ ms : List Int, Same H12 H13 ∧ H13 D3 = some (.lst (ms.map V.int)) ∧ ms = ((b.pre.take k).filter (AF.Box.hasNum n)).map AF.Box.num ∧ ms.length ≤ k) ?_ ?_ ?_ ?_
      · exact ⟨[], AF.same_new nD3 _, upd_same, rfl, Nat.le_refl _⟩
      · rintro k H13 _ ⟨_, s13, _⟩
        exact .of (s13 _ _ (s12 _ _ elr))
      · rintro k y H13 hy ⟨ms, s13, eD3, ems, hml⟩
        obtain ⟨c, hc, by_⟩ := bwr.get hy
        have hk := (List.getElem?_eq_some_iff.mp hc).1
        have by13 := by_.s (s12.trans s13)
        obtain ⟨a7, xs7, ey, ha7, e7⟩ := by13.tup
        have i0 : xs7[0]? = some (.str c.kind) := by
          have := congrArg (fun l => l[0]?) e7
          simpa using this
        have i1 : xs7[1]? = some (.int c.num) := by
          have := congrArg (fun l => l[1]?) e7
          simpa using this
        have et : ((b.pre.take (k + 1)).filter (AF.Box.hasNum n)).map AF.Box.num = ms ++ (if AF.Box.hasNum n c = true then [c.num] else []) := by
          rw [List.take_add_one, hc, List.filter_append, List.map_append, ← ems]
          show ms ++ ([c].filter (AF.Box.hasNum n)).map AF.Box.num = _
          by_cases e : AF.Box.hasNum n c = true
          · rw [if_pos e]
            simp [e]
          · rw [if_neg e]
            simp [e]
        refine ⟨rfl, y, rfl, a7, _, _, _, ey, rfl, .of ha7, atI_nat (j := 0) i0, rfl, _, rfl, ?_⟩
        cases c with
        | blk m g =>
          have hno : AF.Box.hasNum n (.blk m g) = false := rfl
          refine AF.iteN (by intro z; cases (of_decide_eq_true z)) ?_
          refine iteF ⟨ms, s13, eD3, ?_, Nat.le_succ_of_le hml⟩
          rw [et, hno]
          simp
        | scr m g ps =>
          refine iteT ?_
          obtain ⟨a8, p8, us, e8, h1, h2, bp⟩ := by13.scr
          have hus := bp.len
          have hps : ps.length ≤ 4 := dc.kids _ (List.mem_of_getElem? hc)
          refine ⟨.int n, rfl, y, rfl, a8, _, _, _, e8, rfl, .of h1, atI_nat (j := 3) rfl, p8, rfl, ⟨us, .of h2⟩, fun D4 nD4 => ?_⟩
          refine lc_tup (xs := us) (Pv := fun t H14 => Same H13 H14 ∧ H14 D4 = some (.lst (((ps.map AF.Box.num).take t).map V.int))) ?_ ?_ ?_ ?_
          · exact ⟨AF.same_new nD4 _, upd_same⟩
          · rintro t H14 _ ⟨s14, _⟩
            exact .of (s14 _ _ h2)
          · rintro t y2 H14 hy2 ⟨s14, eD4⟩
            obtain ⟨c2, hc2, bc2⟩ := bp.get hy2
            obtain ⟨a9, xs9, ey9, ha9, e9⟩ := (bc2.s s14).tup
            have i9 : xs9[1]? = some (.int c2.num) := by
              have := congrArg (fun l => l[1]?) e9
              simpa using this
            refine ⟨rfl, y2, rfl, a9, _, _, _, ey9, rfl, .of ha9, atI_nat (j := 1) i9, _, eD4, ?_, AF.same_upd s14 nD4 _, ?_⟩
            · rw [List.length_map, List.length_take, List.length_map]
              exact small1000 (by omega)
            · rw [upd_same, List.take_add_one, List.getElem?_map, hc2, List.map_append]
              rfl
          · rintro H14 ⟨s14, eD4⟩
            rw [hus, ← List.length_map (f := AF.Box.num), List.take_length] at eD4
            have hin := AF.inV_ints n (ps.map AF.Box.num)
            have hiff : AF.Box.hasNum n (.scr m g ps) = true ↔ n ∈ ps.map AF.Box.num := AF.Box.hasNum_iff
            refine ⟨D4, _, rfl, .inl (.of eD4), rfl, AF.flat_ints _, _, rfl, ite2 (fun cc => ?_) (fun cc => ?_)⟩
            · refine ⟨y, rfl, a7, _, _, _, ey, rfl, .of (s14 _ _ ha7), atI_nat (j := 1) i1, _, s14 _ _ eD3, ?_, ms ++ [m], AF.same_upd (s13.trans s14) nD3 _, ?_, ?_, ?_⟩
              · rw [List.length_map]
                exact small1000 (by omega)
              · rw [upd_same, List.map_append]
                rfl
              · rw [et, if_pos (hiff.mpr (hin.mp cc))]
                rfl
              · rw [List.length_append]
                exact Nat.succ_le_succ hml
            · refine ⟨ms, s13.trans s14, s14 _ _ eD3, ?_, Nat.le_succ_of_le hml⟩
              rw [et, if_neg (fun z => cc (hin.mpr (hiff.mp z))), List.append_nil]
      rintro H13 ⟨ms, s13, eD3, ems, hml⟩
      rw [hw, List.take_length] at ems
      have sr13 := s12.trans s13
      -- find
      refine ⟨v, rfl, .int n, rfl, v, b, n, rfl, bvr.s sr13, by omega, fun w1 H14 s14 o14 => ?_⟩
      refine ⟨v, rfl, .int n, rfl, v, b, n, rfl, (bvr.s sr13).s s14, by omega, by omega, fun w2 H15 s15 o15 => ?_⟩
      have hfd : AF.dd (AF.optPy (b.pre.find? (AF.Box.byNum n))) < 9 ∧ AF.wd (AF.optPy (b.pre.find? (AF.Box.byNum n))) ≤ 1000 := by
        cases hf : b.pre.find? (AF.Box.byNum n) with
        | none => exact ⟨by simp [AF.optPy, AF.dd], by simp [AF.optPy, AF.wd]⟩
        | some c =>
          have hm := List.mem_of_find?_eq_some hf
          have h1 := AF.dd_py c
          have h2 := AF.Box.wd_py c
          have h3 := AF.Box.pre_dep b c hm
          have h4 := AF.Box.pre_mem_len b c hm
          exact ⟨by show AF.dd c.py < 9; omega, by show AF.wd c.py ≤ 1000; omega⟩
      refine ⟨w1, w2, _, rfl, (AF.OptAt.s o14 s15).dp, o15.dp, hfd.1, hfd.2, fun H16 s16 => ?_⟩
      refine ⟨_, rfl, iteF ?_⟩
      have sr16 := ((sr13.trans s14).trans s15).trans s16
      -- parent_of
      refine ⟨v, rfl, .int n, rfl, v, b, n, rfl, bvr.s sr16, by omega, fun H17 s17 => ?_⟩
      have eD17 := s17 _ _ (s16 _ _ (s15 _ _ (s14 _ _ eD3)))
      have hpar : b.parB n = ms.head? := by rw [AF.Box.parB_eq, ems]
      refine ⟨.ref D3, rfl, _, .inl ⟨_, .of eD17, rfl⟩, ?_⟩
      cases ms with
      | nil =>
        refine iteF ?_
        rw [hpar]
        refine ⟨.non, .non, .none, rfl, .non, .non, by simp [AF.dd], by simp [AF.wd], fun H18 s18 => ⟨_, rfl, ?_⟩⟩
        refine iteF ?_
        exact ⟨some (.int n), x6, some (.ref D3), x8, x9, rfl, (sr16.trans s17).trans s18⟩
      | cons m r =>
        refine iteT ?_
        rw [hpar]
        refine ⟨.ref D3, rfl, D3, _, _, _, rfl, rfl, .of eD17, atI_nat (j := 0) rfl, .int m, .int m, .int m, rfl, .int _, .int _, by simp [AF.dd], by simp [AF.wd], fun H18 s18 => ⟨_, rfl, ?_⟩⟩
        refine iteF ?_
        exact ⟨some (.int n), x6, some (.ref D3), x8, x9, rfl, (sr16.trans s17).trans s18⟩
    · rintro σ H12 ⟨x5, x6, x7, x8, x9, rfl, s12⟩
      -- faulty
      refine ⟨.ref d, rfl, v, rfl, d, l, v, b, rfl, AF.DrawAt.same hDr s12, bvr.s s12, dc, fun w c H13 bc hcl hcd hD13 b13 k13 => ?_⟩
      refine ⟨w, rfl, w, c, rfl, bc, by omega, fun k1 H14 s14 hk1 => ?_⟩
      refine ⟨w, rfl, w, c, rfl, bc.s s14, hcd, by omega, fun k2 H15 s15 hk2 => ?_⟩
      have e12 : k1 = k2 := by
        cases k1 <;> cases k2
        · rfl
        · exact absurd (hk1.mpr (hk2.mp rfl)) Bool.false_ne_true
        · exact absurd (hk2.mpr (hk1.mp rfl)) Bool.false_ne_true
        · rfl
      subst e12
      refine ⟨.bl k1, .bl k1, .bool k1, rfl, .bl _, .bl _, by simp [AF.dd], by simp [AF.wd], fun H16 s16 => ?_⟩
      refine ⟨_, rfl, iteF ?_⟩
      exact ⟨_, _, _, _, _, _, _, _, rfl, AF.DrawAt.same hD13 ((s14.trans s15).trans s16)⟩
  · rintro σ H2 ⟨x2, x3, x4, x5, x6, x7, x8, x9, rfl, hD2⟩
    exact q H2

end
end K01
namespace K01
open PySem PySem.Spec PyProof.Rows L2
theorem all_mk {l : PySem.W.OpenLaw} {w : World} {K : PySem.W.Frag} {h : Heap} {mg : Str → Option Value} {fa : Addr} (X : K.In h) (G : h.Ns mainGlobals mg) (hfa : mg "law" = some (.ref fa))
    {f0 : Addr} {od0 an0 : Option Addr} {sl0 : Array (Option Value)} {oc0 kV0 dc0 pm0 cd0 ct0 : Value}
    (a0 : PySem.W.nsIn K mainGlobals "is_scroller" = some (some (.ref f0))) (l0 : K.lookup f0 = some ⟨oc0, od0, .func (PySem.W.fnOf "is_scroller" "is_scroller" (defArgs s_is_scroller) (defBody s_is_scroller) (defScope s_is_scroller) .none kV0 dc0 pm0 an0 cd0 ct0), sl0⟩)
    (c0 : PySem.W.codeIn K cd0 "is_scroller" = true) (k0 : PySem.W.keepIn K (.ref f0) = true)
    {f1 : Addr} {od1 an1 : Option Addr} {sl1 : Array (Option Value)} {oc1 kV1 dc1 pm1 cd1 ct1 : Value}
    (a1 : PySem.W.nsIn K mainGlobals "number_of" = some (some (.ref f1))) (l1 : K.lookup f1 = some ⟨oc1, od1, .func (PySem.W.fnOf "number_of" "number_of" (defArgs s_number_of) (defBody s_number_of) (defScope s_number_of) .none kV1 dc1 pm1 an1 cd1 ct1), sl1⟩)
    (c1 : PySem.W.codeIn K cd1 "number_of" = true) (k1 : PySem.W.keepIn K (.ref f1) = true)
    {f2 : Addr} {od2 an2 : Option Addr} {sl2 : Array (Option Value)} {oc2 kV2 dc2 pm2 cd2 ct2 : Value}
    (a2 : PySem.W.nsIn K mainGlobals "height_of" = some (some (.ref f2))) (l2 : K.lookup f2 = some ⟨oc2, od2, .func (PySem.W.fnOf "height_of" "height_of" (defArgs s_height_of) (defBody s_height_of) (defScope s_height_of) .none kV2 dc2 pm2 an2 cd2 ct2), sl2⟩)
    (c2 : PySem.W.codeIn K cd2 "height_of" = true) (k2 : PySem.W.keepIn K (.ref f2) = true)
    {f3 : Addr} {od3 an3 : Option Addr} {sl3 : Array (Option Value)} {oc3 kV3 dc3 pm3 cd3 ct3 : Value}
    (a3 : PySem.W.nsIn K mainGlobals "parts_of" = some (some (.ref f3))) (l3 : K.lookup f3 = some ⟨oc3, od3, .func (PySem.W.fnOf "parts_of" "parts_of" (defArgs s_parts_of) (defBody s_parts_of) (defScope s_parts_of) .none kV3 dc3 pm3 an3 cd3 ct3), sl3⟩)
    (c3 : PySem.W.codeIn K cd3 "parts_of" = true) (k3 : PySem.W.keepIn K (.ref f3) = true)
    {f4 : Addr} {od4 an4 : Option Addr} {sl4 : Array (Option Value)} {oc4 kV4 dc4 pm4 cd4 ct4 : Value}
    (a4 : PySem.W.nsIn K mainGlobals "all_boxes" = some (some (.ref f4))) (l4 : K.lookup f4 = some ⟨oc4, od4, .func (PySem.W.fnOf "all_boxes" "all_boxes" (defArgs s_all_boxes) (defBody s_all_boxes) (defScope s_all_boxes) .none kV4 dc4 pm4 an4 cd4 ct4), sl4⟩)
    (c4 : PySem.W.codeIn K cd4 "all_boxes" = true) (k4 : PySem.W.keepIn K (.ref f4) = true)
    {f5 : Addr} {od5 an5 : Option Addr} {sl5 : Array (Option Value)} {oc5 kV5 dc5 pm5 cd5 ct5 : Value}
    (a5 : PySem.W.nsIn K mainGlobals "find" = some (some (.ref f5))) (l5 : K.lookup f5 = some ⟨oc5, od5, .func (PySem.W.fnOf "find" "find" (defArgs s_find) (defBody s_find) (defScope s_find) .none kV5 dc5 pm5 an5 cd5 ct5), sl5⟩)
    (c5 : PySem.W.codeIn K cd5 "find" = true) (k5 : PySem.W.keepIn K (.ref f5) = true)
    {f6 : Addr} {od6 an6 : Option Addr} {sl6 : Array (Option Value)} {oc6 kV6 dc6 pm6 cd6 ct6 : Value}
    (a6 : PySem.W.nsIn K mainGlobals "parent_of" = some (some (.ref f6))) (l6 : K.lookup f6 = some ⟨oc6, od6, .func (PySem.W.fnOf "parent_of" "parent_of" (defArgs s_parent_of) (defBody s_parent_of) (defScope s_parent_of) .none kV6 dc6 pm6 an6 cd6 ct6), sl6⟩)
    (c6 : PySem.W.codeIn K cd6 "parent_of" = true) (k6 : PySem.W.keepIn K (.ref f6) = true)
    {f7 : Addr} {od7 an7 : Option Addr} {sl7 : Array (Option Value)} {oc7 kV7 dc7 pm7 cd7 ct7 : Value}
    (a7 : PySem.W.nsIn K mainGlobals "is_number" = some (some (.ref f7))) (l7 : K.lookup f7 = some ⟨oc7, od7, .func (PySem.W.fnOf "is_number" "is_number" (defArgs s_is_number) (defBody s_is_number) (defScope s_is_number) .none kV7 dc7 pm7 an7 cd7 ct7), sl7⟩)
    (c7 : PySem.W.codeIn K cd7 "is_number" = true) (k7 : PySem.W.keepIn K (.ref f7) = true)
    {f8 : Addr} {od8 an8 : Option Addr} {sl8 : Array (Option Value)} {oc8 kV8 dc8 pm8 cd8 ct8 : Value}
    (a8 : PySem.W.nsIn K mainGlobals "is_height" = some (some (.ref f8))) (l8 : K.lookup f8 = some ⟨oc8, od8, .func (PySem.W.fnOf "is_height" "is_height" (defArgs s_is_height) (defBody s_is_height) (defScope s_is_height) .none kV8 dc8 pm8 an8 cd8 ct8), sl8⟩)
    (c8 : PySem.W.codeIn K cd8 "is_height" = true) (k8 : PySem.W.keepIn K (.ref f8) = true)
    {f9 : Addr} {od9 an9 : Option Addr} {sl9 : Array (Option Value)} {oc9 kV9 dc9 pm9 cd9 ct9 : Value}
    (a9 : PySem.W.nsIn K mainGlobals "scrollers_within" = some (some (.ref f9))) (l9 : K.lookup f9 = some ⟨oc9, od9, .func (PySem.W.fnOf "scrollers_within" "scrollers_within" (defArgs s_scrollers_within) (defBody s_scrollers_within) (defScope s_scrollers_within) .none kV9 dc9 pm9 an9 cd9 ct9), sl9⟩)
    (c9 : PySem.W.codeIn K cd9 "scrollers_within" = true) (k9 : PySem.W.keepIn K (.ref f9) = true)
    {f10 : Addr} {od10 an10 : Option Addr} {sl10 : Array (Option Value)} {oc10 kV10 dc10 pm10 cd10 ct10 : Value}
    (a10 : PySem.W.nsIn K mainGlobals "is_document" = some (some (.ref f10))) (l10 : K.lookup f10 = some ⟨oc10, od10, .func (PySem.W.fnOf "is_document" "is_document" (defArgs s_is_document) (defBody s_is_document) (defScope s_is_document) .none kV10 dc10 pm10 an10 cd10 ct10), sl10⟩)
    (c10 : PySem.W.codeIn K cd10 "is_document" = true) (k10 : PySem.W.keepIn K (.ref f10) = true)
    {f11 : Addr} {od11 an11 : Option Addr} {sl11 : Array (Option Value)} {oc11 kV11 dc11 pm11 cd11 ct11 : Value}
    (a11 : PySem.W.nsIn K mainGlobals "_law_draw" = some (some (.ref f11))) (l11 : K.lookup f11 = some ⟨oc11, od11, .func (PySem.W.fnOf "_law_draw" "_law_draw" (defArgs s_law_draw) (defBody s_law_draw) (defScope s_law_draw) .none kV11 dc11 pm11 an11 cd11 ct11), sl11⟩)
    (c11 : PySem.W.codeIn K cd11 "_law_draw" = true) (k11 : PySem.W.keepIn K (.ref f11) = true)
    {f12 : Addr} {od12 an12 : Option Addr} {sl12 : Array (Option Value)} {oc12 kV12 dc12 pm12 cd12 ct12 : Value}
    (a12 : PySem.W.nsIn K mainGlobals "_law_next" = some (some (.ref f12))) (l12 : K.lookup f12 = some ⟨oc12, od12, .func (PySem.W.fnOf "_law_next" "_law_next" (defArgs s_law_next) (defBody s_law_next) (defScope s_law_next) .none kV12 dc12 pm12 an12 cd12 ct12), sl12⟩)
    (c12 : PySem.W.codeIn K cd12 "_law_next" = true) (k12 : PySem.W.keepIn K (.ref f12) = true)
    {f13 : Addr} {od13 an13 : Option Addr} {sl13 : Array (Option Value)} {oc13 kV13 dc13 pm13 cd13 ct13 : Value}
    (a13 : PySem.W.nsIn K mainGlobals "_law_same" = some (some (.ref f13))) (l13 : K.lookup f13 = some ⟨oc13, od13, .func (PySem.W.fnOf "_law_same" "_law_same" (defArgs s_law_same) (defBody s_law_same) (defScope s_law_same) .none kV13 dc13 pm13 an13 cd13 ct13), sl13⟩)
    (c13 : PySem.W.codeIn K cd13 "_law_same" = true) (k13 : PySem.W.keepIn K (.ref f13) = true)
    {f14 : Addr} {od14 an14 : Option Addr} {sl14 : Array (Option Value)} {oc14 kV14 dc14 pm14 cd14 ct14 : Value}
    (a14 : PySem.W.nsIn K mainGlobals "_law_box" = some (some (.ref f14))) (l14 : K.lookup f14 = some ⟨oc14, od14, .func (PySem.W.fnOf "_law_box" "_law_box" (defArgs s_law_box) (defBody s_law_box) (defScope s_law_box) .none kV14 dc14 pm14 an14 cd14 ct14), sl14⟩)
    (c14 : PySem.W.codeIn K cd14 "_law_box" = true) (k14 : PySem.W.keepIn K (.ref f14) = true)
    {f15 : Addr} {od15 an15 : Option Addr} {sl15 : Array (Option Value)} {oc15 kV15 dc15 pm15 cd15 ct15 : Value}
    (a15 : PySem.W.nsIn K mainGlobals "_law_document" = some (some (.ref f15))) (l15 : K.lookup f15 = some ⟨oc15, od15, .func (PySem.W.fnOf "_law_document" "_law_document" (defArgs s_law_document) (defBody s_law_document) (defScope s_law_document) .none kV15 dc15 pm15 an15 cd15 ct15), sl15⟩)
    (c15 : PySem.W.codeIn K cd15 "_law_document" = true) (k15 : PySem.W.keepIn K (.ref f15) = true)
    {f16 : Addr} {od16 an16 : Option Addr} {sl16 : Array (Option Value)} {oc16 kV16 dc16 pm16 cd16 ct16 : Value}
    (a16 : PySem.W.nsIn K mainGlobals "_law_all" = some (some (.ref f16))) (l16 : K.lookup f16 = some ⟨oc16, od16, .func (PySem.W.fnOf "_law_all" "_law_all" (defArgs s_law_all) (defBody s_law_all) (defScope s_law_all) .none kV16 dc16 pm16 an16 cd16 ct16), sl16⟩)
    (c16 : PySem.W.codeIn K cd16 "_law_all" = true) (k16 : PySem.W.keepIn K (.ref f16) = true)
    {f17 : Addr} {od17 an17 : Option Addr} {sl17 : Array (Option Value)} {oc17 kV17 dc17 pm17 cd17 ct17 : Value}
    (a17 : PySem.W.nsIn K mainGlobals "_law_named" = some (some (.ref f17))) (l17 : K.lookup f17 = some ⟨oc17, od17, .func (PySem.W.fnOf "_law_named" "_law_named" (defArgs s_law_named) (defBody s_law_named) (defScope s_law_named) .none kV17 dc17 pm17 an17 cd17 ct17), sl17⟩)
    (c17 : PySem.W.codeIn K cd17 "_law_named" = true) (k17 : PySem.W.keepIn K (.ref f17) = true)
    {f18 : Addr} {od18 an18 : Option Addr} {sl18 : Array (Option Value)} {oc18 kV18 dc18 pm18 cd18 ct18 : Value}
    (a18 : PySem.W.nsIn K mainGlobals "_law_depth" = some (some (.ref f18))) (l18 : K.lookup f18 = some ⟨oc18, od18, .func (PySem.W.fnOf "_law_depth" "_law_depth" (defArgs s_law_depth) (defBody s_law_depth) (defScope s_law_depth) .none kV18 dc18 pm18 an18 cd18 ct18), sl18⟩)
    (c18 : PySem.W.codeIn K cd18 "_law_depth" = true) (k18 : PySem.W.keepIn K (.ref f18) = true)
    {f19 : Addr} {od19 an19 : Option Addr} {sl19 : Array (Option Value)} {oc19 kV19 dc19 pm19 cd19 ct19 : Value}
    (a19 : PySem.W.nsIn K mainGlobals "_law_is_document" = some (some (.ref f19))) (l19 : K.lookup f19 = some ⟨oc19, od19, .func (PySem.W.fnOf "_law_is_document" "_law_is_document" (defArgs s_law_is_document) (defBody s_law_is_document) (defScope s_law_is_document) .none kV19 dc19 pm19 an19 cd19 ct19), sl19⟩)
    (c19 : PySem.W.codeIn K cd19 "_law_is_document" = true) (k19 : PySem.W.keepIn K (.ref f19) = true)
    {f20 : Addr} {od20 an20 : Option Addr} {sl20 : Array (Option Value)} {oc20 kV20 dc20 pm20 cd20 ct20 : Value}
    (a20 : PySem.W.nsIn K mainGlobals "_law_nested" = some (some (.ref f20))) (l20 : K.lookup f20 = some ⟨oc20, od20, .func (PySem.W.fnOf "_law_nested" "_law_nested" (defArgs s_law_nested) (defBody s_law_nested) (defScope s_law_nested) .none kV20 dc20 pm20 an20 cd20 ct20), sl20⟩)
    (c20 : PySem.W.codeIn K cd20 "_law_nested" = true) (k20 : PySem.W.keepIn K (.ref f20) = true)
    {f21 : Addr} {od21 an21 : Option Addr} {sl21 : Array (Option Value)} {oc21 kV21 dc21 pm21 cd21 ct21 : Value}
    (a21 : PySem.W.nsIn K mainGlobals "_law_faulty" = some (some (.ref f21))) (l21 : K.lookup f21 = some ⟨oc21, od21, .func (PySem.W.fnOf "_law_faulty" "_law_faulty" (defArgs s_law_faulty) (defBody s_law_faulty) (defScope s_law_faulty) .none kV21 dc21 pm21 an21 cd21 ct21), sl21⟩)
    (c21 : PySem.W.codeIn K cd21 "_law_faulty" = true) (k21 : PySem.W.keepIn K (.ref f21) = true)
    {f22 : Addr} {od22 an22 : Option Addr} {sl22 : Array (Option Value)} {oc22 kV22 dc22 pm22 cd22 ct22 : Value}
    (a22 : PySem.W.nsIn K mainGlobals "law" = some (some (.ref f22))) (l22 : K.lookup f22 = some ⟨oc22, od22, .func (PySem.W.fnOf "law" "law" (defArgs s_law) (defBody s_law) (defScope s_law) .none kV22 dc22 pm22 an22 cd22 ct22), sl22⟩)
    (c22 : PySem.W.codeIn K cd22 "law" = true) (k22 : PySem.W.keepIn K (.ref f22) = true)
    {t_LEAST_NUMBER : Tok} (c_LEAST_NUMBER : PySem.W.nsIn K mainGlobals "LEAST_NUMBER" = some (some (.int 1 t_LEAST_NUMBER)))
    {t_GREATEST_NUMBER : Tok} (c_GREATEST_NUMBER : PySem.W.nsIn K mainGlobals "GREATEST_NUMBER" = some (some (.int 999 t_GREATEST_NUMBER)))
    {t_LEAST_HEIGHT : Tok} (c_LEAST_HEIGHT : PySem.W.nsIn K mainGlobals "LEAST_HEIGHT" = some (some (.int 0 t_LEAST_HEIGHT)))
    {t_GREATEST_HEIGHT : Tok} (c_GREATEST_HEIGHT : PySem.W.nsIn K mainGlobals "GREATEST_HEIGHT" = some (some (.int 1000 t_GREATEST_HEIGHT)))
    {t_MOST_BOXES : Tok} (c_MOST_BOXES : PySem.W.nsIn K mainGlobals "MOST_BOXES" = some (some (.int 40 t_MOST_BOXES)))
    {t_MOST_SCROLLERS_WITHIN : Tok} (c_MOST_SCROLLERS_WITHIN : PySem.W.nsIn K mainGlobals "MOST_SCROLLERS_WITHIN" = some (some (.int 4 t_MOST_SCROLLERS_WITHIN)))
    (z_abs : PySem.W.nsIn K mainGlobals "abs" = some none)
    (z_all : PySem.W.nsIn K mainGlobals "all" = some none)
    (z_bool : PySem.W.nsIn K mainGlobals "bool" = some none)
    (z_int : PySem.W.nsIn K mainGlobals "int" = some none)
    (z_isinstance : PySem.W.nsIn K mainGlobals "isinstance" = some none)
    (z_len : PySem.W.nsIn K mainGlobals "len" = some none)
    (z_list : PySem.W.nsIn K mainGlobals "list" = some none)
    (z_max : PySem.W.nsIn K mainGlobals "max" = some none)
    (z_range : PySem.W.nsIn K mainGlobals "range" = some none)
    (z_set : PySem.W.nsIn K mainGlobals "set" = some none)
    (z_str : PySem.W.nsIn K mainGlobals "str" = some none)
    (z_sum : PySem.W.nsIn K mainGlobals "sum" = some none)
    (z_tuple : PySem.W.nsIn K mainGlobals "tuple" = some none)
    : ∃ fd : FuncData, (∀ (s : Shared) (v : Value), BindsTo s fd ⟨[v], []⟩ [("script", v)]) ∧ ∀ base : Heap, K.In base → base.Ns mainGlobals mg → FnOk l.prog w K mg base CX0 10 fa fd ["script"] (AF.spLaw K) := by
  have e := hfa.symm.trans (PySem.W.mg_of X G a22)
  cases e
  let T : Tx K mg := {
    d_is_scroller := ⟨_, _, fun_mk (st := s_is_scroller) l0 c0 k0, (fun_mk (st := s_is_scroller) l0 c0 k0).binds fun _ _ _ _ _ _ us hl => match us, hl with | [_], _ => rfl, PySem.W.mg_of X G a0⟩
    d_number_of := ⟨_, _, fun_mk (st := s_number_of) l1 c1 k1, (fun_mk (st := s_number_of) l1 c1 k1).binds fun _ _ _ _ _ _ us hl => match us, hl with | [_], _ => rfl, PySem.W.mg_of X G a1⟩
    d_height_of := ⟨_, _, fun_mk (st := s_height_of) l2 c2 k2, (fun_mk (st := s_height_of) l2 c2 k2).binds fun _ _ _ _ _ _ us hl => match us, hl with | [_], _ => rfl, PySem.W.mg_of X G a2⟩
    d_parts_of := ⟨_, _, fun_mk (st := s_parts_of) l3 c3 k3, (fun_mk (st := s_parts_of) l3 c3 k3).binds fun _ _ _ _ _ _ us hl => match us, hl with | [_], _ => rfl, PySem.W.mg_of X G a3⟩
    d_all_boxes := ⟨_, _, fun_mk (st := s_all_boxes) l4 c4 k4, (fun_mk (st := s_all_boxes) l4 c4 k4).binds fun _ _ _ _ _ _ us hl => match us, hl with | [_], _ => rfl, PySem.W.mg_of X G a4⟩
    d_find := ⟨_, _, fun_mk (st := s_find) l5 c5 k5, (fun_mk (st := s_find) l5 c5 k5).binds fun _ _ _ _ _ _ us hl => match us, hl with | [_, _], _ => rfl, PySem.W.mg_of X G a5⟩
    d_parent_of := ⟨_, _, fun_mk (st := s_parent_of) l6 c6 k6, (fun_mk (st := s_parent_of) l6 c6 k6).binds fun _ _ _ _ _ _ us hl => match us, hl with | [_, _], _ => rfl, PySem.W.mg_of X G a6⟩
    d_is_number := ⟨_, _, fun_mk (st := s_is_number) l7 c7 k7, (fun_mk (st := s_is_number) l7 c7 k7).binds fun _ _ _ _ _ _ us hl => match us, hl with | [_], _ => rfl, PySem.W.mg_of X G a7⟩
    d_is_height := ⟨_, _, fun_mk (st := s_is_height) l8 c8 k8, (fun_mk (st := s_is_height) l8 c8 k8).binds fun _ _ _ _ _ _ us hl => match us, hl with | [_], _ => rfl, PySem.W.mg_of X G a8⟩
    d_scrollers_within := ⟨_, _, fun_mk (st := s_scrollers_within) l9 c9 k9, (fun_mk (st := s_scrollers_within) l9 c9 k9).binds fun _ _ _ _ _ _ us hl => match us, hl with | [_], _ => rfl, PySem.W.mg_of X G a9⟩
    d_is_document := ⟨_, _, fun_mk (st := s_is_document) l10 c10 k10, (fun_mk (st := s_is_document) l10 c10 k10).binds fun _ _ _ _ _ _ us hl => match us, hl with | [_], _ => rfl, PySem.W.mg_of X G a10⟩
    d_law_draw := ⟨_, _, fun_mk (st := s_law_draw) l11 c11 k11, (fun_mk (st := s_law_draw) l11 c11 k11).binds fun _ _ _ _ _ _ us hl => match us, hl with | [_], _ => rfl, PySem.W.mg_of X G a11⟩
    d_law_next := ⟨_, _, fun_mk (st := s_law_next) l12 c12 k12, (fun_mk (st := s_law_next) l12 c12 k12).binds fun _ _ _ _ _ _ us hl => match us, hl with | [_, _], _ => rfl, PySem.W.mg_of X G a12⟩
    d_law_same := ⟨_, _, fun_mk (st := s_law_same) l13 c13 k13, (fun_mk (st := s_law_same) l13 c13 k13).binds fun _ _ _ _ _ _ us hl => match us, hl with | [_, _], _ => rfl, PySem.W.mg_of X G a13⟩
    d_law_box := ⟨_, _, fun_mk (st := s_law_box) l14 c14 k14, (fun_mk (st := s_law_box) l14 c14 k14).binds fun _ _ _ _ _ _ us hl => match us, hl with | [_, _, _], _ => rfl, PySem.W.mg_of X G a14⟩
    d_law_document := ⟨_, _, fun_mk (st := s_law_document) l15 c15 k15, (fun_mk (st := s_law_document) l15 c15 k15).binds fun _ _ _ _ _ _ us hl => match us, hl with | [_], _ => rfl, PySem.W.mg_of X G a15⟩
    d_law_all := ⟨_, _, fun_mk (st := s_law_all) l16 c16 k16, (fun_mk (st := s_law_all) l16 c16 k16).binds fun _ _ _ _ _ _ us hl => match us, hl with | [_], _ => rfl, PySem.W.mg_of X G a16⟩
    d_law_named := ⟨_, _, fun_mk (st := s_law_named) l17 c17 k17, (fun_mk (st := s_law_named) l17 c17 k17).binds fun _ _ _ _ _ _ us hl => match us, hl with | [_, _], _ => rfl, PySem.W.mg_of X G a17⟩
    d_law_depth := ⟨_, _, fun_mk (st := s_law_depth) l18 c18 k18, (fun_mk (st := s_law_depth) l18 c18 k18).binds fun _ _ _ _ _ _ us hl => match us, hl with | [_], _ => rfl, PySem.W.mg_of X G a18⟩
    d_law_is_document := ⟨_, _, fun_mk (st := s_law_is_document) l19 c19 k19, (fun_mk (st := s_law_is_document) l19 c19 k19).binds fun _ _ _ _ _ _ us hl => match us, hl with | [_], _ => rfl, PySem.W.mg_of X G a19⟩
    d_law_nested := ⟨_, _, fun_mk (st := s_law_nested) l20 c20 k20, (fun_mk (st := s_law_nested) l20 c20 k20).binds fun _ _ _ _ _ _ us hl => match us, hl with | [_, _], _ => rfl, PySem.W.mg_of X G a20⟩
    d_law_faulty := ⟨_, _, fun_mk (st := s_law_faulty) l21 c21 k21, (fun_mk (st := s_law_faulty) l21 c21 k21).binds fun _ _ _ _ _ _ us hl => match us, hl with | [_, _], _ => rfl, PySem.W.mg_of X G a21⟩
    d_law := ⟨_, _, fun_mk (st := s_law) l22 c22 k22, (fun_mk (st := s_law) l22 c22 k22).binds fun _ _ _ _ _ _ us hl => match us, hl with | [_], _ => rfl, PySem.W.mg_of X G a22⟩
    t_LEAST_NUMBER := t_LEAST_NUMBER
    c_LEAST_NUMBER := PySem.W.mg_of X G c_LEAST_NUMBER
    t_GREATEST_NUMBER := t_GREATEST_NUMBER
    c_GREATEST_NUMBER := PySem.W.mg_of X G c_GREATEST_NUMBER
    t_LEAST_HEIGHT := t_LEAST_HEIGHT
    c_LEAST_HEIGHT := PySem.W.mg_of X G c_LEAST_HEIGHT
    t_GREATEST_HEIGHT := t_GREATEST_HEIGHT
    c_GREATEST_HEIGHT := PySem.W.mg_of X G c_GREATEST_HEIGHT
    t_MOST_BOXES := t_MOST_BOXES
    c_MOST_BOXES := PySem.W.mg_of X G c_MOST_BOXES
    t_MOST_SCROLLERS_WITHIN := t_MOST_SCROLLERS_WITHIN
    c_MOST_SCROLLERS_WITHIN := PySem.W.mg_of X G c_MOST_SCROLLERS_WITHIN
    z_abs := PySem.W.mg_none_of X G z_abs
    z_all := PySem.W.mg_none_of X G z_all
    z_bool := PySem.W.mg_none_of X G z_bool
    z_int := PySem.W.mg_none_of X G z_int
    z_isinstance := PySem.W.mg_none_of X G z_isinstance
    z_len := PySem.W.mg_none_of X G z_len
    z_list := PySem.W.mg_none_of X G z_list
    z_max := PySem.W.mg_none_of X G z_max
    z_range := PySem.W.mg_none_of X G z_range
    z_set := PySem.W.mg_none_of X G z_set
    z_str := PySem.W.mg_none_of X G z_str
    z_sum := PySem.W.mg_none_of X G z_sum
    z_tuple := PySem.W.mg_none_of X G z_tuple
  }
  exact ⟨T.d_law.fd, fun s v => .of_eq rfl, fun base _ _ => ok_all T⟩
end K01
open PySem PySem.W PyProof.Rows K01
set_option maxRecDepth 100000 in
set_option maxHeartbeats 0 in
theorem PySem.Challenge.cw_asyncframes_k01_boxes_are_listed_and_che_holds : PySem.Challenge.rw_asyncframes_k01_boxes_are_listed_and_che.Holds := by
  w_on; o_law; k_head; (case hw => w_witness2)
  k_fill
  refine AF.walk_law (k := 10) (l := PySem.Challenge.rw_asyncframes_k01_boxes_are_listed_and_che) rfl rfl (by decide) (fun w h Y => PySem.W.kIn_of Y) ?F
  case F =>
    intro w mg fa h KX G hmg
    refine' all_mk KX G hmg ?a0 ?l0 ?c0 ?k0 ?a1 ?l1 ?c1 ?k1 ?a2 ?l2 ?c2 ?k2 ?a3 ?l3 ?c3 ?k3 ?a4 ?l4 ?c4 ?k4 ?a5 ?l5 ?c5 ?k5 ?a6 ?l6 ?c6 ?k6 ?a7 ?l7 ?c7 ?k7 ?a8 ?l8 ?c8 ?k8 ?a9 ?l9 ?c9 ?k9 ?a10 ?l10 ?c10 ?k10 ?a11 ?l11 ?c11 ?k11 ?a12 ?l12 ?c12 ?k12 ?a13 ?l13 ?c13 ?k13 ?a14 ?l14 ?c14 ?k14 ?a15 ?l15 ?c15 ?k15 ?a16 ?l16 ?c16 ?k16 ?a17 ?l17 ?c17 ?k17 ?a18 ?l18 ?c18 ?k18 ?a19 ?l19 ?c19 ?k19 ?a20 ?l20 ?c20 ?k20 ?a21 ?l21 ?c21 ?k21 ?a22 ?l22 ?c22 ?k22 ?c_LEAST_NUMBER ?c_GREATEST_NUMBER ?c_LEAST_HEIGHT ?c_GREATEST_HEIGHT ?c_MOST_BOXES ?c_MOST_SCROLLERS_WITHIN ?z_abs ?z_all ?z_bool ?z_int ?z_isinstance ?z_len ?z_list ?z_max ?z_range ?z_set ?z_str ?z_sum ?z_tuple
    (case a0 => k_is); (case l0 => k_is); (case c0 => k_is); (case k0 => k_is)
    (case a1 => k_is); (case l1 => k_is); (case c1 => k_is); (case k1 => k_is)
    (case a2 => k_is); (case l2 => k_is); (case c2 => k_is); (case k2 => k_is)
    (case a3 => k_is); (case l3 => k_is); (case c3 => k_is); (case k3 => k_is)
    (case a4 => k_is); (case l4 => k_is); (case c4 => k_is); (case k4 => k_is)
    (case a5 => k_is); (case l5 => k_is); (case c5 => k_is); (case k5 => k_is)
    (case a6 => k_is); (case l6 => k_is); (case c6 => k_is); (case k6 => k_is)
    (case a7 => k_is); (case l7 => k_is); (case c7 => k_is); (case k7 => k_is)
    (case a8 => k_is); (case l8 => k_is); (case c8 => k_is); (case k8 => k_is)
    (case a9 => k_is); (case l9 => k_is); (case c9 => k_is); (case k9 => k_is)
    (case a10 => k_is); (case l10 => k_is); (case c10 => k_is); (case k10 => k_is)
    (case a11 => k_is); (case l11 => k_is); (case c11 => k_is); (case k11 => k_is)
    (case a12 => k_is); (case l12 => k_is); (case c12 => k_is); (case k12 => k_is)
    (case a13 => k_is); (case l13 => k_is); (case c13 => k_is); (case k13 => k_is)
    (case a14 => k_is); (case l14 => k_is); (case c14 => k_is); (case k14 => k_is)
    (case a15 => k_is); (case l15 => k_is); (case c15 => k_is); (case k15 => k_is)
    (case a16 => k_is); (case l16 => k_is); (case c16 => k_is); (case k16 => k_is)
    (case a17 => k_is); (case l17 => k_is); (case c17 => k_is); (case k17 => k_is)
    (case a18 => k_is); (case l18 => k_is); (case c18 => k_is); (case k18 => k_is)
    (case a19 => k_is); (case l19 => k_is); (case c19 => k_is); (case k19 => k_is)
    (case a20 => k_is); (case l20 => k_is); (case c20 => k_is); (case k20 => k_is)
    (case a21 => k_is); (case l21 => k_is); (case c21 => k_is); (case k21 => k_is)
    (case a22 => k_is); (case l22 => k_is); (case c22 => k_is); (case k22 => k_is)
    (case c_LEAST_NUMBER => k_is)
    (case c_GREATEST_NUMBER => k_is)
    (case c_LEAST_HEIGHT => k_is)
    (case c_GREATEST_HEIGHT => k_is)
    (case c_MOST_BOXES => k_is)
    (case c_MOST_SCROLLERS_WITHIN => k_is)
    (case z_abs => k_is)
    (case z_all => k_is)
    (case z_bool => k_is)
    (case z_int => k_is)
    (case z_isinstance => k_is)
    (case z_len => k_is)
    (case z_list => k_is)
    (case z_max => k_is)
    (case z_range => k_is)
    (case z_set => k_is)
    (case z_str => k_is)
    (case z_sum => k_is)
    (case z_tuple => k_is)
