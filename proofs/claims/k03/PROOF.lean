import PyProof.Rows.All
import Wide.All
import OpenK.AllK
import Wide.FinOn
import HandS.ForMost
import HandS.IsInst
import HandS.DictComp
import HandS.SortInts
import HandS.More
import HandS.Conv
import HandS.Style
import HandS.Exc
import HandS.TupAny
import HandS.Walk
import HandS.Evl
import HandS.Zip
import HandS.FStr
import HandS.Strs
import HandS.StrMore
import HandS.Flow
import PyProof.StrBlock2
import KE.KIntText
import KE.KExcSuper
import KE.KExcStr
import HandS.Ends
import HandS.ExcInit
import HandS.ExcCtx
import HandS.ExcField
import HandS.ExcIs
import KE.KExcIs
import HandS.ExcSuper
import PyProof.FString
import HandS.ExcValue
import PySem.Challenge.RW_asyncframes_k03_errors_of_documents
set_option Elab.async false
set_option linter.all false
set_option maxRecDepth 100000
/-! Rules that were lacking: a list extended by a tuple, a tuple turned round by a slice. -/
namespace AF
open PySem PySem.Spec PyProof.Rows L2

theorem ext_tup_meets (l : Addr) (xs : Array Value) (n : Nat) (b : Addr) (ys : Array Value) (n2 : Nat) (dd : Option Addr) (sl : Array (Option Value))
    (h0 : ¬(!xs.isEmpty && Builtin.List.listTooLong (xs.size + ys.size)) = true) (h1 : xs.size ≤ sizeLine) (h2 : xs.size + ys.size ≤ sizeLine + 1) :
    Meets (Builtin.«list.extend» ⟨[.ref l, .ref b], []⟩)
      (fun _ R s => s.heap.get? l = some { cls := .type "list", dict := none, data := .seq xs n, slots := #[] }
        ∧ s.heap.get? b = some { cls := .type "tuple", dict := dd, data := .seq ys n2, slots := sl }
        ∧ R (.ok (.ret Value.none)) { s with heap := s.heap.update l (Obj.mapSeq fun x => x ++ ys), toks := s.toks }) :=
  .of_wp fun prog w A R s h => by
    obtain ⟨hp, g, d, tk, os⟩ := s
    obtain ⟨hl, hb, h⟩ := h
    have f1 := AutoSeq1.idx_int
    have f2 := AutoSeq1.sub_tuple_tuple
    have f3 := AutoSeq1.sub_list_list
    have f4 := AutoSeq1.sub_tuple_list
    have f5 := AutoSeq1.sub_list_tuple
    have hz' : (xs ++ ys).size ≤ sizeLine + 1 := by
      rw [Array.size_append]
      exact h2
    wp_walk using (wpAny_updateSeq hl rfl (hz := h1) (_hz' := hz')), AutoSeq1.wpAny_loadPart' hl, AutoSeq1.wpAny_loadPart' hb
    exact ⟨_, rfl, h⟩

def rExtT (K : PySem.W.Frag) : V → List V → Hp → VK → Prop := fun x vs H Q => ∃ l b xs zs, x = .ref l ∧ vs = [.ref b] ∧ H l = some (.lst xs) ∧ SqT K H b zs ∧ xs.length + zs.length ≤ sizeLine ∧ Q .non (upd H l (.lst (xs ++ zs)))
section
variable {X : Cx}
theorem mt_extT : MtM X "list.extend" (rExtT X.K) := by
  intro pins s σ H x vs v us Q I rx rv h
  obtain ⟨l, b, xs, zs, rfl, rfl, hH, hB, hz, q⟩ := h
  cases rx
  obtain ⟨u, rfl, ru⟩ := rv.one
  cases ru
  obtain ⟨z, its, n, r, hl, e⟩ := I.lstM hH
  obtain ⟨its2, r2, ⟨o, ho, hc, n2, hd⟩, z2⟩ := I.tuple hB
  have hl2 := r2.length
  obtain ⟨cls, dd, data, sl⟩ := o
  simp only at hc hd
  subst hc hd
  have hsz : its.toArray.size + its2.toArray.size ≤ sizeLine := by
    rw [List.size_toArray, List.size_toArray]
    omega
  have hlong : ¬ (!its.toArray.isEmpty && Builtin.List.listTooLong (its.toArray.size + its2.toArray.size)) = true := by
    rw [notLongL hsz, Bool.and_false]
    exact Bool.false_ne_true
  refine call_meets F.slot_list_extend ⟨_, e, rfl⟩ F.entry_list_extend (F.args_list_extend_2 _ _)
    (ext_tup_meets l its.toArray n b its2.toArray n2 dd sl hlong (by rw [List.size_toArray]; omega) (by omega)) ⟨e, ho, ?_⟩
  refine ⟨.non, _, I.lset (its' := its ++ its2) hH e (by simp) (r.append r2) ?_, rfl, q⟩
  rw [List.length_append]
  omega

/-! ### t[::-1] of a tuple -/
theorem adjust_rev (n : Nat) : Builtin.Slice.sliceAdjust none none (-1) (n : Int) = ((n : Int) - 1, -1) := by
  unfold Builtin.Slice.sliceAdjust
  simp
theorem places_rev (n : Nat) : Builtin.Slice.slicePlaces ((n : Int) - 1) (-1) (-1) = n := by
  unfold Builtin.Slice.slicePlaces
  have h1 : ¬ ((-1 : Int) > 0) := by omega
  simp only [h1, if_false]
  have e : -(-1 : Int) = 1 := by omega
  simp only [e, Int.ediv_one]
  split <;> omega

theorem applied_rev {prog : Program} {w : World} {A : Around} {E : Value → Shared → Prop} {s : Shared} {sl : Addr} {vl vu vs : Value} {n : Nat} {Q : Int × Int × Nat → Shared → Prop}
    (hs : s.heap.IsSliceOf sl vl vu vs) (pl : IsPart vl none) (pu : IsPart vu none) (ps : IsPart vs (some (-1)))
    (h : Q ((n : Int) - 1, -1, n) s) : wpAny (model prog w) A (Builtin.Slice.sliceApplied (.ref sl) (pure (n : Int))) Q E s := by
  obtain ⟨os, hos, hcs, hds⟩ := id hs
  unfold Builtin.Slice.sliceApplied Builtin.Slice.sliceFields
  refine wpAny_bind (wpAny_bind (wpAny_field hos hds (x := vl) rfl
    (wpAny_bind (wpAny_field hos hds (x := vu) rfl (wpAny_bind (wpAny_field hos hds (x := vs) rfl (wpAny_pure ?_)))))))
  refine wpAny_bind (HT.slicePart_ ps ?_)
  show wpAny _ _ (if ((-1 : Int) == 0) = true then _ else _) _ _ s
  rw [if_neg (by decide)]
  refine wpAny_bind (HT.slicePart_ pl (wpAny_bind (HT.slicePart_ pu (wpAny_bind (wpAny_pure ?_)))))
  show wpAny _ _ (match Builtin.Slice.sliceAdjust none none (-1) (n : Int) with | (lo, hi) => pure (lo, (-1 : Int), Builtin.Slice.slicePlaces lo hi (-1))) _ _ s
  rw [adjust_rev n]
  show wpAny _ _ (pure ((n : Int) - 1, (-1 : Int), Builtin.Slice.slicePlaces ((n : Int) - 1) (-1) (-1))) _ _ s
  rw [places_rev]
  exact wpAny_pure h
theorem pick_rev (xs : Array Value) : ((List.range xs.size).filterMap fun (m : Nat) => xs[(((xs.size : Int) - 1) + (m : Int) * (-1)).toNat]?).toArray = xs.toList.reverse.toArray := by
  have e : (List.range xs.size).filterMap (fun (m : Nat) => xs[(((xs.size : Int) - 1) + (m : Int) * (-1)).toNat]?) = (List.range xs.size).filterMap (fun m => xs[xs.size - 1 - m]?) := by
    have key : ∀ (l : List Nat), (∀ m ∈ l, m < xs.size) → l.filterMap (fun (m : Nat) => xs[(((xs.size : Int) - 1) + (m : Int) * (-1)).toNat]?) = l.filterMap (fun m => xs[xs.size - 1 - m]?) := by
      intro l
      induction l with
      | nil => intro _; rfl
      | cons m r ih =>
        intro hm
        have h1 := hm m List.mem_cons_self
        have q : (((xs.size : Int) - 1) + (m : Int) * (-1)).toNat = xs.size - 1 - m := by omega
        rw [List.filterMap_cons, List.filterMap_cons, q, ih fun j hj => hm j (List.mem_cons_of_mem _ hj)]
    exact key _ fun m hm => List.mem_range.mp hm
  rw [e]
  have e2 : (fun m => xs[xs.size - 1 - m]?) = (xs[·]?) ∘ (fun k => xs.size - 1 - k) := rfl
  rw [e2, ← List.filterMap_map, PySem.W.krv_range, List.filterMap_reverse, PySem.W.krv_all]
theorem getItem_tuple_rev {prog : Program} {w : World} {A : Around} {E : Value → Shared → Prop} {s : Shared} {t sl : Addr} {items : Array Value} {vl vu vs : Value} {Q : Value → Shared → Prop}
    (ht : IsTup s.heap t items) (hs : s.heap.IsSliceOf sl vl vu vs) (pl : IsPart vl none) (pu : IsPart vu none) (ps : IsPart vs (some (-1)))
    (h : Q (.ref s.heap.objs.size) { s with heap := s.heap.push { cls := .type "tuple", data := .seq items.toList.reverse.toArray } })
    (hsz : items.size ≤ sizeLine) : wpAny (model prog w) A (getItem (.ref t) (.ref sl)) Q E s := by
  have hok : sizeOk (.seq items.toList.reverse.toArray) := by
    show items.toList.reverse.toArray.size ≤ sizeLine
    rw [List.size_toArray, List.length_reverse, Array.length_toList]
    exact hsz
  obtain ⟨os, hos, hcs, hds⟩ := id hs
  have hTs : s.TypeIs (.ref sl) "slice" := ⟨os, hos, hcs⟩
  unfold getItem
  try with_reducible refine wpAny_holding ?_
  first | refine wpAny_bind (wpAny_pure ?_) | skip
  refine wpAny_bind (wpAny_sequenceKey ht.typeIs (by decide) ?_)
  refine wpAny_bind (wpAny_callSpecial?_slot (name := Str.ofString "__getitem__") ht.typeIs PyProof.Rows.slot_tuple_getitem
    (wpAny_call_entry PyProof.Rows.slot_tuple_getitem ht.typeIs entry_tuple_getitem ?_ (args_tuple_getitem _ _)))
  show wpAny _ _ (Builtin.Tuple.tupleItemsOf (.ref t) >>= _) _ _ s
  refine wpAny_bind (tupleItemsOf_ ht ?_)
  refine wpAny_bind (wpAny_typeOf hTs ?_)
  rw [if_pos (by decide)]
  refine wpAny_bind (applied_rev hs pl pu ps ?_)
  have hno : ¬ ((((items.size : Int) - 1) == 0 && (-1 : Int) == 1 && items.size == items.size) = true) := by
    have z : ((-1 : Int) == 1) = false := by decide
    rw [z]
    simp
  show wpAny _ _ (if (((items.size : Int) - 1) == 0 && (-1 : Int) == 1 && items.size == items.size) = true then _ else _) _ _ s
  rw [if_neg hno, pick_rev]
  first
    | exact wpAny_bind (m := Builtin.Tuple.tupleExact _) (wpAny_newObj_type (wpAny_pure ⟨_, rfl, wpAny_pure h⟩) hok)
    | exact wpAny_bind (m := Builtin.Tuple.tupleExact _) (wpAny_newObj_type (wpAny_bind (wpAny_pure (wpAny_pure ⟨_, rfl, wpAny_pure h⟩))) hok)
    | exact wpAny_bind (wpAny_bind (m := Builtin.Tuple.tupleExact _) (wpAny_newObj_type (wpAny_pure (wpAny_pure ⟨_, rfl, wpAny_pure h⟩)) hok))
    | exact wpAny_bind (wpAny_bind (m := Builtin.Tuple.tupleExact _) (wpAny_newObj_type (wpAny_pure ⟨_, rfl, wpAny_pure h⟩) hok))
def tRevT (K : PySem.W.Frag) (te : TE) : TE := fun σ H Q => te σ H fun x H1 => ∃ a xs, x = .ref a ∧ SqT K H1 a xs ∧ ∀ p, H1 p = none → Q (.ref p) (upd H1 p (.tup xs.reverse))
theorem pe_revT {e : Expr} {te : TE} {k : Nat} {p1 p2 p3 pos : Pos} (he : PE X e te) : PE X (.Subscript e (.Slice none none (some (.UnaryOp .USub (.Constant (.int 1) k p1) p2)) p3) pos) (tRevT X.K te) := by
  refine ⟨fun pins s σ H Q I h => ?_⟩
  refine Subscript_ (thn (he.run pins s σ H _ I h) fun v s1 ⟨x, H1, I1, r1, q1⟩ => ?_)
  obtain ⟨a, xs, ex, hx, q⟩ := q1
  subst ex
  cases r1
  have hst : PO X (some (.UnaryOp .USub (.Constant (.int 1) k p1) p2)) (tPart (tUn (rU fun i => .int (-i)) (tC (.int 1)))) := po_some (pe_un un_neg pe_int)
  refine wpAny_Slice (thn (po_none.run pins s1 σ H1 (fun o H2 => o = none ∧ H2 = H1) I1 ⟨rfl, rfl⟩) fun vl s2 ⟨l, H2, I2, pl, el, e2⟩ => ?_)
  subst el e2
  refine thn (po_none.run pins s2 σ H2 (fun o H3 => o = none ∧ H3 = H2) I2 ⟨rfl, rfl⟩) fun vu s3 ⟨u, H3, I3, pu, eu, e3⟩ => ?_
  subst eu e3
  refine thn (hst.run pins s3 σ H3 (fun o H4 => o = some (-1) ∧ H4 = H3) I3 ⟨1, rfl, -1, rfl, rfl, rfl⟩) fun vs s4 ⟨o, H4, I4, ps, eo, e4⟩ => ?_
  subst eo e4
  have I5 : Inv X pins σ H4 { s4 with heap := s4.heap.push { cls := .type "slice", data := .fields #[vl, vu, vs] } } :=
    I4.kept (t' := s4.toks) fun b ob q => Heap.get?_push_of_some _ q
  obtain ⟨its, r, ht, hz⟩ := I5.tuple hx
  have hlen := r.length
  show wpAny (model X.prog X.w) X.A (subscriptTail e (.Slice none none (some (.UnaryOp .USub (.Constant (.int 1) k p1) p2)) p3) (.ref a) (.ref s4.heap.objs.size)) (EP X pins σ Q) X.xe
    { s4 with heap := s4.heap.push { cls := .type "slice", data := .fields #[vl, vu, vs] } }
  refine tail_any (ops := [.ref a, .ref s4.heap.objs.size]) ht.typeIs (PyProof.Rows.slot_tuple_getitem.lookup) ?_ (by with_unfolding_all rfl)
  refine getItem_tuple_rev ht (Heap.IsSliceOf.new _ vl vu vs) pl pu ps ?_ (by rw [List.size_toArray]; omega)
  refine ⟨.ref _, _, I5.laid (t' := s4.toks) (o := .tup xs.reverse) (fun b ob q => Heap.get?_push_of_some _ q) (Nat.le_refl _) ?_, rfl, q _ (I5.hok.fresh (Nat.le_refl _))⟩
  exact ⟨by rw [List.length_reverse]; exact hz, its.reverse, r.reverse, IsTup.new _ _⟩
end
/-! ### a def of the text, its call -/
structure DF (K : PySem.W.Frag) (mg : Str → Option Value) (x : Str) (st : Stmt) (ps : List Str) where
  f : Addr
  fd : FuncData
  F : Fun K x x st f fd
  b : Binds K fd ps []
  m : mg x = some (.ref f)
section
variable {X : Cx}
theorem cal {x : Str} {st : Stmt} {ps : List Str} {k : Nat} {sp : Sp} {p pos : Pos} {e : Expr} {es : List Expr} {t : TA} (D : DF X.K X.mg x st ps)
    (G : FnOk X.prog X.w X.K X.mg X.base CX0 k D.f D.fd ps sp) (hr : Room k X.A) (ha : PA X (e :: es) t) (hg : Gl X x := by rfl)
    (hdb : (x == ("__debug__" : Str)) = false := by decide) (he : starEach (e :: es) X.env = (false, eval e X.env) :: starEach es X.env := by rfl)
    (hpl : (backTo pos (starEach es X.env)).any (·.1) = false := by rfl) : PE X (.Call (.Name x p) (e :: es) [] pos) (tCall sp [] E0 t) :=
  pe_call G hr hg D.m D.F.kp D.b .nil pass0 ha hdb he hpl
theorem cal0 {x : Str} {st : Stmt} {ps : List Str} {k : Nat} {sp : Sp} {p pos : Pos} (D : DF X.K X.mg x st ps)
    (G : FnOk X.prog X.w X.K X.mg X.base CX0 k D.f D.fd ps sp) (hr : Room k X.A) (hg : Gl X x := by rfl)
    (hdb : (x == ("__debug__" : Str)) = false := by decide) : PE X (.Call (.Name x p) [] [] pos) (tCall sp [] E0 tNil) :=
  pe_call0 G hr hg D.m D.F.kp D.b .nil pass0 hdb
/-- an item of a list or of a tuple -/
def rIxLT (K : PySem.W.Frag) : R2 := fun x y H Q => rIxL K x y H Q ∨ rIxT K x y H Q
/-! ### rules that name the written part K: within a comprehension's block X.K is no word that stands outside of it -/
theorem ixT (K : PySem.W.Frag) (h : X.K = K) : IxR X (rIxT K) := by subst h; exact ix_tup
theorem ixL (K : PySem.W.Frag) (h : X.K = K) : IxR X (rIxL K) := by subst h; exact ix_list
theorem ixLT (K : PySem.W.Frag) (h : X.K = K) : IxR X (rIxLT K) := by subst h; exact ix_list.or ix_tup
theorem slL (K : PySem.W.Frag) (h : X.K = K) : SlR X (rSlL K) := by subst h; exact sl_list
theorem slT (K : PySem.W.Frag) (h : X.K = K) : SlR X (rSlA K) := by subst h; exact sl_tupA
def rLenQ (K : PySem.W.Frag) : List V → Hp → VK → Prop := fun xs H Q => ∃ p ys, xs = [.ref p] ∧ (SqL K H p ys ∨ SqT K H p ys) ∧ Q (.int ys.length) H
theorem lenK (K : PySem.W.Frag) (h : X.K = K) : CallR X (.builtin "len") (rLenQ K) := by subst h; exact call_len_seq
theorem sumK (K : PySem.W.Frag) (h : X.K = K) (hc : X.calm = true) : CallR X (.builtin "sum") (rSum K) := by subst h; exact cr_sum hc
theorem allK (K : PySem.W.Frag) (h : X.K = K) (hc : X.calm = true) : CallR X (.builtin "all") (rAll K) := by subst h; exact cr_all hc
theorem anyK (K : PySem.W.Frag) (h : X.K = K) (hc : X.calm = true) : CallR X (.builtin "any") (rAny K) := by subst h; exact cr_any hc
theorem maxK (K : PySem.W.Frag) (h : X.K = K) (hc : X.calm = true) : CallR X (.builtin "max") (rMax K) := by subst h; exact cr_max hc
theorem minK (K : PySem.W.Frag) (h : X.K = K) (hc : X.calm = true) : CallR X (.builtin "min") (rMin K) := by subst h; exact cr_min hc
theorem sortedK (K : PySem.W.Frag) (h : X.K = K) : CallR X (.builtin "sorted") (rSortedI K) := by subst h; exact cr_sortedI
def rListQ (K : PySem.W.Frag) : List V → Hp → VK → Prop := fun xs H Q => ∃ p ys, xs = [.ref p] ∧ (SqL K H p ys ∨ SqT K H p ys) ∧ ∀ l, H l = none → Q (.ref l) (upd H l (.lst ys))
theorem listK (K : PySem.W.Frag) (h : X.K = K) : CallR X (.type "list") (rListQ K) := by subst h; exact call_list_of
def rTupQ (K : PySem.W.Frag) : List V → Hp → VK → Prop := fun xs H Q => ∃ p ys, xs = [.ref p] ∧ ((SqL K H p ys ∧ ∀ l, H l = none → Q (.ref l) (upd H l (.tup ys))) ∨ (SqT K H p ys ∧ Q (.ref p) H))
theorem tupK (K : PySem.W.Frag) (h : X.K = K) : CallR X (.type "tuple") (rTupQ K) := by subst h; exact call_tuple_of
theorem isiK (K : PySem.W.Frag) (h : X.K = K) : CallR X (.builtin "isinstance") (rIsi K) := by subst h; exact call_isi
theorem isiTK (K : PySem.W.Frag) (h : X.K = K) : CallR X (.builtin "isinstance") (rIsiT K) := by subst h; exact call_isiT
theorem piL {tg l : Expr} {tl : TE} (K : PySem.W.Frag) (h : X.K = K) (hl : PE X l tl) : PI X tg l (iList K tl) := by subst h; exact pi_list hl
theorem piT {tg l : Expr} {tl : TE} (K : PySem.W.Frag) (h : X.K = K) (hl : PE X l tl) : PI X tg l (iTup K tl) := by subst h; exact pi_tup hl
theorem catTK (K : PySem.W.Frag) (h : X.K = K) : OpR X (binaryOp .Add) (rCatA K) := by subst h; exact op_catA
theorem eqK (K : PySem.W.Frag) (h : X.K = K) (hu : X.A.units + 64 < cLine) : OpR X (compareOp .Eq) (rEqD K) := by subst h; exact op_eqD hu
theorem neK (K : PySem.W.Frag) (h : X.K = K) (hu : X.A.units + 64 < cLine) : OpR X (compareOp .NotEq) (rNeD K) := by subst h; exact op_neD hu
theorem inK (K : PySem.W.Frag) (h : X.K = K) : OpR X (compareOp .In) (rIn K false) := by subst h; exact op_in_seq
theorem notInK (K : PySem.W.Frag) (h : X.K = K) : OpR X (compareOp .NotIn) (rIn K true) := by subst h; exact op_notIn_seq
theorem extTK (K : PySem.W.Frag) (h : X.K = K) : MtM X "list.extend" (rExtT K) := by subst h; exact mt_extT
theorem revTK {e : Expr} {te : TE} {k : Nat} {p1 p2 p3 pos : Pos} (K : PySem.W.Frag) (h : X.K = K) (he : PE X e te) : PE X (.Subscript e (.Slice none none (some (.UnaryOp .USub (.Constant (.int 1) k p1) p2)) p3) pos) (tRevT K te) := by
  subst h
  exact pe_revT he
def tTru (K : PySem.W.Frag) (ta : TE) : TT := fun σ H Q => ta σ H fun x H' => ∃ k, TruV K x H' k ∧ Q k H'
theorem truK {a : Expr} {ta : TE} (K : PySem.W.Frag) (h : X.K = K) (ha : PE X a ta) (he : ∀ whole, isTrue a X.env whole = (do let v ← whole; standAt a.pos; holding [v] (truthy v)) := by intro _; rfl) : PT X a (tTru K ta) := by
  subst h
  exact pt_truth ha he
theorem pg_tupK {es : List Expr} {k : Nat} {t : TGs} {n : Nat} {pos : Pos} (K : PySem.W.Frag) (hK : X.K = K) (hc : X.calm = true) (h : PGs X es t)
    (hn : (assignEach es X.env).length = n := by rfl) (hst : (assignEach es X.env).findIdx? (·.1) = none := by rfl) : PG X (.Tuple es k pos) (gTup K n t) := by
  subst hK
  exact pg_tup hc h hn hst
end
theorem iteP {c A B : Prop} [Decidable c] (h : c) (k : A) : if c then A else B := by
  rw [if_pos h]
  exact k
theorem iteN {c A B : Prop} [Decidable c] (h : ¬ c) (k : B) : if c then A else B := by
  rw [if_neg h]
  exact k
/-- what law(script) promises -/
def spLaw (K : PySem.W.Frag) : Sp := fun vs H Q _ => ∃ (a : Addr) (ns : List Int), vs = [.ref a] ∧ SqL K H a (ns.map V.int) ∧ ns.length ≤ 63 ∧ ∀ H', Q (.bl true) H'
theorem walk_law {k : Nat} {l : PySem.W.OpenLaw} {q : Program} {loose : List Str} {XP : (Str → Option Value) → Heap → Prop} {YP : World → Heap → Prop} {d : DefRec} {K : Params → PySem.W.Frag}
    (hn : l.most = some 63) (hdf : d.params.defaults = []) (hk : k ≤ 200) (hY : ∀ (w : World) (h : Heap), YP w h → (K w.params).In h)
    (F : ∀ (w : World) (mg : Str → Option Value) (fa : Addr) (h : Heap), (K w.params).In h → h.Ns mainGlobals mg → mg d.name = some (.ref fa) →
      ∃ fd : FuncData, (∀ (s : Shared) (u : Value), BindsTo s fd ⟨[u], []⟩ [("script", u)]) ∧
        ∀ base : Heap, (K w.params).In base → base.Ns mainGlobals mg → FnOk l.prog w (K w.params) mg base CX0 k fa fd ["script"] (spLaw (K w.params))) :
    PySem.W.WalkO q loose XP YP l.row.toRowW d [] (fun f vs => PySem.call f vs) :=
  L2.walk_of (n := 63) (k := k) (x := "script") (CX := fun _ => CX0) (sp := fun w => spLaw (K w.params)) hn (by decide) hdf
    (Room.mono (k := 200) ⟨rfl, by decide, by decide⟩ hk) hY F (fun _ _ a ns hl _ hS => ⟨a, ns, rfl, hS, hl, fun _ => rfl⟩) fun _ _ _ _ _ z => z
end AF
/-! Boxes as data, and how they lie in a heap. -/
namespace AF
open PySem PySem.Spec PyProof.Rows L2

inductive Box where
  | blk (n h : Int)
  | scr (n h : Int) (ps : List Box)
namespace Box
def num : Box → Int
  | .blk n _ => n
  | .scr n _ _ => n
def ht : Box → Int
  | .blk _ h => h
  | .scr _ h _ => h
def parts : Box → List Box
  | .blk _ _ => []
  | .scr _ _ ps => ps
def isS : Box → Bool
  | .blk _ _ => false
  | .scr _ _ _ => true
def kind : Box → Str
  | .blk _ _ => "block"
  | .scr _ _ _ => "scroller"
mutual
def pre : Box → List Box
  | .blk n h => [.blk n h]
  | .scr n h ps => .scr n h ps :: preL ps
def preL : List Box → List Box
  | [] => []
  | b :: r => b.pre ++ preL r
end
mutual
def depth : Box → Nat
  | .blk _ _ => 0
  | .scr _ _ ps => depthL ps + 1
def depthL : List Box → Nat
  | [] => 0
  | b :: r => max b.depth (depthL r)
end
mutual
def py : Box → PyData
  | .blk n h => .tuple [.str "block", .int n, .int h]
  | .scr n h ps => .tuple [.str "scroller", .int n, .int h, .tuple (pyL ps)]
def pyL : List Box → List PyData
  | [] => []
  | b :: r => b.py :: pyL r
end
theorem pre_eq (b : Box) : b.pre = b :: preL b.parts := by
  cases b with
  | blk n h => simp [pre, parts, preL]
  | scr n h ps => simp [pre, parts]
theorem pyL_eq : ∀ l : List Box, pyL l = l.map py
  | [] => by simp [pyL]
  | b :: r => by simp [pyL, pyL_eq r]
theorem preL_eq : ∀ l : List Box, preL l = l.flatMap pre
  | [] => by simp [preL]
  | b :: r => by simp [preL, preL_eq r]
theorem depthL_mem : ∀ {l : List Box} {b : Box}, b ∈ l → b.depth ≤ depthL l
  | c :: r, b, h => by
    rcases List.mem_cons.mp h with e | h
    · subst e
      simp only [depthL]
      omega
    · have := depthL_mem h
      simp only [depthL]
      omega
end Box

mutual
def BoxAt (H : Hp) : V → Box → Prop
  | v, .blk n h => ∃ a : Addr, v = .ref a ∧ H a = some (.tup [.str "block", .int n, .int h])
  | v, .scr n h ps => ∃ (a p : Addr) (vs : List V), v = .ref a ∧ H a = some (.tup [.str "scroller", .int n, .int h, .ref p]) ∧ H p = some (.tup vs) ∧ BoxesAt H vs ps
def BoxesAt (H : Hp) : List V → List Box → Prop
  | vs, [] => vs = []
  | vs, b :: bs => ∃ (v : V) (r : List V), vs = v :: r ∧ BoxAt H v b ∧ BoxesAt H r bs
end
/-- tuples stand -/
def KeepT (H H' : Hp) : Prop := ∀ b xs, H b = some (.tup xs) → H' b = some (.tup xs)
theorem KeepT.refl (H : Hp) : KeepT H H := fun _ _ h => h
theorem KeepT.trans {H H1 H2 : Hp} (a : KeepT H H1) (b : KeepT H1 H2) : KeepT H H2 := fun c xs h => b c xs (a c xs h)
theorem Same.keepT {H H' : Hp} (e : Same H H') : KeepT H H' := fun b xs h => e b _ h
/-- all that was tracked is as it was, but at the places l -/
def But (l : List Addr) (H H' : Hp) : Prop := ∀ b o, b ∉ l → H b = some o → H' b = some o
theorem But.refl (l : List Addr) (H : Hp) : But l H H := fun _ _ _ h => h
theorem But.trans {l : List Addr} {H H1 H2 : Hp} (a : But l H H1) (b : But l H1 H2) : But l H H2 := fun c o n h => b c o n (a c o n h)
theorem But.of {l : List Addr} {H H' : Hp} (e : Same H H') : But l H H' := fun b o _ h => e b o h
theorem But.mono {l l' : List Addr} {H H' : Hp} (e : But l H H') (h : ∀ b ∈ l, b ∈ l') : But l' H H' := fun b o n q => e b o (fun z => n (h b z)) q
theorem same_new {H : Hp} {p : Addr} (h : H p = none) (o : HO) : Same H (upd H p o) := fun b u q => by
  rw [upd_ne (ne_of_none q h)]
  exact q
theorem but_upd {H : Hp} {p : Addr} (o : HO) : But [p] H (upd H p o) := fun b u n q => by
  rw [upd_ne (fun e => n (by rw [e]; exact List.mem_cons_self))]
  exact q
/-- a store to what is new to H -/
theorem same_upd {H H' : Hp} {p : Addr} (e : Same H H') (h : H p = none) (o : HO) : Same H (upd H' p o) := fun b u q => by
  rw [upd_ne (ne_of_none q h)]
  exact e b u q
theorem keepT_upd {H : Hp} {p : Addr} {xs : List V} (h : H p = some (.lst xs)) (o : HO) : KeepT H (upd H p o) := fun b ys q => by
  rw [upd_ne (ne_of q h (fun z => nomatch z))]
  exact q
theorem keepT_updK {H : Hp} {p : Addr} {xs : List (Key × V)} (h : H p = some (.dK xs)) (o : HO) : KeepT H (upd H p o) := fun b ys q => by
  rw [upd_ne (ne_of q h (fun z => nomatch z))]
  exact q

mutual
theorem BoxAt.keep {H H' : Hp} (k : KeepT H H') : ∀ (b : Box) (v : V), BoxAt H v b → BoxAt H' v b
  | .blk n h, v, q => by
    simp only [BoxAt] at q ⊢
    obtain ⟨a, e, q⟩ := q
    exact ⟨a, e, k _ _ q⟩
  | .scr n h ps, v, q => by
    simp only [BoxAt] at q ⊢
    obtain ⟨a, p, vs, e, q1, q2, q3⟩ := q
    exact ⟨a, p, vs, e, k _ _ q1, k _ _ q2, BoxesAt.keep k ps vs q3⟩
theorem BoxesAt.keep {H H' : Hp} (k : KeepT H H') : ∀ (bs : List Box) (vs : List V), BoxesAt H vs bs → BoxesAt H' vs bs
  | [], vs, q => by
    simp only [BoxesAt] at q ⊢
    exact q
  | b :: bs, vs, q => by
    simp only [BoxesAt] at q ⊢
    obtain ⟨v, r, e, q1, q2⟩ := q
    exact ⟨v, r, e, BoxAt.keep k b v q1, BoxesAt.keep k bs r q2⟩
end
section
variable {H H' : Hp} {v : V} {b : Box} {vs ws : List V} {bs cs : List Box}
theorem BoxAt.k (q : BoxAt H v b) (k : KeepT H H') : BoxAt H' v b := BoxAt.keep k b v q
theorem BoxesAt.k (q : BoxesAt H vs bs) (k : KeepT H H') : BoxesAt H' vs bs := BoxesAt.keep k bs vs q
theorem BoxAt.s (q : BoxAt H v b) (k : Same H H') : BoxAt H' v b := BoxAt.keep (Same.keepT k) b v q
theorem BoxesAt.s (q : BoxesAt H vs bs) (k : Same H H') : BoxesAt H' vs bs := BoxesAt.keep (Same.keepT k) bs vs q
/-- the first three items of a box's tuple -/
theorem BoxAt.tup (q : BoxAt H v b) : ∃ (a : Addr) (xs : List V), v = .ref a ∧ H a = some (.tup xs) ∧ xs.take 3 = [.str b.kind, .int b.num, .int b.ht] := by
  cases b with
  | blk n h =>
    simp only [BoxAt] at q
    obtain ⟨a, e, q⟩ := q
    exact ⟨a, _, e, q, rfl⟩
  | scr n h ps =>
    simp only [BoxAt] at q
    obtain ⟨a, p, vs, e, q, _⟩ := q
    exact ⟨a, _, e, q, rfl⟩
theorem BoxAt.scr (q : BoxAt H v (.scr n h ps)) : ∃ (a p : Addr) (vs : List V), v = .ref a ∧ H a = some (.tup [.str "scroller", .int n, .int h, .ref p]) ∧ H p = some (.tup vs) ∧ BoxesAt H vs ps := by
  simp only [BoxAt] at q
  exact q
theorem BoxAt.mkS {a p : Addr} (h1 : H a = some (.tup [.str "scroller", .int n, .int h, .ref p])) (h2 : H p = some (.tup vs)) (q : BoxesAt H vs bs) : BoxAt H (.ref a) (.scr n h bs) := by
  simp only [BoxAt]
  exact ⟨a, p, vs, rfl, h1, h2, q⟩
theorem BoxAt.mkB {a : Addr} (h1 : H a = some (.tup [.str "block", .int n, .int h])) : BoxAt H (.ref a) (.blk n h) := by
  simp only [BoxAt]
  exact ⟨a, rfl, h1⟩
theorem BoxesAt.nil : BoxesAt H [] [] := by
  simp only [BoxesAt]
theorem BoxesAt.cons (h1 : BoxAt H v b) (h2 : BoxesAt H vs bs) : BoxesAt H (v :: vs) (b :: bs) := by
  simp only [BoxesAt]
  exact ⟨v, vs, rfl, h1, h2⟩
theorem BoxesAt.cons_inv (q : BoxesAt H vs (b :: bs)) : ∃ v r, vs = v :: r ∧ BoxAt H v b ∧ BoxesAt H r bs := by
  simp only [BoxesAt] at q
  exact q
theorem BoxesAt.nil_inv (q : BoxesAt H vs []) : vs = [] := by
  simp only [BoxesAt] at q
  exact q
theorem BoxesAt.len : ∀ {bs : List Box} {vs : List V}, BoxesAt H vs bs → vs.length = bs.length
  | [], vs, q => by
    rw [q.nil_inv]
    rfl
  | b :: bs, vs, q => by
    obtain ⟨v, r, rfl, _, q2⟩ := q.cons_inv
    rw [List.length_cons, List.length_cons, BoxesAt.len q2]
theorem BoxesAt.get : ∀ {bs : List Box} {vs : List V} {i : Nat} {v : V}, BoxesAt H vs bs → vs[i]? = some v → ∃ b, bs[i]? = some b ∧ BoxAt H v b
  | [], vs, i, v, q, e => by
    rw [q.nil_inv] at e
    simp at e
  | b :: bs, vs, 0, v, q, e => by
    obtain ⟨u, r, rfl, q1, q2⟩ := q.cons_inv
    have e : u = v := by simpa using e
    subst e
    exact ⟨b, rfl, q1⟩
  | b :: bs, vs, i + 1, v, q, e => by
    obtain ⟨u, r, rfl, q1, q2⟩ := q.cons_inv
    exact BoxesAt.get (i := i) q2 (by simpa using e)
theorem BoxesAt.append : ∀ {bs cs : List Box} {vs ws : List V}, BoxesAt H vs bs → BoxesAt H ws cs → BoxesAt H (vs ++ ws) (bs ++ cs)
  | [], cs, vs, ws, q, q' => by
    rw [q.nil_inv]
    exact q'
  | b :: bs, cs, vs, ws, q, q' => by
    obtain ⟨v, r, rfl, q1, q2⟩ := q.cons_inv
    exact BoxesAt.cons q1 (BoxesAt.append q2 q')
theorem BoxesAt.one (h : BoxAt H v b) : BoxesAt H [v] [b] := .cons h .nil
theorem BoxesAt.reverse : ∀ {bs : List Box} {vs : List V}, BoxesAt H vs bs → BoxesAt H vs.reverse bs.reverse
  | [], vs, q => by
    rw [q.nil_inv]
    exact .nil
  | b :: bs, vs, q => by
    obtain ⟨v, r, rfl, q1, q2⟩ := q.cons_inv
    rw [List.reverse_cons, List.reverse_cons]
    exact (BoxesAt.reverse q2).append (.one q1)
theorem BoxesAt.take : ∀ {bs : List Box} {vs : List V} (i : Nat), BoxesAt H vs bs → BoxesAt H (vs.take i) (bs.take i)
  | _, _, 0, _ => .nil
  | [], vs, i + 1, q => by
    rw [q.nil_inv]
    exact .nil
  | b :: bs, vs, i + 1, q => by
    obtain ⟨v, r, rfl, q1, q2⟩ := q.cons_inv
    exact BoxesAt.cons q1 (BoxesAt.take i q2)
theorem BoxesAt.split_last (q : BoxesAt H vs (bs ++ [b])) : ∃ v ws, vs = ws ++ [v] ∧ BoxesAt H ws bs ∧ BoxAt H v b := by
  have r := q.reverse
  rw [List.reverse_append] at r
  obtain ⟨v, ws, e, q1, q2⟩ := BoxesAt.cons_inv (by simpa using r)
  refine ⟨v, ws.reverse, ?_, ?_, q1⟩
  · have := congrArg List.reverse e
    simpa using this
  · have := q2.reverse
    simpa using this
end
end AF
namespace AF
namespace Box
theorem preL_append : ∀ a b : List Box, preL (a ++ b) = preL a ++ preL b
  | [], b => by simp [preL]
  | x :: a, b => by simp [preL, preL_append a b]
theorem preL_ge : ∀ l : List Box, l.length ≤ (preL l).length
  | [] => Nat.zero_le _
  | b :: r => by
    have := preL_ge r
    simp only [preL, List.length_append, List.length_cons, pre_eq b]
    omega
end Box
end AF
/-! Data at any depth (Dp): boxes, lists of them, ints; the facts that == and isinstance ask. -/
namespace AF
open PySem PySem.Spec PyProof.Rows L2
section
variable {K : PySem.W.Frag} {H H' : Hp}
theorem Same.seqT {a : Addr} {xs : List V} (e : Same H H') (h : SqT K H a xs) : SqT K H' a xs := by
  rcases h with (h | ⟨o, h⟩) | h
  · exact .inl (.inl (e _ _ h))
  · exact .inl (.inr ⟨o, e _ _ h⟩)
  · exact .inr h
/-- lists, tuples and what is locked -/
def sqO : HO → Bool
  | .lst _ => true
  | .tup _ => true
  | .frz _ _ => true
  | _ => false
def KeepS (H H' : Hp) : Prop := ∀ b o, sqO o = true → H b = some o → H' b = some o
theorem Same.keepS (e : Same H H') : KeepS H H' := fun b o _ h => e b o h
theorem KeepS.seq {a : Addr} {xs : List V} (e : KeepS H H') (h : SqL K H a xs) : SqL K H' a xs := by
  rcases h with (h | ⟨o, h⟩) | h
  · exact .inl (.inl (e _ _ rfl h))
  · exact .inl (.inr ⟨o, e _ _ rfl h⟩)
  · exact .inr h
theorem KeepS.seqT {a : Addr} {xs : List V} (e : KeepS H H') (h : SqT K H a xs) : SqT K H' a xs := by
  rcases h with (h | ⟨o, h⟩) | h
  · exact .inl (.inl (e _ _ rfl h))
  · exact .inl (.inr ⟨o, e _ _ rfl h⟩)
  · exact .inr h
mutual
theorem Dp.keep (e : KeepS H H') : ∀ (d : PyData) (v : V), Dp K H v d → Dp K H' v d
  | .none, v, h => by
    cases h
    exact .non
  | .bool b, v, h => by
    cases h
    exact .bl b
  | .int i, v, h => by
    cases h
    exact .int i
  | .str x, v, h => by
    cases h
    exact .str x
  | .list ds, v, h => by
    cases h with
    | lst h1 h2 => exact .lst (e.seq h1) (DpAll.keep e ds _ h2)
  | .tuple ds, v, h => by
    cases h with
    | tup h1 h2 => exact .tup (e.seqT h1) (DpAll.keep e ds _ h2)
  | .dict _, v, h => by cases h
theorem DpAll.keep (e : KeepS H H') : ∀ (ds : List PyData) (vs : List V), DpAll K H vs ds → DpAll K H' vs ds
  | [], vs, h => by
    cases h
    exact .nil
  | d :: ds, vs, h => by
    cases h with
    | cons h1 h2 => exact .cons (Dp.keep e d _ h1) (DpAll.keep e ds _ h2)
end
theorem Dp.same (e : Same H H') (d : PyData) (v : V) (h : Dp K H v d) : Dp K H' v d := Dp.keep (Same.keepS e) d v h
theorem DpAll.same (e : Same H H') (ds : List PyData) (vs : List V) (h : DpAll K H vs ds) : DpAll K H' vs ds := DpAll.keep (Same.keepS e) ds vs h
theorem Dp.s {v : V} {d : PyData} (h : Dp K H v d) (e : Same H H') : Dp K H' v d := Dp.same e d v h
theorem DpAll.get : ∀ {ds : List PyData} {vs : List V} {i : Nat} {d : PyData}, DpAll K H vs ds → ds[i]? = some d → ∃ v, vs[i]? = some v ∧ Dp K H v d
  | [], _, _, _, _, e => by simp at e
  | c :: ds, vs, 0, d, h, e => by
    cases h with
    | cons h1 h2 =>
      have e : c = d := by simpa using e
      subst e
      exact ⟨_, rfl, h1⟩
  | c :: ds, vs, i + 1, d, h, e => by
    cases h with
    | cons h1 h2 =>
      obtain ⟨v, q, r⟩ := DpAll.get (i := i) h2 (by simpa using e)
      exact ⟨v, by simpa using q, r⟩
theorem DpAll.len : ∀ {ds : List PyData} {vs : List V}, DpAll K H vs ds → vs.length = ds.length
  | [], _, h => by
    cases h
    rfl
  | d :: ds, _, h => by
    cases h with
    | cons h1 h2 => rw [List.length_cons, List.length_cons, DpAll.len h2]
mutual
theorem BoxAt.dp : ∀ (b : Box) (v : V), BoxAt H v b → Dp K H v b.py
  | .blk n h, v, q => by
    simp only [BoxAt] at q
    obtain ⟨a, rfl, q⟩ := q
    simp only [Box.py]
    exact .tup (.of q) (.cons (.str _) (.cons (.int _) (.cons (.int _) .nil)))
  | .scr n h ps, v, q => by
    simp only [BoxAt] at q
    obtain ⟨a, p, vs, rfl, q1, q2, q3⟩ := q
    simp only [Box.py]
    exact .tup (.of q1) (.cons (.str _) (.cons (.int _) (.cons (.int _) (.cons (.tup (.of q2) (BoxesAt.dp ps vs q3)) .nil))))
theorem BoxesAt.dp : ∀ (bs : List Box) (vs : List V), BoxesAt H vs bs → DpAll K H vs (Box.pyL bs)
  | [], vs, q => by
    simp only [BoxesAt] at q
    subst q
    simp only [Box.pyL]
    exact .nil
  | b :: bs, vs, q => by
    simp only [BoxesAt] at q
    obtain ⟨v, r, rfl, q1, q2⟩ := q
    simp only [Box.pyL]
    exact .cons (BoxAt.dp b v q1) (BoxesAt.dp bs r q2)
end
theorem dpInts : ∀ ns : List Int, DpAll K H (ns.map V.int) (ns.map PyData.int)
  | [] => .nil
  | n :: r => .cons (.int n) (dpInts r)
theorem dpIntL {a : Addr} {ns : List Int} (h : SqL K H a (ns.map V.int)) : Dp K H (.ref a) (.list (ns.map PyData.int)) := .lst h (dpInts ns)

/-! how deep data is, and that it has no dict -/
mutual
def dd : PyData → Nat
  | .list ds => ddL ds + 1
  | .tuple ds => ddL ds + 1
  | _ => 0
def ddL : List PyData → Nat
  | [] => 0
  | d :: r => max (dd d) (ddL r)
end
theorem ddL_mem : ∀ {l : List PyData} {d : PyData}, d ∈ l → dd d ≤ ddL l
  | c :: r, d, h => by
    rcases List.mem_cons.mp h with e | h
    · subst e
      simp only [ddL]
      omega
    · have := ddL_mem h
      simp only [ddL]
      omega
theorem ddL_ints : ∀ ns : List Int, ddL (ns.map PyData.int) = 0
  | [] => by simp [ddL]
  | n :: r => by simp [ddL, dd, ddL_ints r]
mutual
theorem dd_py : ∀ b : Box, dd b.py ≤ 2 * b.depth + 1
  | .blk n h => by simp [Box.py, dd, ddL]
  | .scr n h ps => by
    have := dd_pyL ps
    simp only [Box.py, dd, ddL, Box.depth]
    omega
theorem dd_pyL : ∀ l : List Box, ddL (Box.pyL l) ≤ 2 * Box.depthL l + 1
  | [] => by simp [Box.pyL, ddL]
  | b :: r => by
    have h1 := dd_py b
    have h2 := dd_pyL r
    simp only [Box.pyL, ddL, Box.depthL]
    omega
end

/-! isinstance -/
theorem ty_lst {a : Addr} {xs : List V} (h : SqL K H a xs) : TyX K H (.ref a) (.type "list") := by
  rcases h with (h | ⟨o, h⟩) | ⟨o, its, n, h, c, _⟩
  · exact .base (.lst h)
  · exact .base (.frz h)
  · exact .kList h c
theorem ty_tup {a : Addr} {xs : List V} (h : SqT K H a xs) : TyX K H (.ref a) (.type "tuple") := by
  rcases h with (h | ⟨o, h⟩) | ⟨o, its, n, h, c, _⟩
  · exact .base (.tup h)
  · exact .fTuple h
  · exact .kTuple h c
/-- the name of the type of a piece of data -/
def tyn : PyData → String
  | .none => "NoneType"
  | .bool _ => "bool"
  | .int _ => "int"
  | .str _ => "str"
  | .list _ => "list"
  | .tuple _ => "tuple"
  | .dict _ => "dict"
theorem Dp.ty {v : V} {d : PyData} (h : Dp K H v d) : TyX K H v (.type (tyn d)) := by
  cases h with
  | non => exact .base .non
  | bl b => exact .base (.bl b)
  | int i => exact .base (.int i)
  | str x => exact .base (.str x)
  | lst h1 h2 => exact ty_lst h1
  | tup h1 h2 => exact ty_tup h1
end
section
variable {K : PySem.W.Frag}
def nN (n t : String) : Bool := n == t || (n == "int" && t == "bool")
theorem kb_all : ∀ t ∈ ["NoneType", "bool", "int", "str", "list", "tuple"], ∀ n ∈ ["list", "tuple", "bool", "str", "int"], kitB t n = some (nN n t) := by decide +kernel
theorem tyn_mem {d : PyData} (h : tyn d ≠ "dict") : tyn d ∈ ["NoneType", "bool", "int", "str", "list", "tuple"] := by
  cases d <;> first | exact absurd rfl h | simp [tyn]
def isLi : PyData → Bool
  | .list _ => true
  | _ => false
def isTu : PyData → Bool
  | .tuple _ => true
  | _ => false
def isBo : PyData → Bool
  | .bool _ => true
  | _ => false
def isSt : PyData → Bool
  | .str _ => true
  | _ => false
def isIn : PyData → Bool
  | .int _ => true
  | .bool _ => true
  | _ => false
theorem kit_li {d : PyData} (h : tyn d ≠ "dict") : PySem.W.kitOne K (.type (tyn d)) (.type "list") = some (isLi d) := by
  have q := kb_all _ (tyn_mem h) "list" (by simp)
  have e : nN "list" (tyn d) = isLi d := by cases d <;> rfl
  rw [e] at q
  exact kit_ty q
theorem kit_tu {d : PyData} (h : tyn d ≠ "dict") : PySem.W.kitOne K (.type (tyn d)) (.type "tuple") = some (isTu d) := by
  have q := kb_all _ (tyn_mem h) "tuple" (by simp)
  have e : nN "tuple" (tyn d) = isTu d := by cases d <;> rfl
  rw [e] at q
  exact kit_ty q
theorem kit_bo {d : PyData} (h : tyn d ≠ "dict") : PySem.W.kitOne K (.type (tyn d)) (.type "bool") = some (isBo d) := by
  have q := kb_all _ (tyn_mem h) "bool" (by simp)
  have e : nN "bool" (tyn d) = isBo d := by cases d <;> rfl
  rw [e] at q
  exact kit_ty q
theorem kit_st {d : PyData} (h : tyn d ≠ "dict") : PySem.W.kitOne K (.type (tyn d)) (.type "str") = some (isSt d) := by
  have q := kb_all _ (tyn_mem h) "str" (by simp)
  have e : nN "str" (tyn d) = isSt d := by cases d <;> rfl
  rw [e] at q
  exact kit_ty q
theorem kit_in {d : PyData} (h : tyn d ≠ "dict") : PySem.W.kitOne K (.type (tyn d)) (.type "int") = some (isIn d) := by
  have q := kb_all _ (tyn_mem h) "int" (by simp)
  have e : nN "int" (tyn d) = isIn d := by cases d <;> rfl
  rw [e] at q
  exact kit_ty q
theorem kit_seq {d : PyData} (h : tyn d ≠ "dict") : PySem.W.kitAny K (.type (tyn d)) [.type "list", .type "tuple"] = some (isLi d || isTu d) :=
  kitAny_cons (kit_li h) (fun e => kitAny_cons (kit_tu h) (fun e2 => by rw [e, e2]; exact kitAny_nil) (fun e2 => by rw [e2, Bool.or_true])) (fun e => by rw [e, Bool.true_or])
theorem kit_di : PySem.W.kitOne K (.type "dict") (.type "dict") = some true := kit_ty (by decide +kernel)
theorem Dp.nodict {H : Hp} {v : V} {d : PyData} (h : Dp K H v d) : tyn d ≠ "dict" := by
  cases h <;> simp [tyn]
theorem cls2 : Paired ClsV [V.ty "list", V.ty "tuple"] [Value.type "list", Value.type "tuple"] := .cons (.ty _) (.cons (.ty _) .nil)
end
end AF
namespace AF
open PySem PySem.Spec PyProof.Rows L2
/-! how wide data is -/
mutual
def wd : PyData → Nat
  | .list ds => max ds.length (wdL ds)
  | .tuple ds => max ds.length (wdL ds)
  | _ => 0
def wdL : List PyData → Nat
  | [] => 0
  | d :: r => max (wd d) (wdL r)
end
theorem wdL_mem : ∀ {l : List PyData} {d : PyData}, d ∈ l → wd d ≤ wdL l
  | c :: r, d, h => by
    rcases List.mem_cons.mp h with e | h
    · subst e
      simp only [wdL]
      omega
    · have := wdL_mem h
      simp only [wdL]
      omega
theorem wdL_ints : ∀ ns : List Int, wdL (ns.map PyData.int) = 0
  | [] => by simp [wdL]
  | n :: r => by simp [wdL, wd, wdL_ints r]
theorem sl1000 : 1000 < sizeLine := by decide
end AF
/-! Sums of heights, ranges, dicts from ints to ints. -/
namespace AF
open PySem PySem.Spec PyProof.Rows L2
namespace Box
def sumH (l : List Box) : Int := (l.map ht).sum
def placesFrom (z : Int) : List Box → List Int
  | [] => []
  | b :: r => z :: placesFrom (z + b.ht) r
def rng (b : Box) : Int := if sumH b.parts - b.ht > 0 then sumH b.parts - b.ht else 0
theorem placesFrom_len (z : Int) : ∀ l : List Box, (placesFrom z l).length = l.length
  | [] => rfl
  | b :: r => by
    show (placesFrom (z + b.ht) r).length + 1 = r.length + 1
    rw [placesFrom_len]
theorem sumH_cons (b : Box) (r : List Box) : sumH (b :: r) = b.ht + sumH r := by
  simp [sumH]
theorem sumH_append (a b : List Box) : sumH (a ++ b) = sumH a + sumH b := by
  simp [sumH]
theorem sumH_take_succ {l : List Box} {i : Nat} {b : Box} (h : l[i]? = some b) : sumH (l.take (i + 1)) = sumH (l.take i) + b.ht := by
  rw [List.take_add_one, h, sumH_append]
  simp [sumH]
theorem placesFrom_get (z : Int) : ∀ (l : List Box) (i : Nat), i < l.length → (placesFrom z l)[i]? = some (z + sumH (l.take i))
  | b :: r, 0, _ => by simp [placesFrom, sumH]
  | b :: r, i + 1, h => by
    have ih := placesFrom_get (z + b.ht) r i (by simpa using h)
    show (placesFrom (z + b.ht) r)[i]? = _
    rw [ih, List.take_succ_cons, sumH_cons]
    exact congrArg some (by omega)
theorem placesFrom_take {l : List Box} {i : Nat} (h : i < l.length) : (placesFrom 0 l).take (i + 1) = (placesFrom 0 l).take i ++ [sumH (l.take i)] := by
  rw [List.take_add_one, placesFrom_get 0 l i h]
  show _ ++ [0 + sumH (l.take i)] = _
  rw [Int.zero_add]
end Box

/-! dicts of ints -/
def dI (l : List (Int × Int)) : List (Key × V) := l.map fun p => (Sum.inl p.1, V.int p.2)
def getI (l : List (Int × Int)) (n : Int) : Option Int := (l.find? fun p => decide (p.1 = n)).map (·.2)
def putI (l : List (Int × Int)) (n z : Int) : List (Int × Int) := if (l.any fun p => decide (p.1 = n)) = true then l.map (fun p => if p.1 = n then (p.1, z) else p) else l ++ [(n, z)]
theorem dI_len (l : List (Int × Int)) : (dI l).length = l.length := List.length_map _
theorem inl_iff {a b : Int} : ((Sum.inl a : Key) = Sum.inl b) ↔ a = b := ⟨fun h => Sum.inl.inj h, fun h => by rw [h]⟩
theorem valV_dI (n : Int) : ∀ l : List (Int × Int), valV (dI l) (Sum.inl n : Key) = (getI l n).map V.int
  | [] => rfl
  | p :: r => by
    have ih := valV_dI n r
    by_cases e : p.1 = n
    · have h1 : valV (dI (p :: r)) (Sum.inl n : Key) = some (V.int p.2) := valV_pos (p := ((Sum.inl p.1 : Key), V.int p.2)) (by rw [e])
      rw [h1]
      simp [getI, List.find?_cons, e]
    · have h1 : valV (dI (p :: r)) (Sum.inl n : Key) = valV (dI r) (Sum.inl n : Key) := valV_neg (p := ((Sum.inl p.1 : Key), V.int p.2)) (fun z => e (inl_iff.mp z))
      rw [h1, ih]
      simp [getI, List.find?_cons, e]
theorem any_dI (n : Int) (l : List (Int × Int)) : ((dI l).any fun kv => decide (kv.1 = (Sum.inl n : Key))) = (l.any fun p => decide (p.1 = n)) := by
  induction l with
  | nil => rfl
  | cons p r ih =>
    have h : decide ((Sum.inl p.1 : Key) = Sum.inl n) = decide (p.1 = n) := decide_eq_decide.mpr inl_iff
    show (decide ((Sum.inl p.1 : Key) = Sum.inl n) || (dI r).any _) = (decide (p.1 = n) || r.any _)
    rw [h, ih]
theorem map_dI (n z : Int) (l : List (Int × Int)) : ((dI l).map fun kv => if kv.1 = (Sum.inl n : Key) then (kv.1, V.int z) else kv) = dI (l.map fun p => if p.1 = n then (p.1, z) else p) := by
  induction l with
  | nil => rfl
  | cons p r ih =>
    show (if (Sum.inl p.1 : Key) = Sum.inl n then ((Sum.inl p.1 : Key), V.int z) else (Sum.inl p.1, V.int p.2)) :: (dI r).map _ = dI ((if p.1 = n then (p.1, z) else p) :: _)
    rw [ih]
    by_cases e : p.1 = n
    · rw [if_pos (inl_iff.mpr e), if_pos e]
      rfl
    · rw [if_neg (fun q => e (inl_iff.mp q)), if_neg e]
      rfl
theorem putK_dI (l : List (Int × Int)) (n z : Int) : putK (dI l) (Sum.inl n : Key) (V.int z) = dI (putI l n z) := by
  unfold putK putI
  rw [any_dI]
  by_cases h : (l.any fun p => decide (p.1 = n)) = true
  · rw [if_pos h, if_pos h, map_dI]
  · rw [if_neg h, if_neg h]
    simp [dI]
theorem getI_nil (n : Int) : getI [] n = none := rfl
theorem getI_cons (p : Int × Int) (r : List (Int × Int)) (n : Int) : getI (p :: r) n = if p.1 = n then some p.2 else getI r n := by
  by_cases e : p.1 = n <;> simp [getI, List.find?_cons, e]
theorem getI_none {l : List (Int × Int)} {n : Int} : getI l n = none ↔ n ∉ l.map (·.1) := by
  induction l with
  | nil => simp [getI_nil]
  | cons p r ih =>
    rw [getI_cons, List.map_cons, List.mem_cons]
    by_cases e : p.1 = n
    · rw [if_pos e]
      simp [e]
    · rw [if_neg e, ih]
      constructor
      · intro h z
        rcases z with z | z
        · exact e z.symm
        · exact h z
      · intro h z
        exact h (.inr z)
theorem putI_new {l : List (Int × Int)} {n z : Int} (h : n ∉ l.map (·.1)) : putI l n z = l ++ [(n, z)] := by
  unfold putI
  rw [if_neg]
  intro q
  obtain ⟨p, hp, e⟩ := List.any_eq_true.mp q
  exact h (List.mem_map.mpr ⟨p, hp, of_decide_eq_true e⟩)
theorem putI_len (l : List (Int × Int)) (n z : Int) : (putI l n z).length ≤ l.length + 1 := by
  unfold putI
  split
  · rw [List.length_map]
    omega
  · rw [List.length_append]
    exact Nat.le_refl _
theorem getI_append (a b : List (Int × Int)) (n : Int) : getI (a ++ b) n = (getI a n).or (getI b n) := by
  induction a with
  | nil => rfl
  | cons p r ih =>
    rw [List.cons_append, getI_cons, getI_cons, ih]
    by_cases e : p.1 = n
    · rw [if_pos e, if_pos e]
      rfl
    · rw [if_neg e, if_neg e]
theorem getI_put (l : List (Int × Int)) (n z m : Int) : getI (putI l n z) m = if n = m then some z else getI l m := by
  by_cases h : (l.any fun p => decide (p.1 = n)) = true
  · unfold putI
    rw [if_pos h]
    revert h
    induction l with
    | nil => intro h; cases h
    | cons p r ih =>
      intro h
      rw [List.map_cons, getI_cons, getI_cons]
      by_cases e : p.1 = n
      · rw [if_pos e]
        show (if p.1 = m then some z else _) = _
        by_cases e2 : n = m
        · rw [if_pos (e.trans e2), if_pos e2]
        · rw [if_neg (fun q => e2 (e.symm.trans q)), if_neg e2, if_neg (fun q => e2 (e.symm.trans q))]
          have key : ∀ l : List (Int × Int), getI (l.map fun p => if p.1 = n then (p.1, z) else p) m = getI l m := by
            intro l
            induction l with
            | nil => rfl
            | cons q r ih =>
              rw [List.map_cons, getI_cons, getI_cons, ih]
              by_cases eq : q.1 = n
              · rw [if_pos eq]
                show (if q.1 = m then some z else _) = _
                rw [if_neg (fun w => e2 (eq.symm.trans w)), if_neg (fun w => e2 (eq.symm.trans w))]
              · rw [if_neg eq]
          exact key r
      · rw [if_neg e]
        have h' : (r.any fun p => decide (p.1 = n)) = true := by
          rw [List.any_cons] at h
          simpa [e] using h
        rw [ih h']
        by_cases e3 : p.1 = m
        · rw [if_pos e3, if_pos e3]
          by_cases e2 : n = m
          · exact absurd (e3.trans e2.symm) e
          · rw [if_neg e2]
        · rw [if_neg e3, if_neg e3]
  · have hn : n ∉ l.map (·.1) := by
      intro q
      obtain ⟨p, hp, e⟩ := List.mem_map.mp q
      exact h (List.any_eq_true.mpr ⟨p, hp, decide_eq_true e⟩)
    rw [putI_new hn, getI_append]
    by_cases e : n = m
    · subst e
      rw [if_pos rfl, getI_none.mpr hn, getI_cons, if_pos rfl]
      rfl
    · rw [if_neg e, getI_cons, if_neg e, getI_nil]
      cases getI l m <;> rfl
end AF
namespace AF
open PySem PySem.Spec PyProof.Rows L2
namespace Box
mutual
theorem pre_mem_len : ∀ (b : Box) (c : Box), c ∈ b.pre → c.pre.length ≤ b.pre.length
  | .blk n h, c, m => by
    have e : c = .blk n h := by simpa [pre] using m
    rw [e]
    exact Nat.le_refl _
  | .scr n h ps, c, m => by
    have m : c = .scr n h ps ∨ c ∈ preL ps := by simpa [pre] using m
    rcases m with e | m
    · rw [e]
      exact Nat.le_refl _
    · have := preL_mem_len ps c m
      simp only [pre, List.length_cons]
      omega
theorem preL_mem_len : ∀ (l : List Box) (c : Box), c ∈ preL l → c.pre.length ≤ (preL l).length
  | [], c, m => by simp [preL] at m
  | b :: r, c, m => by
    have m : c ∈ b.pre ∨ c ∈ preL r := by simpa [preL] using m
    simp only [preL, List.length_append]
    rcases m with m | m
    · have := pre_mem_len b c m
      omega
    · have := preL_mem_len r c m
      omega
end
theorem parts_le (b : Box) : b.parts.length + 1 ≤ b.pre.length := by
  have := preL_ge b.parts
  rw [pre_eq, List.length_cons]
  omega
/-- brought into the range -/
def clamp (b : Box) (w : Int) : Int := if (if b.rng < w then b.rng else w) > 0 then (if b.rng < w then b.rng else w) else 0
/-- the fitted offsets of the scrollers among l -/
def fitI (ofs : List (Int × Int)) (l : List Box) : List (Int × Int) := (l.filter isS).map fun s => (s.num, s.clamp ((getI ofs s.num).getD 0))
theorem fitI_len (ofs : List (Int × Int)) (l : List Box) : (fitI ofs l).length ≤ l.length := by
  unfold fitI
  rw [List.length_map]
  exact List.length_filter_le _ _
theorem fitI_key {ofs : List (Int × Int)} {l : List Box} {n : Int} (h : n ∈ (fitI ofs l).map (·.1)) : n ∈ l.map num := by
  unfold fitI at h
  rw [List.map_map] at h
  obtain ⟨s, hs, e⟩ := List.mem_map.mp h
  exact List.mem_map.mpr ⟨s, (List.mem_filter.mp hs).1, e⟩
theorem fitI_succ {ofs : List (Int × Int)} {l : List Box} {i : Nat} {c : Box} (h : l[i]? = some c) :
    fitI ofs (l.take (i + 1)) = fitI ofs (l.take i) ++ (if c.isS = true then [(c.num, c.clamp ((getI ofs c.num).getD 0))] else []) := by
  rw [List.take_add_one, h]
  unfold fitI
  show List.map _ (List.filter isS (l.take i ++ [c])) = _
  rw [List.filter_append, List.map_append]
  congr 1
  by_cases e : c.isS = true
  · rw [if_pos e]
    simp [e]
  · rw [if_neg e]
    simp [e]
theorem nodup_take {l : List Box} (hn : (l.map num).Nodup) {i : Nat} {c : Box} (h : l[i]? = some c) : c.num ∉ (l.take i).map num := by
  intro m
  have e : (l.map num).take i = (l.take i).map num := List.map_take.symm
  rw [← e] at m
  obtain ⟨j, hj, e2⟩ := List.mem_take_iff_getElem.mp m
  have hi : (l.map num)[i]? = some c.num := by
    rw [List.getElem?_map, h]
    rfl
  have hj2 : (l.map num)[j]? = some c.num := by
    rw [List.getElem?_eq_getElem (by omega), e2]
  have := nd_ix hn hi hj2
  omega
end Box
theorem DGet.dI {H : Hp} {a : Addr} {l : List (Int × Int)} {n : Int} (e : H a = some (.dK (dI l))) : DGet H a (.int n) ((getI l n).map V.int) := by
  have h := DGet.k (k := (Sum.inl n : Key)) e
  rw [valV_dI] at h
  exact h
theorem DPut.dI {H : Hp} {a : Addr} {l : List (Int × Int)} {n z : Int} (e : H a = some (.dK (dI l))) (hl : l.length < sizeLine) : DPut H a (.int n) (.int z) (upd H a (.dK (AF.dI (putI l n z)))) := by
  have h := DPut.k (k := (Sum.inl n : Key)) (v := .int z) e (by rw [dI_len]; exact hl)
  rw [putK_dI] at h
  exact h
theorem getD_int (o : Option Int) (z : Int) : (o.map V.int).getD (V.int z) = V.int (o.getD z) := by cases o <;> rfl
end AF
namespace AF
open PySem PySem.Spec PyProof.Rows L2
/-- the state of the law's draws -/
def DrawAt (H : Hp) (d l : Addr) : Prop := ∃ (ns : List Int) (i r z : Int), H d = some (.lst [.ref l, .int i, .int r, .int z]) ∧ H l = some (.lst (ns.map V.int)) ∧ 0 ≤ i ∧ l ≠ d
theorem But.keepT {H H' : Hp} {d : Addr} {xs : List V} (b : But [d] H H') (h : H d = some (.lst xs)) : KeepT H H' := fun a ys e =>
  b a _ (fun m => by
    have q : a = d := by simpa using m
    subst q
    rw [h] at e
    cases e) e
theorem But.at {H H' : Hp} {l : List Addr} {b : Addr} {o : HO} (k : But l H H') (n : b ∉ l) (h : H b = some o) : H' b = some o := k b o n h
theorem but_one {H H' : Hp} {d a : Addr} {o : HO} (k : But [d] H H') (h : H a = some o) (n : a ≠ d) : H' a = some o := k a o (by simpa using n) h
theorem DrawAt.lst {H : Hp} {d l : Addr} (h : DrawAt H d l) : ∃ xs, H d = some (.lst xs) := by
  obtain ⟨ns, i, r, z, e, _⟩ := h
  exact ⟨_, e⟩
theorem DrawAt.lst2 {H : Hp} {d l : Addr} (h : DrawAt H d l) : ∃ ns : List Int, H l = some (.lst (ns.map V.int)) := by
  obtain ⟨ns, i, r, z, _, e, _⟩ := h
  exact ⟨_, e⟩
theorem DrawAt.ne {H : Hp} {d l : Addr} (h : DrawAt H d l) : l ≠ d := by
  obtain ⟨ns, i, r, z, _, _, _, n⟩ := h
  exact n
theorem DrawAt.same {H H' : Hp} {d l : Addr} (h : DrawAt H d l) (k : Same H H') : DrawAt H' d l := by
  obtain ⟨ns, i, r, z, e, e2, h0, n⟩ := h
  exact ⟨ns, i, r, z, k _ _ e, k _ _ e2, h0, n⟩
/-- where d and l stand -/
theorem DrawAt.but {H H' : Hp} {d l : Addr} {x : List Addr} (h : DrawAt H d l) (k : But x H H') (h1 : d ∉ x) (h2 : l ∉ x) : DrawAt H' d l := by
  obtain ⟨ns, i, r, z, e, e2, h0, n⟩ := h
  exact ⟨ns, i, r, z, k _ _ h1 e, k _ _ h2 e2, h0, n⟩
theorem fmod_lo {a m : Int} (h : 0 < m) : 0 ≤ a % m := Int.emod_nonneg a (by omega)
theorem fmod_hi {a m : Int} (h : 0 < m) : a % m < m := Int.emod_lt_of_pos a h
end AF
namespace AF
open PySem PySem.Spec PyProof.Rows L2
/-- a dict locked while it is walked -/
def lockH (H : Hp) (c : Addr) (od : Obj) (kvs : List (Key × V)) : Hp := upd H c (.frz od (.dK kvs))
abbrev KeepL (H H' : Hp) : Prop := Same H H'
theorem keepS_lock {H : Hp} {c : Addr} {od : Obj} {kvs : List (Key × V)} (h : H c = some (.dK kvs)) : KeepS H (lockH H c od kvs) := fun b o hb e => by
  unfold lockH
  by_cases hbc : b = c
  · subst hbc
    rw [h] at e
    cases e
    cases hb
  · rw [upd_ne hbc]
    exact e
theorem lock_back {H H' : Hp} {c : Addr} {od : Obj} {kvs : List (Key × V)} (h : H c = some (.dK kvs)) (s : Same (lockH H c od kvs) H') : Same H (upd H' c (.dK kvs)) := fun b o e => by
  by_cases hbc : b = c
  · subst hbc
    rw [upd_same, ← h, e]
  · rw [upd_ne hbc]
    refine s b o ?_
    unfold lockH
    rw [upd_ne hbc]
    exact e
theorem canLay_ints : ∀ ns : List Int, PyData.canLayAll0 (ns.map PyData.int) = true
  | [] => by simp [PyData.canLayAll0]
  | n :: r => by simp [PyData.canLayAll0, PyData.canLay0, canLay_ints r]
theorem depth_ints : ∀ ns : List Int, PyData.depthAll (ns.map PyData.int) ≤ 1
  | [] => by simp [PyData.depthAll]
  | n :: r => by
    have := depth_ints r
    simp only [List.map_cons, PyData.depthAll, PyData.depth]
    omega
theorem shaped_ints (ns : List Int) : SeqAt.shaped (.list (ns.map PyData.int)) = true := by
  have h1 := canLay_ints ns
  have h2 := depth_ints ns
  show (PyData.canLay0 (.list (ns.map PyData.int)) && decide (PyData.depth (.list (ns.map PyData.int)) ≤ 64)) = true
  rw [Bool.and_eq_true]
  refine ⟨by simp only [PyData.canLay0]; exact h1, decide_eq_true ?_⟩
  simp only [PyData.depth]
  omega
end AF
namespace AF
open PySem PySem.Spec PyProof.Rows L2
theorem putI_mem {l : List (Int × Int)} {n z k : Int} (h : k ∈ (putI l n z).map (·.1)) : k ∈ l.map (·.1) ∨ k = n := by
  unfold putI at h
  split at h
  · left
    obtain ⟨p, hp, e⟩ := List.mem_map.mp h
    obtain ⟨q, hq, e2⟩ := List.mem_map.mp hp
    refine List.mem_map.mpr ⟨q, hq, ?_⟩
    by_cases c : q.1 = n
    · rw [if_pos c] at e2
      rw [← e, ← e2]
    · rw [if_neg c] at e2
      rw [← e, ← e2]
  · rw [List.map_append] at h
    rcases List.mem_append.mp h with h | h
    · exact .inl h
    · exact .inr (by simpa using h)
theorem putI_keys {l : List (Int × Int)} {n z : Int} (h : (l.any fun p => decide (p.1 = n)) = true) : (putI l n z).map (·.1) = l.map (·.1) := by
  unfold putI
  rw [if_pos h, List.map_map]
  refine List.map_congr_left fun p _ => ?_
  show (if p.1 = n then (p.1, z) else p).1 = p.1
  by_cases c : p.1 = n
  · rw [if_pos c]
  · rw [if_neg c]
theorem putI_nodup {l : List (Int × Int)} {n z : Int} (h : (l.map (·.1)).Nodup) : ((putI l n z).map (·.1)).Nodup := by
  by_cases c : (l.any fun p => decide (p.1 = n)) = true
  · rw [putI_keys c]
    exact h
  · have hn : n ∉ l.map (·.1) := by
      intro q
      obtain ⟨p, hp, e⟩ := List.mem_map.mp q
      exact c (List.any_eq_true.mpr ⟨p, hp, decide_eq_true e⟩)
    rw [putI_new hn, List.map_append]
    exact nd_snoc h hn
theorem getI_self {l : List (Int × Int)} (h : (l.map (·.1)).Nodup) {p : Int × Int} (hp : p ∈ l) : getI l p.1 = some p.2 := by
  induction l with
  | nil => cases hp
  | cons q r ih =>
    rw [List.map_cons] at h
    obtain ⟨h1, h2⟩ := List.nodup_cons.mp h
    rw [getI_cons]
    rcases List.mem_cons.mp hp with rfl | hp
    · rw [if_pos rfl]
    · rw [if_neg (fun e => h1 (List.mem_map.mpr ⟨p, hp, e.symm⟩)), ih h2 hp]
/-- each pair of such a dict is found by its key -/
theorem dI_self {l : List (Int × Int)} (h : (l.map (·.1)).Nodup) {p : Key × V} (hp : p ∈ dI l) : ∃ q ∈ l, p = (Sum.inl q.1, V.int q.2) ∧ valV (dI l) p.1 = some p.2 := by
  unfold dI at hp
  obtain ⟨q, hq, rfl⟩ := List.mem_map.mp hp
  refine ⟨q, hq, rfl, ?_⟩
  show valV (dI l) (Sum.inl q.1 : Key) = some (V.int q.2)
  rw [valV_dI, getI_self h hq]
  rfl
theorem dI_keys (l : List (Int × Int)) : (dI l).map (·.1) = (l.map (·.1)).map Sum.inl := by
  unfold dI
  rw [List.map_map, List.map_map]
  rfl
namespace Box
theorem fitI_keys (ofs : List (Int × Int)) (l : List Box) : (fitI ofs l).map (·.1) = (l.filter isS).map num := by
  unfold fitI
  rw [List.map_map]
  rfl
theorem fitI_nodup {ofs : List (Int × Int)} {l : List Box} (h : (l.map num).Nodup) : ((fitI ofs l).map (·.1)).Nodup := by
  rw [fitI_keys]
  exact h.sublist (List.filter_sublist.map num)
theorem fitI_congr {o1 o2 : List (Int × Int)} {l : List Box} (h : ∀ c ∈ l, getI o1 c.num = getI o2 c.num) : fitI o1 l = fitI o2 l := by
  unfold fitI
  refine List.map_congr_left fun s hs => ?_
  rw [h s (List.mem_filter.mp hs).1]
theorem rng_nonneg (b : Box) : 0 ≤ b.rng := by
  unfold rng
  split <;> omega
theorem clamp_zero (b : Box) : b.clamp 0 = 0 := by
  have := rng_nonneg b
  unfold clamp
  rw [if_neg (show ¬ b.rng < 0 by omega)]
  rfl
theorem fitI_zero (ofs : List (Int × Int)) (l : List Box) : (fitI ofs l).map (fun p => (p.1, (0 : Int))) = fitI [] l := by
  unfold fitI
  rw [List.map_map]
  refine List.map_congr_left fun s _ => ?_
  show (s.num, (0 : Int)) = (s.num, s.clamp ((getI [] s.num).getD 0))
  rw [getI_nil]
  show (s.num, (0 : Int)) = (s.num, s.clamp 0)
  rw [clamp_zero]
end Box
end AF
/-! The documents that the laws draw. -/
namespace AF
open PySem PySem.Spec PyProof.Rows L2
namespace Box
/-- how many boxes a drawn box of depth n has at most -/
def most : Nat → Nat
  | 0 => 1
  | n + 1 => 1 + 2 * most n
/-- drawn siblings: their numbers rise from above lo to hi -/
structure Good (n : Nat) (lo hi : Int) (bs : List Box) : Prop where
  asc : ((preL bs).map num).Pairwise (· < ·)
  low : ∀ c ∈ preL bs, lo < c.num
  top : ∀ c ∈ preL bs, c.num ≤ hi
  le : lo ≤ hi
  hts : ∀ c ∈ preL bs, 0 ≤ c.ht ∧ c.ht ≤ 8
  dep : depthL bs ≤ n
  few : hi ≤ lo + 3 * (preL bs).length
  cnt : (preL bs).length ≤ bs.length * most n
  two : ∀ c ∈ preL bs, c.parts.length ≤ 2
theorem Good.nil (n : Nat) (lo : Int) : Good n lo lo [] := by
  refine ⟨?_, ?_, ?_, Int.le_refl _, ?_, ?_, ?_, ?_, ?_⟩ <;> simp [preL, depthL]
theorem depthL_append : ∀ a b : List Box, depthL (a ++ b) = max (depthL a) (depthL b)
  | [], b => by simp [depthL]
  | x :: a, b => by
    have := depthL_append a b
    simp only [List.cons_append, depthL, this]
    omega
theorem Good.append {n : Nat} {lo mid hi : Int} {xs ys : List Box} (a : Good n lo mid xs) (b : Good n mid hi ys) : Good n lo hi (xs ++ ys) := by
  have e := preL_append xs ys
  refine ⟨?_, ?_, ?_, Int.le_trans a.le b.le, ?_, ?_, ?_, ?_, ?_⟩
  · rw [e, List.map_append]
    refine List.pairwise_append.mpr ⟨a.asc, b.asc, fun x hx y hy => ?_⟩
    obtain ⟨c, hc, rfl⟩ := List.mem_map.mp hx
    obtain ⟨d, hd, rfl⟩ := List.mem_map.mp hy
    exact Int.lt_of_le_of_lt (a.top c hc) (b.low d hd)
  · intro c hc
    rw [e] at hc
    rcases List.mem_append.mp hc with h | h
    · exact a.low c h
    · exact Int.lt_of_le_of_lt a.le (b.low c h)
  · intro c hc
    rw [e] at hc
    rcases List.mem_append.mp hc with h | h
    · exact Int.le_trans (a.top c h) b.le
    · exact b.top c h
  · intro c hc
    rw [e] at hc
    rcases List.mem_append.mp hc with h | h
    · exact a.hts c h
    · exact b.hts c h
  · rw [depthL_append]
    have := a.dep
    have := b.dep
    omega
  · rw [e, List.length_append]
    have := a.few
    have := b.few
    omega
  · rw [e, List.length_append, List.length_append, Nat.add_mul]
    have := a.cnt
    have := b.cnt
    omega
  · intro c hc
    rw [e] at hc
    rcases List.mem_append.mp hc with h | h
    · exact a.two c h
    · exact b.two c h
theorem Good.blk {n : Nat} {lo m h : Int} (h1 : lo < m) (h2 : m ≤ lo + 3) (h3 : 0 ≤ h) (h4 : h ≤ 8) : Good n lo m [.blk m h] := by
  have e : preL [.blk m h] = [.blk m h] := by simp [preL, pre]
  have hm : 1 ≤ most n := by
    cases n with
    | zero => exact Nat.le_refl _
    | succ n =>
      simp only [most]
      omega
  refine ⟨?_, ?_, ?_, Int.le_of_lt h1, ?_, ?_, ?_, ?_, ?_⟩
  · simp [e]
  · intro c hc
    rw [e] at hc
    rw [List.mem_singleton.mp hc]
    exact h1
  · intro c hc
    rw [e] at hc
    rw [List.mem_singleton.mp hc]
    exact Int.le_refl _
  · intro c hc
    rw [e] at hc
    rw [List.mem_singleton.mp hc]
    exact ⟨h3, h4⟩
  · simp [depthL, depth]
  · rw [e, List.length_singleton]
    omega
  · rw [e, List.length_singleton]
    omega
  · intro c hc
    rw [e] at hc
    rw [List.mem_singleton.mp hc]
    exact Nat.zero_le _
theorem Good.scr {n : Nat} {lo m hi h : Int} {ps : List Box} (g : Good n m hi ps) (h1 : lo < m) (h2 : m ≤ lo + 3) (h3 : 0 ≤ h) (h4 : h ≤ 8) (h5 : ps.length ≤ 2) : Good (n + 1) lo hi [.scr m h ps] := by
  have e : preL [.scr m h ps] = .scr m h ps :: preL ps := by simp [preL, pre]
  refine ⟨?_, ?_, ?_, by have := g.le; omega, ?_, ?_, ?_, ?_, ?_⟩
  · rw [e, List.map_cons]
    refine List.pairwise_cons.mpr ⟨fun x hx => ?_, g.asc⟩
    obtain ⟨c, hc, rfl⟩ := List.mem_map.mp hx
    exact g.low c hc
  · intro c hc
    rw [e] at hc
    rcases List.mem_cons.mp hc with rfl | hc
    · exact h1
    · have := g.low c hc
      omega
  · intro c hc
    rw [e] at hc
    rcases List.mem_cons.mp hc with rfl | hc
    · exact g.le
    · exact g.top c hc
  · intro c hc
    rw [e] at hc
    rcases List.mem_cons.mp hc with rfl | hc
    · exact ⟨h3, h4⟩
    · exact g.hts c hc
  · have := g.dep
    simp only [depthL, depth]
    omega
  · rw [e, List.length_cons]
    have := g.few
    omega
  · rw [e, List.length_cons, List.length_singleton]
    have h6 := g.cnt
    have h7 : ps.length * most n ≤ 2 * most n := Nat.mul_le_mul_right _ h5
    simp only [most]
    omega
  · intro c hc
    rw [e] at hc
    rcases List.mem_cons.mp hc with rfl | hc
    · exact h5
    · exact g.two c hc
theorem Good.up {n : Nat} {lo hi : Int} {bs : List Box} (g : Good n lo hi bs) : Good (n + 1) lo hi bs := by
  refine ⟨g.asc, g.low, g.top, g.le, g.hts, Nat.le_succ_of_le g.dep, g.few, Nat.le_trans g.cnt (Nat.mul_le_mul_left _ ?_), g.two⟩
  simp only [most]
  omega
theorem Good.mono {n k : Nat} {lo hi : Int} {bs : List Box} (g : Good n lo hi bs) (h : n ≤ k) : Good k lo hi bs := by
  induction h with
  | refl => exact g
  | step _ ih => exact ih.up
/-- a drawn document -/
structure Doc (b : Box) : Prop where
  ex : ∃ (n h hi : Int) (ps : List Box), b = .scr n h ps ∧ 1 ≤ n ∧ n ≤ 5 ∧ 0 ≤ h ∧ h ≤ 20 ∧ Good 2 n hi ps ∧ ps.length ≤ 4
theorem Doc.len {b : Box} (d : Doc b) : b.pre.length ≤ 29 := by
  obtain ⟨n, h, hi, ps, rfl, _, _, _, _, g, l⟩ := d.ex
  have h1 := g.cnt
  have h2 : most 2 = 7 := rfl
  rw [h2] at h1
  simp only [pre, List.length_cons]
  omega
theorem Doc.asc {b : Box} (d : Doc b) : (b.pre.map num).Pairwise (· < ·) := by
  obtain ⟨n, h, hi, ps, rfl, _, _, _, _, g, l⟩ := d.ex
  simp only [pre, List.map_cons]
  refine List.pairwise_cons.mpr ⟨fun x hx => ?_, g.asc⟩
  obtain ⟨c, hc, rfl⟩ := List.mem_map.mp hx
  exact g.low c hc
theorem Doc.nodup {b : Box} (d : Doc b) : (b.pre.map num).Nodup := d.asc.imp fun h => Int.ne_of_lt h
theorem Doc.nums {b : Box} (d : Doc b) : ∀ c ∈ b.pre, 1 ≤ c.num ∧ c.num ≤ 89 := by
  obtain ⟨n, h, hi, ps, rfl, h1, h2, _, _, g, l⟩ := d.ex
  intro c hc
  have h3 := g.cnt
  have h4 : most 2 = 7 := rfl
  rw [h4] at h3
  have h5 := g.few
  have h6 := g.le
  simp only [pre] at hc
  rcases List.mem_cons.mp hc with rfl | hc
  · exact ⟨h1, by simp only [num]; omega⟩
  · have a1 := g.low c hc
    have a2 := g.top c hc
    omega
theorem Doc.hts {b : Box} (d : Doc b) : ∀ c ∈ b.pre, 0 ≤ c.ht ∧ c.ht ≤ 20 := by
  obtain ⟨n, h, hi, ps, rfl, _, _, h1, h2, g, l⟩ := d.ex
  intro c hc
  simp only [pre] at hc
  rcases List.mem_cons.mp hc with rfl | hc
  · exact ⟨h1, h2⟩
  · have := g.hts c hc
    omega
theorem Doc.dep {b : Box} (d : Doc b) : b.depth ≤ 3 := by
  obtain ⟨n, h, hi, ps, rfl, _, _, _, _, g, l⟩ := d.ex
  have := g.dep
  simp only [depth]
  omega
theorem Doc.isS {b : Box} (d : Doc b) : b.isS = true := by
  obtain ⟨n, h, hi, ps, rfl, _⟩ := d.ex
  rfl
theorem Doc.kids {b : Box} (d : Doc b) : ∀ c ∈ b.pre, c.parts.length ≤ 4 := by
  obtain ⟨n, h, hi, ps, rfl, _, _, _, _, g, l⟩ := d.ex
  intro c hc
  simp only [pre] at hc
  rcases List.mem_cons.mp hc with rfl | hc
  · exact l
  · have := g.two c hc
    omega
mutual
theorem pre_dep : ∀ (b c : Box), c ∈ b.pre → c.depth ≤ b.depth
  | .blk n h, c, m => by
    have e : c = .blk n h := by simpa [pre] using m
    rw [e]
    exact Nat.le_refl _
  | .scr n h ps, c, m => by
    have m : c = .scr n h ps ∨ c ∈ preL ps := by simpa [pre] using m
    rcases m with e | m
    · rw [e]
      exact Nat.le_refl _
    · have := preL_dep ps c m
      simp only [depth]
      omega
theorem preL_dep : ∀ (l : List Box) (c : Box), c ∈ preL l → c.depth ≤ depthL l
  | [], c, m => by simp [preL] at m
  | b :: r, c, m => by
    have m : c ∈ b.pre ∨ c ∈ preL r := by simpa [preL] using m
    simp only [depthL]
    rcases m with m | m
    · have := pre_dep b c m
      omega
    · have := preL_dep r c m
      omega
end
end Box
end AF
/-! Comprehensions with two fors, walked; len(set(xs)) of ints that may stand twice. -/
namespace AF
open PySem PySem.Spec PyProof.Rows L2
section
variable {J : It} {n : Nat} {G : Hp → Prop} {Y : Nat → Hp → V → Hp → Prop}
/-- the inner for of a comprehension: from the heap as it stands -/
theorem lc_in (w : Walk J n G Y) {g : TG} {tt : TT} {te : TE} {vs : List Nat} {σ : L2.St} {H0 : Hp} {D : Addr} {Qd : Hp → Prop} (Pv : Nat → Hp → Prop) (h0 : Pv 0 H0) (hG : ∀ i H, i ≤ n → Pv i H → G H)
    (hs : ∀ i x H H', i < n → Pv i H → Y i H x H' → g x (wipe σ vs) H' fun σ2 H2 => wipe σ2 vs = wipe σ vs ∧ tt σ2 H2 fun b H3 =>
      if b = true then te σ2 H3 fun y H4 => ∃ acc, H4 D = some (.lst acc) ∧ acc.length < sizeLine ∧ Pv (i + 1) (upd H4 D (.lst (acc ++ [y]))) else Pv (i + 1) H3) (hd : ∀ H, Pv n H → Qd H) :
    ∃ W : Nat → Nat → Hp → Prop, (∃ m, W 0 m H0) ∧ ∀ i m H, W i m H →
      (J.stop i H ∧ Qd H) ∨ (J.go i H ∧ ∃ Nx : Hp → Prop, (∀ H', Nx H' → ∃ m', m' < m ∧ W (i + 1) m' H') ∧ ∀ x H', J.yld i H x H' → g x (wipe σ vs) H' fun σ2 H2 => wipe σ2 vs = wipe σ vs ∧ tt σ2 H2 fun b H3 =>
        if b = true then te σ2 H3 fun y H4 => ∃ acc, H4 D = some (.lst acc) ∧ acc.length < sizeLine ∧ Nx (upd H4 D (.lst (acc ++ [y]))) else Nx H3) := by
  refine ⟨fun i m H => m = n - i ∧ i ≤ n ∧ Pv i H, ⟨n, by simp, Nat.zero_le _, h0⟩, ?_⟩
  rintro i m H ⟨rfl, hi, p⟩
  have q := hG i H hi p
  by_cases hlt : i < n
  · exact .inr ⟨w.goes i H hlt q, Pv (i + 1), fun H' p' => ⟨n - (i + 1), by omega, rfl, hlt, p'⟩, fun x H' y => hs i x H H' hlt p (w.yields i H x H' hlt q y)⟩
  · have e : i = n := by omega
    subst e
    exact .inl ⟨w.stops H q, hd H p⟩
/-- the outer for of a comprehension with two: what follows of the inner one is asked as it stands -/
theorem lc_out (w : Walk J n G Y) {g : TG} {tt : TT} {wi1 : TI} {g1 : TG} {tt1 : TT} {te : TE} {vs vs1 : List Nat} {σ : L2.St} {H1 : Hp} {D : Addr} {Qd : Hp → Prop} (Pv : Nat → Hp → Prop) (h0 : Pv 0 (upd H1 D (.lst []))) (hG : ∀ i H, i ≤ n → Pv i H → G H)
    (hs : ∀ i x H H', i < n → Pv i H → Y i H x H' → g x (wipe σ vs) H' fun σ2 H2 => wipe σ2 vs = wipe σ vs ∧ tt σ2 H2 fun b H3 =>
      if b = true then wi1 σ2 H3 fun J1 H4 => ∃ W1 : Nat → Nat → Hp → Prop, (∃ m, W1 0 m H4) ∧ ∀ j k H, W1 j k H →
        (J1.stop j H ∧ Pv (i + 1) H) ∨ (J1.go j H ∧ ∃ Nx1 : Hp → Prop, (∀ H', Nx1 H' → ∃ k', k' < k ∧ W1 (j + 1) k' H') ∧ ∀ x H', J1.yld j H x H' → g1 x (wipe σ2 vs1) H' fun σ3 H5 => wipe σ3 vs1 = wipe σ2 vs1 ∧ tt1 σ3 H5 fun b H6 =>
          if b = true then te σ3 H6 fun y H7 => ∃ acc, H7 D = some (.lst acc) ∧ acc.length < sizeLine ∧ Nx1 (upd H7 D (.lst (acc ++ [y]))) else Nx1 H6)
      else Pv (i + 1) H3) (hd : ∀ H, Pv n H → Qd H) :
    ∃ W : Nat → Nat → Hp → Prop, (∃ m, W 0 m (upd H1 D (.lst []))) ∧ ∀ i m H, W i m H →
      (J.stop i H ∧ Qd H) ∨ (J.go i H ∧ ∃ Nx : Hp → Prop, (∀ H', Nx H' → ∃ m', m' < m ∧ W (i + 1) m' H') ∧ ∀ x H', J.yld i H x H' → g x (wipe σ vs) H' fun σ2 H2 => wipe σ2 vs = wipe σ vs ∧ tt σ2 H2 fun b H3 =>
        if b = true then wi1 σ2 H3 fun J1 H4 => ∃ W1 : Nat → Nat → Hp → Prop, (∃ m, W1 0 m H4) ∧ ∀ j k H, W1 j k H →
          (J1.stop j H ∧ Nx H) ∨ (J1.go j H ∧ ∃ Nx1 : Hp → Prop, (∀ H', Nx1 H' → ∃ k', k' < k ∧ W1 (j + 1) k' H') ∧ ∀ x H', J1.yld j H x H' → g1 x (wipe σ2 vs1) H' fun σ3 H5 => wipe σ3 vs1 = wipe σ2 vs1 ∧ tt1 σ3 H5 fun b H6 =>
            if b = true then te σ3 H6 fun y H7 => ∃ acc, H7 D = some (.lst acc) ∧ acc.length < sizeLine ∧ Nx1 (upd H7 D (.lst (acc ++ [y]))) else Nx1 H6)
        else Nx H3) := by
  refine ⟨fun i m H => m = n - i ∧ i ≤ n ∧ Pv i H, ⟨n, by simp, Nat.zero_le _, h0⟩, ?_⟩
  rintro i m H ⟨rfl, hi, p⟩
  have q := hG i H hi p
  by_cases hlt : i < n
  · exact .inr ⟨w.goes i H hlt q, Pv (i + 1), fun H' p' => ⟨n - (i + 1), by omega, rfl, hlt, p'⟩, fun x H' y => hs i x H H' hlt p (w.yields i H x H' hlt q y)⟩
  · have e : i = n := by omega
    subst e
    exact .inl ⟨w.stops H q, hd H p⟩
end

/-! len(set(xs)) -/
theorem firstMet_full (ns : List Int) : ∀ i, i ≤ ns.length → ((PyProof.Rows.firstMet (fun i => ns.getD i 0) i).length = i ↔ (ns.take i).Nodup)
  | 0, _ => by simp [PyProof.Rows.firstMet_zero]
  | i + 1, hi => by
    have hlt : i < ns.length := hi
    have ih := firstMet_full ns i (Nat.le_of_lt hlt)
    have hle := PyProof.Rows.firstMet_length_le (fun i => ns.getD i 0) i
    have e1 : ns.getD i 0 = ns[i] := by
      rw [List.getD_eq_getElem?_getD, List.getElem?_eq_getElem hlt]
      rfl
    have e2 : ns.take (i + 1) = ns.take i ++ [ns[i]] := by
      rw [List.take_add_one, List.getElem?_eq_getElem hlt]
      rfl
    have es : PyProof.Rows.firstMet (fun i => ns.getD i 0) (i + 1) = if (PyProof.Rows.firstMet (fun i => ns.getD i 0) i).any (· == ns[i]) then PyProof.Rows.firstMet (fun i => ns.getD i 0) i else PyProof.Rows.firstMet (fun i => ns.getD i 0) i ++ [ns[i]] := by
      rw [PyProof.Rows.firstMet_succ, ← e1]
      rfl
    rw [es, e2]
    constructor
    · intro h
      by_cases c : (PyProof.Rows.firstMet (fun i => ns.getD i 0) i).any (· == ns[i]) = true
      · rw [if_pos c] at h
        omega
      · rw [if_neg c, List.length_append, List.length_singleton] at h
        have hn : (ns.take i).Nodup := ih.mp (by omega)
        have et : PyProof.Rows.firstMet (fun i => ns.getD i 0) i = ns.take i := by
          have hfull : (ns.take i).length = i := by rw [List.length_take]; omega
          have key := RZ.firstMet_nodup (ns := ns.take i) hn i (by omega)
          have ee : ∀ j, j ≤ i → PyProof.Rows.firstMet (fun i => ns.getD i 0) j = PyProof.Rows.firstMet (fun k => (ns.take i).getD k 0) j := by
            intro j
            induction j with
            | zero => intro _; rfl
            | succ j ihj =>
              intro hj
              rw [PyProof.Rows.firstMet_succ, PyProof.Rows.firstMet_succ, ihj (by omega)]
              have : ns.getD j 0 = (ns.take i).getD j 0 := by
                rw [List.getD_eq_getElem?_getD, List.getD_eq_getElem?_getD, List.getElem?_take, if_pos (show j < i by omega)]
              rw [this]
          rw [ee i (Nat.le_refl _), key, List.take_take, Nat.min_self]
        rw [et] at c
        refine nd_snoc hn fun m => c ?_
        exact List.any_eq_true.mpr ⟨_, m, by simp⟩
    · intro h
      have h1 : (ns.take i).Nodup := (List.nodup_append.mp h).1
      have hl := ih.mpr h1
      by_cases c : (PyProof.Rows.firstMet (fun i => ns.getD i 0) i).any (· == ns[i]) = true
      · exfalso
        have hfull : (ns.take i).length = i := by rw [List.length_take]; omega
        have key := RZ.firstMet_nodup (ns := ns.take i) h1 i (by omega)
        have ee : ∀ j, j ≤ i → PyProof.Rows.firstMet (fun i => ns.getD i 0) j = PyProof.Rows.firstMet (fun k => (ns.take i).getD k 0) j := by
          intro j
          induction j with
          | zero => intro _; rfl
          | succ j ihj =>
            intro hj
            rw [PyProof.Rows.firstMet_succ, PyProof.Rows.firstMet_succ, ihj (by omega)]
            have : ns.getD j 0 = (ns.take i).getD j 0 := by
              rw [List.getD_eq_getElem?_getD, List.getD_eq_getElem?_getD, List.getElem?_take, if_pos (show j < i by omega)]
            rw [this]
        rw [ee i (Nat.le_refl _), key, List.take_take, Nat.min_self] at c
        obtain ⟨y, hy, ey⟩ := List.any_eq_true.mp c
        have ey : y = ns[i] := eq_of_beq ey
        subst ey
        have := (List.nodup_append.mp h).2.2 _ hy _ (List.mem_singleton_self _)
        exact this rfl
      · rw [if_neg c, List.length_append, hl]
        rfl
def tLenSetA (K : PySem.W.Frag) (ta : TE) : TE := fun σ H Q => ta σ H fun x H1 => ∃ (l : Addr) (ns : List Int), x = .ref l ∧ SqL K H1 l (ns.map V.int) ∧ ns.length ≤ 4000 ∧ ∀ n : Nat, (n = ns.length ↔ ns.Nodup) → Q (.int (n : Int)) H1
theorem pe_lenSetA {X : Cx} {a : Expr} {ta : TE} {p p2 q pos : Pos} (K : PySem.W.Frag) (hK : X.K = K) (hg : Gl X "len") (hm : X.mg "len" = none) (hg2 : Gl X "set") (hm2 : X.mg "set" = none) (ha : PE X a ta) (hc : X.calm = true := by rfl)
    (na : starEach [a] X.env = (false, eval a X.env) :: starEach [] X.env := by rfl) : PE X (.Call (.Name "len" p) [.Call (.Name "set" p2) [a] [] q] [] pos) (tLenSetA K ta) := by
  subst hK
  refine ⟨fun pins s σ H Q I h => ?_⟩
  refine Call_ (ld_blt I hg hm boot_len ?_)
  refine PyProof.Rows.callWith_builtin1 (PyProof.Rows.args_cons ?_ rfl) rfl rfl
  refine Call_ (ld_blt I hg2 hm2 boot_set ?_)
  refine PyProof.Rows.callWith_type1 (PyProof.Rows.args_cons (thn (ha.run pins s σ H _ I h) fun v s1 ⟨x, H1, I1, r1, q1⟩ => PyProof.Rows.args_nil ?_) na) na rfl
  obtain ⟨l, ns, rfl, hq, hl, q1⟩ := q1
  cases r1
  obtain ⟨its, r, pl, hz⟩ := I1.list hq
  have hlen : its.toArray.size = ns.length := by
    rw [List.size_toArray, ← r.length, List.length_map]
  refine call_set_list (I1.ok.hd hc) pl.isList (by simpa using RZ.intsAre_vals r) (by rw [hlen]; unfold scanBound; omega) fun h' tk hS hk => ?_
  refine PyProof.Rows.args_nil ?_
  rw [hlen] at hS
  have hle := PyProof.Rows.firstMet_length_le (fun i => ns.getD i 0) ns.length
  have hfull := firstMet_full ns ns.length (Nat.le_refl _)
  rw [List.take_length] at hfull
  obtain ⟨o, es, ep, t, ho, hex, hd, _, _, _, hf, hn⟩ := hS
  have I2 : Inv X pins σ H1 { s1 with heap := h', toks := tk } := I1.kept fun b o e => hk b o (Heap.lt_size e) e
  exact call_len_set ho hex hd hf (by rw [hn] <;> omega) ⟨.int _, H1, I2.tok _, ⟨_, by rw [hn]⟩, q1 _ hfull⟩
end AF
namespace AF
open PySem PySem.Spec PyProof.Rows L2
theorem find_at {α : Type} {l : List α} {p : α → Bool} {i : Nat} {c : α} (h : (l.take i).find? p = none) (hc : l[i]? = some c) (hp : p c = true) : l.find? p = some c := by
  obtain ⟨hi, e⟩ := List.getElem?_eq_some_iff.mp hc
  have e2 : l = l.take i ++ (c :: l.drop (i + 1)) := by
    rw [← e, List.getElem_cons_drop, List.take_append_drop]
  rw [e2, List.find?_append, h, List.find?_cons, hp]
  rfl
theorem find_step {α : Type} {l : List α} {p : α → Bool} {i : Nat} {c : α} (h : (l.take i).find? p = none) (hc : l[i]? = some c) (hp : p c = false) : (l.take (i + 1)).find? p = none := by
  rw [List.take_add_one, hc, List.find?_append, h]
  show (none : Option α).or ([c].find? p) = none
  rw [List.find?_cons, hp]
  rfl
/-- a box or None -/
def OptAt (H : Hp) (v : V) : Option Box → Prop
  | none => v = .non
  | some c => BoxAt H v c
def optI : Option Int → V
  | none => .non
  | some i => .int i
def optPy : Option Box → PyData
  | none => .none
  | some c => c.py
theorem OptAt.dp {K : PySem.W.Frag} {H : Hp} {v : V} : ∀ {o : Option Box}, OptAt H v o → Dp K H v (optPy o)
  | none, h => by
    have h : v = .non := h
    subst h
    exact .non
  | some c, h => BoxAt.dp c v h
theorem OptAt.s {H H' : Hp} {v : V} {o : Option Box} (h : OptAt H v o) (e : Same H H') : OptAt H' v o := by
  cases o with
  | none => exact h
  | some c => exact BoxAt.s h e
namespace Box
def byNum (n : Int) (c : Box) : Bool := decide (c.num = n)
def hasNum (n : Int) (c : Box) : Bool := (c.parts.find? (byNum n)).isSome
def parB (b : Box) (n : Int) : Option Int := (b.pre.find? (hasNum n)).map num
theorem mem_pre_parts {b c d : Box} (h1 : c ∈ b.pre) (h2 : d ∈ c.parts) : c.parts.length + 1 ≤ b.pre.length := by
  have := parts_le c
  have := pre_mem_len b c h1
  omega
/-- what a document is -/
structure IsDoc (b : Box) : Prop where
  s : b.isS = true
  n : ∀ c ∈ b.pre, 1 ≤ c.num ∧ c.num ≤ 999
  h : ∀ c ∈ b.pre, 0 ≤ c.ht ∧ c.ht ≤ 1000
  l : b.pre.length ≤ 40
  u : (b.pre.map num).Nodup
  d : b.depth ≤ 4
/-! layers -/
theorem depthL_filter : ∀ l : List Box, depthL l = if (l.filter isS).isEmpty then 0 else 1 + depthL ((l.filter isS).flatMap parts)
  | [] => by simp [depthL]
  | .blk n h :: r => by
    have ih := depthL_filter r
    have e : (Box.blk n h :: r).filter isS = r.filter isS := rfl
    rw [e]
    simp only [depthL, depth]
    omega
  | .scr n h ps :: r => by
    have ih := depthL_filter r
    have e : (Box.scr n h ps :: r).filter isS = .scr n h ps :: r.filter isS := rfl
    rw [e]
    have e2 : (Box.scr n h ps :: r.filter isS).flatMap parts = ps ++ (r.filter isS).flatMap parts := by simp [parts]
    rw [e2, depthL_append]
    simp only [depthL, depth]
    by_cases c : (r.filter isS).isEmpty = true
    · rw [if_pos c] at ih
      have c2 : r.filter isS = [] := List.isEmpty_iff.mp c
      rw [ih, c2]
      simp [depthL]
      omega
    · rw [if_neg c] at ih
      simp
      omega
theorem preL_layer : ∀ l : List Box, (preL ((l.filter isS).flatMap parts)).length + l.length ≤ (preL l).length
  | [] => by simp [preL]
  | .blk n h :: r => by
    have ih := preL_layer r
    have e : (Box.blk n h :: r).filter isS = r.filter isS := rfl
    rw [e]
    simp only [preL, pre, List.length_append, List.length_cons, List.length_nil]
    omega
  | .scr n h ps :: r => by
    have ih := preL_layer r
    have e : (Box.scr n h ps :: r).filter isS = .scr n h ps :: r.filter isS := rfl
    have e2 : (Box.scr n h ps :: r.filter isS).flatMap parts = ps ++ (r.filter isS).flatMap parts := by simp [parts]
    rw [e, e2, preL_append]
    simp only [preL, pre, List.length_append, List.length_cons]
    omega
end Box
end AF
namespace AF
open PySem PySem.Spec PyProof.Rows L2
theorem flat_ints (ns : List Int) : (ns.map V.int).all flatV = true := by
  rw [List.all_map]
  exact List.all_eq_true.mpr fun _ _ => rfl
theorem inV_ints (n : Int) (ns : List Int) : (inV (.int n) (ns.map V.int) = true) ↔ n ∈ ns := by
  unfold inV
  rw [List.any_map, List.any_eq_true]
  constructor
  · rintro ⟨m, hm, e⟩
    have e : (eqV (V.int m) (V.int n)) = true := e
    have : m = n := by simpa [eqV] using e
    rw [← this]
    exact hm
  · intro h
    exact ⟨n, h, by simp [eqV]⟩
namespace Box
theorem depthL_ge : ∀ (ps : List Box), ∀ c ∈ ps, c.depth ≤ depthL ps := fun ps c h => depthL_mem h
theorem depthL_in : ∀ ps : List Box, (depthL ps : Int) ∈ (0 : Int) :: ps.map fun c => (c.depth : Int)
  | [] => by simp [depthL]
  | b :: r => by
    have ih := depthL_in r
    simp only [depthL]
    by_cases h : depthL r ≤ b.depth
    · rw [Nat.max_eq_left h]
      simp
    · rw [Nat.max_eq_right (by omega)]
      rcases List.mem_cons.mp ih with e | e
      · omega
      · simp only [List.map_cons]
        exact List.mem_cons_of_mem _ (List.mem_cons_of_mem _ e)
theorem depthL_max {ps : List Box} {k : Int} (h1 : k ∈ (0 : Int) :: ps.map fun c => (c.depth : Int)) (h2 : ∀ y, y ∈ ((0 : Int) :: ps.map fun c => (c.depth : Int)) → y ≤ k) : k = (depthL ps : Int) := by
  have a := h2 _ (depthL_in ps)
  refine Int.le_antisymm ?_ a
  rcases List.mem_cons.mp h1 with e | e
  · omega
  · obtain ⟨c, hc, rfl⟩ := List.mem_map.mp e
    have := depthL_mem hc
    omega
end Box
end AF
namespace AF
open PySem PySem.Spec PyProof.Rows L2
section
variable {K : PySem.W.Frag} {H : Hp} {Q : VK}
/-- t + u of two tuples, whichever is empty -/
theorem catA_ok {a b : Addr} {xs ys : List V} (ha : H a = some (.tup xs)) (hb : H b = some (.tup ys)) (hl : xs.length + ys.length ≤ 1000) (q : ∀ (p : Addr) (H' : Hp), Same H H' → H' p = some (.tup (xs ++ ys)) → Q (.ref p) H') :
    rCatA K (.ref a) (.ref b) H Q := by
  refine ⟨a, b, xs, ys, rfl, rfl, .of ha, .of hb, Nat.le_of_lt (small1000 hl), fun e => ?_, fun _ e => ?_, fun _ _ p np => ?_⟩
  · refine q b H (.refl H) ?_
    rw [e]
    exact hb
  · refine q a H (.refl H) ?_
    rw [e, List.append_nil]
    exact ha
  · exact q p _ (same_new np _) upd_same
theorem cut_whole {xs : List V} {lo hi : Option Int} (h : HT.sIx xs.length 0 lo = 0 ∧ HT.sIx xs.length xs.length hi = xs.length) : cutV xs lo hi = xs := by
  unfold cutV
  rw [h.1, h.2, List.drop_zero, Nat.sub_zero, List.take_length]
/-- t[lo:hi] of a tuple, the whole or not -/
theorem slA_ok {a : Addr} {xs zs : List V} {lo hi : Option Int} (ha : H a = some (.tup xs)) (e : cutV xs lo hi = zs) (q : ∀ (p : Addr) (H' : Hp), Same H H' → H' p = some (.tup zs) → Q (.ref p) H') : rSlA K (.ref a) lo hi H Q := by
  refine ⟨a, xs, rfl, .of ha, fun h => ?_, fun _ p np => ?_⟩
  · refine q a H (.refl H) ?_
    rw [← e, cut_whole h]
    exact ha
  · rw [e]
    exact q p _ (same_new np _) upd_same
end
namespace Box
def nest (last : Int) : Nat → Box
  | 0 => .blk 900 3
  | k + 1 => .scr (last + k) 5 [nest last k]
theorem nest_len (last : Int) : ∀ k, (nest last k).pre.length = k + 1
  | 0 => by simp [nest, pre]
  | k + 1 => by simp [nest, pre, preL, nest_len last k]
theorem nest_dep (last : Int) : ∀ k, (nest last k).depth = k
  | 0 => by simp [nest, depth]
  | k + 1 => by simp [nest, depth, depthL, nest_dep last k]
mutual
theorem wd_py : ∀ b : Box, wd b.py ≤ b.pre.length + 4
  | .blk n h => by simp [py, wd, wdL, pre]
  | .scr n h ps => by
    have h1 := wd_pyL ps
    have h2 := preL_ge ps
    have h3 : (pyL ps).length = ps.length := by rw [pyL_eq, List.length_map]
    simp only [py, wd, wdL, pre, List.length_cons, List.length_nil]
    omega
theorem wd_pyL : ∀ l : List Box, wdL (pyL l) ≤ (preL l).length + 4
  | [] => by simp [pyL, wdL, preL]
  | b :: r => by
    have h1 := wd_py b
    have h2 := wd_pyL r
    simp only [pyL, wdL, preL, List.length_append]
    omega
end
theorem hasNum_iff {n : Int} {c : Box} : hasNum n c = true ↔ n ∈ c.parts.map num := by
  unfold hasNum
  rw [List.find?_isSome, List.mem_map]
  constructor
  · rintro ⟨d, hd, e⟩
    exact ⟨d, hd, of_decide_eq_true e⟩
  · rintro ⟨d, hd, e⟩
    exact ⟨d, hd, decide_eq_true e⟩
theorem parB_eq (b : Box) (n : Int) : b.parB n = ((b.pre.filter (hasNum n)).map num).head? := by
  unfold parB
  rw [List.head?_map, List.head?_filter]
theorem depthL_pre : ∀ (l : List Box) (k : Nat), (∀ c ∈ l, c.depth ≤ k) → depthL l ≤ k
  | [], k, _ => Nat.zero_le _
  | b :: r, k, h => by
    have h1 := h b List.mem_cons_self
    have h2 := depthL_pre r k fun c hc => h c (List.mem_cons_of_mem _ hc)
    simp only [depthL]
    omega
/-- a drawn document is a document -/
theorem Doc.isDoc {b : Box} (d : Doc b) : IsDoc b where
  s := d.isS
  n := fun c hc => by
    have := d.nums c hc
    omega
  h := fun c hc => by
    have := d.hts c hc
    omega
  l := by
    have := d.len
    omega
  u := d.nodup
  d := by
    have := d.dep
    omega
end Box
end AF
/-! Texts as lists of signs; further rules: text times int, get of a written dict, every second item. -/
namespace AF
open PySem PySem.Spec PyProof.Rows L2
/-- the text of these code points -/
def S (l : List Nat) : Str := ⟨l.toArray⟩
theorem S_list (l : List Nat) : (S l).cps.toList = l := rfl
theorem S_len (l : List Nat) : (S l).length = l.length := by
  show l.toArray.size = l.length
  simp
theorem S_of (z : Str) : z = S z.cps.toList := by
  obtain ⟨a⟩ := z
  show (⟨a⟩ : Str) = ⟨a.toList.toArray⟩
  simp
theorem S_app (a b : List Nat) : S a ++ S b = S (a ++ b) := by
  show (⟨a.toArray ++ b.toArray⟩ : Str) = ⟨(a ++ b).toArray⟩
  simp
theorem S_inj {a b : List Nat} : S a = S b ↔ a = b := by
  constructor
  · intro h
    have := congrArg (fun z : Str => z.cps.toList) h
    simpa [S] using this
  · intro h
    rw [h]
theorem S_one (c : Nat) : (⟨#[c]⟩ : Str) = S [c] := rfl
theorem VS_inj {a b : List Nat} : V.str (S a) = V.str (S b) ↔ a = b := ⟨fun h => S_inj.mp (V.str.inj h), fun h => by rw [h]⟩
section
variable {X : Cx}
theorem op_mul_str : OpR X (binaryOp .Mult) (fun x y H Q => ∃ (c : Nat) (k : Int), x = .str (S [c]) ∧ y = .int k ∧ 0 ≤ k ∧ k ≤ 1000 ∧ Q (.str (S (List.replicate k.toNat c))) H) := by
  intro pins s σ H x y v u Q I rx ry h
  obtain ⟨c, k, rfl, rfl, h0, h1, q⟩ := h
  obtain ⟨t, rfl⟩ := rx
  obtain ⟨t', rfl⟩ := ry
  have e : PySem.Txt.mul (S [c]) k = S (List.replicate k.toNat c) := by
    have hfold : ∀ (n : Nat) (acc : Array Nat), (List.replicate n (#[c] : Array Nat)).foldl (· ++ ·) acc = acc ++ (List.replicate n c).toArray := by
      intro n
      induction n with
      | zero => intro acc; simp
      | succ n ih =>
        intro acc
        rw [List.replicate_succ, List.foldl_cons, ih, List.replicate_succ, Array.append_assoc]
        congr 1
        simp
    unfold PySem.Txt.mul
    by_cases hk : k < 1
    · have e0 : k.toNat = 0 := by omega
      rw [if_pos hk, e0]
      rfl
    · rw [if_neg hk]
      split
      · rename_i h2
        have h3 : k = 1 := by
          rcases Bool.or_eq_true_iff.mp h2 with z | z
          · exact eq_of_beq z
          · have : (S [c]).length = 0 := eq_of_beq z
            rw [S_len] at this
            simp at this
        subst h3
        rfl
      · show (⟨(List.replicate k.toNat (#[c] : Array Nat)).foldl (· ++ ·) #[]⟩ : Str) = ⟨(List.replicate k.toNat c).toArray⟩
        rw [hfold]
        simp
  refine PySem.SB.mul ⟨?_, fun _ _ => ?_, fun _ _ => ?_⟩ (fun t2 k2 => ⟨.str (PySem.Txt.mul (S [c]) k), H, I.tok _, ⟨_, rfl⟩, by rw [e]; exact q⟩)
  · rw [decide_eq_false (by omega), decide_eq_false (by omega)]
    rfl
  · rw [S_len]
    have h3 : 1 ≤ (2 ^ 63 - 1) / k := by
      refine (Int.le_ediv_iff_mul_le (by omega)).mpr ?_
      omega
    show ¬ ((1 : Nat) : Int) > (2 ^ 63 - 1) / k
    omega
  · rw [S_len]
    unfold PySem.Builtin.Str.tooLong
    refine decide_eq_false ?_
    have h4 : 1000 < sizeLine := by decide
    show ¬ (1 * k.toNat > _)
    omega

/-- d.get(k, x) of a dict of the module with text keys -/
def tKGet2 (K : PySem.W.Frag) (w : World) (td ty tx : TE) : TE := fun σ H Q => td σ H fun x H1 => ∃ a es n, x = .ref a ∧ KDict K w a es n ∧ ty σ H1 fun y H2 => tx σ H2 fun z H3 => ∃ (t : Str) (r : Option Value), y = .str t ∧ PySem.W.nsIn K a t = some r ∧
  (∀ u, r = some u → ∃ v, RelV v u ∧ Q v H3) ∧ (r = none → Q z H3)
theorem pe_kget2 {o e f : Expr} {td ty tx : TE} {apos cpos : Pos} (ho : PE X o td) (he : PE X e ty) (hf : PE X f tx) (m : M2 X o "get" apos e f cpos) : PE X (.Call (.Attribute o "get" apos) [e, f] [] cpos) (tKGet2 X.K X.w td ty tx) := by
  refine ⟨fun pins s σ H Q I h => ?_⟩
  refine wpAny_Call_method m.base m.few m.line PySem.F.plainAttrs_dict PySem.F.slot_dict_get PySem.F.type_dict_get (thn (ho.run pins s σ H _ I h) fun u s1 ⟨x, H1, I1, rx, a, es, n, ex, D, q1⟩ => ?_)
  subst ex
  obtain rfl : u = Value.ref a := rx
  refine ⟨kd_type D I1, fun a' e' => ?_, ?_⟩
  · cases e'
    exact ⟨_, I1.kIn _ _ D.at_, rfl⟩
  rw [m.trees]
  refine Calls.callWith_builtin rfl (Calls.evalArgs_plain (Calls.spliced_cons (thn (he.run pins s1 σ H1 _ I1 q1) fun iv s2 ⟨y, H2, I2, ry, q2⟩ =>
    Calls.spliced_cons (thn (hf.run pins s2 σ H2 _ I2 q2) fun fv s3 ⟨z, H3, I3, rz, t, r, ey, hr, q3, q4⟩ => Calls.spliced_nil ?_))))
  subst ey
  obtain ⟨tk, rfl⟩ := ry
  have hm := PySem.W.mapOf_K (prog := X.prog) (w := X.w) I3.kIn D.at_ D.lit
  refine call_meetsIn PySem.F.slot_dict_get hm.typeIs PySem.F.entry_dict_get (PySem.F.args_dict_get_3 _ _ _) (meets_dict_get_default (PySem.strKind X.prog X.w) a (PySem.strKind_is X.prog X.w t tk) D.low fv) ⟨_, hm, ?_⟩
  rw [PySem.W.find_K D.at_ hr]
  cases r with
  | none => exact ⟨z, H3, I3.tok _, rz, q4 rfl⟩
  | some u =>
    obtain ⟨v, rv, q⟩ := q3 u rfl
    exact ⟨v, H3, I3.tok _, rv, q⟩

/-! ### xs[::2] -/
def evens {α : Type} : List α → List α
  | [] => []
  | [x] => [x]
  | x :: _ :: r => x :: evens r
theorem evens_range {α : Type} : ∀ (xs : List α), ((List.range ((xs.length + 1) / 2)).filterMap fun k => xs[2 * k]?) = evens xs
  | [] => by simp [evens]
  | [x] => by simp [evens, List.range_succ]
  | x :: y :: r => by
    have ih := evens_range r
    have e : ((x :: y :: r).length + 1) / 2 = (r.length + 1) / 2 + 1 := by
      simp only [List.length_cons]
      omega
    rw [e, List.range_succ_eq_map, List.filterMap_cons, evens]
    simp only [Nat.mul_zero, List.getElem?_cons_zero]
    rw [List.filterMap_map, ← ih]
    congr 1
theorem pick_two (items : Array Value) : slicePick items none none (some 2) = (evens items.toList).toArray := by
  have e1 : slicePick items none none (some 2) = ((sliceRange 0 (items.size : Int) 2).filterMap (items[·]?)).toArray := by
    first
      | rfl
      | (unfold slicePick sliceBounds; simp)
  have e2 : sliceRange 0 (items.size : Int) 2 = (List.range ((items.size + 1) / 2)).map fun k => 2 * k := by
    unfold sliceRange
    have h0 : (2 : Int) > 0 := by decide
    have hn : (if (0 : Int) < (items.size : Int) then (((items.size : Int) - 0 + 2 - 1) / 2) else 0).toNat = (items.size + 1) / 2 := by
      split <;> omega
    simp only [if_pos h0]
    rw [hn]
    apply List.map_congr_left
    intro k _
    omega
  rw [e1, e2, List.filterMap_map]
  have e3 := evens_range items.toList
  rw [Array.length_toList] at e3
  rw [← e3]
  congr 1
  refine congrArg (fun f => List.filterMap f _) (funext fun k => ?_)
  show items[2 * k]? = items.toList[2 * k]?
  simp
def tEvL (K : PySem.W.Frag) (te : TE) : TE := fun σ H Q => te σ H fun x H1 => ∃ a xs, x = .ref a ∧ SqL K H1 a xs ∧ ∀ p, H1 p = none → Q (.ref p) (upd H1 p (.lst (evens xs)))
theorem evens_vals : ∀ {xs : List V} {us : List Value}, Vals xs us → Vals (evens xs) (evens us)
  | [], _, .nil => by
    simp only [evens]
    exact .nil
  | [x], _, .cons r .nil => by
    simp only [evens]
    exact .cons r .nil
  | x :: y :: r, _, .cons r1 (.cons r2 t) => by
    simp only [evens]
    exact .cons r1 (evens_vals t)
theorem evens_len {α : Type} : ∀ xs : List α, (evens xs).length ≤ xs.length
  | [] => by simp [evens]
  | [x] => by simp [evens]
  | x :: y :: r => by
    have := evens_len r
    simp only [evens, List.length_cons]
    omega
theorem pe_evL {e : Expr} {te : TE} {k : Nat} {p1 p3 pos : Pos} (K : PySem.W.Frag) (hK : X.K = K) (he : PE X e te) : PE X (.Subscript e (.Slice none none (some (.Constant (.int 2) k p1)) p3) pos) (tEvL K te) := by
  subst hK
  refine ⟨fun pins s σ H Q I h => ?_⟩
  refine Subscript_ (thn (he.run pins s σ H _ I h) fun v s1 ⟨x, H1, I1, r1, q1⟩ => ?_)
  obtain ⟨a, xs, ex, hx, q⟩ := q1
  subst ex
  cases r1
  have hst : PO X (some (.Constant (.int 2) k p1)) (tPart (tC (.int 2))) := po_some pe_int
  refine wpAny_Slice (thn (po_none.run pins s1 σ H1 (fun o H2 => o = none ∧ H2 = H1) I1 ⟨rfl, rfl⟩) fun vl s2 ⟨l, H2, I2, pl, el, e2⟩ => ?_)
  subst el e2
  refine thn (po_none.run pins s2 σ H2 (fun o H3 => o = none ∧ H3 = H2) I2 ⟨rfl, rfl⟩) fun vu s3 ⟨u, H3, I3, pu, eu, e3⟩ => ?_
  subst eu e3
  refine thn (hst.run pins s3 σ H3 (fun o H4 => o = some 2 ∧ H4 = H3) I3 ⟨2, rfl, rfl, rfl⟩) fun vs s4 ⟨o, H4, I4, ps, eo, e4⟩ => ?_
  subst eo e4
  have I5 : Inv X pins σ H4 { s4 with heap := s4.heap.push { cls := .type "slice", data := .fields #[vl, vu, vs] } } :=
    I4.kept (t' := s4.toks) fun b ob q => Heap.get?_push_of_some _ q
  obtain ⟨its, r, ht, hz⟩ := I5.list hx
  have hlen := r.length
  show wpAny (model X.prog X.w) X.A (subscriptTail e (.Slice none none (some (.Constant (.int 2) k p1)) p3) (.ref a) (.ref s4.heap.objs.size)) (EP X pins σ Q) X.xe
    { s4 with heap := s4.heap.push { cls := .type "slice", data := .fields #[vl, vu, vs] } }
  refine tail_any (ops := [.ref a, .ref s4.heap.objs.size]) ht.isList.typeIs (PySem.slot_list_getitem.lookup) ?_ (by with_unfolding_all rfl)
  refine wpAny_getItem_list_slice ht.isList (Heap.IsSliceOf.new _ vl vu vs) pl pu ps (by decide) ?_ (by rw [List.size_toArray]; omega)
  rw [pick_two]
  refine ⟨.ref _, _, I5.laid (t' := s4.toks) (o := .lst (evens xs)) (fun b ob q => Heap.get?_push_of_some _ q) (Nat.le_refl _) ?_, rfl, q _ (I5.hok.fresh (Nat.le_refl _))⟩
  exact ⟨Nat.le_trans (evens_len xs) hz, _, 0, evens_vals r, Heap.get?_push_size _ rfl⟩
end
/-! ### signs and tokens -/
def isD (c : Nat) : Bool := 48 ≤ c && c ≤ 57
def isSg (c : Nat) : Bool := c == 98 || c == 115 || c == 58 || c == 91 || c == 93
def isBl (c : Nat) : Bool := c == 32 || c == 10
theorem in_digits (c : Nat) : decide (c ∈ (Str.ofString "0123456789").cps.toList) = isD c := by
  have e : (Str.ofString "0123456789").cps.toList = [48, 49, 50, 51, 52, 53, 54, 55, 56, 57] := by decide +kernel
  rw [e]
  unfold isD
  rw [Bool.eq_iff_iff]
  simp only [decide_eq_true_eq, List.mem_cons, List.not_mem_nil, or_false, Bool.and_eq_true]
  omega
theorem in_signs (c : Nat) : decide (c ∈ (Str.ofString "bs:[]").cps.toList) = isSg c := by
  have e : (Str.ofString "bs:[]").cps.toList = [98, 115, 58, 91, 93] := by decide +kernel
  rw [e]
  unfold isSg
  rw [Bool.eq_iff_iff]
  simp only [decide_eq_true_eq, List.mem_cons, List.not_mem_nil, or_false, Bool.or_eq_true, beq_iff_eq]
  omega
theorem in_blanks (c : Nat) : decide (c ∈ (Str.ofString " \n").cps.toList) = isBl c := by
  have e : (Str.ofString " \n").cps.toList = [32, 10] := by decide +kernel
  rw [e]
  unfold isBl
  rw [Bool.eq_iff_iff]
  simp only [decide_eq_true_eq, List.mem_cons, List.not_mem_nil, or_false, Bool.or_eq_true, beq_iff_eq]
def run (l : List Nat) : Nat := (l.takeWhile isD).length
theorem run_nil : run [] = 0 := rfl
theorem run_cons (c : Nat) (r : List Nat) : run (c :: r) = if isD c = true then run r + 1 else 0 := by
  unfold run
  rw [List.takeWhile_cons]
  split <;> rfl
theorem run_le (l : List Nat) : run l ≤ l.length := by
  unfold run
  exact (List.takeWhile_sublist _).length_le
/-- a token: its place, its word -/
abbrev Tk := Nat × List Nat
inductive Lex : Nat → List Nat → List Tk → Prop
  | nil (p : Nat) : Lex p [] []
  | num {p c : Nat} {r : List Nat} {ts : List Tk} (h : isD c = true) (t : Lex (p + run (c :: r)) ((c :: r).drop (run (c :: r))) ts) : Lex p (c :: r) ((p, (c :: r).take (run (c :: r))) :: ts)
  | sg {p c : Nat} {r : List Nat} {ts : List Tk} (h : isSg c = true) (t : Lex (p + 1) r ts) : Lex p (c :: r) ((p, [c]) :: ts)
  | bl {p c : Nat} {r : List Nat} {ts : List Tk} (h : isBl c = true) (t : Lex (p + 1) r ts) : Lex p (c :: r) ts
theorem Lex.len {p : Nat} {l : List Nat} {ts : List Tk} (h : Lex p l ts) : ts.length ≤ l.length := by
  induction h with
  | nil => exact Nat.le_refl _
  | @num p c r ts h t ih =>
    have h1 : 1 ≤ run (c :: r) := by
      rw [run_cons, if_pos h]
      omega
    have h2 := run_le (c :: r)
    rw [List.length_drop] at ih
    rw [List.length_cons]
    omega
  | sg h t ih =>
    rw [List.length_cons, List.length_cons]
    omega
  | bl h t ih =>
    rw [List.length_cons]
    omega
/-- the tokens as they lie in a heap -/
def TksAt (H : Hp) : List V → List Tk → Prop
  | vs, [] => vs = []
  | vs, t :: ts => ∃ (a : Addr) (r : List V), vs = .ref a :: r ∧ H a = some (.tup [.int (t.1 : Int), .str (S t.2)]) ∧ TksAt H r ts
theorem TksAt.k {H H' : Hp} (k : KeepT H H') : ∀ {ts : List Tk} {vs : List V}, TksAt H vs ts → TksAt H' vs ts
  | [], _, h => h
  | t :: ts, _, h => by
    obtain ⟨a, r, e, h1, h2⟩ := h
    exact ⟨a, r, e, k _ _ h1, TksAt.k k h2⟩
theorem TksAt.len {H : Hp} : ∀ {ts : List Tk} {vs : List V}, TksAt H vs ts → vs.length = ts.length
  | [], _, h => by
    have h : _ = [] := h
    rw [h]
    rfl
  | t :: ts, _, h => by
    obtain ⟨a, r, rfl, h1, h2⟩ := h
    rw [List.length_cons, List.length_cons, TksAt.len h2]
theorem TksAt.snoc {H : Hp} {a : Addr} {t : Tk} (h1 : H a = some (.tup [.int (t.1 : Int), .str (S t.2)])) : ∀ {ts : List Tk} {vs : List V}, TksAt H vs ts → TksAt H (vs ++ [.ref a]) (ts ++ [t])
  | [], _, h => by
    have h : _ = [] := h
    rw [h]
    exact ⟨a, [], rfl, h1, rfl⟩
  | u :: ts, _, h => by
    obtain ⟨b, r, rfl, h2, h3⟩ := h
    exact ⟨b, r ++ [.ref a], rfl, h2, TksAt.snoc h1 h3⟩
theorem TksAt.get {H : Hp} : ∀ {ts : List Tk} {vs : List V} {i : Nat} {v : V}, TksAt H vs ts → vs[i]? = some v → ∃ t a, ts[i]? = some t ∧ v = .ref a ∧ H a = some (.tup [.int (t.1 : Int), .str (S t.2)])
  | [], _, i, v, h, e => by
    have h : _ = [] := h
    rw [h] at e
    simp at e
  | u :: ts, _, 0, v, h, e => by
    obtain ⟨b, r, rfl, h2, h3⟩ := h
    have e : V.ref b = v := by simpa using e
    exact ⟨u, b, rfl, e.symm, h2⟩
  | u :: ts, _, i + 1, v, h, e => by
    obtain ⟨b, r, rfl, h2, h3⟩ := h
    exact TksAt.get (i := i) h3 (by simpa using e)
end AF
/-! Digits, the words of tokens, the tokens of a document, its text. -/
namespace AF
open PySem PySem.Spec PyProof.Rows L2
/-- the digits of a number -/
def dg (n : Nat) : List Nat := (Nat.toDigits 10 n).map Char.toNat
theorem str_num (n : Nat) : Str.ofString (toString ((n : Nat) : Int)) = S (dg n) := by
  rw [S_of (Str.ofString (toString ((n : Nat) : Int))), PySem.W.KIN.signs_num]
  rfl
def dgOk (n : Nat) : Bool := (dg n).all isD && decide (1 ≤ (dg n).length) && decide ((dg n).length ≤ 4) && (n == 0 || (dg n).head? != some 48)
theorem dg_all : (List.range 1002).all dgOk = true := by decide +kernel
theorem dg_ok {n : Nat} (h : n ≤ 1001) : dgOk n = true := List.all_eq_true.mp dg_all n (List.mem_range.mpr (by omega))
theorem dg_dig {n : Nat} (h : n ≤ 1001) : (dg n).all isD = true := by
  have := dg_ok h
  simp only [dgOk, Bool.and_eq_true] at this
  exact this.1.1.1
theorem dg_pos {n : Nat} (h : n ≤ 1001) : 1 ≤ (dg n).length := by
  have := dg_ok h
  simp only [dgOk, Bool.and_eq_true, decide_eq_true_eq] at this
  exact this.1.1.2
theorem dg_len {n : Nat} (h : n ≤ 1001) : (dg n).length ≤ 4 := by
  have := dg_ok h
  simp only [dgOk, Bool.and_eq_true, decide_eq_true_eq] at this
  exact this.1.2
theorem dg_head {n : Nat} (h : n ≤ 1001) (h0 : n ≠ 0) : (dg n).head? ≠ some 48 := by
  have := dg_ok h
  simp only [dgOk, Bool.and_eq_true, decide_eq_true_eq, Bool.or_eq_true, beq_iff_eq, bne_iff_ne] at this
  exact this.2.resolve_left h0
/-- without zeros in front -/
def bare (n : Nat) : List Nat := if n = 0 then [] else dg n
theorem bare_drop {n : Nat} (h : n ≤ 1001) (z : Nat) : (List.replicate z 48 ++ dg n).dropWhile (· == 48) = bare n := by
  induction z with
  | zero =>
    show (dg n).dropWhile (· == 48) = bare n
    unfold bare
    by_cases h0 : n = 0
    · subst h0
      rfl
    · rw [if_neg h0]
      have h1 := dg_head h h0
      cases hd : dg n with
      | nil => rfl
      | cons c r =>
        rw [hd] at h1
        have h2 : ¬ c = 48 := fun e => h1 (by rw [e]; rfl)
        rw [List.dropWhile_cons, if_neg (by simpa using h2)]
  | succ z ih =>
    rw [List.replicate_succ, List.cons_append, List.dropWhile_cons, if_pos (by rfl)]
    exact ih
theorem lstrip0 (l : List Nat) : PySem.Txt.lstripChars (S l) "0" = S (l.dropWhile (· == 48)) := by
  unfold PySem.Txt.lstripChars
  rw [PySem.W.stripBy_eq]
  have e : (fun c : Nat => (Str.ofString "0").cps.contains c) = (· == 48) := by
    funext c
    have e0 : (Str.ofString "0").cps = #[48] := by decide +kernel
    rw [e0]
    simp
    try (by_cases hc : c = 48 <;> simp [hc])
  have hd : ∀ (g : Nat → Bool) (l : List Nat), l.drop (l.takeWhile g).length = l.dropWhile g := by
    intro g l
    induction l with
    | nil => rfl
    | cons a r ih =>
      rw [List.takeWhile_cons, List.dropWhile_cons]
      split
      · rw [List.length_cons, List.drop_succ_cons]
        exact ih
      · rfl
  show PySem.W.stripped (fun c : Nat => (Str.ofString "0").cps.contains c) true false (S l) = _
  rw [e]
  unfold PySem.W.stripped
  show Builtin.Str.strSub (S l) (l.takeWhile (· == 48)).length (S l).length = _
  unfold Builtin.Str.strSub
  rw [← hd (· == 48) l]
  unfold S
  congr 1
  apply Array.toList_inj.mp
  rw [Array.toList_extract]
  show (l.drop _).take ((S l).length - _) = l.drop _
  rw [S_len]
  refine List.take_of_length_le ?_
  rw [List.length_drop]
  exact Nat.le_refl _
theorem cut5 {l : List Nat} (h : l.length ≤ 5) : cutS (S l) none (some 5) = S l := by
  unfold cutS
  show (⟨((l.drop 0).take (HT.sIx (S l).length (S l).length (some 5) - 0)).toArray⟩ : Str) = S l
  have : HT.sIx (S l).length (S l).length (some ((5 : Nat) : Int)) = min 5 (S l).length := HT.sIx_nat _ _ 5
  have e : HT.sIx (S l).length (S l).length (some 5) = l.length := by
    rw [show (some (5 : Int)) = some ((5 : Nat) : Int) from rfl, this, S_len]
    omega
  rw [e, List.drop_zero, Nat.sub_zero, List.take_length]
  rfl
theorem cut_mid {l : List Nat} {p q : Nat} (h1 : p ≤ q) (h2 : q ≤ l.length) : cutS (S l) (some (p : Int)) (some (q : Int)) = S ((l.drop p).take (q - p)) := by
  unfold cutS
  rw [HT.sIx_nat, HT.sIx_nat, S_len]
  show (⟨((l.drop (min p l.length)).take (min q l.length - min p l.length)).toArray⟩ : Str) = _
  rw [Nat.min_eq_left (Nat.le_trans h1 h2), Nat.min_eq_left h2]
  rfl
theorem reads {n : Nat} (h : n ≤ 1001) : PySem.intText? (S (dg n)) = some (n : Int) := by
  rw [← str_num]
  exact PySem.W.KIN.num_reads (by omega) (by omega)

/-! ### kinds of tokens -/
inductive At where
  | b
  | s
  | c
  | o
  | e
  | n (k : Nat)
  deriving DecidableEq
namespace At
def isN : At → Bool
  | .n _ => true
  | _ => false
def code : At → Nat
  | .b => 98
  | .s => 115
  | .c => 58
  | .o => 91
  | .e => 93
  | .n _ => 48
/-- the name of a kind -/
def kd : At → Str
  | .b => "b"
  | .s => "s"
  | .c => ":"
  | .o => "["
  | .e => "]"
  | .n _ => "number"
/-- its word as it is printed -/
def word : At → List Nat
  | .n k => dg k
  | a => [a.code]
end At
def Wd : At → List Nat → Prop
  | .n k, w => k ≤ 1001 ∧ ∃ z, z ≤ 4 ∧ w = List.replicate z 48 ++ dg k
  | a, w => w = [a.code]
theorem Wd.sg {a : At} {w : List Nat} (h : a.isN = false) : Wd a w ↔ w = [a.code] := by
  cases a with
  | n k => cases h
  | _ => exact Iff.rfl
theorem Wd.num {k : Nat} {w : List Nat} (h : Wd (.n k) w) : w.all isD = true ∧ 1 ≤ w.length ∧ w.length ≤ 8 := by
  obtain ⟨h1, z, hz, rfl⟩ := h
  have h2 := dg_pos h1
  have h3 := dg_len h1
  refine ⟨?_, ?_, ?_⟩
  · rw [List.all_append, dg_dig h1, Bool.and_true, List.all_replicate]
    split <;> rfl
  · rw [List.length_append]
    omega
  · rw [List.length_append, List.length_replicate]
    omega
theorem Wd.first {a : At} {w : List Nat} (h : Wd a w) : ∃ c r, w = c :: r ∧ isD c = a.isN ∧ (a.isN = false → c = a.code ∧ r = []) := by
  cases ha : a.isN with
  | false =>
    rw [Wd.sg ha] at h
    subst h
    refine ⟨a.code, [], rfl, ?_, fun _ => ⟨rfl, rfl⟩⟩
    cases a with
    | n k => cases ha
    | _ => rfl
  | true =>
    cases a with
    | n k =>
      obtain ⟨h1, h2, _⟩ := Wd.num h
      cases w with
      | nil => simp at h2
      | cons c r =>
        refine ⟨c, r, rfl, ?_, fun z => nomatch z⟩
        simp only [List.all_cons, Bool.and_eq_true] at h1
        exact h1.1
    | _ => cases ha
theorem Wd.len {a : At} {w : List Nat} (h : Wd a w) : w.length ≤ 8 := by
  cases ha : a.isN with
  | false =>
    rw [Wd.sg ha] at h
    subst h
    simp
  | true =>
    cases a with
    | n k => exact (Wd.num h).2.2
    | _ => cases ha
theorem Wd.of_word {a : At} (h : ∀ k, a = .n k → k ≤ 1001) : Wd a a.word := by
  cases a with
  | n k => exact ⟨h k rfl, 0, by omega, rfl⟩
  | _ => exact rfl
theorem code_eq {a : At} {w : List Nat} (h : Wd a w) {c : Nat} {b : At} (hb : b.isN = false) (hc : b.code = c) (hn : isD c = false) : w = [c] ↔ a = b := by
  obtain ⟨d, r, rfl, h1, h2⟩ := h.first
  constructor
  · intro e
    have e1 : d = c := (List.cons.inj e).1
    cases ha : a.isN with
    | true =>
      rw [ha, e1, hn] at h1
      cases h1
    | false =>
      have h3 := (h2 ha).1
      rw [e1, ← hc] at h3
      cases a <;> cases b <;> first | rfl | (cases ha; done) | (cases hb; done) | (exact absurd h3 (by decide))
  · intro e
    subst e
    obtain ⟨h3, h4⟩ := h2 hb
    rw [h3, h4, hc]
/-- tokens with these kinds -/
def TW : List At → List Tk → Prop
  | [], ts => ts = []
  | a :: as, ts => ∃ t r, ts = t :: r ∧ Wd a t.2 ∧ TW as r
theorem TW.len : ∀ {as : List At} {ts : List Tk}, TW as ts → ts.length = as.length
  | [], _, h => by
    have h : _ = [] := h
    rw [h]
    rfl
  | a :: as, _, h => by
    obtain ⟨t, r, rfl, _, h2⟩ := h
    rw [List.length_cons, List.length_cons, TW.len h2]
theorem TW.get : ∀ {as : List At} {ts : List Tk} {i : Nat} {t : Tk}, TW as ts → ts[i]? = some t → ∃ a, as[i]? = some a ∧ Wd a t.2
  | [], _, i, t, h, e => by
    have h : _ = [] := h
    rw [h] at e
    simp at e
  | a :: as, _, 0, t, h, e => by
    obtain ⟨u, r, rfl, h1, h2⟩ := h
    have e : u = t := by simpa using e
    subst e
    exact ⟨a, rfl, h1⟩
  | a :: as, _, i + 1, t, h, e => by
    obtain ⟨u, r, rfl, h1, h2⟩ := h
    exact TW.get (i := i) h2 (by simpa using e)
/-- words of these kinds -/
def WW : List At → List (List Nat) → Prop
  | [], ws => ws = []
  | a :: as, ws => ∃ t r, ws = t :: r ∧ Wd a t ∧ WW as r
theorem TW.words : ∀ {as : List At} {ts : List Tk}, TW as ts → WW as (ts.map (·.2))
  | [], _, h => by
    have h : _ = [] := h
    rw [h]
    rfl
  | a :: as, _, h => by
    obtain ⟨t, r, rfl, h1, h2⟩ := h
    exact ⟨t.2, r.map (·.2), rfl, h1, TW.words h2⟩
theorem WW.len : ∀ {as : List At} {ts : List (List Nat)}, WW as ts → ts.length = as.length
  | [], _, h => by
    have h : _ = [] := h
    rw [h]
    rfl
  | a :: as, _, h => by
    obtain ⟨t, r, rfl, _, h2⟩ := h
    rw [List.length_cons, List.length_cons, WW.len h2]
theorem WW.get : ∀ {as : List At} {ts : List (List Nat)} {i : Nat} {a : At}, WW as ts → as[i]? = some a → ∃ t, ts[i]? = some t ∧ Wd a t
  | [], _, i, a, h, e => by
    simp at e
  | a :: as, _, 0, b, h, e => by
    obtain ⟨u, r, rfl, h1, h2⟩ := h
    have e : a = b := by simpa using e
    subst e
    exact ⟨u, rfl, h1⟩
  | a :: as, _, i + 1, b, h, e => by
    obtain ⟨u, r, rfl, h1, h2⟩ := h
    exact WW.get (i := i) h2 (by simpa using e)
theorem WW.get' {as : List At} {ts : List (List Nat)} {i : Nat} {t : List Nat} (h : WW as ts) (e : ts[i]? = some t) : ∃ a, as[i]? = some a ∧ Wd a t := by
  have hl := h.len
  have hi : i < ts.length := (List.getElem?_eq_some_iff.mp e).1
  obtain ⟨t', e', w⟩ := h.get (i := i) (List.getElem?_eq_getElem (by omega : i < as.length))
  rw [e] at e'
  cases e'
  exact ⟨_, List.getElem?_eq_getElem (by omega), w⟩
/-- the numbers among the tokens -/
def nums : List At → List Nat
  | [] => []
  | .n k :: r => k :: nums r
  | _ :: r => nums r
theorem nums_append : ∀ a b : List At, nums (a ++ b) = nums a ++ nums b
  | [], b => rfl
  | x :: a, b => by
    cases x <;> simp [nums, nums_append a b]
def numTk (t : Tk) : Bool := isD (t.2.headD 0)
theorem TW.nums : ∀ {as : List At} {ts : List Tk}, TW as ts → TW ((nums as).map .n) (ts.filter numTk)
  | [], _, h => by
    have h : _ = [] := h
    rw [h]
    rfl
  | a :: as, _, h => by
    obtain ⟨t, r, rfl, h1, h2⟩ := h
    have ih := TW.nums h2
    obtain ⟨c, w, e, hc, _⟩ := h1.first
    have hn : numTk t = a.isN := by
      unfold numTk
      rw [e]
      exact hc
    rw [List.filter_cons, hn]
    cases a with
    | n k =>
      show TW _ (t :: r.filter numTk)
      exact ⟨t, r.filter numTk, rfl, h1, ih⟩
    | _ =>
      exact ih
theorem TW.evens : ∀ {ns : List Nat} {ts : List Tk}, TW (ns.map .n) ts → TW ((evens ns).map .n) (AF.evens ts)
  | [], _, h => by
    have h : _ = [] := h
    rw [h]
    simp only [AF.evens]
    rfl
  | [a], _, h => by
    obtain ⟨t, r, rfl, h1, h2⟩ := h
    have h2 : r = [] := h2
    subst h2
    simp only [AF.evens]
    exact ⟨t, [], rfl, h1, rfl⟩
  | a :: b :: ns, _, h => by
    obtain ⟨t, r, rfl, h1, t2, r2, rfl, h2, h3⟩ := h
    have ih := TW.evens h3
    simp only [AF.evens]
    exact ⟨t, AF.evens r2, rfl, h1, ih⟩
/-! ### pieces of a text -/
def nd (l : List Nat) : Bool := !isD (l.headD 0)
inductive Pc : List At → List Nat → Prop
  | nil : Pc [] []
  | bl {as : List At} {l : List Nat} {c : Nat} (h : isBl c = true) (t : Pc as l) : Pc as (c :: l)
  | sg {as : List At} {l : List Nat} {a : At} (h : a.isN = false) (t : Pc as l) : Pc (a :: as) (a.code :: l)
  | nm {as : List At} {l w : List Nat} {k : Nat} (h : Wd (.n k) w) (hl : nd l = true) (t : Pc as l) : Pc (.n k :: as) (w ++ l)
theorem run_app {w l : List Nat} (h : w.all isD = true) (hl : nd l = true) : run (w ++ l) = w.length := by
  induction w with
  | nil =>
    cases l with
    | nil => rfl
    | cons c r =>
      show run (c :: r) = 0
      rw [run_cons]
      have : isD c = false := by simpa [nd] using hl
      rw [this]
      rfl
  | cons c w ih =>
    simp only [List.all_cons, Bool.and_eq_true] at h
    rw [List.cons_append, run_cons, if_pos h.1, ih h.2, List.length_cons]
theorem sg_isSg {a : At} (h : a.isN = false) : isSg a.code = true := by
  cases a <;> first | rfl | cases h
theorem Pc.lex {as : List At} {l : List Nat} (h : Pc as l) : ∀ p : Nat, ∃ ts, Lex p l ts ∧ TW as ts := by
  induction h with
  | nil =>
    intro p
    exact ⟨[], .nil p, rfl⟩
  | bl h t ih =>
    intro p
    obtain ⟨ts, h1, h2⟩ := ih (p + 1)
    exact ⟨ts, .bl h h1, h2⟩
  | @sg as l a h t ih =>
    intro p
    obtain ⟨ts, h1, h2⟩ := ih (p + 1)
    exact ⟨(p, [a.code]) :: ts, .sg (sg_isSg h) h1, (p, [a.code]), ts, rfl, (Wd.sg h).mpr rfl, h2⟩
  | @nm as l w k h hl t ih =>
    intro p
    obtain ⟨h1, h2, h3⟩ := Wd.num h
    obtain ⟨ts, h4, h5⟩ := ih (p + w.length)
    cases w with
    | nil => simp at h2
    | cons c r =>
      have hr := run_app h1 hl
      have hc : isD c = true := by
        simp only [List.all_cons, Bool.and_eq_true] at h1
        exact h1.1
      have e1 : (c :: (r ++ l)).take (run (c :: (r ++ l))) = c :: r := by
        rw [← List.cons_append, hr, List.take_left']
        rfl
      have e2 : (c :: (r ++ l)).drop (run (c :: (r ++ l))) = l := by
        rw [← List.cons_append, hr, List.drop_left']
        rfl
      refine ⟨(p, c :: r) :: ts, ?_, (p, c :: r), ts, rfl, h, h5⟩
      have := Lex.num (p := p) (c := c) (r := r ++ l) (ts := ts) hc (by rw [e2, ← List.cons_append, hr]; exact h4)
      rw [e1] at this
      exact this
theorem nd_app {l r : List Nat} (h : nd l = true) (h2 : l = [] → nd r = true) : nd (l ++ r) = true := by
  cases l with
  | nil => exact h2 rfl
  | cons c l => exact h
theorem Pc.app {as bs : List At} {l r : List Nat} (h : Pc as l) (h2 : Pc bs r) (hr : nd r = true) : Pc (as ++ bs) (l ++ r) := by
  induction h with
  | nil => exact h2
  | bl h t ih => exact .bl h ih
  | sg h t ih => exact .sg h ih
  | @nm as l w k h hl t ih =>
    rw [List.cons_append, List.append_assoc]
    exact .nm h (nd_app hl fun _ => hr) ih
theorem Pc.blanks {as : List At} {l : List Nat} : ∀ {g : List Nat}, g.all isBl = true → Pc as l → Pc as (g ++ l)
  | [], _, h => h
  | c :: g, hg, h => by
    simp only [List.all_cons, Bool.and_eq_true] at hg
    exact .bl hg.1 (Pc.blanks hg.2 h)
/-! ### a document's tokens, its text -/
namespace Box
mutual
def tk : Box → List At
  | .blk n h => [.b, .n n.toNat, .c, .n h.toNat]
  | .scr n h ps => [.s, .n n.toNat, .c, .n h.toNat, .o] ++ (tkL ps ++ [.e])
def tkL : List Box → List At
  | [] => []
  | b :: r => b.tk ++ tkL r
end
mutual
def pr : Box → List Nat
  | .blk n h => 98 :: (dg n.toNat ++ 58 :: dg h.toNat)
  | .scr n h ps => 115 :: (dg n.toNat ++ 58 :: (dg h.toNat ++ 91 :: (prL ps ++ [93])))
/-- with blanks between -/
def prL : List Box → List Nat
  | [] => []
  | b :: r => b.pr ++ prT r
/-- a blank ahead of each -/
def prT : List Box → List Nat
  | [] => []
  | b :: r => 32 :: (b.pr ++ prT r)
end
/-- numbers and heights that have words -/
def Sm (b : Box) : Prop := ∀ c ∈ b.pre, 0 ≤ c.num ∧ c.num ≤ 1001 ∧ 0 ≤ c.ht ∧ c.ht ≤ 1001
def SmL (l : List Box) : Prop := ∀ c ∈ preL l, 0 ≤ c.num ∧ c.num ≤ 1001 ∧ 0 ≤ c.ht ∧ c.ht ≤ 1001
theorem Sm.self {b : Box} (h : Sm b) : 0 ≤ b.num ∧ b.num ≤ 1001 ∧ 0 ≤ b.ht ∧ b.ht ≤ 1001 := h b (by rw [pre_eq]; exact List.mem_cons_self)
theorem Sm.parts {b : Box} (h : Sm b) : SmL b.parts := fun c hc => h c (by rw [pre_eq]; exact List.mem_cons_of_mem _ hc)
theorem SmL.head {b : Box} {r : List Box} (h : SmL (b :: r)) : Sm b := fun c hc => h c (by simp only [preL]; exact List.mem_append_left _ hc)
theorem SmL.tail {b : Box} {r : List Box} (h : SmL (b :: r)) : SmL r := fun c hc => h c (by simp only [preL]; exact List.mem_append_right _ hc)
theorem wd_dg {n : Int} (h0 : 0 ≤ n) (h1 : n ≤ 1001) : Wd (.n n.toNat) (dg n.toNat) := ⟨by omega, 0, by omega, rfl⟩
theorem nd_prT : ∀ l : List Box, nd (prT l) = true
  | [] => by simp [prT]; rfl
  | b :: r => by simp [prT]; rfl
theorem nd_pr : ∀ b : Box, nd b.pr = true
  | .blk n h => by simp [pr]; rfl
  | .scr n h ps => by simp [pr]; rfl
mutual
theorem pc : ∀ b : Box, Sm b → Pc b.tk b.pr
  | .blk n h, sm => by
    have h1 := sm.self
    simp only [tk, pr]
    have e : Pc [.n h.toNat] (dg h.toNat ++ []) := .nm (wd_dg h1.2.2.1 h1.2.2.2) rfl .nil
    rw [List.append_nil] at e
    exact .sg (a := .b) rfl (.nm (wd_dg h1.1 h1.2.1) rfl (.sg (a := .c) rfl e))
  | .scr n h ps, sm => by
    have h1 := sm.self
    have ih := pcL ps sm.parts
    simp only [tk, pr, List.cons_append, List.nil_append]
    exact .sg (a := .s) rfl (.nm (wd_dg h1.1 h1.2.1) rfl (.sg (a := .c) rfl (.nm (wd_dg h1.2.2.1 h1.2.2.2) rfl (.sg (a := .o) rfl (Pc.app ih (.sg (a := .e) rfl .nil) rfl)))))
theorem pcL : ∀ l : List Box, SmL l → Pc (tkL l) (prL l)
  | [], _ => by
    simp only [tkL, prL]
    exact .nil
  | b :: r, sm => by
    simp only [tkL, prL]
    exact Pc.app (pc b sm.head) (pcT r sm.tail) (nd_prT r)
theorem pcT : ∀ l : List Box, SmL l → Pc (tkL l) (prT l)
  | [], _ => by
    simp only [tkL, prT]
    exact .nil
  | b :: r, sm => by
    simp only [tkL, prT]
    exact .bl rfl (Pc.app (pc b sm.head) (pcT r sm.tail) (nd_prT r))
end
mutual
theorem tk_len : ∀ b : Box, b.tk.length ≤ 6 * b.pre.length
  | .blk n h => by simp [tk, pre]
  | .scr n h ps => by
    have := tkL_len ps
    simp only [tk, pre, List.length_append, List.length_cons, List.length_nil]
    omega
theorem tkL_len : ∀ l : List Box, (tkL l).length ≤ 6 * (preL l).length
  | [] => by simp [tkL]
  | b :: r => by
    have := tk_len b
    have := tkL_len r
    simp only [tkL, preL, List.length_append]
    omega
end
mutual
theorem pr_len : ∀ b : Box, Sm b → b.pr.length + 1 ≤ 14 * b.pre.length
  | .blk n h, sm => by
    have h1 := sm.self
    have h2 := dg_len (n := n.toNat) (by have := h1.2.1; simp only [num] at this; omega)
    have h3 := dg_len (n := h.toNat) (by have := h1.2.2.2; simp only [ht] at this; omega)
    simp only [pr, pre, List.length_append, List.length_cons, List.length_nil]
    omega
  | .scr n h ps, sm => by
    have h1 := sm.self
    have h2 := dg_len (n := n.toNat) (by have := h1.2.1; simp only [num] at this; omega)
    have h3 := dg_len (n := h.toNat) (by have := h1.2.2.2; simp only [ht] at this; omega)
    have ih := prL_len ps sm.parts
    simp only [pr, pre, List.length_append, List.length_cons, List.length_nil]
    omega
theorem prL_len : ∀ l : List Box, SmL l → (prL l).length ≤ 14 * (preL l).length
  | [], _ => by simp [prL]
  | b :: r, sm => by
    have := pr_len b sm.head
    have := prT_len r sm.tail
    have : 1 ≤ b.pre.length := by rw [pre_eq, List.length_cons]; omega
    simp only [prL, preL, List.length_append]
    omega
theorem prT_len : ∀ l : List Box, SmL l → (prT l).length ≤ 14 * (preL l).length
  | [], _ => by simp [prT]
  | b :: r, sm => by
    have := pr_len b sm.head
    have := prT_len r sm.tail
    have : 1 ≤ b.pre.length := by rw [pre_eq, List.length_cons]; omega
    simp only [prT, preL, List.length_append, List.length_cons]
    omega
end
end Box
end AF
/-! What is needed next; the limits; the document of its tokens. -/
namespace AF
open PySem PySem.Spec PyProof.Rows L2
theorem roomy {n : Nat} (h : n ≤ 100000) : n < sizeLine := Nat.lt_of_le_of_lt h (by decide)
inductive Nd where
  | s
  | num
  | col
  | opn
  | parts
  deriving DecidableEq
namespace Nd
def nm : Nd → Str
  | .s => "s"
  | .num => "number"
  | .col => ":"
  | .opn => "["
  | .parts => "parts"
/-- what may stand there -/
def lets : Nd → List Str
  | .s => ["s"]
  | .num => ["number"]
  | .col => [":"]
  | .opn => ["["]
  | .parts => ["b", "s", "]"]
def allow : Nd → At → Bool
  | .s, .s => true
  | .num, .n _ => true
  | .col, .c => true
  | .opn, .o => true
  | .parts, .b => true
  | .parts, .s => true
  | .parts, .e => true
  | _, _ => false
def keeps : Nd → At → Bool
  | .parts, .e => false
  | .parts, _ => true
  | _, _ => false
end Nd
theorem allow_in (t : Nd) (a : At) : inV (.str a.kd) (t.lets.map V.str) = t.allow a := by
  cases t <;> cases a <;> rfl
/-- what is needed behind a token: the next one first -/
def behind : At → List Nd
  | .b => [.num, .col, .num]
  | .s => [.num, .col, .num, .opn, .parts]
  | _ => []
def stp : List Nd → At → Option (List Nd)
  | [], _ => none
  | t :: r, a => if t.allow a = true then some (behind a ++ (if t.keeps a = true then .parts :: r else r)) else none
def ord : List Nd → List At → Option (List Nd)
  | st, [] => some st
  | st, a :: as => (stp st a).bind fun st' => ord st' as
theorem ord_app : ∀ (as bs : List At) (st : List Nd), ord st (as ++ bs) = (ord st as).bind fun st' => ord st' bs
  | [], bs, st => rfl
  | a :: as, bs, st => by
    show (stp st a).bind (fun st' => ord st' (as ++ bs)) = ((stp st a).bind fun st' => ord st' as).bind fun st' => ord st' bs
    cases stp st a with
    | none => rfl
    | some st' => exact ord_app as bs st'
theorem ord_cons {st : List Nd} {a : At} {as : List At} {e : List Nd} (h : ord st (a :: as) = some e) : ∃ t r, st = t :: r ∧ t.allow a = true ∧ ord (behind a ++ (if t.keeps a = true then .parts :: r else r)) as = some e := by
  have h : (stp st a).bind (fun st' => ord st' as) = some e := h
  cases st with
  | nil => exact absurd h (by simp [stp])
  | cons t r =>
    cases hc : t.allow a with
    | false =>
      simp [stp, hc] at h
    | true =>
      refine ⟨t, r, rfl, hc, ?_⟩
      simpa [stp, hc] using h
namespace Box
mutual
theorem ord_tk : ∀ (b : Box) (r : List Nd), ord (.parts :: r) b.tk = some (.parts :: r)
  | .blk n h, r => by
    simp only [tk]
    rfl
  | .scr n h ps, r => by
    simp only [tk]
    rw [ord_app]
    show ord (.parts :: .parts :: r) (tkL ps ++ [.e]) = _
    rw [ord_app, ord_tkL ps (.parts :: r)]
    rfl
theorem ord_tkL : ∀ (l : List Box) (r : List Nd), ord (.parts :: r) (tkL l) = some (.parts :: r)
  | [], r => by
    simp only [tkL]
    rfl
  | b :: l, r => by
    simp only [tkL]
    rw [ord_app, ord_tk b r]
    exact ord_tkL l r
end
theorem ord_root (n h : Int) (ps : List Box) : ord [.s] (Box.scr n h ps).tk = some [] := by
  simp only [tk]
  rw [ord_app]
  show ord [.parts] (tkL ps ++ [.e]) = _
  rw [ord_app, ord_tkL ps []]
  rfl
end Box
/-! ### the limits -/
/-- boxes, level, deepest -/
abbrev Lm := Int × Int × Int
def lstep (s : Lm) : At → Lm
  | .b => (s.1 + 1, s.2.1, s.2.2)
  | .s => (s.1 + 1, s.2.1, s.2.2)
  | .o => (s.1, s.2.1 + 1, if s.2.1 + 1 > s.2.2 then s.2.1 + 1 else s.2.2)
  | .e => (s.1, s.2.1 - 1, s.2.2)
  | _ => s
namespace Box
mutual
theorem lim_tk : ∀ (b : Box) (n l d : Int), l ≤ d → b.tk.foldl lstep (n, l, d) = (n + b.pre.length, l, max d (l + b.depth))
  | .blk n h, i, l, d, hd => by
    simp only [tk, pre, depth, List.foldl_cons, List.foldl_nil, lstep, List.length_singleton]
    refine Prod.ext rfl (Prod.ext rfl ?_)
    show d = max d (l + ((0 : Nat) : Int))
    omega
  | .scr n h ps, i, l, d, hd => by
    simp only [tk, List.foldl_append, List.foldl_cons, List.foldl_nil, lstep]
    have ih := lim_tkL ps (i + 1) (l + 1) (if l + 1 > d then l + 1 else d) (by split <;> omega)
    rw [ih]
    simp only [lstep, pre, depth, List.length_cons]
    refine Prod.ext ?_ (Prod.ext ?_ ?_)
    · show i + 1 + ((preL ps).length : Int) = i + (((preL ps).length + 1 : Nat) : Int)
      omega
    · show l + 1 - 1 = l
      omega
    · show max (if l + 1 > d then l + 1 else d) (l + 1 + (depthL ps : Int)) = max d (l + ((depthL ps + 1 : Nat) : Int))
      split <;> omega
theorem lim_tkL : ∀ (b : List Box) (n l d : Int), l ≤ d → (tkL b).foldl lstep (n, l, d) = (n + (preL b).length, l, max d (l + depthL b))
  | [], i, l, d, hd => by
    simp only [tkL, preL, depthL, List.foldl_nil, List.length_nil]
    refine Prod.ext ?_ (Prod.ext rfl ?_)
    · show i = i + ((0 : Nat) : Int)
      omega
    · show d = max d (l + ((0 : Nat) : Int))
      omega
  | b :: r, i, l, d, hd => by
    simp only [tkL, preL, depthL, List.foldl_append]
    rw [lim_tk b i l d hd, lim_tkL r _ _ _ (by omega)]
    refine Prod.ext ?_ (Prod.ext rfl ?_)
    · show i + (b.pre.length : Int) + ((preL r).length : Int) = i + ((b.pre ++ preL r).length : Int)
      rw [List.length_append]
      omega
    · show max (max d (l + (b.depth : Int))) (l + (depthL r : Int)) = max d (l + ((max b.depth (depthL r) : Nat) : Int))
      omega
end
/-! ### numbers -/
mutual
theorem nums_tk : ∀ b : Box, nums b.tk = b.pre.flatMap fun c => [c.num.toNat, c.ht.toNat]
  | .blk n h => by simp [tk, pre, nums, num, ht]
  | .scr n h ps => by
    have := nums_tkL ps
    simp only [tk, pre, nums, nums_append, List.flatMap_cons, num, ht, this, List.cons_append, List.nil_append]
    simp [nums]
theorem nums_tkL : ∀ l : List Box, nums (tkL l) = (preL l).flatMap fun c => [c.num.toNat, c.ht.toNat]
  | [] => by simp [tkL, preL, nums]
  | b :: r => by
    simp only [tkL, preL, nums_append, List.flatMap_append]
    rw [nums_tk b, nums_tkL r]
end
theorem evens_pairs {α : Type} (f g : Box → α) : ∀ l : List Box, evens (l.flatMap fun c => [f c, g c]) = l.map f
  | [] => by simp [evens]
  | b :: r => by
    have := evens_pairs f g r
    simp only [List.flatMap_cons, List.cons_append, List.nil_append, evens, List.map_cons, this]
end Box
/-- the values are in their ranges: a number, a height, and so on -/
def rangeOk : List Nat → Bool
  | [] => true
  | [n] => decide (1 ≤ n) && decide (n ≤ 999)
  | n :: h :: r => decide (1 ≤ n) && decide (n ≤ 999) && decide (h ≤ 1000) && rangeOk r
theorem rangeOk_at : ∀ {l : List Nat} {i n : Nat}, rangeOk l = true → l[i]? = some n → (i % 2 = 0 → 1 ≤ n ∧ n ≤ 999) ∧ (¬ i % 2 = 0 → n ≤ 1000)
  | [], i, n, _, e => by simp at e
  | [m], 0, n, h, e => by
    have e : m = n := by simpa using e
    subst e
    simp only [rangeOk, Bool.and_eq_true, decide_eq_true_eq] at h
    exact ⟨fun _ => h, fun z => absurd rfl z⟩
  | [m], i + 1, n, h, e => by simp at e
  | m :: k :: r, 0, n, h, e => by
    have e : m = n := by simpa using e
    subst e
    simp only [rangeOk, Bool.and_eq_true, decide_eq_true_eq] at h
    exact ⟨fun _ => h.1.1, fun z => absurd rfl z⟩
  | m :: k :: r, 1, n, h, e => by
    have e : k = n := by simpa using e
    subst e
    simp only [rangeOk, Bool.and_eq_true, decide_eq_true_eq] at h
    exact ⟨fun z => absurd z (by decide), fun _ => h.1.2⟩
  | m :: k :: r, i + 2, n, h, e => by
    simp only [rangeOk, Bool.and_eq_true, decide_eq_true_eq] at h
    have := rangeOk_at (i := i) h.2 (by simpa using e)
    have e2 : (i + 2) % 2 = i % 2 := by omega
    rw [e2]
    exact this
theorem rangeOk_pairs : ∀ l : List Box, (∀ c ∈ l, 1 ≤ c.num ∧ c.num ≤ 999 ∧ 0 ≤ c.ht ∧ c.ht ≤ 1000) → rangeOk (l.flatMap fun c => [c.num.toNat, c.ht.toNat]) = true
  | [], _ => by simp [rangeOk]
  | b :: r, h => by
    have ih := rangeOk_pairs r fun c hc => h c (List.mem_cons_of_mem _ hc)
    obtain ⟨h1, h2, h3, h4⟩ := h b List.mem_cons_self
    simp only [List.flatMap_cons, List.cons_append, List.nil_append, rangeOk, Bool.and_eq_true, decide_eq_true_eq, ih, and_true]
    omega
/-! ### the document of its tokens -/
abbrev Hd := Nat × Nat
def bld : List At → List Hd → List (List Box) → Option (List Hd × List (List Box))
  | [], hs, ps => some (hs, ps)
  | .b :: r, hs, p :: ps =>
    match r with
    | .n n :: _ :: .n h :: _ => bld r hs ((p ++ [.blk n h]) :: ps)
    | _ => none
  | .s :: r, hs, ps =>
    match r with
    | .n n :: _ :: .n h :: _ => bld r ((n, h) :: hs) ([] :: ps)
    | _ => none
  | .e :: r, (n, h) :: hs, p :: q :: ps => bld r hs ((q ++ [.scr n h p]) :: ps)
  | .n _ :: r, hs, ps => bld r hs ps
  | .c :: r, hs, ps => bld r hs ps
  | .o :: r, hs, ps => bld r hs ps
  | _, _, _ => none
theorem bld_b {r : List At} {hs : List Hd} {ps : List (List Box)} {e : List Hd × List (List Box)} (h : bld (.b :: r) hs ps = some e) :
    ∃ (n k : Nat) (p : List Box) (ps' : List (List Box)), ps = p :: ps' ∧ r[0]? = some (.n n) ∧ r[2]? = some (.n k) ∧ bld r hs ((p ++ [.blk n k]) :: ps') = some e := by
  cases ps with
  | nil => simp [bld] at h
  | cons p ps' =>
    simp only [bld] at h
    split at h
    · rename_i n x k r'
      exact ⟨n, k, p, ps', rfl, rfl, rfl, h⟩
    · cases h
theorem bld_s {r : List At} {hs : List Hd} {ps : List (List Box)} {e : List Hd × List (List Box)} (h : bld (.s :: r) hs ps = some e) :
    ∃ n k : Nat, r[0]? = some (.n n) ∧ r[2]? = some (.n k) ∧ bld r ((n, k) :: hs) ([] :: ps) = some e := by
  simp only [bld] at h
  split at h
  · rename_i n x k r'
    exact ⟨n, k, rfl, rfl, h⟩
  · cases h
theorem bld_e {r : List At} {hs : List Hd} {ps : List (List Box)} {e : List Hd × List (List Box)} (h : bld (.e :: r) hs ps = some e) :
    ∃ (n k : Nat) (hs' : List Hd) (p q : List Box) (ps' : List (List Box)), hs = (n, k) :: hs' ∧ ps = p :: q :: ps' ∧ bld r hs' ((q ++ [.scr n k p]) :: ps') = some e := by
  cases hs with
  | nil => simp [bld] at h
  | cons x hs' =>
    cases ps with
    | nil => simp [bld] at h
    | cons p ps =>
      cases ps with
      | nil => simp [bld] at h
      | cons q ps' => exact ⟨x.1, x.2, hs', p, q, ps', rfl, rfl, h⟩
theorem bld_o {a : At} {r : List At} {hs : List Hd} {ps : List (List Box)} {e : List Hd × List (List Box)} (h : bld (a :: r) hs ps = some e) (h1 : a ≠ .b) (h2 : a ≠ .s) (h3 : a ≠ .e) : bld r hs ps = some e := by
  cases a with
  | b => exact absurd rfl h1
  | s => exact absurd rfl h2
  | e => exact absurd rfl h3
  | _ => simpa [bld] using h
namespace Box
mutual
theorem bld_tk : ∀ (b : Box), Sm b → ∀ (r : List At) (hs : List Hd) (p : List Box) (ps : List (List Box)), bld (b.tk ++ r) hs (p :: ps) = bld r hs ((p ++ [b]) :: ps)
  | .blk n h, sm, r, hs, p, ps => by
    have h1 := sm.self
    simp only [num, ht] at h1
    have e1 : ((n.toNat : Nat) : Int) = n := by omega
    have e2 : ((h.toNat : Nat) : Int) = h := by omega
    simp only [tk, List.cons_append, List.nil_append, bld, e1, e2]
  | .scr n h bs, sm, r, hs, p, ps => by
    have h1 := sm.self
    simp only [num, ht] at h1
    have e1 : ((n.toNat : Nat) : Int) = n := by omega
    have e2 : ((h.toNat : Nat) : Int) = h := by omega
    have ih := bld_tkL bs sm.parts (.e :: r) ((n.toNat, h.toNat) :: hs) [] (p :: ps)
    simp only [tk, List.cons_append, List.nil_append, List.append_assoc, bld]
    rw [ih]
    simp only [bld, e1, e2, List.nil_append]
theorem bld_tkL : ∀ (l : List Box), SmL l → ∀ (r : List At) (hs : List Hd) (p : List Box) (ps : List (List Box)), bld (tkL l ++ r) hs (p :: ps) = bld r hs ((p ++ l) :: ps)
  | [], sm, r, hs, p, ps => by
    simp only [tkL, List.nil_append, List.append_nil]
  | b :: l, sm, r, hs, p, ps => by
    simp only [tkL, List.append_assoc]
    rw [bld_tk b sm.head, bld_tkL l sm.tail, List.append_assoc]
    rfl
end
theorem bld_doc (b : Box) (sm : Sm b) : bld b.tk [] [[]] = some ([], [[b]]) := by
  have := bld_tk b sm [] [] [] []
  rw [List.append_nil] at this
  rw [this]
  rfl
end Box
/-- heads as they lie in a heap, the last first -/
def HdsAt (H : Hp) : List V → List Hd → Prop
  | vs, [] => vs = []
  | vs, x :: xs => ∃ (a : Addr) (r : List V), vs = .ref a :: r ∧ H a = some (.tup [.int (x.1 : Int), .int (x.2 : Int)]) ∧ HdsAt H r xs
theorem HdsAt.k {H H' : Hp} (k : KeepT H H') : ∀ {ts : List Hd} {vs : List V}, HdsAt H vs ts → HdsAt H' vs ts
  | [], _, h => h
  | t :: ts, _, h => by
    obtain ⟨a, r, e, h1, h2⟩ := h
    exact ⟨a, r, e, k _ _ h1, HdsAt.k k h2⟩
theorem HdsAt.len {H : Hp} : ∀ {ts : List Hd} {vs : List V}, HdsAt H vs ts → vs.length = ts.length
  | [], _, h => by
    have h : _ = [] := h
    rw [h]
    rfl
  | t :: ts, _, h => by
    obtain ⟨a, r, rfl, h1, h2⟩ := h
    rw [List.length_cons, List.length_cons, HdsAt.len h2]
/-- the lists of parts as they lie in a heap, the last first -/
def PtsAt (H : Hp) : List Addr → List (List Box) → Prop
  | qs, [] => qs = []
  | qs, p :: ps => ∃ (q : Addr) (r : List Addr) (ws : List V), qs = q :: r ∧ H q = some (.lst ws) ∧ BoxesAt H ws p ∧ q ∉ r ∧ PtsAt H r ps
theorem PtsAt.k {H H' : Hp} (k : KeepT H H') : ∀ {ps : List (List Box)} {qs : List Addr}, (∀ q ∈ qs, ∀ o, H q = some o → H' q = some o) → PtsAt H qs ps → PtsAt H' qs ps
  | [], _, _, h => h
  | p :: ps, _, hq, h => by
    obtain ⟨q, r, ws, rfl, h1, h2, h3, h4⟩ := h
    exact ⟨q, r, ws, rfl, hq q List.mem_cons_self _ h1, h2.k k, h3, PtsAt.k k (fun q' m => hq q' (List.mem_cons_of_mem _ m)) h4⟩
theorem PtsAt.mem {H : Hp} : ∀ {ps : List (List Box)} {qs : List Addr} {q : Addr}, PtsAt H qs ps → q ∈ qs → ∃ ws, H q = some (.lst ws)
  | [], _, q, h, m => by
    have h : _ = [] := h
    rw [h] at m
    cases m
  | p :: ps, _, q, h, m => by
    obtain ⟨q', r, ws, rfl, h1, h2, h3, h4⟩ := h
    rcases List.mem_cons.mp m with rfl | m
    · exact ⟨ws, h1⟩
    · exact PtsAt.mem h4 m
theorem PtsAt.len {H : Hp} : ∀ {ps : List (List Box)} {qs : List Addr}, PtsAt H qs ps → qs.length = ps.length
  | [], _, h => by
    have h : _ = [] := h
    rw [h]
    rfl
  | p :: ps, _, h => by
    obtain ⟨q', r, ws, rfl, h1, h2, h3, h4⟩ := h
    rw [List.length_cons, List.length_cons, PtsAt.len h4]
/-! ### numbers are not side by side -/
def sep : List At → Bool
  | [] => true
  | [_] => true
  | a :: b :: r => (!a.isN || !b.isN) && sep (b :: r)
def st0 : List At → Bool
  | a :: _ => a.isN
  | [] => false
theorem sep_app : ∀ {as bs : List At}, sep as = true → sep bs = true → st0 bs = false → sep (as ++ bs) = true
  | [], bs, _, h, _ => h
  | [a], [], _, _, _ => rfl
  | [a], b :: bs, _, h, h0 => by
    have h0 : b.isN = false := h0
    show ((!a.isN || !b.isN) && sep (b :: bs)) = true
    rw [h0, h]
    simp
  | a :: b :: r, bs, h, h2, h0 => by
    simp only [sep, Bool.and_eq_true] at h
    have := sep_app h.2 h2 h0
    show ((!a.isN || !b.isN) && sep (b :: r ++ bs)) = true
    rw [h.1, this]
    rfl
namespace Box
theorem st0_tk : ∀ b : Box, st0 b.tk = false
  | .blk n h => by simp [tk, st0, At.isN]
  | .scr n h ps => by simp [tk, st0, At.isN]
theorem st0_tkL : ∀ l : List Box, st0 (tkL l) = false
  | [] => by simp [tkL, st0]
  | b :: r => by
    simp only [tkL]
    have := st0_tk b
    cases h : b.tk with
    | nil =>
      cases b <;> simp [tk] at h
    | cons x y =>
      rw [h] at this
      exact this
mutual
theorem sep_tk : ∀ b : Box, sep b.tk = true
  | .blk n h => by simp [tk, sep, At.isN]
  | .scr n h ps => by
    simp only [tk]
    refine sep_app (by simp [sep, At.isN]) (sep_app (sep_tkL ps) rfl rfl) ?_
    have := st0_tkL ps
    cases h : tkL ps with
    | nil => rfl
    | cons x y =>
      rw [h] at this
      exact this
theorem sep_tkL : ∀ l : List Box, sep (tkL l) = true
  | [] => by simp [tkL, sep]
  | b :: r => by
    simp only [tkL]
    exact sep_app (sep_tk b) (sep_tkL r) (st0_tkL r)
end
end Box
/-- texts with blanks ahead of each word -/
def Gaps : List At → List Nat → Prop
  | [], l => l = []
  | a :: as, l => ∃ g w r, l = g ++ (w ++ r) ∧ g.all isBl = true ∧ Wd a w ∧ Gaps as r
theorem bl_nd {g : List Nat} (h : g.all isBl = true) : nd g = true := by
  cases g with
  | nil => rfl
  | cons c g =>
    simp only [List.all_cons, Bool.and_eq_true] at h
    have h1 := h.1
    unfold isBl at h1
    show (!isD c) = true
    unfold isD
    simp only [Bool.or_eq_true, beq_iff_eq] at h1
    rcases h1 with rfl | rfl <;> rfl
theorem Gaps.nd {as : List At} {l t : List Nat} (h : Gaps as l) (h0 : st0 as = false) (ht : nd t = true) : AF.nd (l ++ t) = true := by
  cases as with
  | nil =>
    have h : l = [] := h
    rw [h]
    exact ht
  | cons a as =>
    obtain ⟨g, w, r, rfl, h1, h2, h3⟩ := h
    rw [List.append_assoc]
    refine nd_app (bl_nd h1) fun _ => ?_
    obtain ⟨c, w', rfl, h4, _⟩ := h2.first
    have h0 : a.isN = false := h0
    show (!isD c) = true
    rw [h4, h0]
    rfl
theorem Gaps.pc : ∀ {as : List At} {l t : List Nat}, Gaps as l → sep as = true → t.all isBl = true → Pc as (l ++ t)
  | [], l, t, h, _, ht => by
    have h : l = [] := h
    subst h
    have := Pc.blanks ht .nil
    simpa using this
  | a :: as, l, t, h, hs, ht => by
    obtain ⟨g, w, r, rfl, h1, h2, h3⟩ := h
    have hs2 : sep as = true ∧ (a.isN = true → st0 as = false) := by
      cases as with
      | nil => exact ⟨rfl, fun _ => rfl⟩
      | cons b as =>
        simp only [sep, Bool.and_eq_true, Bool.or_eq_true] at hs
        refine ⟨hs.2, fun z => ?_⟩
        rw [z] at hs
        simpa [st0] using hs.1
    have ih := Gaps.pc h3 hs2.1 ht
    rw [List.append_assoc, List.append_assoc]
    refine Pc.blanks h1 ?_
    cases ha : a.isN with
    | true =>
      cases a with
      | n k => exact .nm h2 (Gaps.nd h3 (hs2.2 ha) (bl_nd ht)) ih
      | _ => cases ha
    | false =>
      rw [Wd.sg ha] at h2
      subst h2
      exact .sg ha ih
theorem Gaps.snoc : ∀ {as : List At} {l : List Nat} {a : At} {g w : List Nat}, Gaps as l → g.all isBl = true → Wd a w → Gaps (as ++ [a]) (l ++ (g ++ w))
  | [], l, a, g, w, h, hg, hw => by
    have h : l = [] := h
    subst h
    exact ⟨g, w, [], by simp, hg, hw, rfl⟩
  | b :: as, l, a, g, w, h, hg, hw => by
    obtain ⟨g', w', r, rfl, h1, h2, h3⟩ := h
    exact ⟨g', w', r ++ (g ++ w), by simp [List.append_assoc], h1, h2, Gaps.snoc h3 hg hw⟩
end AF
/-! Texts put together. -/
namespace AF
open PySem PySem.Spec PyProof.Rows L2
theorem len_S {l : List Nat} (h : l.length ≤ 100000) : (S l).length ≤ sizeLine := by
  rw [S_len]
  exact Nat.le_of_lt (roomy h)
theorem num_S {n : Int} (h0 : 0 ≤ n) : Str.ofString (toString n) = S (dg n.toNat) := by
  obtain ⟨m, rfl⟩ := Int.eq_ofNat_of_zero_le h0
  exact str_num m
theorem emp_S : Str.empty = S [] := rfl
theorem lit_b : Str.ofString "b" = S [98] := by decide +kernel
theorem lit_s : Str.ofString "s" = S [115] := by decide +kernel
theorem lit_c : Str.ofString ":" = S [58] := by decide +kernel
theorem lit_o : Str.ofString "[" = S [91] := by decide +kernel
theorem lit_e : Str.ofString "]" = S [93] := by decide +kernel
theorem lit_0 : Str.ofString "0" = S [48] := by decide +kernel
theorem lit_n : Str.ofString "" = S [] := by decide +kernel
theorem lit_1 : Str.ofString " " = S [32] := by decide +kernel
theorem lit_2 : Str.ofString "\n" = S [10] := by decide +kernel
theorem lit_3 : Str.ofString "  " = S [32, 32] := by decide +kernel
theorem lit_4 : Str.ofString "\n " = S [10, 32] := by decide +kernel
theorem log_ok {n : Int} (h0 : 0 ≤ n) (h1 : n ≤ 1001) : n.natAbs.log2 < 1920 := by
  have h2 : n.natAbs < 2 ^ 1920 := Nat.lt_of_le_of_lt (by omega : n.natAbs ≤ 1001) (by decide +kernel)
  by_cases h3 : n.natAbs = 0
  · rw [h3]
    decide
  · exact (Nat.log2_lt h3).mpr h2
namespace Box
/-- number, colon, height -/
def hd (b : Box) : List Nat := dg b.num.toNat ++ 58 :: dg b.ht.toNat
theorem hd_len {b : Box} (h : Sm b) : b.hd.length ≤ 9 := by
  have h1 := h.self
  have h2 := dg_len (n := b.num.toNat) (by omega)
  have h3 := dg_len (n := b.ht.toNat) (by omega)
  simp only [hd, List.length_append, List.length_cons]
  omega
theorem pr_blk (n h : Int) : (Box.blk n h).pr = 98 :: (Box.blk n h).hd := by
  simp [pr, hd, num, ht]
theorem pr_scr (n h : Int) (ps : List Box) : (Box.scr n h ps).pr = 115 :: ((Box.scr n h ps).hd ++ 91 :: (prL ps ++ [93])) := by
  simp [pr, hd, num, ht]
theorem join_pr : ∀ l : List Box, PySem.Txt.join (Str.ofString " ") (l.map fun c => S c.pr) = S (prL l) := by
  intro l
  show Builtin.Str.glued _ _ = _
  rw [PySem.StrLaws.glued_eq_join, lit_1]
  induction l with
  | nil =>
    simp only [prL]
    rfl
  | cons b r ih =>
    cases r with
    | nil =>
      simp only [prL, prT, List.append_nil]
      rfl
    | cons c r =>
      show S b.pr ++ S [32] ++ PySem.Str.join (S [32]) ((c :: r).map fun c => S c.pr) = _
      rw [ih, S_app, S_app]
      simp [prL, prT]
theorem sum_pr : ∀ {l : List Box}, SmL l → ((l.map fun c => S c.pr).map (·.length)).sum ≤ 14 * (preL l).length
  | [], _ => by simp
  | b :: r, sm => by
    have h1 := pr_len b sm.head
    have h2 := sum_pr sm.tail
    simp only [List.map_cons, List.sum_cons, S_len, preL, List.length_append]
    omega
theorem preL_take_le (l : List Box) (c : Box) (h : c ∈ l) : c.pre.length ≤ (preL l).length := by
  induction l with
  | nil => cases h
  | cons b r ih =>
    simp only [preL, List.length_append]
    rcases List.mem_cons.mp h with rfl | h
    · omega
    · have := ih h
      omega
theorem SmL.mem {l : List Box} {c : Box} (h : SmL l) (m : c ∈ l) : Sm c := fun d hd => h d (by
  rw [preL_eq]
  exact List.mem_flatMap.mpr ⟨c, m, hd⟩)
end Box
end AF
set_option maxHeartbeats 2000000
/-! An exception class over ValueError (through a class of the program) whose __init__ says super().__init__(f"{message} at {place}") and keeps both. -/
namespace AF.TX
open PySem PySem.W PySem.Calls PyProof.Rows PySem.HandSPX
def iA (p1 p2 p3 : Pos) : Arguments := { posonlyargs := [], args := [{ arg := "self", annotation := none, pos := p1 }, { arg := "place", annotation := none, pos := p2 }, { arg := "message", annotation := none, pos := p3 }], vararg := none, kwonlyargs := [], kw_defaults := [], kwarg := none, defaults := [] }
def iB (q1 q2 q3 q4 q5 q6 q7 q8 q9 q10 q11 a1 a2 a3 a4 b1 b2 b3 b4 : Pos) : List Stmt :=
  [.Expr (.Call (.Attribute (.Call (.Name "super" q1) [] [] q2) "__init__" q3) [.JoinedStr [.FormattedValue (.Name "message" q4) (-1) none q5, .Constant (.str " at ") 0 q6, .FormattedValue (.Name "place" q7) (-1) none q8] q9] [] q10) q11,
   .Assign [.Attribute (.Name "self" a1) "place" a2] (.Name "place" a3) a4,
   .Assign [.Attribute (.Name "self" b1) "message" b2] (.Name "message" b3) b4]
def iS : Scope := { kind := .function, names := [(PySem.Str.ofString "self", .local), (PySem.Str.ofString "place", .local), (PySem.Str.ofString "message", .local), (PySem.Str.ofString "__class__", .free), (PySem.Str.ofString "super", .globalImplicit)], isGenerator := false, isCoroutine := false, more := [] }
theorem sup_eq (scope : Scope) (L fI cc : Addr) (cd : Value) (a : Expr) (q1 q2 q3 q10 : Pos) (hline : (q3.endLine == q10.line) = true) (hs : starEach [a] (ksEnv "TextError.__init__" scope L fI cd cc) = [(false, eval a (ksEnv "TextError.__init__" scope L fI cd cc))]) : eval (.Call (.Attribute (.Call (.Name "super" q1) [] [] q2) "__init__" q3) [a] [] q10) (ksEnv "TextError.__init__" scope L fI cd cc) = (do
      let ov ← attributeBase (.Call (.Name "super" q1) [] [] q2) "__init__" (ksEnv "TextError.__init__" scope L fI cd cc) (eval (.Call (.Name "super" q1) [] [] q2) (ksEnv "TextError.__init__" scope L fI cd cc))
      standAt q3.atName
      let (f, first) ← holding [ov] (getMethod ov "__init__" (do return (← importBound (.Call (.Name "super" q1) [] [] q2) (ksEnv "TextError.__init__" scope L fI cd cc)).getD true))
      callWith q10 f first (backTo q10 (starEach [a] (ksEnv "TextError.__init__" scope L fI cd cc))) []) := by
  have hform : methodCallForm ([a].length + ([] : List Keyword).length) (backTo q10 (starEach [a] (ksEnv "TextError.__init__" scope L fI cd cc))) (backToKw q10 (keywordEach [] (ksEnv "TextError.__init__" scope L fI cd cc))) = true := by rw [hs]; rfl
  have hpos : ∀ o, methodCallPos true o (ksEnv "TextError.__init__" scope L fI cd cc) q3 q10 = pure q10 := fun o => by unfold methodCallPos; simp [hline]
  show (do
      let ov ← attributeBase (.Call (.Name "super" q1) [] [] q2) "__init__" (ksEnv "TextError.__init__" scope L fI cd cc) (eval (.Call (.Name "super" q1) [] [] q2) (ksEnv "TextError.__init__" scope L fI cd cc))
      standAt q3.atName
      methodCall (.Call (.Name "super" q1) [] [] q2) "__init__" q3 q10 (ksEnv "TextError.__init__" scope L fI cd cc) ov ([a].length + ([] : List Keyword).length) (backTo q10 (starEach [a] (ksEnv "TextError.__init__" scope L fI cd cc))) (backToKw q10 (keywordEach [] (ksEnv "TextError.__init__" scope L fI cd cc)))) = _
  unfold methodCall
  simp only [hform, hpos, pure_bind]
  rfl
/-- what the written part says of the class, at C, and of its __init__, at fI -/
structure TxtC (K : Frag) (mg : Str → Option Value) (C fI : Addr) (file : Str) : Prop where
  gC : mg "TextError" = some (.ref C)
  cls : ∃ nm q N bs bm sn sub ab col dd k0 k1 k2 k3 k5, K.lookup C = some (excClassObj nm q C N bs bm true sn sub ab col dd k0 k1 k2 k3 k5 "ValueError.__new__") ∧ refsVE bm = true
  sa : findIn K (.ref C) "__setattr__" = some (some (.builtin "object.__setattr__"))
  noP : findIn K (.ref C) "place" = some none
  noM : findIn K (.ref C) "message" = some none
  iC : findIn K (.ref C) "__init__" = some (some (.ref fI))
  tC : typeIn K (.ref fI) = some (.type "function")
  kC : keepIn K (.ref C) = true
  exC : subIn K (.ref C) (.type "BaseException") = some true
  tyC : typeIn K (.ref C) = some (.type "type")
  str : findIn K (.ref C) "__str__" = some (some (.builtin "BaseException.__str__"))
  ini : ks_superIn K C C "__init__" = some (some (.builtin "ValueError.__init__"))
  veC : subIn K (.ref C) (.type "ValueError") = some true
  mroC : mroIn K C (.ref C) = some true
  opq : nsIn K cStatics "thirdparty.any" = some none
  sup : mg "super" = none
  fn : ∃ (oc : Value) (od : Option Addr) (doc pm : Value) (an : Option Addr) (cda cc : Addr) (ct : Value) (osl : Array (Option Value)) (p1 p2 p3 q1 q2 q3 q4 q5 q6 q7 q8 q9 q10 q11 a1 a2 a3 a4 b1 b2 b3 b4 : Pos),
    K.lookup fI = some ⟨oc, od, .func (ksFn "__init__" "TextError.__init__" (iA p1 p2 p3) (iB q1 q2 q3 q4 q5 q6 q7 q8 q9 q10 q11 a1 a2 a3 a4 b1 b2 b3 b4) iS .none .none doc pm an (.ref cda) ct cc), osl⟩ ∧ codeIn K (.ref cda) "TextError.__init__" = true ∧ (q3.endLine == q10.line) = true ∧
    (∃ (ccl : Value) (cdd : Option Addr) (vs : Array Value) (ccs : Array (Option Value)) (tf : Tok), K.lookup cda = some ⟨ccl, cdd, .fields vs, ccs⟩ ∧ vs[2]? = some (.str file tf)) ∧
    ∃ (cl : Value) (cld : Option Addr) (csl : Array (Option Value)), K.lookup cc = some ⟨cl, cld, .cell (some (.ref C)), csl⟩
/-- the text of the exception -/
def txt (p : Int) (g : Str) : Str := g ++ " at " ++ toString p
/-- what __init__ leaves of a fresh exception at x -/
structure InitEnd (h h' : Heap) (x C dx t1 : Addr) (p g : Value) (m : Str) : Prop where
  keep : ∀ b o, b ≠ x → h.get? b = some o → h'.get? b = some o
  obj : h'.get? x = some { cls := .ref C, dict := some dx, data := .fields #[.ref t1, .none, .none, .none, .bool false, .none] }
  tup : ∃ tk, h'.get? t1 = some (excTup [.str m tk])
  dbig : h.objs.size ≤ dx
  dne : dx ≠ x
  tbig : h.objs.size ≤ t1
  ns : h'.Ns1 dx (fun y => if y = "message" then some g else if y = "place" then some p else none)
theorem kept_but {K : Frag} {h h' : Heap} {x : Addr} (X : K.In h) (hx : K.lookup x = none) (k : ∀ b o, b ≠ x → h.get? b = some o → h'.get? b = some o) : K.In h' := fun a o e =>
  k a o (fun z => by rw [z, hx] at e; cases e) (X a o e)
theorem ns_but {h h' : Heap} {L x : Addr} {m : Str → Option Value} (hn : h.Ns L m) (ne : L ≠ x) (k : ∀ b o, b ≠ x → h.get? b = some o → h'.get? b = some o) : h'.Ns L m := by
  obtain ⟨o, es, ep, e, r⟩ := hn
  exact ⟨o, es, ep, k _ _ ne e, r⟩
section
variable {prog : Program} {w : World} {A : Around} {E : Value → Shared → Prop} {R : Result → Shared → Prop} {s : Shared} {K : Frag} {mg : Str → Option Value} {C fI : Addr} {file : Str}
theorem ldS {M : Model} {s : Shared} {name : Str} {scope : Scope} {L a cc : Addr} {cd : Value} {m : Str → Option Value} {x : Str} {pos : Pos} {v : Value} {Q : Value → Shared → Prop} {A : Around} {E : Value → Shared → Prop} (hn : s.heap.Ns L m) (hv : m x = some v) (h : Q v s)
    (hk : scope.kind = .function := by rfl) (hl : (ksEnv name scope L a cd cc).kindOf x = some .local := by rfl) (hd : (x == ("__debug__" : Str)) = false := by decide) :
    wpAny M A (eval (.Name x pos) (ksEnv name scope L a cd cc)) Q E s := wpAny_Name (wpAny_loadName_local hk hl hn hv h) hd
/-- the built-in __init__, bound, called -/
theorem call_up {h : Heap} {g : Array GenState} {d : Drawn} {t : Nat} {os : OsState} {bm : List Value} {nm q : Str} {N : Addr} {bs : List Value} {sn : List Str} {sub : List Value} {ab : Bool} {col : Option Bool} {dd : Option Addr} {k0 k1 k2 k3 k5 : Option Value}
    {u e t0 : Addr} {rest : List Value} {Q : Value → Shared → Prop}
    (hC : h.get? C = some (excClassObj nm q C N bs bm true sn sub ab col dd k0 k1 k2 k3 k5 "ValueError.__new__")) (he : h.get? e = some (excO C t0)) (hu : h.get? u = some (kxs_mw "ValueError.__init__" e)) (hrest : rest.length ≤ sizeLine)
    (hq : ∀ h', (∀ b o, b ≠ e → h.get? b = some o → h'.get? b = some o) → h'.get? e = some (excO C h.objs.size) → h'.get? h.objs.size = some (excTup rest) → Q .none ⟨h', g, d, t, os⟩) :
    wpAny (model prog w) A (call (.ref u) rest) Q E ⟨h, g, d, t, os⟩ := by
  refine wpAny_call (codeAny_of_tree ?_)
  show wpAny _ A.in1 (callAny (.ref u) ⟨rest, []⟩) _ _ _
  simp only [callAny]
  refine wpAny_bind (wpAny_load hu ?_)
  simp only [kxs_mw, show (Value.type "method-wrapper" == Value.type "method" || Value.type "method-wrapper" == Value.type "builtin_function_or_method" || Value.type "method-wrapper" == Value.type "method-wrapper") = true by decide, if_true]
  refine KFB.if_so (by decide) ?_
  refine wpAny_bind (check_bound_init PySem.F.excBase_ValueError.toExcCallFacts hC he rfl ?_)
  refine wpAny_bind (wpAny_pure (wpAny_pure ?_))
  refine ⟨plainId_quiet PySem.F.excBase_ValueError.init.plain _, codeAny_builtin PySem.F.excBase_ValueError.initEntry ?_⟩
  exact exc_init_tree (cls := .ref C) (t0 := t0) (dv := none) (c2 := .none) (c3 := .none) (b4 := .bool false) he hrest hq
theorem txt_init (T : TxtC K mg C fI file) {x t0 : Addr} {p : Int} {tp tg : Tok} {g : Str} (X : K.In s.heap) (G : s.heap.Ns mainGlobals mg) (Bl : ∃ mb, s.heap.Ns builtinsNs mb ∧ ∀ y : Str, y ≠ "__name__" → mb y = bootBuiltins y)
    (hlim : s.heap.NoLimit) (hx : s.heap.get? x = some (excO C t0)) (hnx : K.lookup x = none) (hroom : A.depth < recursionLimit) (hfile : ((prog.main.file : Str) == file) = true) (htop : (prog.main.scope.names.lookup ("super" : Str)).isSome = false)
    (hp : p.natAbs.log2 < 1920) (hg : g.length ≤ sizeLine) (hga : (g ++ " at ").length ≤ sizeLine) (hgp : (txt p g).length ≤ sizeLine)
    (hq : ∀ h' tk dx t1, InitEnd s.heap h' x C dx t1 (.int p tp) (.str g tg) (txt p g) → R (.ok (.ret .none)) { s with heap := h', toks := tk }) :
    codeAny (model prog w) A (.call (.ref fI) ⟨[.ref x, .int p tp, .str g tg], []⟩) R s := by
  obtain ⟨oc, od, doc, pm, an, cda, cc, ct, osl, p1, p2, p3, q1, q2, q3, q4, q5, q6, q7, q8, q9, q10, q11, a1, a2, a3, a4, b1, b2, b3, b4, ho, hcd, hline, ⟨ccl, cdd, vs, ccs, tf, hcode, hvs⟩, cl, cld, csl, hcell⟩ := T.fn
  obtain ⟨nm, q, N, bs, bm, sn, sub, ab, col, dd, k0, k1, k2, k3, k5, hC, hbm⟩ := T.cls
  obtain ⟨mb, hB, hmb⟩ := Bl
  have hcl : clsIn K C = some { name := nm, bases := bs, mro := .ref C :: bm, ns := N, qualname := q, hasDict := true, slotNames := sn, subclasses := sub, abstract := ab, collection := col, hasDel := false } := by unfold clsIn; rw [hC] <;> rfl
  refine ks_codeAny_call_defAt (fd := ksFn "__init__" "TextError.__init__" (iA p1 p2 p3) (iB q1 q2 q3 q4 q5 q6 q7 q8 q9 q10 q11 a1 a2 a3 a4 b1 b2 b3 b4) iS .none .none doc pm an (.ref cda) ct cc) (body := iB q1 q2 q3 q4 q5 q6 q7 q8 q9 q10 q11 a1 a2 a3 a4 b1 b2 b3 b4)
    (binds := [("self", .ref x), ("place", .int p tp), ("message", .str g tg)]) hroom (X _ _ ho) rfl hlim (codeRec_of X hcd) rfl (BindsTo.of_eq (by first | rfl | with_unfolding_all rfl)) (by show ∀ y ∈ iS.names, y.2 ≠ .cell; decide) (by
      intro y hy
      simp only [List.mem_cons, List.not_mem_nil, or_false] at hy
      rcases hy with rfl | rfl | rfl <;> rfl) (fun h₁ hns hk => ?_) rfl rfl rfl
  have X₁ : K.In h₁ := X.keeps hk
  have hx₁ := hk _ _ hx
  have hC₁ := X₁ _ _ hC
  have hxC : x ≠ C := fun z => by rw [z] at hnx; rw [hnx] at hC; cases hC
  show _root_.PySem.wpAt (model prog w) _ (.func _ (ksEnv "TextError.__init__" iS s.heap.objs.size fI (.ref cda) cc)) (execs _ (ksEnv "TextError.__init__" iS s.heap.objs.size fI (.ref cda) cc)) _ _ _
  refine ks_wpAt_execs_cons (ks_wpAt_Expr_any (ks_wpAt_MethodCall (he := sup_eq _ _ _ _ _ _ _ _ _ _ hline rfl) ?_))
  refine ks_wpAt_super_base (env := ksEnv "TextError.__init__" iS s.heap.objs.size fI (.ref cda) cc) rfl rfl (by decide) rfl (X₁ _ _ ho) rfl rfl rfl (X₁ _ _ hcode) rfl hvs hfile htop ?_
  refine ks_loadName_global rfl rfl (loadGlobal_builtin (env := ksEnv "TextError.__init__" iS s.heap.objs.size fI (.ref cda) cc) (G.keeps hk) T.sup (hB.keeps hk) ((hmb _ (by decide)).trans (by decide +kernel : bootBuiltins "super" = some (.type "super"))) ⟨rfl, ?_⟩)
  refine wpAny_loadName_free rfl rfl rfl ⟨_, X₁ _ _ hcell, rfl⟩ ?_
  refine wpAny_loadName_local (v := .ref x) rfl rfl hns (by first | rfl | with_unfolding_all rfl) ?_
  refine ks_wpAny_isType_cls hC₁ rfl ⟨rfl, ?_⟩
  refine ks_wpAny_call_super hC₁ rfl hx₁ rfl (fun c z => nomatch z) (looks_mroIn X₁ T.mroC) (fun h₂ hso k₂ => ?_)
  -- .__init__
  have X₂ : K.In h₂ := X₁.keeps k₂
  have hx₂ := k₂ _ _ hx₁
  have hsuper : alongIn K "__init__" (((.ref C :: bm).dropWhile (· != .ref C)).drop 1) = some (some (.builtin "ValueError.__init__")) := by
    have z := T.ini
    unfold ks_superIn at z
    rw [hcl] at z
    exact z
  have hI : Looks (model prog w) h₂ (isInstance (.ref x) (.type "ValueError")) true :=
    Looks.andThen (a := .ref C) (fun A Q E s k q => wpAny_typeOf_ref (k _ _ hx₂) q) (looks_subIn X₂ T.veC)
  have hmro : Looks (model prog w) h₂ (mroOf (.ref C)) (.ref C :: bm) := fun A Q E s k q => wpAny_bind ((looks_clsIn X₂ hcl) A _ E s k (wpAny_pure q))
  refine kxs_getMethod kxs_ValueError hso (looks_opaque X₂ T.opq) hmro rfl X₂ hsuper hI hxC (by decide) ?_
  have k₃ : ∀ b o, h₂.get? b = some o → (h₂.push (kxs_mw "ValueError.__init__" x)).get? b = some o := fun b o e => Heap.get?_push_of_some _ e
  have hu₃ : (h₂.push (kxs_mw "ValueError.__init__" x)).get? h₂.objs.size = some (kxs_mw "ValueError.__init__" x) := Heap.get?_push_at rfl rfl
  generalize hH : h₂.push (kxs_mw "ValueError.__init__" x) = h₃ at k₃ hu₃ ⊢
  have hns₃ := (hns.keeps k₂).keeps k₃
  have hx₃ := k₃ _ _ hx₂
  have hC₃ := k₃ _ _ (k₂ _ _ hC₁)
  have X₃ : K.In h₃ := X₂.keeps k₃
  refine kxs_callWith (i := "ValueError.__init__") (x := x) rfl (evalArgs_plain (Calls.spliced_cons ?_))
  refine wpAny_JoinedStr (pos := q9) ?_
  show Joins _ _ _ [_, _, _] _ _ _
  refine wpAny_FormattedValue_plain (ldS (v := .str g tg) hns₃ (by first | rfl | with_unfolding_all rfl) ?_)
  have e0 : Str.empty ++ g = g := Str.empty_append g
  -- behind the first part
  have rest : ∀ (tk1 : Tok) (tk : Nat), ∃ (y : Str) (t : Tok), Value.str g tk1 = .str y t ∧ (Str.empty ++ y).length ≤ sizeLine ∧ Joins (model prog w) (A.deeper (ksEnv "TextError.__init__" iS s.heap.objs.size fI (.ref cda) cc))
      (fun e s' => wpAny (model prog w) (A.deeper (ksEnv "TextError.__init__" iS s.heap.objs.size fI (.ref cda) cc)) (leaving (ksEnv "TextError.__init__" iS s.heap.objs.size fI (.ref cda) cc) e) (fun _ s'' => R (.error e) s'') (fun e' s'' => R (.error e') s'') s')
      [eval (.Constant (.str " at ") 0 q6) (ksEnv "TextError.__init__" iS s.heap.objs.size fI (.ref cda) cc), eval (.FormattedValue (.Name "place" q7) (-1) none q8) (ksEnv "TextError.__init__" iS s.heap.objs.size fI (.ref cda) cc)] (Str.empty ++ y)
      (fun out s₁ => out.length ≤ sizeLine ∧ wpAny (model prog w) (A.deeper (ksEnv "TextError.__init__" iS s.heap.objs.size fI (.ref cda) cc)) (spliced []) (fun vs s₂ => KxsAt "ValueError.__init__" h₂.objs.size x s₂.heap ∧ wpAny (model prog w) (A.deeper (ksEnv "TextError.__init__" iS s.heap.objs.size fI (.ref cda) cc)) (call (.ref h₂.objs.size) (Value.str out s₁.toks :: vs)) (fun _ s' => _root_.PySem.wpAt (model prog w) (A.deeper (ksEnv "TextError.__init__" iS s.heap.objs.size fI (.ref cda) cc)) (.func (iB q1 q2 q3 q4 q5 q6 q7 q8 q9 q10 q11 a1 a2 a3 a4 b1 b2 b3 b4) (ksEnv "TextError.__init__" iS s.heap.objs.size fI (.ref cda) cc)) (execs [.Assign [.Attribute (.Name "self" a1) "place" a2] (.Name "place" a3) a4, .Assign [.Attribute (.Name "self" b1) "message" b2] (.Name "message" b3) b4] (ksEnv "TextError.__init__" iS s.heap.objs.size fI (.ref cda) cc))
        (fun f s' => R (.ok (.ret (match f with | .ret v => v | _ => .none))) s') (fun e s' => wpAny (model prog w) (A.deeper (ksEnv "TextError.__init__" iS s.heap.objs.size fI (.ref cda) cc)) (leaving (ksEnv "TextError.__init__" iS s.heap.objs.size fI (.ref cda) cc) e) (fun _ s'' => R (.error e) s'') (fun e' s'' => R (.error e') s'') s') s')
        (fun e s' => wpAny (model prog w) (A.deeper (ksEnv "TextError.__init__" iS s.heap.objs.size fI (.ref cda) cc)) (leaving (ksEnv "TextError.__init__" iS s.heap.objs.size fI (.ref cda) cc) e) (fun _ s'' => R (.error e) s'') (fun e' s'' => R (.error e') s'') s') s₂)
        (fun e s' => wpAny (model prog w) (A.deeper (ksEnv "TextError.__init__" iS s.heap.objs.size fI (.ref cda) cc)) (leaving (ksEnv "TextError.__init__" iS s.heap.objs.size fI (.ref cda) cc) e) (fun _ s'' => R (.error e) s'') (fun e' s'' => R (.error e') s'') s') { s₁ with toks := s₁.toks + 1 }) { s with heap := h₃, toks := tk } := by
    intro tk1 tk
    refine ⟨g, tk1, rfl, by rw [e0]; exact hg, ?_⟩
    rw [e0]
    refine Calls.Constant_str ⟨_, _, rfl, hga, ?_⟩
    refine wpAny_FormattedValue_plain (ldS (v := .int p tp) hns₃ (by first | rfl | with_unfolding_all rfl) ?_)
    refine wpAny_formatField_int hp ⟨_, _, rfl, hgp, hgp, spliced_nil ⟨hu₃, ?_⟩⟩
    refine call_up hC₃ hx₃ hu₃ (by show 1 ≤ sizeLine; rw [sizeLine_eq]; decide) fun h₄ k₄ hx₄ ht₄ => ?_
    have hLx : s.heap.objs.size ≠ x := Nat.ne_of_gt (Heap.lt_size hx)
    have X₄ : K.In h₄ := kept_but X₃ hnx k₄
    have hns₄ := ns_but hns₃ hLx k₄
    refine wpAt_of_wpAny (wpAny_execs_cons (plainObj_wpAny_Assign_Attribute ?_))
    refine ldS (v := .int p tp) hns₄ (by first | rfl | with_unfolding_all rfl) (ldS (v := .ref x) hns₄ (by first | rfl | with_unfolding_all rfl) ?_)
    refine set_plain X₄ (ox := excO C h₃.objs.size) (od := none) ⟨hx₄, rfl, rfl, trivial⟩ T.sa ?_
    refine exc_osa X₄ hx₄ hcl (show refsVE (.ref C :: bm) = true from hbm) rfl T.noP (fun h₅ tk₅ dx k₅ dn dne hx₅ hn₅ => ?_)
    have X₅ : K.In h₅ := kept_but X₄ hnx k₅
    have hns₅ := ns_but hns₄ hLx k₅
    have hw : Within (fun y : Str => if y = "place" then some (Value.int p tp) else none) ["place"] := Within.cons _ _ Within.nil
    obtain ⟨oD, _, _, hoD, _, _⟩ := hn₅.count hw
    show wpAny _ _ (execs _ _) _ _ _
    refine wpAny_execs_cons (plainObj_wpAny_Assign_Attribute ?_)
    refine ldS (v := .str g tg) hns₅ (by first | rfl | with_unfolding_all rfl) (ldS (v := .ref x) hns₅ (by first | rfl | with_unfolding_all rfl) ?_)
    refine set_plain X₅ (ox := { cls := .ref C, dict := some dx, data := .fields #[.ref h₃.objs.size, .none, .none, .none, .bool false, .none] }) (od := some oD) ⟨hx₅, rfl, rfl, hoD⟩ T.sa ?_
    refine PySem.OEX.osa_old X₅ hx₅ hn₅ hw (by decide) hcl (show refsVE (.ref C :: bm) = true from hbm) rfl T.noM (fun h₆ tk₆ k₆ hn₆ => ?_)
    have z1 : s.heap.objs.size < h₁.objs.size := hns.lt
    have z3 : s.heap.objs.size < h₃.objs.size := hns₃.lt
    have z4 : s.heap.objs.size < h₄.objs.size := hns₄.lt
    have zt : h₃.objs.size < h₄.objs.size := Heap.lt_size ht₄
    have tx : h₃.objs.size ≠ x := Nat.ne_of_gt (Heap.lt_size hx₃)
    have td : h₃.objs.size ≠ dx := Nat.ne_of_lt (Nat.lt_of_lt_of_le zt dn)
    show wpAny _ _ (execs _ _) _ _ _
    refine wpAny_execs_nil (hq h₆ tk₆ dx h₃.objs.size ⟨fun b o hb e => ?_, ?_, ⟨_, k₆ _ _ td (k₅ _ _ tx ht₄)⟩, Nat.le_of_lt (Nat.lt_of_lt_of_le z4 dn), dne, Nat.le_of_lt z3, hn₆⟩)
    · have e4 := k₄ b o hb (k₃ _ _ (k₂ _ _ (hk _ _ e)))
      exact k₆ b o (Nat.ne_of_lt (Nat.lt_of_lt_of_le (Heap.lt_size e4) dn)) (k₅ b o hb e4)
    · exact k₆ _ _ (Ne.symm dne) hx₅
  exact wpAny_formatField_str (rest _ _) (rest _ _) hg
end
end AF.TX
set_option maxHeartbeats 2000000
/-! The exception of AfExc made, raised, let out of a def, caught. -/
namespace AF.TX
open PySem PySem.W PySem.Calls PyProof.Rows PySem.HandSPX
/-- a made one -/
structure Made (h h' : Heap) (e C d t1 : Addr) (p g : Value) (m : Str) : Prop where
  keep : ∀ b o, h.get? b = some o → h'.get? b = some o
  new : h.objs.size ≤ e
  obj : h'.get? e = some { cls := .ref C, dict := some d, data := .fields #[.ref t1, .none, .none, .none, .bool false, .none] }
  tup : ∃ tk, h'.get? t1 = some (excTup [.str m tk])
  dbig : h.objs.size ≤ d
  dne : d ≠ e
  tbig : h.objs.size ≤ t1
  ns : h'.Ns1 d (fun y => if y = "message" then some g else if y = "place" then some p else none)
/-- what is told of the program itself -/
structure Pg (P : Program) (file : Str) : Prop where
  file : ((P.main.file : Str) == file) = true
  top : (P.main.scope.names.lookup ("super" : Str)).isSome = false
section
variable {prog : Program} {w : World} {A : Around} {E : Value → Shared → Prop} {R : Result → Shared → Prop} {s : Shared} {K : Frag} {mg : Str → Option Value} {C fI : Addr} {file : Str}
theorem txt_made (T : TxtC K mg C fI file) (PG : Pg prog file) {p : Int} {tp tg : Tok} {g : Str} (X : K.In s.heap) (G : s.heap.Ns mainGlobals mg) (Bl : ∃ mb, s.heap.Ns builtinsNs mb ∧ ∀ y : Str, y ≠ "__name__" → mb y = bootBuiltins y)
    (hlim : s.heap.NoLimit) (hroom : A.depth + 1 < recursionLimit)
    (hp : p.natAbs.log2 < 1920) (hg : g.length ≤ sizeLine) (hga : (g ++ " at ").length ≤ sizeLine) (hgp : (txt p g).length ≤ sizeLine)
    (hq : ∀ h' tk e d t1, Made s.heap h' e C d t1 (.int p tp) (.str g tg) (txt p g) → R (.ok (.ret (.ref e))) { s with heap := h', toks := tk }) :
    codeAny (model prog w) A (.call (.ref C) ⟨[.int p tp, .str g tg], []⟩) R s := by
  obtain ⟨nm, q, N, bs, bm, sn, sub, ab, col, dd, k0, k1, k2, k3, k5, hC, hbm⟩ := T.cls
  obtain ⟨mb, hB, hmb⟩ := Bl
  obtain ⟨hp0, gs, dr, tk, os⟩ := s
  have k : ∀ b o, hp0.get? b = some o → ((hp0.push (kdv_tup [.int p tp, .str g tg])).push (excO C hp0.objs.size)).get? b = some o := fun b o e => Heap.get?_push_of_some _ (Heap.get?_push_of_some _ e)
  have hget : ((hp0.push (kdv_tup [.int p tp, .str g tg])).push (excO C hp0.objs.size)).get? (hp0.objs.size + 1) = some (excO C hp0.objs.size) := by heap_get
  have hnx : K.lookup (hp0.objs.size + 1) = none := by
    cases e : K.lookup (hp0.objs.size + 1) with
    | none => rfl
    | some o =>
      have z : hp0.get? (hp0.objs.size + 1) = some o := X _ _ e
      exact absurd (Nat.lt_of_succ_lt (Heap.lt_size z)) (Nat.lt_irrefl _)
  refine call_own F.excBase_ValueError (fun X => refsVE_contains X bm hbm) (X _ _ hC) (looks_findIn X T.iC) (fun self => bind_fn X self T.tC) (by show 2 ≤ sizeLine; rw [sizeLine_eq]; decide) ?_
  refine txt_init (s := ⟨(hp0.push (kdv_tup [.int p tp, .str g tg])).push (excO C hp0.objs.size), gs, dr, tk, os⟩) T (X.keeps k) (G.keeps k) ⟨mb, hB.keeps k, hmb⟩ (hlim.keeps k) hget hnx ?_ PG.file PG.top hp hg hga hgp fun h' tk' dx t1 ⟨k', hx, ht, dn, dne, tn, hns⟩ => ?_
  · show A.depth + 1 < recursionLimit
    exact hroom
  · have old : ∀ b o, hp0.get? b = some o → h'.get? b = some o := fun b o e => k' b o (Nat.ne_of_lt (Nat.lt_succ_of_lt (Heap.lt_size e))) (k b o e)
    have z : hp0.objs.size + 1 + 1 ≤ dx := by
      have q := dn
      rw [Heap.size_push, Heap.size_push] at q
      exact q
    have tz : hp0.objs.size ≤ t1 := by
      have q := tn
      rw [Heap.size_push, Heap.size_push] at q
      exact Nat.le_trans (Nat.le_trans (Nat.le_succ _) (Nat.le_succ _)) q
    exact ⟨rfl, hq h' tk' (hp0.objs.size + 1) dx t1 ⟨old, Nat.le_succ _, hx, ht, Nat.le_trans (Nat.le_trans (Nat.le_succ _) (Nat.le_succ _)) z, dne, tz, hns⟩⟩
end
end AF.TX
namespace AF
open PySem PySem.Spec PyProof.Rows L2
/-- the arguments of the exception u lie at t -/
def ArgM (h : Heap) (u : Value) (t : Addr) : Prop := ∃ (a : Addr) (o : Obj) (vs : Array Value), u = .ref a ∧ h.get? a = some o ∧ o.data = .fields vs ∧ vs[0]? = some (.ref t)
/-- its dict tells place and message, and both make the text -/
def Lnk (d : Option Addr) (H : Hp) (t : Addr) : Prop := ∃ (dd : Addr) (p : Int) (g : Str), d = some dd ∧ H dd = some (.xd [("message", .str g), ("place", .int p)]) ∧ H t = some (.tup [.str (TX.txt p g)])
/-- how it lies behind a call -/
def CXd (P : Program) (w : World) : CXT := fun outer H s E u s' => ∃ t, ArgM s'.heap u t ∧ CX P w outer H s (fun cls d H' => E cls d H' ∧ Lnk d H' t) u s'
/-- such an exception is taken -/
def TakesD (X : Cx) (W : WX) : Prop := ∀ u s' t, ArgM s'.heap u t → XE X (fun cls d σ H => W cls d σ H ∧ Lnk d H t) u s' → X.xe u s'
/-- raise TextError(place, message) -/
def tRT (C : Addr) (W : WX) (ta : TA) : TS := fun _ σ H => ta σ H fun vs H1 => ∃ (p : Int) (g : Str), vs = [.int p, .str g] ∧ p.natAbs.log2 < 1920 ∧ g.length ≤ sizeLine ∧ (g ++ " at ").length ≤ sizeLine ∧ (TX.txt p g).length ≤ sizeLine ∧
  ∀ d t, H1 d = none → H1 t = none → t ≠ d → W (.ref C) (some d) σ (upd (upd H1 t (.tup [.str (TX.txt p g)])) d (.xd [("message", .str g), ("place", .int p)]))
section
variable {X : Cx} {e : Expr} {es : List Expr} {ta : TA} {p pos : Pos} {C fI : Addr} {file : Str} {W : WX}
theorem ps_rt (T : TX.TxtC X.K X.mg C fI file) (PG : TX.Pg X.prog file) (hr : Room 2 X.A) (hc : X.calm = true) (tk : TakesD X W) (hg : Gl X "TextError") (ha : PA X (e :: es) ta) {pos2 : Pos}
    (he : starEach (e :: es) X.env = (false, eval e X.env) :: starEach es X.env := by rfl) (hpl : (backTo pos (starEach es X.env)).any (·.1) = false := by rfl) :
    PS X (.Raise (some (.Call (.Name "TextError" p) (e :: es) [] pos)) none pos2) (tRT C W ta) := by
  refine ⟨fun pins s σ H D I h => ?_⟩
  show wpAny _ _ (do standAt pos2; raiseStmt X.env (some (do let v ← eval (.Call (.Name "TextError" p) (e :: es) [] pos) X.env; standAt pos2; pure v)) none) _ _ _
  refine wpAny_bind (wpAny_standAt (raise_made (I.ok.hd hc) (wpAny_bind (wpAny_mono ?_ (fun u s1 hu => wpAny_bind (wpAny_standAt (wpAny_pure hu))) fun _ _ x => x))))
  refine wpAny_Call_Name_kw (ld_glob I hg T.gC ?_ (by decide))
  refine PySem.W.callWith_K (h₀ := X.base) I.ok.mod.kin T.kC (thn (ha.run pos pins s σ H _ I h) fun us s1 ⟨vs, H1, I1, r1, pl, g, ev, h1, h2, h3, h4, q⟩ => ⟨I1.kIn, ?_⟩) he hpl
  show wpAny _ _ (call (.ref C) us) _ _ _
  subst ev
  cases r1 with
  | cons ra rr =>
    cases rr with
    | cons rb rn =>
      cases rn
      obtain ⟨tp, rfl⟩ := ra
      obtain ⟨tg, rfl⟩ := rb
      obtain ⟨mb, hB, hmb⟩ := I1.mod.blt
      refine wpAny_call (TX.txt_made T PG I1.kIn (I1.mod.glob.keeps I1.bk) ⟨mb, hB.keeps I1.bk, hmb⟩ (I1.mod.nolimit.keeps I1.bk) (by have := hr.dp; omega) h1 h2 h3 h4 fun h' tk' a d t1 M => ?_)
      obtain ⟨mk, mnew, mobj, ⟨mt, mtup⟩, mdb, mdn, mtb, mns⟩ := M
      have L := raises_own (X := X) T.exC T.tyC (model X.prog X.w) h' (I1.kIn.keeps mk)
      refine ⟨a, _, _, .ref C, rfl, mobj, rfl, rfl, rfl, L.1, L.2, ?_⟩
      have na : H1 a = none := I1.hok.fresh mnew
      have nd : H1 d = none := I1.hok.fresh mdb
      have nt : H1 t1 = none := I1.hok.fresh mtb
      have hta : t1 ≠ a := fun z => by
        rw [z, mobj] at mtup
        cases mtup
      have htd : t1 ≠ d := fun z => by
        obtain ⟨o, es, ep, e1, e2, _⟩ := mns
        rw [← z, mtup] at e1
        cases e1
        cases e2
      -- without the exception and its dict
      obtain ⟨G1, f1, f2⟩ := restrict h' fun b => decide (b ≠ a ∧ b ≠ d)
      have fk : ∀ b, b ≠ a → b ≠ d → G1.get? b = h'.get? b := fun b h1 h2 => f1 b (decide_eq_true ⟨h1, h2⟩)
      have f1d : G1.get? d = none := f2 d (by simp)
      have f1a : G1.get? a = none := f2 a (by simp)
      have hs1 : ∀ b o, s1.heap.get? b = some o → G1.get? b = some o := fun b o z => by
        have lt := Heap.lt_size z
        rw [fk b (Nat.ne_of_lt (Nat.lt_of_lt_of_le lt mnew)) (Nat.ne_of_lt (Nat.lt_of_lt_of_le lt mdb))]
        exact mk b o z
      -- without the exception
      obtain ⟨G, g1, g2⟩ := restrict h' fun b => decide (b ≠ a)
      have gk : ∀ b, b ≠ a → G.get? b = h'.get? b := fun b hb => g1 b (decide_eq_true hb)
      have ge : G.get? a = none := g2 a (by simp)
      have hGk : ∀ b o, G.get? b = some o → h'.get? b = some o := fun b o z => by
        by_cases hba : b = a
        · rw [hba, ge] at z
          cases z
        · rw [← gk b hba]
          exact z
      have h1G : ∀ b o, G1.get? b = some o → G.get? b = some o := fun b o z => by
        by_cases hba : b = a
        · rw [hba, f1a] at z
          cases z
        · by_cases hbd : b = d
          · rw [hbd, f1d] at z
            cases z
          · rw [gk b hba, ← fk b hba hbd]
            exact z
      have ok1 : ObjOk X.prog X.w (upd H1 t1 (.tup [.str (TX.txt pl g)])) G1 t1 (.tup [.str (TX.txt pl g)]) :=
        ⟨by show 1 ≤ sizeLine; rw [sizeLine_eq]; decide, [.str (TX.txt pl g) mt], .cons ⟨mt, rfl⟩ .nil, ⟨_, (fk t1 hta htd).trans mtup, rfl, _, rfl⟩⟩
      have J1 := I1.laid (t' := tk') (a := t1) (o := .tup [.str (TX.txt pl g)]) (h' := G1) hs1 mtb ok1
      have nd1 : (upd H1 t1 (.tup [.str (TX.txt pl g)])) d = none := by rw [upd_ne (Ne.symm htd)]; exact nd
      have ok2 : ObjOk X.prog X.w (upd (upd H1 t1 (.tup [.str (TX.txt pl g)])) d (.xd [("message", .str g), ("place", .int pl)])) G d (.xd [("message", .str g), ("place", .int pl)]) := by
        refine ⟨_, mns.at fun o y => (gk d mdn).trans y, fun f => ?_⟩
        show RelO (List.lookup f [("message", V.str g), ("place", V.int pl)]) _
        by_cases e1 : f = "message"
        · subst e1
          exact ⟨tg, rfl⟩
        · by_cases e2 : f = "place"
          · subst e2
            exact ⟨tp, rfl⟩
          · have b1 : (f == ("message" : Str)) = false := beq_eq_false_iff_ne.mpr e1
            have b2 : (f == ("place" : Str)) = false := beq_eq_false_iff_ne.mpr e2
            simp only [List.lookup_cons, b1, b2, if_neg e1, if_neg e2, List.lookup_nil]
            exact True.intro
      have J := J1.laidN (t' := tk') (a := d) (o := .xd [("message", .str g), ("place", .int pl)]) (h' := G) h1G f1d nd1 ok2
      refine tk (.ref a) _ t1 ⟨a, _, _, rfl, mobj, rfl, rfl⟩ ?_
      refine XE.new (d := some d) (cls := .ref C) J hGk ge mobj ⟨rfl, rfl⟩ rfl rfl ?_ rfl I1.bare ⟨q d t1 nd nt htd, d, pl, g, rfl, upd_same, ?_⟩
      · rw [upd_ne (Ne.symm mdn), upd_ne (Ne.symm hta)]
        exact na
      · rw [upd_ne htd]
        exact upd_same
/-- the same Sky, told more of the object -/
theorem sky_more {B : Heap} {l : List Env} {a : Addr} {Z Z' : Obj → Prop} {L : Addr} {h : Heap} {o : Obj} (x : Sky B l a Z L h) (ho : h.get? a = some o) (z : Z o → Z' o) : Sky B l a Z' L h := by
  rcases x with ⟨h1, h2, h3, oe, vs, he, hz, hd, h4⟩ | ⟨h1, h2, h3, oe, vs, T, oT, ts, he, hz, hr⟩ | ⟨h1, h2, h3, oe, vs, T, oT, ts, he, hz, hr⟩
  · rw [ho] at he
    cases he
    exact .inl ⟨h1, h2, h3, _, _, ho, z hz, hd, h4⟩
  · rw [ho] at he
    cases he
    exact .inr (.inl ⟨h1, h2, h3, _, _, T, oT, ts, ho, z hz, hr⟩)
  · rw [ho] at he
    cases he
    exact .inr (.inr ⟨h1, h2, h3, _, _, T, oT, ts, ho, z hz, hr⟩)
theorem fly_less {B : Heap} {l : List Env} {a : Addr} {Z Z' : Obj → Prop} {h : Heap} (x : HandSPX.FlyingZ B l a Z h) (z : ∀ o, Z o → Z' o) : HandSPX.FlyingZ B l a Z' h := by
  obtain ⟨h1, h2, h3, oe, vs, T, oT, ts, he, hz, hr⟩ := x
  exact ⟨h1, h2, h3, oe, vs, T, oT, ts, he, z _ hz, hr⟩
/-- class, dict and where the arguments lie -/
def Zt (cls : Value) (d : Option Addr) (t : Addr) : Obj → Prop := fun o => Zc cls d o ∧ ∃ vs, o.data = .fields vs ∧ vs[0]? = some (.ref t)
theorem zt_steady {cls : Value} {d : Option Addr} {t : Addr} : PXN.Steady1 (Zt cls d t) := fun o v ⟨⟨h1, h2⟩, vs, hd, h0⟩ =>
  ⟨⟨PXN.steady_cls o v h1, PXN.steady_dict o v h2⟩, _, Obj.data_mapFields hd _, by rw [Array.getElem?_setIfInBounds_ne (by decide)]; exact h0⟩
theorem argM_of {cls : Value} {d : Option Addr} {t a : Addr} {B : Heap} {l : List Env} {h : Heap} (x : HandSPX.FlyingZ B l a (Zt cls d t) h) : ArgM h (.ref a) t := by
  obtain ⟨oe, _, he, ⟨_, vs, hd, h0⟩, _⟩ := x.there
  exact ⟨a, oe, vs, rfl, he, hd, h0⟩
end
section
variable {X : Cx} {s' : Shared} {W : WX} {E : XK}
/-- it leaves the def -/
theorem takesD_of (hs : X.stack = X.env :: X.outer) (hf : X.env.frame = some X.env.locals) (hex : X.ex = []) {E₁ : Value → Shared → Prop}
    (hx : X.xe = fun e s' => wpAny (model X.prog X.w) X.A (leaving X.env e) (fun _ s'' => CXd X.prog X.w X.outer X.H_0 X.s_0 E e s'') E₁ s') : TakesD X (fun cls d _ H => E cls d H) := fun u s' t am x => by
  rw [hx]
  obtain ⟨a, B, sI, pins, σ, H, cls, d, rfl, I, nb, up, sky, na, os, ag, wE, wL⟩ := x
  obtain ⟨a', o, vs, e1, ha, hd, h0⟩ := am
  cases e1
  have sky' : Sky B X.stack a (Zt cls d t) X.env.locals s'.heap := sky_more sky ha fun z => ⟨z, vs, hd, h0⟩
  have out : ∀ b o, X.s_0.heap.get? b = some o → b ∉ X.fs → b ∉ frs X.stack := fun b o e hb hm => by
    rcases List.mem_cons.mp (I.stkSub b hm) with z | z
    · exact absurd (Heap.lt_size e) (by rw [z]; exact Nat.not_lt.mpr I.ok.above)
    · exact hb z
  have ne : ∀ b, b ∉ X.ex := fun b hb => by rw [hex] at hb; cases hb
  have fin : ∀ h', HandSPX.FlyingZ B X.outer a (Zt cls d t) h' → s'.heap.UpToSlots h' → CXd X.prog X.w X.outer X.H_0 X.s_0 E (.ref a) { s' with heap := h' } := fun h' fl up' => by
    refine ⟨t, argM_of fl, a, B, H, cls, d, rfl, fly_less fl fun _ z => z.1, I.inGround nb, ?_, na, os.trans I.os, ag, wE, wL⟩
    constructor
    · exact fun b o e n hb => nb b o (I.base.keep b o e n hb (ne b)) (out b o e hb)
    · intro b o e hb
      obtain ⟨_, o₀, e₀, hnf⟩ := I.ok.funs.mem hb
      rw [e] at e₀
      cases e₀
      obtain ⟨sl, e1⟩ := I.base.slot b o e (I.ok.frf b hb) hb (ne b)
      obtain ⟨sl2, e2⟩ := up b _ e1 hnf
      obtain ⟨sl3, e3⟩ := up' b _ e2 hnf
      exact ⟨sl3, e3⟩
    · exact fun b o e n => I.base.free b o e n (ne b)
    · intro b o e hb
      obtain ⟨o', e1⟩ := I.base.there b o e (ne b)
      exact ⟨o', nb b o' e1 (out b o e hb)⟩
    · exact I.base.tups
    · exact I.base.frzs
    · exact I.base.tbls
  have hfr : X.A.frames = some (X.env :: X.outer) := by rw [I.ok.frames, hs]
  rw [hs] at sky'
  rcases sky' with ⟨hB, hn, hl, oe, ws, he, hz, hd', h1⟩ | fl | hh
  · exact PXN.leaving_firstZ zt_steady hfr hl hf he hB hn hd' h1 hz fin
  · exact PXN.leaves_onZ zt_steady hfr hf fl fin
  · exact HandSPX.leaves_heldZ hf hh fin
/-- what a callee lets out is taken -/
theorem passD {W : WX} (tk : TakesD X W) (σ : L2.St) : PassesAt (CXd X.prog X.w) X σ (fun cls d H => W cls d σ H) := fun _ _ _ e s' I ⟨t, am, c⟩ =>
  tk e s' t am (XE.of_call I (fun _ _ _ h => h) c)
end
end AF
namespace AF
open PySem PySem.Spec PyProof.Rows L2
/-- what 'except x as n' (x a class that takes every exception of the body) wishes -/
def wAsT (i : Nat) (C : Addr) (ts : Addr → Addr → Addr → TS) (D : Ends) : WX := fun cls d σ H =>
  cls = .ref C ∧ ∀ a t dd, d = some dd → H a = none → ts a t dd { nx := fun σ' H' => D.nx (σ'.set i none) H', rt := D.rt, bk := fun σ' H' => D.bk (σ'.set i none) H', ct := fun σ' H' => D.ct (σ'.set i none) H' } (σ.set i (some (.ref a))) H
section
variable {X : Cx} {x n : Str} {i : Nat} {C : Addr} {body suite : List Stmt} {b₀ : Stmt} {np pos pos' : Pos} {tb : WX → TS} {ts : Addr → Addr → Addr → TS}
theorem ps_try_asT (hs : X.stack = X.env :: X.outer) (hf : X.env.frame = some X.env.locals) (hN : X.N.Nodup) (hi : X.N[i]? = some n) (hln : X.env.kindOf n = some .local) (hc : Names X x (.ref C)) (hm : PySem.W.exmOne X.K (.ref C) (.ref C) = some true)
    (hb : ∀ (W : WX) (pn : List (Addr × Obj)) (xe : Value → Shared → Prop), TakesD (X.tr pn xe) W → PassesOwn (model X.prog X.w) X.A X.env xe → PSs (X.tr pn xe) body (tb W))
    (hsu : ∀ (a t dd : Addr) (oe : Obj) (pn : List (Addr × Obj)), Zt (.ref C) (some dd) t oe → PSs (X.suite a ((a, oe) :: pn)) (b₀ :: suite) (fun D σ H => (∃ p g, H dd = some (.xd [("message", .str g), ("place", .int p)]) ∧ H t = some (.tup [.str (TX.txt p g)])) ∧ ts a t dd D σ H)) :
    PS X (.Try body [.ExceptHandler (some (.Name x np)) (some n) (b₀ :: suite) pos'] [] [] pos) (fun D σ H => tb (wAsT i C ts D) D σ H) := by
  refine ⟨fun pins s σ H D I h => ?_⟩
  have ok := I.ok
  have hfr : X.A.frames = some (X.env :: X.outer) := by rw [ok.frames, hs]
  refine wpAny_Try_except ?_
  have run := (hb (wAsT i C ts D) (X.pn ++ pins) (fun e s₁ => wpAny (model X.prog X.w) X.A (noteFrame e X.env) (fun _ s₂ => wpAny (model X.prog X.w) X.A (setFlight e none) (fun _ s₃ =>
    wpAny (model X.prog X.w) X.A (handleBy e X.env [.ExceptHandler (some (.Name x np)) (some n) (b₀ :: suite) pos']) (SP X pins D) X.xe s₃) X.xe s₂) X.xe s₁) (fun u s' t am xx => ?_) PassesOwn.looking).run [] s σ H D (I.toTry _) h
  · refine wpAny_mono run (fun f s1 hsp => ?_) (fun e s1 he => he)
    cases f with
    | next =>
      obtain ⟨σ', H', J', q⟩ := hsp
      exact wpAny_execs_nil ⟨σ', H', J'.ofTry ok, q⟩
    | brk =>
      obtain ⟨σ', H', J', q⟩ := hsp
      exact ⟨σ', H', J'.ofTry ok, q⟩
    | cont =>
      obtain ⟨σ', H', J', q⟩ := hsp
      exact ⟨σ', H', J'.ofTry ok, q⟩
    | ret u =>
      obtain ⟨v, σ', H', J', r, q⟩ := hsp
      exact ⟨v, σ', H', J'.ofTry ok, r, q⟩
  -- what the body lets out
  obtain ⟨a, B, sI, pins', σ', H', cls, d, rfl, J', nb, up, sky, na, os, ag, ⟨ec, hyes⟩, dd, p, g, ed, hdd, ht⟩ := xx
  obtain ⟨a', o, vs, e1, ha, hd, h0⟩ := am
  cases e1
  subst ec
  subst ed
  have J : Inv X pins σ' H' sI := J'.ofTry ok
  have sky' : Sky B (X.env :: X.outer) a (Zt (.ref C) (some dd) t) X.env.locals s'.heap := by
    rw [← hs]
    exact sky_more sky ha fun z => ⟨z, vs, hd, h0⟩
  show wpAny (model X.prog X.w) X.A (noteFrame (.ref a) X.env) _ _ _
  refine L2N.Sky.land zt_steady hfr hf sky' fun h3 fl3 up3 => ?_
  have out : ∀ (h : Heap), HandSPX.FlyingZ B (X.env :: X.outer) a (Zt (.ref C) (some dd) t) h → (s'.heap.UpToSlots h) → ∃ oe vs, h.get? a = some oe ∧ Zt (.ref C) (some dd) t oe ∧ oe.data = .fields vs ∧ Inv X pins σ' H' { s' with heap := h } ∧ a ≠ X.env.locals ∧ a ∉ X.fs := fun h fl uph => by
    obtain ⟨oe, vs, he, hz, hd⟩ := fl.there
    have nfr : a ∉ frs (X.env :: X.outer) := fun hm => by
      obtain ⟨_, o', e', hnf⟩ := fl.2.2.1.mem hm
      rw [he] at e'
      cases e'
      exact hnf _ hd
    refine ⟨oe, vs, he, hz, hd, J.landed nb fl.1 (up.trans uph) os ag, fun z => nfr ?_, fun hm => nfr ?_⟩
    · exact List.mem_filterMap.mpr ⟨X.env, List.mem_cons_self, by rw [hf, z]⟩
    · obtain ⟨e, he, q⟩ := List.mem_filterMap.mp hm
      exact List.mem_filterMap.mpr ⟨e, List.mem_cons_of_mem _ he, q⟩
  obtain ⟨oe3, vs3, he3, hz3, hd3, J3, nL, nF⟩ := out h3 fl3 up3
  have S3 := J3.suite he3 hd3 na nL nF
  refine wpAny_handleBy_cons (codeAny_handlers_test ?_) (by intro q; cases q)
  have LT : PySem.W.Looks (model X.prog X.w) h3 (typeOf (.ref a)) (.ref C) := fun A Q E s k q => wpAny_typeOf_ref (k _ _ he3) (by rw [hz3.1.1]; exact q)
  have LM := PySem.W.exm_one (M := model X.prog X.w) (J3.kIn) LT hm
  have test : ∀ {Q : Value → Shared → Prop} {E : Value → Shared → Prop}, Q (.ref C) { s' with heap := h3 } → wpAny (model X.prog X.w) (X.A.mark (some (.ref a))) (eval (.Name x np) X.env) Q E { s' with heap := h3 } := fun {Q E} q => by
    obtain ⟨hg, hdbg, hm | ⟨hm, hv, hnn⟩⟩ := hc
    · exact ld_glob (X := X.suite a ((a, oe3) :: (X.pn ++ pins))) S3 hg hm q hdbg
    · exact ld_blt (X := X.suite a ((a, oe3) :: (X.pn ++ pins))) S3 hg hm hv q hnn hdbg
  refine test (LM.here ?_)
  refine codeAny_handlers_suite_as ?_
  refine HandSPX.lands_againZ fl3 fun h4 fl4 up4 => ?_
  obtain ⟨oe4, vs4, he4, hz4, hd4, J4, _, _⟩ := out h4 fl4 (up3.trans up4)
  have S4 := J4.suite he4 hd4 na nL nF
  refine store_ok (X := X.suite a ((a, oe4) :: (X.pn ++ pins))) (v := .ref a) S4 hN hi (.inl hln) rfl (fun s5 S5 => ?_) (.inr hln)
  have back : ∀ {σ6 : L2.St} {H6 : Hp} {Q : Shared → Prop} {s6 : Shared}, Inv (X.suite a ((a, oe4) :: (X.pn ++ pins))) [] σ6 H6 s6 → (∀ s7, Inv X pins (σ6.set i none) H6 s7 → Q s7) →
      wpAny (model X.prog X.w) X.A (do bindName X.env n .none; unbindBehindTheSuite X.env n pos') (fun _ s7 => Q s7) X.xe s6 := fun S6 hq => gone_ok (S6.unsuite ok) hN hi hln hq
  refine wpAny_mono ((hsu a t dd oe4 (X.pn ++ pins) hz4).run [] s5 _ H' _ S5 ⟨⟨p, g, hdd, ht⟩, hyes a t dd rfl na⟩) (fun f s6 hsp => ?_) (fun _ _ z => False.elim z)
  cases f with
  | next =>
    obtain ⟨σ6, H6, S6, q6⟩ := hsp
    exact back S6 fun s7 J7 => ⟨_, _, J7, q6⟩
  | brk =>
    obtain ⟨σ6, H6, S6, q6⟩ := hsp
    exact back S6 fun s7 J7 => ⟨_, _, J7, q6⟩
  | cont =>
    obtain ⟨σ6, H6, S6, q6⟩ := hsp
    exact back S6 fun s7 J7 => ⟨_, _, J7, q6⟩
  | ret u =>
    obtain ⟨v6, σ6, H6, S6, r6, q6⟩ := hsp
    exact back S6 fun s7 J7 => ⟨_, _, _, J7, r6, q6⟩
end
end AF
namespace AF
open PySem PySem.Spec PyProof.Rows L2
section
variable {X : Cx} {a t dd C : Addr} {oe : Obj} {pn : List (Addr × Obj)}
/-- isinstance(e, c), e the exception that the suite holds -/
def rIsT (K : PySem.W.Frag) (C a dd : Addr) : List V → Hp → VK → Prop := fun xs H Q => ∃ (c : V) (cv : Value) (b : Bool), xs = [.ref a, c] ∧ (∀ u, RelV c u → u = cv) ∧ PySem.W.kitOne K (.ref C) cv = some b ∧ (∃ fs, H dd = some (.xd fs)) ∧ Q (.bl b) H
theorem call_isT (T : L2.ExcC X.K C) (hz : Zt (.ref C) (some dd) t oe) : CallR (X.suite a ((a, oe) :: pn)) (.builtin "isinstance") (rIsT X.K C a dd) := by
  intro pins s σ H xs us Q I r h
  obtain ⟨c, cv, b, rfl, hcv, e, ⟨fs, hd⟩, q⟩ := h
  cases r with
  | cons rx rr =>
    cases rr with
    | cons rt rr =>
      cases rr
      cases rx
      have ec := hcv _ rt
      subst ec
      obtain ⟨hget, _⟩ := I.pin (a, oe) (List.mem_append.mpr (.inl List.mem_cons_self))
      obtain ⟨⟨h1, h2⟩, vs, hv, _⟩ := hz
      obtain ⟨mA, hns, _⟩ : ObjOk X.prog X.w H s.heap dd (.xd fs) := I.hok dd _ hd
      obtain ⟨od, ho, _⟩ := lookIn_ns hns
      have J : PySem.W.InstAt s.heap a oe C (some od) := ⟨hget, h1, by unfold PySem.W.notCls; rw [hv] <;> rfl, by rw [h2]; exact ho⟩
      have hcl : (PySem.W.clsIn X.K C).isSome = true := by
        obtain ⟨cd, hc, _⟩ := PySem.W.any_some T.hd
        rw [hc]
        rfl
      exact PySem.W.kia_one (PySem.W.kitx_exc hcl T.hg T.hk T.hs T.ha T.hn T.ht T.hm) I.kIn J e (fun z => nomatch z) fun tk => ⟨.bl b, H, I.kept (t' := tk) fun _ _ z => z, rfl, q⟩
/-- str(e) -/
def rStrT (a t : Addr) : List V → Hp → VK → Prop := fun xs H Q => ∃ m, xs = [.ref a] ∧ H t = some (.tup [.str m]) ∧ Q (.str m) H
theorem call_strT (hu : X.A.units + 64 < cLine) (hs : PySem.W.findIn X.K (.ref C) "__str__" = some (some (.builtin "BaseException.__str__"))) (hB : PySem.W.subIn X.K (.ref C) (.type "BaseException") = some true) (hz : Zt (.ref C) (some dd) t oe) :
    CallR (X.suite a ((a, oe) :: pn)) (.type "str") (rStrT a t) := by
  intro pins s σ H xs us Q I r h
  obtain ⟨m, rfl, ht, q⟩ := h
  cases r with
  | cons rx rr =>
    cases rr
    cases rx
    obtain ⟨hget, _⟩ := I.pin (a, oe) (List.mem_append.mpr (.inl List.mem_cons_self))
    obtain ⟨⟨h1, h2⟩, vs, hv, h0⟩ := hz
    obtain ⟨_, its, rv, ob, e1, e2, n, e3⟩ : ObjOk X.prog X.w H s.heap t (.tup [.str m]) := I.hok t _ ht
    cases rv with
    | cons rm rn =>
      cases rn
      obtain ⟨tk, rfl⟩ := rm
      exact PySem.P.str_of_C_one (K := X.K) (C := C) (t0 := t) (by show X.A.units + 2 < cLine; omega) ⟨I.kIn, oe, vs, hget, h1, hv, h0⟩ ⟨ob, n, e1, e2, e3⟩ hs hB ⟨.str m, H, I, ⟨tk, rfl⟩, q⟩
end
end AF
namespace AF
open PySem PySem.Spec PyProof.Rows L2
section
variable {P : Program} {w : World} {K : PySem.W.Frag} {mg : Str → Option Value} {base : Heap}
/-- a def that may let such an exception out -/
theorem okD {x qual : Str} {st : Stmt} {f : Addr} {fd : FuncData} {N ps : List Str} {k : Nat} {sp : Sp} (F : Fun K x qual st f fd) (S : FnScope N ps (defScope st)) (len : ∀ vs H Q E, sp vs H Q E → vs.length = ps.length)
    (hbody : ∀ (cdv : Value) (A : Around) (outer : List Env) (s : Shared) (H : Hp) (vs : List V) (Q : VK) (E : XK), Room k (A.deeper (envOfC qual (defScope st) s.heap.objs.size f cdv)) → sp vs H Q E →
      ∃ t, PSs (cxOf (CXd P w) P w K mg base N qual (defScope st) f cdv A outer s H E) (defBody st) t ∧ t { nx := fun _ H' => Q .non H', rt := Q } (start N vs) H) : FnOk P w K mg base (CXd P w) (k + 1) f fd ps sp := by
  obtain ⟨oc, od, kV, doc, pm, an, cdv, ct, osl, rfl, lk, hcd⟩ := F.ex
  exact fn_of lk hcd S len fun A outer s H vs Q E hr hsp => hbody cdv A outer s H vs Q E hr hsp
theorem tkD {N : List Str} {qual : Str} {scope : Scope} {f : Addr} {cd : Value} {A : Around} {outer : List Env} {s : Shared} {H : Hp} {E : XK} : TakesD (cxOf (CXd P w) P w K mg base N qual scope f cd A outer s H E) (fun cls d _ H => E cls d H) :=
  takesD_of rfl rfl rfl rfl
end
/-- the error with this place and this message -/
def ErrAt (C : Addr) (p : Nat) (g : Str) (E : XK) (H : Hp) : Prop := ∀ (d : Addr) (H' : Hp), Same H H' → H' d = some (.xd [("message", .str g), ("place", .int (p : Int))]) → E (.ref C) (some d) H'
theorem ErrAt.same {C : Addr} {p : Nat} {g : Str} {E : XK} {H H1 : Hp} (e : ErrAt C p g E H) (s : Same H H1) : ErrAt C p g E H1 := fun d H' s' h => e d H' (s.trans s') h
end AF
/-! Errors of texts. -/
namespace AF
open PySem PySem.Spec PyProof.Rows L2
theorem dg_all5 : (List.range 5000).all (fun n => decide ((dg n).length ≤ 4)) = true := by decide +kernel
theorem dg_len5 {n : Nat} (h : n < 5000) : (dg n).length ≤ 4 := of_decide_eq_true (List.all_eq_true.mp dg_all5 n (List.mem_range.mpr h))
theorem rt_ok {C : Addr} {p : Nat} {g : Str} {E : XK} {H H1 : Hp} {σ : L2.St} (e : ErrAt C p g E H) (s : Same H H1) (hp : p < 5000) (hg : g.length ≤ 100) :
    ∃ (p' : Int) (g' : Str), [V.int (p : Int), V.str g] = [V.int p', V.str g'] ∧ p'.natAbs.log2 < 1920 ∧ g'.length ≤ sizeLine ∧ (g' ++ " at ").length ≤ sizeLine ∧ (TX.txt p' g').length ≤ sizeLine ∧
      ∀ d t, H1 d = none → H1 t = none → t ≠ d → (fun cls d (_ : L2.St) H => E cls d H) (.ref C) (some d) σ (upd (upd H1 t (.tup [.str (TX.txt p' g')])) d (.xd [("message", .str g'), ("place", .int p')])) := by
  have hl : (g ++ (" at " : Str)).length ≤ 104 := by
    rw [PySem.Str.length_append]
    show g.length + 4 ≤ 104
    omega
  refine ⟨p, g, rfl, ?_, Nat.le_of_lt (roomy (by omega)), Nat.le_of_lt (roomy (by omega)), ?_, fun d t nd nt ne => ?_⟩
  · show (p : Int).natAbs.log2 < 1920
    rw [Int.natAbs_natCast]
    by_cases h0 : p = 0
    · subst h0
      decide
    · have := (Nat.log2_lt h0 (k := 13)).mpr (by omega)
      omega
  · unfold TX.txt
    rw [PySem.Str.length_append, str_num, S_len]
    have := dg_len5 hp
    exact Nat.le_of_lt (roomy (by omega))
  · refine e d _ ((s.trans (same_new nt _)).trans (same_new ?_ _)) upd_same
    rw [upd_ne (Ne.symm ne)]
    exact nd
/-- reading signs: the first one that is none of ours, the tokens ahead of it -/
inductive LexR : Nat → List Nat → Option Nat → List Tk → Prop
  | nil (p : Nat) : LexR p [] none []
  | bad {p c : Nat} {r : List Nat} (h1 : isD c = false) (h2 : isSg c = false) (h3 : isBl c = false) : LexR p (c :: r) (some p) []
  | num {p c : Nat} {r : List Nat} {e : Option Nat} {ts : List Tk} (h : isD c = true) (t : LexR (p + run (c :: r)) ((c :: r).drop (run (c :: r))) e ts) : LexR p (c :: r) e ((p, (c :: r).take (run (c :: r))) :: ts)
  | sg {p c : Nat} {r : List Nat} {e : Option Nat} {ts : List Tk} (h : isSg c = true) (t : LexR (p + 1) r e ts) : LexR p (c :: r) e ((p, [c]) :: ts)
  | bl {p c : Nat} {r : List Nat} {e : Option Nat} {ts : List Tk} (h : isBl c = true) (t : LexR (p + 1) r e ts) : LexR p (c :: r) e ts
/-- where the order goes wrong -/
def ordAt : List Nd → List At → Nat → Option Nat
  | [], [], _ => none
  | _ :: _, [], i => some i
  | st, a :: as, i => match stp st a with
    | none => some i
    | some st' => ordAt st' as (i + 1)
theorem ordAt_none : ∀ {as : List At} {st : List Nd} {i : Nat}, ordAt st as i = none → ord st as = some []
  | [], [], _, _ => rfl
  | [], _ :: _, _, h => by cases h
  | a :: as, st, i, h => by
    have h : (match stp st a with | none => some i | some st' => ordAt st' as (i + 1)) = none := by
      cases st <;> exact h
    show (stp st a).bind _ = _
    cases e : stp st a with
    | none => rw [e] at h; cases h
    | some st' => rw [e] at h; exact ordAt_none h
theorem ordAt_cons {st : List Nd} {a : At} {as : List At} {i : Nat} : ordAt st (a :: as) i = (match stp st a with | none => some i | some st' => ordAt st' as (i + 1)) := by
  cases st <;> rfl
def good (i n : Nat) : Bool := if i % 2 = 0 then decide (1 ≤ n) && decide (n ≤ 999) else decide (n ≤ 1000)
def rngAt : List Nat → Nat → Option Nat
  | [], _ => none
  | n :: r, i => if good i n = true then rngAt r (i + 1) else some i
def twAt : List Nat → List Nat → Nat → Option Nat
  | _, [], _ => none
  | seen, n :: r, i => if n ∈ seen then some i else twAt (n :: seen) r (i + 1)
theorem ord_nil {e : List Nd} {as : List At} (h : ord [] as = some e) : as = [] := by
  cases as with
  | nil => rfl
  | cons a as =>
    obtain ⟨t, r, e, _⟩ := ord_cons h
    cases e
theorem ord_no {t : Nd} {r : List Nd} (h : ord (t :: r) [] = some []) : False := by
  have h : some (t :: r) = some ([] : List Nd) := h
  cases h
theorem ord_ncn {X : List Nd} {as : List At} (h : ord (.num :: .col :: .num :: X) as = some []) : ∃ n m as', as = .n n :: .c :: .n m :: as' ∧ ord X as' = some [] := by
  cases as with
  | nil => exact (ord_no h).elim
  | cons a as =>
    obtain ⟨t, r, e, ha, h⟩ := ord_cons h
    cases e
    rcases a with _ | _ | _ | _ | _ | n <;> first | (cases ha; done) | skip
    have h : ord (.col :: .num :: X) as = some [] := h
    cases as with
    | nil => exact (ord_no h).elim
    | cons a as =>
      obtain ⟨t, r, e, ha, h⟩ := ord_cons h
      cases e
      cases a <;> first | (cases ha; done) | skip
      have h : ord (.num :: X) as = some [] := h
      cases as with
      | nil => exact (ord_no h).elim
      | cons a as =>
        obtain ⟨t, r, e, ha, h⟩ := ord_cons h
        cases e
        rcases a with _ | _ | _ | _ | _ | m <;> first | (cases ha; done) | skip
        exact ⟨n, m, as, rfl, h⟩
theorem ord_opn {X : List Nd} {as : List At} (h : ord (.opn :: X) as = some []) : ∃ as', as = .o :: as' ∧ ord X as' = some [] := by
  cases as with
  | nil => exact (ord_no h).elim
  | cons a as =>
    obtain ⟨t, r, e, ha, h⟩ := ord_cons h
    cases e
    cases a <;> first | (cases ha; done) | skip
    exact ⟨as, rfl, h⟩
/-- the boxes whose words stand there -/
def In (as : List At) (l : List Box) : Prop := ∀ c ∈ l, 0 ≤ c.num ∧ 0 ≤ c.ht ∧ .n c.num.toNat ∈ as ∧ .n c.ht.toNat ∈ as
theorem In.sub {as bs : List At} {l : List Box} (h : In as l) (s : ∀ a ∈ as, a ∈ bs) : In bs l := fun c hc => by
  obtain ⟨h1, h2, h3, h4⟩ := h c hc
  exact ⟨h1, h2, s _ h3, s _ h4⟩
theorem ord_parts : ∀ (k : Nat) (as : List At) (r : List Nd), as.length ≤ k → ord (.parts :: r) as = some [] → ∃ ps as', as = Box.tkL ps ++ .e :: as' ∧ ord r as' = some [] ∧ In as (Box.preL ps)
  | 0, as, r, hk, h => by
    have e : as = [] := List.length_eq_zero_iff.mp (by omega)
    subst e
    exact (ord_no h).elim
  | k + 1, as, r, hk, h => by
    cases as with
    | nil => exact (ord_no h).elim
    | cons a as =>
      rw [List.length_cons] at hk
      obtain ⟨t, r', e, ha, h⟩ := ord_cons h
      cases e
      cases a <;> first | (cases ha; done) | skip
      · obtain ⟨n, m, as', rfl, h⟩ := ord_ncn h
        simp only [List.length_cons] at hk
        obtain ⟨ps, as2, rfl, h2, h3⟩ := ord_parts k as' r (by omega) h
        refine ⟨.blk n m :: ps, as2, ?_, h2, ?_⟩
        · simp [Box.tkL, Box.tk]
        · intro c hc
          simp only [Box.preL, Box.pre] at hc
          rcases List.mem_append.mp hc with z | z
          · rw [List.mem_singleton.mp z]
            refine ⟨Int.natCast_nonneg n, Int.natCast_nonneg m, ?_, ?_⟩
            · show At.n ((n : Int)).toNat ∈ _
              simp
            · show At.n ((m : Int)).toNat ∈ _
              simp
          · exact (h3.sub fun a ha => by simp only [List.mem_cons]; exact .inr (.inr (.inr (.inr ha)))) c z
      · obtain ⟨n, m, as', rfl, h⟩ := ord_ncn (X := .opn :: .parts :: .parts :: r) h
        obtain ⟨as', rfl, h⟩ := ord_opn h
        simp only [List.length_cons] at hk
        obtain ⟨ps, as2, rfl, h2, h3⟩ := ord_parts k as' (.parts :: r) (by omega) h
        have hl : (Box.tkL ps ++ At.e :: as2).length = (Box.tkL ps).length + (as2.length + 1) := by simp
        obtain ⟨qs, as3, rfl, h4, h5⟩ := ord_parts k as2 r (by omega) h2
        refine ⟨.scr n m ps :: qs, as3, ?_, h4, ?_⟩
        · simp [Box.tkL, Box.tk]
        · intro c hc
          simp only [Box.preL, Box.pre] at hc
          rcases List.mem_append.mp hc with z | z
          · rcases List.mem_cons.mp z with z | z
            · rw [z]
              refine ⟨Int.natCast_nonneg n, Int.natCast_nonneg m, ?_, ?_⟩
              · show At.n ((n : Int)).toNat ∈ _
                simp
              · show At.n ((m : Int)).toNat ∈ _
                simp
            · exact (h3.sub fun a ha => by simp only [List.mem_cons]; exact .inr (.inr (.inr (.inr (.inr ha))))) c z
          · exact (h5.sub fun a ha => by
              simp only [List.mem_cons, List.mem_append]
              simp only [List.mem_append, List.mem_cons] at ha
              exact .inr (.inr (.inr (.inr (.inr (.inr (.inr ha))))))) c z
      · exact ⟨[], as, rfl, h, fun c hc => by simp [Box.preL] at hc⟩
/-- tokens in order are a document's -/
theorem ord_doc {as : List At} (h : ord [.s] as = some []) : ∃ n m ps, as = (Box.scr n m ps).tk ∧ In as (Box.scr n m ps).pre := by
  cases as with
  | nil => exact (ord_no h).elim
  | cons a as =>
    obtain ⟨t, r, e, ha, h⟩ := ord_cons h
    cases e
    cases a <;> first | (cases ha; done) | skip
    obtain ⟨n, m, as', rfl, h⟩ := ord_ncn (X := [.opn, .parts]) h
    obtain ⟨as', rfl, h⟩ := ord_opn h
    obtain ⟨ps, as2, rfl, h2, h3⟩ := ord_parts _ as' [] (Nat.le_refl _) h
    have e := ord_nil h2
    subst e
    refine ⟨n, m, ps, ?_, ?_⟩
    · simp [Box.tk]
    · intro c hc
      simp only [Box.pre] at hc
      rcases List.mem_cons.mp hc with z | z
      · rw [z]
        refine ⟨Int.natCast_nonneg n, Int.natCast_nonneg m, ?_, ?_⟩
        · show At.n ((n : Int)).toNat ∈ _
          simp
        · show At.n ((m : Int)).toNat ∈ _
          simp
      · exact (h3.sub fun a ha => by simp only [List.mem_cons]; exact .inr (.inr (.inr (.inr (.inr ha))))) c z
theorem TW.small : ∀ {as : List At} {ts : List Tk}, TW as ts → ∀ k, .n k ∈ as → k ≤ 1001
  | [], _, _, _, h => by simp at h
  | a :: as, _, h, k, hk => by
    obtain ⟨t, r, rfl, h1, h2⟩ := h
    rcases List.mem_cons.mp hk with z | z
    · subst z
      exact h1.1
    · exact TW.small h2 k z
theorem In.sm {as : List At} {ts : List Tk} {b : Box} (h : In as b.pre) (tw : TW as ts) : b.Sm := fun c hc => by
  obtain ⟨h1, h2, h3, h4⟩ := h c hc
  have := tw.small _ h3
  have := tw.small _ h4
  omega
theorem LexR.places {p : Nat} {l : List Nat} {e : Option Nat} {ts : List Tk} (h : LexR p l e ts) : ∀ t ∈ ts, t.1 < p + l.length := by
  induction h with
  | nil => intro t ht; simp at ht
  | bad => intro t ht; simp at ht
  | @num p c r e ts h t ih =>
    intro t ht
    rcases List.mem_cons.mp ht with z | z
    · rw [z]
      show p < _
      simp
    · have h2 := run_le (c :: r)
      have := ih t z
      rw [List.length_drop] at this
      omega
  | sg h t ih =>
    intro t ht
    rcases List.mem_cons.mp ht with z | z
    · rw [z]
      show _ < _
      simp
    · have := ih t z
      rw [List.length_cons]
      omega
  | bl h t ih =>
    intro t ht
    have := ih t ht
    rw [List.length_cons]
    omega
theorem evens_sub {α : Type} : ∀ (xs : List α), ∀ x ∈ evens xs, x ∈ xs
  | [], x, h => by simp [evens] at h
  | [a], x, h => by simpa [evens] using h
  | a :: b :: r, x, h => by
    simp only [evens] at h
    rcases List.mem_cons.mp h with z | z
    · rw [z]
      exact List.mem_cons_self
    · exact List.mem_cons_of_mem _ (List.mem_cons_of_mem _ (evens_sub r x z))
/-- the first error of a text -/
def dueP (e : Option Nat) (ts : List Tk) (as : List At) (len : Nat) : Option (Nat × Str) :=
  match e with
  | some q => some (q, "unknown character")
  | none => match ordAt [.s] as 0 with
    | some i => match ts[i]? with
      | some t => some (t.1, "unexpected token")
      | none => some (len, "unexpected end")
    | none => match rngAt (nums as) 0 with
      | some i => ((ts.filter numTk)[i]?).map fun t => (t.1, "out of range")
      | none => match twAt [] (evens (nums as)) 0 with
        | some i => ((evens (ts.filter numTk))[i]?).map fun t => (t.1, "number twice")
        | none => if 40 < (as.foldl lstep (0, 0, 0)).1 then (ts[0]?).map fun t => (t.1, "too many boxes")
          else if 4 < (as.foldl lstep (0, 0, 0)).2.2 then (ts[0]?).map fun t => (t.1, "too deep") else none
end AF
/-! What the law of errors reckons: words that may be wrong, texts with gaps, the order as a machine of six states. -/
namespace AF
open PySem PySem.Spec PyProof.Rows L2
/-- a word of this kind, or a sign that is none -/
def Wk : Option At → List Nat → Prop
  | some a, w => w = a.word ∧ Wd a w
  | none, w => w = [45] ∨ w = [120]
def KW : List (Option At) → List (List Nat) → Prop
  | [], ws => ws = []
  | k :: ks, ws => ∃ w r, ws = w :: r ∧ Wk k w ∧ KW ks r
/-- words all of them -/
def AW (ws : List (List Nat)) : Prop := ∀ w ∈ ws, ∃ k, Wk k w
theorem AW.ks : ∀ {ws : List (List Nat)}, AW ws → ∃ ks, KW ks ws
  | [], _ => ⟨[], rfl⟩
  | w :: r, h => by
    obtain ⟨k, hk⟩ := h w List.mem_cons_self
    obtain ⟨ks, hks⟩ := AW.ks (ws := r) fun x hx => h x (List.mem_cons_of_mem _ hx)
    exact ⟨k :: ks, w, r, rfl, hk, hks⟩
theorem AW.app {a b : List (List Nat)} (h1 : AW a) (h2 : AW b) : AW (a ++ b) := fun w h => (List.mem_append.mp h).elim (h1 w) (h2 w)
theorem AW.take {a : List (List Nat)} (h : AW a) (n : Nat) : AW (a.take n) := fun w m => h w (List.mem_of_mem_take m)
theorem AW.drop {a : List (List Nat)} (h : AW a) (n : Nat) : AW (a.drop n) := fun w m => h w (List.mem_of_mem_drop m)
theorem AW.one {w : List Nat} {k : Option At} (h : Wk k w) : AW [w] := fun x m => by
  rw [List.mem_singleton.mp m]
  exact ⟨k, h⟩
theorem KW.len : ∀ {ks : List (Option At)} {ws : List (List Nat)}, KW ks ws → ws.length = ks.length
  | [], _, h => by
    have h : _ = [] := h
    rw [h]
    rfl
  | k :: ks, _, h => by
    obtain ⟨w, r, rfl, _, h2⟩ := h
    rw [List.length_cons, List.length_cons, KW.len h2]
theorem KW.get : ∀ {ks : List (Option At)} {ws : List (List Nat)} {i : Nat} {w : List Nat}, KW ks ws → ws[i]? = some w → ∃ k, ks[i]? = some k ∧ Wk k w
  | [], _, i, w, h, e => by
    have h : _ = [] := h
    rw [h] at e
    simp at e
  | k :: ks, _, 0, w, h, e => by
    obtain ⟨u, r, rfl, h1, _⟩ := h
    have e : u = w := by simpa using e
    subst e
    exact ⟨k, rfl, h1⟩
  | k :: ks, _, i + 1, w, h, e => by
    obtain ⟨u, r, rfl, _, h2⟩ := h
    exact KW.get (i := i) h2 (by simpa using e)
/-- the first sign that is none -/
def badAt : List (Option At) → Nat → Option Nat
  | [], _ => none
  | none :: _, i => some i
  | some _ :: r, i => badAt r (i + 1)
theorem Wk.first {k : Option At} {w : List Nat} (h : Wk k w) : ∃ c r, w = c :: r ∧ (isD c = true → ∃ n, k = some (.n n)) ∧ w.length ≤ 8 := by
  cases k with
  | none =>
    rcases h with rfl | rfl
    · exact ⟨45, [], rfl, (fun z => nomatch z), by decide⟩
    · exact ⟨120, [], rfl, (fun z => nomatch z), by decide⟩
  | some a =>
    obtain ⟨c, r, e, h1, _⟩ := Wd.first h.2
    refine ⟨c, r, e, fun z => ?_, Wd.len h.2⟩
    rw [z] at h1
    cases a <;> first | exact ⟨_, rfl⟩ | cases h1
/-- words with the gaps behind them -/
abbrev Wg := List Nat × List Nat
def cat : List Wg → List Nat
  | [] => []
  | z :: r => z.1 ++ (z.2 ++ cat r)
def plc (p : Nat) : List Wg → List Nat
  | [] => []
  | z :: r => p :: plc (p + z.1.length + z.2.length) r
def hdD (w : List Nat) : Bool := isD (w.headD 0)
def Sep : List Wg → Prop
  | [] => True
  | z :: r => z.2.all isBl = true ∧ (∀ y r', r = y :: r' → hdD z.1 = true → hdD y.1 = true → z.2 ≠ []) ∧ Sep r
theorem cat_app : ∀ a b : List Wg, cat (a ++ b) = cat a ++ cat b
  | [], b => rfl
  | z :: a, b => by
    simp only [List.cons_append, cat, cat_app a b, List.append_assoc]
theorem plc_app : ∀ (a b : List Wg) (p : Nat), plc p (a ++ b) = plc p a ++ plc (p + (cat a).length) b
  | [], b, p => rfl
  | z :: a, b, p => by
    simp only [List.cons_append, plc, plc_app a b, cat, List.length_append]
    congr 3
    omega
theorem plc_len : ∀ (a : List Wg) (p : Nat), (plc p a).length = a.length
  | [], p => rfl
  | z :: a, p => by simp only [plc, List.length_cons, plc_len a]
/-- said place by place -/
theorem Sep.of : ∀ {zs : List Wg} {ws : List (List Nat)}, zs.map (·.1) = ws →
    (∀ (j : Nat) (z : Wg), zs[j]? = some z → z.2.all isBl = true ∧ ∀ w', ws[j + 1]? = some w' → hdD z.1 = true → hdD w' = true → z.2 ≠ []) → Sep zs
  | [], _, _, _ => trivial
  | z :: r, ws, e, h => by
    subst e
    obtain ⟨h1, h2⟩ := h 0 z rfl
    refine ⟨h1, fun y r' er hz hy => h2 y.1 ?_ hz hy, Sep.of (ws := r.map (·.1)) rfl fun j x hx => ?_⟩
    · subst er
      rfl
    · obtain ⟨h3, h4⟩ := h (j + 1) x (by simpa using hx)
      exact ⟨h3, fun w' hw => h4 w' (by simpa using hw)⟩
theorem nd_cat {r : List Wg} (hw : ∀ z ∈ r, 1 ≤ z.1.length) (h : ∀ y r', r = y :: r' → hdD y.1 = false) : nd (cat r) = true := by
  cases r with
  | nil => rfl
  | cons y r' =>
    have h1 := h y r' rfl
    have h2 := hw y List.mem_cons_self
    obtain ⟨w, g⟩ := y
    cases w with
    | nil => simp at h2
    | cons c w =>
      show (!isD c) = true
      have h1 : isD c = false := h1
      rw [h1]
      rfl
theorem kw_map {ks : List (Option At)} {z : Wg} {r : List Wg} {k : Option At} (h : KW (k :: ks) ((z :: r).map (·.1))) : Wk k z.1 ∧ KW ks (r.map (·.1)) := by
  obtain ⟨w, r', e, h1, h2⟩ := h
  rw [List.map_cons] at e
  obtain ⟨rfl, rfl⟩ := List.cons.inj e
  exact ⟨h1, h2⟩
theorem kw_pos : ∀ {r : List Wg} {ks : List (Option At)}, KW ks (r.map (·.1)) → ∀ z ∈ r, 1 ≤ z.1.length
  | [], _, _, z, hz => by cases hz
  | y :: r, [], h, z, hz => by cases h
  | y :: r, k :: ks, h, z, hz => by
    obtain ⟨h1, h2⟩ := kw_map h
    rcases List.mem_cons.mp hz with e | hz
    · subst e
      obtain ⟨c, w, e, _⟩ := h1.first
      rw [e]
      simp
    · exact kw_pos h2 z hz
theorem LexR.blanks {e : Option Nat} {ts : List Tk} : ∀ {g l : List Nat} {p : Nat}, g.all isBl = true → LexR (p + g.length) l e ts → LexR p (g ++ l) e ts
  | [], l, p, _, h => h
  | c :: g, l, p, hg, h => by
    simp only [List.all_cons, Bool.and_eq_true] at hg
    refine .bl hg.1 (LexR.blanks hg.2 ?_)
    have e : p + 1 + g.length = p + (c :: g).length := by simp only [List.length_cons]; omega
    rw [e]
    exact h
/-- how such a text is read -/
theorem lex_cat : ∀ (zs : List Wg) (ks : List (Option At)) (p i : Nat), KW ks (zs.map (·.1)) → Sep zs → ∃ e ts, LexR p (cat zs) e ts ∧
    (badAt ks i = none → e = none ∧ ts = (plc p zs).zip (zs.map (·.1)) ∧ TW (ks.filterMap id) ts) ∧ ∀ j, badAt ks i = some j → i ≤ j ∧ ∃ q, (plc p zs)[j - i]? = some q ∧ e = some q
  | [], ks, p, i, hk, hs => by
    cases ks with
    | nil => exact ⟨none, [], .nil p, fun _ => ⟨rfl, rfl, rfl⟩, fun j h => nomatch h⟩
    | cons k ks =>
      obtain ⟨w, r, e, _⟩ := hk
      cases e
  | z :: r, [], p, i, hk, hs => by cases hk
  | z :: r, k :: ks, p, i, hk, hs => by
    obtain ⟨h1, h2⟩ := kw_map hk
    obtain ⟨hg, hn, hs2⟩ := hs
    cases k with
    | none =>
      refine ⟨some p, [], ?_, (fun z => nomatch z), fun j hj => ?_⟩
      · rcases h1 with e | e
        · simp only [cat, e]
          exact .bad rfl rfl rfl
        · simp only [cat, e]
          exact .bad rfl rfl rfl
      · have hj : i = j := Option.some.inj hj
        subst hj
        refine ⟨Nat.le_refl _, p, ?_, rfl⟩
        rw [Nat.sub_self]
        rfl
    | some a =>
      obtain ⟨e, ts, hl, hgood, hbad⟩ := lex_cat r ks (p + z.1.length + z.2.length) (i + 1) h2 hs2
      have hl2 : LexR (p + z.1.length) (z.2 ++ cat r) e ts := LexR.blanks hg hl
      have hb : ∀ j, badAt (some a :: ks) i = some j → i ≤ j ∧ ∃ q, (plc p (z :: r))[j - i]? = some q ∧ e = some q := fun j hj => by
        obtain ⟨h3, q, h4, h5⟩ := hbad j hj
        refine ⟨by omega, q, ?_, h5⟩
        have e1 : j - i = (j - (i + 1)) + 1 := by omega
        rw [e1]
        exact h4
      refine ⟨e, (p, z.1) :: ts, ?_, fun h => ?_, hb⟩
      · have h1 : Wd a z.1 := h1.2
        cases ha : a.isN with
        | false =>
          rw [Wd.sg ha] at h1
          rw [h1] at hl2 ⊢
          simp only [cat, h1, List.cons_append, List.nil_append]
          exact .sg (sg_isSg ha) hl2
        | true =>
          obtain ⟨n, rfl⟩ : ∃ n, a = .n n := by cases a <;> first | exact ⟨_, rfl⟩ | cases ha
          obtain ⟨d1, d2, d3⟩ := Wd.num h1
          have hnd : nd (z.2 ++ cat r) = true := by
            cases hz : z.2 with
            | nil =>
              refine nd_cat (kw_pos h2) fun y r' er => ?_
              cases hy : hdD y.1 with
              | false => rfl
              | true =>
                refine absurd hz (hn y r' er ?_ hy)
                cases hw : z.1 with
                | nil => rw [hw] at d2; simp at d2
                | cons c w =>
                  rw [hw] at d1
                  simp only [List.all_cons, Bool.and_eq_true] at d1
                  exact d1.1
            | cons c g =>
              rw [hz] at hg
              exact nd_app (bl_nd hg) fun q => nomatch q
          cases hw : z.1 with
          | nil => rw [hw] at d2; simp at d2
          | cons c w =>
            rw [hw] at d1 hl2
            have hr := run_app d1 hnd
            have hc : isD c = true := by
              simp only [List.all_cons, Bool.and_eq_true] at d1
              exact d1.1
            have e1 : (c :: (w ++ (z.2 ++ cat r))).take (run (c :: (w ++ (z.2 ++ cat r)))) = c :: w := by
              rw [← List.cons_append, hr, List.take_left']
              rfl
            have e2 : (c :: (w ++ (z.2 ++ cat r))).drop (run (c :: (w ++ (z.2 ++ cat r)))) = z.2 ++ cat r := by
              rw [← List.cons_append, hr, List.drop_left']
              rfl
            have := LexR.num (p := p) (c := c) (r := w ++ (z.2 ++ cat r)) (e := e) (ts := ts) hc (by rw [e2, ← List.cons_append, hr]; exact hl2)
            rw [e1] at this
            simp only [cat, hw, List.cons_append]
            exact this
      · obtain ⟨h3, h4, h5⟩ := hgood h
        refine ⟨h3, ?_, ?_⟩
        · rw [h4]
          rfl
        · exact ⟨(p, z.1), ts, rfl, h1.2, h5⟩
theorem bad_none : ∀ {ks : List (Option At)} {i : Nat}, badAt ks i = none → ks = (ks.filterMap id).map some
  | [], _, _ => rfl
  | none :: _, _, h => by cases h
  | some a :: r, i, h => by
    have := bad_none (ks := r) (i := i + 1) h
    show some a :: r = some a :: (r.filterMap id).map some
    rw [← this]
/-! ### the order as a machine -/
inductive Ph where
  | box | num | col | hgt | opn | done
  deriving DecidableEq
def Ph.nm : Ph → Str
  | .box => "box"
  | .num => "number"
  | .col => "colon"
  | .hgt => "height"
  | .opn => "open"
  | .done => "done"
/-- what is needed in this state: d scrollers open, sc: the last word was s -/
def ndOf (d : Nat) (sc : Bool) : Ph → List Nd
  | .box => if d = 0 then [.s] else List.replicate d .parts
  | .num => .num :: .col :: .num :: (if sc = true then .opn :: .parts :: List.replicate d .parts else List.replicate d .parts)
  | .col => .col :: .num :: (if sc = true then .opn :: .parts :: List.replicate d .parts else List.replicate d .parts)
  | .hgt => .num :: (if sc = true then .opn :: .parts :: List.replicate d .parts else List.replicate d .parts)
  | .opn => .opn :: .parts :: List.replicate d .parts
  | .done => []
theorem rep_s (d : Nat) : List.replicate (d + 1) Nd.parts = .parts :: List.replicate d .parts := rfl
/-- a state that can be -/
def PhOk (d : Nat) (sc : Bool) : Ph → Prop
  | .num => sc = false → 0 < d
  | .col => sc = false → 0 < d
  | .hgt => sc = false → 0 < d
  | .done => d = 0
  | _ => True

def mst (d : Nat) (sc : Bool) : Ph → At → Option (Nat × Bool × Ph)
  | .box, .s => some (d, true, .num)
  | .box, .b => if 0 < d then some (d, false, .num) else none
  | .box, .e => if d = 0 then none else if d = 1 then some (0, sc, .done) else some (d - 1, sc, .box)
  | .num, .n _ => some (d, sc, .col)
  | .col, .c => some (d, sc, .hgt)
  | .hgt, .n _ => if sc = true then some (d, sc, .opn) else some (d, sc, .box)
  | .opn, .o => some (d + 1, sc, .box)
  | _, _ => none
theorem mst_stp {d : Nat} {sc : Bool} {ph : Ph} {a : At} (h : PhOk d sc ph) :
    stp (ndOf d sc ph) a = (mst d sc ph a).map (fun x => ndOf x.1 x.2.1 x.2.2) ∧ ∀ x, mst d sc ph a = some x → PhOk x.1 x.2.1 x.2.2 := by
  cases ph with
  | box =>
    cases d with
    | zero =>
      cases a <;> first | ((refine ⟨rfl, fun x e => ?_⟩); (cases e; done)) | skip
      exact ⟨rfl, fun x e => by cases e; intro z; cases z⟩
    | succ d =>
      cases a <;> first | ((refine ⟨rfl, fun x e => ?_⟩); (cases e; done)) | skip
      · exact ⟨rfl, fun x e => by cases e; exact fun _ => Nat.succ_pos d⟩
      · exact ⟨rfl, fun x e => by cases e; exact fun _ => Nat.succ_pos d⟩
      · cases d with
        | zero => exact ⟨rfl, fun x e => by cases e; rfl⟩
        | succ d => exact ⟨rfl, fun x e => by cases e; trivial⟩
  | num =>
    cases a <;> first | ((refine ⟨rfl, fun x e => ?_⟩); (cases e; done)) | skip
    exact ⟨rfl, fun x e => by cases e; exact h⟩
  | col =>
    cases a <;> first | ((refine ⟨rfl, fun x e => ?_⟩); (cases e; done)) | skip
    exact ⟨rfl, fun x e => by cases e; exact h⟩
  | hgt =>
    cases a <;> first | ((refine ⟨rfl, fun x e => ?_⟩); (cases e; done)) | skip
    cases sc with
    | true => exact ⟨rfl, fun x e => by cases e; trivial⟩
    | false =>
      have h : 0 < d := h rfl
      refine ⟨?_, fun x e => by cases e; trivial⟩
      show some ([] ++ List.replicate d Nd.parts) = some (ndOf d false .box)
      unfold ndOf
      rw [if_neg (by omega)]
      rfl
  | opn =>
    cases a <;> first | ((refine ⟨rfl, fun x e => ?_⟩); (cases e; done)) | skip
    exact ⟨rfl, fun x e => by cases e; trivial⟩
  | done => cases a <;> exact ⟨rfl, fun x e => by cases e⟩
theorem ndOf_nil {d : Nat} {sc : Bool} {ph : Ph} (h : PhOk d sc ph) : ndOf d sc ph = [] ↔ ph = .done := by
  cases ph with
  | box =>
    cases d with
    | zero => exact ⟨(fun z => nomatch z), (fun z => nomatch z)⟩
    | succ d => exact ⟨(fun z => nomatch z), (fun z => nomatch z)⟩
  | done => exact ⟨fun _ => rfl, fun _ => rfl⟩
  | _ => exact ⟨(fun z => nomatch z), (fun z => nomatch z)⟩
/-! ### where numbers stand -/
/-- the positions of the boxes' own numbers: every second number -/
def hds : List At → Nat → Bool → List Nat
  | [], _, _ => []
  | .n _ :: r, p, false => p :: hds r (p + 1) true
  | .n _ :: r, p, true => hds r (p + 1) false
  | _ :: r, p, b => hds r (p + 1) b
def evB {α : Type} : Bool → List α → List α
  | false, xs => evens xs
  | true, [] => []
  | true, _ :: r => evens r
theorem evens_evB {α : Type} (x : α) : ∀ r : List α, evens (x :: r) = x :: evB true r
  | [] => by simp [evens, evB]
  | y :: r => by simp [evens, evB]
def vAt (as : List At) (j : Nat) : Nat := match as[j]? with
  | some (.n n) => n
  | _ => 0
theorem hds_at : ∀ {as : List At} {ts : List Tk}, TW as ts → ∀ (p : Nat) (b : Bool), (hds as p b).length = (evB b (nums as)).length ∧ (hds as p b).length = (evB b (ts.filter numTk)).length ∧
    ∀ (i j : Nat), (hds as p b)[i]? = some j → p ≤ j ∧ ∃ t n, ts[j - p]? = some t ∧ as[j - p]? = some (.n n) ∧ (evB b (ts.filter numTk))[i]? = some t ∧ (evB b (nums as))[i]? = some n
  | [], _, h, p, b => by
    have h : _ = [] := h
    subst h
    cases b <;> exact ⟨rfl, rfl, fun i j e => by simp [hds] at e⟩
  | a :: as, _, h, p, b => by
    obtain ⟨t, r, rfl, h1, h2⟩ := h
    have ih := hds_at h2
    obtain ⟨c, w, e, hc, _⟩ := h1.first
    have hn : numTk t = a.isN := by
      unfold numTk
      rw [e]
      exact hc
    have shift : ∀ b', (∀ (i j : Nat), (hds as (p + 1) b')[i]? = some j → p + 1 ≤ j ∧ ∃ t' n, r[j - (p + 1)]? = some t' ∧ as[j - (p + 1)]? = some (.n n) ∧ (evB b' (r.filter numTk))[i]? = some t' ∧ (evB b' (nums as))[i]? = some n) →
        ∀ (i j : Nat), (hds as (p + 1) b')[i]? = some j → p ≤ j ∧ ∃ t' n, (t :: r)[j - p]? = some t' ∧ (a :: as)[j - p]? = some (.n n) ∧ (evB b' (r.filter numTk))[i]? = some t' ∧ (evB b' (nums as))[i]? = some n := by
      intro b' g i j hj
      obtain ⟨g1, t', n, g2, g3, g4, g5⟩ := g i j hj
      have e1 : j - p = (j - (p + 1)) + 1 := by omega
      refine ⟨by omega, t', n, ?_, ?_, g4, g5⟩
      · rw [e1]
        exact g2
      · rw [e1]
        exact g3
    cases ha : a.isN with
    | false =>
      rw [ha] at hn
      have ef : (t :: r).filter numTk = r.filter numTk := by rw [List.filter_cons, hn]; rfl
      have eh : hds (a :: as) p b = hds as (p + 1) b := by
        cases a <;> first | rfl | cases ha
      have en : nums (a :: as) = nums as := by
        cases a <;> first | rfl | cases ha
      rw [ef, eh, en]
      obtain ⟨i1, i2, i3⟩ := ih (p + 1) b
      exact ⟨i1, i2, shift b i3⟩
    | true =>
      rw [ha] at hn
      obtain ⟨n, rfl⟩ : ∃ n, a = .n n := by cases a <;> first | exact ⟨_, rfl⟩ | cases ha
      have ef : (t :: r).filter numTk = t :: r.filter numTk := by rw [List.filter_cons, hn]; rfl
      have en : nums (At.n n :: as) = n :: nums as := rfl
      rw [ef, en]
      cases b with
      | true =>
        obtain ⟨i1, i2, i3⟩ := ih (p + 1) false
        exact ⟨i1, i2, shift false i3⟩
      | false =>
        obtain ⟨i1, i2, i3⟩ := ih (p + 1) true
        have eh : hds (At.n n :: as) p false = p :: hds as (p + 1) true := rfl
        have e1 : evB false (t :: r.filter numTk) = t :: evB true (r.filter numTk) := evens_evB t _
        have e2 : evB false (n :: nums as) = n :: evB true (nums as) := evens_evB n _
        rw [eh, e1, e2]
        refine ⟨by rw [List.length_cons, List.length_cons, i1], by rw [List.length_cons, List.length_cons, i2], fun i j hj => ?_⟩
        cases i with
        | zero =>
          have hj : p = j := by simpa using hj
          subst hj
          refine ⟨Nat.le_refl _, t, n, ?_, ?_, rfl, rfl⟩
          · rw [Nat.sub_self]
            rfl
          · rw [Nat.sub_self]
            rfl
        | succ i =>
          obtain ⟨g1, t', n', g2, g3, g4, g5⟩ := shift true i3 i j (by simpa using hj)
          exact ⟨g1, t', n', g2, g3, by simpa using g4, by simpa using g5⟩
theorem ev_vals {as : List At} {ts : List Tk} (h : TW as ts) : evens (nums as) = (hds as 0 false).map (vAt as) := by
  obtain ⟨h1, _, h3⟩ := hds_at h 0 false
  have h1 : (hds as 0 false).length = (evens (nums as)).length := h1
  apply List.ext_getElem?
  intro i
  rw [List.getElem?_map]
  cases e : (hds as 0 false)[i]? with
  | none =>
    have := List.getElem?_eq_none_iff.mp e
    exact List.getElem?_eq_none (by omega)
  | some j =>
    obtain ⟨_, t, n, _, g3, _, g5⟩ := h3 i j e
    have g5 : (evens (nums as))[i]? = some n := g5
    rw [g5]
    show some n = some (vAt as j)
    unfold vAt
    rw [Nat.sub_zero] at g3
    rw [g3]
theorem hds_snoc (a : At) : ∀ (as : List At) (p : Nat) (b : Bool), hds (as ++ [a]) p b = hds as p b ++ (if a.isN = true ∧ (b = decide ((nums as).length % 2 = 1)) then [p + as.length] else [])
  | [], p, b => by
    cases a <;> cases b <;> simp [hds, At.isN, nums]
  | .n k :: as, p, false => by
    have ih := hds_snoc a as (p + 1) true
    show p :: hds (as ++ [a]) (p + 1) true = p :: hds as (p + 1) true ++ _
    rw [ih, List.cons_append]
    have e1 : p + 1 + as.length = p + (At.n k :: as).length := by rw [List.length_cons]; omega
    have e2 : (true = decide ((nums as).length % 2 = 1)) ↔ (false = decide ((nums (At.n k :: as)).length % 2 = 1)) := by
      show _ ↔ false = decide (((nums as).length + 1) % 2 = 1)
      rw [eq_comm, decide_eq_true_iff, eq_comm (a := false), decide_eq_false_iff_not]
      omega
    rw [e1]
    simp only [e2]
  | .n k :: as, p, true => by
    have ih := hds_snoc a as (p + 1) false
    show hds (as ++ [a]) (p + 1) false = hds as (p + 1) false ++ _
    rw [ih]
    have e1 : p + 1 + as.length = p + (At.n k :: as).length := by rw [List.length_cons]; omega
    have e2 : (false = decide ((nums as).length % 2 = 1)) ↔ (true = decide ((nums (At.n k :: as)).length % 2 = 1)) := by
      show _ ↔ true = decide (((nums as).length + 1) % 2 = 1)
      rw [eq_comm, decide_eq_false_iff_not, eq_comm (a := true), decide_eq_true_iff]
      omega
    rw [e1]
    simp only [e2]
  | .b :: as, p, b => by
    have ih := hds_snoc a as (p + 1) b
    have e1 : p + 1 + as.length = p + (At.b :: as).length := by rw [List.length_cons]; omega
    rw [e1] at ih
    cases b <;> exact ih
  | .s :: as, p, b => by
    have ih := hds_snoc a as (p + 1) b
    have e1 : p + 1 + as.length = p + (At.s :: as).length := by rw [List.length_cons]; omega
    rw [e1] at ih
    cases b <;> exact ih
  | .c :: as, p, b => by
    have ih := hds_snoc a as (p + 1) b
    have e1 : p + 1 + as.length = p + (At.c :: as).length := by rw [List.length_cons]; omega
    rw [e1] at ih
    cases b <;> exact ih
  | .o :: as, p, b => by
    have ih := hds_snoc a as (p + 1) b
    have e1 : p + 1 + as.length = p + (At.o :: as).length := by rw [List.length_cons]; omega
    rw [e1] at ih
    cases b <;> exact ih
  | .e :: as, p, b => by
    have ih := hds_snoc a as (p + 1) b
    have e1 : p + 1 + as.length = p + (At.e :: as).length := by rw [List.length_cons]; omega
    rw [e1] at ih
    cases b <;> exact ih
theorem hds_lt : ∀ (as : List At) (p : Nat) (b : Bool), (hds as p b).Pairwise (· < ·) ∧ ∀ j ∈ hds as p b, p ≤ j
  | [], p, b => by cases b <;> exact ⟨.nil, fun j h => by cases h⟩
  | a :: as, p, b => by
    have i1 := hds_lt as (p + 1) true
    have i2 := hds_lt as (p + 1) false
    have i3 := hds_lt as (p + 1) b
    have low : ∀ {b'}, (∀ j ∈ hds as (p + 1) b', p + 1 ≤ j) → ∀ j ∈ hds as (p + 1) b', p ≤ j := fun g j hj => Nat.le_of_succ_le (g j hj)
    cases a with
    | n k =>
      cases b with
      | false =>
        refine ⟨List.pairwise_cons.mpr ⟨fun j hj => ?_, i1.1⟩, fun j hj => ?_⟩
        · exact i1.2 j hj
        · rcases List.mem_cons.mp hj with e | hj
          · omega
          · exact low i1.2 j hj
      | true => exact ⟨i2.1, low i2.2⟩
    | _ => cases b <;> exact ⟨i3.1, low i3.2⟩
/-- what is below the i-th of an ascending list -/
theorem asc_filter : ∀ {l : List Nat} {i k : Nat}, l.Pairwise (· < ·) → l[i]? = some k → l.filter (fun j => decide (j < k)) = l.take i
  | [], i, k, _, e => by simp at e
  | x :: r, 0, k, h, e => by
    have e : x = k := by simpa using e
    subst e
    rw [List.take_zero, List.filter_eq_nil_iff]
    intro j hj hk
    have hk : j < x := of_decide_eq_true hk
    rcases List.mem_cons.mp hj with e | hj
    · omega
    · have := (List.pairwise_cons.mp h).1 j hj
      omega
  | x :: r, i + 1, k, h, e => by
    have e : r[i]? = some k := by simpa using e
    have hp := List.pairwise_cons.mp h
    have hx := hp.1 k (List.mem_of_getElem? e)
    rw [List.filter_cons, if_pos (decide_eq_true hx), asc_filter hp.2 e, List.take_succ_cons]
theorem nums_snoc (as : List At) (a : At) : (nums (as ++ [a])).length = (nums as).length + (if a.isN = true then 1 else 0) := by
  rw [nums_append, List.length_append]
  cases a <;> rfl
theorem filter_take : ∀ {as : List At} {ts : List Tk} {k : Nat} {t : Tk}, TW as ts → ts[k]? = some t → numTk t = true → (ts.filter numTk)[(nums (as.take k)).length]? = some t
  | [], _, k, t, h, e, _ => by
    have h : _ = [] := h
    rw [h] at e
    simp at e
  | a :: as, _, 0, t, h, e, hn => by
    obtain ⟨u, r, rfl, h1, h2⟩ := h
    have e : u = t := by simpa using e
    subst e
    rw [List.filter_cons, if_pos hn]
    rfl
  | a :: as, _, k + 1, t, h, e, hn => by
    obtain ⟨u, r, rfl, h1, h2⟩ := h
    have ih := filter_take (k := k) h2 (by simpa using e) hn
    obtain ⟨c, w, ew, hc, _⟩ := h1.first
    have hu : numTk u = a.isN := by
      unfold numTk
      rw [ew]
      exact hc
    rw [List.filter_cons, hu, List.take_succ_cons]
    cases a with
    | n m =>
      show (u :: r.filter numTk)[(nums (as.take k)).length + 1]? = some t
      exact ih
    | _ => exact ih
/-- at the k-th token, in order -/
structure NumInv (as : List At) (k d : Nat) (sc : Bool) (ph : Ph) : Prop where
  o : ordAt (ndOf d sc ph) (as.drop k) k = none
  ok : PhOk d sc ph
  n : ph = .num → ∃ a, 0 < k ∧ as[k - 1]? = some a ∧ (a = .s ∨ a = .b)
  h : ph = .hgt → 0 < k ∧ as[k - 1]? = some .c
  p : (nums (as.take k)).length % 2 = if ph = .col ∨ ph = .hgt then 1 else 0
theorem NumInv.start {as : List At} (h : ordAt [.s] as 0 = none) : NumInv as 0 0 true .box := ⟨h, trivial, (fun z => nomatch z), (fun z => nomatch z), rfl⟩
theorem NumInv.next {as : List At} {k d : Nat} {sc : Bool} {ph : Ph} {a : At} (I : NumInv as k d sc ph) (ha : as[k]? = some a) :
    (∃ d' sc' ph', NumInv as (k + 1) d' sc' ph') ∧ ∀ n, a = .n n → (ph = .num ∨ ph = .hgt) := by
  obtain ⟨hk, ek⟩ := List.getElem?_eq_some_iff.mp ha
  have ed : as.drop k = a :: as.drop (k + 1) := by
    rw [← ek]
    exact List.drop_eq_getElem_cons hk
  have ho := I.o
  obtain ⟨m1, m2⟩ := mst_stp (a := a) I.ok
  rw [ed, ordAt_cons, m1] at ho
  have et : as.take (k + 1) = as.take k ++ [a] := by
    rw [List.take_add_one, ha]
    rfl
  have hp := I.p
  cases hm : mst d sc ph a with
  | none =>
    rw [hm] at ho
    cases ho
  | some x =>
    rw [hm] at ho m2
    have ok := m2 x rfl
    obtain ⟨d', sc', ph'⟩ := x
    have ho : ordAt (ndOf d' sc' ph') (as.drop (k + 1)) (k + 1) = none := ho
    refine ⟨⟨d', sc', ph', ho, ok, fun e => ?_, fun e => ?_, ?_⟩, fun n e => ?_⟩
    · subst e
      refine ⟨a, Nat.succ_pos k, ha, ?_⟩
      cases ph <;> cases a <;> simp only [mst] at hm <;> (try split at hm) <;> (try split at hm) <;> first | (cases hm; done) | exact .inl rfl | exact .inr rfl
    · subst e
      refine ⟨Nat.succ_pos k, ?_⟩
      rw [Nat.add_sub_cancel, ha]
      cases ph <;> cases a <;> simp only [mst] at hm <;> (try split at hm) <;> (try split at hm) <;> first | (cases hm; done) | rfl
    · rw [et, nums_snoc]
      cases ph <;> cases a <;> simp only [mst] at hm <;> (try split at hm) <;> (try split at hm) <;> first | (cases hm; done) | skip
      all_goals
        cases hm
        simp [At.isN] at hp ⊢
        try omega
    · subst e
      cases ph <;> first | exact .inl rfl | exact .inr rfl | (simp [mst] at hm; done)
/-! the deepest never falls -/
theorem deep_step (s : Lm) (a : At) : s.2.2 ≤ (lstep s a).2.2 := by
  cases a <;> simp only [lstep] <;> first | exact Int.le_refl _ | (split <;> omega)
theorem deep_mono : ∀ (as : List At) (s : Lm), s.2.2 ≤ (as.foldl lstep s).2.2
  | [], s => Int.le_refl _
  | a :: as, s => Int.le_trans (deep_step s a) (deep_mono as (lstep s a))
theorem heads_many {as : List At} (h : ord [.s] as = some []) {ts : List Tk} (tw : TW as ts) : ((as.foldl lstep (0, 0, 0)).1 = ((hds as 0 false).length : Int)) := by
  have e := (hds_at tw 0 false).1
  obtain ⟨n, m, ps, rfl, _⟩ := ord_doc h
  rw [Box.lim_tk _ 0 0 0 (Int.le_refl 0), e]
  show 0 + ((Box.scr n m ps).pre.length : Int) = ((evens (nums (Box.scr n m ps).tk)).length : Int)
  rw [Box.nums_tk, Box.evens_pairs, List.length_map]
  omega
/-- what the law tells -/
def dueD : Option (Nat × Str) → PyData
  | none => .none
  | some (p, g) => .tuple [.int p, .str g]

theorem cut_to (xs : List V) (n : Nat) : cutV xs none (some (n : Int)) = xs.take n := by
  unfold cutV
  rw [HT.sIx_nat]
  show (xs.drop 0).take (min n xs.length - 0) = _
  rw [List.drop_zero, Nat.sub_zero]
  by_cases h : n ≤ xs.length
  · rw [Nat.min_eq_left h]
  · rw [Nat.min_eq_right (by omega), List.take_length, List.take_of_length_le (by omega)]
theorem cut_from (xs : List V) (n : Nat) : cutV xs (some (n : Int)) none = xs.drop n := by
  unfold cutV
  rw [HT.sIx_nat]
  show (xs.drop (min n xs.length)).take (xs.length - min n xs.length) = _
  rw [List.take_of_length_le (by rw [List.length_drop]; omega)]
  by_cases h : n ≤ xs.length
  · rw [Nat.min_eq_left h]
  · rw [Nat.min_eq_right (by omega), List.drop_length, List.drop_of_length_le (by omega)]
/-- words as values -/
def wv (ws : List (List Nat)) : List V := ws.map fun w => V.str (S w)
theorem wv_app (a b : List (List Nat)) : wv (a ++ b) = wv a ++ wv b := List.map_append
theorem wv_len (a : List (List Nat)) : (wv a).length = a.length := List.length_map _
theorem wv_take (a : List (List Nat)) (n : Nat) : (wv a).take n = wv (a.take n) := List.map_take.symm
theorem wv_drop (a : List (List Nat)) (n : Nat) : (wv a).drop n = wv (a.drop n) := List.map_drop.symm
theorem wv_get {ws : List (List Nat)} {i : Nat} {w : List Nat} (h : ws[i]? = some w) : (wv ws)[i]? = some (V.str (S w)) := by
  unfold wv
  rw [List.getElem?_map, h]
  rfl
theorem sgn_lits : [V.str "b", V.str "s", V.str ":", V.str "[", V.str "]", V.str "7", V.str "0", V.str "1000", V.str "1001", V.str "-", V.str "x"] =
    wv [[98], [115], [58], [91], [93], [55], [48], [49, 48, 48, 48], [49, 48, 48, 49], [45], [120]] := by decide +kernel
theorem sgn_ok : AW [[98], [115], [58], [91], [93], [55], [48], [49, 48, 48, 48], [49, 48, 48, 49], [45], [120]] := by
  intro w h
  simp only [List.mem_cons, List.not_mem_nil, or_false] at h
  rcases h with rfl | rfl | rfl | rfl | rfl | rfl | rfl | rfl | rfl | rfl | rfl
  · exact ⟨some .b, rfl, rfl⟩
  · exact ⟨some .s, rfl, rfl⟩
  · exact ⟨some .c, rfl, rfl⟩
  · exact ⟨some .o, rfl, rfl⟩
  · exact ⟨some .e, rfl, rfl⟩
  · exact ⟨some (.n 7), by decide +kernel, by decide, 0, by decide, by decide +kernel⟩
  · exact ⟨some (.n 0), by decide +kernel, by decide, 0, by decide, by decide +kernel⟩
  · exact ⟨some (.n 1000), by decide +kernel, by decide, 0, by decide, by decide +kernel⟩
  · exact ⟨some (.n 1001), by decide +kernel, by decide, 0, by decide, by decide +kernel⟩
  · exact ⟨none, .inl rfl⟩
  · exact ⟨none, .inr rfl⟩

theorem But.fresh {x : List Addr} {H H1 : Hp} {p : Addr} {o : HO} (k : But x H H1) (n : H p = none) : But x H (upd H1 p o) := fun b u hb e => by
  have hbp : b ≠ p := fun z => by rw [z, n] at e; cases e
  rw [upd_ne hbp]
  exact k b u hb e
theorem KeepT.fresh {H H1 : Hp} {p : Addr} {o : HO} (k : KeepT H H1) (n : H p = none) : KeepT H (upd H1 p o) := fun b u e => by
  have hbp : b ≠ p := fun z => by rw [z, n] at e; cases e
  rw [upd_ne hbp]
  exact k b u e
theorem DrawAt.fresh {H : Hp} {d l p : Addr} {o : HO} (h : DrawAt H d l) (h1 : d ≠ p) (h2 : l ≠ p) : DrawAt (upd H p o) d l := by
  obtain ⟨ns, i, r, z, e, e2, h0, n⟩ := h
  refine ⟨ns, i, r, z, ?_, ?_, h0, n⟩
  · rw [upd_ne h1]
    exact e
  · rw [upd_ne h2]
    exact e2
theorem tC_if {b : Bool} {u v : V} {σ : L2.St} {H : Hp} {Q : VK} (h : Q (if b = true then u else v) H) : if b = true then tC u σ H Q else tC v σ H Q := by
  cases b <;> exact h
/-- places as values -/
def pv_ (ps : List Nat) : List V := ps.map fun (n : Nat) => V.int (n : Int)
theorem pv_app (a b : List Nat) : pv_ (a ++ b) = pv_ a ++ pv_ b := List.map_append
theorem pv_len (a : List Nat) : (pv_ a).length = a.length := List.length_map _
theorem pv_get {ps : List Nat} {i p : Nat} (h : ps[i]? = some p) : (pv_ ps)[i]? = some (V.int (p : Int)) := by
  unfold pv_
  rw [List.getElem?_map, h]
  rfl
theorem AW.first {ws : List (List Nat)} {i : Nat} {w : List Nat} (h : AW ws) (e : ws[i]? = some w) : ∃ c r, w = c :: r ∧ w.length ≤ 8 := by
  obtain ⟨k, hk⟩ := h w (List.mem_of_getElem? e)
  obtain ⟨c, r, e2, _, h2⟩ := hk.first
  exact ⟨c, r, e2, h2⟩

theorem eq_lit {k b : At} {w : List Nat} {c : Nat} {x : Str} (h : Wd k w) (h1 : b.isN = false) (h2 : b.code = c) (h3 : isD c = false) (h4 : x = S [c]) : decide (V.str (S w) = V.str x) = decide (k = b) := by
  rw [h4]
  exact decide_eq_decide.mpr (VS_inj.trans (code_eq h h1 h2 h3))
theorem eq_s {k : At} {w : List Nat} (h : Wd k w) : decide (V.str (S w) = V.str "s") = decide (k = .s) := eq_lit h rfl rfl rfl lit_s
theorem eq_b {k : At} {w : List Nat} (h : Wd k w) : decide (V.str (S w) = V.str "b") = decide (k = .b) := eq_lit h rfl rfl rfl lit_b
theorem eq_c {k : At} {w : List Nat} (h : Wd k w) : decide (V.str (S w) = V.str ":") = decide (k = .c) := eq_lit h rfl rfl rfl lit_c
theorem eq_o {k : At} {w : List Nat} (h : Wd k w) : decide (V.str (S w) = V.str "[") = decide (k = .o) := eq_lit h rfl rfl rfl lit_o
theorem eq_e {k : At} {w : List Nat} (h : Wd k w) : decide (V.str (S w) = V.str "]") = decide (k = .e) := eq_lit h rfl rfl rfl lit_e
theorem in_sb {k : At} {w : List Nat} (h : Wd k w) : inV (V.str (S w)) [V.str "s", V.str "b"] = (decide (k = .s) || decide (k = .b)) := by
  have key : ∀ x : Str, (eqV (V.str x) (V.str (S w))) = decide (V.str (S w) = V.str x) := by
    intro x
    show (x == S w) = _
    rw [Bool.eq_iff_iff, beq_iff_eq, decide_eq_true_eq]
    exact ⟨fun z => by rw [z], fun z => (V.str.inj z).symm⟩
  unfold inV
  simp only [List.any_cons, List.any_nil, Bool.or_false, key]
  rw [eq_s h, eq_b h]

/-- all of a kind: the words of the kinds -/
theorem KW.good {as : List At} : ∀ {ws : List (List Nat)}, KW (as.map some) ws → ws = as.map At.word ∧ WW as ws := by
  induction as with
  | nil =>
    intro ws h
    have h : ws = [] := h
    subst h
    exact ⟨rfl, rfl⟩
  | cons a as ih =>
    rintro _ ⟨w, r, rfl, ⟨h1, h2⟩, h3⟩
    obtain ⟨i1, i2⟩ := ih h3
    exact ⟨by rw [List.map_cons, h1, ← i1], w, r, rfl, h2, i2⟩

theorem lit_m : Str.ofString "-" = S [45] := by decide +kernel
theorem lit_x : Str.ofString "x" = S [120] := by decide +kernel
theorem in_bad {k : Option At} {w : List Nat} (h : Wk k w) : inV (V.str (S w)) [V.str "-", V.str "x"] = k.isNone := by
  have key : ∀ x : Str, (eqV (V.str x) (V.str (S w))) = decide (S w = x) := by
    intro x
    show (x == S w) = _
    rw [Bool.eq_iff_iff, beq_iff_eq, decide_eq_true_eq]
    exact eq_comm
  unfold inV
  simp only [List.any_cons, List.any_nil, Bool.or_false, key]
  show (decide (S w = Str.ofString "-") || decide (S w = Str.ofString "x")) = _
  rw [lit_m, lit_x]
  cases k with
  | none =>
    rcases h with rfl | rfl
    · simp
    · simp
  | some a =>
    obtain ⟨c, r, e, h1, h2⟩ := Wd.first h.2
    have no : ∀ x, isD x = false → a.code ≠ x → w ≠ [x] := by
      intro x hx hne hw
      rw [e] at hw
      obtain ⟨rfl, _⟩ := List.cons.inj hw
      rw [hx] at h1
      exact hne (h2 h1.symm).1.symm
    have n1 : w ≠ [45] := no 45 rfl (by cases a <;> simp [At.code])
    have n2 : w ≠ [120] := no 120 rfl (by cases a <;> simp [At.code])
    rw [decide_eq_false (fun z => n1 (S_inj.mp z)), decide_eq_false (fun z => n2 (S_inj.mp z))]
    rfl
theorem ord_ne {as : List At} (h : ordAt [.s] as 0 = none) : as ≠ [] := by
  intro e
  subst e
  cases h

/-- a if t else b, as a test -/
def tIfT (t ta tb : TT) : TT := fun σ H Q => t σ H fun c H1 => if c = true then ta σ H1 Q else tb σ H1 Q
theorem pt_ifT {X : Cx} {c a b : Expr} {tc ta tb : TT} {pos : Pos} (hc : PT X c tc) (ha : PT X a ta) (hb : PT X b tb) : PT X (.IfExp c a b pos) (tIfT tc ta tb) := by
  refine ⟨fun pins s σ H Q I h => ?_⟩
  show wpAny (model X.prog X.w) X.A (do if ← isTrue c X.env (eval c X.env) then isTrue a X.env (eval a X.env) else isTrue b X.env (eval b X.env)) _ _ s
  refine wpAny_bind (thn (hc.run pins s σ H _ I h) fun d s1 ⟨H1, I1, q1⟩ => ?_)
  cases d with
  | true => exact ha.run pins s1 σ H1 Q I1 q1
  | false => exact hb.run pins s1 σ H1 Q I1 q1

theorem hds_len : ∀ (as : List At) (p : Nat) (b : Bool), (hds as p b).length ≤ as.length
  | [], p, b => by cases b <;> exact Nat.le_refl _
  | a :: as, p, b => by
    have i1 := hds_len as (p + 1) true
    have i2 := hds_len as (p + 1) false
    have i3 := hds_len as (p + 1) b
    rw [List.length_cons]
    cases a with
    | n k =>
      cases b with
      | false =>
        show (hds as (p + 1) true).length + 1 ≤ _
        omega
      | true =>
        show (hds as (p + 1) false).length ≤ _
        omega
    | _ =>
      cases b <;>
      · show (hds as (p + 1) _).length ≤ _
        omega
end AF
/-! An except suite that knows what was raised. -/
namespace AF
open PySem PySem.Spec PyProof.Rows L2
section
variable {X : Cx} {a t dd C : Addr} {oe : Obj} {pn : List (Addr × Obj)}
theorem isTK (K : PySem.W.Frag) (h : X.K = K) (T : L2.ExcC K C) (hz : Zt (.ref C) (some dd) t oe) : CallR (X.suite a ((a, oe) :: pn)) (.builtin "isinstance") (rIsT K C a dd) := by
  subst h
  exact call_isT T hz
theorem strTK (hu : X.A.units + 64 < cLine) (hs : PySem.W.findIn X.K (.ref C) "__str__" = some (some (.builtin "BaseException.__str__"))) (hB : PySem.W.subIn X.K (.ref C) (.type "BaseException") = some true) (hz : Zt (.ref C) (some dd) t oe) :
    CallR (X.suite a ((a, oe) :: pn)) (.type "str") (rStrT a t) := call_strT hu hs hB hz
theorem suite_of {Y : Cx} {ss : List Stmt} {R : TS} (h : PSs Y ss R) : PSs Y ss (fun D σ H => (∃ p g, H dd = some (.xd [("message", .str g), ("place", .int p)]) ∧ H t = some (.tup [.str (TX.txt p g)])) ∧
    (∀ (p : Int) (g : Str), H dd = some (.xd [("message", .str g), ("place", .int p)]) → H t = some (.tup [.str (TX.txt p g)]) → R D σ H)) :=
  ⟨fun pins s σ H D I ⟨⟨p, g, h1, h2⟩, q⟩ => h.run pins s σ H D I (q p g h1 h2)⟩
end
/-- what an except suite asks of the class C, an own one over FrameError at F -/
structure TXX (K : PySem.W.Frag) (mg : Str → Option Value) (C F : Addr) : Prop where
  ex : L2.ExcC K C
  xf : L2.XfC K C
  gF : mg "FrameError" = some (.ref F)
  kit : PySem.W.kitOne K (.ref C) (.ref F) = some true
  exm : PySem.W.exmOne K (.ref C) (.ref C) = some true

theorem LexR.bad_at {p : Nat} {l : List Nat} {e : Option Nat} {ts : List Tk} (h : LexR p l e ts) : ∀ q, e = some q → q < p + l.length := by
  induction h with
  | nil => intro q h; cases h
  | bad => intro q h; cases h; simp
  | @num p c r e ts h t ih =>
    intro q hq
    have h2 := run_le (c :: r)
    have := ih q hq
    rw [List.length_drop] at this
    omega
  | sg h t ih =>
    intro q hq
    have := ih q hq
    rw [List.length_cons]
    omega
  | bl h t ih =>
    intro q hq
    have := ih q hq
    rw [List.length_cons]
    omega
theorem evens_get {α : Type} {xs : List α} {i : Nat} {x : α} (h : (evens xs)[i]? = some x) : x ∈ xs := evens_sub xs x (List.mem_of_getElem? h)
theorem due_small {l : List Nat} {e : Option Nat} {ts : List Tk} {as : List At} {p : Nat} {g : Str} (h : LexR 0 l e ts) (hl : l.length < 5000) (hd : dueP e ts as l.length = some (p, g)) : p < 5000 ∧ g.length ≤ 100 := by
  have hp : ∀ t ∈ ts, t.1 < 5000 := fun t ht => by
    have := h.places t ht
    omega
  have key : ∀ (o : Option Tk) (m : Str), (∀ t, o = some t → t ∈ ts) → m.length ≤ 100 → (o.map fun t => (t.1, m)) = some (p, g) → p < 5000 ∧ g.length ≤ 100 := by
    intro o m ho hm e
    cases o with
    | none => cases e
    | some t =>
      have e := Option.some.inj e
      obtain ⟨rfl, rfl⟩ := Prod.mk.inj e
      exact ⟨hp t (ho t rfl), hm⟩
  unfold dueP at hd
  split at hd
  · rename_i q
    obtain ⟨rfl, rfl⟩ := Prod.mk.inj (Option.some.inj hd)
    have := h.bad_at q rfl
    exact ⟨by omega, by decide⟩
  split at hd
  · split at hd
    · rename_i t ht
      obtain ⟨rfl, rfl⟩ := Prod.mk.inj (Option.some.inj hd)
      exact ⟨hp t (List.mem_of_getElem? ht), by decide⟩
    · obtain ⟨rfl, rfl⟩ := Prod.mk.inj (Option.some.inj hd)
      exact ⟨hl, by decide⟩
  split at hd
  · exact key _ "out of range" (fun t ht => (List.mem_filter.mp (List.mem_of_getElem? ht)).1) (by decide) hd
  split at hd
  · exact key _ "number twice" (fun t ht => (List.mem_filter.mp (evens_get ht)).1) (by decide) hd
  split at hd
  · exact key _ "too many boxes" (fun t ht => List.mem_of_getElem? ht) (by decide) hd
  split at hd
  · exact key _ "too deep" (fun t ht => List.mem_of_getElem? ht) (by decide) hd
  · cases hd
end AF
namespace AF
open PySem PySem.Spec PyProof.Rows L2
section
variable {K : PySem.W.Frag} {C FE N NF : Addr} {nm q nmF qF name : Str} {bs bsF sub subF r : List Value} {sn snF : List Str} {ab abF : Bool} {col colF : Option Bool} {dd ddF : Option Addr} {m0 m1 m2 m3 m5 n0 n1 n2 n3 n5 : Option Value} {mk mkF : String} {v : Option Value}
theorem ini_of (hC : K.lookup C = some (excClassObj nm q C N bs (.ref FE :: r) true sn sub ab col dd m0 m1 m2 m3 m5 mk)) (hF : K.lookup FE = some (excClassObj nmF qF FE NF bsF r true snF subF abF colF ddF n0 n1 n2 n3 n5 mkF))
    (hf : PySem.W.findIn K (.ref FE) name = some v) : PySem.W.ks_superIn K C C name = some v := by
  have hcl : PySem.W.clsIn K C = some { name := nm, bases := bs, mro := .ref C :: .ref FE :: r, ns := N, qualname := q, hasDict := true, slotNames := sn, subclasses := sub, abstract := ab, collection := col, hasDel := false } := by
    unfold PySem.W.clsIn
    rw [hC] <;> rfl
  unfold PySem.W.ks_superIn
  rw [hcl]
  have e : ((Value.ref C :: .ref FE :: r).dropWhile (· != .ref C)).drop 1 = .ref FE :: r := by
    rw [List.dropWhile_cons, if_neg (by simp)]
    rfl
  show PySem.W.alongIn K name (((Value.ref C :: .ref FE :: r).dropWhile (· != .ref C)).drop 1) = some v
  rw [e]
  unfold PySem.W.findIn at hf
  simp only [hF, excClassObj] at hf
  exact hf
theorem kitC_of {S D : Addr} (h2 : PySem.W.isClsIn K D = true) (h3 : PySem.W.typeIn K (.ref D) = some (.type "type")) (h4 : PySem.W.subIn K (.ref S) (.ref D) = some true) : PySem.W.kitCls K (.ref S) (.ref D) = some true := by
  have e2 : ((PySem.W.clsIn K D).isSome && PySem.W.typeIn K (.ref D) == some (.type "type")) = true := by
    have h2' : (PySem.W.clsIn K D).isSome = true := h2
    rw [h2', h3] <;> rfl
  show (if ((PySem.W.clsIn K D).isSome && PySem.W.typeIn K (.ref D) == some (.type "type")) = true then PySem.W.subIn K (.ref S) (.ref D) else none) = some true
  rw [if_pos e2]
  exact h4
theorem kit_of {S D : Addr} (h2 : PySem.W.isClsIn K D = true) (h3 : PySem.W.typeIn K (.ref D) = some (.type "type")) (h4 : PySem.W.subIn K (.ref S) (.ref D) = some true) : PySem.W.kitOne K (.ref S) (.ref D) = some true := by
  unfold PySem.W.kitOne
  split
  · rfl
  · exact kitC_of h2 h3 h4
theorem exm_of {S : Addr} (h1 : PySem.W.subIn K (.ref S) (.type "BaseException") = some true) (h2 : PySem.W.isClsIn K S = true) (h3 : PySem.W.typeIn K (.ref S) = some (.type "type")) (h4 : PySem.W.subIn K (.ref S) (.ref S) = some true) :
    PySem.W.exmOne K (.ref S) (.ref S) = some true := by
  have e1 : (PySem.W.subIn K (.ref S) (.type "BaseException") == some true) = true := by rw [h1] <;> rfl
  show (if (PySem.W.subIn K (.ref S) (.type "BaseException") == some true) = true then PySem.W.kitCls K (.ref S) (.ref S) else none) = some true
  rw [if_pos e1]
  exact kitC_of h2 h3 h4
end
end AF
namespace K03
open PySem PySem.Spec PyProof.Rows L2
def topS (i : Nat) : Stmt := PySem.Challenge.pw_asyncframes_k03_errors_of_documents.main.body.getD i (.Pass ⟨0, 0, 0, 0⟩)
abbrev s_is_number : Stmt := topS 7
abbrev s_is_height : Stmt := topS 8
abbrev s_parse_document : Stmt := topS 18
abbrev s_tokens_of : Stmt := topS 19
abbrev s_end_of_number : Stmt := topS 20
abbrev s_kind_of : Stmt := topS 21
abbrev s_check_order : Stmt := topS 22
abbrev s_value_of : Stmt := topS 23
abbrev s_check_values : Stmt := topS 24
abbrev s_check_twice : Stmt := topS 25
abbrev s_check_limits : Stmt := topS 26
abbrev s_built : Stmt := topS 27
abbrev s_law_draw : Stmt := topS 29
abbrev s_law_next : Stmt := topS 30
abbrev s_law_same : Stmt := topS 31
abbrev s_law_box : Stmt := topS 32
abbrev s_law_document : Stmt := topS 33
abbrev s_law_all : Stmt := topS 34
abbrev s_law_length : Stmt := topS 35
abbrev s_law_range : Stmt := topS 36
abbrev s_law_offsets : Stmt := topS 37
abbrev s_law_named : Stmt := topS 38
abbrev s_law_print : Stmt := topS 39
abbrev s_law_tokens : Stmt := topS 40
abbrev s_law_changed : Stmt := topS 41
abbrev s_law_text : Stmt := topS 42
abbrev s_law_wrong_at : Stmt := topS 43
abbrev s_law_due : Stmt := topS 44
abbrev s_law_told : Stmt := topS 45
abbrev s_law_large : Stmt := topS 46
abbrev s_law : Stmt := topS 47
theorem sc_is_number : FnScope ["value"] ["value"] (defScope s_is_number) :=
  ⟨rfl, rfl, rfl, by decide +kernel, rfl, by decide +kernel, by decide +kernel⟩
theorem sc_is_height : FnScope ["value"] ["value"] (defScope s_is_height) :=
  ⟨rfl, rfl, rfl, by decide +kernel, rfl, by decide +kernel, by decide +kernel⟩
theorem sc_parse_document : FnScope ["text", "tokens", "numbers", "token", "_", "word"] ["text"] (defScope s_parse_document) :=
  ⟨rfl, rfl, rfl, by decide +kernel, rfl, by decide +kernel, by decide +kernel⟩
theorem sc_tokens_of : FnScope ["text", "tokens", "place", "sign", "behind"] ["text"] (defScope s_tokens_of) :=
  ⟨rfl, rfl, rfl, by decide +kernel, rfl, by decide +kernel, by decide +kernel⟩
theorem sc_end_of_number : FnScope ["text", "place"] ["text", "place"] (defScope s_end_of_number) :=
  ⟨rfl, rfl, rfl, by decide +kernel, rfl, by decide +kernel, by decide +kernel⟩
theorem sc_kind_of : FnScope ["word"] ["word"] (defScope s_kind_of) :=
  ⟨rfl, rfl, rfl, by decide +kernel, rfl, by decide +kernel, by decide +kernel⟩
theorem sc_check_order : FnScope ["tokens", "end", "needed", "place", "word", "kind", "wanted"] ["tokens", "end"] (defScope s_check_order) :=
  ⟨rfl, rfl, rfl, by decide +kernel, rfl, by decide +kernel, by decide +kernel⟩
theorem sc_value_of : FnScope ["word"] ["word"] (defScope s_value_of) :=
  ⟨rfl, rfl, rfl, by decide +kernel, rfl, by decide +kernel, by decide +kernel⟩
theorem sc_check_values : FnScope ["numbers", "at", "is_good", "place", "word"] ["numbers"] (defScope s_check_values) :=
  ⟨rfl, rfl, rfl, by decide +kernel, rfl, by decide +kernel, by decide +kernel⟩
theorem sc_check_twice : FnScope ["numbers", "seen", "place", "word"] ["numbers"] (defScope s_check_twice) :=
  ⟨rfl, rfl, rfl, by decide +kernel, rfl, by decide +kernel, by decide +kernel⟩
theorem sc_check_limits : FnScope ["tokens", "first_place", "boxes", "level", "deepest", "_", "word"] ["tokens"] (defScope s_check_limits) :=
  ⟨rfl, rfl, rfl, by decide +kernel, rfl, by decide +kernel, by decide +kernel⟩
theorem sc_built : FnScope ["words", "heads", "parts", "at", "word", "scroller", "number", "height"] ["words"] (defScope s_built) :=
  ⟨rfl, rfl, rfl, by decide +kernel, rfl, by decide +kernel, by decide +kernel⟩
theorem sc_law_draw : FnScope ["script"] ["script"] (defScope s_law_draw) :=
  ⟨rfl, rfl, rfl, by decide +kernel, rfl, by decide +kernel, by decide +kernel⟩
theorem sc_law_next : FnScope ["draw", "many", "found", "cell"] ["draw", "many"] (defScope s_law_next) :=
  ⟨rfl, rfl, rfl, by decide +kernel, rfl, by decide +kernel, by decide +kernel⟩
theorem sc_law_same : FnScope ["actual", "due", "k"] ["actual", "due"] (defScope s_law_same) :=
  ⟨rfl, rfl, rfl, by decide +kernel, rfl, by decide +kernel, by decide +kernel⟩
theorem sc_law_box : FnScope ["draw", "last", "depth", "number", "height", "k"] ["draw", "last", "depth"] (defScope s_law_box) :=
  ⟨rfl, rfl, rfl, by decide +kernel, rfl, by decide +kernel, by decide +kernel⟩
theorem sc_law_document : FnScope ["draw", "last", "height", "number", "k"] ["draw"] (defScope s_law_document) :=
  ⟨rfl, rfl, rfl, by decide +kernel, rfl, by decide +kernel, by decide +kernel⟩
theorem sc_law_tokens : FnScope ["box", "head", "part"] ["box"] (defScope s_law_tokens) :=
  ⟨rfl, rfl, rfl, by decide +kernel, rfl, by decide +kernel, by decide +kernel⟩
theorem sc_law_changed : FnScope ["draw", "tokens", "k", "at", "sign", "form"] ["draw", "tokens"] (defScope s_law_changed) :=
  ⟨rfl, rfl, rfl, by decide +kernel, rfl, by decide +kernel, by decide +kernel⟩
theorem sc_law_text : FnScope ["draw", "tokens", "text", "places", "k", "close"] ["draw", "tokens"] (defScope s_law_text) :=
  ⟨rfl, rfl, rfl, by decide +kernel, rfl, by decide +kernel, by decide +kernel⟩
theorem sc_law_wrong_at : FnScope ["tokens", "stack", "state", "k", "token", "digit", "kind"] ["tokens"] (defScope s_law_wrong_at) :=
  ⟨rfl, rfl, rfl, by decide +kernel, rfl, by decide +kernel, by decide +kernel⟩
theorem sc_law_due : FnScope ["text", "tokens", "places", "k", "wrong", "heads", "level", "token", "number", "j"] ["text", "tokens", "places"] (defScope s_law_due) :=
  ⟨rfl, rfl, rfl, by decide +kernel, rfl, by decide +kernel, by decide +kernel⟩
theorem sc_law_told : FnScope ["text", "e"] ["text"] (defScope s_law_told) :=
  ⟨rfl, rfl, rfl, by decide +kernel, rfl, by decide +kernel, by decide +kernel⟩
theorem sc_law_large : FnScope ["draw", "box", "k"] ["draw"] (defScope s_law_large) :=
  ⟨rfl, rfl, rfl, by decide +kernel, rfl, by decide +kernel, by decide +kernel⟩
theorem sc_law : FnScope ["script", "draw", "turn", "document", "tokens", "text", "places"] ["script"] (defScope s_law) :=
  ⟨rfl, rfl, rfl, by decide +kernel, rfl, by decide +kernel, by decide +kernel⟩
/-- what the text's top leaves, as far as the walk asks -/
structure Tx (K : PySem.W.Frag) (mg : Str → Option Value) (w : World) where
  d_is_number : AF.DF K mg "is_number" s_is_number ["value"]
  d_is_height : AF.DF K mg "is_height" s_is_height ["value"]
  d_parse_document : AF.DF K mg "parse_document" s_parse_document ["text"]
  d_tokens_of : AF.DF K mg "tokens_of" s_tokens_of ["text"]
  d_end_of_number : AF.DF K mg "end_of_number" s_end_of_number ["text", "place"]
  d_kind_of : AF.DF K mg "kind_of" s_kind_of ["word"]
  d_check_order : AF.DF K mg "check_order" s_check_order ["tokens", "end"]
  d_value_of : AF.DF K mg "value_of" s_value_of ["word"]
  d_check_values : AF.DF K mg "check_values" s_check_values ["numbers"]
  d_check_twice : AF.DF K mg "check_twice" s_check_twice ["numbers"]
  d_check_limits : AF.DF K mg "check_limits" s_check_limits ["tokens"]
  d_built : AF.DF K mg "built" s_built ["words"]
  d_law_draw : AF.DF K mg "_law_draw" s_law_draw ["script"]
  d_law_next : AF.DF K mg "_law_next" s_law_next ["draw", "many"]
  d_law_same : AF.DF K mg "_law_same" s_law_same ["actual", "due"]
  d_law_box : AF.DF K mg "_law_box" s_law_box ["draw", "last", "depth"]
  d_law_document : AF.DF K mg "_law_document" s_law_document ["draw"]
  d_law_tokens : AF.DF K mg "_law_tokens" s_law_tokens ["box"]
  d_law_changed : AF.DF K mg "_law_changed" s_law_changed ["draw", "tokens"]
  d_law_text : AF.DF K mg "_law_text" s_law_text ["draw", "tokens"]
  d_law_wrong_at : AF.DF K mg "_law_wrong_at" s_law_wrong_at ["tokens"]
  d_law_due : AF.DF K mg "_law_due" s_law_due ["text", "tokens", "places"]
  d_law_told : AF.DF K mg "_law_told" s_law_told ["text"]
  d_law_large : AF.DF K mg "_law_large" s_law_large ["draw"]
  d_law : AF.DF K mg "law" s_law ["script"]
  t_LEAST_NUMBER : Tok
  c_LEAST_NUMBER : mg "LEAST_NUMBER" = some (.int 1 t_LEAST_NUMBER)
  t_GREATEST_NUMBER : Tok
  c_GREATEST_NUMBER : mg "GREATEST_NUMBER" = some (.int 999 t_GREATEST_NUMBER)
  t_LEAST_HEIGHT : Tok
  c_LEAST_HEIGHT : mg "LEAST_HEIGHT" = some (.int 0 t_LEAST_HEIGHT)
  t_GREATEST_HEIGHT : Tok
  c_GREATEST_HEIGHT : mg "GREATEST_HEIGHT" = some (.int 1000 t_GREATEST_HEIGHT)
  t_MOST_BOXES : Tok
  c_MOST_BOXES : mg "MOST_BOXES" = some (.int 40 t_MOST_BOXES)
  t_MOST_SCROLLERS_WITHIN : Tok
  c_MOST_SCROLLERS_WITHIN : mg "MOST_SCROLLERS_WITHIN" = some (.int 4 t_MOST_SCROLLERS_WITHIN)
  t_BLANKS : Tok
  c_BLANKS : mg "BLANKS" = some (.str " \n" t_BLANKS)
  t_SIGNS : Tok
  c_SIGNS : mg "SIGNS" = some (.str "bs:[]" t_SIGNS)
  t_DIGITS : Tok
  c_DIGITS : mg "DIGITS" = some (.str "0123456789" t_DIGITS)
  a_ALLOWED : Addr
  c_ALLOWED : mg "ALLOWED" = some (.ref a_ALLOWED)
  k_ALLOWED : ∃ es n, KDict K w a_ALLOWED es n
  e_ALLOWED_0 : ∃ t : Addr, PySem.W.nsIn K a_ALLOWED "s" = some (some (.ref t)) ∧ ∀ H : Hp, SqT K H t [V.str "s"]
  e_ALLOWED_1 : ∃ t : Addr, PySem.W.nsIn K a_ALLOWED "number" = some (some (.ref t)) ∧ ∀ H : Hp, SqT K H t [V.str "number"]
  e_ALLOWED_2 : ∃ t : Addr, PySem.W.nsIn K a_ALLOWED ":" = some (some (.ref t)) ∧ ∀ H : Hp, SqT K H t [V.str ":"]
  e_ALLOWED_3 : ∃ t : Addr, PySem.W.nsIn K a_ALLOWED "[" = some (some (.ref t)) ∧ ∀ H : Hp, SqT K H t [V.str "["]
  e_ALLOWED_4 : ∃ t : Addr, PySem.W.nsIn K a_ALLOWED "parts" = some (some (.ref t)) ∧ ∀ H : Hp, SqT K H t [V.str "b", V.str "s", V.str "]"]
  a_NEEDED_BEHIND : Addr
  c_NEEDED_BEHIND : mg "NEEDED_BEHIND" = some (.ref a_NEEDED_BEHIND)
  k_NEEDED_BEHIND : ∃ es n, KDict K w a_NEEDED_BEHIND es n
  e_NEEDED_BEHIND_0 : ∃ t : Addr, PySem.W.nsIn K a_NEEDED_BEHIND "b" = some (some (.ref t)) ∧ ∀ H : Hp, SqT K H t [V.str "number", V.str ":", V.str "number"]
  e_NEEDED_BEHIND_1 : ∃ t : Addr, PySem.W.nsIn K a_NEEDED_BEHIND "s" = some (some (.ref t)) ∧ ∀ H : Hp, SqT K H t [V.str "parts", V.str "[", V.str "number", V.str ":", V.str "number"]
  m_NEEDED_BEHIND_num : PySem.W.nsIn K a_NEEDED_BEHIND "number" = some none
  m_NEEDED_BEHIND_col : PySem.W.nsIn K a_NEEDED_BEHIND ":" = some none
  m_NEEDED_BEHIND_opn : PySem.W.nsIn K a_NEEDED_BEHIND "[" = some none
  m_NEEDED_BEHIND_cls : PySem.W.nsIn K a_NEEDED_BEHIND "]" = some none
  z_abs : mg "abs" = none
  z_all : mg "all" = none
  z_bool : mg "bool" = none
  z_enumerate : mg "enumerate" = none
  z_int : mg "int" = none
  z_isinstance : mg "isinstance" = none
  z_len : mg "len" = none
  z_list : mg "list" = none
  z_max : mg "max" = none
  z_range : mg "range" = none
  z_set : mg "set" = none
  z_str : mg "str" = none
  z_sum : mg "sum" = none
  z_tuple : mg "tuple" = none
end K03
namespace K03
open PySem PySem.Spec PyProof.Rows L2
section
variable {P : Program} {w : World} {K : PySem.W.Frag} {mg : Str → Option Value} {base : Heap}
/-! ### boxes.py -/
def spIsS : Sp := fun vs H Q _ => ∃ (v : V) (b : AF.Box), vs = [v] ∧ AF.BoxAt H v b ∧ Q (.bl b.isS) H
def spNum : Sp := fun vs H Q _ => ∃ (v : V) (b : AF.Box), vs = [v] ∧ AF.BoxAt H v b ∧ Q (.int b.num) H
def spHt : Sp := fun vs H Q _ => ∃ (v : V) (b : AF.Box), vs = [v] ∧ AF.BoxAt H v b ∧ Q (.int b.ht) H
def spParts : Sp := fun vs H Q _ => ∃ (v : V) (b : AF.Box), vs = [v] ∧ AF.BoxAt H v b ∧
  ∀ (p : Addr) (ws : List V) (H' : Hp), Same H H' → H' p = some (.tup ws) → AF.BoxesAt H' ws b.parts → Q (.ref p) H'

def spRange (lo hi : Int) : Sp := fun vs H Q _ => ∃ i : Int, vs = [.int i] ∧ ∀ k : Bool, (k = true ↔ lo ≤ i ∧ i ≤ hi) → Q (.bl k) H
theorem ok_is_number (T : Tx K mg w) : FnOk P w K mg base CX0 1 T.d_is_number.f T.d_is_number.fd ["value"] (spRange 1 999) := by
  refine T.d_is_number.F.ok sc_is_number (fun vs H Q E h => ?_) (fun cdv A outer s H vs Q E hr h => ?_)
  · obtain ⟨_, rfl, _⟩ := h
    rfl
  obtain ⟨i, rfl, q⟩ := h
  refine ⟨_, (pss_one (ps_ret (pe_chain op_le op_le (pe_glob (v := .int 1) rfl T.c_LEAST_NUMBER ⟨_, rfl⟩) (pv 0) (pe_glob (v := .int 999) rfl T.c_GREATEST_NUMBER ⟨_, rfl⟩)))), ?_⟩
  refine ⟨.int i, rfl, _, _, rfl, rfl, _, rfl, ?_⟩
  refine ite2 (fun c => ?_) (fun c => ?_)
  · have c' := of_decide_eq_true c
    exact ⟨_, _, rfl, rfl, q _ ⟨fun z => ⟨c', of_decide_eq_true z⟩, fun z => decide_eq_true z.2⟩⟩
  · exact q _ ⟨(fun z => nomatch z), fun z => absurd (decide_eq_true z.1) c⟩
theorem ok_is_height (T : Tx K mg w) : FnOk P w K mg base CX0 1 T.d_is_height.f T.d_is_height.fd ["value"] (spRange 0 1000) := by
  refine T.d_is_height.F.ok sc_is_height (fun vs H Q E h => ?_) (fun cdv A outer s H vs Q E hr h => ?_)
  · obtain ⟨_, rfl, _⟩ := h
    rfl
  obtain ⟨i, rfl, q⟩ := h
  refine ⟨_, (pss_one (ps_ret (pe_chain op_le op_le (pe_glob (v := .int 0) rfl T.c_LEAST_HEIGHT ⟨_, rfl⟩) (pv 0) (pe_glob (v := .int 1000) rfl T.c_GREATEST_HEIGHT ⟨_, rfl⟩)))), ?_⟩
  refine ⟨.int i, rfl, _, _, rfl, rfl, _, rfl, ?_⟩
  refine ite2 (fun c => ?_) (fun c => ?_)
  · have c' := of_decide_eq_true c
    exact ⟨_, _, rfl, rfl, q _ ⟨fun z => ⟨c', of_decide_eq_true z⟩, fun z => decide_eq_true z.2⟩⟩
  · exact q _ ⟨(fun z => nomatch z), fun z => absurd (decide_eq_true z.1) c⟩

end
end K03
namespace K03
open PySem PySem.Spec PyProof.Rows L2
section
variable {P : Program} {w : World} {K : PySem.W.Frag} {mg : Str → Option Value} {base : Heap}
/-! ### texts.py: tokens -/
def spEnd : Sp := fun vs H Q _ => ∃ (l : List Nat) (p : Nat), vs = [.str (AF.S l), .int (p : Int)] ∧ l.length ≤ 100000 ∧ p ≤ l.length ∧ Q (.int ((p + AF.run (l.drop p) : Nat) : Int)) H
theorem ok_end_of_number (T : Tx K mg w) : FnOk P w K mg base CX0 1 T.d_end_of_number.f T.d_end_of_number.fd ["text", "place"] spEnd := by
  refine T.d_end_of_number.F.ok sc_end_of_number (fun vs H Q E h => ?_) (fun cdv A outer s H vs Q E hr h => ?_)
  · obtain ⟨_, _, rfl, _⟩ := h
    rfl
  obtain ⟨l, p, rfl, hl, hp, q⟩ := h
  refine ⟨_, (pss_cons (ps_while PassesOwn.never (PW.pt (pw_and (pt_cmpR op_lt (pv 1) (pe_callB call_len_str (by rfl) T.z_len (by decide +kernel) (pa_cons (pv 0) pa_nil)) (nomark _)) (pw_and1 (pt_cmpR op_in_sign (pe_ix ix_str (pv 0) (pv 1) (fun _ _ => rfl)) (pe_glob (v := .str "0123456789") rfl T.c_DIGITS ⟨_, rfl⟩) (by rfl)))))
      (pss_one (ps_aug (i := 1) sc_end_of_number.nd rfl (Or.inl rfl) pe_int ip_add)))
      (pss_one (ps_ret (pv 1)))), ?_⟩
  have hsz : (AF.S l).length ≤ sizeLine := by
    rw [AF.S_len]
    exact Nat.le_of_lt (AF.roomy hl)
  dsimp only [gName, tSeq]
  refine while_by (Pv := fun σ H3 => ∃ j : Nat, σ = [some (.str (AF.S l)), some (.int (j : Int))] ∧ H3 = H ∧ j ≤ l.length ∧ j + AF.run (l.drop j) = p + AF.run (l.drop p))
    (μ := fun σ _ => match σ with | [_, some (.int j)] => l.length - j.toNat | _ => 0) ?_ ?_ ?_
  · exact ⟨p, rfl, rfl, hp, rfl⟩
  · rintro σ H3 ⟨j, rfl, rfl, hj, hr⟩
    refine ⟨.int (j : Int), rfl, .str (AF.S l), rfl, AF.S l, rfl, hsz, _, _, rfl, rfl, _, rfl, ite2 (fun c => ?_) (fun c => ?_)⟩
    · have hlt : j < l.length := by
        have h1 : (j : Int) < ((AF.S l).length : Int) := of_decide_eq_true c
        rw [AF.S_len] at h1
        omega
      have ed : l.drop j = l[j] :: l.drop (j + 1) := List.drop_eq_getElem_cons hlt
      refine ⟨.str (AF.S l), rfl, .int (j : Int), rfl, AF.S l, _, l[j], rfl, rfl, hsz, atI_nat (List.getElem?_eq_getElem hlt), l[j], _, rfl, rfl, _, rfl, ?_⟩
      rw [ed, AF.run_cons] at hr
      have ei := AF.in_digits l[j]
      cases hd : AF.isD l[j] with
      | true =>
        rw [hd] at ei hr
        refine AF.iteP ei ?_
        refine ⟨_, rfl, _, _, rfl, rfl, ⟨j + 1, rfl, rfl, hlt, ?_⟩, ?_⟩
        · rw [if_pos rfl] at hr
          omega
        · show l.length - ((j : Int) + 1).toNat < l.length - ((j : Int)).toNat
          omega
      | false =>
        rw [hd] at ei hr
        refine AF.iteN (by rw [ei]; exact Bool.false_ne_true) ?_
        refine ⟨_, rfl, ?_⟩
        have e : j = p + AF.run (l.drop p) := by
          rw [if_neg Bool.false_ne_true] at hr
          omega
        rw [e]
        exact q
    · have he : j = l.length := by
        have h1 : ¬ (j : Int) < ((AF.S l).length : Int) := fun z => c (decide_eq_true z)
        rw [AF.S_len] at h1
        omega
      refine iteF ⟨_, rfl, ?_⟩
      have e : j = p + AF.run (l.drop p) := by
        rw [he, List.drop_length, AF.run_nil] at hr
        omega
      rw [e]
      exact q
  · intro σ H3 Q Q' m h
    obtain ⟨v1, e1, v2, e2, z, e3, e4, i, j, e5, e6, k, e7, h⟩ := h
    refine ⟨v1, e1, v2, e2, z, e3, e4, i, j, e5, e6, k, e7, ?_⟩
    cases k with
    | false => exact m _ _ h
    | true =>
      obtain ⟨v3, e8, v4, e9, z2, i2, c2, e10, e11, e12, e13, c3, z3, e14, e15, k2, e16, h⟩ := h
      exact ⟨v3, e8, v4, e9, z2, i2, c2, e10, e11, e12, e13, c3, z3, e14, e15, k2, e16, m _ _ h⟩
def spTokens : Sp := fun vs H Q _ => ∃ (l : List Nat) (ts : List AF.Tk), vs = [.str (AF.S l)] ∧ l.length ≤ 100000 ∧ AF.Lex 0 l ts ∧
  ∀ (a : Addr) (us : List V) (H' : Hp), Same H H' → H a = none → H' a = some (.lst us) → AF.TksAt H' us ts → Q (.ref a) H'
def spKind : Sp := fun vs H Q _ => ∃ (a : AF.At) (l : List Nat), vs = [.str (AF.S l)] ∧ AF.Wd a l ∧ Q (.str a.kd) H
theorem ok_kind_of (T : Tx K mg w) : FnOk P w K mg base CX0 1 T.d_kind_of.f T.d_kind_of.fd ["word"] spKind := by
  refine T.d_kind_of.F.ok sc_kind_of (fun vs H Q E h => ?_) (fun cdv A outer s H vs Q E hr h => ?_)
  · obtain ⟨_, _, rfl, _⟩ := h
    rfl
  obtain ⟨a, l, rfl, hw, q⟩ := h
  refine ⟨_, (pss_cons (ps_if (pt_cmpR op_in_sign (pe_ix ix_str (pv 0) pe_int (fun _ _ => rfl)) (pe_glob (v := .str "0123456789") rfl T.c_DIGITS ⟨_, rfl⟩) (by rfl))
      (pss_one (ps_ret pe_str))
      pss_nil)
      (pss_one (ps_ret (pv 0)))), ?_⟩
  obtain ⟨c, r, rfl, h1, h2⟩ := hw.first
  have hsz : (AF.S (c :: r)).length ≤ sizeLine := by
    rw [AF.S_len]
    have := hw.len
    exact Nat.le_of_lt (AF.roomy (by omega))
  refine ⟨_, rfl, AF.S (c :: r), 0, c, rfl, rfl, hsz, atI_nat (j := 0) rfl, c, _, rfl, rfl, _, rfl, ?_⟩
  have ei := AF.in_digits c
  rw [h1] at ei
  cases ha : a.isN with
  | true =>
    rw [ha] at ei
    refine AF.iteP ei ?_
    cases a with
    | n k => exact q
    | _ => cases ha
  | false =>
    rw [ha] at ei
    refine AF.iteN (by rw [ei]; exact Bool.false_ne_true) ?_
    refine ⟨_, rfl, ?_⟩
    obtain ⟨h3, h4⟩ := h2 ha
    subst h3 h4
    cases a with
    | n k => cases ha
    | b => exact q
    | s => exact q
    | c => exact q
    | o => exact q
    | e => exact q

end
end K03
namespace K03
open PySem PySem.Spec PyProof.Rows L2
section
variable {P : Program} {w : World} {K : PySem.W.Frag} {mg : Str → Option Value} {base : Heap}
/-! ### texts.py: order -/
def spVal : Sp := fun vs H Q _ => ∃ (n : Nat) (l : List Nat), vs = [.str (AF.S l)] ∧ AF.Wd (.n n) l ∧ Q (.int (n : Int)) H
theorem ok_value_of (T : Tx K mg w) : FnOk P w K mg base CX0 1 T.d_value_of.f T.d_value_of.fd ["word"] spVal := by
  refine T.d_value_of.F.ok sc_value_of (fun vs H Q E h => ?_) (fun cdv A outer s H vs Q E hr h => ?_)
  · obtain ⟨_, _, rfl, _⟩ := h
    rfl
  obtain ⟨n, l, rfl, hw, q⟩ := h
  refine ⟨_, (pss_one (ps_ret (pe_callTy call_int_str (by rfl) T.z_int (by decide +kernel) (pa_cons (pe_orT (pe_slice sl_str (pe_bm PySem.F.plainAttrs_str PySem.F.slot_str_lstrip PySem.F.type_str_lstrip mt_lstripChars (pv 0) (pa_cons pe_str pa_nil)) po_none (po_some pe_int)) (pe_one pe_str)) pa_nil)))), ?_⟩
  have hsz : (AF.S l).length ≤ sizeLine := by
    rw [AF.S_len]
    have := hw.len
    exact Nat.le_of_lt (AF.roomy (by omega))
  obtain ⟨hn, z, hz, rfl⟩ := hw
  have h4 := AF.dg_len hn
  have hb : (AF.bare n).length ≤ 5 := by
    unfold AF.bare
    split
    · exact Nat.zero_le _
    · omega
  have e0 : PySem.Txt.lstripChars (AF.S (List.replicate z 48 ++ AF.dg n)) "0" = AF.S (AF.bare n) := by
    rw [AF.lstrip0, AF.bare_drop hn]
  have hs2 : (AF.S (AF.bare n)).length ≤ sizeLine := by
    rw [AF.S_len]
    exact Nat.le_of_lt (AF.roomy (by omega))
  refine ⟨_, rfl, rfl, _, _, rfl, rfl, hsz, ?_⟩
  rw [e0]
  refine ⟨5, rfl, _, rfl, hs2, ?_⟩
  rw [AF.cut5 hb]
  refine ⟨_, ⟨hs2, rfl⟩, ?_⟩
  by_cases h0 : n = 0
  · subst h0
    refine AF.iteN (by decide) ?_
    exact ⟨_, 0, rfl, by decide +kernel, by decide, q⟩
  · have eb : AF.bare n = AF.dg n := if_neg h0
    have hp := AF.dg_pos hn
    rw [eb] at hs2 ⊢
    refine AF.iteP ?_ ?_
    · rw [AF.S_len]
      simp only [bne_iff_ne, ne_eq]
      omega
    · exact ⟨_, _, rfl, AF.reads hn, by rw [AF.S_len]; omega, q⟩

end
end K03
namespace K03
open PySem PySem.Spec PyProof.Rows L2
section
variable {P : Program} {w : World} {K : PySem.W.Frag} {mg : Str → Option Value} {base : Heap}
def spTokensE (C : Addr) : Sp := fun vs H Q E => ∃ (l : List Nat) (e : Option Nat) (ts : List AF.Tk), vs = [.str (AF.S l)] ∧ l.length < 5000 ∧ AF.LexR 0 l e ts ∧ (∀ p, e = some p → AF.ErrAt C p "unknown character" E H) ∧
  (e = none → ∀ (a : Addr) (us : List V) (H' : Hp), Same H H' → H a = none → H' a = some (.lst us) → AF.TksAt H' us ts → Q (.ref a) H')
theorem okE_tokens_of (T : Tx K mg w) {C fI : Addr} {file : Str} (TT : AF.TX.TxtC K mg C fI file) (PG : AF.TX.Pg P file) : FnOk P w K mg base (AF.CXd P w) 4 T.d_tokens_of.f T.d_tokens_of.fd ["text"] (spTokensE C) := by
  have G_end_of_number := ok_end_of_number (P := P) (w := w) (base := base) T
  refine AF.okD T.d_tokens_of.F sc_tokens_of (fun vs H Q E h => ?_) (fun cdv A outer s H vs Q E hr h => ?_)
  · obtain ⟨_, _, _, rfl, _⟩ := h
    rfl
  obtain ⟨l, e, ts, rfl, hl5, hx, er, q⟩ := h
  have hl : l.length ≤ 100000 := by omega
  refine ⟨_, (pss_cons (ps_set (i := 1) sc_tokens_of.nd rfl (Or.inl rfl) (pe_lst pa_nil))
      (pss_cons (ps_set (i := 2) sc_tokens_of.nd rfl (Or.inl rfl) pe_int)
      (pss_cons (ps_while PassesOwn.leaving (pt_cmpR op_lt (pv 2) (pe_callB call_len_str (by rfl) T.z_len (by decide +kernel) (pa_cons (pv 0) pa_nil)) (nomark _))
      (pss_cons (ps_set (i := 3) sc_tokens_of.nd rfl (Or.inl rfl) (pe_ix ix_str (pv 0) (pv 2) (fun _ _ => rfl)))
      (pss_cons (ps_set (i := 4) sc_tokens_of.nd rfl (Or.inl rfl) (pe_op op_add (pv 2) pe_int))
      (Evl.pss_cut (ps_if (pt_cmpR op_in_sign (pv 3) (pe_glob (v := .str "0123456789") rfl T.c_DIGITS ⟨_, rfl⟩) (by rfl))
      (pss_one (ps_set (i := 4) sc_tokens_of.nd rfl (Or.inl rfl) (AF.cal T.d_end_of_number G_end_of_number (hr.mono (by omega)) (pa_cons (pv 0) (pa_cons (pv 2) pa_nil)))))
      pss_nil)
      (pss_cons (ps_if (PW.pt (pw_or (pt_cmpR op_in_sign (pv 3) (pe_glob (v := .str "0123456789") rfl T.c_DIGITS ⟨_, rfl⟩) (by rfl)) (pw_or1 (pt_cmpR op_in_sign (pv 3) (pe_glob (v := .str "bs:[]") rfl T.c_SIGNS ⟨_, rfl⟩) (by rfl)))))
      (pss_one (ps_expr (pe_bm PySem.F.plainAttrs_list PySem.F.slot_list_append PySem.F.type_list_append mt_append (pv 1) (pa_cons (pe_tup (pa_cons (pv 2) (pa_cons (pe_slice sl_str (pv 0) (po_some (pv 2)) (po_some (pv 4))) pa_nil))) pa_nil))))
      (pss_one (ps_if (pt_cmpR op_notIn_sign (pv 3) (pe_glob (v := .str " \n") rfl T.c_BLANKS ⟨_, rfl⟩) (by rfl))
      (pss_one (AF.ps_rt TT PG (hr.mono (by omega)) rfl AF.tkD (by rfl) (pa_cons (pv 2) (pa_cons pe_str pa_nil))))
      pss_nil)))
      (pss_one (ps_set (i := 2) sc_tokens_of.nd rfl (Or.inl rfl) (pv 4))))))))
      (pss_one (ps_ret (pv 1)))))), ?_⟩
  have hsz : (AF.S l).length ≤ sizeLine := by
    rw [AF.S_len]
    exact Nat.le_of_lt (AF.roomy hl)
  refine ⟨Nat.zero_le _, fun a na => ?_⟩
  dsimp only [gName, tSeq]
  refine while_by (Pv := fun σ H3 => ∃ (j : Nat) (x y : Option V) (done todo : List AF.Tk) (us : List V), σ = [some (.str (AF.S l)), some (.ref a), some (.int (j : Int)), x, y] ∧ Same H H3 ∧ H3 a = some (.lst us) ∧
      AF.TksAt H3 us done ∧ done ++ todo = ts ∧ j ≤ l.length ∧ AF.LexR j (l.drop j) e todo ∧ us.length ≤ j)
    (μ := fun σ _ => match σ with | [_, _, some (.int j), _, _] => l.length - j.toNat | _ => 0) ?_ ?_ ?_
  · exact ⟨0, none, none, [], ts, [], rfl, AF.same_new na _, upd_same, rfl, rfl, Nat.zero_le _, hx, Nat.le_refl _⟩
  · rintro σ H3 ⟨j, x, y, done, todo, us, rfl, sm, ea, tk, hts, hj, lx, hus⟩
    refine ⟨.int (j : Int), rfl, .str (AF.S l), rfl, AF.S l, rfl, hsz, _, _, rfl, rfl, _, rfl, ite2 (fun c => ?_) (fun c => ?_)⟩
    · have hlt : j < l.length := by
        have h1 : (j : Int) < ((AF.S l).length : Int) := of_decide_eq_true c
        rw [AF.S_len] at h1
        omega
      have ed : l.drop j = l[j] :: l.drop (j + 1) := List.drop_eq_getElem_cons hlt
      refine ⟨.str (AF.S l), rfl, .int (j : Int), rfl, AF.S l, _, l[j], rfl, rfl, hsz, atI_nat (List.getElem?_eq_getElem hlt), ?_⟩
      refine ⟨_, rfl, _, _, rfl, rfl, ?_⟩
      have ei := AF.in_digits l[j]
      have eg := AF.in_signs l[j]
      have eb := AF.in_blanks l[j]
      -- the place behind
      refine ⟨fun σ' H' => H' = H3 ∧ σ' = [some (.str (AF.S l)), some (.ref a), some (.int (j : Int)), some (.str ⟨#[l[j]]⟩), some (.int ((if AF.isD l[j] = true then j + AF.run (l.drop j) else j + 1 : Nat) : Int))], ?_, ?_⟩
      · refine ⟨_, rfl, l[j], _, rfl, rfl, _, rfl, ?_⟩
        cases hd : AF.isD l[j] with
        | true =>
          rw [hd] at ei
          refine AF.iteP ei ?_
          exact ⟨_, rfl, _, rfl, l, j, rfl, hl, Nat.le_of_lt hlt, rfl, rfl⟩
        | false =>
          rw [hd] at ei
          refine AF.iteN (by rw [ei]; exact Bool.false_ne_true) ?_
          exact ⟨rfl, rfl⟩
      · rintro σ' H' ⟨rfl, rfl⟩
        rw [ed] at lx
        -- a token: its place, its word
        have tok : ∀ (m : Nat) (t2 : List AF.Tk), j < m → m ≤ l.length → todo = (j, (l.drop j).take (m - j)) :: t2 → AF.LexR m (l.drop m) e t2 → ∀ d : Addr, H' d = none →
            ∃ (us' : List V), AF.TksAt (upd (upd H' d (.tup [.int (j : Int), .str (cutS (AF.S l) (some (j : Int)) (some (m : Int)))])) a (.lst us')) us' (done ++ [(j, (l.drop j).take (m - j))]) ∧ us' = us ++ [.ref d] ∧
              Same H (upd (upd H' d (.tup [.int (j : Int), .str (cutS (AF.S l) (some (j : Int)) (some (m : Int)))])) a (.lst us')) ∧ (done ++ [(j, (l.drop j).take (m - j))]) ++ t2 = ts ∧ us'.length ≤ m := by
          intro m t2 h1 h2 h3 h4 d nd
          have nda : d ≠ a := (ne_of_none ea nd).symm
          have s1 := AF.same_new nd (.tup [.int (j : Int), .str (cutS (AF.S l) (some (j : Int)) (some (m : Int)))])
          have ea1 := s1 _ _ ea
          have k2 := AF.keepT_upd ea1 (.lst (us ++ [.ref d]))
          refine ⟨us ++ [.ref d], AF.TksAt.snoc (a := d) ?_ (AF.TksAt.k ((AF.Same.keepT s1).trans k2) tk), rfl, AF.same_upd (sm.trans s1) na _, ?_, ?_⟩
          · rw [upd_ne nda, upd_same, AF.cut_mid (Nat.le_of_lt h1) h2]
          · rw [← hts, h3, List.append_assoc]
            rfl
          · rw [List.length_append, List.length_singleton]
            omega
        have hroom : us.length < sizeLine := AF.roomy (by omega)
        refine ⟨_, rfl, l[j], _, rfl, rfl, _, rfl, ?_⟩
        cases lx with
        | @num _ _ _ _ t2 hd t =>
          rw [hd] at ei
          have hrun : 1 ≤ AF.run (l[j] :: l.drop (j + 1)) := by
            rw [AF.run_cons, if_pos hd]
            omega
          have hle : j + AF.run (l[j] :: l.drop (j + 1)) ≤ l.length := by
            have := AF.run_le (l[j] :: l.drop (j + 1))
            rw [← ed, List.length_drop] at this
            rw [← ed]
            omega
          rw [← ed] at t hrun hle
          rw [List.drop_drop] at t
          refine AF.iteP ei ?_
          rw [if_pos hd]
          refine ⟨_, rfl, .inl ⟨rfl, _, .of ea⟩, _, rfl, _, rfl, _, rfl, _, rfl, _, rfl, _, rfl, _, rfl, hsz, (by show 2 ≤ sizeLine; decide), fun d nd => ?_⟩
          obtain ⟨us', h1, rfl, h3, h4, h5⟩ := tok (j + AF.run (l.drop j)) t2 (by omega) hle (by rw [ed, Nat.add_sub_cancel_left]) t d nd
          refine ⟨a, us, _, rfl, rfl, AF.same_new nd _ _ _ ea, hroom, ?_⟩
          refine ⟨_, rfl, ⟨j + AF.run (l.drop j), _, _, _, t2, _, rfl, h3, upd_same, h1, h4, hle, t, h5⟩, ?_⟩
          show l.length - (((j + AF.run (l.drop j) : Nat) : Int)).toNat < l.length - ((j : Int)).toNat
          omega
        | @sg _ _ _ _ t2 hg t =>
          have hd : AF.isD l[j] = false := by
            unfold AF.isSg at hg
            unfold AF.isD
            simp only [Bool.or_eq_true, beq_iff_eq] at hg
            rcases hg with (((e | e) | e) | e) | e <;> rw [e] <;> rfl
          rw [hd] at ei
          rw [hg] at eg
          refine AF.iteN (by rw [ei]; exact Bool.false_ne_true) ?_
          refine ⟨_, rfl, l[j], _, rfl, rfl, _, rfl, ?_⟩
          refine AF.iteP eg ?_
          rw [if_neg (by rw [hd]; exact Bool.false_ne_true)]
          refine ⟨_, rfl, .inl ⟨rfl, _, .of ea⟩, _, rfl, _, rfl, _, rfl, _, rfl, _, rfl, _, rfl, _, rfl, hsz, (by show 2 ≤ sizeLine; decide), fun d nd => ?_⟩
          obtain ⟨us', h1, rfl, h3, h4, h5⟩ := tok (j + 1) t2 (by omega) hlt (by rw [ed, Nat.add_sub_cancel_left]; rfl) t d nd
          refine ⟨a, us, _, rfl, rfl, AF.same_new nd _ _ _ ea, hroom, ?_⟩
          refine ⟨_, rfl, ⟨j + 1, _, _, _, t2, _, rfl, h3, upd_same, h1, h4, hlt, t, h5⟩, ?_⟩
          show l.length - (((j + 1 : Nat) : Int)).toNat < l.length - ((j : Int)).toNat
          omega
        | bad h1 h2 h3 =>
          rw [h1] at ei
          rw [h2] at eg
          rw [h3] at eb
          refine AF.iteN (by rw [ei]; exact Bool.false_ne_true) ?_
          refine ⟨_, rfl, l[j], _, rfl, rfl, _, rfl, ?_⟩
          refine AF.iteN (by rw [eg]; exact Bool.false_ne_true) ?_
          refine ⟨_, rfl, l[j], _, rfl, rfl, _, rfl, ?_⟩
          refine AF.iteP (by rw [eb]; rfl) ?_
          exact ⟨_, rfl, AF.rt_ok (σ := []) (er j rfl) sm (by omega) (by decide)⟩
        | bl hb t =>
          have hd : AF.isD l[j] = false ∧ AF.isSg l[j] = false := by
            unfold AF.isBl at hb
            unfold AF.isD AF.isSg
            simp only [Bool.or_eq_true, beq_iff_eq] at hb
            rcases hb with e | e <;> rw [e] <;> exact ⟨rfl, rfl⟩
          rw [hd.1] at ei
          rw [hd.2] at eg
          rw [hb] at eb
          refine AF.iteN (by rw [ei]; exact Bool.false_ne_true) ?_
          refine ⟨_, rfl, l[j], _, rfl, rfl, _, rfl, ?_⟩
          refine AF.iteN (by rw [eg]; exact Bool.false_ne_true) ?_
          rw [if_neg (by rw [hd.1]; exact Bool.false_ne_true)]
          refine ⟨_, rfl, l[j], _, rfl, rfl, _, rfl, ?_⟩
          refine AF.iteN (by rw [eb]; exact Bool.false_ne_true) ?_
          refine ⟨_, rfl, ⟨j + 1, _, _, done, todo, us, rfl, sm, ea, tk, hts, hlt, t, by omega⟩, ?_⟩
          show l.length - (((j + 1 : Nat) : Int)).toNat < l.length - ((j : Int)).toNat
          omega
    · have he : j = l.length := by
        have h1 : ¬ (j : Int) < ((AF.S l).length : Int) := fun z => c (decide_eq_true z)
        rw [AF.S_len] at h1
        omega
      refine ⟨.ref a, rfl, ?_⟩
      rw [he, List.drop_length] at lx
      have e0 : todo = [] ∧ e = none := by
        cases lx
        exact ⟨rfl, rfl⟩
      rw [e0.1, List.append_nil] at hts
      rw [hts] at tk
      exact q e0.2 a us H3 sm na ea tk
  · intro σ H3 Q Q' m h
    obtain ⟨v1, e1, v2, e2, z, e3, e4, i, j, e5, e6, k, e7, h⟩ := h
    exact ⟨v1, e1, v2, e2, z, e3, e4, i, j, e5, e6, k, e7, m _ _ h⟩

end
end K03
namespace K03
open PySem PySem.Spec PyProof.Rows L2
section
variable {P : Program} {w : World} {K : PySem.W.Frag} {mg : Str → Option Value} {base : Heap}
theorem allowed_at (T : Tx K mg w) (t : AF.Nd) : ∃ p : Addr, KDct K w T.a_ALLOWED t.nm (.ref p) ∧ ∀ H : Hp, SqT K H p (t.lets.map V.str) := by
  obtain ⟨es, n, D⟩ := T.k_ALLOWED
  have mk : ∀ (x : Str) (p : Addr), PySem.W.nsIn K T.a_ALLOWED x = some (some (.ref p)) → KDct K w T.a_ALLOWED x (.ref p) := fun x p e => ⟨es, n, _, D.at_, D.lit, e, rfl⟩
  cases t with
  | s =>
    obtain ⟨p, e, q⟩ := T.e_ALLOWED_0
    exact ⟨p, mk _ _ e, q⟩
  | num =>
    obtain ⟨p, e, q⟩ := T.e_ALLOWED_1
    exact ⟨p, mk _ _ e, q⟩
  | col =>
    obtain ⟨p, e, q⟩ := T.e_ALLOWED_2
    exact ⟨p, mk _ _ e, q⟩
  | opn =>
    obtain ⟨p, e, q⟩ := T.e_ALLOWED_3
    exact ⟨p, mk _ _ e, q⟩
  | parts =>
    obtain ⟨p, e, q⟩ := T.e_ALLOWED_4
    exact ⟨p, mk _ _ e, q⟩
theorem behind_at (T : Tx K mg w) (a : AF.At) : (∃ p : Addr, PySem.W.nsIn K T.a_NEEDED_BEHIND a.kd = some (some (.ref p)) ∧ ∀ H : Hp, SqT K H p ((AF.behind a).reverse.map fun t => V.str t.nm)) ∨
    (PySem.W.nsIn K T.a_NEEDED_BEHIND a.kd = some none ∧ AF.behind a = []) := by
  cases a with
  | b => exact .inl T.e_NEEDED_BEHIND_0
  | s => exact .inl T.e_NEEDED_BEHIND_1
  | c => exact .inr ⟨T.m_NEEDED_BEHIND_col, rfl⟩
  | o => exact .inr ⟨T.m_NEEDED_BEHIND_opn, rfl⟩
  | e => exact .inr ⟨T.m_NEEDED_BEHIND_cls, rfl⟩
  | n k => exact .inr ⟨T.m_NEEDED_BEHIND_num, rfl⟩
def needs (st : List AF.Nd) : List V := st.reverse.map fun t => V.str t.nm
theorem needs_cons (t : AF.Nd) (r : List AF.Nd) : needs (t :: r) = needs r ++ [V.str t.nm] := by
  simp [needs]
theorem needs_app (a b : List AF.Nd) : needs (a ++ b) = needs b ++ needs a := by
  simp [needs]
theorem needs_len (a : List AF.Nd) : (needs a).length = a.length := by
  simp [needs]
def spOrder (K : PySem.W.Frag) : Sp := fun vs H Q _ => ∃ (a : Addr) (e : Int) (us : List V) (ts : List AF.Tk) (as : List AF.At), vs = [.ref a, .int e] ∧ H a = some (.lst us) ∧ AF.TksAt H us ts ∧ AF.TW as ts ∧
  AF.ord [.s] as = some [] ∧ as.length ≤ 5000 ∧ ∀ H' : Hp, Same H H' → Q .non H'

end
end K03
namespace K03
open PySem PySem.Spec PyProof.Rows L2
section
variable {P : Program} {w : World} {K : PySem.W.Frag} {mg : Str → Option Value} {base : Heap}
def spOrderE (C : Addr) : Sp := fun vs H Q E => ∃ (a : Addr) (e : Nat) (us : List V) (ts : List AF.Tk) (as : List AF.At), vs = [.ref a, .int (e : Int)] ∧ H a = some (.lst us) ∧ AF.TksAt H us ts ∧ AF.TW as ts ∧
  as.length ≤ 4000 ∧ e < 5000 ∧ (∀ t ∈ ts, t.1 < 5000) ∧ (AF.ordAt [.s] as 0 = none → ∀ H' : Hp, Same H H' → Q .non H') ∧
  ∀ i, AF.ordAt [.s] as 0 = some i → (∀ t, ts[i]? = some t → AF.ErrAt C t.1 "unexpected token" E H) ∧ (i = as.length → AF.ErrAt C e "unexpected end" E H)
theorem okE_check_order (T : Tx K mg w) {C fI : Addr} {file : Str} (TT : AF.TX.TxtC K mg C fI file) (PG : AF.TX.Pg P file) : FnOk P w K mg base (AF.CXd P w) 4 T.d_check_order.f T.d_check_order.fd ["tokens", "end"] (spOrderE C) := by
  have G_kind_of := ok_kind_of (P := P) (w := w) (base := base) T
  refine AF.okD T.d_check_order.F sc_check_order (fun vs H Q E h => ?_) (fun cdv A outer s H vs Q E hr h => ?_)
  · obtain ⟨_, _, _, _, _, rfl, _⟩ := h
    rfl
  obtain ⟨a, e, us, ts, as, rfl, ha, hts, htw, hlen, he5, hpl, q, er⟩ := h
  generalize hR : AF.ordAt [.s] as 0 = R at q er
  refine ⟨_, (pss_cons (ps_set (i := 2) sc_check_order.nd rfl (Or.inl rfl) (pe_lst (pa_cons pe_str pa_nil)))
      (pss_cons (ps_for PassesOwn.leaving rfl (AF.piL K rfl (pv 0)) (AF.pg_tupK (n := 2) K rfl rfl (pgs_cons (pg_name (i := 3) sc_check_order.nd rfl (Or.inl rfl)) (pgs_cons (pg_name (i := 4) sc_check_order.nd rfl (Or.inl rfl)) pgs_nil)))
      (pss_cons (ps_set (i := 5) sc_check_order.nd rfl (Or.inl rfl) (AF.cal T.d_kind_of G_kind_of (hr.mono (by omega)) (pa_cons (pv 4) pa_nil)))
      (pss_cons (ps_if (PW.pt (pw_or (pt_not (AF.truK K rfl (pv 2))) (pw_or1 (pt_cmpR (AF.notInK K rfl) (pv 5) (pe_ix ix_kdict (pe_glob (v := .ref T.a_ALLOWED) rfl T.c_ALLOWED rfl) (pe_ix (AF.ixL K rfl) (pv 2) (pe_un un_neg pe_int) (fun _ _ => rfl)) (fun _ _ => rfl)) (by rfl)))))
      (pss_one (AF.ps_rt TT PG (hr.mono (by omega)) rfl AF.tkD (by rfl) (pa_cons (pv 3) (pa_cons pe_str pa_nil))))
      pss_nil)
      (pss_cons (ps_set (i := 6) sc_check_order.nd rfl (Or.inl rfl) (pe_bm0 PySem.F.plainAttrs_list PySem.F.slot_list_pop PySem.F.type_list_pop mt_pop (pv 2)))
      (Evl.pss_cut (ps_if (PW.pt (pw_and (pt_cmpR op_eq (pv 6) pe_str (nomark _)) (pw_and1 (pt_cmpR op_ne (pv 5) pe_str (nomark _)))))
      (pss_one (ps_expr (pe_bm PySem.F.plainAttrs_list PySem.F.slot_list_append PySem.F.type_list_append mt_append (pv 2) (pa_cons pe_str pa_nil))))
      pss_nil)
      (pss_one (ps_expr (pe_bm PySem.F.plainAttrs_list PySem.F.slot_list_extend PySem.F.type_list_extend (AF.extTK K rfl) (pv 2) (pa_cons (AF.pe_kget2 (pe_glob (v := .ref T.a_NEEDED_BEHIND) rfl T.c_NEEDED_BEHIND rfl) (pv 5) (pe_tup pa_nil) ⟨by rfl, by rfl, by rfl, by rfl⟩) pa_nil)))))))))
      (pss_one (ps_if (AF.truK K rfl (pv 2))
      (pss_one (AF.ps_rt TT PG (hr.mono (by omega)) rfl AF.tkD (by rfl) (pa_cons (pv 1) (pa_cons pe_str pa_nil))))
      pss_nil)))), ?_⟩
  have hl1 := hts.len
  have hl2 := htw.len
  refine ⟨(by show 1 ≤ sizeLine; decide), fun l nl => ?_⟩
  have s0 := AF.same_new nl (.lst [V.str "s"])
  refine ⟨.ref a, rfl, a, rfl, ⟨us, .of (s0 _ _ ha)⟩, ?_⟩
  refine for_list (xs := us) (Pv := fun i σ H3 => ∃ (x3 x4 x5 x6 : Option V) (st : List AF.Nd), σ = [some (.ref a), some (.int (e : Int)), some (.ref l), x3, x4, x5, x6] ∧ Same H H3 ∧ H3 l = some (.lst (needs st)) ∧
      AF.ordAt st (as.drop i) i = R ∧ st.length ≤ 1 + 5 * i) ?_ ?_ ?_ ?_
  · exact ⟨none, none, none, none, [.s], rfl, s0, upd_same, hR, Nat.le_refl _⟩
  · rintro i σ H3 _ ⟨_, _, _, _, _, _, sm, _⟩
    exact .of (sm _ _ ha)
  · rintro i y σ H3 hy ⟨x3, x4, x5, x6, st, rfl, sm, el, ho, hst⟩
    have hi : i < us.length := (List.getElem?_eq_some_iff.mp hy).1
    obtain ⟨t, b, ht, rfl, hb⟩ := (hts.k (AF.Same.keepT sm)).get hy
    obtain ⟨k, hk, hwd⟩ := htw.get ht
    have ed : as.drop i = k :: as.drop (i + 1) := by
      obtain ⟨h1, h2⟩ := List.getElem?_eq_some_iff.mp hk
      rw [← h2]
      exact List.drop_eq_getElem_cons h1
    rw [ed] at ho
    rw [AF.ordAt_cons] at ho
    have bad : AF.stp st k = none → AF.ErrAt C t.1 "unexpected token" E H := fun z => by
      rw [z] at ho
      exact (er i ho.symm).1 t ht
    have ht5 : t.1 < 5000 := hpl t (List.mem_of_getElem? ht)
    cases st with
    | nil =>
      refine ⟨b, [.int (t.1 : Int), .str (AF.S t.2)], rfl, .of hb, rfl, _, _, rfl, _, _, rfl, rfl, ?_⟩
      refine ⟨_, rfl, k, t.2, rfl, hwd, ?_⟩
      refine ⟨.ref l, rfl, false, .inl ⟨[], .of el, rfl⟩, ?_⟩
      exact ⟨_, rfl, AF.rt_ok (σ := []) (bad rfl) sm ht5 (by decide)⟩
    | cons n r =>
    have hstp : AF.stp (n :: r) k = if n.allow k = true then some (AF.behind k ++ (if n.keeps k = true then .parts :: r else r)) else none := rfl
    cases hal : n.allow k with
    | false =>
      rw [needs_cons] at el
      obtain ⟨pA, kdA, sqA⟩ := allowed_at T n
      refine ⟨b, [.int (t.1 : Int), .str (AF.S t.2)], rfl, .of hb, rfl, _, _, rfl, _, _, rfl, rfl, ?_⟩
      refine ⟨_, rfl, k, t.2, rfl, hwd, ?_⟩
      refine ⟨.ref l, rfl, !(needs r ++ [V.str n.nm]).isEmpty, .inl ⟨_, .of el, rfl⟩, ?_⟩
      have he : (needs r ++ [V.str n.nm]).isEmpty = false := by simp
      rw [he]
      refine ⟨_, rfl, _, rfl, 1, rfl, l, _, _, _, rfl, rfl, .of el, atI_last _ _, T.a_ALLOWED, n.nm, .ref pA, rfl, rfl, kdA, pA, _, rfl, .inr (sqA _), rfl, ?_, ?_⟩
      · cases n <;> rfl
      refine ⟨_, rfl, ?_⟩
      refine AF.iteP ?_ ?_
      · show (!inV (V.str k.kd) (n.lets.map V.str)) = true
        rw [AF.allow_in, hal]
        rfl
      rw [hal] at hstp
      exact ⟨_, rfl, AF.rt_ok (σ := []) (bad hstp) sm ht5 (by decide)⟩
    | true =>
    rw [hstp, hal, if_pos rfl] at ho
    have ho : AF.ordAt (AF.behind k ++ (if n.keeps k = true then .parts :: r else r)) (as.drop (i + 1)) (i + 1) = R := ho
    rw [needs_cons] at el
    obtain ⟨pA, kdA, sqA⟩ := allowed_at T n
    refine ⟨b, [.int (t.1 : Int), .str (AF.S t.2)], rfl, .of hb, rfl, _, _, rfl, _, _, rfl, rfl, ?_⟩
    refine ⟨_, rfl, k, t.2, rfl, hwd, ?_⟩
    refine ⟨.ref l, rfl, !(needs r ++ [V.str n.nm]).isEmpty, .inl ⟨_, .of el, rfl⟩, ?_⟩
    have he : (needs r ++ [V.str n.nm]).isEmpty = false := by simp
    rw [he]
    refine ⟨_, rfl, _, rfl, 1, rfl, l, _, _, _, rfl, rfl, .of el, atI_last _ _, T.a_ALLOWED, n.nm, .ref pA, rfl, rfl, kdA, pA, _, rfl, .inr (sqA _), rfl, ?_, ?_⟩
    · cases n <;> rfl
    refine ⟨_, rfl, ?_⟩
    refine AF.iteN ?_ ?_
    · show ¬ (!inV (V.str k.kd) (n.lets.map V.str)) = true
      rw [AF.allow_in, hal]
      exact Bool.false_ne_true
    -- wanted = needed.pop()
    refine ⟨.ref l, rfl, .inl ⟨rfl, _, .of el⟩, l, _, .str n.nm, rfl, rfl, el, by simp, ?_⟩
    have edl : (needs r ++ [V.str n.nm]).dropLast = needs r := by simp
    rw [edl]
    have sm1 : Same H (upd H3 l (.lst (needs r))) := AF.same_upd sm nl _
    refine ⟨fun σ' H' => H' l = some (.lst (needs (if n.keeps k = true then .parts :: r else r))) ∧ Same H H' ∧ σ' = [some (.ref a), some (.int (e : Int)), some (.ref l), some (.int (t.1 : Int)), some (.str (AF.S t.2)), some (.str k.kd), some (.str n.nm)], ?_, ?_⟩
    · refine ⟨_, rfl, rfl, _, rfl, ?_⟩
      by_cases hn : n = .parts
      · subst hn
        refine AF.iteP (decide_eq_true rfl) ?_
        refine ⟨_, rfl, rfl, _, rfl, ?_⟩
        by_cases hk2 : k = .e
        · subst hk2
          refine AF.iteN ?_ ?_
          · show ¬ (!decide (V.str "]" = V.str "]")) = true
            rw [decide_eq_true rfl]
            exact Bool.false_ne_true
          · exact ⟨upd_same, sm1, rfl⟩
        · have hkeep : AF.Nd.keeps .parts k = true := by
            cases k <;> first | rfl | exact absurd rfl hk2
          refine AF.iteP ?_ ?_
          · show (!decide (V.str k.kd = V.str "]")) = true
            have : decide (V.str k.kd = V.str "]") = false := by
              cases k <;> first | exact absurd rfl hk2 | exact decide_eq_false (by intro z; cases z)
            rw [this]
            rfl
          · refine ⟨.ref l, rfl, .inl ⟨rfl, _, .of upd_same⟩, l, _, _, rfl, rfl, upd_same, ?_, ?_⟩
            · rw [needs_len]
              simp only [List.length_cons] at hst
              exact AF.roomy (by omega)
            · refine ⟨?_, AF.same_upd sm1 nl _, rfl⟩
              rw [upd_same, if_pos hkeep, needs_cons]
              rfl
      · have hkeep : n.keeps k = false := by
          cases n <;> first | rfl | exact absurd rfl hn
        refine AF.iteN ?_ ?_
        · have : decide (V.str n.nm = V.str "parts") = false := by
            cases n <;> first | exact absurd rfl hn | exact decide_eq_false (by intro z; cases z)
          show ¬ decide (V.str n.nm = V.str "parts") = true
          rw [this]
          exact Bool.false_ne_true
        · refine ⟨?_, sm1, rfl⟩
          rw [upd_same, hkeep]
          rfl
    · rintro σ' H' ⟨el2, sm2, rfl⟩
      generalize hst2 : (if n.keeps k = true then AF.Nd.parts :: r else r) = st2 at *
      have hlen2 : st2.length ≤ r.length + 1 := by
        rw [← hst2]
        split <;> simp
      have hbl : (AF.behind k).length ≤ 5 := by
        cases k <;> simp [AF.behind]
      simp only [List.length_cons] at hst
      have fin : ∀ H5 : Hp, Same H H5 → H5 l = some (.lst (needs st2)) → ∃ (x3 x4 x5 x6 : Option V) (st : List AF.Nd), [some (.ref a), some (.int (e : Int)), some (.ref l), some (.int (t.1 : Int)), some (.str (AF.S t.2)), some (.str k.kd), some (.str n.nm)] = [some (.ref a), some (.int (e : Int)), some (.ref l), x3, x4, x5, x6] ∧ Same H (upd H5 l (.lst (needs st2 ++ (AF.behind k).reverse.map fun t => V.str t.nm))) ∧
          (upd H5 l (.lst (needs st2 ++ (AF.behind k).reverse.map fun t => V.str t.nm))) l = some (.lst (needs st)) ∧ AF.ordAt st (as.drop (i + 1)) (i + 1) = R ∧ st.length ≤ 1 + 5 * (i + 1) := by
        intro H5 sm5 el5
        refine ⟨_, _, _, _, AF.behind k ++ st2, rfl, AF.same_upd sm5 nl _, ?_, ho, ?_⟩
        · rw [upd_same, needs_app]
          rfl
        · rw [List.length_append]
          omega
      obtain ⟨esN, nN, DN⟩ := T.k_NEEDED_BEHIND
      refine ⟨.ref l, rfl, .inl ⟨rfl, _, .of el2⟩, T.a_NEEDED_BEHIND, esN, nN, rfl, DN, _, rfl, Nat.zero_le _, fun z nz => ?_⟩
      have s5 := AF.same_new nz (.tup ([] : List V))
      have el5 := s5 _ _ el2
      have hsz : (needs st2).length + ((AF.behind k).reverse.map fun t => V.str t.nm).length ≤ sizeLine := by
        rw [needs_len, List.length_map, List.length_reverse]
        exact Nat.le_of_lt (AF.roomy (by omega))
      rcases behind_at T k with ⟨pN, eN, sqN⟩ | ⟨eN, eB⟩
      · refine ⟨k.kd, _, rfl, eN, fun u eu => ?_, fun eu => nomatch eu⟩
        cases eu
        exact ⟨.ref pN, rfl, l, pN, _, _, rfl, rfl, el5, sqN _, hsz, fin _ (sm2.trans s5) el5⟩
      · refine ⟨k.kd, _, rfl, eN, (fun u eu => nomatch eu), fun _ => ?_⟩
        rw [eB] at fin hsz
        exact ⟨l, z, _, [], rfl, rfl, el5, .of upd_same, by simpa using hsz, fin _ (sm2.trans s5) el5⟩
  · rintro σ H3 ⟨x3, x4, x5, x6, st, rfl, sm, el, ho, _⟩
    rw [List.drop_of_length_le (by omega)] at ho
    cases st with
    | nil =>
      refine ⟨.ref l, rfl, false, .inl ⟨[], .of el, rfl⟩, ?_⟩
      exact q ho.symm H3 sm
    | cons n r =>
      rw [needs_cons] at el
      refine ⟨.ref l, rfl, !(needs r ++ [V.str n.nm]).isEmpty, .inl ⟨_, .of el, rfl⟩, ?_⟩
      have he : (needs r ++ [V.str n.nm]).isEmpty = false := by simp
      rw [he]
      exact ⟨_, rfl, AF.rt_ok (σ := []) ((er _ ho.symm).2 (by omega)) sm he5 (by decide)⟩

end
end K03
namespace K03
open PySem PySem.Spec PyProof.Rows L2
section
variable {P : Program} {w : World} {K : PySem.W.Frag} {mg : Str → Option Value} {base : Heap}
/-! ### texts.py: values, limits -/
def spValuesE (C : Addr) : Sp := fun vs H Q E => ∃ (a : Addr) (us : List V) (ts : List AF.Tk) (ns : List Nat), vs = [.ref a] ∧ H a = some (.lst us) ∧ AF.TksAt H us ts ∧ AF.TW (ns.map .n) ts ∧
  (∀ t ∈ ts, t.1 < 5000) ∧ (AF.rngAt ns 0 = none → ∀ H' : Hp, Same H H' → Q .non H') ∧ ∀ i t, AF.rngAt ns 0 = some i → ts[i]? = some t → AF.ErrAt C t.1 "out of range" E H
theorem okE_check_values (T : Tx K mg w) {C fI : Addr} {file : Str} (TT : AF.TX.TxtC K mg C fI file) (PG : AF.TX.Pg P file) : FnOk P w K mg base (AF.CXd P w) 4 T.d_check_values.f T.d_check_values.fd ["numbers"] (spValuesE C) := by
  have G_value_of := ok_value_of (P := P) (w := w) (base := base) T
  have G_is_number := ok_is_number (P := P) (w := w) (base := base) T
  have G_is_height := ok_is_height (P := P) (w := w) (base := base) T
  refine AF.okD T.d_check_values.F sc_check_values (fun vs H Q E h => ?_) (fun cdv A outer s H vs Q E hr h => ?_)
  · obtain ⟨_, _, _, _, rfl, _⟩ := h
    rfl
  obtain ⟨a, us, ts, ns, rfl, ha, hts, htw, hpl, q, er⟩ := h
  generalize hR : AF.rngAt ns 0 = R at q er
  refine ⟨_, (pss_one (ps_for PassesOwn.leaving rfl (pi_enum (by rfl) T.z_enumerate (pa_cons (pv 0) pa_nil)) (AF.pg_tupK (n := 2) K rfl rfl (pgs_cons (pg_name (i := 1) sc_check_values.nd rfl (Or.inl rfl)) (pgs_cons (AF.pg_tupK (n := 2) K rfl rfl (pgs_cons (pg_name (i := 3) sc_check_values.nd rfl (Or.inl rfl)) (pgs_cons (pg_name (i := 4) sc_check_values.nd rfl (Or.inl rfl)) pgs_nil))) pgs_nil)))
      (pss_cons (ps_set (i := 2) sc_check_values.nd rfl (Or.inl rfl) (pe_ifExp (pt_cmpR op_eq (pe_op op_mod (pv 1) pe_int) pe_int (nomark _)) (AF.cal T.d_is_number G_is_number (hr.mono (by omega)) (pa_cons (AF.cal T.d_value_of G_value_of (hr.mono (by omega)) (pa_cons (pv 4) pa_nil)) pa_nil)) (AF.cal T.d_is_height G_is_height (hr.mono (by omega)) (pa_cons (AF.cal T.d_value_of G_value_of (hr.mono (by omega)) (pa_cons (pv 4) pa_nil)) pa_nil))))
      (pss_one (ps_if (pt_not (pt_val (pv 2)))
      (pss_one (AF.ps_rt TT PG (hr.mono (by omega)) rfl AF.tkD (by rfl) (pa_cons (pv 3) (pa_cons pe_str pa_nil))))
      pss_nil))))), ?_⟩
  have hl1 := hts.len
  refine ⟨.ref a, rfl, a, us, rfl, .of ha, ?_⟩
  refine for_it (walk_enum (xs := us)) (Pv := fun i σ H3 => ∃ (x1 x2 x3 x4 : Option V), σ = [some (.ref a), x1, x2, x3, x4] ∧ Same H H3 ∧ AF.rngAt (ns.drop i) i = R) ?_ ?_ ?_ ?_
  · exact ⟨none, none, none, none, rfl, .refl H, hR⟩
  · rintro i σ H3 _ ⟨_, _, _, _, _, sm, _⟩
    exact .of (sm _ _ ha)
  · rintro i y σ H3 H4 hi ⟨x1, x2, x3, x4, rfl, sm, ho⟩ ⟨B, x, z, rfl, nB, rfl, ex, ez⟩
    cases ex
    obtain ⟨t, b, ht, rfl, hb⟩ := (hts.k (AF.Same.keepT sm)).get ez
    obtain ⟨k, hk, hwd⟩ := htw.get ht
    obtain ⟨n, hn, rfl⟩ : ∃ n, ns[i]? = some n ∧ k = .n n := by
      rw [List.getElem?_map] at hk
      cases hq : ns[i]? with
      | none =>
        rw [hq] at hk
        cases hk
      | some n =>
        rw [hq] at hk
        exact ⟨n, rfl, (Option.some.inj hk).symm⟩
    have s4 := AF.same_new nB (.tup [V.int ((i : Nat) : Int), .ref b])
    have hb4 := s4 _ _ hb
    have sm4 := sm.trans s4
    have ed : ns.drop i = n :: ns.drop (i + 1) := by
      obtain ⟨h1, h2⟩ := List.getElem?_eq_some_iff.mp hn
      rw [← h2]
      exact List.drop_eq_getElem_cons h1
    rw [ed] at ho
    have ho : (if AF.good i n = true then AF.rngAt (ns.drop (i + 1)) (i + 1) else some i) = R := ho
    have ht5 : t.1 < 5000 := hpl t (List.mem_of_getElem? ht)
    have bad : AF.good i n = false → AF.ErrAt C t.1 "out of range" E H := fun z => by
      rw [z, if_neg Bool.false_ne_true] at ho
      exact er i t ho.symm ht
    refine ⟨B, _, rfl, .of upd_same, rfl, _, _, rfl, _, _, rfl, ⟨b, [.int (t.1 : Int), .str (AF.S t.2)], rfl, .of hb4, rfl, _, _, rfl, _, _, rfl, rfl, rfl, ?_⟩⟩
    refine ⟨_, rfl, _, _, rfl, rfl, (by show (0 : Int) < 2; decide), rfl, _, rfl, ite2 (fun c => ?_) (fun c => ?_)⟩
    · have he : i % 2 = 0 := by
        have h1 : V.int ((i : Int) % 2) = V.int 0 := of_decide_eq_true c
        have h2 := V.int.inj h1
        omega
      refine ⟨_, rfl, n, t.2, rfl, hwd, (n : Int), rfl, fun g hg => ?_⟩
      have eg : AF.good i n = g := by
        unfold AF.good
        rw [if_pos he, Bool.eq_iff_iff, hg, Bool.and_eq_true, decide_eq_true_eq, decide_eq_true_eq]
        omega
      refine ⟨_, rfl, _, rfl, ?_⟩
      cases g with
      | true =>
        refine iteF ?_
        rw [eg, if_pos rfl] at ho
        exact ⟨_, _, _, _, rfl, sm4, ho⟩
      | false =>
        refine iteT ?_
        exact ⟨_, rfl, AF.rt_ok (σ := []) (bad eg) sm4 ht5 (by decide)⟩
    · have he : ¬ i % 2 = 0 := by
        intro z
        refine c (decide_eq_true (congrArg V.int ?_))
        omega
      refine ⟨_, rfl, n, t.2, rfl, hwd, (n : Int), rfl, fun g hg => ?_⟩
      have eg : AF.good i n = g := by
        unfold AF.good
        rw [if_neg he, Bool.eq_iff_iff, hg, decide_eq_true_eq]
        omega
      refine ⟨_, rfl, _, rfl, ?_⟩
      cases g with
      | true =>
        refine iteF ?_
        rw [eg, if_pos rfl] at ho
        exact ⟨_, _, _, _, rfl, sm4, ho⟩
      | false =>
        refine iteT ?_
        exact ⟨_, rfl, AF.rt_ok (σ := []) (bad eg) sm4 ht5 (by decide)⟩
  · rintro σ H3 ⟨x1, x2, x3, x4, rfl, sm, ho⟩
    have hl2 := htw.len
    rw [List.length_map] at hl2
    rw [List.drop_of_length_le (by omega)] at ho
    exact q ho.symm H3 sm
def spTwiceE (C : Addr) : Sp := fun vs H Q E => ∃ (a : Addr) (us : List V) (ts : List AF.Tk) (ns : List Nat), vs = [.ref a] ∧ H a = some (.lst us) ∧ AF.TksAt H us ts ∧ AF.TW (ns.map .n) ts ∧
  ns.length ≤ 4000 ∧ (∀ t ∈ ts, t.1 < 5000) ∧ (AF.twAt [] ns 0 = none → ∀ H' : Hp, Same H H' → Q .non H') ∧ ∀ i t, AF.twAt [] ns 0 = some i → ts[i]? = some t → AF.ErrAt C t.1 "number twice" E H
theorem okE_check_twice (T : Tx K mg w) {C fI : Addr} {file : Str} (TT : AF.TX.TxtC K mg C fI file) (PG : AF.TX.Pg P file) : FnOk P w K mg base (AF.CXd P w) 4 T.d_check_twice.f T.d_check_twice.fd ["numbers"] (spTwiceE C) := by
  have G_value_of := ok_value_of (P := P) (w := w) (base := base) T
  refine AF.okD T.d_check_twice.F sc_check_twice (fun vs H Q E h => ?_) (fun cdv A outer s H vs Q E hr h => ?_)
  · obtain ⟨_, _, _, _, rfl, _⟩ := h
    rfl
  obtain ⟨a, us, ts, ns, rfl, ha, hts, htw, hlen, hpl, q, er⟩ := h
  generalize hR : AF.twAt [] ns 0 = R at q er
  refine ⟨_, (pss_cons (ps_set (i := 1) sc_check_twice.nd rfl (Or.inl rfl) (pe_callTy0 cr_set0 (by rfl) T.z_set (by decide +kernel)))
      (pss_one (ps_for PassesOwn.leaving rfl (AF.piL K rfl (pv 0)) (AF.pg_tupK (n := 2) K rfl rfl (pgs_cons (pg_name (i := 2) sc_check_twice.nd rfl (Or.inl rfl)) (pgs_cons (pg_name (i := 3) sc_check_twice.nd rfl (Or.inl rfl)) pgs_nil)))
      (pss_cons (ps_if (pt_cmpR or_sin (AF.cal T.d_value_of G_value_of (hr.mono (by omega)) (pa_cons (pv 3) pa_nil)) (pv 1) (by rfl))
      (pss_one (AF.ps_rt TT PG (hr.mono (by omega)) rfl AF.tkD (by rfl) (pa_cons (pv 2) (pa_cons pe_str pa_nil))))
      pss_nil)
      (pss_one (ps_expr (pe_sadd (pv 1) (pa_cons (AF.cal T.d_value_of G_value_of (hr.mono (by omega)) (pa_cons (pv 3) pa_nil)) pa_nil)))))))), ?_⟩
  have hl1 := hts.len
  have hl2 := htw.len
  rw [List.length_map] at hl2
  refine ⟨rfl, fun d nd => ?_⟩
  have s0 := AF.same_new nd (SetO w d (fun _ => false) 0)
  refine ⟨.ref a, rfl, a, rfl, ⟨us, .of (s0 _ _ ha)⟩, ?_⟩
  refine for_list (xs := us) (Pv := fun i σ H3 => ∃ (x2 x3 : Option V) (F : Int → Bool) (m : Nat) (seen : List Nat), σ = [some (.ref a), some (.ref d), x2, x3] ∧ Same H H3 ∧ H3 d = some (SetO w d F m) ∧ m ≤ i ∧ (∀ j : Int, F j = true ↔ ∃ n ∈ seen, (n : Int) = j) ∧ AF.twAt seen (ns.drop i) i = R) ?_ ?_ ?_ ?_
  · exact ⟨none, none, _, 0, [], rfl, s0, upd_same, Nat.le_refl _, fun j => by simp, hR⟩
  · rintro i σ H3 _ ⟨_, _, _, _, _, _, sm, _⟩
    exact .of (sm _ _ ha)
  · rintro i y σ H3 hy ⟨x2, x3, F, m, seen, rfl, sm, ed, hm, hF, ho⟩
    have hi : i < us.length := (List.getElem?_eq_some_iff.mp hy).1
    obtain ⟨t, b, ht, rfl, hb⟩ := (hts.k (AF.Same.keepT sm)).get hy
    obtain ⟨k, hk, hwd⟩ := htw.get ht
    obtain ⟨n, hn, rfl⟩ : ∃ n, ns[i]? = some n ∧ k = .n n := by
      rw [List.getElem?_map] at hk
      cases hq : ns[i]? with
      | none =>
        rw [hq] at hk
        cases hk
      | some n =>
        rw [hq] at hk
        exact ⟨n, rfl, (Option.some.inj hk).symm⟩
    have edr : ns.drop i = n :: ns.drop (i + 1) := by
      obtain ⟨h1, h2⟩ := List.getElem?_eq_some_iff.mp hn
      rw [← h2]
      exact List.drop_eq_getElem_cons h1
    rw [edr] at ho
    have ho : (if n ∈ seen then some i else AF.twAt (n :: seen) (ns.drop (i + 1)) (i + 1)) = R := ho
    have ht5 : t.1 < 5000 := hpl t (List.mem_of_getElem? ht)
    have hmem : F (n : Int) = true ↔ n ∈ seen := by
      rw [hF]
      constructor
      · rintro ⟨n', h1, h2⟩
        have e : n' = n := by omega
        exact e ▸ h1
      · exact fun h1 => ⟨n, h1, rfl⟩
    refine ⟨b, [.int (t.1 : Int), .str (AF.S t.2)], rfl, .of hb, rfl, _, _, rfl, _, _, rfl, rfl, ?_⟩
    refine ⟨_, rfl, n, t.2, rfl, hwd, .ref d, rfl, (n : Int), d, F, m, rfl, rfl, ed, _, rfl, ?_⟩
    cases hnew : F (n : Int) with
    | true =>
      refine iteT ?_
      rw [if_pos (hmem.mp hnew)] at ho
      exact ⟨_, rfl, AF.rt_ok (σ := []) (er i t ho.symm ht) sm ht5 (by decide)⟩
    | false =>
    have hni : ¬ n ∈ seen := fun z => by
      rw [hmem.mpr z] at hnew
      cases hnew
    rw [if_neg hni] at ho
    refine iteF ?_
    refine ⟨.ref d, rfl, ⟨d, F, m, rfl, ed⟩, _, rfl, n, t.2, rfl, hwd, d, (n : Int), F, m, rfl, rfl, ed, (by show m + 1 < 4096; omega), ?_⟩
    refine ⟨_, _, _, _, n :: seen, rfl, AF.same_upd sm nd _, upd_same, ?_, fun j => ?_, ho⟩
    · rw [hnew]
      show m + 1 ≤ i + 1
      omega
    · simp only [Bool.or_eq_true, decide_eq_true_eq, hF, List.mem_cons]
      constructor
      · rintro (⟨n', h1, h2⟩ | h1)
        · exact ⟨n', .inr h1, h2⟩
        · exact ⟨n, .inl rfl, h1.symm⟩
      · rintro ⟨n', h1 | h1, h2⟩
        · subst h1
          exact .inr h2.symm
        · exact .inl ⟨n', h1, h2⟩
  · rintro σ H3 ⟨x2, x3, F, m, seen, rfl, sm, ed, _, _, ho⟩
    rw [List.drop_of_length_le (by omega)] at ho
    exact q ho.symm H3 sm
def spLimitsE (C : Addr) : Sp := fun vs H Q E => ∃ (a : Addr) (us : List V) (ts : List AF.Tk) (as : List AF.At), vs = [.ref a] ∧ H a = some (.lst us) ∧ AF.TksAt H us ts ∧ AF.TW as ts ∧
  1 ≤ as.length ∧ (∀ t ∈ ts, t.1 < 5000) ∧ ((as.foldl AF.lstep (0, 0, 0)).1 ≤ 40 → (as.foldl AF.lstep (0, 0, 0)).2.2 ≤ 4 → ∀ H' : Hp, Same H H' → Q .non H') ∧
  ∀ t, ts[0]? = some t → (40 < (as.foldl AF.lstep (0, 0, 0)).1 → AF.ErrAt C t.1 "too many boxes" E H) ∧ ((as.foldl AF.lstep (0, 0, 0)).1 ≤ 40 → 4 < (as.foldl AF.lstep (0, 0, 0)).2.2 → AF.ErrAt C t.1 "too deep" E H)
theorem okE_check_limits (T : Tx K mg w) {C fI : Addr} {file : Str} (TT : AF.TX.TxtC K mg C fI file) (PG : AF.TX.Pg P file) : FnOk P w K mg base (AF.CXd P w) 4 T.d_check_limits.f T.d_check_limits.fd ["tokens"] (spLimitsE C) := by
  refine AF.okD T.d_check_limits.F sc_check_limits (fun vs H Q E h => ?_) (fun cdv A outer s H vs Q E hr h => ?_)
  · obtain ⟨_, _, _, _, rfl, _⟩ := h
    rfl
  obtain ⟨a, us, ts, as, rfl, ha, hts, htw, h1, hpl, q, er⟩ := h
  refine ⟨_, (pss_cons (ps_set (i := 1) sc_check_limits.nd rfl (Or.inl rfl) (pe_ix (AF.ixT K rfl) (pe_ix (AF.ixL K rfl) (pv 0) pe_int (fun _ _ => rfl)) pe_int (fun _ _ => rfl)))
      (pss_cons (ps_set (i := 2) sc_check_limits.nd rfl (Or.inl rfl) pe_int)
      (pss_cons (ps_set (i := 3) sc_check_limits.nd rfl (Or.inl rfl) pe_int)
      (pss_cons (ps_set (i := 4) sc_check_limits.nd rfl (Or.inl rfl) pe_int)
      (pss_cons (ps_for PassesOwn.leaving rfl (AF.piL K rfl (pv 0)) (AF.pg_tupK (n := 2) K rfl rfl (pgs_cons (pg_name (i := 5) sc_check_limits.nd rfl (Or.inl rfl)) (pgs_cons (pg_name (i := 6) sc_check_limits.nd rfl (Or.inl rfl)) pgs_nil)))
      (Evl.pss_cut (ps_if (pt_cmpR (AF.inK K rfl) (pv 6) (pe_tup (pa_cons pe_str (pa_cons pe_str pa_nil))) (by rfl))
      (pss_one (ps_aug (i := 2) sc_check_limits.nd rfl (Or.inl rfl) pe_int ip_add))
      pss_nil)
      (Evl.pss_cut (ps_if (pt_cmpR op_eq (pv 6) pe_str (nomark _))
      (pss_cons (ps_aug (i := 3) sc_check_limits.nd rfl (Or.inl rfl) pe_int ip_add)
      (pss_one (ps_set (i := 4) sc_check_limits.nd rfl (Or.inl rfl) (pe_callB (call_max2 rfl) (by rfl) T.z_max (by decide +kernel) (pa_cons (pv 4) (pa_cons (pv 3) pa_nil))))))
      pss_nil)
      (pss_one (ps_if (pt_cmpR op_eq (pv 6) pe_str (nomark _))
      (pss_one (ps_aug (i := 3) sc_check_limits.nd rfl (Or.inl rfl) pe_int ip_sub))
      pss_nil)))))
      (pss_cons (ps_if (pt_cmpR op_gt (pv 2) (pe_glob (v := .int 40) rfl T.c_MOST_BOXES ⟨_, rfl⟩) (nomark _))
      (pss_one (AF.ps_rt TT PG (hr.mono (by omega)) rfl AF.tkD (by rfl) (pa_cons (pv 1) (pa_cons pe_str pa_nil))))
      pss_nil)
      (pss_one (ps_if (pt_cmpR op_gt (pv 4) (pe_glob (v := .int 4) rfl T.c_MOST_SCROLLERS_WITHIN ⟨_, rfl⟩) (nomark _))
      (pss_one (AF.ps_rt TT PG (hr.mono (by omega)) rfl AF.tkD (by rfl) (pa_cons (pv 1) (pa_cons pe_str pa_nil))))
      pss_nil)))))))), ?_⟩
  have hl1 := hts.len
  have hl2 := htw.len
  obtain ⟨t0, b0, ht0, ey0, hb0⟩ := hts.get (i := 0) (v := us[0]'(by omega)) (List.getElem?_eq_getElem (by omega))
  refine ⟨.ref a, rfl, a, us, 0, .ref b0, rfl, rfl, .of ha, atI_nat (j := 0) (by rw [← ey0]; exact List.getElem?_eq_getElem (by omega)), b0, _, _, _, rfl, rfl, .of hb0, atI_nat (j := 0) rfl, ?_⟩
  refine ⟨.ref a, rfl, a, rfl, ⟨us, .of ha⟩, ?_⟩
  refine for_list (xs := us) (Pv := fun i σ H3 => ∃ (x5 x6 : Option V), σ = [some (.ref a), some (.int (t0.1 : Int)), some (.int ((as.take i).foldl AF.lstep (0, 0, 0)).1), some (.int ((as.take i).foldl AF.lstep (0, 0, 0)).2.1), some (.int ((as.take i).foldl AF.lstep (0, 0, 0)).2.2), x5, x6] ∧ Same H H3) ?_ ?_ ?_ ?_
  · exact ⟨none, none, rfl, .refl H⟩
  · rintro i σ H3 _ ⟨_, _, _, sm⟩
    exact .of (sm _ _ ha)
  · rintro i y σ H3 hy ⟨x5, x6, rfl, sm⟩
    obtain ⟨t, b, ht, rfl, hb⟩ := (hts.k (AF.Same.keepT sm)).get hy
    obtain ⟨k, hk, hwd⟩ := htw.get ht
    have et : (as.take (i + 1)).foldl AF.lstep (0, 0, 0) = AF.lstep ((as.take i).foldl AF.lstep (0, 0, 0)) k := by
      rw [List.take_add_one, hk, List.foldl_append]
      rfl
    rw [et]
    generalize (as.take i).foldl AF.lstep (0, 0, 0) = z
    obtain ⟨bx, lv, dp⟩ := z
    refine ⟨b, [.int (t.1 : Int), .str (AF.S t.2)], rfl, .of hb, rfl, _, _, rfl, _, _, rfl, rfl, ?_⟩
    have s1 : ∀ (b : AF.At) (c : Nat) (x : Str), b.isN = false → b.code = c → AF.isD c = false → x = AF.S [c] → decide (V.str (AF.S t.2) = V.str x) = decide (k = b) := by
      intro b c x h1 h2 h3 h4
      have := AF.code_eq hwd h1 h2 h3
      rw [h4]
      exact decide_eq_decide.mpr (AF.VS_inj.trans this)
    have s2 : inV (V.str (AF.S t.2)) [V.str "b", V.str "s"] = (decide (k = .b) || decide (k = .s)) := by
      rw [← s1 .b 98 "b" rfl rfl rfl (by decide +kernel), ← s1 .s 115 "s" rfl rfl rfl (by decide +kernel)]
      unfold inV
      simp only [List.any_cons, List.any_nil, Bool.or_false]
      congr 1
      · show (_ == _) = decide _
        rw [Bool.eq_iff_iff, beq_iff_eq, decide_eq_true_eq]
        exact ⟨fun z => by rw [z], fun z => (V.str.inj z).symm⟩
      · show (_ == _) = decide _
        rw [Bool.eq_iff_iff, beq_iff_eq, decide_eq_true_eq]
        exact ⟨fun z => by rw [z], fun z => (V.str.inj z).symm⟩
    have s3 := s1 .o 91 "[" rfl rfl rfl (by decide +kernel)
    have s4 := s1 .e 93 "]" rfl rfl rfl (by decide +kernel)
    refine ⟨fun σ' H' => Same H H' ∧ σ' = [some (.ref a), some (.int (t0.1 : Int)), some (.int (AF.lstep (bx, lv, dp) k).1), some (.int lv), some (.int dp), some (.int (t.1 : Int)), some (.str (AF.S t.2))], ?_, ?_⟩
    · refine ⟨_, rfl, (by show 2 ≤ sizeLine; decide), fun p np => ⟨p, _, rfl, .inr (.of upd_same), rfl, rfl, ?_⟩⟩
      have sm2 := AF.same_upd sm (Same.free sm np) (.tup [V.str "b", V.str "s"])
      refine ⟨_, rfl, ?_⟩
      by_cases hk1 : k = .b ∨ k = .s
      · refine AF.iteP ?_ ?_
        · show inV (V.str (AF.S t.2)) [V.str "b", V.str "s"] = true
          rw [s2]
          rcases hk1 with rfl | rfl <;> simp
        · refine ⟨_, rfl, _, _, rfl, rfl, sm2, ?_⟩
          rcases hk1 with rfl | rfl <;> rfl
      · refine AF.iteN ?_ ?_
        · show ¬ inV (V.str (AF.S t.2)) [V.str "b", V.str "s"] = true
          rw [s2]
          simpa using hk1
        · refine ⟨sm2, ?_⟩
          have e : (AF.lstep (bx, lv, dp) k).1 = bx := by
            cases k <;> first | rfl | exact absurd (.inl rfl) hk1 | exact absurd (.inr rfl) hk1
          rw [e]
          rfl
    rintro σ' H' ⟨sm2, rfl⟩
    refine ⟨fun σ' H' => Same H H' ∧ σ' = [some (.ref a), some (.int (t0.1 : Int)), some (.int (AF.lstep (bx, lv, dp) k).1), some (.int (if k = .o then lv + 1 else lv)), some (.int (AF.lstep (bx, lv, dp) k).2.2), some (.int (t.1 : Int)), some (.str (AF.S t.2))], ?_, ?_⟩
    · refine ⟨_, rfl, rfl, _, rfl, ?_⟩
      by_cases hk1 : k = .o
      · refine AF.iteP ?_ ?_
        · rw [s3]
          exact decide_eq_true hk1
        · subst hk1
          exact ⟨_, rfl, _, _, rfl, rfl, _, rfl, _, rfl, _, _, rfl, sm2, rfl⟩
      · refine AF.iteN ?_ ?_
        · rw [s3]
          simpa using hk1
        · refine ⟨sm2, ?_⟩
          have e : (AF.lstep (bx, lv, dp) k).2.2 = dp := by
            cases k <;> first | rfl | exact absurd rfl hk1
          rw [e, if_neg hk1]
    rintro σ' H' ⟨sm3, rfl⟩
    refine ⟨_, rfl, rfl, _, rfl, ?_⟩
    by_cases hk1 : k = .e
    · refine AF.iteP ?_ ?_
      · rw [s4]
        exact decide_eq_true hk1
      · subst hk1
        exact ⟨_, rfl, _, _, rfl, rfl, _, _, rfl, sm3⟩
    · refine AF.iteN ?_ ?_
      · rw [s4]
        simpa using hk1
      · refine ⟨some (.int (t.1 : Int)), some (.str (AF.S t.2)), ?_, sm3⟩
        have e : (AF.lstep (bx, lv, dp) k).2.1 = (if k = .o then lv + 1 else lv) := by
          cases k <;> first | rfl | exact absurd rfl hk1
        rw [e]
  · rintro σ H3 ⟨x5, x6, rfl, sm⟩
    rw [List.take_of_length_le (by omega)]
    obtain ⟨e1, e2⟩ := er t0 ht0
    have ht5 : t0.1 < 5000 := hpl t0 (List.mem_of_getElem? ht0)
    refine ⟨_, rfl, _, _, rfl, rfl, _, rfl, ite2 (fun z => ?_) (fun z => ?_)⟩
    · have z : (as.foldl AF.lstep (0, 0, 0)).1 > 40 := of_decide_eq_true z
      exact ⟨_, rfl, AF.rt_ok (σ := []) (e1 z) sm ht5 (by decide)⟩
    have z : ¬ (as.foldl AF.lstep (0, 0, 0)).1 > 40 := fun k => z (decide_eq_true k)
    refine ⟨_, rfl, _, _, rfl, rfl, _, rfl, ite2 (fun z2 => ?_) (fun z2 => ?_)⟩
    · have z2 : (as.foldl AF.lstep (0, 0, 0)).2.2 > 4 := of_decide_eq_true z2
      exact ⟨_, rfl, AF.rt_ok (σ := []) (e2 (by omega) z2) sm ht5 (by decide)⟩
    have z2 : ¬ (as.foldl AF.lstep (0, 0, 0)).2.2 > 4 := fun k => z2 (decide_eq_true k)
    exact q (by omega) (by omega) H3 sm

end
end K03
namespace K03
open PySem PySem.Spec PyProof.Rows L2
section
variable {P : Program} {w : World} {K : PySem.W.Frag} {mg : Str → Option Value} {base : Heap}
/-! ### texts.py: the document -/
/-- the lists of parts, the last at the end -/
def refs (qs : List Addr) : List V := (qs.map V.ref).reverse
theorem refs_cons (q : Addr) (r : List Addr) : refs (q :: r) = refs r ++ [V.ref q] := by
  simp [refs]
theorem refs_len (qs : List Addr) : (refs qs).length = qs.length := by
  simp [refs]
def spBuilt (K : PySem.W.Frag) : Sp := fun vs H Q _ => ∃ (a : Addr) (ws : List (List Nat)) (as : List AF.At) (b : AF.Box), vs = [.ref a] ∧ H a = some (.lst (ws.map fun x => V.str (AF.S x))) ∧ AF.WW as ws ∧
  AF.bld as [] [[]] = some ([], [[b]]) ∧ as.length ≤ 5000 ∧ ∀ (v : V) (H' : Hp), Same H H' → AF.BoxAt H' v b → Q v H'
theorem ok_built (T : Tx K mg w) : FnOk P w K mg base CX0 2 T.d_built.f T.d_built.fd ["words"] (spBuilt K) := by
  have G_value_of := ok_value_of (P := P) (w := w) (base := base) T
  refine T.d_built.F.ok sc_built (fun vs H Q E h => ?_) (fun cdv A outer s H vs Q E hr h => ?_)
  · obtain ⟨_, _, _, _, rfl, _⟩ := h
    rfl
  obtain ⟨a, ws, as, doc, rfl, ha, hww, hbl, hlen, q⟩ := h
  refine ⟨_, (pss_cons (ps_set (i := 1) sc_built.nd rfl (Or.inl rfl) (pe_lst pa_nil))
      (pss_cons (ps_set (i := 2) sc_built.nd rfl (Or.inl rfl) (pe_lst (pa_cons (pe_lst pa_nil) pa_nil)))
      (pss_cons (ps_for PassesOwn.never rfl (pi_enum (by rfl) T.z_enumerate (pa_cons (pv 0) pa_nil)) (AF.pg_tupK (n := 2) K rfl rfl (pgs_cons (pg_name (i := 3) sc_built.nd rfl (Or.inl rfl)) (pgs_cons (pg_name (i := 4) sc_built.nd rfl (Or.inl rfl)) pgs_nil)))
      (pss_one (ps_if (pt_cmpR op_eq (pv 4) pe_str (nomark _))
      (pss_one (ps_expr (pe_bm PySem.F.plainAttrs_list PySem.F.slot_list_append PySem.F.type_list_append mt_append (pe_ix (AF.ixL K rfl) (pv 2) (pe_un un_neg pe_int) (fun _ _ => rfl)) (pa_cons (pe_tup (pa_cons pe_str (pa_cons (AF.cal T.d_value_of G_value_of (hr.mono (by omega)) (pa_cons (pe_ix (AF.ixL K rfl) (pv 0) (pe_op op_add (pv 3) pe_int) (fun _ _ => rfl)) pa_nil)) (pa_cons (AF.cal T.d_value_of G_value_of (hr.mono (by omega)) (pa_cons (pe_ix (AF.ixL K rfl) (pv 0) (pe_op op_add (pv 3) pe_int) (fun _ _ => rfl)) pa_nil)) pa_nil)))) pa_nil))))
      (pss_one (ps_if (pt_cmpR op_eq (pv 4) pe_str (nomark _))
      (pss_cons (ps_expr (pe_bm PySem.F.plainAttrs_list PySem.F.slot_list_append PySem.F.type_list_append mt_append (pv 1) (pa_cons (pe_tup (pa_cons (AF.cal T.d_value_of G_value_of (hr.mono (by omega)) (pa_cons (pe_ix (AF.ixL K rfl) (pv 0) (pe_op op_add (pv 3) pe_int) (fun _ _ => rfl)) pa_nil)) (pa_cons (AF.cal T.d_value_of G_value_of (hr.mono (by omega)) (pa_cons (pe_ix (AF.ixL K rfl) (pv 0) (pe_op op_add (pv 3) pe_int) (fun _ _ => rfl)) pa_nil)) pa_nil))) pa_nil)))
      (pss_one (ps_expr (pe_bm PySem.F.plainAttrs_list PySem.F.slot_list_append PySem.F.type_list_append mt_append (pv 2) (pa_cons (pe_lst pa_nil) pa_nil)))))
      (pss_one (ps_if (pt_cmpR op_eq (pv 4) pe_str (nomark _))
      (pss_cons (ps_asg (pe_bm0 PySem.F.plainAttrs_list PySem.F.slot_list_pop PySem.F.type_list_pop mt_pop (pv 1)) (AF.pg_tupK (n := 2) K rfl rfl (pgs_cons (pg_name (i := 6) sc_built.nd rfl (Or.inl rfl)) (pgs_cons (pg_name (i := 7) sc_built.nd rfl (Or.inl rfl)) pgs_nil))))
      (pss_cons (ps_set (i := 5) sc_built.nd rfl (Or.inl rfl) (pe_tup (pa_cons pe_str (pa_cons (pv 6) (pa_cons (pv 7) (pa_cons (pe_callTy (AF.tupK K rfl) (by rfl) T.z_tuple (by decide +kernel) (pa_cons (pe_bm0 PySem.F.plainAttrs_list PySem.F.slot_list_pop PySem.F.type_list_pop mt_pop (pv 2)) pa_nil)) pa_nil))))))
      (pss_one (ps_expr (pe_bm PySem.F.plainAttrs_list PySem.F.slot_list_append PySem.F.type_list_append mt_append (pe_ix (AF.ixL K rfl) (pv 2) (pe_un un_neg pe_int) (fun _ _ => rfl)) (pa_cons (pv 5) pa_nil))))))
      pss_nil)))))))
      (pss_one (ps_ret (pe_ix (AF.ixL K rfl) (pe_ix (AF.ixL K rfl) (pv 2) pe_int (fun _ _ => rfl)) pe_int (fun _ _ => rfl))))))), ?_⟩
  have hl1 := hww.len
  refine ⟨Nat.zero_le _, fun lh nh => ?_⟩
  have s0 := AF.same_new nh (.lst ([] : List V))
  refine ⟨Nat.zero_le _, fun q0 nq0 => ⟨(by show 1 ≤ sizeLine; decide), fun lp np => ?_⟩⟩
  have s1 := s0.trans (AF.same_new nq0 (.lst ([] : List V)))
  have s2 := s1.trans (AF.same_new np (.lst [V.ref q0]))
  have hq0 : H q0 = none := Same.free s0 nq0
  have hp0 : H lp = none := Same.free s1 np
  have n1 : q0 ≠ lh := (ne_of_none upd_same nq0).symm
  have n2 : lp ≠ q0 := (ne_of_none upd_same np).symm
  have eh0 : (upd (upd H lh (.lst ([] : List V))) q0 (.lst ([] : List V))) lh = some (.lst []) := by
    rw [upd_ne n1.symm]
    exact upd_same
  have n3 : lp ≠ lh := (ne_of_none eh0 np).symm
  refine ⟨.ref a, rfl, a, _, rfl, .of (s2 _ _ ha), ?_⟩
  refine for_it (walk_enum (xs := ws.map fun x => V.str (AF.S x))) (Pv := fun i σ H3 => ∃ (x3 x4 x5 x6 x7 : Option V) (hs : List AF.Hd) (ps : List (List AF.Box)) (hv : List V) (qs : List Addr),
      σ = [some (.ref a), some (.ref lh), some (.ref lp), x3, x4, x5, x6, x7] ∧ Same H H3 ∧ H3 lh = some (.lst hv.reverse) ∧ H3 lp = some (.lst (refs qs)) ∧ AF.HdsAt H3 hv hs ∧ AF.PtsAt H3 qs ps ∧
      (∀ y ∈ qs, H y = none ∧ y ≠ lh ∧ y ≠ lp) ∧ AF.bld (as.drop i) hs ps = some ([], [[doc]]) ∧ hs.length ≤ i ∧ ps.length ≤ i + 1 ∧ ∀ p ∈ ps, p.length ≤ i) ?_ ?_ ?_ ?_
  · refine ⟨none, none, none, none, none, [], [[]], [], [q0], rfl, s2, ?_, upd_same, rfl, ?_, ?_, hbl, Nat.le_refl _, Nat.le_refl _, fun p hp => by rw [List.mem_singleton.mp hp]; exact Nat.le_refl _⟩
    · rw [upd_ne n3.symm, upd_ne n1.symm]
      exact upd_same
    · refine ⟨q0, [], [], rfl, ?_, .nil, by simp, rfl⟩
      rw [upd_ne n2.symm]
      exact upd_same
    · intro y hy
      rw [List.mem_singleton.mp hy]
      exact ⟨hq0, n1, n2.symm⟩
  · rintro i σ H3 _ ⟨_, _, _, _, _, _, _, _, _, _, sm, _⟩
    exact .of (sm _ _ ha)
  · rintro i y σ H3 H4 hi ⟨x3, x4, x5, x6, x7, hs, ps, hv, qs, rfl, sm, eh, ep, hh, hp, hq, hb, l1, l2, l3⟩ ⟨B, x, z, rfl, nB, rfl, ex, ez⟩
    cases ex
    obtain ⟨t, ht, rfl⟩ : ∃ t, ws[i]? = some t ∧ z = V.str (AF.S t) := by
      have ez : (ws.map fun x => V.str (AF.S x))[i]? = some z := ez
      rw [List.getElem?_map] at ez
      cases hx : ws[i]? with
      | none =>
        rw [hx] at ez
        cases ez
      | some t =>
        rw [hx] at ez
        exact ⟨t, rfl, (Option.some.inj ez).symm⟩
    obtain ⟨k, hk, hwd⟩ := hww.get' ht
    have hia : i < as.length := (List.getElem?_eq_some_iff.mp hk).1
    have ed : as.drop i = k :: as.drop (i + 1) := by
      obtain ⟨h1, h2⟩ := List.getElem?_eq_some_iff.mp hk
      rw [← h2]
      exact List.drop_eq_getElem_cons h1
    rw [ed] at hb
    have sB := AF.same_new nB (.tup [V.int ((i : Nat) : Int), V.str (AF.S t)])
    generalize hH4 : upd H3 B (.tup [V.int ((i : Nat) : Int), V.str (AF.S t)]) = H4 at *
    have eB : H4 B = some (.tup [V.int ((i : Nat) : Int), V.str (AF.S t)]) := by
      rw [← hH4]
      exact upd_same
    have sm := sm.trans sB
    have eh := sB _ _ eh
    have ep := sB _ _ ep
    have hh := hh.k (AF.Same.keepT sB)
    have hp := hp.k (AF.Same.keepT sB) fun q _ o e => sB _ _ e
    have ha4 := sm _ _ ha
    have hhl := hh.len
    have hpl := hp.len
    have s1 : ∀ (b : AF.At) (c : Nat) (x : Str), b.isN = false → b.code = c → AF.isD c = false → x = AF.S [c] → decide (V.str (AF.S t) = V.str x) = decide (k = b) := by
      intro b c x h1 h2 h3 h4
      have := AF.code_eq hwd h1 h2 h3
      rw [h4]
      exact decide_eq_decide.mpr (AF.VS_inj.trans this)
    -- the number that stands j places behind
    have look : ∀ (j n : Nat), (as.drop (i + 1))[j]? = some (.n n) → ∃ u, atI (ws.map fun x => V.str (AF.S x)) ((i : Int) + ((j + 1 : Nat) : Int)) = some (V.str (AF.S u)) ∧ AF.Wd (.n n) u := by
      intro j n e
      rw [List.getElem?_drop] at e
      obtain ⟨u, eu, wu⟩ := hww.get e
      refine ⟨u, ?_, wu⟩
      have e1 : (ws.map fun x => V.str (AF.S x))[i + 1 + j]? = some (V.str (AF.S u)) := by
        rw [List.getElem?_map, eu]
        rfl
      have e2 : ((i : Int) + ((j + 1 : Nat) : Int)) = ((i + 1 + j : Nat) : Int) := by omega
      rw [e2]
      exact atI_nat e1
    refine ⟨B, _, rfl, .of eB, rfl, _, _, rfl, _, _, rfl, rfl, ?_⟩
    refine ⟨_, rfl, rfl, _, rfl, ?_⟩
    have w1 := s1 .b 98 "b" rfl rfl rfl (by decide +kernel)
    have w2 := s1 .s 115 "s" rfl rfl rfl (by decide +kernel)
    have w3 := s1 .e 93 "]" rfl rfl rfl (by decide +kernel)
    by_cases hk1 : k = .b
    · refine AF.iteP ?_ ?_
      · rw [w1]
        exact decide_eq_true hk1
      subst hk1
      obtain ⟨n, m, p, ps', rfl, hn, hm, hb⟩ := AF.bld_b hb
      obtain ⟨q1, qr, us, rfl, eq1, bx, nq, hp2⟩ := hp
      obtain ⟨u1, e1, wu1⟩ := look 0 n hn
      obtain ⟨u2, e2, wu2⟩ := look 2 m hm
      rw [refs_cons] at ep
      refine ⟨.ref lp, rfl, 1, rfl, lp, _, _, _, rfl, rfl, .of ep, atI_last _ _, .inl ⟨rfl, _, .of eq1⟩, ?_⟩
      refine ⟨.ref a, rfl, _, rfl, _, _, rfl, rfl, a, _, _, _, rfl, rfl, .of ha4, e1, n, u1, rfl, wu1, ?_⟩
      refine ⟨.ref a, rfl, _, rfl, _, _, rfl, rfl, a, _, _, _, rfl, rfl, .of ha4, e2, m, u2, rfl, wu2, ?_⟩
      refine ⟨(by show 3 ≤ sizeLine; decide), fun N nN => ?_⟩
      have sN := AF.same_new nN (.tup [V.str "block", .int (n : Int), .int (m : Int)])
      have eqN := sN _ _ eq1
      have hul := bx.len
      have hpl2 : p.length ≤ i := l3 p List.mem_cons_self
      refine ⟨q1, us, .ref N, rfl, rfl, eqN, AF.roomy (by omega), ?_⟩
      obtain ⟨hq1, hq2, hq3⟩ := hq q1 List.mem_cons_self
      have kk : AF.KeepT H4 (upd (upd H4 N (.tup [V.str "block", .int (n : Int), .int (m : Int)])) q1 (.lst (us ++ [.ref N]))) := (AF.Same.keepT sN).trans (AF.keepT_upd eqN _)
      have nNq : N ≠ q1 := (ne_of_none eq1 nN).symm
      refine ⟨_, _, _, _, _, hs, (p ++ [.blk n m]) :: ps', hv, q1 :: qr, rfl, AF.same_upd (sm.trans sN) hq1 _, ?_, ?_, hh.k kk, ?_, hq, hb, by omega, ?_, ?_⟩
      · rw [upd_ne hq2.symm]
        exact sN _ _ eh
      · rw [upd_ne hq3.symm, refs_cons]
        exact sN _ _ ep
      · refine ⟨q1, qr, us ++ [.ref N], rfl, upd_same, (bx.k kk).append (.one (AF.BoxAt.mkB ?_)), nq, hp2.k kk fun y hy o e => ?_⟩
        · rw [upd_ne nNq]
          exact upd_same
        · rw [upd_ne (fun z => nq (by rw [← z]; exact hy))]
          exact sN _ _ e
      · simp only [List.length_cons] at l2 ⊢
        omega
      · intro p' hp'
        rcases List.mem_cons.mp hp' with rfl | hp'
        · rw [List.length_append, List.length_singleton]
          omega
        · exact Nat.le_succ_of_le (l3 p' (List.mem_cons_of_mem _ hp'))
    · refine AF.iteN ?_ ?_
      · rw [w1]
        simpa using hk1
      refine ⟨_, rfl, rfl, _, rfl, ?_⟩
      by_cases hk2 : k = .s
      · refine AF.iteP ?_ ?_
        · rw [w2]
          exact decide_eq_true hk2
        subst hk2
        obtain ⟨n, m, hn, hm, hb⟩ := AF.bld_s hb
        obtain ⟨u1, e1, wu1⟩ := look 0 n hn
        obtain ⟨u2, e2, wu2⟩ := look 2 m hm
        refine ⟨.ref lh, rfl, .inl ⟨rfl, _, .of eh⟩, ?_⟩
        refine ⟨.ref a, rfl, _, rfl, _, _, rfl, rfl, a, _, _, _, rfl, rfl, .of ha4, e1, n, u1, rfl, wu1, ?_⟩
        refine ⟨.ref a, rfl, _, rfl, _, _, rfl, rfl, a, _, _, _, rfl, rfl, .of ha4, e2, m, u2, rfl, wu2, ?_⟩
        refine ⟨(by show 2 ≤ sizeLine; decide), fun N nN => ?_⟩
        have sN := AF.same_new nN (.tup [V.int (n : Int), .int (m : Int)])
        have ehN := sN _ _ eh
        have epN := sN _ _ ep
        refine ⟨lh, hv.reverse, .ref N, rfl, rfl, ehN, ?_, ?_⟩
        · rw [List.length_reverse, hhl]
          exact AF.roomy (by omega)
        have k5 := AF.keepT_upd ehN (.lst (hv.reverse ++ [.ref N]))
        have ep5 : (upd (upd H4 N (.tup [V.int (n : Int), .int (m : Int)])) lh (.lst (hv.reverse ++ [.ref N]))) lp = some (.lst (refs qs)) := by
          rw [upd_ne n3]
          exact epN
        refine ⟨.ref lp, rfl, .inl ⟨rfl, _, .of ep5⟩, Nat.zero_le _, fun y ny => ?_⟩
        have sm5 : Same H (upd (upd H4 N (.tup [V.int (n : Int), .int (m : Int)])) lh (.lst (hv.reverse ++ [.ref N]))) := AF.same_upd (sm.trans sN) nh _
        generalize hH5 : upd (upd H4 N (.tup [V.int (n : Int), .int (m : Int)])) lh (.lst (hv.reverse ++ [.ref N])) = H5 at *
        have eh5 : H5 lh = some (.lst (hv.reverse ++ [.ref N])) := by
          rw [← hH5]
          exact upd_same
        have eN5 : H5 N = some (.tup [V.int (n : Int), .int (m : Int)]) := by
          rw [← hH5, upd_ne (ne_of_none eh nN).symm]
          exact upd_same
        have hp5 : AF.PtsAt H5 qs ps := hp.k ((AF.Same.keepT sN).trans k5) fun z hz o e => by
          rw [← hH5, upd_ne (hq z hz).2.1]
          exact sN _ _ e
        have hh5 := hh.k ((AF.Same.keepT sN).trans k5)
        have sy := AF.same_new ny (.lst ([] : List V))
        have ep6 := sy _ _ ep5
        have nyl : y ≠ lh := (ne_of_none eh5 ny).symm
        have nyp : y ≠ lp := (ne_of_none ep5 ny).symm
        have nyq : y ∉ qs := fun z => by
          obtain ⟨w2, e2⟩ := hp5.mem z
          rw [ny] at e2
          cases e2
        refine ⟨lp, refs qs, .ref y, rfl, rfl, ep6, ?_, ?_⟩
        · rw [refs_len, hpl]
          exact AF.roomy (by omega)
        have k7 := AF.keepT_upd ep6 (.lst (refs qs ++ [.ref y]))
        refine ⟨_, _, _, _, _, (n, m) :: hs, [] :: ps, .ref N :: hv, y :: qs, rfl, AF.same_upd (sm5.trans sy) hp0 _, ?_, ?_, ⟨N, hv, rfl, ?_, hh5.k ((AF.Same.keepT sy).trans k7)⟩, ?_, ?_, hb, ?_, ?_, ?_⟩
        · rw [upd_ne n3.symm, List.reverse_cons]
          exact sy _ _ eh5
        · rw [refs_cons]
          exact upd_same
        · exact k7 _ _ (sy _ _ eN5)
        · refine ⟨y, qs, [], rfl, ?_, .nil, nyq, hp5.k ((AF.Same.keepT sy).trans k7) fun z hz o e => ?_⟩
          · rw [upd_ne nyp]
            exact upd_same
          · rw [upd_ne (hq z hz).2.2]
            exact sy _ _ e
        · intro z hz
          rcases List.mem_cons.mp hz with rfl | hz
          · exact ⟨Same.free sm5 ny, nyl, nyp⟩
          · exact hq z hz
        · rw [List.length_cons]
          omega
        · rw [List.length_cons]
          omega
        · intro p' hp'
          rcases List.mem_cons.mp hp' with rfl | hp'
          · exact Nat.zero_le _
          · exact Nat.le_succ_of_le (l3 p' hp')
      · refine AF.iteN ?_ ?_
        · rw [w2]
          simpa using hk2
        refine ⟨_, rfl, rfl, _, rfl, ?_⟩
        by_cases hk3 : k = .e
        · refine AF.iteP ?_ ?_
          · rw [w3]
            exact decide_eq_true hk3
          subst hk3
          obtain ⟨n, m, hs', p, p2, ps', rfl, rfl, hb2⟩ := AF.bld_e hb
          obtain ⟨A1, hv', rfl, eA, hh2⟩ := hh
          obtain ⟨q1, qr, us, rfl, eq1, bx, nq, q2, qr2, us2, rfl, eq2, bx2, nq2, hp2⟩ := hp
          refine ⟨.ref lh, rfl, .inl ⟨rfl, _, .of eh⟩, lh, _, .ref A1, rfl, rfl, eh, by simp, ?_⟩
          have edl : (V.ref A1 :: hv').reverse.dropLast = hv'.reverse := by simp
          rw [edl]
          have k5 := AF.keepT_upd eh (.lst hv'.reverse)
          have sm5 : Same H (upd H4 lh (.lst hv'.reverse)) := AF.same_upd sm nh _
          have ep5 : (upd H4 lh (.lst hv'.reverse)) lp = some (.lst (refs (q1 :: q2 :: qr2))) := by
            rw [upd_ne n3]
            exact ep
          obtain ⟨hq1, hq2, hq3⟩ := hq q1 List.mem_cons_self
          obtain ⟨hr1, hr2, hr3⟩ := hq q2 (List.mem_cons_of_mem _ List.mem_cons_self)
          refine ⟨A1, [.int (n : Int), .int (m : Int)], rfl, .of (k5 _ _ eA), rfl, _, _, rfl, _, _, rfl, rfl, ?_⟩
          refine ⟨_, rfl, _, rfl, .ref lp, rfl, .inl ⟨rfl, _, .of ep5⟩, lp, _, .ref q1, rfl, rfl, ep5, by rw [refs_cons]; simp, ?_⟩
          have edl2 : (refs (q1 :: q2 :: qr2)).dropLast = refs (q2 :: qr2) := by rw [refs_cons]; simp
          rw [edl2]
          have k6 := AF.keepT_upd ep5 (.lst (refs (q2 :: qr2)))
          have sm6 : Same H (upd (upd H4 lh (.lst hv'.reverse)) lp (.lst (refs (q2 :: qr2)))) := AF.same_upd sm5 hp0 _
          have kk6 := k5.trans k6
          have up6 : ∀ y o, y ≠ lh → y ≠ lp → H4 y = some o → (upd (upd H4 lh (.lst hv'.reverse)) lp (.lst (refs (q2 :: qr2)))) y = some o := by
            intro y o h1 h2 h3
            rw [upd_ne h2, upd_ne h1]
            exact h3
          have eh6 : (upd (upd H4 lh (.lst hv'.reverse)) lp (.lst (refs (q2 :: qr2)))) lh = some (.lst hv'.reverse) := by
            rw [upd_ne n3.symm]
            exact upd_same
          have ep6 : (upd (upd H4 lh (.lst hv'.reverse)) lp (.lst (refs (q2 :: qr2)))) lp = some (.lst (refs (q2 :: qr2))) := upd_same
          generalize upd (upd H4 lh (.lst hv'.reverse)) lp (.lst (refs (q2 :: qr2))) = H6 at *
          have eq6 := up6 _ _ hq2 hq3 eq1
          have er6 := up6 _ _ hr2 hr3 eq2
          refine ⟨q1, us, rfl, .inl ⟨.of eq6, fun y ny => ?_⟩⟩
          have s7 := AF.same_new ny (.tup us)
          refine ⟨(by show 4 ≤ sizeLine; decide), fun N nN => ?_⟩
          have s8 := s7.trans (AF.same_new nN (.tup [V.str "scroller", .int (n : Int), .int (m : Int), .ref y]))
          have ey8 : (upd (upd H6 y (.tup us)) N (.tup [V.str "scroller", .int (n : Int), .int (m : Int), .ref y])) y = some (.tup us) := by
            rw [upd_ne (ne_of_none upd_same nN)]
            exact upd_same
          have eN8 : (upd (upd H6 y (.tup us)) N (.tup [V.str "scroller", .int (n : Int), .int (m : Int), .ref y])) N = some (.tup [V.str "scroller", .int (n : Int), .int (m : Int), .ref y]) := upd_same
          generalize upd (upd H6 y (.tup us)) N (.tup [V.str "scroller", .int (n : Int), .int (m : Int), .ref y]) = H8 at *
          have ep8 := s8 _ _ ep6
          have er8 := s8 _ _ er6
          rw [refs_cons] at ep8
          have hul := bx2.len
          have hpl2 : p2.length ≤ i := l3 p2 (List.mem_cons_of_mem _ List.mem_cons_self)
          refine ⟨.ref lp, rfl, 1, rfl, lp, _, _, _, rfl, rfl, .of ep8, atI_last _ _, .inl ⟨rfl, _, .of er8⟩, .ref N, rfl, q2, us2, .ref N, rfl, rfl, er8, AF.roomy (by omega), ?_⟩
          have k9 := AF.keepT_upd er8 (.lst (us2 ++ [.ref N]))
          have kk := kk6.trans ((AF.Same.keepT s8).trans k9)
          refine ⟨_, _, _, _, _, hs', (p2 ++ [.scr n m p]) :: ps', hv', q2 :: qr2, rfl, AF.same_upd (sm6.trans s8) hr1 _, ?_, ?_, hh2.k kk, ?_, fun z hz => hq z (List.mem_cons_of_mem _ hz), hb2, ?_, ?_, ?_⟩
          · rw [upd_ne hr2.symm]
            exact s8 _ _ eh6
          · rw [upd_ne hr3.symm, refs_cons]
            exact ep8
          · refine ⟨q2, qr2, us2 ++ [.ref N], rfl, upd_same, (bx2.k kk).append (.one (AF.BoxAt.mkS (k9 _ _ eN8) (k9 _ _ ey8) (bx.k kk))), nq2, hp2.k kk fun z hz o e => ?_⟩
            rw [upd_ne (fun e2 => nq2 (by rw [← e2]; exact hz))]
            obtain ⟨_, z1, z2⟩ := hq z (List.mem_cons_of_mem _ (List.mem_cons_of_mem _ hz))
            exact s8 _ _ (up6 _ _ z1 z2 e)
          · simp only [List.length_cons] at l1
            omega
          · simp only [List.length_cons] at l2 ⊢
            omega
          · intro p' hp'
            rcases List.mem_cons.mp hp' with rfl | hp'
            · rw [List.length_append, List.length_singleton]
              omega
            · exact Nat.le_succ_of_le (l3 p' (List.mem_cons_of_mem _ (List.mem_cons_of_mem _ hp')))
        · refine AF.iteN ?_ ?_
          · rw [w3]
            simpa using hk3
          exact ⟨_, _, _, _, _, hs, ps, hv, qs, rfl, sm, eh, ep, hh, hp, hq, AF.bld_o hb hk1 hk2 hk3, by omega, by omega, fun p hp => Nat.le_succ_of_le (l3 p hp)⟩
  · rintro σ H3 ⟨x3, x4, x5, x6, x7, hs, ps, hv, qs, rfl, sm, eh, ep, hh, hp, hq, hb, l1, l2, l3⟩
    rw [List.length_map, List.drop_of_length_le (by omega)] at hb
    cases hb
    obtain ⟨q1, qr, us, rfl, eq1, bx, nq, hp2⟩ := hp
    cases (show qr = [] from hp2)
    obtain ⟨v, r, rfl, b1, b2⟩ := bx.cons_inv
    refine ⟨.ref lp, rfl, lp, _, 0, .ref q1, rfl, rfl, .of ep, rfl, q1, _, 0, v, rfl, rfl, .of eq1, ?_, ?_⟩
    · cases b2.nil_inv
      rfl
    · exact q v H3 sm b1

end
end K03
namespace K03
open PySem PySem.Spec PyProof.Rows L2
section
variable {P : Program} {w : World} {K : PySem.W.Frag} {mg : Str → Option Value} {base : Heap}
theorem tks_evens {H : Hp} : ∀ {ts : List AF.Tk} {vs : List V}, AF.TksAt H vs ts → AF.TksAt H (AF.evens vs) (AF.evens ts)
  | [], _, h => by
    have h : _ = [] := h
    rw [h]
    simp only [AF.evens]
    rfl
  | [t], _, h => by
    obtain ⟨a, r, rfl, h1, h2⟩ := h
    have h2 : r = [] := h2
    subst h2
    simp only [AF.evens]
    exact ⟨a, [], rfl, h1, rfl⟩
  | t :: u :: ts, _, h => by
    obtain ⟨a, r, rfl, h1, a2, r2, rfl, h2, h3⟩ := h
    simp only [AF.evens]
    exact ⟨a, AF.evens r2, rfl, h1, tks_evens h3⟩
def spParseE (C : Addr) : Sp := fun vs H Q E => ∃ (txt : List Nat) (e : Option Nat) (ts : List AF.Tk) (as : List AF.At), vs = [.str (AF.S txt)] ∧ txt.length < 5000 ∧ AF.LexR 0 txt e ts ∧ (e = none → AF.TW as ts) ∧ as.length ≤ 4000 ∧
  (AF.dueP e ts as txt.length = none → ∀ (v : V) (H' : Hp), Same H H' → Q v H') ∧ ∀ p g, AF.dueP e ts as txt.length = some (p, g) → AF.ErrAt C p g E H
theorem okE_parse_document (T : Tx K mg w) {C fI : Addr} {file : Str} (TT : AF.TX.TxtC K mg C fI file) (PG : AF.TX.Pg P file) : FnOk P w K mg base (AF.CXd P w) 5 T.d_parse_document.f T.d_parse_document.fd ["text"] (spParseE C) := by
  have G_tokens_of := okE_tokens_of (P := P) (w := w) (base := base) T TT PG
  have G_check_order := okE_check_order (P := P) (w := w) (base := base) T TT PG
  have G_kind_of := ok_kind_of (P := P) (w := w) (base := base) T
  have G_check_values := okE_check_values (P := P) (w := w) (base := base) T TT PG
  have G_check_twice := okE_check_twice (P := P) (w := w) (base := base) T TT PG
  have G_check_limits := okE_check_limits (P := P) (w := w) (base := base) T TT PG
  have G_built := ok_built (P := P) (w := w) (base := base) T
  refine AF.okD T.d_parse_document.F sc_parse_document (fun vs H Q E h => ?_) (fun cdv A outer s H vs Q E hr h => ?_)
  · obtain ⟨_, _, _, _, rfl, _⟩ := h
    rfl
  obtain ⟨txt, e, ts, as, rfl, hlen, hlex, htw, has, q, er⟩ := h
  refine ⟨_, (pss_cons (ps_set (i := 1) sc_parse_document.nd rfl (Or.inl rfl) (pe_callS G_tokens_of (hr.mono (by omega)) (by rfl) T.d_tokens_of.m T.d_tokens_of.F.kp T.d_tokens_of.b (AF.passD AF.tkD) (pa_cons (pv 0) pa_nil)))
      (pss_cons (ps_expr (pe_callS G_check_order (hr.mono (by omega)) (by rfl) T.d_check_order.m T.d_check_order.F.kp T.d_check_order.b (AF.passD AF.tkD) (pa_cons (pv 1) (pa_cons (pe_callB call_len_str (by rfl) T.z_len (by decide +kernel) (pa_cons (pv 0) pa_nil)) pa_nil))))
      (pss_cons (ps_setLc (i := 2) (own := [("token", 3)]) (g := gName 3) rfl sc_parse_document.nd rfl rfl (sw_true rfl rfl rfl (by decide +kernel)) (AF.piL K rfl (pv 1)) (blkOk_by (own := [("token", 3)]) (N := ["text", "tokens", "numbers", "token", "_", "word"]) (sc := defScope s_parse_document) (by decide +kernel)) (fun _ _ _ _ _ => (pg_name (i := 3) sc_parse_document.nd rfl (Or.inl rfl))) (fun _ _ _ _ _ => pts_one (pt_cmpR op_eq (AF.cal T.d_kind_of G_kind_of (hr.mono (by omega)) (pa_cons (pe_ix (AF.ixT K rfl) (pv 3) pe_int (fun _ _ => rfl)) pa_nil)) pe_str (nomark _))) (fun _ _ _ _ _ => (pv 3)))
      (pss_cons (ps_expr (pe_callS G_check_values (hr.mono (by omega)) (by rfl) T.d_check_values.m T.d_check_values.F.kp T.d_check_values.b (AF.passD AF.tkD) (pa_cons (pv 2) pa_nil)))
      (pss_cons (ps_expr (pe_callS G_check_twice (hr.mono (by omega)) (by rfl) T.d_check_twice.m T.d_check_twice.F.kp T.d_check_twice.b (AF.passD AF.tkD) (pa_cons (AF.pe_evL K rfl (pv 2)) pa_nil)))
      (pss_cons (ps_expr (pe_callS G_check_limits (hr.mono (by omega)) (by rfl) T.d_check_limits.m T.d_check_limits.F.kp T.d_check_limits.b (AF.passD AF.tkD) (pa_cons (pv 1) pa_nil)))
      (pss_one (ps_ret (AF.cal T.d_built G_built (hr.mono (by omega)) (pa_cons (pe_lc (own := [("_", 4), ("word", 5)]) rfl sc_parse_document.nd (AF.piL K rfl (pv 1)) (blkOk_by (own := [("_", 4), ("word", 5)]) (N := ["text", "tokens", "numbers", "token", "_", "word"]) (sc := defScope s_parse_document) (by decide +kernel)) (fun _ _ _ _ _ => (AF.pg_tupK (n := 2) K rfl rfl (pgs_cons (pg_name (i := 4) sc_parse_document.nd rfl (Or.inl rfl)) (pgs_cons (pg_name (i := 5) sc_parse_document.nd rfl (Or.inl rfl)) pgs_nil)))) (fun _ _ _ _ _ => pts_nil) (fun _ _ _ _ _ => (pv 5))) pa_nil)))))))))), ?_⟩
  have hsz : (AF.S txt).length ≤ sizeLine := by
    rw [AF.S_len]
    exact Nat.le_of_lt (AF.roomy (by omega))
  have hpl : ∀ t ∈ ts, t.1 < 5000 := fun t ht => by
    have := hlex.places t ht
    omega
  refine ⟨_, rfl, txt, e, ts, rfl, hlen, hlex, fun p hp => er p _ (by rw [hp]; rfl), fun he a us H1 s1 na ea tk1 => ?_⟩
  subst he
  replace htw := htw rfl
  have hul := tk1.len
  have hl2 := htw.len
  refine ⟨.ref a, rfl, _, rfl, AF.S txt, rfl, hsz, a, (AF.S txt).length, us, ts, as, rfl, ea, tk1, htw, has, by rw [AF.S_len]; exact hlen, hpl, fun ho H2 s2 => ?_, fun i hi => ⟨fun t ht => ?_, fun hie => ?_⟩⟩
  case refine_2 => exact (er t.1 _ (by simp only [AF.dueP, hi, ht])).same s1
  case refine_3 =>
    have e0 : ts[i]? = none := List.getElem?_eq_none (by omega)
    rw [AF.S_len]
    exact (er txt.length _ (by simp only [AF.dueP, hi, e0])).same s1
  obtain ⟨n0, m0, ps0, rfl, hin⟩ := AF.ord_doc (AF.ordAt_none ho)
  have sm := hin.sm htw
  have hpos : 1 ≤ (AF.Box.scr n0 m0 ps0).tk.length := by simp [AF.Box.tk]
  generalize AF.Box.scr n0 m0 ps0 = b at *
  have htn := htw.nums
  have ea2 := s2 _ _ ea
  have tk2 := tk1.k (AF.Same.keepT s2)
  -- numbers
  refine ⟨.ref a, rfl, a, rfl, ⟨us, .of ea2⟩, fun D nD => ?_⟩
  refine lc_list (xs := us) (Pv := fun i H3 => ∃ L : List V, Same H2 H3 ∧ H3 D = some (.lst L) ∧ AF.TksAt H3 L ((ts.take i).filter AF.numTk) ∧ L.length ≤ i) ?_ ?_ ?_ ?_
  · exact ⟨[], AF.same_new nD _, upd_same, rfl, Nat.le_refl _⟩
  · rintro i H3 _ ⟨_, s3, _⟩
    exact .of (s3 _ _ ea2)
  · rintro i y H3 hy ⟨L, s3, eD, tkL, hL⟩
    have hi : i < us.length := (List.getElem?_eq_some_iff.mp hy).1
    obtain ⟨t, c, ht, rfl, hc⟩ := (tk2.k (AF.Same.keepT s3)).get hy
    obtain ⟨k, hk, hwd⟩ := htw.get ht
    obtain ⟨d, r, ed, h1, _⟩ := hwd.first
    have hn : AF.numTk t = k.isN := by
      unfold AF.numTk
      rw [ed]
      exact h1
    have et : (ts.take (i + 1)).filter AF.numTk = (ts.take i).filter AF.numTk ++ (if k.isN = true then [t] else []) := by
      rw [List.take_add_one, ht, List.filter_append]
      congr 1
      show List.filter AF.numTk [t] = _
      rw [List.filter_cons, hn]
      rfl
    refine ⟨rfl, .ref c, rfl, c, _, _, _, rfl, rfl, .of hc, atI_nat (j := 1) rfl, k, t.2, rfl, hwd, rfl, _, rfl, ?_⟩
    cases hkn : k.isN with
    | true =>
      refine AF.iteP ?_ ?_
      · cases k <;> first | exact decide_eq_true rfl | cases hkn
      refine ⟨.ref c, rfl, L, eD, AF.roomy (by omega), ?_⟩
      rw [et, hkn]
      refine ⟨L ++ [.ref c], AF.same_upd s3 nD _, upd_same, ?_, ?_⟩
      · exact AF.TksAt.snoc (AF.keepT_upd eD _ _ _ hc) (tkL.k (AF.keepT_upd eD _))
      · rw [List.length_append, List.length_singleton]
        omega
    | false =>
      refine AF.iteN ?_ ?_
      · have e : decide (V.str k.kd = V.str "number") = false := by
          cases k <;> first | (cases hkn; done) | exact decide_eq_false (by intro z; cases z)
        show ¬ decide (V.str k.kd = V.str "number") = true
        rw [e]
        exact Bool.false_ne_true
      · rw [et, hkn]
        exact ⟨L, s3, eD, by simpa using tkL, by omega⟩
  rintro H3 ⟨L, s3, eD, tkL, hL⟩
  rw [List.take_of_length_le (by omega)] at tkL
  have s23 := s2.trans s3
  have s13 := s1.trans s23
  refine ⟨.ref D, rfl, D, L, _, _, rfl, eD, tkL, htn, fun t ht => hpl t ((List.mem_filter.mp ht).1), fun hrg H4 s4 => ?_, fun i t hi ht => ?_⟩
  case refine_2 => exact (er t.1 _ (by simp only [AF.dueP, ho, hi, ht, Option.map_some])).same s13
  have hnl : (AF.nums b.tk).length ≤ 4000 := by
    have h1 := htn.len
    have h2 := List.length_filter_le AF.numTk ts
    rw [List.length_map] at h1
    omega
  have eD4 := s4 _ _ eD
  have tkL4 := tkL.k (AF.Same.keepT s4)
  refine ⟨.ref D, rfl, D, L, rfl, .of eD4, fun p np => ?_⟩
  have sp := AF.same_new np (.lst (AF.evens L))
  have s14 := (s13.trans s4).trans sp
  refine ⟨p, _, _, AF.evens (AF.nums b.tk), rfl, upd_same, (tks_evens tkL4).k (AF.Same.keepT sp), htn.evens, Nat.le_trans (AF.evens_len _) hnl, fun t ht => hpl t ((List.mem_filter.mp (AF.evens_sub _ t ht)).1), fun htwc H5 s5 => ?_, fun i t hi ht => ?_⟩
  case refine_2 => exact (er t.1 _ (by simp only [AF.dueP, ho, hrg, hi, ht, Option.map_some])).same s14
  have s25 := ((s3.trans s4).trans sp).trans s5
  have ea5 := s25 _ _ ea2
  have tk5 := tk2.k (AF.Same.keepT s25)
  have s15 := (s1.trans s2).trans s25
  refine ⟨.ref a, rfl, a, us, ts, b.tk, rfl, ea5, tk5, htw, hpos, hpl, fun hb hd H6 s6 => ?_, fun t ht => ⟨fun hb => ?_, fun hb hd => ?_⟩⟩
  case refine_2 => exact (er t.1 _ (by simp only [AF.dueP, ho, hrg, htwc, if_pos hb, ht, Option.map_some])).same s15
  case refine_3 => exact (er t.1 _ (by simp only [AF.dueP, ho, hrg, htwc, if_neg (Int.not_lt.mpr hb), if_pos hd, ht, Option.map_some])).same s15
  have ea6 := s6 _ _ ea5
  have tk6 := tk5.k (AF.Same.keepT s6)
  have s16 := ((s1.trans s2).trans s25).trans s6
  refine ⟨.ref a, rfl, a, rfl, ⟨us, .of ea6⟩, fun D2 nD2 => ?_⟩
  refine lc_list (xs := us) (Pv := fun i H7 => Same H6 H7 ∧ H7 D2 = some (.lst (((ts.take i).map (·.2)).map fun x => V.str (AF.S x)))) ?_ ?_ ?_ ?_
  · exact ⟨AF.same_new nD2 _, upd_same⟩
  · rintro i H7 _ ⟨s7, _⟩
    exact .of (s7 _ _ ea6)
  · rintro i y H7 hy ⟨s7, eD2⟩
    have hi : i < us.length := (List.getElem?_eq_some_iff.mp hy).1
    obtain ⟨t, c, ht, rfl, hc⟩ := (tk6.k (AF.Same.keepT s7)).get hy
    refine ⟨c, [.int (t.1 : Int), .str (AF.S t.2)], rfl, .of hc, rfl, _, _, rfl, _, _, rfl, rfl, rfl, ?_⟩
    refine ⟨_, rfl, _, eD2, ?_, AF.same_upd s7 nD2 _, ?_⟩
    · rw [List.length_map, List.length_map, List.length_take]
      exact AF.roomy (by omega)
    · rw [upd_same, List.take_add_one, ht, List.map_append, List.map_append]
      rfl
  rintro H7 ⟨s7, eD2⟩
  rw [List.take_of_length_le (by omega)] at eD2
  refine ⟨D2, _, b.tk, b, rfl, eD2, htw.words, AF.Box.bld_doc b sm, by omega, fun v H8 s8 bv => ?_⟩
  exact q (by simp only [AF.dueP, ho, hrg, htwc, if_neg (Int.not_lt.mpr hb), if_neg (Int.not_lt.mpr hd)]) v H8 ((s16.trans s7).trans s8)

end
end K03
namespace K03
open PySem PySem.Spec PyProof.Rows L2
section
variable {P : Program} {w : World} {K : PySem.W.Frag} {mg : Str → Option Value} {base : Heap}
/-! ### the law's draws -/
def spDraw (K : PySem.W.Frag) : Sp := fun vs H Q _ => ∃ (a : Addr) (ns : List Int), vs = [.ref a] ∧ SqL K H a (ns.map V.int) ∧ ∀ (d l : Addr) (H' : Hp), Same H H' → H d = none → H l = none → AF.DrawAt H' d l → Q (.ref d) H'
theorem ok_law_draw (T : Tx K mg w) : FnOk P w K mg base CX0 1 T.d_law_draw.f T.d_law_draw.fd ["script"] (spDraw K) := by
  refine T.d_law_draw.F.ok sc_law_draw (fun vs H Q E h => ?_) (fun cdv A outer s H vs Q E hr h => ?_)
  · obtain ⟨a, ns, rfl, _⟩ := h
    rfl
  obtain ⟨a, ns, rfl, hS, q⟩ := h
  refine ⟨_, (pss_one (ps_ret (pe_lst (pa_cons (pe_callTy (AF.listK K rfl) (by rfl) T.z_list (by decide +kernel) (pa_cons (pv 0) pa_nil)) (pa_cons pe_int (pa_cons pe_int (pa_cons pe_int pa_nil))))))), ?_⟩
  refine ⟨.ref a, rfl, a, _, rfl, .inl hS, fun l nl => ⟨(by show 4 ≤ sizeLine; decide), fun d nd => ?_⟩⟩
  have s1 : Same H (upd H l (.lst (ns.map V.int))) := AF.same_new nl _
  have nld : l ≠ d := fun e => by rw [← e, upd_same] at nd; cases nd
  refine q d l _ (s1.trans (AF.same_new nd _)) (Same.free s1 nd) nl ⟨ns, 0, 0, 17, upd_same, ?_, Int.le_refl 0, nld⟩
  rw [upd_ne nld]
  exact upd_same
def spNext : Sp := fun vs H Q _ => ∃ (d l : Addr) (m : Int), vs = [.ref d, .int m] ∧ AF.DrawAt H d l ∧ 0 < m ∧ m < 1073741824 ∧
  ∀ (x : Int) (H' : Hp), 0 ≤ x → x < m → AF.DrawAt H' d l → AF.But [d] H H' → AF.KeepT H H' → Q (.int x) H'
theorem ok_law_next (T : Tx K mg w) : FnOk P w K mg base CX0 1 T.d_law_next.f T.d_law_next.fd ["draw", "many"] spNext := by
  refine T.d_law_next.F.ok sc_law_next (fun vs H Q E h => ?_) (fun cdv A outer s H vs Q E hr h => ?_)
  · obtain ⟨d, l, m, rfl, _⟩ := h
    rfl
  obtain ⟨d, l, m, rfl, hD, hm, hm2, q⟩ := h
  obtain ⟨ns, i, r, z, hd, hl, hi, nld⟩ := hD
  refine ⟨_, (pss_cons (ps_if (pt_cmpR op_gt (pe_ix (AF.ixL K rfl) (pv 0) pe_int (fun _ _ => rfl)) pe_int (nomark _))
      (pss_cons (ps_set (i := 2) sc_law_next.nd rfl (Or.inl rfl) (pe_op op_mod (pe_callTy call_int1 (by rfl) T.z_int (by decide +kernel) (pa_cons (pe_ix (AF.ixL K rfl) (pv 0) pe_int (fun _ _ => rfl)) pa_nil)) (pv 1)))
      (pss_cons (ps_asg (pe_op op_fdiv (pe_ix (AF.ixL K rfl) (pv 0) pe_int (fun _ _ => rfl)) (pv 1)) (pg_sub (pv 0) pe_int set_list))
      (pss_one (ps_ret (pv 2)))))
      pss_nil)
      (pss_cons (ps_if (pt_cmpR op_lt (pe_ix (AF.ixL K rfl) (pv 0) pe_int (fun _ _ => rfl)) (pe_callB (AF.lenK K rfl) (by rfl) T.z_len (by decide +kernel) (pa_cons (pe_ix (AF.ixL K rfl) (pv 0) pe_int (fun _ _ => rfl)) pa_nil)) (nomark _))
      (pss_cons (ps_set (i := 3) sc_law_next.nd rfl (Or.inl rfl) (pe_callB call_abs (by rfl) T.z_abs (by decide +kernel) (pa_cons (pe_ix (AF.ixL K rfl) (pe_ix (AF.ixL K rfl) (pv 0) pe_int (fun _ _ => rfl)) (pe_ix (AF.ixL K rfl) (pv 0) pe_int (fun _ _ => rfl)) (fun _ _ => rfl)) pa_nil)))
      (pss_cons (ps_asg (pe_op op_add (pe_ix (AF.ixL K rfl) (pv 0) pe_int (fun _ _ => rfl)) pe_int) (pg_sub (pv 0) pe_int set_list))
      (pss_cons (ps_if (pt_cmpR op_ge (pv 3) (pe_op op_pow pe_int pe_int) (nomark _))
      (pss_cons (ps_asg (pe_op op_fdiv (pv 3) (pv 1)) (pg_sub (pv 0) pe_int set_list))
      (pss_one (ps_ret (pe_op op_mod (pe_callTy call_int1 (by rfl) T.z_int (by decide +kernel) (pa_cons (pv 3) pa_nil)) (pv 1)))))
      pss_nil)
      (pss_one (ps_asg (pe_op op_mod (pe_callTy call_int1 (by rfl) T.z_int (by decide +kernel) (pa_cons (pe_op op_add (pe_op op_add (pe_op op_mul (pe_ix (AF.ixL K rfl) (pv 0) pe_int (fun _ _ => rfl)) pe_int) (pv 3)) pe_int) pa_nil)) pe_int) (pg_sub (pv 0) pe_int set_list))))))
      (pss_one (ps_asg (pe_op op_mod (pe_callTy call_int1 (by rfl) T.z_int (by decide +kernel) (pa_cons (pe_op op_add (pe_op op_mul (pe_ix (AF.ixL K rfl) (pv 0) pe_int (fun _ _ => rfl)) pe_int) pe_int) pa_nil)) pe_int) (pg_sub (pv 0) pe_int set_list))))
      (pss_one (ps_ret (pe_op op_mod (pe_op op_fdiv (pe_callTy call_int1 (by rfl) T.z_int (by decide +kernel) (pa_cons (pe_op op_mod (pe_op op_mul (pe_ix (AF.ixL K rfl) (pv 0) pe_int (fun _ _ => rfl)) pe_int) pe_int) pa_nil)) pe_int) (pv 1)))))), ?_⟩
  have hdl : ∀ o, (upd H d o) l = some (.lst (ns.map V.int)) := fun o => by
    rw [upd_ne nld]
    exact hl
  refine ⟨.ref d, rfl, d, _, _, _, rfl, rfl, .of hd, rfl, _, _, rfl, rfl, _, rfl, ite2 (fun c => ?_) (fun c => ?_)⟩
  · refine ⟨.ref d, rfl, d, _, _, _, rfl, rfl, .of hd, rfl, .inl ⟨r, rfl, _, rfl, _, _, rfl, rfl, hm, ?_⟩⟩
    refine ⟨.ref d, rfl, d, _, _, _, rfl, rfl, .of hd, rfl, _, rfl, _, _, rfl, rfl, ⟨hm, hm2⟩, .ref d, rfl, d, _, _, _, rfl, rfl, hd, rfl, ?_⟩
    refine ⟨_, rfl, ?_⟩
    exact q _ _ (AF.fmod_lo hm) (AF.fmod_hi hm) ⟨ns, i, r / m, z, upd_same, hdl _, hi, nld⟩ (AF.but_upd _) (AF.keepT_upd hd _)
  · -- the end, the same on every way
    have fin : ∀ (i' r' z' : Int) (H1 : Hp), H1 = upd H d (.lst [.ref l, .int i', .int r', .int z']) → 0 ≤ i' → Q (.int (z' * 69621 % 2147483629 / 7 % m)) H1 := by
      rintro i' r' z' H1 rfl h0
      exact q _ _ (AF.fmod_lo hm) (AF.fmod_hi hm) ⟨ns, i', r', z', upd_same, hdl _, h0, nld⟩ (AF.but_upd _) (AF.keepT_upd hd _)
    refine ⟨.ref d, rfl, d, _, _, _, rfl, rfl, .of hd, rfl, .ref d, rfl, d, _, _, _, rfl, rfl, .of hd, rfl, l, _, rfl, .inl (.of hl), _, _, rfl, rfl, _, rfl, ite2 (fun c2 => ?_) (fun c2 => ?_)⟩
    · have hlt : i.toNat < ns.length := by
        have h1 : i < (((ns.map V.int).length : Nat) : Int) := of_decide_eq_true c2
        rw [List.length_map] at h1
        omega
      have ei : i = ((i.toNat : Nat) : Int) := by omega
      have ea : atI (ns.map V.int) i = some (V.int ns[i.toNat]) := by
        have : atI (ns.map V.int) ((i.toNat : Nat) : Int) = some (V.int ns[i.toNat]) := atI_nat (by rw [List.getElem?_map, List.getElem?_eq_getElem hlt]; rfl)
        rw [← ei] at this
        exact this
      refine ⟨.ref d, rfl, d, _, _, _, rfl, rfl, .of hd, rfl, .ref d, rfl, d, _, _, _, rfl, rfl, .of hd, rfl, l, _, _, _, rfl, rfl, .of hl, ea, _, rfl, ?_⟩
      -- draw[1] = draw[1] + 1
      refine ⟨.ref d, rfl, d, _, _, _, rfl, rfl, .of hd, rfl, _, _, rfl, rfl, .ref d, rfl, d, _, _, _, rfl, rfl, hd, rfl, ?_⟩
      have hd1 : (upd H d (.lst [.ref l, .int (i + 1), .int r, .int z])) d = some (.lst [.ref l, .int (i + 1), .int r, .int z]) := upd_same
      refine ⟨_, rfl, _, _, rfl, rfl, ⟨by decide, by decide, by decide⟩, _, _, rfl, rfl, _, rfl, ite2 (fun c3 => ?_) (fun c3 => ?_)⟩
      · refine ⟨_, rfl, _, rfl, _, _, rfl, rfl, ⟨hm, hm2⟩, .ref d, rfl, d, _, _, _, rfl, rfl, hd1, rfl, ?_⟩
        refine ⟨_, rfl, .inl ⟨_, rfl, _, rfl, _, _, rfl, rfl, hm, ?_⟩⟩
        rw [upd_upd]
        exact q _ _ (AF.fmod_lo hm) (AF.fmod_hi hm) ⟨ns, i + 1, _, z, upd_same, hdl _, by omega, nld⟩ (AF.but_upd _) (AF.keepT_upd hd _)
      · refine ⟨.ref d, rfl, d, _, _, _, rfl, rfl, .of hd1, rfl, _, _, rfl, rfl, .inr ⟨by decide, by decide⟩, _, rfl, _, _, rfl, rfl, _, _, rfl, rfl, .inl ⟨_, rfl, _, _, rfl, rfl, (by show (0 : Int) < 2147483647; decide), .ref d, rfl, d, _, _, _, rfl, rfl, hd1, rfl, ?_⟩⟩
        refine ⟨.ref d, rfl, d, _, _, _, rfl, rfl, .of upd_same, rfl, _, _, rfl, rfl, .inr ⟨by decide, by decide⟩, _, _, rfl, rfl, (by show (0 : Int) < 2147483629; decide), .inl ⟨_, rfl, _, _, rfl, rfl, ⟨by decide, by decide⟩, _, rfl, _, _, rfl, rfl, hm, ?_⟩⟩
        exact fin (i + 1) r _ _ upd_upd (by omega)
    · refine ⟨.ref d, rfl, d, _, _, _, rfl, rfl, .of hd, rfl, _, _, rfl, rfl, .inr ⟨by decide, by decide⟩, _, _, rfl, rfl, .inl ⟨_, rfl, _, _, rfl, rfl, (by show (0 : Int) < 2147483647; decide), .ref d, rfl, d, _, _, _, rfl, rfl, hd, rfl, ?_⟩⟩
      refine ⟨.ref d, rfl, d, _, _, _, rfl, rfl, .of upd_same, rfl, _, _, rfl, rfl, .inr ⟨by decide, by decide⟩, _, _, rfl, rfl, (by show (0 : Int) < 2147483629; decide), .inl ⟨_, rfl, _, _, rfl, rfl, ⟨by decide, by decide⟩, _, rfl, _, _, rfl, rfl, hm, ?_⟩⟩
      exact fin i r _ _ rfl hi

end
end K03
namespace K03
open PySem PySem.Spec PyProof.Rows L2
section
variable {P : Program} {w : World} {K : PySem.W.Frag} {mg : Str → Option Value} {base : Heap}
/-! ### the law's comparison, of data that is the same -/
def spSame (K : PySem.W.Frag) (n : Nat) : Sp := fun vs H Q _ => ∃ (x y : V) (d : PyData), vs = [x, y] ∧ Dp K H x d ∧ Dp K H y d ∧ AF.dd d < n ∧ AF.wd d ≤ 1000 ∧ ∀ H' : Hp, Same H H' → Q (.bl true) H'
theorem ok_same_step (T : Tx K mg w) {n : Nat} (G_law_same : FnOk P w K mg base CX0 n T.d_law_same.f T.d_law_same.fd ["actual", "due"] (spSame K n)) :
    FnOk P w K mg base CX0 (n + 1) T.d_law_same.f T.d_law_same.fd ["actual", "due"] (spSame K (n + 1)) := by
  refine T.d_law_same.F.ok sc_law_same (fun vs H Q E h => ?_) (fun cdv A outer s H vs Q E hr h => ?_)
  · obtain ⟨x, y, d, rfl, _⟩ := h
    rfl
  obtain ⟨x, y, d, rfl, hx, hy, hd, hw, q⟩ := h
  have nd := AF.Dp.nodict hx
  refine ⟨_, (pss_cons (ps_if (pt_val (pe_callB (AF.isiTK K rfl) (by rfl) T.z_isinstance (by decide +kernel) (pa_cons (pv 1) (pa_cons (pe_tup (pa_cons (pe_bltn (v := .ty "list") (by rfl) T.z_list (by decide +kernel) rfl) (pa_cons (pe_bltn (v := .ty "tuple") (by rfl) T.z_tuple (by decide +kernel) rfl) pa_nil))) pa_nil))))
      (pss_cons (ps_if (PW.pt (pw_or (pt_cmpR op_ne (pe_callB (AF.isiK K rfl) (by rfl) T.z_isinstance (by decide +kernel) (pa_cons (pv 1) (pa_cons (pe_bltn (v := .ty "list") (by rfl) T.z_list (by decide +kernel) rfl) pa_nil))) (pe_callB (AF.isiK K rfl) (by rfl) T.z_isinstance (by decide +kernel) (pa_cons (pv 0) (pa_cons (pe_bltn (v := .ty "list") (by rfl) T.z_list (by decide +kernel) rfl) pa_nil))) (nomark _)) (pw_or1 (pt_cmpR op_ne (pe_callB (AF.isiK K rfl) (by rfl) T.z_isinstance (by decide +kernel) (pa_cons (pv 1) (pa_cons (pe_bltn (v := .ty "tuple") (by rfl) T.z_tuple (by decide +kernel) rfl) pa_nil))) (pe_callB (AF.isiK K rfl) (by rfl) T.z_isinstance (by decide +kernel) (pa_cons (pv 0) (pa_cons (pe_bltn (v := .ty "tuple") (by rfl) T.z_tuple (by decide +kernel) rfl) pa_nil))) (nomark _)))))
      (pss_one (ps_ret pe_bl))
      pss_nil)
      (pss_cons (ps_if (pt_cmpR op_ne (pe_callB (AF.lenK K rfl) (by rfl) T.z_len (by decide +kernel) (pa_cons (pv 0) pa_nil)) (pe_callB (AF.lenK K rfl) (by rfl) T.z_len (by decide +kernel) (pa_cons (pv 1) pa_nil)) (nomark _))
      (pss_one (ps_ret pe_bl))
      pss_nil)
      (pss_one (ps_ret (pe_callB (AF.allK K rfl rfl) (by rfl) T.z_all (by decide +kernel) (pa_cons (pe_lc (own := [("k", 2)]) (g := gName 2) rfl sc_law_same.nd (pi_range1 (by rfl) T.z_range (pa_cons (pe_callB (AF.lenK K rfl) (by rfl) T.z_len (by decide +kernel) (pa_cons (pv 1) pa_nil)) pa_nil)) (blkOk_by (own := [("k", 2)]) (N := ["actual", "due", "k"]) (sc := defScope s_law_same) (by decide +kernel)) (fun _ _ _ _ _ => (pg_name (i := 2) sc_law_same.nd rfl (Or.inl rfl))) (fun _ _ _ _ _ => pts_nil) (fun _ _ _ _ _ => (AF.cal T.d_law_same G_law_same (hr.mono (by omega)) (pa_cons (pe_ix (AF.ixLT K rfl) (pv 0) (pv 2) (fun _ _ => rfl)) (pa_cons (pe_ix (AF.ixLT K rfl) (pv 1) (pv 2) (fun _ _ => rfl)) pa_nil))))) pa_nil))))))
      pss_nil)
      (pss_cons (ps_if (pt_cmpR op_isN (pv 1) pe_non (nomark _))
      (pss_one (ps_ret (pe_cmpR op_isN (pv 0) pe_non (nomark _))))
      pss_nil)
      (pss_cons (ps_if (pt_cmpR op_ne (pe_callB (AF.isiK K rfl) (by rfl) T.z_isinstance (by decide +kernel) (pa_cons (pv 1) (pa_cons (pe_bltn (v := .ty "bool") (by rfl) T.z_bool (by decide +kernel) rfl) pa_nil))) (pe_callB (AF.isiK K rfl) (by rfl) T.z_isinstance (by decide +kernel) (pa_cons (pv 0) (pa_cons (pe_bltn (v := .ty "bool") (by rfl) T.z_bool (by decide +kernel) rfl) pa_nil))) (nomark _))
      (pss_one (ps_ret pe_bl))
      pss_nil)
      (pss_cons (ps_if (pt_val (pe_callB (AF.isiK K rfl) (by rfl) T.z_isinstance (by decide +kernel) (pa_cons (pv 1) (pa_cons (pe_bltn (v := .ty "str") (by rfl) T.z_str (by decide +kernel) rfl) pa_nil))))
      (pss_one (ps_ret (pe_and (pe_callB (AF.isiK K rfl) (by rfl) T.z_isinstance (by decide +kernel) (pa_cons (pv 0) (pa_cons (pe_bltn (v := .ty "str") (by rfl) T.z_str (by decide +kernel) rfl) pa_nil))) (pe_one (pe_cmpR op_eq (pv 0) (pv 1) (nomark _))))))
      pss_nil)
      (pss_one (ps_ret (pe_and (pe_callB (AF.isiK K rfl) (by rfl) T.z_isinstance (by decide +kernel) (pa_cons (pv 0) (pa_cons (pe_bltn (v := .ty "int") (by rfl) T.z_int (by decide +kernel) rfl) pa_nil))) (pe_one (pe_cmpR op_eq (pv 0) (pv 1) (nomark _)))))))))), ?_⟩
  refine ⟨y, rfl, (by show 2 ≤ sizeLine; decide), fun t nt => ?_⟩
  have s0 : Same H (upd H t (.tup [.ty "list", .ty "tuple"])) := AF.same_new nt _
  have hx0 := AF.Dp.s hx s0
  have hy0 := AF.Dp.s hy s0
  refine ⟨y, t, _, _, _, _, rfl, upd_same, AF.cls2, (AF.Dp.ty hy0), AF.kit_seq nd, _, rfl, ?_⟩
  by_cases hs : (AF.isLi d || AF.isTu d) = true
  · refine AF.iteP hs ?_
    refine ⟨y, rfl, y, _, _, _, _, rfl, .ty _, (AF.Dp.ty hy0), AF.kit_li nd, x, rfl, x, _, _, _, _, rfl, .ty _, (AF.Dp.ty hx0), AF.kit_li nd, rfl, _, rfl, iteNS rfl ?_⟩
    refine ⟨y, rfl, y, _, _, _, _, rfl, .ty _, (AF.Dp.ty hy0), AF.kit_tu nd, x, rfl, x, _, _, _, _, rfl, .ty _, (AF.Dp.ty hx0), AF.kit_tu nd, rfl, _, rfl, iteNS rfl ?_⟩
    obtain ⟨a, b, xs, ys, ds, rfl, rfl, hds, h1, h2, hxs, hys⟩ : ∃ (a b : Addr) (xs ys : List V) (ds : List PyData), x = .ref a ∧ y = .ref b ∧ (d = .list ds ∨ d = .tuple ds) ∧
        (SqL K (upd H t (.tup [.ty "list", .ty "tuple"])) a xs ∨ SqT K (upd H t (.tup [.ty "list", .ty "tuple"])) a xs) ∧ (SqL K (upd H t (.tup [.ty "list", .ty "tuple"])) b ys ∨ SqT K (upd H t (.tup [.ty "list", .ty "tuple"])) b ys) ∧
        DpAll K (upd H t (.tup [.ty "list", .ty "tuple"])) xs ds ∧ DpAll K (upd H t (.tup [.ty "list", .ty "tuple"])) ys ds := by
      cases d with
      | list ds =>
        cases hx0 with
        | lst a1 a2 =>
          cases hy0 with
          | lst b1 b2 => exact ⟨_, _, _, _, ds, rfl, rfl, .inl rfl, .inl a1, .inl b1, a2, b2⟩
      | tuple ds =>
        cases hx0 with
        | tup a1 a2 =>
          cases hy0 with
          | tup b1 b2 => exact ⟨_, _, _, _, ds, rfl, rfl, .inr rfl, .inr a1, .inr b1, a2, b2⟩
      | none => cases hs
      | bool _ => cases hs
      | int _ => cases hs
      | str _ => cases hs
      | dict _ => cases hs
    have lx := AF.DpAll.len hxs
    have ly := AF.DpAll.len hys
    have hdl : AF.ddL ds < n ∧ ds.length ≤ 1000 ∧ AF.wdL ds ≤ 1000 := by
      rcases hds with rfl | rfl
      · simp only [AF.dd, AF.wd] at hd hw
        omega
      · simp only [AF.dd, AF.wd] at hd hw
        omega
    have ll : ((xs.length : Nat) : Int) = ((ys.length : Nat) : Int) := by omega
    refine ⟨.ref a, rfl, a, xs, rfl, h1, .ref b, rfl, b, ys, rfl, h2, rfl, _, rfl, iteNS (congrArg V.int ll) ?_⟩
    refine ⟨.ref b, rfl, b, ys, rfl, h2, ((ys.length : Nat) : Int), rfl, by omega, by omega, fun D nD => ?_⟩
    have nHD : H D = none := Same.free s0 nD
    refine lc_range (lo := 0) (n := ys.length) (Pv := fun i H3 => Same (upd H t (.tup [.ty "list", .ty "tuple"])) H3 ∧ H3 D = some (.lst ((List.replicate i true).map V.bl))) ?_ ?_ ?_
    · exact ⟨AF.same_new nD _, upd_same⟩
    · rintro i H3 hi ⟨sm, eD⟩
      have hi2 : i < ds.length := by omega
      have hc : ds[i]? = some ds[i] := List.getElem?_eq_getElem hi2
      obtain ⟨v, hv, dv⟩ := AF.DpAll.get hxs hc
      obtain ⟨u, hu, du⟩ := AF.DpAll.get hys hc
      have hm : ds[i] ∈ ds := List.getElem_mem hi2
      have hm1 := AF.ddL_mem hm
      have hm2 := AF.wdL_mem hm
      have i1 : rIxL K (.ref a) (.int (0 + (i : Int))) H3 (fun z H' => z = v ∧ H' = H3) ∨ rIxT K (.ref a) (.int (0 + (i : Int))) H3 (fun z H' => z = v ∧ H' = H3) := by
        rcases h1 with h1 | h1
        · exact .inl ⟨a, xs, _, v, rfl, rfl, Same.seq sm h1, at_of (Int.zero_add _) hv, rfl, rfl⟩
        · exact .inr ⟨a, xs, _, v, rfl, rfl, AF.Same.seqT sm h1, at_of (Int.zero_add _) hv, rfl, rfl⟩
      refine ⟨rfl, .ref a, rfl, .int (0 + (i : Int)), rfl, ?_⟩
      have fin : ∀ H' : Hp, Same H3 H' → ∃ acc, H' D = some (.lst acc) ∧ acc.length < sizeLine ∧ Same (upd H t (.tup [.ty "list", .ty "tuple"])) (upd H' D (.lst (acc ++ [.bl true]))) ∧
          (upd H' D (.lst (acc ++ [.bl true]))) D = some (.lst ((List.replicate (i + 1) true).map V.bl)) := fun H' s' => by
        refine ⟨_, s' _ _ eD, ?_, AF.same_upd (sm.trans s') nD _, ?_⟩
        · rw [List.length_map, List.length_replicate]
          exact Nat.lt_of_le_of_lt (by omega) AF.sl1000
        · rw [upd_same, List.replicate_succ', List.map_append]
          rfl
      have go : spSame K n [v, u] H3 (fun y H4 => ∃ acc, H4 D = some (.lst acc) ∧ acc.length < sizeLine ∧ Same (upd H t (.tup [.ty "list", .ty "tuple"])) (upd H4 D (.lst (acc ++ [y]))) ∧
          (upd H4 D (.lst (acc ++ [y]))) D = some (.lst ((List.replicate (i + 1) true).map V.bl))) E0 :=
        ⟨v, u, ds[i], rfl, AF.Dp.s dv sm, AF.Dp.s du sm, by omega, by omega, fin⟩
      have i2 : ∀ R : V → Hp → Prop, R u H3 → (rIxL K (.ref b) (.int (0 + (i : Int))) H3 R ∨ rIxT K (.ref b) (.int (0 + (i : Int))) H3 R) := fun R hR => by
        rcases h2 with h2 | h2
        · exact .inl ⟨b, ys, _, u, rfl, rfl, Same.seq sm h2, at_of (Int.zero_add _) hu, hR⟩
        · exact .inr ⟨b, ys, _, u, rfl, rfl, AF.Same.seqT sm h2, at_of (Int.zero_add _) hu, hR⟩
      rcases h1 with h1 | h1
      · exact .inl ⟨a, xs, _, v, rfl, rfl, Same.seq sm h1, at_of (Int.zero_add _) hv, .ref b, rfl, .int (0 + (i : Int)), rfl, i2 _ go⟩
      · exact .inr ⟨a, xs, _, v, rfl, rfl, AF.Same.seqT sm h1, at_of (Int.zero_add _) hv, .ref b, rfl, .int (0 + (i : Int)), rfl, i2 _ go⟩
    · rintro H3 ⟨sm, eD⟩
      refine ⟨D, _, rfl, .of eD, ?_⟩
      have e : (List.replicate ys.length true).all id = true := by simp
      rw [e]
      exact q H3 (s0.trans sm)
  · refine AF.iteN hs ?_
    -- no seq
    have tail : (∀ z : V, y = z → x = z) := fun z e => by
      subst e
      cases d <;> first | (cases hx; done) | (cases hx; cases hy; rfl) | exact absurd rfl hs
    have exy : x = y := tail y rfl
    subst exy
    refine ⟨x, rfl, rfl, _, rfl, ite2 (fun c => ?_) (fun c => ?_)⟩
    · have e : x = .non := of_decide_eq_true c
      subst e
      exact ⟨.non, rfl, rfl, q _ s0⟩
    · refine ⟨x, rfl, x, _, _, _, _, rfl, .ty _, (AF.Dp.ty hx0), AF.kit_bo nd, x, rfl, x, _, _, _, _, rfl, .ty _, (AF.Dp.ty hx0), AF.kit_bo nd, rfl, _, rfl, iteNS rfl ?_⟩
      refine ⟨x, rfl, x, _, _, _, _, rfl, .ty _, (AF.Dp.ty hx0), AF.kit_st nd, _, rfl, ?_⟩
      have fin : scal x x = true → scal x x = true ∧ Q (.bl (decide (x = x))) (upd H t (.tup [.ty "list", .ty "tuple"])) := fun z => ⟨z, by
        rw [decide_eq_true rfl]
        exact q _ s0⟩
      by_cases hst : AF.isSt d = true
      · refine AF.iteP hst ?_
        refine ⟨x, rfl, x, _, _, _, _, rfl, .ty _, (AF.Dp.ty hx0), AF.kit_st nd, _, rfl, ?_⟩
        refine AF.iteP hst ?_
        refine ⟨x, rfl, x, rfl, fin ?_⟩
        cases d <;> first | (cases hx; rfl) | cases hst
      · refine AF.iteN hst ?_
        have hin : AF.isIn d = true := by
          cases d with
          | int _ => rfl
          | bool _ => rfl
          | none =>
            cases hx
            exact absurd (decide_eq_true rfl) c
          | str _ => exact absurd rfl hst
          | list _ => exact absurd rfl hs
          | tuple _ => exact absurd rfl hs
          | dict _ => cases hx
        refine ⟨x, rfl, x, _, _, _, _, rfl, .ty _, (AF.Dp.ty hx0), AF.kit_in nd, _, rfl, ?_⟩
        refine AF.iteP hin ?_
        refine ⟨x, rfl, x, rfl, fin ?_⟩
        cases d <;> first | (cases hx; rfl) | cases hin
theorem ok_same0 (T : Tx K mg w) : FnOk P w K mg base CX0 0 T.d_law_same.f T.d_law_same.fd ["actual", "due"] (spSame K 0) := by
  have no : ∀ vs H Q E, ¬ spSame K 0 vs H Q E := fun vs H Q E h => by
    obtain ⟨x, y, d, _, _, _, h, _⟩ := h
    omega
  exact ⟨fun vs H Q E h => absurd h (no vs H Q E), fun A outer s H args us vs Q E _ _ _ _ h => absurd h (no vs H Q E)⟩
theorem ok_law_same (T : Tx K mg w) : ∀ n : Nat, FnOk P w K mg base CX0 n T.d_law_same.f T.d_law_same.fd ["actual", "due"] (spSame K n)
  | 0 => ok_same0 T
  | n + 1 => ok_same_step T (ok_law_same T n)

end
end K03
namespace K03
open PySem PySem.Spec PyProof.Rows L2
section
variable {P : Program} {w : World} {K : PySem.W.Frag} {mg : Str → Option Value} {base : Heap}
/-! ### the law's documents -/
def spBox (n : Nat) : Sp := fun vs H Q _ => ∃ (d e l : Addr) (lo : Int) (m : Nat), vs = [.ref d, .ref e, .int (m : Int)] ∧ m < n ∧ AF.DrawAt H d l ∧ H e = some (.lst [.int lo]) ∧ e ≠ d ∧ e ≠ l ∧
  ∀ (v : V) (b : AF.Box) (hi : Int) (H' : Hp), AF.BoxAt H' v b → AF.Box.Good m lo hi [b] → AF.DrawAt H' d l → H' e = some (.lst [.int hi]) → AF.But [d, e] H H' → AF.KeepT H H' → Q v H'
theorem ok_box0 (T : Tx K mg w) : FnOk P w K mg base CX0 1 T.d_law_box.f T.d_law_box.fd ["draw", "last", "depth"] (spBox 0) := by
  have no : ∀ vs H Q E, ¬ spBox 0 vs H Q E := fun vs H Q E h => by
    obtain ⟨_, _, _, _, m, _, h, _⟩ := h
    omega
  exact ⟨fun vs H Q E h => absurd h (no vs H Q E), fun A outer s H args us vs Q E _ _ _ _ h => absurd h (no vs H Q E)⟩
theorem ok_box_step (T : Tx K mg w) {n : Nat} (G_law_box : FnOk P w K mg base CX0 (n + 1) T.d_law_box.f T.d_law_box.fd ["draw", "last", "depth"] (spBox n)) :
    FnOk P w K mg base CX0 (n + 2) T.d_law_box.f T.d_law_box.fd ["draw", "last", "depth"] (spBox (n + 1)) := by
  have G_law_next := ok_law_next (P := P) (w := w) (base := base) T
  refine T.d_law_box.F.ok sc_law_box (fun vs H Q E h => ?_) (fun cdv A outer s H vs Q E hr h => ?_)
  · obtain ⟨_, _, _, _, _, rfl, _⟩ := h
    rfl
  obtain ⟨d, e, l, lo, m, rfl, hmn, hD, he, ned, nel, q⟩ := h
  refine ⟨_, (pss_cons (ps_asg (pe_op op_add (pe_op op_add (pe_ix (AF.ixL K rfl) (pv 1) pe_int (fun _ _ => rfl)) pe_int) (AF.cal T.d_law_next G_law_next (hr.mono (by omega)) (pa_cons (pv 0) (pa_cons pe_int pa_nil)))) (pg_sub (pv 1) pe_int set_list))
      (pss_cons (ps_set (i := 3) sc_law_box.nd rfl (Or.inl rfl) (pe_ix (AF.ixL K rfl) (pv 1) pe_int (fun _ _ => rfl)))
      (pss_cons (ps_if (PW.pt (pw_or (pt_cmpR op_eq (pv 2) pe_int (nomark _)) (pw_or1 (pt_cmpR op_gt (AF.cal T.d_law_next G_law_next (hr.mono (by omega)) (pa_cons (pv 0) (pa_cons pe_int pa_nil))) pe_int (nomark _)))))
      (pss_one (ps_ret (pe_tup (pa_cons pe_str (pa_cons (pv 3) (pa_cons (AF.cal T.d_law_next G_law_next (hr.mono (by omega)) (pa_cons (pv 0) (pa_cons pe_int pa_nil))) pa_nil))))))
      pss_nil)
      (pss_cons (ps_set (i := 4) sc_law_box.nd rfl (Or.inl rfl) (AF.cal T.d_law_next G_law_next (hr.mono (by omega)) (pa_cons (pv 0) (pa_cons pe_int pa_nil))))
      (pss_one (ps_ret (pe_tup (pa_cons pe_str (pa_cons (pv 3) (pa_cons (pv 4) (pa_cons (pe_callTy (AF.tupK K rfl) (by rfl) T.z_tuple (by decide +kernel) (pa_cons (pe_lc (own := [("k", 5)]) (g := gName 5) rfl sc_law_box.nd (pi_range1 (by rfl) T.z_range (pa_cons (AF.cal T.d_law_next G_law_next (hr.mono (by omega)) (pa_cons (pv 0) (pa_cons pe_int pa_nil))) pa_nil)) (blkOk_by (own := [("k", 5)]) (N := ["draw", "last", "depth", "number", "height", "k"]) (sc := defScope s_law_box) (by decide +kernel)) (fun _ _ _ _ _ => (pg_name (i := 5) sc_law_box.nd rfl (Or.inl rfl))) (fun _ _ _ _ _ => pts_nil) (fun _ _ _ _ _ => (AF.cal T.d_law_box G_law_box (hr.mono (by omega)) (pa_cons (pv 0) (pa_cons (pv 1) (pa_cons (pe_op op_sub (pv 2) pe_int) pa_nil)))))) pa_nil)) pa_nil))))))))))), ?_⟩
  refine ⟨.ref e, rfl, e, _, _, _, rfl, rfl, .of he, rfl, _, _, rfl, rfl, .ref d, rfl, d, l, 3, rfl, hD, by decide, by decide, fun x H1 hx0 hx1 hD1 b1 k1 => ?_⟩
  have he1 : H1 e = some (.lst [.int lo]) := AF.but_one b1 he ned
  refine ⟨_, _, rfl, rfl, .ref e, rfl, e, _, _, _, rfl, rfl, he1, rfl, ?_⟩
  have ce : AF.But [d, e] H1 (upd H1 e (.lst [.int (lo + 1 + x)])) := (AF.but_upd _).mono (fun b h => List.mem_cons_of_mem _ h)
  have be : AF.But [d, e] H (upd H1 e (.lst [.int (lo + 1 + x)])) := (b1.mono (fun b h => by rw [List.mem_singleton.mp h]; exact List.mem_cons_self)).trans ce
  have ke : AF.KeepT H (upd H1 e (.lst [.int (lo + 1 + x)])) := k1.trans (AF.keepT_upd he1 _)
  have hD2 : AF.DrawAt (upd H1 e (.lst [.int (lo + 1 + x)])) d l := AF.DrawAt.but hD1 (AF.but_upd _) (by simpa using ned.symm) (by simpa using nel.symm)
  refine ⟨.ref e, rfl, e, _, _, _, rfl, rfl, .of upd_same, rfl, ?_⟩
  -- the end where a block comes out
  have blk : ∀ (H3 : Hp), AF.DrawAt H3 d l → H3 e = some (.lst [.int (lo + 1 + x)]) → AF.But [d, e] H H3 → AF.KeepT H H3 →
      spNext [.ref d, .int 7] H3 (fun y H4 => 3 ≤ sizeLine ∧ ∀ p, H4 p = none → Q (.ref p) (upd H4 p (.tup [.str "block", .int (lo + 1 + x), y]))) E0 := fun H3 hD3 he3 b3 k3 => by
    refine ⟨d, l, 7, rfl, hD3, by decide, by decide, fun y H4 hy0 hy1 hD4 b4 k4 => ⟨by decide, fun p np => ?_⟩⟩
    have s4 : Same H4 (upd H4 p (.tup [.str "block", .int (lo + 1 + x), .int y])) := AF.same_new np _
    have b34 : AF.But [d, e] H3 H4 := b4.mono (fun b h => by rw [List.mem_singleton.mp h]; exact List.mem_cons_self)
    refine q (.ref p) (.blk (lo + 1 + x) y) (lo + 1 + x) _ (AF.BoxAt.mkB upd_same) (AF.Box.Good.blk (by omega) (by omega) hy0 (by omega)) (AF.DrawAt.same hD4 s4) (s4 _ _ (AF.but_one b4 he3 ned)) ?_ ?_
    · exact (b3.trans b34).trans (.of s4)
    · exact (k3.trans k4).trans (AF.Same.keepT s4)
  refine ⟨.int (m : Int), rfl, rfl, _, rfl, ite2 (fun c => ?_) (fun c => ?_)⟩
  · exact iteT ⟨.int (lo + 1 + x), rfl, .ref d, rfl, blk _ hD2 upd_same be ke⟩
  · refine ⟨.ref d, rfl, d, l, 3, rfl, hD2, by decide, by decide, fun y H3 hy0 hy1 hD3 b3 k3 => ?_⟩
    have b23 : AF.But [d, e] (upd H1 e (.lst [.int (lo + 1 + x)])) H3 := b3.mono (fun b h => by rw [List.mem_singleton.mp h]; exact List.mem_cons_self)
    have he3 : H3 e = some (.lst [.int (lo + 1 + x)]) := AF.but_one b3 upd_same ned
    refine ⟨_, _, rfl, rfl, _, rfl, ite2 (fun c2 => ?_) (fun c2 => ?_)⟩
    · exact ⟨.int (lo + 1 + x), rfl, .ref d, rfl, blk _ hD3 he3 (be.trans b23) (ke.trans k3)⟩
    · obtain ⟨m', rfl⟩ : ∃ m', m = m' + 1 := by
        cases m with
        | zero => exact absurd (decide_eq_true rfl) c
        | succ m' => exact ⟨m', rfl⟩
      refine ⟨.ref d, rfl, d, l, 9, rfl, hD3, by decide, by decide, fun g H4 hg0 hg1 hD4 b4 k4 => ?_⟩
      have b34 : AF.But [d, e] H3 H4 := b4.mono (fun b h => by rw [List.mem_singleton.mp h]; exact List.mem_cons_self)
      have he4 := AF.but_one b4 he3 ned
      refine ⟨.int (lo + 1 + x), rfl, .int g, rfl, .ref d, rfl, d, l, 3, rfl, hD4, by decide, by decide, fun z H5 hz0 hz1 hD5 b5 k5 => ?_⟩
      have b45 : AF.But [d, e] H4 H5 := b5.mono (fun b h => by rw [List.mem_singleton.mp h]; exact List.mem_cons_self)
      have he5 := AF.but_one b5 he4 ned
      have bAll : AF.But [d, e] H H5 := ((be.trans b23).trans b34).trans b45
      have kAll : AF.KeepT H H5 := ((ke.trans k3).trans k4).trans k5
      refine ⟨z, rfl, by omega, by omega, fun D nD => ?_⟩
      have nDd : D ≠ d := by
        obtain ⟨xs, h⟩ := AF.DrawAt.lst hD5
        exact (ne_of_none h nD).symm
      have nDe : D ≠ e := (ne_of_none he5 nD).symm
      have nDl : D ≠ l := by
        obtain ⟨xs, h⟩ := AF.DrawAt.lst2 hD5
        exact (ne_of_none h nD).symm
      have nHD : ∀ b o, b ∉ [d, e] → H b = some o → b ≠ D := fun b o hn h => ne_of_none (bAll b o hn h) nD
      refine lc_range (lo := 0) (n := z.toNat) (Pv := fun i H6 => ∃ (ws : List V) (bs : List AF.Box) (hi : Int), H6 D = some (.lst ws) ∧ AF.BoxesAt H6 ws bs ∧ bs.length = i ∧ AF.Box.Good m' (lo + 1 + x) hi bs ∧
        AF.DrawAt H6 d l ∧ H6 e = some (.lst [.int hi]) ∧ AF.But [d, e] H H6 ∧ AF.KeepT H H6) ?_ ?_ ?_
      · have s6 : Same H5 (upd H5 D (.lst [])) := AF.same_new nD _
        exact ⟨[], [], lo + 1 + x, upd_same, .nil, rfl, .nil _ _, AF.DrawAt.same hD5 s6, s6 _ _ he5, bAll.trans (.of s6), kAll.trans (AF.Same.keepT s6)⟩
      · rintro i H6 hi6 ⟨ws, bs, hi, eD, bw, bl, gd, hD6, he6, b6, k6⟩
        refine ⟨rfl, .ref d, rfl, .ref e, rfl, .int ((m' + 1 : Nat) : Int), rfl, _, _, rfl, rfl, d, e, l, hi, m', ?_, by omega, hD6, he6, ned, nel, fun v b hi' H7 bv g7 hD7 he7 b7 k7 => ?_⟩
        · have z1 : (((m' + 1 : Nat) : Int) - 1) = (m' : Int) := by omega
          exact congrArg (fun i => [V.ref d, V.ref e, V.int i]) z1
        · have eD7 : H7 D = some (.lst ws) := b7 D _ (by simp [nDd, nDe]) eD
          have hwl := bw.len
          have c7 : AF.But [D] H7 (upd H7 D (.lst (ws ++ [v]))) := AF.but_upd _
          have kt7 : AF.KeepT H7 (upd H7 D (.lst (ws ++ [v]))) := AF.keepT_upd eD7 _
          refine ⟨ws, eD7, small1000 (by omega), ws ++ [v], bs ++ [b], hi', upd_same, ((bw.k k7).k kt7).append (.one (bv.k kt7)), by rw [List.length_append, bl]; rfl, gd.append g7, ?_, ?_, ?_, ?_⟩
          · exact AF.DrawAt.but hD7 c7 (by simpa using nDd.symm) (by simpa using nDl.symm)
          · rw [upd_ne nDe.symm]
            exact he7
          · intro b o hn h
            rw [upd_ne (nHD b o hn h)]
            exact (b6.trans b7) b o hn h
          · exact (k6.trans k7).trans kt7
      · rintro H6 ⟨ws, bs, hi, eD, bw, bl, gd, hD6, he6, b6, k6⟩
        refine ⟨D, ws, rfl, .inl ⟨.of eD, fun t nt => ⟨(by show 4 ≤ sizeLine; decide), fun p np => ?_⟩⟩⟩
        have s7 : Same H6 (upd H6 t (.tup ws)) := AF.same_new nt _
        have s8 : Same (upd H6 t (.tup ws)) (upd (upd H6 t (.tup ws)) p (.tup [.str "scroller", .int (lo + 1 + x), .int g, .ref t])) := AF.same_new np _
        have s78 := s7.trans s8
        refine q (.ref p) (.scr (lo + 1 + x) g bs) hi _ (AF.BoxAt.mkS upd_same (s8 _ _ upd_same) (bw.s s78)) (gd.scr (by omega) (by omega) hg0 (by omega) (by omega)) (AF.DrawAt.same hD6 s78) (s78 _ _ he6) (b6.trans (.of s78)) (k6.trans (AF.Same.keepT s78))
theorem ok_law_box (T : Tx K mg w) : ∀ n : Nat, FnOk P w K mg base CX0 (n + 1) T.d_law_box.f T.d_law_box.fd ["draw", "last", "depth"] (spBox n)
  | 0 => ok_box0 T
  | n + 1 => ok_box_step T (ok_law_box T n)
def spDoc : Sp := fun vs H Q _ => ∃ (d l : Addr), vs = [.ref d] ∧ AF.DrawAt H d l ∧
  ∀ (v : V) (b : AF.Box) (H' : Hp), AF.BoxAt H' v b → AF.Box.Doc b → AF.DrawAt H' d l → AF.But [d] H H' → AF.KeepT H H' → Q v H'
theorem ok_law_document (T : Tx K mg w) : FnOk P w K mg base CX0 5 T.d_law_document.f T.d_law_document.fd ["draw"] spDoc := by
  have G_law_next := ok_law_next (P := P) (w := w) (base := base) T
  have G_law_box := ok_law_box (P := P) (w := w) (base := base) T 3
  refine T.d_law_document.F.ok sc_law_document (fun vs H Q E h => ?_) (fun cdv A outer s H vs Q E hr h => ?_)
  · obtain ⟨_, _, rfl, _⟩ := h
    rfl
  obtain ⟨d, l, rfl, hD, q⟩ := h
  refine ⟨_, (pss_cons (ps_set (i := 1) sc_law_document.nd rfl (Or.inr rfl) (pe_lst (pa_cons (pe_op op_add pe_int (AF.cal T.d_law_next G_law_next (hr.mono (by omega)) (pa_cons (pv 0) (pa_cons pe_int pa_nil)))) pa_nil)))
      (pss_cons (ps_set (i := 2) sc_law_document.nd rfl (Or.inl rfl) (pe_ix (AF.ixL K rfl) (pe_lst (pa_cons pe_int (pa_cons pe_int (pa_cons pe_int (pa_cons pe_int (pa_cons pe_int (pa_cons pe_int pa_nil))))))) (AF.cal T.d_law_next G_law_next (hr.mono (by omega)) (pa_cons (pv 0) (pa_cons pe_int pa_nil))) (fun _ _ => rfl)))
      (pss_cons (ps_set (i := 3) sc_law_document.nd rfl (Or.inl rfl) (pe_ix (AF.ixL K rfl) (pv 1) pe_int (fun _ _ => rfl)))
      (pss_one (ps_ret (pe_tup (pa_cons pe_str (pa_cons (pv 3) (pa_cons (pv 2) (pa_cons (pe_callTy (AF.tupK K rfl) (by rfl) T.z_tuple (by decide +kernel) (pa_cons (pe_lc (own := [("k", 4)]) (g := gName 4) rfl sc_law_document.nd (pi_range1 (by rfl) T.z_range (pa_cons (AF.cal T.d_law_next G_law_next (hr.mono (by omega)) (pa_cons (pv 0) (pa_cons pe_int pa_nil))) pa_nil)) (blkOk_by (own := [("k", 4)]) (N := ["draw", "last", "height", "number", "k"]) (sc := defScope s_law_document) (by decide +kernel)) (fun _ _ _ _ _ => (pg_name (i := 4) sc_law_document.nd rfl (Or.inl rfl))) (fun _ _ _ _ _ => pts_nil) (fun _ _ _ _ _ => (AF.cal T.d_law_box G_law_box (hr.mono (by omega)) (pa_cons (pv 0) (pa_cons (pv 1) (pa_cons (pe_op op_add pe_int (AF.cal T.d_law_next G_law_next (hr.mono (by omega)) (pa_cons (pv 0) (pa_cons pe_int pa_nil)))) pa_nil)))))) pa_nil)) pa_nil)))))))))), ?_⟩
  refine ⟨.ref d, rfl, d, l, 5, rfl, hD, by decide, by decide, fun x H1 hx0 hx1 hD1 b1 k1 => ?_⟩
  refine ⟨_, _, rfl, rfl, (by show 1 ≤ sizeLine; decide), fun e ne => ?_⟩
  have s2 : Same H1 (upd H1 e (.lst [.int (1 + x)])) := AF.same_new ne _
  have hD2 := AF.DrawAt.same hD1 s2
  have ned : e ≠ d := by
    obtain ⟨xs, h⟩ := AF.DrawAt.lst hD1
    exact (ne_of_none h ne).symm
  have nel : e ≠ l := by
    obtain ⟨xs, h⟩ := AF.DrawAt.lst2 hD1
    exact (ne_of_none h ne).symm
  -- height = [..][..]
  refine ⟨by decide, fun g ng => ?_⟩
  have s3 : Same (upd H1 e (.lst [.int (1 + x)])) (upd (upd H1 e (.lst [.int (1 + x)])) g (.lst [.int 0, .int 3, .int 6, .int 9, .int 12, .int 20])) := AF.same_new ng _
  have hD3 := AF.DrawAt.same hD2 s3
  refine ⟨.ref d, rfl, d, l, 6, rfl, hD3, by decide, by decide, fun y H4 hy0 hy1 hD4 b4 k4 => ?_⟩
  have eg4 : H4 g = some (.lst [.int 0, .int 3, .int 6, .int 9, .int 12, .int 20]) := AF.but_one b4 upd_same (by
    obtain ⟨xs, h⟩ := AF.DrawAt.lst hD2
    exact (ne_of_none h ng).symm)
  have he4 : H4 e = some (.lst [.int (1 + x)]) := AF.but_one b4 (s3 _ _ upd_same) ned
  obtain ⟨z, hz, hz0, hz1⟩ : ∃ z : Int, atI [V.int 0, V.int 3, V.int 6, V.int 9, V.int 12, V.int 20] y = some (.int z) ∧ 0 ≤ z ∧ z ≤ 20 := by
    have hc : y = 0 ∨ y = 1 ∨ y = 2 ∨ y = 3 ∨ y = 4 ∨ y = 5 := by omega
    rcases hc with rfl | rfl | rfl | rfl | rfl | rfl
    · exact ⟨0, rfl, by decide, by decide⟩
    · exact ⟨3, rfl, by decide, by decide⟩
    · exact ⟨6, rfl, by decide, by decide⟩
    · exact ⟨9, rfl, by decide, by decide⟩
    · exact ⟨12, rfl, by decide, by decide⟩
    · exact ⟨20, rfl, by decide, by decide⟩
  refine ⟨g, _, _, _, rfl, rfl, .of eg4, hz, .ref e, rfl, e, _, _, _, rfl, rfl, .of he4, rfl, ?_⟩
  have bH4 : AF.But [d] H H4 := (b1.trans (.of (s2.trans s3))).trans b4
  have kH4 : AF.KeepT H H4 := (k1.trans (AF.Same.keepT (s2.trans s3))).trans k4
  have nHe : ∀ b o, b ∉ [d] → H b = some o → b ≠ e := fun b o hn h => ne_of_none (b1 b o hn h) ne
  refine ⟨.int (1 + x), rfl, .int z, rfl, .ref d, rfl, d, l, 5, rfl, hD4, by decide, by decide, fun u H5 hu0 hu1 hD5 b5 k5 => ?_⟩
  have he5 := AF.but_one b5 he4 ned
  refine ⟨u, rfl, by omega, by omega, fun D nD => ?_⟩
  have nDd : D ≠ d := by
    obtain ⟨xs, h⟩ := AF.DrawAt.lst hD5
    exact (ne_of_none h nD).symm
  have nDe : D ≠ e := (ne_of_none he5 nD).symm
  have nDl : D ≠ l := by
    obtain ⟨xs, h⟩ := AF.DrawAt.lst2 hD5
    exact (ne_of_none h nD).symm
  have bH5 := bH4.trans b5
  have kH5 := kH4.trans k5
  have nHD : ∀ b o, b ∉ [d] → H b = some o → b ≠ D := fun b o hn h => ne_of_none (bH5 b o hn h) nD
  refine lc_range (lo := 0) (n := u.toNat) (Pv := fun i H6 => ∃ (ws : List V) (bs : List AF.Box) (hi : Int), H6 D = some (.lst ws) ∧ AF.BoxesAt H6 ws bs ∧ bs.length = i ∧ AF.Box.Good 2 (1 + x) hi bs ∧
    AF.DrawAt H6 d l ∧ H6 e = some (.lst [.int hi]) ∧ AF.But [d] H H6 ∧ AF.KeepT H H6) ?_ ?_ ?_
  · have s6 : Same H5 (upd H5 D (.lst [])) := AF.same_new nD _
    exact ⟨[], [], 1 + x, upd_same, .nil, rfl, .nil _ _, AF.DrawAt.same hD5 s6, s6 _ _ he5, bH5.trans (.of s6), kH5.trans (AF.Same.keepT s6)⟩
  · rintro i H6 hi6 ⟨ws, bs, hi, eD, bw, bl, gd, hD6, he6, b6, k6⟩
    refine ⟨rfl, .ref d, rfl, .ref e, rfl, .ref d, rfl, d, l, 2, rfl, hD6, by decide, by decide, fun r H7 hr0 hr1 hD7 b7 k7 => ?_⟩
    have he7 := AF.but_one b7 he6 ned
    have eD7 : H7 D = some (.lst ws) := AF.but_one b7 eD nDd
    obtain ⟨m, hm, hm2⟩ : ∃ m : Nat, (1 : Int) + r = (m : Int) ∧ m < 3 := ⟨(1 + r).toNat, by omega, by omega⟩
    refine ⟨_, _, rfl, rfl, d, e, l, hi, m, congrArg (fun i => [V.ref d, V.ref e, V.int i]) hm, hm2, hD7, he7, ned, nel, fun v b hi' H8 bv g8 hD8 he8 b8 k8 => ?_⟩
    have eD8 : H8 D = some (.lst ws) := b8 D _ (by simp [nDd, nDe]) eD7
    have hwl := bw.len
    have c8 : AF.But [D] H8 (upd H8 D (.lst (ws ++ [v]))) := AF.but_upd _
    have kt8 : AF.KeepT H8 (upd H8 D (.lst (ws ++ [v]))) := AF.keepT_upd eD8 _
    refine ⟨ws, eD8, small1000 (by omega), ws ++ [v], bs ++ [b], hi', upd_same, (((bw.k k7).k k8).k kt8).append (.one (bv.k kt8)), by rw [List.length_append, bl]; rfl, gd.append (g8.mono (by omega)), ?_, ?_, ?_, ?_⟩
    · exact AF.DrawAt.but hD8 c8 (by simpa using nDd.symm) (by simpa using nDl.symm)
    · rw [upd_ne nDe.symm]
      exact he8
    · intro b o hn h
      rw [upd_ne (nHD b o hn h)]
      refine b8 b o ?_ ((b6.trans b7) b o hn h)
      have h1 : b ≠ d := by simpa using hn
      have h2 := nHe b o hn h
      simp [h1, h2]
    · exact ((k6.trans k7).trans k8).trans kt8
  · rintro H6 ⟨ws, bs, hi, eD, bw, bl, gd, hD6, he6, b6, k6⟩
    refine ⟨D, ws, rfl, .inl ⟨.of eD, fun t nt => ⟨(by show 4 ≤ sizeLine; decide), fun p np => ?_⟩⟩⟩
    have s7 : Same H6 (upd H6 t (.tup ws)) := AF.same_new nt _
    have s8 : Same (upd H6 t (.tup ws)) (upd (upd H6 t (.tup ws)) p (.tup [.str "scroller", .int (1 + x), .int z, .ref t])) := AF.same_new np _
    have s78 := s7.trans s8
    refine q (.ref p) (.scr (1 + x) z bs) _ (AF.BoxAt.mkS upd_same (s8 _ _ upd_same) (bw.s s78)) ⟨1 + x, z, hi, bs, rfl, by omega, by omega, hz0, hz1, gd, by omega⟩ (AF.DrawAt.same hD6 s78) (b6.trans (.of s78)) (k6.trans (AF.Same.keepT s78))

end
end K03
namespace K03
open PySem PySem.Spec PyProof.Rows L2
section
variable {P : Program} {w : World} {K : PySem.W.Frag} {mg : Str → Option Value} {base : Heap}
/-! ### the law's own tokens of a document -/
/-- tokens as words -/
def wrds (as : List AF.At) : List V := as.map fun a => V.str (AF.S a.word)
theorem wrds_app (a b : List AF.At) : wrds (a ++ b) = wrds a ++ wrds b := by simp [wrds]
theorem wrds_len (a : List AF.At) : (wrds a).length = a.length := by simp [wrds]
def spLTok (n : Nat) : Sp := fun vs H Q _ => ∃ (v : V) (b : AF.Box), vs = [v] ∧ AF.BoxAt H v b ∧ b.depth < n ∧ b.Sm ∧ b.pre.length ≤ 1000 ∧
  ∀ (l : Addr) (H' : Hp), Same H H' → H l = none → H' l = some (.lst (wrds b.tk)) → Q (.ref l) H'
theorem ok_ltok0 (T : Tx K mg w) : FnOk P w K mg base CX0 0 T.d_law_tokens.f T.d_law_tokens.fd ["box"] (spLTok 0) := by
  have no : ∀ vs H Q E, ¬ spLTok 0 vs H Q E := fun vs H Q E h => by
    obtain ⟨_, _, _, _, h, _⟩ := h
    omega
  exact ⟨fun vs H Q E h => absurd h (no vs H Q E), fun A outer s H args us vs Q E _ _ _ _ h => absurd h (no vs H Q E)⟩
/-- what the law has behind i parts -/
def sofar (m h : Int) (ps : List AF.Box) : Nat → List AF.At
  | 0 => [.s, .n m.toNat, .c, .n h.toNat]
  | i + 1 => [.s, .n m.toNat, .c, .n h.toNat, .o] ++ AF.Box.tkL (ps.take (i + 1))
theorem ok_ltok_step (T : Tx K mg w) {n : Nat} (G_law_tokens : FnOk P w K mg base CX0 n T.d_law_tokens.f T.d_law_tokens.fd ["box"] (spLTok n)) :
    FnOk P w K mg base CX0 (n + 1) T.d_law_tokens.f T.d_law_tokens.fd ["box"] (spLTok (n + 1)) := by
  refine T.d_law_tokens.F.ok sc_law_tokens (fun vs H Q E h => ?_) (fun cdv A outer s H vs Q E hr h => ?_)
  · obtain ⟨_, _, rfl, _⟩ := h
    rfl
  obtain ⟨v, b, rfl, hb, hdep, sm, hlen, q⟩ := h
  refine ⟨_, (pss_cons (ps_set (i := 1) sc_law_tokens.nd rfl (Or.inl rfl) (pe_lst (pa_cons (pe_ifExp (pt_cmpR op_eq (pe_ix (AF.ixT K rfl) (pv 0) pe_int (fun _ _ => rfl)) pe_str (nomark _)) pe_str pe_str) (pa_cons (pe_callTy call_str_int (by rfl) T.z_str (by decide +kernel) (pa_cons (pe_ix (AF.ixT K rfl) (pv 0) pe_int (fun _ _ => rfl)) pa_nil)) (pa_cons pe_str (pa_cons (pe_callTy call_str_int (by rfl) T.z_str (by decide +kernel) (pa_cons (pe_ix (AF.ixT K rfl) (pv 0) pe_int (fun _ _ => rfl)) pa_nil)) pa_nil))))))
      (pss_cons (ps_if (pt_cmpR op_eq (pe_ix (AF.ixT K rfl) (pv 0) pe_int (fun _ _ => rfl)) pe_str (nomark _))
      (pss_one (ps_ret (pv 1)))
      pss_nil)
      (pss_cons (ps_for PassesOwn.never rfl (AF.piT K rfl (pe_ix (AF.ixT K rfl) (pv 0) pe_int (fun _ _ => rfl))) (pg_name (i := 2) sc_law_tokens.nd rfl (Or.inl rfl))
      (pss_one (ps_set (i := 1) sc_law_tokens.nd rfl (Or.inl rfl) (pe_op op_cat (pe_op op_cat (pv 1) (pe_ifExp (PW.pt (pw_and (pt_cmpR op_eq (pe_ix (AF.ixL K rfl) (pv 1) (pe_un un_neg pe_int) (fun _ _ => rfl)) (pe_callTy call_str_int (by rfl) T.z_str (by decide +kernel) (pa_cons (pe_ix (AF.ixT K rfl) (pv 0) pe_int (fun _ _ => rfl)) pa_nil)) (nomark _)) (pw_and1 (pt_cmpR op_eq (pe_callB (AF.lenK K rfl) (by rfl) T.z_len (by decide +kernel) (pa_cons (pv 1) pa_nil)) pe_int (nomark _))))) (pe_lst (pa_cons pe_str pa_nil)) (pe_lst pa_nil))) (AF.cal T.d_law_tokens G_law_tokens (hr.mono (by omega)) (pa_cons (pv 2) pa_nil))))))
      (pss_one (ps_ret (pe_op op_cat (pe_op op_cat (pv 1) (pe_ifExp (pt_cmpR op_eq (pe_callB (AF.lenK K rfl) (by rfl) T.z_len (by decide +kernel) (pa_cons (pv 1) pa_nil)) pe_int (nomark _)) (pe_lst (pa_cons pe_str pa_nil)) (pe_lst pa_nil))) (pe_lst (pa_cons pe_str pa_nil)))))))), ?_⟩
  obtain ⟨g1, g2, g3, g4⟩ := sm.self
  cases b with
  | blk m h =>
    obtain ⟨a, xs, ev, ha, e⟩ := hb.tup
    have e0 : xs[0]? = some (.str (AF.Box.blk m h).kind) := by
      have := congrArg (fun l => l[0]?) e
      simpa using this
    have e1 : xs[1]? = some (.int (AF.Box.blk m h).num) := by
      have := congrArg (fun l => l[1]?) e
      simpa using this
    have e2 : xs[2]? = some (.int (AF.Box.blk m h).ht) := by
      have := congrArg (fun l => l[2]?) e
      simpa using this
    have e0 : xs[0]? = some (.str "block") := e0
    have e1 : xs[1]? = some (.int m) := e1
    have e2 : xs[2]? = some (.int h) := e2
    simp only [AF.Box.num, AF.Box.ht] at g1 g2 g3 g4
    refine ⟨v, rfl, a, _, _, _, ev, rfl, .of ha, atI_nat (j := 0) e0, rfl, _, rfl, ?_⟩
    refine AF.iteN (by intro z; cases (of_decide_eq_true z)) ?_
    refine ⟨v, rfl, a, _, _, _, ev, rfl, .of ha, atI_nat (j := 1) e1, m, rfl, AF.log_ok g1 g2, ?_⟩
    refine ⟨v, rfl, a, _, _, _, ev, rfl, .of ha, atI_nat (j := 2) e2, h, rfl, AF.log_ok g3 g4, ?_⟩
    refine ⟨(by show 4 ≤ sizeLine; decide), fun l nl => ?_⟩
    have s1 := AF.same_new nl (.lst [V.str "b", V.str (Str.ofString (toString m)), V.str ":", V.str (Str.ofString (toString h))])
    refine ⟨v, rfl, a, _, _, _, ev, rfl, .of (s1 _ _ ha), atI_nat (j := 0) e0, rfl, _, rfl, ?_⟩
    refine AF.iteP (decide_eq_true rfl) ?_
    refine ⟨_, rfl, q l _ s1 nl ?_⟩
    rw [upd_same, AF.num_S g1, AF.num_S g3, AF.lit_b, AF.lit_c]
    simp [AF.Box.tk, wrds, AF.At.word, AF.At.code]
  | scr m h ps =>
    obtain ⟨a, p, ws, ev, ha, ep, bp⟩ := hb.scr
    simp only [AF.Box.num, AF.Box.ht] at g1 g2 g3 g4
    refine ⟨v, rfl, a, _, _, _, ev, rfl, .of ha, atI_nat (j := 0) rfl, rfl, _, rfl, ?_⟩
    refine AF.iteP (decide_eq_true rfl) ?_
    refine ⟨v, rfl, a, _, _, _, ev, rfl, .of ha, atI_nat (j := 1) rfl, m, rfl, AF.log_ok g1 g2, ?_⟩
    refine ⟨v, rfl, a, _, _, _, ev, rfl, .of ha, atI_nat (j := 2) rfl, h, rfl, AF.log_ok g3 g4, ?_⟩
    refine ⟨(by show 4 ≤ sizeLine; decide), fun l nl => ?_⟩
    have s1 := AF.same_new nl (.lst [V.str "s", V.str (Str.ofString (toString m)), V.str ":", V.str (Str.ofString (toString h))])
    refine ⟨v, rfl, a, _, _, _, ev, rfl, .of (s1 _ _ ha), atI_nat (j := 0) rfl, rfl, _, rfl, ?_⟩
    refine AF.iteN (by intro z; cases (of_decide_eq_true z)) ?_
    refine ⟨v, rfl, a, _, _, _, ev, rfl, .of (s1 _ _ ha), atI_nat (j := 3) rfl, p, rfl, ⟨ws, .of (s1 _ _ ep)⟩, ?_⟩
    have hw : ws.length = ps.length := bp.len
    have hge := AF.Box.preL_ge ps
    have hpre : (AF.Box.preL ps).length + 1 = (AF.Box.scr m h ps).pre.length := by simp [AF.Box.pre]
    have htl := AF.Box.tkL_len ps
    have hso : ∀ i, (sofar m h ps i).length ≤ 5 + (AF.Box.tkL ps).length := by
      intro i
      cases i with
      | zero =>
        simp only [sofar, List.length_cons, List.length_nil]
        omega
      | succ i =>
        have e : AF.Box.tkL ps = AF.Box.tkL (ps.take (i + 1)) ++ AF.Box.tkL (ps.drop (i + 1)) := by
          have key : ∀ a b : List AF.Box, AF.Box.tkL (a ++ b) = AF.Box.tkL a ++ AF.Box.tkL b := by
            intro a b
            induction a with
            | nil => simp [AF.Box.tkL]
            | cons x a ih => simp [AF.Box.tkL, ih]
          rw [← key, List.take_append_drop]
        rw [e]
        simp only [sofar, List.length_append, List.length_cons, List.length_nil]
        omega
    -- its head test: the same as: no part yet
    refine for_tup (xs := ws) (Pv := fun i σ H3 => ∃ (c : Addr) (x : Option V), σ = [some v, some (.ref c), x] ∧ Same H H3 ∧ H c = none ∧ H3 c = some (.lst (wrds (sofar m h ps i)))) ?_ ?_ ?_ ?_
    · refine ⟨l, none, rfl, s1, nl, ?_⟩
      rw [upd_same, AF.num_S g1, AF.num_S g3, AF.lit_s, AF.lit_c]
      rfl
    · rintro i σ H3 _ ⟨_, _, _, s3, _⟩
      exact .of (s3 _ _ ep)
    · rintro i y σ H3 hy ⟨c, x, rfl, s3, nc, ec⟩
      obtain ⟨d, hd, by_⟩ := bp.get hy
      have hd : ps[i]? = some d := hd
      have hdm : d ∈ ps := List.mem_of_getElem? hd
      have hd1 : d.depth < n := by
        have h1 := AF.Box.depthL_mem hdm
        simp only [AF.Box.depth] at hdep
        omega
      have hdl := AF.Box.preL_take_le ps d hdm
      have hso1 := hso i
      -- from the list of the bracket on
      have fin : ∀ (ex : List AF.At) (H4 : Hp) (z : Addr), ex.length ≤ 1 → sofar m h ps i ++ ex ++ d.tk = sofar m h ps (i + 1) → H3 z = none → H4 = upd H3 z (.lst (wrds ex)) →
          rCat (.ref c) (.ref z) H4 fun u H5 => ∃ v2, [some v, some (.ref c), some y][2]? = some (some v2) ∧ ∃ (v3 : V) (b : AF.Box), [v2] = [v3] ∧ AF.BoxAt H5 v3 b ∧ b.depth < n ∧ b.Sm ∧ b.pre.length ≤ 1000 ∧
            ∀ (l : Addr) (H' : Hp), Same H5 H' → H5 l = none → H' l = some (.lst (wrds b.tk)) → rCat u (.ref l) H' fun u2 H6 => ∃ (c : Addr) (x : Option V), [some v, some u2, some y] = [some v, some (.ref c), x] ∧ Same H H6 ∧ H c = none ∧ H6 c = some (.lst (wrds (sofar m h ps (i + 1)))) := by
        rintro ex H4 z hex eex nz rfl
        have s4 := AF.same_new nz (.lst (wrds ex))
        have ec4 := s4 _ _ ec
        refine ⟨c, z, _, _, rfl, rfl, ec4, upd_same, ?_, fun t nt => ?_⟩
        · rw [wrds_len, wrds_len]
          exact Nat.le_of_lt (AF.roomy (by omega))
        have s5 := s4.trans (AF.same_new nt (.lst (wrds (sofar m h ps i) ++ wrds ex)))
        refine ⟨y, rfl, y, d, rfl, by_.s (s3.trans s5), hd1, sm.parts.mem hdm, by omega, fun l2 H6 s6 nl2 el2 => ?_⟩
        have et := s6 _ _ (show (upd (upd H3 z (.lst (wrds ex))) t (.lst (wrds (sofar m h ps i) ++ wrds ex))) t = some (.lst (wrds (sofar m h ps i) ++ wrds ex)) from upd_same)
        have hdt := AF.Box.tk_len d
        refine ⟨t, l2, _, _, rfl, rfl, et, el2, ?_, fun t2 nt2 => ?_⟩
        · rw [List.length_append, wrds_len, wrds_len, wrds_len]
          exact Nat.le_of_lt (AF.roomy (by omega))
        have s7 := s5.trans s6
        refine ⟨t2, some y, rfl, (s3.trans s7).trans (AF.same_new nt2 _), Same.free (s3.trans s7) nt2, ?_⟩
        rw [upd_same, ← wrds_app, ← wrds_app, eex]
      cases i with
      | zero =>
        have ec0 : H3 c = some (.lst ([V.str (AF.S [115]), V.str (AF.S (AF.dg m.toNat)), V.str (AF.S [58])] ++ [V.str (AF.S (AF.dg h.toNat))])) := ec
        refine ⟨.ref c, rfl, .ref c, rfl, 1, rfl, c, _, _, _, rfl, rfl, .of ec0, atI_last _ _, ?_⟩
        refine ⟨v, rfl, a, _, _, _, ev, rfl, .of (s3 _ _ ha), atI_nat (j := 2) rfl, h, rfl, AF.log_ok g3 g4, rfl, _, rfl, ?_⟩
        refine AF.iteP (decide_eq_true (by rw [AF.num_S g3])) ?_
        refine ⟨.ref c, rfl, c, _, rfl, .inl (.of ec0), rfl, _, rfl, ?_⟩
        refine AF.iteP (decide_eq_true rfl) ?_
        refine ⟨(by show 1 ≤ sizeLine; decide), fun z nz => ?_⟩
        refine fin [.o] _ z (Nat.le_refl _) ?_ nz ?_
        · have : ps.take (0 + 1) = [d] := by
            rw [List.take_add_one, hd]
            rfl
          simp only [sofar]
          rw [this]
          simp [AF.Box.tkL]
        · show upd H3 z (.lst [V.str "["]) = upd H3 z (.lst [V.str (AF.S [91])])
          rw [AF.lit_o]
      | succ i =>
        have hne : sofar m h ps (i + 1) ≠ [] := by simp [sofar]
        obtain ⟨as0, x0, e0⟩ : ∃ as0 x0, sofar m h ps (i + 1) = as0 ++ [x0] := ⟨_, _, (List.dropLast_concat_getLast hne).symm⟩
        have esp : wrds (sofar m h ps (i + 1)) = wrds as0 ++ [V.str (AF.S x0.word)] := by
          rw [e0, wrds_app]
          rfl
        have hlong : 5 ≤ (sofar m h ps (i + 1)).length := by
          simp only [sofar, List.length_append, List.length_cons]
          omega
        have ec0 := ec
        rw [esp] at ec0
        have eex : sofar m h ps (i + 1) ++ [] ++ d.tk = sofar m h ps (i + 1 + 1) := by
          have : ps.take (i + 1 + 1) = ps.take (i + 1) ++ [d] := by
            rw [List.take_add_one, hd]
            rfl
          have key : ∀ a b : List AF.Box, AF.Box.tkL (a ++ b) = AF.Box.tkL a ++ AF.Box.tkL b := by
            intro a b
            induction a with
            | nil => simp [AF.Box.tkL]
            | cons x a ih => simp [AF.Box.tkL, ih]
          simp only [sofar]
          rw [this, key]
          simp [AF.Box.tkL]
        refine ⟨.ref c, rfl, .ref c, rfl, 1, rfl, c, _, _, _, rfl, rfl, .of ec0, atI_last _ _, ?_⟩
        refine ⟨v, rfl, a, _, _, _, ev, rfl, .of (s3 _ _ ha), atI_nat (j := 2) rfl, h, rfl, AF.log_ok g3 g4, rfl, _, rfl, ite2 (fun _ => ?_) (fun _ => ?_)⟩
        · refine ⟨.ref c, rfl, c, _, rfl, .inl (.of ec), rfl, _, rfl, ?_⟩
          refine AF.iteN ?_ ?_
          · intro z
            have z := V.int.inj (of_decide_eq_true z)
            rw [wrds_len] at z
            omega
          · exact ⟨Nat.zero_le _, fun z nz => fin [] _ z (Nat.zero_le _) eex nz rfl⟩
        · exact ⟨Nat.zero_le _, fun z nz => fin [] _ z (Nat.zero_le _) eex nz rfl⟩
    · rintro σ H3 ⟨c, x, rfl, s3, nc, ec⟩
      have hso1 := hso ws.length
      have fin : ∀ (ex : List AF.At) (H4 : Hp) (z : Addr), ex.length ≤ 1 → sofar m h ps ws.length ++ ex ++ [.e] = (AF.Box.scr m h ps).tk → H3 z = none → H4 = upd H3 z (.lst (wrds ex)) →
          rCat (.ref c) (.ref z) H4 fun u H5 => 1 ≤ sizeLine ∧ ∀ y, H5 y = none → rCat u (.ref y) (upd H5 y (.lst [V.str "]"])) Q := by
        rintro ex H4 z hex eex nz rfl
        have s4 := AF.same_new nz (.lst (wrds ex))
        have ec4 := s4 _ _ ec
        refine ⟨c, z, _, _, rfl, rfl, ec4, upd_same, ?_, fun t nt => ?_⟩
        · rw [wrds_len, wrds_len]
          exact Nat.le_of_lt (AF.roomy (by omega))
        have s5 := s4.trans (AF.same_new nt (.lst (wrds (sofar m h ps ws.length) ++ wrds ex)))
        refine ⟨(by decide), fun y ny => ?_⟩
        have s6 := AF.same_new ny (.lst [V.str "]"])
        have et := s6 _ _ (show (upd (upd H3 z (.lst (wrds ex))) t (.lst (wrds (sofar m h ps ws.length) ++ wrds ex))) t = some (.lst (wrds (sofar m h ps ws.length) ++ wrds ex)) from upd_same)
        refine ⟨t, y, _, _, rfl, rfl, et, upd_same, ?_, fun t2 nt2 => ?_⟩
        · rw [List.length_append, wrds_len, wrds_len]
          exact Nat.le_of_lt (AF.roomy (by simp only [List.length_singleton]; omega))
        have s7 := s5.trans s6
        refine q t2 _ ((s3.trans s7).trans (AF.same_new nt2 _)) (Same.free (s3.trans s7) nt2) ?_
        rw [upd_same, ← eex, wrds_app, wrds_app, AF.lit_e]
        rfl
      cases hps : ps with
      | nil =>
        subst hps
        have h0 : ws.length = 0 := hw
        rw [h0] at ec fin hso1
        refine ⟨.ref c, rfl, .ref c, rfl, c, _, rfl, .inl (.of ec), rfl, _, rfl, ?_⟩
        refine AF.iteP (decide_eq_true rfl) ?_
        refine ⟨(by show 1 ≤ sizeLine; decide), fun z nz => fin [.o] _ z (Nat.le_refl _) ?_ nz ?_⟩
        · simp [sofar, AF.Box.tk, AF.Box.tkL]
        · show upd H3 z (.lst [V.str "["]) = upd H3 z (.lst [V.str (AF.S [91])])
          rw [AF.lit_o]
      | cons d r =>
        have h0 : ∃ j, ws.length = j + 1 := ⟨r.length, by rw [hw, hps]; rfl⟩
        obtain ⟨j, hj⟩ := h0
        have hall : ps.take (j + 1) = ps := List.take_of_length_le (by omega)
        have hlong : 5 ≤ (sofar m h ps ws.length).length := by
          rw [hj]
          simp only [sofar, List.length_append, List.length_cons]
          omega
        refine ⟨.ref c, rfl, .ref c, rfl, c, _, rfl, .inl (.of ec), rfl, _, rfl, ?_⟩
        refine AF.iteN ?_ ?_
        · intro z
          have z := V.int.inj (of_decide_eq_true z)
          rw [wrds_len] at z
          omega
        refine ⟨Nat.zero_le _, fun z nz => fin [] _ z (Nat.zero_le _) ?_ nz rfl⟩
        rw [hj]
        simp only [sofar, hall, AF.Box.tk]
        simp
theorem ok_law_tokens (T : Tx K mg w) : ∀ n : Nat, FnOk P w K mg base CX0 n T.d_law_tokens.f T.d_law_tokens.fd ["box"] (spLTok n)
  | 0 => ok_ltok0 T
  | n + 1 => ok_ltok_step T (ok_law_tokens T n)

end
end K03
namespace K03
open PySem PySem.Spec PyProof.Rows L2
section
variable {P : Program} {w : World} {K : PySem.W.Frag} {mg : Str → Option Value} {base : Heap}
/-! ### the law's changed tokens -/
def spChg : Sp := fun vs H Q _ => ∃ (d l a : Addr) (ws : List (List Nat)), vs = [.ref d, .ref a] ∧ AF.DrawAt H d l ∧ H a = some (.lst (AF.wv ws)) ∧ a ≠ d ∧ AF.AW ws ∧ ws.length ≤ 1000 ∧
  ∀ (p : Addr) (ws' : List (List Nat)) (H' : Hp), AF.AW ws' → ws'.length ≤ ws.length + 2 → H' p = some (.lst (AF.wv ws')) → p ≠ d → AF.DrawAt H' d l → AF.But [d] H H' → AF.KeepT H H' → Q (.ref p) H'
theorem ok_law_changed (T : Tx K mg w) : FnOk P w K mg base CX0 2 T.d_law_changed.f T.d_law_changed.fd ["draw", "tokens"] spChg := by
  have G_law_next := ok_law_next (P := P) (w := w) (base := base) T
  refine T.d_law_changed.F.ok sc_law_changed (fun vs H Q E h => ?_) (fun cdv A outer s H vs Q E hr h => ?_)
  · obtain ⟨_, _, _, _, rfl, _⟩ := h
    rfl
  obtain ⟨d, l, a, ws, rfl, hD, ea, nad, hw, hlen, q⟩ := h
  refine ⟨_, (pss_cons (ps_set (i := 1) sc_law_changed.nd rfl (Or.inl rfl) (pe_callTy (AF.listK K rfl) (by rfl) T.z_list (by decide +kernel) (pa_cons (pv 1) pa_nil)))
      (pss_cons (ps_for PassesOwn.never rfl (pi_range1 (by rfl) T.z_range (pa_cons (AF.cal T.d_law_next G_law_next (hr.mono (by omega)) (pa_cons (pv 0) (pa_cons pe_int pa_nil))) pa_nil)) (pg_name (i := 2) sc_law_changed.nd rfl (Or.inl rfl))
      (pss_cons (ps_set (i := 3) sc_law_changed.nd rfl (Or.inl rfl) (AF.cal T.d_law_next G_law_next (hr.mono (by omega)) (pa_cons (pv 0) (pa_cons (pe_op op_add (pe_callB (AF.lenK K rfl) (by rfl) T.z_len (by decide +kernel) (pa_cons (pv 1) pa_nil)) pe_int) pa_nil))))
      (pss_cons (ps_set (i := 4) sc_law_changed.nd rfl (Or.inl rfl) (pe_ix (AF.ixL K rfl) (pe_lst (pa_cons pe_str (pa_cons pe_str (pa_cons pe_str (pa_cons pe_str (pa_cons pe_str (pa_cons pe_str (pa_cons pe_str (pa_cons pe_str (pa_cons pe_str (pa_cons pe_str (pa_cons pe_str pa_nil)))))))))))) (AF.cal T.d_law_next G_law_next (hr.mono (by omega)) (pa_cons (pv 0) (pa_cons pe_int pa_nil))) (fun _ _ => rfl)))
      (pss_cons (ps_set (i := 5) sc_law_changed.nd rfl (Or.inl rfl) (AF.cal T.d_law_next G_law_next (hr.mono (by omega)) (pa_cons (pv 0) (pa_cons pe_int pa_nil))))
      (pss_one (ps_if (pt_cmpR op_eq (pv 5) pe_int (nomark _))
      (pss_one (ps_set (i := 1) sc_law_changed.nd rfl (Or.inl rfl) (pe_slice (AF.slL K rfl) (pv 1) po_none (po_some (pv 3)))))
      (pss_one (ps_if (pt_cmpR op_eq (pv 5) pe_int (nomark _))
      (pss_one (ps_set (i := 1) sc_law_changed.nd rfl (Or.inl rfl) (pe_op op_cat (pe_op op_cat (pe_slice (AF.slL K rfl) (pv 1) po_none (po_some (pv 3))) (pe_lst (pa_cons (pv 4) pa_nil))) (pe_slice (AF.slL K rfl) (pv 1) (po_some (pv 3)) po_none))))
      (pss_one (ps_if (pt_cmpR op_eq (pv 5) pe_int (nomark _))
      (pss_one (ps_set (i := 1) sc_law_changed.nd rfl (Or.inl rfl) (pe_op op_cat (pe_slice (AF.slL K rfl) (pv 1) po_none (po_some (pv 3))) (pe_slice (AF.slL K rfl) (pv 1) (po_some (pe_op op_add (pv 3) pe_int)) po_none))))
      (pss_one (ps_set (i := 1) sc_law_changed.nd rfl (Or.inl rfl) (pe_op op_cat (pe_op op_cat (pe_slice (AF.slL K rfl) (pv 1) po_none (po_some (pv 3))) (pe_lst (pa_cons (pv 4) pa_nil))) (pe_slice (AF.slL K rfl) (pv 1) (po_some (pe_op op_add (pv 3) pe_int)) po_none))))))))))))))
      (pss_one (ps_ret (pv 1))))), ?_⟩
  refine ⟨.ref a, rfl, a, _, rfl, .inl (.of ea), fun p0 np0 => ?_⟩
  have s0 := AF.same_new np0 (.lst (AF.wv ws))
  have hD0 := AF.DrawAt.same hD s0
  have npd : p0 ≠ d := by
    obtain ⟨xs, e⟩ := hD.lst
    exact (ne_of_none e np0).symm
  refine ⟨.ref d, rfl, d, l, 3, rfl, hD0, by decide, by decide, fun x H1 x0 x1 hD1 b1 k1 => ?_⟩
  refine ⟨x, rfl, by omega, by omega, ?_⟩
  have ep1 : H1 p0 = some (.lst (AF.wv ws)) := b1 _ _ (by simpa using npd) upd_same
  refine for_range (lo := 0) (n := x.toNat) (Pv := fun i σ H3 => ∃ (p : Addr) (us : List (List Nat)) (x2 x3 x4 x5 : Option V), σ = [some (.ref d), some (.ref p), x2, x3, x4, x5] ∧ AF.AW us ∧ us.length ≤ ws.length + i ∧ H3 p = some (.lst (AF.wv us)) ∧ p ≠ d ∧ AF.DrawAt H3 d l ∧ AF.But [d] H H3 ∧ AF.KeepT H H3) ?_ ?_ ?_
  · exact ⟨p0, ws, none, none, none, none, rfl, hw, by omega, ep1, npd, hD1, .trans (.of s0) b1, (AF.Same.keepT s0).trans k1⟩
  · rintro i σ H2 hi ⟨p, us, x2, x3, x4, x5, rfl, hu, hul, ep, npd, hD2, b2, k2⟩
    have hi2 : i < 2 := by omega
    have hwl := AF.wv_len us
    refine ⟨.ref d, rfl, .ref p, rfl, p, _, rfl, .inl (.of ep), _, _, rfl, rfl, d, l, _, rfl, hD2, by omega, by omega, fun at_ H3 a0 a1 hD3 b3 k3 => ?_⟩
    have ep3 := b3 _ _ (by simpa using npd) ep
    refine ⟨(by show 11 ≤ sizeLine; decide), fun z nz => ?_⟩
    rw [AF.sgn_lits]
    have sz := AF.same_new nz (.lst (AF.wv [[98], [115], [58], [91], [93], [55], [48], [49, 48, 48, 48], [49, 48, 48, 49], [45], [120]]))
    have hDz := AF.DrawAt.same hD3 sz
    have nzd : z ≠ d := by
      obtain ⟨xs, e⟩ := hD3.lst
      exact (ne_of_none e nz).symm
    refine ⟨.ref d, rfl, d, l, 11, rfl, hDz, by decide, by decide, fun y H4 y0 y1 hD4 b4 k4 => ?_⟩
    have ez4 := b4 _ _ (by simpa using nzd) upd_same
    have ep4 := b4 _ _ (by simpa using npd) (sz _ _ ep3)
    obtain ⟨sg, hsg, ks, hks⟩ : ∃ sg, atI (AF.wv [[98], [115], [58], [91], [93], [55], [48], [49, 48, 48, 48], [49, 48, 48, 49], [45], [120]]) y = some (V.str (AF.S sg)) ∧ ∃ k, AF.Wk k sg := by
      have hy : y = ((y.toNat : Nat) : Int) := by omega
      have hlt : y.toNat < 11 := by omega
      generalize y.toNat = m at hy hlt
      subst hy
      have e := List.getElem?_eq_getElem (l := [[98], [115], [58], [91], [93], [55], [48], [49, 48, 48, 48], [49, 48, 48, 49], [45], [120]]) (i := m) hlt
      exact ⟨_, atI_nat (AF.wv_get e), AF.sgn_ok _ (List.mem_of_getElem? e)⟩
    refine ⟨z, _, y, _, rfl, rfl, .of ez4, hsg, ?_⟩
    refine ⟨.ref d, rfl, d, l, 4, rfl, hD4, by decide, by decide, fun f H5 f0 f1 hD5 b5 k5 => ?_⟩
    have ep5 := b5 _ _ (by simpa using npd) ep4
    have b25 : AF.But [d] H H5 := (((b2.trans b3).trans (.of sz)).trans b4).trans b5
    have k25 : AF.KeepT H H5 := (((k2.trans k3).trans (AF.Same.keepT sz)).trans k4).trans k5
    have ha : at_ = ((at_.toNat : Nat) : Int) := by omega
    generalize at_.toNat = n at ha
    subst ha
    have hn : n ≤ us.length := by omega
    -- the new list stands
    have fin : ∀ (H6 : Hp) (t : Addr) (us' : List (List Nat)), Same H5 H6 → AF.AW us' → us'.length ≤ us.length + 1 → H6 t = none →
        ∃ (p : Addr) (us2 : List (List Nat)) (x2 x3 x4 x5 : Option V), [some (V.ref d), some (.ref t), some (.int (0 + (i : Int))), some (.int (n : Int)), some (.str (AF.S sg)), some (.int f)] = [some (.ref d), some (.ref p), x2, x3, x4, x5] ∧ AF.AW us2 ∧ us2.length ≤ ws.length + (i + 1) ∧ (upd H6 t (.lst (AF.wv us'))) p = some (.lst (AF.wv us2)) ∧ p ≠ d ∧ AF.DrawAt (upd H6 t (.lst (AF.wv us'))) d l ∧ AF.But [d] H (upd H6 t (.lst (AF.wv us'))) ∧ AF.KeepT H (upd H6 t (.lst (AF.wv us'))) := by
      intro H6 t us' s6 h1 h2 nt
      have s7 := s6.trans (AF.same_new nt (.lst (AF.wv us')))
      have ntd : t ≠ d := by
        obtain ⟨xs, e⟩ := (AF.DrawAt.same hD5 s6).lst
        exact (ne_of_none e nt).symm
      exact ⟨t, us', _, _, _, _, rfl, h1, by omega, upd_same, ntd, AF.DrawAt.same hD5 s7, b25.trans (.of s7), k25.trans (AF.Same.keepT s7)⟩
    have one : [V.str (AF.S sg)] = AF.wv [sg] := rfl
    refine ⟨_, rfl, rfl, _, rfl, ite2 (fun c1 => ?_) (fun c1 => ?_)⟩
    · refine ⟨.ref p, rfl, _, rfl, _, rfl, p, _, rfl, .of ep5, fun t nt => ?_⟩
      rw [AF.cut_to, AF.wv_take]
      exact fin H5 t _ (.refl _) (hu.take n) (by rw [List.length_take]; omega) nt
    refine ⟨_, rfl, rfl, _, rfl, ite2 (fun c2 => ?_) (fun c2 => ?_)⟩
    · refine ⟨.ref p, rfl, _, rfl, _, rfl, p, _, rfl, .of ep5, fun t nt => ?_⟩
      rw [AF.cut_to, AF.wv_take]
      have s1 := AF.same_new nt (.lst (AF.wv (us.take n)))
      refine ⟨_, rfl, (by show 1 ≤ sizeLine; decide), fun t2 nt2 => ?_⟩
      rw [one]
      have s2 := AF.same_new nt2 (.lst (AF.wv [sg]))
      refine ⟨t, t2, _, _, rfl, rfl, s2 _ _ upd_same, upd_same, ?_, fun t3 nt3 => ?_⟩
      · rw [AF.wv_len, AF.wv_len, List.length_take]
        exact Nat.le_of_lt (AF.roomy (by simp only [List.length_singleton]; omega))
      rw [← AF.wv_app]
      have s3 := AF.same_new nt3 (.lst (AF.wv (us.take n ++ [sg])))
      have s13 := (s1.trans s2).trans s3
      refine ⟨.ref p, rfl, _, rfl, _, rfl, p, _, rfl, .of (s13 _ _ ep5), fun t4 nt4 => ?_⟩
      rw [AF.cut_from, AF.wv_drop]
      have s4 := AF.same_new nt4 (.lst (AF.wv (us.drop n)))
      refine ⟨t3, t4, _, _, rfl, rfl, s4 _ _ upd_same, upd_same, ?_, fun t5 nt5 => ?_⟩
      · rw [AF.wv_len, AF.wv_len, List.length_append, List.length_take, List.length_drop]
        exact Nat.le_of_lt (AF.roomy (by simp only [List.length_singleton]; omega))
      rw [← AF.wv_app]
      exact fin _ t5 _ (s13.trans s4) (((hu.take n).app (.one hks)).app (hu.drop n)) (by simp only [List.length_append, List.length_take, List.length_drop, List.length_singleton]; omega) nt5
    refine ⟨_, rfl, rfl, _, rfl, ite2 (fun c3 => ?_) (fun c3 => ?_)⟩
    · refine ⟨.ref p, rfl, _, rfl, _, rfl, p, _, rfl, .of ep5, fun t nt => ?_⟩
      rw [AF.cut_to, AF.wv_take]
      have s1 := AF.same_new nt (.lst (AF.wv (us.take n)))
      have en : ((n : Int) + 1) = ((n + 1 : Nat) : Int) := by omega
      refine ⟨.ref p, rfl, _, rfl, _, _, rfl, rfl, _, rfl, p, _, rfl, .of (s1 _ _ ep5), fun t4 nt4 => ?_⟩
      rw [en, AF.cut_from, AF.wv_drop]
      have s4 := AF.same_new nt4 (.lst (AF.wv (us.drop (n + 1))))
      refine ⟨t, t4, _, _, rfl, rfl, s4 _ _ upd_same, upd_same, ?_, fun t5 nt5 => ?_⟩
      · rw [AF.wv_len, AF.wv_len, List.length_take, List.length_drop]
        exact Nat.le_of_lt (AF.roomy (by omega))
      rw [← AF.wv_app]
      exact fin _ t5 _ (s1.trans s4) ((hu.take n).app (hu.drop (n + 1))) (by simp only [List.length_append, List.length_take, List.length_drop]; omega) nt5
    · refine ⟨.ref p, rfl, _, rfl, _, rfl, p, _, rfl, .of ep5, fun t nt => ?_⟩
      rw [AF.cut_to, AF.wv_take]
      have s1 := AF.same_new nt (.lst (AF.wv (us.take n)))
      refine ⟨_, rfl, (by show 1 ≤ sizeLine; decide), fun t2 nt2 => ?_⟩
      rw [one]
      have s2 := AF.same_new nt2 (.lst (AF.wv [sg]))
      refine ⟨t, t2, _, _, rfl, rfl, s2 _ _ upd_same, upd_same, ?_, fun t3 nt3 => ?_⟩
      · rw [AF.wv_len, AF.wv_len, List.length_take]
        exact Nat.le_of_lt (AF.roomy (by simp only [List.length_singleton]; omega))
      rw [← AF.wv_app]
      have s3 := AF.same_new nt3 (.lst (AF.wv (us.take n ++ [sg])))
      have s13 := (s1.trans s2).trans s3
      have en : ((n : Int) + 1) = ((n + 1 : Nat) : Int) := by omega
      refine ⟨.ref p, rfl, _, rfl, _, _, rfl, rfl, _, rfl, p, _, rfl, .of (s13 _ _ ep5), fun t4 nt4 => ?_⟩
      rw [en, AF.cut_from, AF.wv_drop]
      have s4 := AF.same_new nt4 (.lst (AF.wv (us.drop (n + 1))))
      refine ⟨t3, t4, _, _, rfl, rfl, s4 _ _ upd_same, upd_same, ?_, fun t5 nt5 => ?_⟩
      · rw [AF.wv_len, AF.wv_len, List.length_append, List.length_take, List.length_drop]
        exact Nat.le_of_lt (AF.roomy (by simp only [List.length_singleton]; omega))
      rw [← AF.wv_app]
      exact fin _ t5 _ (s13.trans s4) (((hu.take n).app (.one hks)).app (hu.drop (n + 1))) (by simp only [List.length_append, List.length_take, List.length_drop, List.length_singleton]; omega) nt5
  · rintro σ H3 ⟨p, us, x2, x3, x4, x5, rfl, hu, hul, ep, npd, hD3, b3, k3⟩
    exact ⟨.ref p, rfl, q p us H3 hu (by omega) ep npd hD3 b3 k3⟩

end
end K03
namespace K03
open PySem PySem.Spec PyProof.Rows L2
section
variable {P : Program} {w : World} {K : PySem.W.Frag} {mg : Str → Option Value} {base : Heap}
/-! ### the law's texts -/
def spTxt : Sp := fun vs H Q _ => ∃ (d l a : Addr) (ws : List (List Nat)), vs = [.ref d, .ref a] ∧ AF.DrawAt H d l ∧ H a = some (.lst (AF.wv ws)) ∧ a ≠ d ∧ AF.AW ws ∧ ws.length ≤ 500 ∧
  ∀ (t pl : Addr) (g0 : List Nat) (zs : List AF.Wg) (H' : Hp), g0.all AF.isBl = true → zs.map (·.1) = ws → AF.Sep zs → (g0 ++ AF.cat zs).length < 5000 → H' t = some (.tup [.str (AF.S (g0 ++ AF.cat zs)), .ref pl]) → H' pl = some (.lst (AF.pv_ (AF.plc g0.length zs))) →
    pl ≠ d → AF.DrawAt H' d l → AF.But [d] H H' → AF.KeepT H H' → Q (.ref t) H'
theorem ok_law_text (T : Tx K mg w) : FnOk P w K mg base CX0 2 T.d_law_text.f T.d_law_text.fd ["draw", "tokens"] spTxt := by
  have G_law_next := ok_law_next (P := P) (w := w) (base := base) T
  refine T.d_law_text.F.ok sc_law_text (fun vs H Q E h => ?_) (fun cdv A outer s H vs Q E hr h => ?_)
  · obtain ⟨_, _, _, _, rfl, _⟩ := h
    rfl
  obtain ⟨d, l, a, ws, rfl, hD, ea, nad, hw, hlen, q⟩ := h
  refine ⟨_, (pss_cons (ps_set (i := 2) sc_law_text.nd rfl (Or.inl rfl) (pe_ix (AF.ixL K rfl) (pe_lst (pa_cons pe_str (pa_cons pe_str pa_nil))) (AF.cal T.d_law_next G_law_next (hr.mono (by omega)) (pa_cons (pv 0) (pa_cons pe_int pa_nil))) (fun _ _ => rfl)))
      (pss_cons (ps_set (i := 3) sc_law_text.nd rfl (Or.inl rfl) (pe_lst pa_nil))
      (pss_cons (ps_for PassesOwn.never rfl (pi_range1 (by rfl) T.z_range (pa_cons (pe_callB (AF.lenK K rfl) (by rfl) T.z_len (by decide +kernel) (pa_cons (pv 1) pa_nil)) pa_nil)) (pg_name (i := 4) sc_law_text.nd rfl (Or.inl rfl))
      (pss_cons (ps_expr (pe_bm PySem.F.plainAttrs_list PySem.F.slot_list_append PySem.F.type_list_append mt_append (pv 3) (pa_cons (pe_callB call_len_str (by rfl) T.z_len (by decide +kernel) (pa_cons (pv 2) pa_nil)) pa_nil)))
      (Evl.pss_cut (ps_set (i := 5) sc_law_text.nd rfl (Or.inl rfl) (pe_and (pe_cmpR op_lt (pe_op op_add (pv 4) pe_int) (pe_callB (AF.lenK K rfl) (by rfl) T.z_len (by decide +kernel) (pa_cons (pv 1) pa_nil)) (nomark _)) (pe_and (pe_cmpR op_in_sign (pe_ix ix_str (pe_ix (AF.ixL K rfl) (pv 1) (pv 4) (fun _ _ => rfl)) pe_int (fun _ _ => rfl)) pe_str (by rfl)) (pe_one (pe_cmpR op_in_sign (pe_ix ix_str (pe_ix (AF.ixL K rfl) (pv 1) (pe_op op_add (pv 4) pe_int) (fun _ _ => rfl)) pe_int (fun _ _ => rfl)) pe_str (by rfl))))))
      (pss_one (ps_set (i := 2) sc_law_text.nd rfl (Or.inl rfl) (pe_op op_add_str (pe_op op_add_str (pv 2) (pe_ix (AF.ixL K rfl) (pv 1) (pv 4) (fun _ _ => rfl))) (pe_ix (AF.ixL K rfl) (pe_lst (pa_cons (pe_ifExp (pt_val (pv 5)) pe_str pe_str) (pa_cons pe_str (pa_cons pe_str pa_nil)))) (AF.cal T.d_law_next G_law_next (hr.mono (by omega)) (pa_cons (pv 0) (pa_cons pe_int pa_nil))) (fun _ _ => rfl))))))))
      (pss_one (ps_ret (pe_tup (pa_cons (pv 2) (pa_cons (pv 3) pa_nil)))))))), ?_⟩
  have hwl := AF.wv_len ws
  refine ⟨(by show 2 ≤ sizeLine; decide), fun z nz => ?_⟩
  have sz := AF.same_new nz (.lst [V.str "", V.str " "])
  have hDz := AF.DrawAt.same hD sz
  have nzd : z ≠ d := by
    obtain ⟨xs, e⟩ := hD.lst
    exact (ne_of_none e nz).symm
  refine ⟨.ref d, rfl, d, l, 2, rfl, hDz, by decide, by decide, fun x H1 x0 x1 hD1 b1 k1 => ?_⟩
  have ez1 := b1 _ _ (by simpa using nzd) upd_same
  obtain ⟨g0, hat, hbl, hgp⟩ : ∃ gp : List Nat, atI [V.str "", V.str " "] x = some (V.str (AF.S gp)) ∧ gp.all AF.isBl = true ∧ gp.length ≤ 1 := by
    rw [AF.lit_n, AF.lit_1]
    have : x = 0 ∨ x = 1 := by omega
    rcases this with rfl | rfl
    · exact ⟨[], rfl, rfl, by decide⟩
    · exact ⟨[32], rfl, rfl, by decide⟩
  refine ⟨z, _, x, _, rfl, rfl, .of ez1, hat, ?_⟩
  have b01 : AF.But [d] H H1 := .trans (.of sz) b1
  have k01 : AF.KeepT H H1 := (AF.Same.keepT sz).trans k1
  refine ⟨Nat.zero_le _, fun pl npl => ?_⟩
  have nplH : H pl = none := by
    cases e : H pl with
    | none => rfl
    | some o =>
      by_cases hd : pl = d
      · obtain ⟨xs, e2⟩ := hD1.lst
        rw [← hd, npl] at e2
        cases e2
      · rw [b01 pl o (by simpa using hd) e] at npl
        cases npl
  have nplD : pl ≠ d := by
    obtain ⟨xs, e⟩ := hD1.lst
    exact (ne_of_none e npl).symm
  have nlp : l ≠ pl := by
    obtain ⟨ns, e⟩ := hD1.lst2
    exact ne_of_none e npl
  have ea1 := b01 _ _ (by simpa using nad) ea
  have nap : a ≠ pl := ne_of_none ea1 npl
  refine ⟨.ref a, rfl, a, _, rfl, .inl (.of (AF.same_new npl _ _ _ ea1)), _, rfl, by rw [hwl]; omega, by rw [hwl]; omega, ?_⟩
  rw [show ((AF.wv ws).length : Int).toNat = ws.length by rw [hwl]; omega]
  refine for_range (lo := 0) (n := ws.length) (Pv := fun i σ H3 => ∃ (zs : List AF.Wg) (x4 x5 : Option V), σ = [some (.ref d), some (.ref a), some (.str (AF.S (g0 ++ AF.cat zs))), some (.ref pl), x4, x5] ∧ zs.map (·.1) = ws.take i ∧
      (∀ (j : Nat) (z : AF.Wg), zs[j]? = some z → z.2.all AF.isBl = true ∧ ∀ w', ws[j + 1]? = some w' → AF.hdD z.1 = true → AF.hdD w' = true → z.2 ≠ []) ∧ H3 pl = some (.lst (AF.pv_ (AF.plc g0.length zs))) ∧ (g0 ++ AF.cat zs).length ≤ 1 + 9 * i ∧ AF.DrawAt H3 d l ∧ AF.But [d] H H3 ∧ AF.KeepT H H3) ?_ ?_ ?_
  · refine ⟨[], none, none, ?_, rfl, (fun j z h => by simp at h), upd_same, ?_, hD1.fresh nplD.symm nlp, b01.fresh nplH, k01.fresh nplH⟩
    · simp only [AF.cat, List.append_nil]
      rfl
    · simp only [AF.cat, List.append_nil]
      omega
  · rintro i σ H2 hi ⟨zs, x4, x5, rfl, hzs, hsep, epl, hll, hD2, b2, k2⟩
    obtain ⟨wi, hwi⟩ : ∃ w, ws[i]? = some w := ⟨_, List.getElem?_eq_getElem hi⟩
    obtain ⟨c, r, ec, hw8⟩ := hw.first hwi
    have ea2 := b2 _ _ (by simpa using nad) ea
    have hzl : zs.length = i := by
      have := congrArg List.length hzs
      rw [List.length_map, List.length_take] at this
      omega
    have hpl := AF.plc_len zs g0.length
    generalize hL : g0 ++ AF.cat zs = L at *
    have ewi : atI (AF.wv ws) (0 + (i : Int)) = some (V.str (AF.S wi)) := by
      rw [Int.zero_add]
      exact atI_nat (AF.wv_get hwi)
    -- places.append(len(text))
    refine ⟨.ref pl, rfl, .inl ⟨rfl, _, .of epl⟩, _, rfl, AF.S L, rfl, AF.len_S (by omega), pl, _, _, rfl, rfl, epl, ?_, ?_⟩
    · rw [AF.pv_len]
      exact AF.roomy (by omega)
    have npa := nap
    have ea3 : (upd H2 pl (.lst (AF.pv_ (AF.plc g0.length zs) ++ [V.int ((AF.S L).length : Int)]))) a = some (.lst (AF.wv ws)) := by
      rw [upd_ne nap]
      exact ea2
    have eplc : AF.pv_ (AF.plc g0.length zs) ++ [V.int ((AF.S L).length : Int)] = AF.pv_ (AF.plc g0.length zs ++ [L.length]) := by
      rw [AF.pv_app, AF.S_len]
      rfl
    rw [eplc] at ea3 ⊢
    have hD3 : AF.DrawAt (upd H2 pl (.lst (AF.pv_ (AF.plc g0.length zs ++ [L.length])))) d l := hD2.fresh nplD.symm nlp
    have b3 : AF.But [d] H (upd H2 pl (.lst (AF.pv_ (AF.plc g0.length zs ++ [L.length])))) := b2.fresh nplH
    have k3 : AF.KeepT H (upd H2 pl (.lst (AF.pv_ (AF.plc g0.length zs ++ [L.length])))) := k2.fresh nplH
    have epl3 : (upd H2 pl (.lst (AF.pv_ (AF.plc g0.length zs ++ [L.length])))) pl = some (.lst (AF.pv_ (AF.plc g0.length zs ++ [L.length]))) := upd_same
    generalize upd H2 pl (.lst (AF.pv_ (AF.plc g0.length zs ++ [L.length]))) = H3 at *
    -- close
    refine ⟨fun σ' H' => ∃ b : Bool, σ' = [some (.ref d), some (.ref a), some (.str (AF.S L)), some (.ref pl), some (.int (0 + (i : Int))), some (.bl b)] ∧ H' = H3 ∧ ∀ w', ws[i + 1]? = some w' → AF.hdD wi = true → AF.hdD w' = true → b = true, ?_, ?_⟩
    · refine ⟨_, rfl, _, _, rfl, rfl, .ref a, rfl, a, _, rfl, .inl (.of ea3), _, _, rfl, rfl, _, rfl, ite2 (fun c1 => ?_) (fun c1 => ?_)⟩
      · have hi1 : i + 1 < ws.length := by
          have h1 : (0 + (i : Int)) + 1 < ((AF.wv ws).length : Int) := of_decide_eq_true c1
          rw [hwl] at h1
          omega
        obtain ⟨wj, hwj⟩ : ∃ w, ws[i + 1]? = some w := ⟨_, List.getElem?_eq_getElem hi1⟩
        obtain ⟨c', r', ec', hw8'⟩ := hw.first hwj
        have ewj : atI (AF.wv ws) (0 + (i : Int) + 1) = some (V.str (AF.S wj)) := by
          rw [show (0 + (i : Int) + 1) = ((i + 1 : Nat) : Int) by omega]
          exact atI_nat (AF.wv_get hwj)
        refine ⟨.ref a, rfl, _, rfl, a, _, _, _, rfl, rfl, .of ea3, ewi, AF.S wi, 0, c, rfl, rfl, AF.len_S (by omega), atI_nat (j := 0) (by rw [ec]; rfl), c, _, rfl, rfl, _, rfl, ?_⟩
        have e1 := AF.in_digits c
        have h1 : AF.hdD wi = AF.isD c := by rw [ec]; rfl
        rw [← h1] at e1
        cases hx : AF.hdD wi with
        | false =>
          rw [hx] at e1
          refine AF.iteN (by rw [e1]; exact Bool.false_ne_true) ?_
          exact ⟨false, rfl, rfl, fun w' _ h => nomatch h⟩
        | true =>
          rw [hx] at e1
          refine AF.iteP e1 ?_
          refine ⟨.ref a, rfl, _, rfl, _, _, rfl, rfl, a, _, _, _, rfl, rfl, .of ea3, ewj, AF.S wj, 0, c', rfl, rfl, AF.len_S (by omega), atI_nat (j := 0) (by rw [ec']; rfl), c', _, rfl, rfl, ?_⟩
          refine ⟨_, rfl, rfl, fun w' hw' _ h2 => ?_⟩
          rw [hwj] at hw'
          cases hw'
          have e2 := AF.in_digits c'
          rw [e2, ← h2, ec']
          rfl
      · refine ⟨false, rfl, rfl, fun w' hw' => ?_⟩
        exfalso
        have hi1 : i + 1 < ws.length := (List.getElem?_eq_some_iff.mp hw').1
        refine c1 (decide_eq_true ?_)
        show (0 + (i : Int)) + 1 < ((AF.wv ws).length : Int)
        rw [hwl]
        omega
    · rintro σ' H' ⟨b, rfl, rfl, hb⟩
      refine ⟨_, rfl, .ref a, rfl, _, rfl, a, _, _, _, rfl, rfl, .of ea3, ewi, _, _, rfl, rfl, ?_, ?_⟩
      · rw [AF.S_len, AF.S_len]
        exact Nat.le_of_lt (AF.roomy (by omega))
      rw [AF.S_app]
      refine ⟨_, rfl, b, rfl, AF.tC_if ?_⟩
      refine ⟨(by show 3 ≤ sizeLine; decide), fun y ny => ?_⟩
      have sy := AF.same_new ny (.lst [if b = true then V.str " " else V.str "", V.str " ", V.str "\n"])
      have hDy := AF.DrawAt.same hD3 sy
      have nyd : y ≠ d := by
        obtain ⟨xs, e⟩ := hD3.lst
        exact (ne_of_none e ny).symm
      refine ⟨.ref d, rfl, d, l, 3, rfl, hDy, by decide, by decide, fun f H5 f0 f1 hD5 b5 k5 => ?_⟩
      have ey5 := b5 _ _ (by simpa using nyd) upd_same
      have epl5 := b5 _ _ (by simpa using nplD) (sy _ _ epl3)
      obtain ⟨gp, hat, hbl, hgp, hgb⟩ : ∃ gp : List Nat, atI [if b = true then V.str " " else V.str "", V.str " ", V.str "\n"] f = some (V.str (AF.S gp)) ∧ gp.all AF.isBl = true ∧ gp.length ≤ 1 ∧ (b = true → gp ≠ []) := by
        rw [AF.lit_n, AF.lit_1, AF.lit_2]
        have : f = 0 ∨ f = 1 ∨ f = 2 := by omega
        rcases this with rfl | rfl | rfl
        · cases b
          · exact ⟨[], rfl, rfl, by decide, fun z => nomatch z⟩
          · exact ⟨[32], rfl, rfl, by decide, fun _ => by simp⟩
        · exact ⟨[32], rfl, rfl, by decide, fun _ => by simp⟩
        · exact ⟨[10], rfl, rfl, by decide, fun _ => by simp⟩
      refine ⟨y, _, f, _, rfl, rfl, .of ey5, hat, _, _, rfl, rfl, ?_, ?_⟩
      · rw [AF.S_len, AF.S_len, List.length_append]
        exact Nat.le_of_lt (AF.roomy (by omega))
      rw [AF.S_app]
      refine ⟨zs ++ [(wi, gp)], some (.int (0 + (i : Int))), some (.bl b), ?_, ?_, ?_, ?_, ?_, hD5, (b3.trans (.of sy)).trans b5, (k3.trans (AF.Same.keepT sy)).trans k5⟩
      · rw [AF.cat_app, ← List.append_assoc, hL]
        simp only [AF.cat, List.append_nil, List.append_assoc]
        rfl
      · rw [List.map_append, hzs, List.take_add_one, hwi]
        rfl
      · intro j z hj
        by_cases hjl : j < zs.length
        · rw [List.getElem?_append_left hjl] at hj
          exact hsep j z hj
        · rw [List.getElem?_append_right (by omega)] at hj
          have hj0 : j = zs.length := by
            have := (List.getElem?_eq_some_iff.mp hj).1
            simp at this
            omega
          subst hj0
          rw [Nat.sub_self] at hj
          have hj : (wi, gp) = z := by simpa using hj
          subst hj
          rw [hzl]
          exact ⟨hbl, fun w' hw' h1 h2 => hgb (hb w' hw' h1 h2)⟩
      · rw [epl5, AF.plc_app, ← hL, List.length_append]
        rfl
      · rw [AF.cat_app, ← List.append_assoc, hL]
        simp only [AF.cat, List.append_nil, List.length_append]
        omega
  · rintro σ H3 ⟨zs, x4, x5, rfl, hzs, hsep, epl, hll, hD3, b3, k3⟩
    rw [List.take_of_length_le (Nat.le_refl _)] at hzs
    refine ⟨_, rfl, _, rfl, (by show 2 ≤ sizeLine; decide), fun t nt => ?_⟩
    have st := AF.same_new nt (.tup [V.str (AF.S (g0 ++ AF.cat zs)), .ref pl])
    exact q t pl g0 zs _ hbl hzs (AF.Sep.of hzs hsep) (by omega) upd_same (st _ _ epl) nplD (AF.DrawAt.same hD3 st) (b3.trans (.of st)) (k3.trans (AF.Same.keepT st))

end
end K03
namespace K03
open PySem PySem.Spec PyProof.Rows L2
section
variable {P : Program} {w : World} {K : PySem.W.Frag} {mg : Str → Option Value} {base : Heap}
/-! ### the law's reader of the order -/
def rep1 (d : Nat) : List V := List.replicate d (V.int 1)
theorem rep1_s (d : Nat) : rep1 d ++ [V.int 1] = rep1 (d + 1) := List.replicate_succ'.symm
theorem rep1_e (d : Nat) : (rep1 (d + 1)).dropLast = rep1 d := by
  rw [← rep1_s, List.dropLast_concat]
theorem rep1_get (d : Nat) : (rep1 (d + 1))[(rep1 (d + 1)).length - 1]? = some (V.int 1) := by
  unfold rep1
  rw [List.length_replicate, List.getElem?_replicate, if_pos (by omega)]
def spWrong : Sp := fun vs H Q _ => ∃ (a : Addr) (ws : List (List Nat)) (as : List AF.At), vs = [.ref a] ∧ H a = some (.lst (AF.wv ws)) ∧ AF.WW as ws ∧ as.length ≤ 1000 ∧
  ∀ H' : Hp, Same H H' → Q (.int (match AF.ordAt [.s] as 0 with | none => -1 | some i => (i : Int))) H'
theorem ok_law_wrong_at (T : Tx K mg w) : FnOk P w K mg base CX0 2 T.d_law_wrong_at.f T.d_law_wrong_at.fd ["tokens"] spWrong := by
  refine T.d_law_wrong_at.F.ok sc_law_wrong_at (fun vs H Q E h => ?_) (fun cdv A outer s H vs Q E hr h => ?_)
  · obtain ⟨_, _, _, rfl, _⟩ := h
    rfl
  obtain ⟨a, ws, as, rfl, ea, hw, hlen, q⟩ := h
  generalize hR : AF.ordAt [.s] as 0 = R at q
  refine ⟨_, (pss_cons (ps_set (i := 1) sc_law_wrong_at.nd rfl (Or.inl rfl) (pe_lst pa_nil))
      (pss_cons (ps_set (i := 2) sc_law_wrong_at.nd rfl (Or.inl rfl) pe_str)
      (pss_cons (ps_for PassesOwn.never rfl (pi_range1 (by rfl) T.z_range (pa_cons (pe_callB (AF.lenK K rfl) (by rfl) T.z_len (by decide +kernel) (pa_cons (pv 0) pa_nil)) pa_nil)) (pg_name (i := 3) sc_law_wrong_at.nd rfl (Or.inl rfl))
      (pss_cons (ps_set (i := 4) sc_law_wrong_at.nd rfl (Or.inl rfl) (pe_ix (AF.ixL K rfl) (pv 0) (pv 3) (fun _ _ => rfl)))
      (pss_cons (ps_set (i := 5) sc_law_wrong_at.nd rfl (Or.inl rfl) (pe_cmpR op_in_sign (pe_ix ix_str (pv 4) pe_int (fun _ _ => rfl)) pe_str (by rfl)))
      (pss_one (ps_if (PW.pt (pw_and (pt_cmpR op_eq (pv 2) pe_str (nomark _)) (pw_and (pt_cmpR (AF.inK K rfl) (pv 4) (pe_tup (pa_cons pe_str (pa_cons pe_str pa_nil))) (by rfl)) (pw_and1 (PW.pt (pw_or (AF.truK K rfl (pv 1)) (pw_or1 (pt_cmpR op_eq (pv 4) pe_str (nomark _)))))))))
      (pss_cons (ps_set (i := 6) sc_law_wrong_at.nd rfl (Or.inl rfl) (pv 4))
      (pss_one (ps_set (i := 2) sc_law_wrong_at.nd rfl (Or.inl rfl) pe_str)))
      (pss_one (ps_if (PW.pt (pw_and (pt_cmpR op_eq (pv 2) pe_str (nomark _)) (pw_and (pt_cmpR op_eq (pv 4) pe_str (nomark _)) (pw_and1 (AF.truK K rfl (pv 1))))))
      (pss_cons (ps_expr (pe_bm0 PySem.F.plainAttrs_list PySem.F.slot_list_pop PySem.F.type_list_pop mt_pop (pv 1)))
      (pss_one (ps_set (i := 2) sc_law_wrong_at.nd rfl (Or.inl rfl) (pe_ifExp (AF.truK K rfl (pv 1)) pe_str pe_str))))
      (pss_one (ps_if (PW.pt (pw_and (pt_cmpR op_eq (pv 2) pe_str (nomark _)) (pw_and1 (pt_val (pv 5)))))
      (pss_one (ps_set (i := 2) sc_law_wrong_at.nd rfl (Or.inl rfl) pe_str))
      (pss_one (ps_if (PW.pt (pw_and (pt_cmpR op_eq (pv 2) pe_str (nomark _)) (pw_and1 (pt_cmpR op_eq (pv 4) pe_str (nomark _)))))
      (pss_one (ps_set (i := 2) sc_law_wrong_at.nd rfl (Or.inl rfl) pe_str))
      (pss_one (ps_if (PW.pt (pw_and (pt_cmpR op_eq (pv 2) pe_str (nomark _)) (pw_and1 (pt_val (pv 5)))))
      (pss_one (ps_set (i := 2) sc_law_wrong_at.nd rfl (Or.inl rfl) (pe_ifExp (pt_cmpR op_eq (pv 6) pe_str (nomark _)) pe_str pe_str)))
      (pss_one (ps_if (PW.pt (pw_and (pt_cmpR op_eq (pv 2) pe_str (nomark _)) (pw_and1 (pt_cmpR op_eq (pv 4) pe_str (nomark _)))))
      (pss_cons (ps_expr (pe_bm PySem.F.plainAttrs_list PySem.F.slot_list_append PySem.F.type_list_append mt_append (pv 1) (pa_cons pe_int pa_nil)))
      (pss_one (ps_set (i := 2) sc_law_wrong_at.nd rfl (Or.inl rfl) pe_str)))
      (pss_one (ps_ret (pv 3))))))))))))))))))
      (pss_one (ps_ret (pe_ifExp (pt_cmpR op_eq (pv 2) pe_str (nomark _)) (pe_un un_neg pe_int) (pe_callB (AF.lenK K rfl) (by rfl) T.z_len (by decide +kernel) (pa_cons (pv 0) pa_nil)))))))), ?_⟩
  have hwl := AF.wv_len ws
  have hasl := hw.len
  refine ⟨Nat.zero_le _, fun p np => ?_⟩
  have s0 := AF.same_new np (.lst ([] : List V))
  refine ⟨.ref a, rfl, a, _, rfl, .inl (.of (s0 _ _ ea)), _, rfl, by rw [hwl]; omega, by rw [hwl]; omega, ?_⟩
  rw [show ((AF.wv ws).length : Int).toNat = as.length by rw [hwl]; omega]
  refine for_range (lo := 0) (n := as.length) (Pv := fun i σ H3 => ∃ (d : Nat) (sc : Bool) (ph : AF.Ph) (x3 x4 x5 x6 : Option V), σ = [some (.ref a), some (.ref p), some (.str ph.nm), x3, x4, x5, x6] ∧
      ((ph = .num ∨ ph = .col ∨ ph = .hgt) → x6 = some (.str (if sc = true then "s" else "b"))) ∧ AF.PhOk d sc ph ∧ AF.ordAt (AF.ndOf d sc ph) (as.drop i) i = R ∧ d ≤ i ∧ H3 p = some (.lst (rep1 d)) ∧ Same H H3) ?_ ?_ ?_
  · exact ⟨0, true, .box, none, none, none, none, rfl, (fun z => by rcases z with z | z | z <;> cases z), trivial, hR, Nat.le_refl _, upd_same, s0⟩
  · rintro i σ H2 hi ⟨d, sc, ph, x3, x4, x5, x6, rfl, hk6, hok, ho, hd, ep, s2⟩
    obtain ⟨k, hk⟩ : ∃ k, as[i]? = some k := ⟨_, List.getElem?_eq_getElem hi⟩
    obtain ⟨wi, hwi, hwd⟩ := hw.get hk
    obtain ⟨c, r, ec, hc, _⟩ := hwd.first
    have hw8 := hwd.len
    have ea2 := s2 _ _ ea
    have ewi : atI (AF.wv ws) (0 + (i : Int)) = some (V.str (AF.S wi)) := by
      rw [Int.zero_add]
      exact atI_nat (AF.wv_get hwi)
    have ed : as.drop i = k :: as.drop (i + 1) := by
      rw [← (List.getElem?_eq_some_iff.mp hk).2]
      exact List.drop_eq_getElem_cons hi
    obtain ⟨m1, m2⟩ := AF.mst_stp (a := k) hok
    rw [ed, AF.ordAt_cons, m1] at ho
    refine ⟨.ref a, rfl, _, rfl, a, _, _, _, rfl, rfl, .of ea2, ewi, ?_⟩
    refine ⟨_, rfl, AF.S wi, 0, c, rfl, rfl, AF.len_S (by omega), atI_nat (j := 0) (by rw [ec]; rfl), c, _, rfl, rfl, ?_⟩
    rw [AF.in_digits c, hc]
    -- ways out
    have bad : ∀ H' : Hp, Same H2 H' → AF.mst d sc ph k = none → Q (.int (0 + (i : Int))) H' := fun H' s' hm => by
      rw [hm] at ho
      have ho : some i = R := ho
      subst ho
      rw [Int.zero_add]
      exact q H' (s2.trans s')
    have good : ∀ (d' : Nat) (sc' : Bool) (ph' : AF.Ph) (x6' : Option V) (H' : Hp), AF.mst d sc ph k = some (d', sc', ph') → Same H H' → H' p = some (.lst (rep1 d')) → ((ph' = .num ∨ ph' = .col ∨ ph' = .hgt) → x6' = some (.str (if sc' = true then "s" else "b"))) → d' ≤ i + 1 →
        ∃ (d : Nat) (sc : Bool) (ph : AF.Ph) (x3 x4 x5 x6 : Option V), [some (V.ref a), some (V.ref p), some (V.str ph'.nm), some (V.int (0 + (i : Int))), some (V.str (AF.S wi)), some (V.bl k.isN), x6'] = [some (.ref a), some (.ref p), some (.str ph.nm), x3, x4, x5, x6] ∧
          ((ph = .num ∨ ph = .col ∨ ph = .hgt) → x6 = some (.str (if sc = true then "s" else "b"))) ∧ AF.PhOk d sc ph ∧ AF.ordAt (AF.ndOf d sc ph) (as.drop (i + 1)) (i + 1) = R ∧ d ≤ i + 1 ∧ H' p = some (.lst (rep1 d)) ∧ Same H H' := by
      intro d' sc' ph' x6' H' hm s' e' h6 hd'
      rw [hm] at ho
      exact ⟨d', sc', ph', _, _, _, _, rfl, h6, m2 _ hm, ho, hd', e', s'⟩
    have np2 : H p = none := np
    cases ph with
    | box =>
      refine ⟨_, rfl, rfl, _, rfl, AF.iteP (decide_eq_true rfl) ?_⟩
      refine ⟨_, rfl, (by show 2 ≤ sizeLine; decide), fun t nt => ⟨t, _, rfl, .inr (.of upd_same), rfl, rfl, ?_⟩⟩
      have st := AF.same_new nt (.tup [V.str "s", V.str "b"])
      have ept := st _ _ ep
      refine ⟨_, rfl, ?_⟩
      -- behind the first two questions
      have rest : ∀ H' : Hp, Same H2 H' → AF.mst d sc .box k = none → ∃ v, [some (V.ref a), some (V.ref p), some (V.str AF.Ph.box.nm), some (V.int (0 + (i : Int))), some (V.str (AF.S wi)), some (V.bl k.isN), x6][3]? = some (some v) ∧ Q v H' := fun H' s' hm => ⟨_, rfl, bad H' s' hm⟩
      by_cases hsb : k = .s ∨ k = .b
      · refine AF.iteP ?_ ?_
        · show inV (V.str (AF.S wi)) [V.str "s", V.str "b"] = true
          rw [AF.in_sb hwd]
          rcases hsb with rfl | rfl <;> rfl
        refine ⟨.ref p, rfl, decide (0 < d), .inl ⟨_, .of ept, ?_⟩, ?_⟩
        · cases d <;> rfl
        cases d with
        | succ d =>
          refine AF.iteP (decide_eq_true (Nat.succ_pos d)) ?_
          refine ⟨_, rfl, ?_⟩
          rcases hsb with rfl | rfl
          · exact good _ true .num _ _ rfl (s2.trans st) ept (fun _ => by rw [show wi = [115] from hwd]; rfl) (by omega)
          · exact good _ false .num _ _ rfl (s2.trans st) ept (fun _ => by rw [show wi = [98] from hwd]; rfl) (by omega)
        | zero =>
          refine AF.iteN (by intro z; cases (of_decide_eq_true z)) ?_
          refine ⟨_, rfl, rfl, _, rfl, ?_⟩
          rw [AF.eq_s hwd]
          rcases hsb with rfl | rfl
          · refine AF.iteP (decide_eq_true rfl) ?_
            exact ⟨_, rfl, good _ true .num _ _ rfl (s2.trans st) ept (fun _ => by rw [show wi = [115] from hwd]; rfl) (by omega)⟩
          · refine AF.iteN (by intro z; cases (of_decide_eq_true z)) ?_
            refine ⟨_, rfl, rfl, _, rfl, AF.iteP (decide_eq_true rfl) ?_⟩
            refine ⟨_, rfl, rfl, _, rfl, ?_⟩
            rw [AF.eq_e hwd]
            refine AF.iteN (by intro z; cases (of_decide_eq_true z)) ?_
            refine ⟨_, rfl, rfl, _, rfl, AF.iteN (by intro z; cases (of_decide_eq_true z)) ?_⟩
            refine ⟨_, rfl, rfl, _, rfl, AF.iteN (by intro z; cases (of_decide_eq_true z)) ?_⟩
            refine ⟨_, rfl, rfl, _, rfl, AF.iteN (by intro z; cases (of_decide_eq_true z)) ?_⟩
            refine ⟨_, rfl, rfl, _, rfl, AF.iteN (by intro z; cases (of_decide_eq_true z)) ?_⟩
            exact rest _ st rfl
      · refine AF.iteN ?_ ?_
        · show ¬ inV (V.str (AF.S wi)) [V.str "s", V.str "b"] = true
          rw [AF.in_sb hwd]
          simpa using hsb
        refine ⟨_, rfl, rfl, _, rfl, AF.iteP (decide_eq_true rfl) ?_⟩
        refine ⟨_, rfl, rfl, _, rfl, ?_⟩
        rw [AF.eq_e hwd]
        by_cases hke : k = .e
        · subst hke
          refine AF.iteP (decide_eq_true rfl) ?_
          refine ⟨.ref p, rfl, decide (0 < d), .inl ⟨_, .of ept, ?_⟩, ?_⟩
          · cases d <;> rfl
          cases d with
          | zero =>
            refine AF.iteN (by intro z; cases (of_decide_eq_true z)) ?_
            refine ⟨_, rfl, rfl, _, rfl, AF.iteN (by intro z; cases (of_decide_eq_true z)) ?_⟩
            refine ⟨_, rfl, rfl, _, rfl, AF.iteN (by intro z; cases (of_decide_eq_true z)) ?_⟩
            refine ⟨_, rfl, rfl, _, rfl, AF.iteN (by intro z; cases (of_decide_eq_true z)) ?_⟩
            refine ⟨_, rfl, rfl, _, rfl, AF.iteN (by intro z; cases (of_decide_eq_true z)) ?_⟩
            exact rest _ st rfl
          | succ d =>
            refine AF.iteP (decide_eq_true (Nat.succ_pos d)) ?_
            refine ⟨.ref p, rfl, .inl ⟨rfl, _, .of ept⟩, p, _, _, rfl, rfl, ept, rep1_get d, ?_⟩
            rw [rep1_e]
            have s3 : Same H (upd (upd H2 t (.tup [V.str "s", V.str "b"])) p (.lst (rep1 d))) := AF.same_upd (s2.trans st) np _
            refine ⟨.ref p, rfl, decide (0 < d), .inl ⟨_, .of upd_same, ?_⟩, ?_⟩
            · cases d <;> rfl
            cases d with
            | zero =>
              refine AF.iteN (by intro z; cases (of_decide_eq_true z)) ?_
              exact good 0 sc .done _ _ rfl s3 upd_same (fun z => by rcases z with z | z | z <;> cases z) (by omega)
            | succ d =>
              refine AF.iteP (decide_eq_true (Nat.succ_pos d)) ?_
              exact good (d + 1) sc .box _ _ (by simp [AF.mst]) s3 upd_same (fun z => by rcases z with z | z | z <;> cases z) (by omega)
        · refine AF.iteN (by rw [decide_eq_true_eq]; exact hke) ?_
          refine ⟨_, rfl, rfl, _, rfl, AF.iteN (by intro z; cases (of_decide_eq_true z)) ?_⟩
          refine ⟨_, rfl, rfl, _, rfl, AF.iteN (by intro z; cases (of_decide_eq_true z)) ?_⟩
          refine ⟨_, rfl, rfl, _, rfl, AF.iteN (by intro z; cases (of_decide_eq_true z)) ?_⟩
          refine ⟨_, rfl, rfl, _, rfl, AF.iteN (by intro z; cases (of_decide_eq_true z)) ?_⟩
          refine rest _ st ?_
          cases k <;> first | rfl | exact absurd (.inl rfl) hsb | exact absurd (.inr rfl) hsb | exact absurd rfl hke
    | num =>
      refine ⟨_, rfl, rfl, _, rfl, AF.iteN (by intro z; cases (of_decide_eq_true z)) ?_⟩
      refine ⟨_, rfl, rfl, _, rfl, AF.iteN (by intro z; cases (of_decide_eq_true z)) ?_⟩
      refine ⟨_, rfl, rfl, _, rfl, AF.iteP (decide_eq_true rfl) ?_⟩
      refine ⟨_, rfl, _, rfl, ?_⟩
      cases hn : k.isN with
      | true =>
        rw [hn] at good
        refine iteT ?_
        obtain ⟨n, rfl⟩ : ∃ n, k = .n n := by cases k <;> first | exact ⟨_, rfl⟩ | cases hn
        exact good d sc .col _ _ rfl s2 ep (fun _ => hk6 (.inl rfl)) (by omega)
      | false =>
        refine iteF ?_
        refine ⟨_, rfl, rfl, _, rfl, AF.iteN (by intro z; cases (of_decide_eq_true z)) ?_⟩
        refine ⟨_, rfl, rfl, _, rfl, AF.iteN (by intro z; cases (of_decide_eq_true z)) ?_⟩
        refine ⟨_, rfl, rfl, _, rfl, AF.iteN (by intro z; cases (of_decide_eq_true z)) ?_⟩
        refine ⟨_, rfl, bad H2 (.refl _) ?_⟩
        cases k <;> first | rfl | cases hn
    | col =>
      refine ⟨_, rfl, rfl, _, rfl, AF.iteN (by intro z; cases (of_decide_eq_true z)) ?_⟩
      refine ⟨_, rfl, rfl, _, rfl, AF.iteN (by intro z; cases (of_decide_eq_true z)) ?_⟩
      refine ⟨_, rfl, rfl, _, rfl, AF.iteN (by intro z; cases (of_decide_eq_true z)) ?_⟩
      refine ⟨_, rfl, rfl, _, rfl, AF.iteP (decide_eq_true rfl) ?_⟩
      refine ⟨_, rfl, rfl, _, rfl, ?_⟩
      rw [AF.eq_c hwd]
      by_cases hkc : k = .c
      · subst hkc
        refine AF.iteP (decide_eq_true rfl) ?_
        exact good d sc .hgt _ _ rfl s2 ep (fun _ => hk6 (.inr (.inl rfl))) (by omega)
      · refine AF.iteN (by rw [decide_eq_true_eq]; exact hkc) ?_
        refine ⟨_, rfl, rfl, _, rfl, AF.iteN (by intro z; cases (of_decide_eq_true z)) ?_⟩
        refine ⟨_, rfl, rfl, _, rfl, AF.iteN (by intro z; cases (of_decide_eq_true z)) ?_⟩
        refine ⟨_, rfl, bad H2 (.refl _) ?_⟩
        cases k <;> first | rfl | exact absurd rfl hkc
    | hgt =>
      refine ⟨_, rfl, rfl, _, rfl, AF.iteN (by intro z; cases (of_decide_eq_true z)) ?_⟩
      refine ⟨_, rfl, rfl, _, rfl, AF.iteN (by intro z; cases (of_decide_eq_true z)) ?_⟩
      refine ⟨_, rfl, rfl, _, rfl, AF.iteN (by intro z; cases (of_decide_eq_true z)) ?_⟩
      refine ⟨_, rfl, rfl, _, rfl, AF.iteN (by intro z; cases (of_decide_eq_true z)) ?_⟩
      refine ⟨_, rfl, rfl, _, rfl, AF.iteP (decide_eq_true rfl) ?_⟩
      refine ⟨_, rfl, _, rfl, ?_⟩
      have h6 := hk6 (.inr (.inr rfl))
      subst h6
      cases hn : k.isN with
      | true =>
        rw [hn] at good
        refine iteT ?_
        obtain ⟨n, rfl⟩ : ∃ n, k = .n n := by cases k <;> first | exact ⟨_, rfl⟩ | cases hn
        refine ⟨_, rfl, rfl, _, rfl, ?_⟩
        cases sc with
        | true =>
          refine AF.iteP (decide_eq_true rfl) ?_
          exact good d true .opn _ _ rfl s2 ep (fun z => by rcases z with z | z | z <;> cases z) (by omega)
        | false =>
          refine AF.iteN (by intro z; cases (of_decide_eq_true z)) ?_
          exact good d false .box _ _ rfl s2 ep (fun z => by rcases z with z | z | z <;> cases z) (by omega)
      | false =>
        refine iteF ?_
        refine ⟨_, rfl, rfl, _, rfl, AF.iteN (by intro z; cases (of_decide_eq_true z)) ?_⟩
        refine ⟨_, rfl, bad H2 (.refl _) ?_⟩
        cases k <;> first | rfl | cases hn
    | opn =>
      refine ⟨_, rfl, rfl, _, rfl, AF.iteN (by intro z; cases (of_decide_eq_true z)) ?_⟩
      refine ⟨_, rfl, rfl, _, rfl, AF.iteN (by intro z; cases (of_decide_eq_true z)) ?_⟩
      refine ⟨_, rfl, rfl, _, rfl, AF.iteN (by intro z; cases (of_decide_eq_true z)) ?_⟩
      refine ⟨_, rfl, rfl, _, rfl, AF.iteN (by intro z; cases (of_decide_eq_true z)) ?_⟩
      refine ⟨_, rfl, rfl, _, rfl, AF.iteN (by intro z; cases (of_decide_eq_true z)) ?_⟩
      refine ⟨_, rfl, rfl, _, rfl, AF.iteP (decide_eq_true rfl) ?_⟩
      refine ⟨_, rfl, rfl, _, rfl, ?_⟩
      rw [AF.eq_o hwd]
      by_cases hko : k = .o
      · subst hko
        refine AF.iteP (decide_eq_true rfl) ?_
        refine ⟨.ref p, rfl, .inl ⟨rfl, _, .of ep⟩, p, _, _, rfl, rfl, ep, ?_, ?_⟩
        · show (List.replicate d (V.int 1)).length < sizeLine
          rw [List.length_replicate]
          exact AF.roomy (by omega)
        rw [rep1_s]
        exact good (d + 1) sc .box _ _ rfl (AF.same_upd s2 np _) upd_same (fun z => by rcases z with z | z | z <;> cases z) (by omega)
      · refine AF.iteN (by rw [decide_eq_true_eq]; exact hko) ?_
        refine ⟨_, rfl, bad H2 (.refl _) ?_⟩
        cases k <;> first | rfl | exact absurd rfl hko
    | done =>
      refine ⟨_, rfl, rfl, _, rfl, AF.iteN (by intro z; cases (of_decide_eq_true z)) ?_⟩
      refine ⟨_, rfl, rfl, _, rfl, AF.iteN (by intro z; cases (of_decide_eq_true z)) ?_⟩
      refine ⟨_, rfl, rfl, _, rfl, AF.iteN (by intro z; cases (of_decide_eq_true z)) ?_⟩
      refine ⟨_, rfl, rfl, _, rfl, AF.iteN (by intro z; cases (of_decide_eq_true z)) ?_⟩
      refine ⟨_, rfl, rfl, _, rfl, AF.iteN (by intro z; cases (of_decide_eq_true z)) ?_⟩
      refine ⟨_, rfl, rfl, _, rfl, AF.iteN (by intro z; cases (of_decide_eq_true z)) ?_⟩
      refine ⟨_, rfl, bad H2 (.refl _) ?_⟩
      cases k <;> rfl
  · rintro σ H3 ⟨d, sc, ph, x3, x4, x5, x6, rfl, hk6, hok, ho, hd, ep, s3⟩
    rw [List.drop_of_length_le (Nat.le_refl _)] at ho
    refine ⟨_, rfl, rfl, _, rfl, ?_⟩
    by_cases hph : ph = .done
    · subst hph
      refine AF.iteP (decide_eq_true rfl) ?_
      have ho : none = R := ho
      subst ho
      exact ⟨1, rfl, q H3 s3⟩
    · have hne : AF.ndOf d sc ph ≠ [] := fun z => hph ((AF.ndOf_nil hok).mp z)
      have ho : some as.length = R := by
        cases hx : AF.ndOf d sc ph with
        | nil => exact absurd hx hne
        | cons x r =>
          rw [hx] at ho
          exact ho
      subst ho
      refine AF.iteN ?_ ?_
      · intro z
        have z := V.str.inj (of_decide_eq_true z)
        revert z
        cases ph <;> first | exact absurd rfl hph | (intro z; exact absurd z (by decide +kernel))
      refine ⟨.ref a, rfl, a, _, rfl, .inl (.of (s3 _ _ ea)), ?_⟩
      have := q H3 s3
      rw [hwl, hasl]
      exact this

end
end K03
namespace K03
open PySem PySem.Spec PyProof.Rows L2
section
variable {P : Program} {w : World} {K : PySem.W.Frag} {mg : Str → Option Value} {base : Heap}
/-! ### what the law says is due -/
def spDue (K : PySem.W.Frag) : Sp := fun vs H Q _ => ∃ (l : List Nat) (a pl : Addr) (ks : List (Option AF.At)) (ws : List (List Nat)) (ps : List Nat) (e : Option Nat) (ts : List AF.Tk) (as : List AF.At), vs = [.str (AF.S l), .ref a, .ref pl] ∧
  H a = some (.lst (AF.wv ws)) ∧ AF.KW ks ws ∧ H pl = some (.lst (AF.pv_ ps)) ∧ ps.length = ws.length ∧ ws.length ≤ 600 ∧ l.length < 5000 ∧
  (∀ j, AF.badAt ks 0 = some j → ∃ q, ps[j]? = some q ∧ e = some q) ∧ (AF.badAt ks 0 = none → e = none ∧ ts = ps.zip ws ∧ ks = as.map some ∧ AF.TW as ts) ∧
  ∀ (v : V) (H' : Hp), Same H H' → Dp K H' v (AF.dueD (AF.dueP e ts as l.length)) → Q v H'
theorem ok_law_due (T : Tx K mg w) : FnOk P w K mg base CX0 3 T.d_law_due.f T.d_law_due.fd ["text", "tokens", "places"] (spDue K) := by
  have G_law_wrong_at := ok_law_wrong_at (P := P) (w := w) (base := base) T
  refine T.d_law_due.F.ok sc_law_due (fun vs H Q E h => ?_) (fun cdv A outer s H vs Q E hr h => ?_)
  · obtain ⟨_, _, _, _, _, _, _, _, _, rfl, _⟩ := h
    rfl
  obtain ⟨l, a, pl, ks, ws, ps, e, ts, as, rfl, ea, hk, epl, hpl, hlen, hll, hbad, hgood, q⟩ := h
  refine ⟨_, (pss_cons (ps_for PassesOwn.never rfl (pi_range1 (by rfl) T.z_range (pa_cons (pe_callB (AF.lenK K rfl) (by rfl) T.z_len (by decide +kernel) (pa_cons (pv 1) pa_nil)) pa_nil)) (pg_name (i := 3) sc_law_due.nd rfl (Or.inr rfl))
      (pss_one (ps_if (pt_cmpR (AF.inK K rfl) (pe_ix (AF.ixL K rfl) (pv 1) (pv 3) (fun _ _ => rfl)) (pe_tup (pa_cons pe_str (pa_cons pe_str pa_nil))) (by rfl))
      (pss_one (ps_ret (pe_tup (pa_cons (pe_ix (AF.ixL K rfl) (pv 2) (pv 3) (fun _ _ => rfl)) (pa_cons pe_str pa_nil)))))
      pss_nil)))
      (pss_cons (ps_set (i := 4) sc_law_due.nd rfl (Or.inl rfl) (AF.cal T.d_law_wrong_at G_law_wrong_at (hr.mono (by omega)) (pa_cons (pv 1) pa_nil)))
      (pss_cons (ps_if (pt_cmpR op_ge (pv 4) pe_int (nomark _))
      (pss_one (ps_ret (pe_ifExp (pt_cmpR op_lt (pv 4) (pe_callB (AF.lenK K rfl) (by rfl) T.z_len (by decide +kernel) (pa_cons (pv 1) pa_nil)) (nomark _)) (pe_tup (pa_cons (pe_ix (AF.ixL K rfl) (pv 2) (pv 4) (fun _ _ => rfl)) (pa_cons pe_str pa_nil))) (pe_tup (pa_cons (pe_callB call_len_str (by rfl) T.z_len (by decide +kernel) (pa_cons (pv 0) pa_nil)) (pa_cons pe_str pa_nil))))))
      pss_nil)
      (pss_cons (ps_set (i := 5) sc_law_due.nd rfl (Or.inl rfl) (pe_lst pa_nil))
      (pss_cons (ps_for PassesOwn.never rfl (pi_range1 (by rfl) T.z_range (pa_cons (pe_callB (AF.lenK K rfl) (by rfl) T.z_len (by decide +kernel) (pa_cons (pv 1) pa_nil)) pa_nil)) (pg_name (i := 3) sc_law_due.nd rfl (Or.inr rfl))
      (pss_one (ps_if (pt_cmpR op_in_sign (pe_ix ix_str (pe_ix (AF.ixL K rfl) (pv 1) (pv 3) (fun _ _ => rfl)) pe_int (fun _ _ => rfl)) pe_str (by rfl))
      (pss_cons (ps_set (i := 8) sc_law_due.nd rfl (Or.inl rfl) (pe_cmpR (AF.inK K rfl) (pe_ix (AF.ixL K rfl) (pv 1) (pe_op op_sub (pv 3) pe_int) (fun _ _ => rfl)) (pe_tup (pa_cons pe_str (pa_cons pe_str pa_nil))) (by rfl)))
      (Evl.pss_cut (ps_if (pt_not (AF.pt_ifT (pt_val (pv 8)) (pt_chain op_le op_le pe_int (pe_callTy call_int_str (by rfl) T.z_int (by decide +kernel) (pa_cons (pe_ix (AF.ixL K rfl) (pv 1) (pv 3) (fun _ _ => rfl)) pa_nil)) pe_int) (pt_cmpR op_le (pe_callTy call_int_str (by rfl) T.z_int (by decide +kernel) (pa_cons (pe_ix (AF.ixL K rfl) (pv 1) (pv 3) (fun _ _ => rfl)) pa_nil)) pe_int (nomark _))))
      (pss_one (ps_ret (pe_tup (pa_cons (pe_ix (AF.ixL K rfl) (pv 2) (pv 3) (fun _ _ => rfl)) (pa_cons pe_str pa_nil)))))
      pss_nil)
      (pss_one (ps_if (pt_val (pv 8))
      (pss_one (ps_expr (pe_bm PySem.F.plainAttrs_list PySem.F.slot_list_append PySem.F.type_list_append mt_append (pv 5) (pa_cons (pv 3) pa_nil))))
      pss_nil))))
      pss_nil)))
      (pss_cons (ps_for PassesOwn.never rfl (AF.piL K rfl (pv 5)) (pg_name (i := 3) sc_law_due.nd rfl (Or.inr rfl))
      (pss_one (ps_if (pt_cmpR (AF.inK K rfl) (pe_callTy call_int_str (by rfl) T.z_int (by decide +kernel) (pa_cons (pe_ix (AF.ixL K rfl) (pv 1) (pv 3) (fun _ _ => rfl)) pa_nil)) (pe_lc (own := [("j", 9)]) (g := gName 9) rfl sc_law_due.nd (AF.piL K rfl (pv 5)) (blkOk_by (own := [("j", 9)]) (N := ["text", "tokens", "places", "k", "wrong", "heads", "level", "token", "number", "j"]) (sc := defScope s_law_due) (by decide +kernel)) (fun _ _ _ _ _ => (pg_name (i := 9) sc_law_due.nd rfl (Or.inl rfl))) (fun _ _ _ _ _ => pts_one (pt_cmpR op_lt (pv 9) (pv 3) (nomark _))) (fun _ _ _ _ _ => (pe_callTy call_int_str (by rfl) T.z_int (by decide +kernel) (pa_cons (pe_ix (AF.ixL K rfl) (pv 1) (pv 9) (fun _ _ => rfl)) pa_nil)))) (by rfl))
      (pss_one (ps_ret (pe_tup (pa_cons (pe_ix (AF.ixL K rfl) (pv 2) (pv 3) (fun _ _ => rfl)) (pa_cons pe_str pa_nil)))))
      pss_nil)))
      (pss_cons (ps_if (pt_cmpR op_gt (pe_callB (AF.lenK K rfl) (by rfl) T.z_len (by decide +kernel) (pa_cons (pv 5) pa_nil)) pe_int (nomark _))
      (pss_one (ps_ret (pe_tup (pa_cons (pe_ix (AF.ixL K rfl) (pv 2) pe_int (fun _ _ => rfl)) (pa_cons pe_str pa_nil)))))
      pss_nil)
      (pss_cons (ps_set (i := 6) sc_law_due.nd rfl (Or.inl rfl) pe_int)
      (pss_cons (ps_for PassesOwn.never rfl (AF.piL K rfl (pv 1)) (pg_name (i := 7) sc_law_due.nd rfl (Or.inl rfl))
      (pss_cons (ps_set (i := 6) sc_law_due.nd rfl (Or.inl rfl) (pe_op op_sub (pe_op op_add (pv 6) (pe_ifExp (pt_cmpR op_eq (pv 7) pe_str (nomark _)) pe_int pe_int)) (pe_ifExp (pt_cmpR op_eq (pv 7) pe_str (nomark _)) pe_int pe_int)))
      (pss_one (ps_if (pt_cmpR op_gt (pv 6) pe_int (nomark _))
      (pss_one (ps_ret (pe_tup (pa_cons (pe_ix (AF.ixL K rfl) (pv 2) pe_int (fun _ _ => rfl)) (pa_cons pe_str pa_nil)))))
      pss_nil))))
      (pss_one (ps_ret pe_non))))))))))), ?_⟩
  have hwl := AF.wv_len ws
  have hks := hk.len
  -- an error told
  have out : ∀ (H2 : Hp) (p : Nat) (g : Str) (t : Addr), Same H H2 → AF.dueP e ts as l.length = some (p, g) → H2 t = none → Q (.ref t) (upd H2 t (.tup [.int (p : Int), .str g])) := by
    intro H2 p g t s2 hd nt
    refine q _ _ (s2.trans (AF.same_new nt _)) ?_
    rw [hd]
    exact .tup (.of upd_same) (.cons (.int _) (.cons (.str _) .nil))
  generalize hB : AF.badAt ks 0 = B at hbad hgood
  refine ⟨.ref a, rfl, a, _, rfl, .inl (.of ea), _, rfl, by rw [hwl]; omega, by rw [hwl]; omega, ?_⟩
  rw [show ((AF.wv ws).length : Int).toNat = ws.length by rw [hwl]; omega]
  refine for_range (lo := 0) (n := ws.length) (Pv := fun i σ H3 => ∃ (x3 : Option V), σ = [some (.str (AF.S l)), some (.ref a), some (.ref pl), x3, none, none, none, none, none, none] ∧ Same H H3 ∧ AF.badAt (ks.drop i) i = B) ?_ ?_ ?_
  · exact ⟨none, rfl, .refl H, hB⟩
  · rintro i σ H2 hi ⟨x3, rfl, s2, hb⟩
    obtain ⟨wi, hwi⟩ : ∃ w, ws[i]? = some w := ⟨_, List.getElem?_eq_getElem hi⟩
    obtain ⟨k, hki, hwk⟩ := hk.get hwi
    have ewi : atI (AF.wv ws) (0 + (i : Int)) = some (V.str (AF.S wi)) := by
      rw [Int.zero_add]
      exact atI_nat (AF.wv_get hwi)
    have ed : ks.drop i = k :: ks.drop (i + 1) := by
      obtain ⟨h1, h2⟩ := List.getElem?_eq_some_iff.mp hki
      rw [← h2]
      exact List.drop_eq_getElem_cons h1
    rw [ed] at hb
    refine ⟨.ref a, rfl, _, rfl, a, _, _, _, rfl, rfl, .of (s2 _ _ ea), ewi, (by show 2 ≤ sizeLine; decide), fun t nt => ⟨t, _, rfl, .inr (.of upd_same), rfl, rfl, ?_⟩⟩
    have st := AF.same_new nt (.tup [V.str "-", V.str "x"])
    refine ⟨_, rfl, ?_⟩
    cases k with
    | none =>
      refine AF.iteP (AF.in_bad hwk) ?_
      have hb : some i = B := hb
      subst hb
      obtain ⟨p, hp, he⟩ := hbad i rfl
      refine ⟨.ref pl, rfl, _, rfl, pl, _, _, _, rfl, rfl, .of (st _ _ (s2 _ _ epl)), by rw [Int.zero_add]; exact atI_nat (AF.pv_get hp), (by show 2 ≤ sizeLine; decide), fun t2 nt2 => ?_⟩
      exact out _ p "unknown character" t2 (s2.trans st) (by rw [he]; rfl) nt2
    | some k =>
      refine AF.iteN ?_ ?_
      · show ¬ inV (V.str (AF.S wi)) [V.str "-", V.str "x"] = true
        rw [AF.in_bad hwk]
        exact Bool.false_ne_true
      exact ⟨_, rfl, s2.trans st, hb⟩
  rintro σ H2 ⟨x3, rfl, s2, hb⟩
  rw [List.drop_of_length_le (by omega)] at hb
  have hb : none = B := hb
  subst hb
  clear hbad
  obtain ⟨rfl, rfl, rfl, tw⟩ := hgood rfl
  obtain ⟨hws, ww⟩ := hk.good
  have hasl : as.length = ws.length := ww.len.symm
  have get : ∀ {j : Nat} {k : AF.At}, as[j]? = some k → ∃ p, ws[j]? = some k.word ∧ AF.Wd k k.word ∧ ps[j]? = some p ∧ (ps.zip ws)[j]? = some (p, k.word) := by
    intro j k hj
    obtain ⟨w', e1, e2⟩ := ww.get hj
    have e3 : ws[j]? = some k.word := by
      rw [hws, List.getElem?_map, hj]
      rfl
    rw [e1] at e3
    cases e3
    have hjl : j < ps.length := by
      have := (List.getElem?_eq_some_iff.mp hj).1
      omega
    refine ⟨ps[j], e1, e2, List.getElem?_eq_getElem hjl, ?_⟩
    rw [List.getElem?_zip_eq_some]
    exact ⟨List.getElem?_eq_getElem hjl, e1⟩
  refine ⟨.ref a, rfl, a, ws, as, rfl, s2 _ _ ea, ww, by omega, fun H3 s3 => ?_⟩
  have s03 := s2.trans s3
  refine ⟨_, rfl, _, _, rfl, rfl, _, rfl, ?_⟩
  cases ho : AF.ordAt [.s] as 0 with
  | some i =>
    refine AF.iteP (decide_eq_true (by show (i : Int) ≥ 0; omega)) ?_
    refine ⟨_, rfl, .ref a, rfl, a, _, rfl, .inl (.of (s03 _ _ ea)), _, _, rfl, rfl, _, rfl, ite2 (fun c => ?_) (fun c => ?_)⟩
    · have hi : i < ws.length := by
        have h1 : (i : Int) < ((AF.wv ws).length : Int) := of_decide_eq_true c
        rw [hwl] at h1
        omega
      obtain ⟨p, g1, g2, g3, g4⟩ := get (j := i) (List.getElem?_eq_getElem (by omega))
      refine ⟨.ref pl, rfl, _, rfl, pl, _, _, _, rfl, rfl, .of (s03 _ _ epl), atI_nat (AF.pv_get g3), (by show 2 ≤ sizeLine; decide), fun t nt => ?_⟩
      exact out _ p "unexpected token" t s03 (by simp only [AF.dueP, ho, g4]) nt
    · have hi : ¬ i < ws.length := fun z => c (decide_eq_true (by
        show (i : Int) < ((AF.wv ws).length : Int)
        rw [hwl]
        omega))
      have e0 : (ps.zip ws)[i]? = none := List.getElem?_eq_none (by rw [List.length_zip]; omega)
      refine ⟨_, rfl, AF.S l, rfl, AF.len_S (by omega), (by show 2 ≤ sizeLine; decide), fun t nt => ?_⟩
      rw [AF.S_len]
      exact out _ l.length "unexpected end" t s03 (by simp only [AF.dueP, ho, e0]) nt
  | none =>
  refine AF.iteN (by intro z; exact absurd (of_decide_eq_true z) (by decide)) ?_
  refine ⟨Nat.zero_le _, fun hd nhd => ?_⟩
  have sh := AF.same_new nhd (.lst ([] : List V))
  have nhdH : H hd = none := Same.free s03 nhd
  generalize hRG : AF.rngAt (AF.nums as) 0 = RG
  refine ⟨.ref a, rfl, a, _, rfl, .inl (.of (sh _ _ (s03 _ _ ea))), _, rfl, by rw [hwl]; omega, by rw [hwl]; omega, ?_⟩
  rw [show ((AF.wv ws).length : Int).toNat = as.length by rw [hwl]; omega]
  refine for_range (lo := 0) (n := as.length) (Pv := fun i σ H4 => ∃ (x3 x8 : Option V), σ = [some (.str (AF.S l)), some (.ref a), some (.ref pl), x3, some (.int (-1)), some (.ref hd), none, none, x8, none] ∧ Same H H4 ∧
      H4 hd = some (.lst (AF.pv_ (AF.hds (as.take i) 0 false))) ∧ (∃ d sc ph, AF.NumInv as i d sc ph) ∧ AF.rngAt (AF.nums (as.drop i)) (AF.nums (as.take i)).length = RG) ?_ ?_ ?_
  · exact ⟨x3, none, rfl, s03.trans sh, upd_same, ⟨0, true, .box, .start ho⟩, hRG⟩
  · rintro i σ H4 hi ⟨x3, x8, rfl, s4, eh, ⟨d, sc, ph, NI⟩, hrg⟩
    obtain ⟨k, hki⟩ : ∃ k, as[i]? = some k := ⟨_, List.getElem?_eq_getElem hi⟩
    obtain ⟨p, g1, hwd, g3, g4⟩ := get hki
    obtain ⟨c, r, ec, hc, _⟩ := hwd.first
    have hw8 := hwd.len
    obtain ⟨NN, hph⟩ := NI.next hki
    have ea4 := s4 _ _ ea
    have epl4 := s4 _ _ epl
    have ewi : atI (AF.wv ws) (0 + (i : Int)) = some (V.str (AF.S k.word)) := by
      rw [Int.zero_add]
      exact atI_nat (AF.wv_get g1)
    have epi : atI (AF.pv_ ps) (0 + (i : Int)) = some (V.int (p : Int)) := by
      rw [Int.zero_add]
      exact atI_nat (AF.pv_get g3)
    have ed : as.drop i = k :: as.drop (i + 1) := by
      rw [← (List.getElem?_eq_some_iff.mp hki).2]
      exact List.drop_eq_getElem_cons hi
    have et : as.take (i + 1) = as.take i ++ [k] := by
      rw [List.take_add_one, hki]
      rfl
    have hsn := AF.hds_snoc k (as.take i) 0 false
    have hnn := AF.nums_snoc (as.take i) k
    rw [← et] at hsn hnn
    have hil : (as.take i).length = i := by
      rw [List.length_take]
      omega
    rw [ed] at hrg
    refine ⟨.ref a, rfl, _, rfl, a, _, _, _, rfl, rfl, .of ea4, ewi, AF.S k.word, 0, c, rfl, rfl, AF.len_S (by omega), atI_nat (j := 0) (by rw [ec]; rfl), c, _, rfl, rfl, _, rfl, ?_⟩
    have ei := AF.in_digits c
    rw [hc] at ei
    cases hn : k.isN with
    | false =>
      rw [hn] at ei
      refine AF.iteN (by rw [ei]; exact Bool.false_ne_true) ?_
      rw [hn] at hsn hnn
      refine ⟨_, _, rfl, s4, ?_, NN, ?_⟩
      · rw [hsn, if_neg (fun z => Bool.false_ne_true z.1), List.append_nil]
        exact eh
      · rw [hnn, if_neg Bool.false_ne_true, Nat.add_zero]
        have e0 : AF.nums (k :: as.drop (i + 1)) = AF.nums (as.drop (i + 1)) := by
          cases k <;> first | rfl | cases hn
        rw [e0] at hrg
        exact hrg
    | true =>
      rw [hn] at ei
      refine AF.iteP ei ?_
      obtain ⟨n, rfl⟩ : ∃ n, k = .n n := by cases k <;> first | exact ⟨_, rfl⟩ | cases hn
      have hn1 : n ≤ 1001 := hwd.1
      have hrd := AF.reads hn1
      generalize hcnt : (AF.nums (as.take i)).length = cnt at *
      have hrg : (if AF.good cnt n = true then AF.rngAt (AF.nums (as.drop (i + 1))) (cnt + 1) else some cnt) = RG := hrg
      rw [hn] at hsn hnn
      rw [if_pos rfl] at hnn
      have hft := AF.filter_take tw g4 (show AF.numTk (p, AF.At.word (.n n)) = true by unfold AF.numTk; rw [ec]; rw [hn] at hc; exact hc)
      rw [hcnt] at hft
      have bad : AF.good cnt n = false → AF.dueP none (ps.zip ws) as l.length = some (p, ("out of range" : Str)) := fun z => by
        rw [z, if_neg Bool.false_ne_true] at hrg
        subst hrg
        simp only [AF.dueP, ho, hRG, hft, Option.map_some]
      have sl640 : (AF.S (AF.At.word (.n n))).length ≤ 640 := by
        rw [AF.S_len]
        omega
      -- the word ahead
      have prev : ∃ a', 0 < i ∧ as[i - 1]? = some a' ∧ ((a' = .s ∨ a' = .b) ↔ ph = .num) := by
        rcases hph n rfl with rfl | rfl
        · obtain ⟨a', h1, h2, h3⟩ := NI.n rfl
          exact ⟨a', h1, h2, ⟨fun _ => rfl, fun _ => h3⟩⟩
        · obtain ⟨h1, h2⟩ := NI.h rfl
          exact ⟨.c, h1, h2, ⟨(fun z => by rcases z with z | z <;> cases z), (fun z => by cases z)⟩⟩
      obtain ⟨a', hi0, ha', hsb⟩ := prev
      obtain ⟨p', f1, fwd, _, _⟩ := get ha'
      have ewp : atI (AF.wv ws) (0 + (i : Int) - 1) = some (V.str (AF.S a'.word)) := by
        rw [show 0 + (i : Int) - 1 = ((i - 1 : Nat) : Int) by omega]
        exact atI_nat (AF.wv_get f1)
      have hpar := NI.p
      rw [hcnt] at hpar
      refine ⟨.ref a, rfl, _, rfl, _, _, rfl, rfl, a, _, _, _, rfl, rfl, .of ea4, ewp, (by show 2 ≤ sizeLine; decide), fun t nt => ⟨t, _, rfl, .inr (.of upd_same), rfl, rfl, ?_⟩⟩
      have st := AF.same_new nt (.tup [V.str "s", V.str "b"])
      have ea5 := st _ _ ea4
      have epl5 := st _ _ epl4
      have eh5 := st _ _ eh
      have s5 := s4.trans st
      have hin : inV (V.str (AF.S a'.word)) [V.str "s", V.str "b"] = decide (ph = .num) := by
        rw [AF.in_sb fwd, Bool.eq_iff_iff, Bool.or_eq_true, decide_eq_true_eq, decide_eq_true_eq, decide_eq_true_eq]
        exact hsb
      rw [show (if false = true then !inV (V.str (AF.S a'.word)) [V.str "s", V.str "b"] else inV (V.str (AF.S a'.word)) [V.str "s", V.str "b"]) = decide (ph = .num) from hin]
      refine ⟨fun σ' H' => AF.good cnt n = true ∧ Same H H' ∧ H' hd = some (.lst (AF.pv_ (AF.hds (as.take i) 0 false))) ∧ σ' = [some (.str (AF.S l)), some (.ref a), some (.ref pl), some (.int (0 + (i : Int))), some (.int (-1)), some (.ref hd), none, none, some (.bl (decide (ph = .num))), none], ?_, ?_⟩
      · refine ⟨_, rfl, _, rfl, ?_⟩
        by_cases hpn : ph = .num
        · refine AF.iteP (decide_eq_true hpn) ?_
          subst hpn
          have hcp : cnt % 2 = 0 := by simpa using hpar
          have hgd : AF.good cnt n = (decide (1 ≤ n) && decide (n ≤ 999)) := by
            unfold AF.good
            rw [if_pos hcp]
          refine ⟨.ref a, rfl, _, rfl, a, _, _, _, rfl, rfl, .of ea5, ewi, AF.S (AF.At.word (.n n)), (n : Int), rfl, hrd, sl640, ?_⟩
          refine ⟨_, _, rfl, rfl, _, rfl, ite2 (fun c1 => ?_) (fun c1 => ?_)⟩
          · have c1 : 1 ≤ n := by
              have c1 : (1 : Int) ≤ (n : Int) := of_decide_eq_true c1
              omega
            refine ⟨_, _, rfl, rfl, _, rfl, ?_⟩
            by_cases c2 : n ≤ 999
            · refine AF.iteN ?_ ?_
              · show ¬ (!decide ((n : Int) ≤ 999)) = true
                rw [decide_eq_true (by omega : (n : Int) ≤ 999)]
                exact Bool.false_ne_true
              · refine ⟨?_, s5, eh5, rfl⟩
                rw [hgd, decide_eq_true c1, decide_eq_true c2]
                rfl
            · refine AF.iteP ?_ ?_
              · show (!decide ((n : Int) ≤ 999)) = true
                rw [decide_eq_false (by omega : ¬ (n : Int) ≤ 999)]
                rfl
              refine ⟨.ref pl, rfl, _, rfl, pl, _, _, _, rfl, rfl, .of epl5, epi, (by show 2 ≤ sizeLine; decide), fun t2 nt2 => ?_⟩
              exact out _ p "out of range" t2 s5 (bad (by rw [hgd, decide_eq_false c2, Bool.and_false])) nt2
          · have c1 : ¬ 1 ≤ n := fun z => c1 (decide_eq_true (by show (1 : Int) ≤ (n : Int); omega))
            refine ⟨_, rfl, iteT ?_⟩
            refine ⟨.ref pl, rfl, _, rfl, pl, _, _, _, rfl, rfl, .of epl5, epi, (by show 2 ≤ sizeLine; decide), fun t2 nt2 => ?_⟩
            exact out _ p "out of range" t2 s5 (bad (by rw [hgd, decide_eq_false c1, Bool.false_and])) nt2
        · refine AF.iteN (by rw [decide_eq_true_eq]; exact hpn) ?_
          have hph2 : ph = .hgt := (hph n rfl).resolve_left hpn
          have hcp : ¬ cnt % 2 = 0 := by
            rw [hph2] at hpar
            simp at hpar
            omega
          have hgd : AF.good cnt n = decide (n ≤ 1000) := by
            unfold AF.good
            rw [if_neg hcp]
          refine ⟨.ref a, rfl, _, rfl, a, _, _, _, rfl, rfl, .of ea5, ewi, AF.S (AF.At.word (.n n)), (n : Int), rfl, hrd, sl640, ?_⟩
          refine ⟨_, _, rfl, rfl, _, rfl, ?_⟩
          by_cases c2 : n ≤ 1000
          · refine AF.iteN ?_ ?_
            · show ¬ (!decide ((n : Int) ≤ 1000)) = true
              rw [decide_eq_true (by omega : (n : Int) ≤ 1000)]
              exact Bool.false_ne_true
            · exact ⟨by rw [hgd, decide_eq_true c2], s5, eh5, rfl⟩
          · refine AF.iteP ?_ ?_
            · show (!decide ((n : Int) ≤ 1000)) = true
              rw [decide_eq_false (by omega : ¬ (n : Int) ≤ 1000)]
              rfl
            refine ⟨.ref pl, rfl, _, rfl, pl, _, _, _, rfl, rfl, .of epl5, epi, (by show 2 ≤ sizeLine; decide), fun t2 nt2 => ?_⟩
            exact out _ p "out of range" t2 s5 (bad (by rw [hgd, decide_eq_false c2])) nt2
      · rintro σ' H5 ⟨hg, s6, eh6, rfl⟩
        rw [hg, if_pos rfl] at hrg
        refine ⟨_, rfl, _, rfl, ?_⟩
        have eqc : (true = true ∧ false = decide (cnt % 2 = 1)) ↔ ph = .num := by
          rcases hph n rfl with rfl | rfl
          · have hcp : cnt % 2 = 0 := by simpa using hpar
            simp [hcp]
          · have hcp : cnt % 2 = 1 := by simpa using hpar
            simp [hcp]
        rw [hil, Nat.zero_add] at hsn
        by_cases hpn : ph = .num
        · refine AF.iteP (decide_eq_true hpn) ?_
          rw [if_pos (eqc.mpr hpn)] at hsn
          refine ⟨.ref hd, rfl, .inl ⟨rfl, _, .of eh6⟩, _, rfl, hd, _, _, rfl, rfl, eh6, ?_, ?_⟩
          · rw [AF.pv_len]
            have := AF.hds_len (as.take i) 0 false
            exact AF.roomy (by omega)
          refine ⟨_, _, rfl, AF.same_upd s6 nhdH _, ?_, NN, by rw [hnn]; exact hrg⟩
          rw [upd_same, hsn, AF.pv_app]
          show some (HO.lst (_ ++ [V.int (0 + (i : Int))])) = some (HO.lst (_ ++ [V.int (i : Int)]))
          rw [Int.zero_add]
        · refine AF.iteN (by rw [decide_eq_true_eq]; exact hpn) ?_
          rw [if_neg (fun z => hpn (eqc.mp z)), List.append_nil] at hsn
          exact ⟨_, _, rfl, s6, by rw [hsn]; exact eh6, NN, by rw [hnn]; exact hrg⟩
  rintro σ H4 ⟨x3, x8, rfl, s4, eh, _, hrg⟩
  rw [List.drop_of_length_le (Nat.le_refl _)] at hrg
  rw [List.take_of_length_le (Nat.le_refl _)] at eh
  have hrg : none = RG := hrg
  subst hrg
  clear s3 s03 sh
  have evv := AF.ev_vals tw
  obtain ⟨_, hl2, hat⟩ := AF.hds_at tw 0 false
  obtain ⟨hasc, _⟩ := AF.hds_lt as 0 false
  have hmany := AF.heads_many (AF.ordAt_none ho) tw
  have hhl := AF.hds_len as 0 false
  generalize AF.hds as 0 false = hs at *
  generalize hTW : AF.twAt [] (AF.evens (AF.nums as)) 0 = TW
  -- number twice
  refine ⟨.ref hd, rfl, hd, rfl, ⟨_, .of eh⟩, ?_⟩
  have hsl := AF.pv_len hs
  refine for_list (xs := AF.pv_ hs) (Pv := fun i σ H5 => ∃ (x3 : Option V) (seen : List Nat), σ = [some (.str (AF.S l)), some (.ref a), some (.ref pl), x3, some (.int (-1)), some (.ref hd), none, none, x8, none] ∧ Same H4 H5 ∧
      (∀ n, n ∈ seen ↔ n ∈ (hs.take i).map (AF.vAt as)) ∧ AF.twAt seen ((hs.drop i).map (AF.vAt as)) i = TW) ?_ ?_ ?_ ?_
  · exact ⟨x3, [], rfl, .refl _, fun n => by simp, by rw [List.drop_zero, ← evv]; exact hTW⟩
  · rintro i σ H5 _ ⟨_, _, _, s5, _⟩
    exact .of (s5 _ _ eh)
  · rintro i y σ H5 hy ⟨x3, seen, rfl, s5, hseen, htw⟩
    obtain ⟨k, hki, rfl⟩ : ∃ k, hs[i]? = some k ∧ y = V.int (k : Int) := by
      unfold AF.pv_ at hy
      rw [List.getElem?_map] at hy
      cases hx : hs[i]? with
      | none => rw [hx] at hy; cases hy
      | some k =>
        rw [hx] at hy
        exact ⟨k, rfl, (Option.some.inj hy).symm⟩
    have wordAt : ∀ {j : Nat}, j ∈ hs → ∃ p, as[j]? = some (.n (AF.vAt as j)) ∧ atI (AF.wv ws) (j : Int) = some (V.str (AF.S (AF.dg (AF.vAt as j)))) ∧ AF.vAt as j ≤ 1001 ∧ ps[j]? = some p ∧ (ps.zip ws)[j]? = some (p, AF.dg (AF.vAt as j)) := by
      intro j hj
      obtain ⟨m, hm⟩ := List.getElem?_of_mem hj
      obtain ⟨_, _, n, _, g2, _, _⟩ := hat m j hm
      rw [Nat.sub_zero] at g2
      have ev : AF.vAt as j = n := by
        unfold AF.vAt
        rw [g2]
      rw [ev]
      obtain ⟨p, g1, g2', g3, g4⟩ := get g2
      exact ⟨p, g2, atI_nat (AF.wv_get g1), g2'.1, g3, g4⟩
    have hkm := List.mem_of_getElem? hki
    obtain ⟨p, k1, k2, k3, k4, k5⟩ := wordAt hkm
    have s45 := s4.trans s5
    have lens : ∀ j, AF.vAt as j ≤ 1001 → (AF.S (AF.dg (AF.vAt as j))).length ≤ 640 := fun j h => by
      rw [AF.S_len]
      have := AF.dg_len h
      omega
    have edr : hs.drop i = k :: hs.drop (i + 1) := by
      rw [← (List.getElem?_eq_some_iff.mp hki).2]
      exact List.drop_eq_getElem_cons (List.getElem?_eq_some_iff.mp hki).1
    rw [edr, List.map_cons] at htw
    have htw : (if AF.vAt as k ∈ seen then some i else AF.twAt (AF.vAt as k :: seen) ((hs.drop (i + 1)).map (AF.vAt as)) (i + 1)) = TW := htw
    refine ⟨.ref a, rfl, _, rfl, a, _, _, _, rfl, rfl, .of (s45 _ _ ea), k2, _, _, rfl, AF.reads k3, lens k k3, ?_⟩
    refine ⟨.ref hd, rfl, hd, rfl, ⟨_, .of (s5 _ _ eh)⟩, fun D nD => ?_⟩
    refine lc_list (xs := AF.pv_ hs) (Pv := fun m H6 => Same H5 H6 ∧ H6 D = some (.lst (((hs.take m).filter fun j => decide (j < k)).map fun j => V.int (AF.vAt as j : Int)))) ?_ ?_ ?_ ?_
    · exact ⟨AF.same_new nD _, upd_same⟩
    · rintro m H6 _ ⟨s6, _⟩
      exact .of (s6 _ _ (s5 _ _ eh))
    · rintro m y H6 hy ⟨s6, eD⟩
      obtain ⟨j, hj, rfl⟩ : ∃ j, hs[m]? = some j ∧ y = V.int (j : Int) := by
        unfold AF.pv_ at hy
        rw [List.getElem?_map] at hy
        cases hx : hs[m]? with
        | none => rw [hx] at hy; cases hy
        | some j =>
          rw [hx] at hy
          exact ⟨j, rfl, (Option.some.inj hy).symm⟩
      obtain ⟨_, _, j2, j3, _, _⟩ := wordAt (List.mem_of_getElem? hj)
      have etm : hs.take (m + 1) = hs.take m ++ [j] := by
        rw [List.take_add_one, hj]
        rfl
      refine ⟨rfl, _, rfl, _, rfl, _, _, rfl, rfl, _, rfl, ite2 (fun c => ?_) (fun c => ?_)⟩
      · have c : j < k := by
          have c : (j : Int) < (k : Int) := of_decide_eq_true c
          omega
        refine ⟨.ref a, rfl, _, rfl, a, _, _, _, rfl, rfl, .of (s6 _ _ (s45 _ _ ea)), j2, _, _, rfl, AF.reads j3, lens j j3, ?_⟩
        refine ⟨_, eD, ?_, AF.same_upd s6 nD _, ?_⟩
        · rw [List.length_map]
          have h1 := List.length_filter_le (fun j => decide (j < k)) (hs.take m)
          have h2 : (hs.take m).length ≤ hs.length := by rw [List.length_take]; omega
          exact AF.roomy (by omega)
        · rw [upd_same, etm, List.filter_append, List.map_append]
          simp [c]
      · have c : ¬ j < k := fun z => c (decide_eq_true (by show (j : Int) < (k : Int); omega))
        refine ⟨s6, ?_⟩
        rw [eD, etm, List.filter_append]
        simp [c]
    rintro H6 ⟨s6, eD⟩
    rw [List.take_of_length_le (by omega), AF.asc_filter hasc hki] at eD
    have s46 := s45.trans s6
    have eL : ((hs.take i).map fun j => V.int (AF.vAt as j : Int)) = (((hs.take i).map (AF.vAt as)).map fun (n : Nat) => (n : Int)).map V.int := by
      rw [List.map_map, List.map_map]
      rfl
    rw [eL] at eD
    refine ⟨D, _, rfl, .inl (.of eD), rfl, AF.flat_ints _, ?_⟩
    have hmem : inV (.int (AF.vAt as k : Int)) ((((hs.take i).map (AF.vAt as)).map fun (n : Nat) => (n : Int)).map V.int) = true ↔ AF.vAt as k ∈ seen := by
      rw [AF.inV_ints, hseen]
      constructor
      · intro h
        obtain ⟨n, h1, h2⟩ := List.mem_map.mp h
        have : n = AF.vAt as k := by omega
        rw [← this]
        exact h1
      · intro h
        exact List.mem_map.mpr ⟨_, h, rfl⟩
    refine ⟨_, rfl, ?_⟩
    show if inV (.int (AF.vAt as k : Int)) ((((hs.take i).map (AF.vAt as)).map fun (n : Nat) => (n : Int)).map V.int) = true then _ else _
    by_cases hsk : AF.vAt as k ∈ seen
    · refine AF.iteP (hmem.mpr hsk) ?_
      rw [if_pos hsk] at htw
      subst htw
      obtain ⟨_, t, n, g2, g3, g4, g5⟩ := hat i k hki
      rw [Nat.sub_zero, k5] at g2
      cases g2
      have g4 : (AF.evens ((ps.zip ws).filter AF.numTk))[i]? = some (p, AF.dg (AF.vAt as k)) := g4
      refine ⟨.ref pl, rfl, _, rfl, pl, _, _, _, rfl, rfl, .of (s46 _ _ epl), atI_nat (AF.pv_get k4), (by show 2 ≤ sizeLine; decide), fun t2 nt2 => ?_⟩
      exact out _ p "number twice" t2 s46 (by simp only [AF.dueP, ho, hRG, hTW, g4, Option.map_some]) nt2
    · refine AF.iteN (fun z => hsk (hmem.mp z)) ?_
      rw [if_neg hsk] at htw
      refine ⟨_, AF.vAt as k :: seen, rfl, s5.trans s6, fun n => ?_, htw⟩
      rw [List.mem_cons, hseen, List.take_add_one, hki, List.map_append, List.mem_append]
      show _ ↔ _ ∨ n ∈ [AF.vAt as k]
      rw [List.mem_singleton]
      exact or_comm
  rintro σ H5 ⟨x3, seen, rfl, s5, hseen, htw⟩
  rw [List.drop_of_length_le (by omega)] at htw
  have htw : none = TW := htw
  subst htw
  have s45 := s4.trans s5
  have hne := AF.ord_ne ho
  obtain ⟨p0, hp0, hz0⟩ : ∃ p0, ps[0]? = some p0 ∧ ∃ w0, (ps.zip ws)[0]? = some (p0, w0) := by
    cases has : as with
    | nil => exact absurd has hne
    | cons a0 r0 =>
      obtain ⟨p, g1, g2, g3, g4⟩ := get (j := 0) (k := a0) (by rw [has]; rfl)
      exact ⟨p, g3, _, g4⟩
  obtain ⟨w0, hz0⟩ := hz0
  refine ⟨.ref hd, rfl, hd, _, rfl, .inl (.of (s5 _ _ eh)), _, _, rfl, rfl, _, rfl, ite2 (fun c => ?_) (fun c => ?_)⟩
  · have c : 40 < (as.foldl AF.lstep (0, 0, 0)).1 := by
      have c : ((AF.pv_ hs).length : Int) > 40 := of_decide_eq_true c
      rw [hmany]
      omega
    refine ⟨.ref pl, rfl, pl, _, _, _, rfl, rfl, .of (s45 _ _ epl), atI_nat (j := 0) (AF.pv_get hp0), (by show 2 ≤ sizeLine; decide), fun t2 nt2 => ?_⟩
    exact out _ p0 "too many boxes" t2 s45 (by simp only [AF.dueP, ho, hRG, hTW, if_pos c, hz0, Option.map_some]) nt2
  have c : ¬ 40 < (as.foldl AF.lstep (0, 0, 0)).1 := fun z => c (decide_eq_true (by
    show ((AF.pv_ hs).length : Int) > 40
    rw [hmany] at z
    omega))
  refine ⟨.ref a, rfl, a, rfl, ⟨_, .of (s45 _ _ ea)⟩, ?_⟩
  refine for_list (xs := AF.wv ws) (Pv := fun i σ H6 => ∃ (x7 : Option V) (bx lv dp : Int), σ = [some (.str (AF.S l)), some (.ref a), some (.ref pl), x3, some (.int (-1)), some (.ref hd), some (.int lv), x7, x8, none] ∧ Same H5 H6 ∧ (as.take i).foldl AF.lstep (0, 0, 0) = (bx, lv, dp) ∧ lv ≤ 4 ∧ dp ≤ 4) ?_ ?_ ?_ ?_
  · exact ⟨none, 0, 0, 0, rfl, .refl _, rfl, by omega, by omega⟩
  · rintro i σ H6 _ ⟨_, _, _, _, _, s6, _⟩
    exact .of (s6 _ _ (s45 _ _ ea))
  · rintro i y σ H6 hy ⟨x7, bx, lv, dp, rfl, s6, hfo, hlv, hdp⟩
    have hi : i < as.length := by
      have := (List.getElem?_eq_some_iff.mp hy).1
      omega
    obtain ⟨k, hki⟩ : ∃ k, as[i]? = some k := ⟨_, List.getElem?_eq_getElem hi⟩
    obtain ⟨p, g1, hwd, g3, g4⟩ := get hki
    have ey := AF.wv_get g1
    rw [hy] at ey
    cases ey
    have et : (as.take (i + 1)).foldl AF.lstep (0, 0, 0) = AF.lstep (bx, lv, dp) k := by
      rw [List.take_add_one, hki, List.foldl_append, hfo]
      rfl
    refine ⟨_, rfl, _, rfl, rfl, _, rfl, ?_⟩
    rw [AF.eq_o hwd]
    refine AF.tC_if ?_
    rw [show (if decide (k = AF.At.o) = true then V.int 1 else V.int 0) = V.int (if k = .o then 1 else 0) by cases k <;> rfl]
    refine ⟨_, _, rfl, rfl, _, rfl, rfl, _, rfl, ?_⟩
    rw [AF.eq_e hwd]
    refine AF.tC_if ?_
    rw [show (if decide (k = AF.At.e) = true then V.int 1 else V.int 0) = V.int (if k = .e then 1 else 0) by cases k <;> rfl]
    refine ⟨_, _, rfl, rfl, ?_⟩
    have elv : lv + (if k = .o then 1 else 0) - (if k = .e then 1 else 0) = (AF.lstep (bx, lv, dp) k).2.1 := by
      cases k <;> simp [AF.lstep]
    dsimp only
    rw [elv]
    refine ⟨_, rfl, _, _, rfl, rfl, _, rfl, ite2 (fun c2 => ?_) (fun c2 => ?_)⟩
    · have c2 : (AF.lstep (bx, lv, dp) k).2.1 > 4 := of_decide_eq_true c2
      have hdeep : 4 < (as.foldl AF.lstep (0, 0, 0)).2.2 := by
        have h1 : 4 < (AF.lstep (bx, lv, dp) k).2.2 := by
          cases k <;> simp only [AF.lstep] at c2 ⊢ <;> first | omega | (split <;> omega)
        have h2 := AF.deep_mono (as.drop (i + 1)) ((as.take (i + 1)).foldl AF.lstep (0, 0, 0))
        rw [← List.foldl_append, List.take_append_drop, et] at h2
        omega
      refine ⟨.ref pl, rfl, pl, _, _, _, rfl, rfl, .of (s6 _ _ (s45 _ _ epl)), atI_nat (j := 0) (AF.pv_get hp0), (by show 2 ≤ sizeLine; decide), fun t2 nt2 => ?_⟩
      exact out _ p0 "too deep" t2 (s45.trans s6) (by simp only [AF.dueP, ho, hRG, hTW, if_neg c, if_pos hdeep, hz0, Option.map_some]) nt2
    · have c2 : ¬ (AF.lstep (bx, lv, dp) k).2.1 > 4 := fun z => c2 (decide_eq_true z)
      refine ⟨_, (AF.lstep (bx, lv, dp) k).1, _, (AF.lstep (bx, lv, dp) k).2.2, rfl, s6, et, by omega, ?_⟩
      cases k <;> simp only [AF.lstep] at c2 ⊢ <;> first | omega | (split <;> omega)
  · rintro σ H6 ⟨x7, bx, lv, dp, rfl, s6, hfo, hlv, hdp⟩
    rw [List.take_of_length_le (by omega)] at hfo
    refine q .non H6 (s45.trans s6) ?_
    have hd : ¬ 4 < (as.foldl AF.lstep (0, 0, 0)).2.2 := by
      rw [hfo]
      show ¬ 4 < dp
      omega
    rw [show AF.dueP none (ps.zip ws) as l.length = none by simp only [AF.dueP, ho, hRG, hTW, if_neg c, if_neg hd]]
    exact .non

end
end K03
namespace K03
open PySem PySem.Spec PyProof.Rows L2
section
variable {P : Program} {w : World} {K : PySem.W.Frag} {mg : Str → Option Value} {base : Heap}
/-! ### what parse_document tells -/
def spTold (K : PySem.W.Frag) : Sp := fun vs H Q _ => ∃ (txt : List Nat) (e : Option Nat) (ts : List AF.Tk) (as : List AF.At), vs = [.str (AF.S txt)] ∧ txt.length < 5000 ∧ AF.LexR 0 txt e ts ∧ (e = none → AF.TW as ts) ∧ as.length ≤ 4000 ∧
  ∀ (v : V) (H' : Hp), Same H H' → Dp K H' v (AF.dueD (AF.dueP e ts as txt.length)) → Q v H'
theorem ok_law_told (T : Tx K mg w) {C fI F : Addr} {file : Str} (TT : AF.TX.TxtC K mg C fI file) (PG : AF.TX.Pg P file) (TE : AF.TXX K mg C F) : FnOk P w K mg base CX0 6 T.d_law_told.f T.d_law_told.fd ["text"] (spTold K) := by
  have G := okE_parse_document (P := P) (w := w) (base := base) T TT PG
  refine T.d_law_told.F.ok sc_law_told (fun vs H Q E h => ?_) (fun cdv A outer s H vs Q E hr h => ?_)
  · obtain ⟨_, _, _, _, rfl, _⟩ := h
    rfl
  obtain ⟨txt, e, ts, as, rfl, hlen, hlex, htw, has, q⟩ := h
  refine ⟨_, pss_cons (AF.ps_try_asT (i := 1) rfl rfl sc_law_told.nd rfl rfl ⟨rfl, by decide, .inl TT.gC⟩ TE.exm
      (fun W pn xe tk _ => pss_one (ps_expr (pe_callS G (hr.mono (by omega)) (by rfl) T.d_parse_document.m T.d_parse_document.F.kp T.d_parse_document.b (AF.passD tk) (pa_cons (pv 0) pa_nil))))
      (fun a t dd oe pn hz => AF.suite_of (pss_cons (ps_if (PW.pt (pw_or (pt_not (pt_val (pe_callB (AF.isTK K rfl TE.ex hz) (by rfl) T.z_isinstance (by decide +kernel) (pa_cons (pv 1) (pa_cons (pe_glob (v := .ref F) rfl TE.gF rfl) pa_nil)))))
          (pw_or1 (pt_cmpR op_ne (pe_callTy (AF.strTK hr.units TT.str TT.exC hz) (by rfl) T.z_str (by decide +kernel) (pa_cons (pv 1) pa_nil))
            (pe_op op_add_str (pe_op op_add_str (pe_xf TE.xf TT.noM hz.1 (hz.2.imp fun _ h => h.1) (pv 1)) pe_str) (pe_callTy call_str_int (by rfl) T.z_str (by decide +kernel) (pa_cons (pe_xf TE.xf TT.noP hz.1 (hz.2.imp fun _ h => h.1) (pv 1)) pa_nil))) (nomark _)))))
          (pss_one (ps_ret (pe_tup (pa_cons (pe_un un_neg pe_int) (pa_cons pe_str pa_nil))))) pss_nil)
        (pss_one (ps_ret (pe_tup (pa_cons (pe_xf TE.xf TT.noP hz.1 (hz.2.imp fun _ h => h.1) (pv 1)) (pa_cons (pe_xf TE.xf TT.noM hz.1 (hz.2.imp fun _ h => h.1) (pv 1)) pa_nil))))))))
    (pss_one (ps_ret pe_non)), ?_⟩
  refine ⟨_, rfl, txt, e, ts, as, rfl, hlen, hlex, htw, has, fun hd v H1 s1 => ?_, fun p g hd dx H1 s1 edx => ?_⟩
  · rw [hd] at q
    exact q .non H1 s1 .non
  · rw [hd] at q
    refine ⟨rfl, fun a t dd edd na p' g' e1 e2 => ?_⟩
    cases edd
    rw [edx] at e1
    have e1 := HO.xd.inj (Option.some.inj e1)
    have e1 : g = g' ∧ (p : Int) = p' := by simpa using e1
    obtain ⟨rfl, rfl⟩ := e1
    refine ⟨_, rfl, .ref F, .ref F, true, rfl, (fun u r => r), TE.kit, ⟨_, edx⟩, _, rfl, iteF ?_⟩
    refine ⟨_, rfl, _, rfl, e2, ?_⟩
    obtain ⟨hp, hg⟩ := AF.due_small hlex hlen hd
    have hl4 : (" at " : Str).length = 4 := by decide
    have hl104 : (g ++ (" at " : Str)).length ≤ 104 := by
      rw [PySem.Str.length_append, hl4]
      omega
    refine ⟨_, rfl, rfl, rfl, _, _, _, rfl, edx, rfl, _, _, rfl, rfl, ?_, ?_⟩
    · show g.length + (" at " : Str).length ≤ sizeLine
      rw [hl4]
      exact Nat.le_of_lt (AF.roomy (by omega))
    refine ⟨_, rfl, rfl, rfl, _, _, _, rfl, edx, rfl, _, rfl, ?_, _, _, rfl, rfl, ?_, ?_⟩
    · show (p : Int).natAbs.log2 < 1920
      rw [Int.natAbs_natCast]
      by_cases h0 : p = 0
      · subst h0
        decide
      · have := (Nat.log2_lt h0 (k := 13)).mpr (by omega)
        omega
    · show (g ++ (" at " : Str)).length + (Str.ofString (toString (p : Int))).length ≤ sizeLine
      rw [AF.str_num, AF.S_len]
      have := AF.dg_len5 hp
      exact Nat.le_of_lt (AF.roomy (by omega))
    refine ⟨rfl, _, rfl, AF.iteN ?_ ?_⟩
    · show ¬ (!decide (V.str (g ++ " at " ++ Str.ofString (toString (p : Int))) = V.str (g ++ " at " ++ Str.ofString (toString (p : Int))))) = true
      rw [decide_eq_true rfl]
      exact Bool.false_ne_true
    refine ⟨_, rfl, rfl, rfl, _, _, _, rfl, edx, rfl, _, rfl, rfl, rfl, _, _, _, rfl, edx, rfl, (by show 2 ≤ sizeLine; decide), fun r nr => ?_⟩
    exact q _ _ (s1.trans (AF.same_new nr _)) (.tup (.of upd_same) (.cons (.int _) (.cons (.str _) .nil)))

end
end K03
namespace K03
open PySem PySem.Spec PyProof.Rows L2
section
variable {P : Program} {w : World} {K : PySem.W.Frag} {mg : Str → Option Value} {base : Heap}
/-! ### the law's large documents -/
def nestG : Nat → AF.Box
  | 0 => .blk 5 3
  | k + 1 => .scr (10 + (k : Int)) 5 [nestG k]
theorem nestG_ok : ∀ k, (nestG k).pre.length = k + 1 ∧ (nestG k).depth = k ∧ ∀ c ∈ (nestG k).pre, 0 ≤ c.num ∧ c.num ≤ 10 + (k : Int) ∧ 0 ≤ c.ht ∧ c.ht ≤ 1001
  | 0 => ⟨by simp [nestG, AF.Box.pre], by simp [nestG, AF.Box.depth], fun c hc => by
    have e : c = .blk 5 3 := by simpa [nestG, AF.Box.pre] using hc
    rw [e]
    simp only [AF.Box.num, AF.Box.ht]
    omega⟩
  | k + 1 => by
    obtain ⟨h1, h2, h3⟩ := nestG_ok k
    refine ⟨by simp [nestG, AF.Box.pre, AF.Box.preL, h1], by simp [nestG, AF.Box.depth, AF.Box.depthL, h2], fun c hc => ?_⟩
    have hc : c = .scr (10 + (k : Int)) 5 [nestG k] ∨ c ∈ (nestG k).pre := by simpa [nestG, AF.Box.pre, AF.Box.preL] using hc
    rcases hc with rfl | hc
    · simp only [AF.Box.num, AF.Box.ht]
      omega
    · have := h3 c hc
      omega
/-- what the law asks of its documents -/
structure Mid (b : AF.Box) : Prop where
  sm : b.Sm
  dep : b.depth < 8
  len : b.pre.length ≤ 80
def spLarge : Sp := fun vs H Q _ => ∃ (d l : Addr), vs = [.ref d] ∧ AF.DrawAt H d l ∧
  ∀ (v : V) (b : AF.Box) (H' : Hp), AF.BoxAt H' v b → Mid b → AF.DrawAt H' d l → AF.But [d] H H' → AF.KeepT H H' → Q v H'
theorem ok_law_large (T : Tx K mg w) : FnOk P w K mg base CX0 2 T.d_law_large.f T.d_law_large.fd ["draw"] spLarge := by
  have G_law_next := ok_law_next (P := P) (w := w) (base := base) T
  refine T.d_law_large.F.ok sc_law_large (fun vs H Q E h => ?_) (fun cdv A outer s H vs Q E hr h => ?_)
  · obtain ⟨_, _, rfl, _⟩ := h
    rfl
  obtain ⟨d, l, rfl, hD, q⟩ := h
  refine ⟨_, (pss_cons (ps_if (pt_cmpR op_eq (AF.cal T.d_law_next G_law_next (hr.mono (by omega)) (pa_cons (pv 0) (pa_cons pe_int pa_nil))) pe_int (nomark _))
      (pss_cons (ps_set (i := 1) sc_law_large.nd rfl (Or.inl rfl) (pe_tup (pa_cons pe_str (pa_cons pe_int (pa_cons pe_int pa_nil)))))
      (pss_cons (ps_for PassesOwn.never rfl (pi_range1 (by rfl) T.z_range (pa_cons (pe_op op_add pe_int (AF.cal T.d_law_next G_law_next (hr.mono (by omega)) (pa_cons (pv 0) (pa_cons pe_int pa_nil)))) pa_nil)) (pg_name (i := 2) sc_law_large.nd rfl (Or.inl rfl))
      (pss_one (ps_set (i := 1) sc_law_large.nd rfl (Or.inl rfl) (pe_tup (pa_cons pe_str (pa_cons (pe_op op_add pe_int (pv 2)) (pa_cons pe_int (pa_cons (pe_tup (pa_cons (pv 1) pa_nil)) pa_nil))))))))
      (pss_one (ps_ret (pv 1)))))
      pss_nil)
      (pss_one (ps_ret (pe_tup (pa_cons pe_str (pa_cons pe_int (pa_cons pe_int (pa_cons (pe_callTy (AF.tupK K rfl) (by rfl) T.z_tuple (by decide +kernel) (pa_cons (pe_lc (own := [("k", 2)]) (g := gName 2) rfl sc_law_large.nd (pi_range1 (by rfl) T.z_range (pa_cons (pe_op op_add pe_int (AF.cal T.d_law_next G_law_next (hr.mono (by omega)) (pa_cons (pv 0) (pa_cons pe_int pa_nil)))) pa_nil)) (blkOk_by (own := [("k", 2)]) (N := ["draw", "box", "k"]) (sc := defScope s_law_large) (by decide +kernel)) (fun _ _ _ _ _ => (pg_name (i := 2) sc_law_large.nd rfl (Or.inl rfl))) (fun _ _ _ _ _ => pts_nil) (fun _ _ _ _ _ => (pe_tup (pa_cons pe_str (pa_cons (pe_op op_add pe_int (pv 2)) (pa_cons (pv 2) pa_nil)))))) pa_nil)) pa_nil)))))))), ?_⟩
  refine ⟨.ref d, rfl, d, l, 2, rfl, hD, by decide, by decide, fun x H1 x0 x1 hD1 b1 k1 => ?_⟩
  refine ⟨rfl, _, rfl, ite2 (fun c => ?_) (fun c => ?_)⟩
  · refine ⟨(by show 3 ≤ sizeLine; decide), fun p np => ?_⟩
    have s1 := AF.same_new np (.tup [V.str "block", .int 5, .int 3])
    have hDp := AF.DrawAt.same hD1 s1
    refine ⟨.ref d, rfl, d, l, 4, rfl, hDp, by decide, by decide, fun y H2 y0 y1 hD2 b2 k2 => ?_⟩
    refine ⟨_, _, rfl, rfl, _, rfl, by omega, by omega, ?_⟩
    refine for_range (lo := 0) (n := (3 + y).toNat) (Pv := fun i σ H3 => ∃ (v : V) (x2 : Option V), σ = [some (.ref d), some v, x2] ∧ Same H2 H3 ∧ AF.BoxAt H3 v (nestG i)) ?_ ?_ ?_
    · exact ⟨.ref p, none, rfl, .refl _, AF.BoxAt.mkB (k2 _ _ upd_same)⟩
    · rintro i σ H3 hi ⟨v, x2, rfl, s3, bv⟩
      refine ⟨_, rfl, _, _, rfl, rfl, v, rfl, (by show 1 ≤ sizeLine; decide), fun t nt => ⟨(by show 4 ≤ sizeLine; decide), fun u nu => ?_⟩⟩
      have s4 := AF.same_new nt (.tup [v])
      have s5 := AF.same_new nu (.tup [V.str "scroller", .int (10 + (0 + (i : Int))), .int 5, .ref t])
      refine ⟨.ref u, some (.int (0 + (i : Int))), rfl, s3.trans (s4.trans s5), ?_⟩
      have e : nestG (i + 1) = .scr (10 + (0 + (i : Int))) 5 [nestG i] := by
        rw [Int.zero_add]
        rfl
      rw [e]
      exact AF.BoxAt.mkS upd_same (s5 _ _ upd_same) (.one (bv.s (s4.trans s5)))
    · rintro σ H3 ⟨v, x2, rfl, s3, bv⟩
      obtain ⟨h1, h2, h3⟩ := nestG_ok (3 + y).toNat
      refine ⟨v, rfl, q v _ H3 bv ⟨fun c hc => ?_, by omega, by omega⟩ (AF.DrawAt.same hD2 s3) ((b1.trans (.of s1)).trans (b2.trans (.of s3))) ((k1.trans (AF.Same.keepT s1)).trans (k2.trans (AF.Same.keepT s3)))⟩
      have := h3 c hc
      omega
  · refine ⟨.ref d, rfl, d, l, 3, rfl, hD1, by decide, by decide, fun y H2 y0 y1 hD2 b2 k2 => ?_⟩
    refine ⟨_, _, rfl, rfl, _, rfl, by omega, by omega, fun D nD => ?_⟩
    refine lc_range (lo := 0) (n := (38 + y).toNat) (Pv := fun i H6 => ∃ (zs : List V) (cs : List AF.Box), Same H2 H6 ∧ H6 D = some (.lst zs) ∧ AF.BoxesAt H6 zs cs ∧ cs.length = i ∧ (AF.Box.preL cs).length = i ∧ AF.Box.depthL cs = 0 ∧ ∀ c ∈ AF.Box.preL cs, 0 ≤ c.num ∧ c.num ≤ 10 + (i : Int) ∧ 0 ≤ c.ht ∧ c.ht ≤ (i : Int)) ?_ ?_ ?_
    · exact ⟨[], [], AF.same_new nD _, upd_same, .nil, rfl, by simp [AF.Box.preL], by simp [AF.Box.depthL], fun c hc => by simp [AF.Box.preL] at hc⟩
    · rintro i H6 hi6 ⟨zs, cs, s6, eD, bz, hcl, hpl, hdl, hnl⟩
      have hzl := bz.len
      refine ⟨rfl, .int (0 + (i : Int)), rfl, _, _, rfl, rfl, .int (0 + (i : Int)), rfl, (by show 3 ≤ sizeLine; decide), fun o no => ?_⟩
      have s7 := AF.same_new no (.tup [.str "block", .int (10 + (0 + (i : Int))), .int (0 + (i : Int))])
      have eD7 := s7 _ _ eD
      have kk := AF.keepT_upd eD7 (.lst (zs ++ [.ref o]))
      refine ⟨zs, eD7, small1000 (by omega), zs ++ [.ref o], cs ++ [.blk (10 + (0 + (i : Int))) (0 + (i : Int))], AF.same_upd (s6.trans s7) nD _, upd_same, ((bz.s s7).k kk).append (.one ((AF.BoxAt.mkB upd_same).k kk)), by rw [List.length_append, hcl]; rfl, ?_, ?_, ?_⟩
      · rw [AF.Box.preL_append, List.length_append, hpl]
        simp [AF.Box.preL, AF.Box.pre]
      · rw [AF.Box.depthL_append, hdl]
        simp [AF.Box.depthL, AF.Box.depth]
      · intro c hc
        rw [AF.Box.preL_append, List.mem_append] at hc
        rcases hc with hc | hc
        · have := hnl c hc
          omega
        · have e : c = .blk (10 + (0 + (i : Int))) (0 + (i : Int)) := by simpa [AF.Box.preL, AF.Box.pre] using hc
          rw [e]
          simp only [AF.Box.num, AF.Box.ht]
          omega
    · rintro H6 ⟨zs, cs, s6, eD, bz, hcl, hpl, hdl, hnl⟩
      refine ⟨D, zs, rfl, .inl ⟨.of eD, fun t nt => ⟨(by show 4 ≤ sizeLine; decide), fun o no => ?_⟩⟩⟩
      have s7 := AF.same_new nt (.tup zs)
      have s8 := AF.same_new no (.tup [V.str "scroller", .int 1, .int 9, .ref t])
      have sB := s6.trans (s7.trans s8)
      refine q (.ref o) (.scr 1 9 cs) _ (AF.BoxAt.mkS upd_same (s8 _ _ upd_same) (bz.s (s7.trans s8))) ⟨fun c hc => ?_, ?_, ?_⟩ (AF.DrawAt.same hD2 sB) (b1.trans (b2.trans (.of sB))) (k1.trans (k2.trans (AF.Same.keepT sB)))
      · simp only [AF.Box.pre] at hc
        rcases List.mem_cons.mp hc with rfl | hc
        · simp only [AF.Box.num, AF.Box.ht]
          omega
        · have := hnl c hc
          omega
      · simp only [AF.Box.depth]
        omega
      · simp only [AF.Box.pre, List.length_cons]
        omega

end
end K03
namespace K03
open PySem PySem.Spec PyProof.Rows L2
section
variable {P : Program} {w : World} {K : PySem.W.Frag} {mg : Str → Option Value} {base : Heap}
/-! ### the law -/
theorem doc_mid {b : AF.Box} (dc : b.Doc) : Mid b := by
  obtain ⟨n, h, hi, ps, rfl, h1, h2, h3, h4, g, h5⟩ := dc.ex
  have hlen := dc.len
  have hdep := dc.dep
  refine ⟨?_, by omega, by omega⟩
  intro c hc
  simp only [AF.Box.pre] at hc
  rcases List.mem_cons.mp hc with rfl | hc
  · simp only [AF.Box.num, AF.Box.ht]
    omega
  · have e1 := g.low c hc
    have e2 := g.top c hc
    have e3 := g.hts c hc
    have e4 := g.few
    simp only [AF.Box.pre, List.length_cons] at hlen
    omega
theorem tk_aw {b : AF.Box} (sm : b.Sm) : AF.AW (b.tk.map AF.At.word) := by
  intro w hw
  obtain ⟨a, ha, rfl⟩ := List.mem_map.mp hw
  refine ⟨some a, rfl, AF.Wd.of_word ?_⟩
  rintro k rfl
  have h1 : k ∈ AF.nums b.tk := by
    have key : ∀ l : List AF.At, AF.At.n k ∈ l → k ∈ AF.nums l := by
      intro l
      induction l with
      | nil => intro h; cases h
      | cons a r ih =>
        intro h
        rcases List.mem_cons.mp h with rfl | h
        · simp [AF.nums]
        · have := ih h
          cases a <;> simp [AF.nums, this]
    exact key _ ha
  rw [AF.Box.nums_tk] at h1
  obtain ⟨c, hc, h2⟩ := List.mem_flatMap.mp h1
  have := sm c hc
  simp only [List.mem_cons, List.not_mem_nil, or_false] at h2
  omega
theorem dueD_dd (o : Option (Nat × Str)) : AF.dd (AF.dueD o) < 3 ∧ AF.wd (AF.dueD o) ≤ 1000 := by
  cases o with
  | none => exact ⟨by decide, by decide⟩
  | some x =>
    obtain ⟨p, g⟩ := x
    simp only [AF.dueD, AF.dd, AF.ddL, AF.wd, AF.wdL]
    exact ⟨by decide, by simp⟩
theorem ok_all (T : Tx K mg w) {C fI F : Addr} {file : Str} (TT : AF.TX.TxtC K mg C fI file) (PG : AF.TX.Pg P file) (TE : AF.TXX K mg C F) : FnOk P w K mg base CX0 10 T.d_law.f T.d_law.fd ["script"] (AF.spLaw K) := by
  have G_law_draw := ok_law_draw (P := P) (w := w) (base := base) T
  have G_law_next := ok_law_next (P := P) (w := w) (base := base) T
  have G_law_document := ok_law_document (P := P) (w := w) (base := base) T
  have G_law_large := ok_law_large (P := P) (w := w) (base := base) T
  have G_law_same := ok_law_same (P := P) (w := w) (base := base) T 3
  have G_law_tokens := ok_law_tokens (P := P) (w := w) (base := base) T 8
  have G_law_changed := ok_law_changed (P := P) (w := w) (base := base) T
  have G_law_text := ok_law_text (P := P) (w := w) (base := base) T
  have G_law_told := ok_law_told (P := P) (w := w) (base := base) T TT PG TE
  have G_law_due := ok_law_due (P := P) (w := w) (base := base) T
  refine T.d_law.F.ok sc_law (fun vs H Q E h => ?_) (fun cdv A outer s H vs Q E hr h => ?_)
  · obtain ⟨_, _, rfl, _⟩ := h
    rfl
  obtain ⟨a, ns, rfl, hS, h63, q⟩ := h
  refine ⟨_, (pss_cons (ps_set (i := 1) sc_law.nd rfl (Or.inl rfl) (AF.cal T.d_law_draw G_law_draw (hr.mono (by omega)) (pa_cons (pv 0) pa_nil)))
      (pss_cons (ps_for PassesOwn.never rfl (pi_range1 (by rfl) T.z_range (pa_cons pe_int pa_nil)) (pg_name (i := 2) sc_law.nd rfl (Or.inl rfl))
      (Evl.pss_cut (ps_set (i := 3) sc_law.nd rfl (Or.inl rfl) (pe_ifExp (pt_cmpR op_eq (AF.cal T.d_law_next G_law_next (hr.mono (by omega)) (pa_cons (pv 1) (pa_cons pe_int pa_nil))) pe_int (nomark _)) (AF.cal T.d_law_large G_law_large (hr.mono (by omega)) (pa_cons (pv 1) pa_nil)) (AF.cal T.d_law_document G_law_document (hr.mono (by omega)) (pa_cons (pv 1) pa_nil))))
      (pss_cons (ps_set (i := 4) sc_law.nd rfl (Or.inl rfl) (AF.cal T.d_law_changed G_law_changed (hr.mono (by omega)) (pa_cons (pv 1) (pa_cons (AF.cal T.d_law_tokens G_law_tokens (hr.mono (by omega)) (pa_cons (pv 3) pa_nil)) pa_nil))))
      (pss_cons (ps_asg (AF.cal T.d_law_text G_law_text (hr.mono (by omega)) (pa_cons (pv 1) (pa_cons (pv 4) pa_nil))) (AF.pg_tupK (n := 2) K rfl rfl (pgs_cons (pg_name (i := 5) sc_law.nd rfl (Or.inl rfl)) (pgs_cons (pg_name (i := 6) sc_law.nd rfl (Or.inl rfl)) pgs_nil))))
      (pss_one (ps_if (pt_not (pt_val (AF.cal T.d_law_same G_law_same (hr.mono (by omega)) (pa_cons (AF.cal T.d_law_told G_law_told (hr.mono (by omega)) (pa_cons (pv 5) pa_nil)) (pa_cons (AF.cal T.d_law_due G_law_due (hr.mono (by omega)) (pa_cons (pv 5) (pa_cons (pv 4) (pa_cons (pv 6) pa_nil)))) pa_nil)))))
      (pss_one (ps_ret pe_bl))
      pss_nil))))))
      (pss_one (ps_ret pe_bl)))), ?_⟩
  refine ⟨.ref a, rfl, a, ns, rfl, hS, fun d l H1 s1 nd nl hD => ?_⟩
  refine ⟨4, rfl, by decide, by decide, ?_⟩
  refine for_range (lo := 0) (n := 4) (Pv := fun i σ H3 => ∃ x2 x3 x4 x5 x6 : Option V, σ = [some (.ref a), some (.ref d), x2, x3, x4, x5, x6] ∧ AF.DrawAt H3 d l) ?_ ?_ ?_
  · exact ⟨none, none, none, none, none, rfl, hD⟩
  · rintro i σ H2 hi ⟨x2, x3, x4, x5, x6, rfl, hD2⟩
    refine ⟨fun σ' H' => ∃ (v : V) (b : AF.Box), σ' = [some (.ref a), some (.ref d), some (.int (0 + (i : Int))), some v, x4, x5, x6] ∧ AF.BoxAt H' v b ∧ Mid b ∧ AF.DrawAt H' d l, ?_, ?_⟩
    · refine ⟨.ref d, rfl, d, l, 4, rfl, hD2, by decide, by decide, fun x H3 x0 x1 hD3 b3 k3 => ?_⟩
      refine ⟨rfl, _, rfl, ite2 (fun c => ?_) (fun c => ?_)⟩
      · exact ⟨.ref d, rfl, d, l, rfl, hD3, fun v b H4 bv mb hD4 b4 k4 => ⟨v, b, rfl, bv, mb, hD4⟩⟩
      · exact ⟨.ref d, rfl, d, l, rfl, hD3, fun v b H4 bv dc hD4 b4 k4 => ⟨v, b, rfl, bv, doc_mid dc, hD4⟩⟩
    rintro σ' H3 ⟨v, b, rfl, bv, mb, hD3⟩
    have htkl := AF.Box.tk_len b
    have hbl := mb.len
    refine ⟨.ref d, rfl, v, rfl, v, b, rfl, bv, mb.dep, mb.sm, by omega, fun tl H4 s4 ntl etl => ?_⟩
    have hD4 := AF.DrawAt.same hD3 s4
    have ntd : tl ≠ d := by
      obtain ⟨xs, e⟩ := hD3.lst
      exact (ne_of_none e ntl).symm
    have etl : H4 tl = some (.lst (AF.wv (b.tk.map AF.At.word))) := by
      rw [etl]
      unfold wrds AF.wv
      rw [List.map_map]
      rfl
    have hwl : (b.tk.map AF.At.word).length = b.tk.length := List.length_map _
    refine ⟨d, l, tl, _, rfl, hD4, etl, ntd, tk_aw mb.sm, by omega, fun p ws H5 hw hwn ep npd hD5 b5 k5 => ?_⟩
    have hwn : ws.length ≤ 482 := by omega
    refine ⟨.ref d, rfl, .ref p, rfl, d, l, p, ws, rfl, hD5, ep, npd, hw, by omega, fun t pl g0 zs H6 hg0 hzs hsep hlen et epl npl hD6 b6 k6 => ?_⟩
    refine ⟨t, [.str (AF.S (g0 ++ AF.cat zs)), .ref pl], rfl, .of et, rfl, _, _, rfl, _, _, rfl, rfl, ?_⟩
    obtain ⟨ks, hks⟩ := hw.ks
    have hkl := hks.len
    have hks2 := hks
    rw [← hzs] at hks2
    obtain ⟨e, ts, hlex, hgood, hbad⟩ := AF.lex_cat zs ks (0 + g0.length) 0 hks2 hsep
    rw [Nat.zero_add] at hgood hbad
    have hlx : AF.LexR 0 (g0 ++ AF.cat zs) e ts := AF.LexR.blanks hg0 hlex
    have hfl := List.length_filterMap_le id ks
    have htw : e = none → AF.TW (ks.filterMap id) ts := by
      intro he
      cases hb : AF.badAt ks 0 with
      | none => exact (hgood hb).2.2
      | some j =>
        obtain ⟨_, q', _, e2⟩ := hbad j hb
        rw [he] at e2
        cases e2
    have ep6 := b6 _ _ (by simpa using npd) ep
    obtain ⟨hd1, hd2⟩ := dueD_dd (AF.dueP e ts (ks.filterMap id) (g0 ++ AF.cat zs).length)
    refine ⟨_, rfl, _, e, ts, ks.filterMap id, rfl, hlen, hlx, htw, by omega, fun v1 H7 s7 dp1 => ?_⟩
    refine ⟨_, rfl, .ref p, rfl, .ref pl, rfl, _, p, pl, ks, ws, _, e, ts, ks.filterMap id, rfl, s7 _ _ ep6, hks, s7 _ _ epl, ?_, by omega, hlen, ?_, ?_, fun v2 H8 s8 dp2 => ?_⟩
    · rw [AF.plc_len, ← hzs, List.length_map]
    · intro j hj
      obtain ⟨_, q', h1, h2⟩ := hbad j hj
      exact ⟨q', h1, h2⟩
    · intro hb
      obtain ⟨h1, h2, h3⟩ := hgood hb
      refine ⟨h1, ?_, AF.bad_none hb, h3⟩
      rw [h2, hzs]
    refine ⟨v1, v2, _, rfl, AF.Dp.s dp1 s8, dp2, hd1, hd2, fun H9 s9 => ?_⟩
    refine ⟨_, rfl, iteF ?_⟩
    exact ⟨_, _, _, _, _, rfl, AF.DrawAt.same hD6 (s7.trans (s8.trans s9))⟩
  · rintro σ H3 ⟨x2, x3, x4, x5, x6, rfl, hD3⟩
    exact q H3

end
end K03
namespace K03
open PySem PySem.Spec PyProof.Rows L2
theorem all_mk {l : PySem.W.OpenLaw} {w : World} {K : PySem.W.Frag} {h : Heap} {mg : Str → Option Value} {fa : Addr} (X : K.In h) (G : h.Ns mainGlobals mg) (hfa : mg "law" = some (.ref fa))
    {f0 : Addr} {od0 an0 : Option Addr} {sl0 : Array (Option Value)} {oc0 kV0 dc0 pm0 cd0 ct0 : Value}
    (a0 : PySem.W.nsIn K mainGlobals "is_number" = some (some (.ref f0))) (l0 : K.lookup f0 = some ⟨oc0, od0, .func (PySem.W.fnOf "is_number" "is_number" (defArgs s_is_number) (defBody s_is_number) (defScope s_is_number) .none kV0 dc0 pm0 an0 cd0 ct0), sl0⟩)
    (c0 : PySem.W.codeIn K cd0 "is_number" = true) (k0 : PySem.W.keepIn K (.ref f0) = true)
    {f1 : Addr} {od1 an1 : Option Addr} {sl1 : Array (Option Value)} {oc1 kV1 dc1 pm1 cd1 ct1 : Value}
    (a1 : PySem.W.nsIn K mainGlobals "is_height" = some (some (.ref f1))) (l1 : K.lookup f1 = some ⟨oc1, od1, .func (PySem.W.fnOf "is_height" "is_height" (defArgs s_is_height) (defBody s_is_height) (defScope s_is_height) .none kV1 dc1 pm1 an1 cd1 ct1), sl1⟩)
    (c1 : PySem.W.codeIn K cd1 "is_height" = true) (k1 : PySem.W.keepIn K (.ref f1) = true)
    {f2 : Addr} {od2 an2 : Option Addr} {sl2 : Array (Option Value)} {oc2 kV2 dc2 pm2 cd2 ct2 : Value}
    (a2 : PySem.W.nsIn K mainGlobals "parse_document" = some (some (.ref f2))) (l2 : K.lookup f2 = some ⟨oc2, od2, .func (PySem.W.fnOf "parse_document" "parse_document" (defArgs s_parse_document) (defBody s_parse_document) (defScope s_parse_document) .none kV2 dc2 pm2 an2 cd2 ct2), sl2⟩)
    (c2 : PySem.W.codeIn K cd2 "parse_document" = true) (k2 : PySem.W.keepIn K (.ref f2) = true)
    {f3 : Addr} {od3 an3 : Option Addr} {sl3 : Array (Option Value)} {oc3 kV3 dc3 pm3 cd3 ct3 : Value}
    (a3 : PySem.W.nsIn K mainGlobals "tokens_of" = some (some (.ref f3))) (l3 : K.lookup f3 = some ⟨oc3, od3, .func (PySem.W.fnOf "tokens_of" "tokens_of" (defArgs s_tokens_of) (defBody s_tokens_of) (defScope s_tokens_of) .none kV3 dc3 pm3 an3 cd3 ct3), sl3⟩)
    (c3 : PySem.W.codeIn K cd3 "tokens_of" = true) (k3 : PySem.W.keepIn K (.ref f3) = true)
    {f4 : Addr} {od4 an4 : Option Addr} {sl4 : Array (Option Value)} {oc4 kV4 dc4 pm4 cd4 ct4 : Value}
    (a4 : PySem.W.nsIn K mainGlobals "end_of_number" = some (some (.ref f4))) (l4 : K.lookup f4 = some ⟨oc4, od4, .func (PySem.W.fnOf "end_of_number" "end_of_number" (defArgs s_end_of_number) (defBody s_end_of_number) (defScope s_end_of_number) .none kV4 dc4 pm4 an4 cd4 ct4), sl4⟩)
    (c4 : PySem.W.codeIn K cd4 "end_of_number" = true) (k4 : PySem.W.keepIn K (.ref f4) = true)
    {f5 : Addr} {od5 an5 : Option Addr} {sl5 : Array (Option Value)} {oc5 kV5 dc5 pm5 cd5 ct5 : Value}
    (a5 : PySem.W.nsIn K mainGlobals "kind_of" = some (some (.ref f5))) (l5 : K.lookup f5 = some ⟨oc5, od5, .func (PySem.W.fnOf "kind_of" "kind_of" (defArgs s_kind_of) (defBody s_kind_of) (defScope s_kind_of) .none kV5 dc5 pm5 an5 cd5 ct5), sl5⟩)
    (c5 : PySem.W.codeIn K cd5 "kind_of" = true) (k5 : PySem.W.keepIn K (.ref f5) = true)
    {f6 : Addr} {od6 an6 : Option Addr} {sl6 : Array (Option Value)} {oc6 kV6 dc6 pm6 cd6 ct6 : Value}
    (a6 : PySem.W.nsIn K mainGlobals "check_order" = some (some (.ref f6))) (l6 : K.lookup f6 = some ⟨oc6, od6, .func (PySem.W.fnOf "check_order" "check_order" (defArgs s_check_order) (defBody s_check_order) (defScope s_check_order) .none kV6 dc6 pm6 an6 cd6 ct6), sl6⟩)
    (c6 : PySem.W.codeIn K cd6 "check_order" = true) (k6 : PySem.W.keepIn K (.ref f6) = true)
    {f7 : Addr} {od7 an7 : Option Addr} {sl7 : Array (Option Value)} {oc7 kV7 dc7 pm7 cd7 ct7 : Value}
    (a7 : PySem.W.nsIn K mainGlobals "value_of" = some (some (.ref f7))) (l7 : K.lookup f7 = some ⟨oc7, od7, .func (PySem.W.fnOf "value_of" "value_of" (defArgs s_value_of) (defBody s_value_of) (defScope s_value_of) .none kV7 dc7 pm7 an7 cd7 ct7), sl7⟩)
    (c7 : PySem.W.codeIn K cd7 "value_of" = true) (k7 : PySem.W.keepIn K (.ref f7) = true)
    {f8 : Addr} {od8 an8 : Option Addr} {sl8 : Array (Option Value)} {oc8 kV8 dc8 pm8 cd8 ct8 : Value}
    (a8 : PySem.W.nsIn K mainGlobals "check_values" = some (some (.ref f8))) (l8 : K.lookup f8 = some ⟨oc8, od8, .func (PySem.W.fnOf "check_values" "check_values" (defArgs s_check_values) (defBody s_check_values) (defScope s_check_values) .none kV8 dc8 pm8 an8 cd8 ct8), sl8⟩)
    (c8 : PySem.W.codeIn K cd8 "check_values" = true) (k8 : PySem.W.keepIn K (.ref f8) = true)
    {f9 : Addr} {od9 an9 : Option Addr} {sl9 : Array (Option Value)} {oc9 kV9 dc9 pm9 cd9 ct9 : Value}
    (a9 : PySem.W.nsIn K mainGlobals "check_twice" = some (some (.ref f9))) (l9 : K.lookup f9 = some ⟨oc9, od9, .func (PySem.W.fnOf "check_twice" "check_twice" (defArgs s_check_twice) (defBody s_check_twice) (defScope s_check_twice) .none kV9 dc9 pm9 an9 cd9 ct9), sl9⟩)
    (c9 : PySem.W.codeIn K cd9 "check_twice" = true) (k9 : PySem.W.keepIn K (.ref f9) = true)
    {f10 : Addr} {od10 an10 : Option Addr} {sl10 : Array (Option Value)} {oc10 kV10 dc10 pm10 cd10 ct10 : Value}
    (a10 : PySem.W.nsIn K mainGlobals "check_limits" = some (some (.ref f10))) (l10 : K.lookup f10 = some ⟨oc10, od10, .func (PySem.W.fnOf "check_limits" "check_limits" (defArgs s_check_limits) (defBody s_check_limits) (defScope s_check_limits) .none kV10 dc10 pm10 an10 cd10 ct10), sl10⟩)
    (c10 : PySem.W.codeIn K cd10 "check_limits" = true) (k10 : PySem.W.keepIn K (.ref f10) = true)
    {f11 : Addr} {od11 an11 : Option Addr} {sl11 : Array (Option Value)} {oc11 kV11 dc11 pm11 cd11 ct11 : Value}
    (a11 : PySem.W.nsIn K mainGlobals "built" = some (some (.ref f11))) (l11 : K.lookup f11 = some ⟨oc11, od11, .func (PySem.W.fnOf "built" "built" (defArgs s_built) (defBody s_built) (defScope s_built) .none kV11 dc11 pm11 an11 cd11 ct11), sl11⟩)
    (c11 : PySem.W.codeIn K cd11 "built" = true) (k11 : PySem.W.keepIn K (.ref f11) = true)
    {f12 : Addr} {od12 an12 : Option Addr} {sl12 : Array (Option Value)} {oc12 kV12 dc12 pm12 cd12 ct12 : Value}
    (a12 : PySem.W.nsIn K mainGlobals "_law_draw" = some (some (.ref f12))) (l12 : K.lookup f12 = some ⟨oc12, od12, .func (PySem.W.fnOf "_law_draw" "_law_draw" (defArgs s_law_draw) (defBody s_law_draw) (defScope s_law_draw) .none kV12 dc12 pm12 an12 cd12 ct12), sl12⟩)
    (c12 : PySem.W.codeIn K cd12 "_law_draw" = true) (k12 : PySem.W.keepIn K (.ref f12) = true)
    {f13 : Addr} {od13 an13 : Option Addr} {sl13 : Array (Option Value)} {oc13 kV13 dc13 pm13 cd13 ct13 : Value}
    (a13 : PySem.W.nsIn K mainGlobals "_law_next" = some (some (.ref f13))) (l13 : K.lookup f13 = some ⟨oc13, od13, .func (PySem.W.fnOf "_law_next" "_law_next" (defArgs s_law_next) (defBody s_law_next) (defScope s_law_next) .none kV13 dc13 pm13 an13 cd13 ct13), sl13⟩)
    (c13 : PySem.W.codeIn K cd13 "_law_next" = true) (k13 : PySem.W.keepIn K (.ref f13) = true)
    {f14 : Addr} {od14 an14 : Option Addr} {sl14 : Array (Option Value)} {oc14 kV14 dc14 pm14 cd14 ct14 : Value}
    (a14 : PySem.W.nsIn K mainGlobals "_law_same" = some (some (.ref f14))) (l14 : K.lookup f14 = some ⟨oc14, od14, .func (PySem.W.fnOf "_law_same" "_law_same" (defArgs s_law_same) (defBody s_law_same) (defScope s_law_same) .none kV14 dc14 pm14 an14 cd14 ct14), sl14⟩)
    (c14 : PySem.W.codeIn K cd14 "_law_same" = true) (k14 : PySem.W.keepIn K (.ref f14) = true)
    {f15 : Addr} {od15 an15 : Option Addr} {sl15 : Array (Option Value)} {oc15 kV15 dc15 pm15 cd15 ct15 : Value}
    (a15 : PySem.W.nsIn K mainGlobals "_law_box" = some (some (.ref f15))) (l15 : K.lookup f15 = some ⟨oc15, od15, .func (PySem.W.fnOf "_law_box" "_law_box" (defArgs s_law_box) (defBody s_law_box) (defScope s_law_box) .none kV15 dc15 pm15 an15 cd15 ct15), sl15⟩)
    (c15 : PySem.W.codeIn K cd15 "_law_box" = true) (k15 : PySem.W.keepIn K (.ref f15) = true)
    {f16 : Addr} {od16 an16 : Option Addr} {sl16 : Array (Option Value)} {oc16 kV16 dc16 pm16 cd16 ct16 : Value}
    (a16 : PySem.W.nsIn K mainGlobals "_law_document" = some (some (.ref f16))) (l16 : K.lookup f16 = some ⟨oc16, od16, .func (PySem.W.fnOf "_law_document" "_law_document" (defArgs s_law_document) (defBody s_law_document) (defScope s_law_document) .none kV16 dc16 pm16 an16 cd16 ct16), sl16⟩)
    (c16 : PySem.W.codeIn K cd16 "_law_document" = true) (k16 : PySem.W.keepIn K (.ref f16) = true)
    {f17 : Addr} {od17 an17 : Option Addr} {sl17 : Array (Option Value)} {oc17 kV17 dc17 pm17 cd17 ct17 : Value}
    (a17 : PySem.W.nsIn K mainGlobals "_law_tokens" = some (some (.ref f17))) (l17 : K.lookup f17 = some ⟨oc17, od17, .func (PySem.W.fnOf "_law_tokens" "_law_tokens" (defArgs s_law_tokens) (defBody s_law_tokens) (defScope s_law_tokens) .none kV17 dc17 pm17 an17 cd17 ct17), sl17⟩)
    (c17 : PySem.W.codeIn K cd17 "_law_tokens" = true) (k17 : PySem.W.keepIn K (.ref f17) = true)
    {f18 : Addr} {od18 an18 : Option Addr} {sl18 : Array (Option Value)} {oc18 kV18 dc18 pm18 cd18 ct18 : Value}
    (a18 : PySem.W.nsIn K mainGlobals "_law_changed" = some (some (.ref f18))) (l18 : K.lookup f18 = some ⟨oc18, od18, .func (PySem.W.fnOf "_law_changed" "_law_changed" (defArgs s_law_changed) (defBody s_law_changed) (defScope s_law_changed) .none kV18 dc18 pm18 an18 cd18 ct18), sl18⟩)
    (c18 : PySem.W.codeIn K cd18 "_law_changed" = true) (k18 : PySem.W.keepIn K (.ref f18) = true)
    {f19 : Addr} {od19 an19 : Option Addr} {sl19 : Array (Option Value)} {oc19 kV19 dc19 pm19 cd19 ct19 : Value}
    (a19 : PySem.W.nsIn K mainGlobals "_law_text" = some (some (.ref f19))) (l19 : K.lookup f19 = some ⟨oc19, od19, .func (PySem.W.fnOf "_law_text" "_law_text" (defArgs s_law_text) (defBody s_law_text) (defScope s_law_text) .none kV19 dc19 pm19 an19 cd19 ct19), sl19⟩)
    (c19 : PySem.W.codeIn K cd19 "_law_text" = true) (k19 : PySem.W.keepIn K (.ref f19) = true)
    {f20 : Addr} {od20 an20 : Option Addr} {sl20 : Array (Option Value)} {oc20 kV20 dc20 pm20 cd20 ct20 : Value}
    (a20 : PySem.W.nsIn K mainGlobals "_law_wrong_at" = some (some (.ref f20))) (l20 : K.lookup f20 = some ⟨oc20, od20, .func (PySem.W.fnOf "_law_wrong_at" "_law_wrong_at" (defArgs s_law_wrong_at) (defBody s_law_wrong_at) (defScope s_law_wrong_at) .none kV20 dc20 pm20 an20 cd20 ct20), sl20⟩)
    (c20 : PySem.W.codeIn K cd20 "_law_wrong_at" = true) (k20 : PySem.W.keepIn K (.ref f20) = true)
    {f21 : Addr} {od21 an21 : Option Addr} {sl21 : Array (Option Value)} {oc21 kV21 dc21 pm21 cd21 ct21 : Value}
    (a21 : PySem.W.nsIn K mainGlobals "_law_due" = some (some (.ref f21))) (l21 : K.lookup f21 = some ⟨oc21, od21, .func (PySem.W.fnOf "_law_due" "_law_due" (defArgs s_law_due) (defBody s_law_due) (defScope s_law_due) .none kV21 dc21 pm21 an21 cd21 ct21), sl21⟩)
    (c21 : PySem.W.codeIn K cd21 "_law_due" = true) (k21 : PySem.W.keepIn K (.ref f21) = true)
    {f22 : Addr} {od22 an22 : Option Addr} {sl22 : Array (Option Value)} {oc22 kV22 dc22 pm22 cd22 ct22 : Value}
    (a22 : PySem.W.nsIn K mainGlobals "_law_told" = some (some (.ref f22))) (l22 : K.lookup f22 = some ⟨oc22, od22, .func (PySem.W.fnOf "_law_told" "_law_told" (defArgs s_law_told) (defBody s_law_told) (defScope s_law_told) .none kV22 dc22 pm22 an22 cd22 ct22), sl22⟩)
    (c22 : PySem.W.codeIn K cd22 "_law_told" = true) (k22 : PySem.W.keepIn K (.ref f22) = true)
    {f23 : Addr} {od23 an23 : Option Addr} {sl23 : Array (Option Value)} {oc23 kV23 dc23 pm23 cd23 ct23 : Value}
    (a23 : PySem.W.nsIn K mainGlobals "_law_large" = some (some (.ref f23))) (l23 : K.lookup f23 = some ⟨oc23, od23, .func (PySem.W.fnOf "_law_large" "_law_large" (defArgs s_law_large) (defBody s_law_large) (defScope s_law_large) .none kV23 dc23 pm23 an23 cd23 ct23), sl23⟩)
    (c23 : PySem.W.codeIn K cd23 "_law_large" = true) (k23 : PySem.W.keepIn K (.ref f23) = true)
    {f24 : Addr} {od24 an24 : Option Addr} {sl24 : Array (Option Value)} {oc24 kV24 dc24 pm24 cd24 ct24 : Value}
    (a24 : PySem.W.nsIn K mainGlobals "law" = some (some (.ref f24))) (l24 : K.lookup f24 = some ⟨oc24, od24, .func (PySem.W.fnOf "law" "law" (defArgs s_law) (defBody s_law) (defScope s_law) .none kV24 dc24 pm24 an24 cd24 ct24), sl24⟩)
    (c24 : PySem.W.codeIn K cd24 "law" = true) (k24 : PySem.W.keepIn K (.ref f24) = true)
    {a_ALLOWED : Addr} {es_ALLOWED : Array DictEntry} {n_ALLOWED : Nat} (c_ALLOWED : PySem.W.nsIn K mainGlobals "ALLOWED" = some (some (.ref a_ALLOWED))) (l_ALLOWED : K.lookup a_ALLOWED = some ⟨.type "dict", none, .dict es_ALLOWED n_ALLOWED, #[]⟩) (w_ALLOWED : (a_ALLOWED == sysModules) = false) (i_ALLOWED : PySem.W.KeysLit w.params es_ALLOWED.toList)
    {t_ALLOWED_0 : Addr} {dd_ALLOWED_0 : Option Addr} {nn_ALLOWED_0 : Nat} {sl_ALLOWED_0 : Array (Option Value)} {u_ALLOWED_0_0 : Tok} (e_ALLOWED_0 : PySem.W.nsIn K a_ALLOWED "s" = some (some (.ref t_ALLOWED_0))) (f_ALLOWED_0 : K.lookup t_ALLOWED_0 = some ⟨.type "tuple", dd_ALLOWED_0, .seq #[.str "s" u_ALLOWED_0_0] nn_ALLOWED_0, sl_ALLOWED_0⟩)
    {t_ALLOWED_1 : Addr} {dd_ALLOWED_1 : Option Addr} {nn_ALLOWED_1 : Nat} {sl_ALLOWED_1 : Array (Option Value)} {u_ALLOWED_1_0 : Tok} (e_ALLOWED_1 : PySem.W.nsIn K a_ALLOWED "number" = some (some (.ref t_ALLOWED_1))) (f_ALLOWED_1 : K.lookup t_ALLOWED_1 = some ⟨.type "tuple", dd_ALLOWED_1, .seq #[.str "number" u_ALLOWED_1_0] nn_ALLOWED_1, sl_ALLOWED_1⟩)
    {t_ALLOWED_2 : Addr} {dd_ALLOWED_2 : Option Addr} {nn_ALLOWED_2 : Nat} {sl_ALLOWED_2 : Array (Option Value)} {u_ALLOWED_2_0 : Tok} (e_ALLOWED_2 : PySem.W.nsIn K a_ALLOWED ":" = some (some (.ref t_ALLOWED_2))) (f_ALLOWED_2 : K.lookup t_ALLOWED_2 = some ⟨.type "tuple", dd_ALLOWED_2, .seq #[.str ":" u_ALLOWED_2_0] nn_ALLOWED_2, sl_ALLOWED_2⟩)
    {t_ALLOWED_3 : Addr} {dd_ALLOWED_3 : Option Addr} {nn_ALLOWED_3 : Nat} {sl_ALLOWED_3 : Array (Option Value)} {u_ALLOWED_3_0 : Tok} (e_ALLOWED_3 : PySem.W.nsIn K a_ALLOWED "[" = some (some (.ref t_ALLOWED_3))) (f_ALLOWED_3 : K.lookup t_ALLOWED_3 = some ⟨.type "tuple", dd_ALLOWED_3, .seq #[.str "[" u_ALLOWED_3_0] nn_ALLOWED_3, sl_ALLOWED_3⟩)
    {t_ALLOWED_4 : Addr} {dd_ALLOWED_4 : Option Addr} {nn_ALLOWED_4 : Nat} {sl_ALLOWED_4 : Array (Option Value)} {u_ALLOWED_4_0 u_ALLOWED_4_1 u_ALLOWED_4_2 : Tok} (e_ALLOWED_4 : PySem.W.nsIn K a_ALLOWED "parts" = some (some (.ref t_ALLOWED_4))) (f_ALLOWED_4 : K.lookup t_ALLOWED_4 = some ⟨.type "tuple", dd_ALLOWED_4, .seq #[.str "b" u_ALLOWED_4_0, .str "s" u_ALLOWED_4_1, .str "]" u_ALLOWED_4_2] nn_ALLOWED_4, sl_ALLOWED_4⟩)
    {a_NEEDED_BEHIND : Addr} {es_NEEDED_BEHIND : Array DictEntry} {n_NEEDED_BEHIND : Nat} (c_NEEDED_BEHIND : PySem.W.nsIn K mainGlobals "NEEDED_BEHIND" = some (some (.ref a_NEEDED_BEHIND))) (l_NEEDED_BEHIND : K.lookup a_NEEDED_BEHIND = some ⟨.type "dict", none, .dict es_NEEDED_BEHIND n_NEEDED_BEHIND, #[]⟩) (w_NEEDED_BEHIND : (a_NEEDED_BEHIND == sysModules) = false) (i_NEEDED_BEHIND : PySem.W.KeysLit w.params es_NEEDED_BEHIND.toList)
    {t_NEEDED_BEHIND_0 : Addr} {dd_NEEDED_BEHIND_0 : Option Addr} {nn_NEEDED_BEHIND_0 : Nat} {sl_NEEDED_BEHIND_0 : Array (Option Value)} {u_NEEDED_BEHIND_0_0 u_NEEDED_BEHIND_0_1 u_NEEDED_BEHIND_0_2 : Tok} (e_NEEDED_BEHIND_0 : PySem.W.nsIn K a_NEEDED_BEHIND "b" = some (some (.ref t_NEEDED_BEHIND_0))) (f_NEEDED_BEHIND_0 : K.lookup t_NEEDED_BEHIND_0 = some ⟨.type "tuple", dd_NEEDED_BEHIND_0, .seq #[.str "number" u_NEEDED_BEHIND_0_0, .str ":" u_NEEDED_BEHIND_0_1, .str "number" u_NEEDED_BEHIND_0_2] nn_NEEDED_BEHIND_0, sl_NEEDED_BEHIND_0⟩)
    {t_NEEDED_BEHIND_1 : Addr} {dd_NEEDED_BEHIND_1 : Option Addr} {nn_NEEDED_BEHIND_1 : Nat} {sl_NEEDED_BEHIND_1 : Array (Option Value)} {u_NEEDED_BEHIND_1_0 u_NEEDED_BEHIND_1_1 u_NEEDED_BEHIND_1_2 u_NEEDED_BEHIND_1_3 u_NEEDED_BEHIND_1_4 : Tok} (e_NEEDED_BEHIND_1 : PySem.W.nsIn K a_NEEDED_BEHIND "s" = some (some (.ref t_NEEDED_BEHIND_1))) (f_NEEDED_BEHIND_1 : K.lookup t_NEEDED_BEHIND_1 = some ⟨.type "tuple", dd_NEEDED_BEHIND_1, .seq #[.str "parts" u_NEEDED_BEHIND_1_0, .str "[" u_NEEDED_BEHIND_1_1, .str "number" u_NEEDED_BEHIND_1_2, .str ":" u_NEEDED_BEHIND_1_3, .str "number" u_NEEDED_BEHIND_1_4] nn_NEEDED_BEHIND_1, sl_NEEDED_BEHIND_1⟩)
    (m_NEEDED_BEHIND_num : PySem.W.nsIn K a_NEEDED_BEHIND "number" = some none)
    (m_NEEDED_BEHIND_col : PySem.W.nsIn K a_NEEDED_BEHIND ":" = some none)
    (m_NEEDED_BEHIND_opn : PySem.W.nsIn K a_NEEDED_BEHIND "[" = some none)
    (m_NEEDED_BEHIND_cls : PySem.W.nsIn K a_NEEDED_BEHIND "]" = some none)
    {t_LEAST_NUMBER : Tok} (c_LEAST_NUMBER : PySem.W.nsIn K mainGlobals "LEAST_NUMBER" = some (some (.int 1 t_LEAST_NUMBER)))
    {t_GREATEST_NUMBER : Tok} (c_GREATEST_NUMBER : PySem.W.nsIn K mainGlobals "GREATEST_NUMBER" = some (some (.int 999 t_GREATEST_NUMBER)))
    {t_LEAST_HEIGHT : Tok} (c_LEAST_HEIGHT : PySem.W.nsIn K mainGlobals "LEAST_HEIGHT" = some (some (.int 0 t_LEAST_HEIGHT)))
    {t_GREATEST_HEIGHT : Tok} (c_GREATEST_HEIGHT : PySem.W.nsIn K mainGlobals "GREATEST_HEIGHT" = some (some (.int 1000 t_GREATEST_HEIGHT)))
    {t_MOST_BOXES : Tok} (c_MOST_BOXES : PySem.W.nsIn K mainGlobals "MOST_BOXES" = some (some (.int 40 t_MOST_BOXES)))
    {t_MOST_SCROLLERS_WITHIN : Tok} (c_MOST_SCROLLERS_WITHIN : PySem.W.nsIn K mainGlobals "MOST_SCROLLERS_WITHIN" = some (some (.int 4 t_MOST_SCROLLERS_WITHIN)))
    {t_BLANKS : Tok} (c_BLANKS : PySem.W.nsIn K mainGlobals "BLANKS" = some (some (.str " \n" t_BLANKS)))
    {t_SIGNS : Tok} (c_SIGNS : PySem.W.nsIn K mainGlobals "SIGNS" = some (some (.str "bs:[]" t_SIGNS)))
    {t_DIGITS : Tok} (c_DIGITS : PySem.W.nsIn K mainGlobals "DIGITS" = some (some (.str "0123456789" t_DIGITS)))
    (z_abs : PySem.W.nsIn K mainGlobals "abs" = some none)
    (z_all : PySem.W.nsIn K mainGlobals "all" = some none)
    (z_bool : PySem.W.nsIn K mainGlobals "bool" = some none)
    (z_enumerate : PySem.W.nsIn K mainGlobals "enumerate" = some none)
    (z_int : PySem.W.nsIn K mainGlobals "int" = some none)
    (z_isinstance : PySem.W.nsIn K mainGlobals "isinstance" = some none)
    (z_len : PySem.W.nsIn K mainGlobals "len" = some none)
    (z_list : PySem.W.nsIn K mainGlobals "list" = some none)
    (z_max : PySem.W.nsIn K mainGlobals "max" = some none)
    (z_range : PySem.W.nsIn K mainGlobals "range" = some none)
    (z_set : PySem.W.nsIn K mainGlobals "set" = some none)
    (z_str : PySem.W.nsIn K mainGlobals "str" = some none)
    (z_sum : PySem.W.nsIn K mainGlobals "sum" = some none)
    (z_tuple : PySem.W.nsIn K mainGlobals "tuple" = some none)
    {C FE fI N cda cc : Addr} {od dd' cdd cld an' : Option Addr} {nm q file : Str} {bs sub : List Value} {sn : List Str} {ab : Bool} {col : Option Bool} {m0 m1 m2 m3 m5 n0 n1 n2 n3 n5 : Option Value} {nmF qF : Str} {NF : Addr} {bsF subF : List Value} {snF : List Str} {abF : Bool} {colF : Option Bool} {ddF : Option Addr} {oc doc pm ct ccl cl : Value} {osl ccs csl : Array (Option Value)} {vs : Array Value} {tf : Tok}
    {p1 p2 p3 q1 q2 q3 q4 q5 q6 q7 q8 q9 q10 q11 r1 r2 r3 r4 s1 s2 s3 s4 : Pos}
    (xC : PySem.W.nsIn K mainGlobals "TextError" = some (some (.ref C))) (xF : PySem.W.nsIn K mainGlobals "FrameError" = some (some (.ref FE)))
    (xL : K.lookup C = some (excClassObj nm q C N bs [.ref FE, .type "ValueError", .type "Exception", .type "BaseException", .type "object"] true sn sub ab col dd' m0 m1 m2 m3 m5 "ValueError.__new__")) (xR : PySem.HandSPX.refsVE [.ref FE, .type "ValueError", .type "Exception", .type "BaseException", .type "object"] = true)
    (xsa : PySem.W.findIn K (.ref C) "__setattr__" = some (some (.builtin "object.__setattr__"))) (xnoP : PySem.W.findIn K (.ref C) "place" = some none) (xnoM : PySem.W.findIn K (.ref C) "message" = some none)
    (xiC : PySem.W.findIn K (.ref C) "__init__" = some (some (.ref fI))) (xtC : PySem.W.typeIn K (.ref fI) = some (.type "function")) (xkC : PySem.W.keepIn K (.ref C) = true) (xexC : PySem.W.subIn K (.ref C) (.type "BaseException") = some true) (xtyC : PySem.W.typeIn K (.ref C) = some (.type "type"))
    (xstr : PySem.W.findIn K (.ref C) "__str__" = some (some (.builtin "BaseException.__str__"))) (xFL : K.lookup FE = some (excClassObj nmF qF FE NF bsF [.type "ValueError", .type "Exception", .type "BaseException", .type "object"] true snF subF abF colF ddF n0 n1 n2 n3 n5 "ValueError.__new__")) (xini : PySem.W.findIn K (.ref FE) "__init__" = some (some (.builtin "ValueError.__init__"))) (xveC : PySem.W.subIn K (.ref C) (.type "ValueError") = some true) (xmroC : PySem.W.mroIn K C (.ref C) = some true)
    (xopq : PySem.W.nsIn K cStatics "thirdparty.any" = some none) (xsup : PySem.W.nsIn K mainGlobals "super" = some none)
    (xfn : K.lookup fI = some ⟨oc, od, .func (PySem.W.ksFn "__init__" "TextError.__init__" (AF.TX.iA p1 p2 p3) (AF.TX.iB q1 q2 q3 q4 q5 q6 q7 q8 q9 q10 q11 r1 r2 r3 r4 s1 s2 s3 s4) AF.TX.iS .none .none doc pm an' (.ref cda) ct cc), osl⟩) (xcode : PySem.W.codeIn K (.ref cda) "TextError.__init__" = true) (xline : (q3.endLine == q10.line) = true)
    (xcda : K.lookup cda = some ⟨ccl, cdd, .fields vs, ccs⟩) (xvs : vs[2]? = some (.str file tf)) (xcc : K.lookup cc = some ⟨cl, cld, .cell (some (.ref C)), csl⟩)
    (xga : PySem.W.findIn K (.ref C) "__getattribute__" = some (some (.builtin "BaseException.__getattribute__"))) (xgg : PySem.W.findIn K (.ref C) "__getattr__" = some none) (xhd : PySem.W.hasDictIn K C = true) (xcl : PySem.W.findIn K (.ref C) "__class__" = some (some (.builtin "object.__class__")))
    (xhn : PySem.W.specialIn K (.builtin "object.__class__") "__get__" = some (some (.builtin "getset_descriptor.__get__"))) (xht : PySem.W.takesIn K (.builtin "object.__class__") = some true) (xhm : PySem.W.mroIn K C (.type "object") = some true)
    (xFi : PySem.W.isClsIn K FE = true) (xFt : PySem.W.typeIn K (.ref FE) = some (.type "type")) (xCF : PySem.W.subIn K (.ref C) (.ref FE) = some true) (xCi : PySem.W.isClsIn K C = true) (xCC : PySem.W.subIn K (.ref C) (.ref C) = some true) (xPG : AF.TX.Pg l.prog file)
    : ∃ fd : FuncData, (∀ (s : Shared) (v : Value), BindsTo s fd ⟨[v], []⟩ [("script", v)]) ∧ ∀ base : Heap, K.In base → base.Ns mainGlobals mg → FnOk l.prog w K mg base CX0 10 fa fd ["script"] (AF.spLaw K) := by
  have e := hfa.symm.trans (PySem.W.mg_of X G a24)
  cases e
  let T : Tx K mg w := {
    d_is_number := ⟨_, _, fun_mk (st := s_is_number) l0 c0 k0, (fun_mk (st := s_is_number) l0 c0 k0).binds fun _ _ _ _ _ _ us hl => match us, hl with | [_], _ => rfl, PySem.W.mg_of X G a0⟩
    d_is_height := ⟨_, _, fun_mk (st := s_is_height) l1 c1 k1, (fun_mk (st := s_is_height) l1 c1 k1).binds fun _ _ _ _ _ _ us hl => match us, hl with | [_], _ => rfl, PySem.W.mg_of X G a1⟩
    d_parse_document := ⟨_, _, fun_mk (st := s_parse_document) l2 c2 k2, (fun_mk (st := s_parse_document) l2 c2 k2).binds fun _ _ _ _ _ _ us hl => match us, hl with | [_], _ => rfl, PySem.W.mg_of X G a2⟩
    d_tokens_of := ⟨_, _, fun_mk (st := s_tokens_of) l3 c3 k3, (fun_mk (st := s_tokens_of) l3 c3 k3).binds fun _ _ _ _ _ _ us hl => match us, hl with | [_], _ => rfl, PySem.W.mg_of X G a3⟩
    d_end_of_number := ⟨_, _, fun_mk (st := s_end_of_number) l4 c4 k4, (fun_mk (st := s_end_of_number) l4 c4 k4).binds fun _ _ _ _ _ _ us hl => match us, hl with | [_, _], _ => rfl, PySem.W.mg_of X G a4⟩
    d_kind_of := ⟨_, _, fun_mk (st := s_kind_of) l5 c5 k5, (fun_mk (st := s_kind_of) l5 c5 k5).binds fun _ _ _ _ _ _ us hl => match us, hl with | [_], _ => rfl, PySem.W.mg_of X G a5⟩
    d_check_order := ⟨_, _, fun_mk (st := s_check_order) l6 c6 k6, (fun_mk (st := s_check_order) l6 c6 k6).binds fun _ _ _ _ _ _ us hl => match us, hl with | [_, _], _ => rfl, PySem.W.mg_of X G a6⟩
    d_value_of := ⟨_, _, fun_mk (st := s_value_of) l7 c7 k7, (fun_mk (st := s_value_of) l7 c7 k7).binds fun _ _ _ _ _ _ us hl => match us, hl with | [_], _ => rfl, PySem.W.mg_of X G a7⟩
    d_check_values := ⟨_, _, fun_mk (st := s_check_values) l8 c8 k8, (fun_mk (st := s_check_values) l8 c8 k8).binds fun _ _ _ _ _ _ us hl => match us, hl with | [_], _ => rfl, PySem.W.mg_of X G a8⟩
    d_check_twice := ⟨_, _, fun_mk (st := s_check_twice) l9 c9 k9, (fun_mk (st := s_check_twice) l9 c9 k9).binds fun _ _ _ _ _ _ us hl => match us, hl with | [_], _ => rfl, PySem.W.mg_of X G a9⟩
    d_check_limits := ⟨_, _, fun_mk (st := s_check_limits) l10 c10 k10, (fun_mk (st := s_check_limits) l10 c10 k10).binds fun _ _ _ _ _ _ us hl => match us, hl with | [_], _ => rfl, PySem.W.mg_of X G a10⟩
    d_built := ⟨_, _, fun_mk (st := s_built) l11 c11 k11, (fun_mk (st := s_built) l11 c11 k11).binds fun _ _ _ _ _ _ us hl => match us, hl with | [_], _ => rfl, PySem.W.mg_of X G a11⟩
    d_law_draw := ⟨_, _, fun_mk (st := s_law_draw) l12 c12 k12, (fun_mk (st := s_law_draw) l12 c12 k12).binds fun _ _ _ _ _ _ us hl => match us, hl with | [_], _ => rfl, PySem.W.mg_of X G a12⟩
    d_law_next := ⟨_, _, fun_mk (st := s_law_next) l13 c13 k13, (fun_mk (st := s_law_next) l13 c13 k13).binds fun _ _ _ _ _ _ us hl => match us, hl with | [_, _], _ => rfl, PySem.W.mg_of X G a13⟩
    d_law_same := ⟨_, _, fun_mk (st := s_law_same) l14 c14 k14, (fun_mk (st := s_law_same) l14 c14 k14).binds fun _ _ _ _ _ _ us hl => match us, hl with | [_, _], _ => rfl, PySem.W.mg_of X G a14⟩
    d_law_box := ⟨_, _, fun_mk (st := s_law_box) l15 c15 k15, (fun_mk (st := s_law_box) l15 c15 k15).binds fun _ _ _ _ _ _ us hl => match us, hl with | [_, _, _], _ => rfl, PySem.W.mg_of X G a15⟩
    d_law_document := ⟨_, _, fun_mk (st := s_law_document) l16 c16 k16, (fun_mk (st := s_law_document) l16 c16 k16).binds fun _ _ _ _ _ _ us hl => match us, hl with | [_], _ => rfl, PySem.W.mg_of X G a16⟩
    d_law_tokens := ⟨_, _, fun_mk (st := s_law_tokens) l17 c17 k17, (fun_mk (st := s_law_tokens) l17 c17 k17).binds fun _ _ _ _ _ _ us hl => match us, hl with | [_], _ => rfl, PySem.W.mg_of X G a17⟩
    d_law_changed := ⟨_, _, fun_mk (st := s_law_changed) l18 c18 k18, (fun_mk (st := s_law_changed) l18 c18 k18).binds fun _ _ _ _ _ _ us hl => match us, hl with | [_, _], _ => rfl, PySem.W.mg_of X G a18⟩
    d_law_text := ⟨_, _, fun_mk (st := s_law_text) l19 c19 k19, (fun_mk (st := s_law_text) l19 c19 k19).binds fun _ _ _ _ _ _ us hl => match us, hl with | [_, _], _ => rfl, PySem.W.mg_of X G a19⟩
    d_law_wrong_at := ⟨_, _, fun_mk (st := s_law_wrong_at) l20 c20 k20, (fun_mk (st := s_law_wrong_at) l20 c20 k20).binds fun _ _ _ _ _ _ us hl => match us, hl with | [_], _ => rfl, PySem.W.mg_of X G a20⟩
    d_law_due := ⟨_, _, fun_mk (st := s_law_due) l21 c21 k21, (fun_mk (st := s_law_due) l21 c21 k21).binds fun _ _ _ _ _ _ us hl => match us, hl with | [_, _, _], _ => rfl, PySem.W.mg_of X G a21⟩
    d_law_told := ⟨_, _, fun_mk (st := s_law_told) l22 c22 k22, (fun_mk (st := s_law_told) l22 c22 k22).binds fun _ _ _ _ _ _ us hl => match us, hl with | [_], _ => rfl, PySem.W.mg_of X G a22⟩
    d_law_large := ⟨_, _, fun_mk (st := s_law_large) l23 c23 k23, (fun_mk (st := s_law_large) l23 c23 k23).binds fun _ _ _ _ _ _ us hl => match us, hl with | [_], _ => rfl, PySem.W.mg_of X G a23⟩
    d_law := ⟨_, _, fun_mk (st := s_law) l24 c24 k24, (fun_mk (st := s_law) l24 c24 k24).binds fun _ _ _ _ _ _ us hl => match us, hl with | [_], _ => rfl, PySem.W.mg_of X G a24⟩
    a_ALLOWED := a_ALLOWED
    c_ALLOWED := PySem.W.mg_of X G c_ALLOWED
    k_ALLOWED := ⟨es_ALLOWED, n_ALLOWED, l_ALLOWED, i_ALLOWED, w_ALLOWED⟩
    e_ALLOWED_0 := ⟨t_ALLOWED_0, e_ALLOWED_0, fun H => .inr ⟨_, _, _, f_ALLOWED_0, rfl, rfl, (by show 1 ≤ sizeLine; decide), (.cons ⟨_, rfl⟩ .nil)⟩⟩
    e_ALLOWED_1 := ⟨t_ALLOWED_1, e_ALLOWED_1, fun H => .inr ⟨_, _, _, f_ALLOWED_1, rfl, rfl, (by show 1 ≤ sizeLine; decide), (.cons ⟨_, rfl⟩ .nil)⟩⟩
    e_ALLOWED_2 := ⟨t_ALLOWED_2, e_ALLOWED_2, fun H => .inr ⟨_, _, _, f_ALLOWED_2, rfl, rfl, (by show 1 ≤ sizeLine; decide), (.cons ⟨_, rfl⟩ .nil)⟩⟩
    e_ALLOWED_3 := ⟨t_ALLOWED_3, e_ALLOWED_3, fun H => .inr ⟨_, _, _, f_ALLOWED_3, rfl, rfl, (by show 1 ≤ sizeLine; decide), (.cons ⟨_, rfl⟩ .nil)⟩⟩
    e_ALLOWED_4 := ⟨t_ALLOWED_4, e_ALLOWED_4, fun H => .inr ⟨_, _, _, f_ALLOWED_4, rfl, rfl, (by show 3 ≤ sizeLine; decide), (.cons ⟨_, rfl⟩ (.cons ⟨_, rfl⟩ (.cons ⟨_, rfl⟩ .nil)))⟩⟩
    a_NEEDED_BEHIND := a_NEEDED_BEHIND
    c_NEEDED_BEHIND := PySem.W.mg_of X G c_NEEDED_BEHIND
    k_NEEDED_BEHIND := ⟨es_NEEDED_BEHIND, n_NEEDED_BEHIND, l_NEEDED_BEHIND, i_NEEDED_BEHIND, w_NEEDED_BEHIND⟩
    e_NEEDED_BEHIND_0 := ⟨t_NEEDED_BEHIND_0, e_NEEDED_BEHIND_0, fun H => .inr ⟨_, _, _, f_NEEDED_BEHIND_0, rfl, rfl, (by show 3 ≤ sizeLine; decide), (.cons ⟨_, rfl⟩ (.cons ⟨_, rfl⟩ (.cons ⟨_, rfl⟩ .nil)))⟩⟩
    e_NEEDED_BEHIND_1 := ⟨t_NEEDED_BEHIND_1, e_NEEDED_BEHIND_1, fun H => .inr ⟨_, _, _, f_NEEDED_BEHIND_1, rfl, rfl, (by show 5 ≤ sizeLine; decide), (.cons ⟨_, rfl⟩ (.cons ⟨_, rfl⟩ (.cons ⟨_, rfl⟩ (.cons ⟨_, rfl⟩ (.cons ⟨_, rfl⟩ .nil)))))⟩⟩
    m_NEEDED_BEHIND_num := m_NEEDED_BEHIND_num
    m_NEEDED_BEHIND_col := m_NEEDED_BEHIND_col
    m_NEEDED_BEHIND_opn := m_NEEDED_BEHIND_opn
    m_NEEDED_BEHIND_cls := m_NEEDED_BEHIND_cls
    t_LEAST_NUMBER := t_LEAST_NUMBER
    c_LEAST_NUMBER := PySem.W.mg_of X G c_LEAST_NUMBER
    t_GREATEST_NUMBER := t_GREATEST_NUMBER
    c_GREATEST_NUMBER := PySem.W.mg_of X G c_GREATEST_NUMBER
    t_LEAST_HEIGHT := t_LEAST_HEIGHT
    c_LEAST_HEIGHT := PySem.W.mg_of X G c_LEAST_HEIGHT
    t_GREATEST_HEIGHT := t_GREATEST_HEIGHT
    c_GREATEST_HEIGHT := PySem.W.mg_of X G c_GREATEST_HEIGHT
    t_MOST_BOXES := t_MOST_BOXES
    c_MOST_BOXES := PySem.W.mg_of X G c_MOST_BOXES
    t_MOST_SCROLLERS_WITHIN := t_MOST_SCROLLERS_WITHIN
    c_MOST_SCROLLERS_WITHIN := PySem.W.mg_of X G c_MOST_SCROLLERS_WITHIN
    t_BLANKS := t_BLANKS
    c_BLANKS := PySem.W.mg_of X G c_BLANKS
    t_SIGNS := t_SIGNS
    c_SIGNS := PySem.W.mg_of X G c_SIGNS
    t_DIGITS := t_DIGITS
    c_DIGITS := PySem.W.mg_of X G c_DIGITS
    z_abs := PySem.W.mg_none_of X G z_abs
    z_all := PySem.W.mg_none_of X G z_all
    z_bool := PySem.W.mg_none_of X G z_bool
    z_enumerate := PySem.W.mg_none_of X G z_enumerate
    z_int := PySem.W.mg_none_of X G z_int
    z_isinstance := PySem.W.mg_none_of X G z_isinstance
    z_len := PySem.W.mg_none_of X G z_len
    z_list := PySem.W.mg_none_of X G z_list
    z_max := PySem.W.mg_none_of X G z_max
    z_range := PySem.W.mg_none_of X G z_range
    z_set := PySem.W.mg_none_of X G z_set
    z_str := PySem.W.mg_none_of X G z_str
    z_sum := PySem.W.mg_none_of X G z_sum
    z_tuple := PySem.W.mg_none_of X G z_tuple
  }
  have TT : AF.TX.TxtC K mg C fI file := { gC := PySem.W.mg_of X G xC, cls := ⟨nm, q, N, bs, _, sn, sub, ab, col, dd', m0, m1, m2, m3, m5, xL, xR⟩, sa := xsa, noP := xnoP, noM := xnoM, iC := xiC, tC := xtC, kC := xkC, exC := xexC, tyC := xtyC, str := xstr, ini := AF.ini_of xL xFL xini, veC := xveC, mroC := xmroC, opq := xopq, sup := PySem.W.mg_none_of X G xsup, fn := ⟨_, _, _, _, _, _, _, _, _, _, _, _, _, _, _, _, _, _, _, _, _, _, _, _, _, _, _, _, _, _, _, xfn, xcode, xline, ⟨_, _, _, _, _, xcda, xvs⟩, _, _, _, xcc⟩ }
  have TE : AF.TXX K mg C FE := { ex := { hg := xga, hk := xgg, hs := xexC, hd := xhd, ha := xcl, hn := xhn, ht := xht, hm := xhm }, xf := { ga := xga, gg := xgg, exC := xexC, hdC := xhd }, gF := PySem.W.mg_of X G xF, kit := AF.kit_of xFi xFt xCF, exm := AF.exm_of xexC xCi xtyC xCC }
  exact ⟨T.d_law.fd, fun s v => .of_eq rfl, fun base _ _ => ok_all T TT xPG TE⟩
end K03
open PySem PySem.W PyProof.Rows K03
set_option maxRecDepth 100000 in
set_option maxHeartbeats 0 in
theorem PySem.Challenge.cw_asyncframes_k03_errors_of_documents_holds : PySem.Challenge.rw_asyncframes_k03_errors_of_documents.Holds := by
  w_on; o_law; k_head; (case hw => w_witness2)
  k_fill
  refine AF.walk_law (k := 10) (l := PySem.Challenge.rw_asyncframes_k03_errors_of_documents) rfl rfl (by decide) (fun w h Y => PySem.W.kIn_of Y) ?F
  case F =>
    intro w mg fa h KX G hmg
    refine' all_mk KX G hmg ?a0 ?l0 ?c0 ?k0 ?a1 ?l1 ?c1 ?k1 ?a2 ?l2 ?c2 ?k2 ?a3 ?l3 ?c3 ?k3 ?a4 ?l4 ?c4 ?k4 ?a5 ?l5 ?c5 ?k5 ?a6 ?l6 ?c6 ?k6 ?a7 ?l7 ?c7 ?k7 ?a8 ?l8 ?c8 ?k8 ?a9 ?l9 ?c9 ?k9 ?a10 ?l10 ?c10 ?k10 ?a11 ?l11 ?c11 ?k11 ?a12 ?l12 ?c12 ?k12 ?a13 ?l13 ?c13 ?k13 ?a14 ?l14 ?c14 ?k14 ?a15 ?l15 ?c15 ?k15 ?a16 ?l16 ?c16 ?k16 ?a17 ?l17 ?c17 ?k17 ?a18 ?l18 ?c18 ?k18 ?a19 ?l19 ?c19 ?k19 ?a20 ?l20 ?c20 ?k20 ?a21 ?l21 ?c21 ?k21 ?a22 ?l22 ?c22 ?k22 ?a23 ?l23 ?c23 ?k23 ?a24 ?l24 ?c24 ?k24 ?c_ALLOWED ?l_ALLOWED ?w_ALLOWED ?i_ALLOWED ?e_ALLOWED_0 ?f_ALLOWED_0 ?e_ALLOWED_1 ?f_ALLOWED_1 ?e_ALLOWED_2 ?f_ALLOWED_2 ?e_ALLOWED_3 ?f_ALLOWED_3 ?e_ALLOWED_4 ?f_ALLOWED_4 ?c_NEEDED_BEHIND ?l_NEEDED_BEHIND ?w_NEEDED_BEHIND ?i_NEEDED_BEHIND ?e_NEEDED_BEHIND_0 ?f_NEEDED_BEHIND_0 ?e_NEEDED_BEHIND_1 ?f_NEEDED_BEHIND_1 ?m_NEEDED_BEHIND_num ?m_NEEDED_BEHIND_col ?m_NEEDED_BEHIND_opn ?m_NEEDED_BEHIND_cls ?c_LEAST_NUMBER ?c_GREATEST_NUMBER ?c_LEAST_HEIGHT ?c_GREATEST_HEIGHT ?c_MOST_BOXES ?c_MOST_SCROLLERS_WITHIN ?c_BLANKS ?c_SIGNS ?c_DIGITS ?z_abs ?z_all ?z_bool ?z_enumerate ?z_int ?z_isinstance ?z_len ?z_list ?z_max ?z_range ?z_set ?z_str ?z_sum ?z_tuple ?xC ?xF ?xL ?xR ?xsa ?xnoP ?xnoM ?xiC ?xtC ?xkC ?xexC ?xtyC ?xstr ?xFL ?xini ?xveC ?xmroC ?xopq ?xsup ?xfn ?xcode ?xline ?xcda ?xvs ?xcc ?xga ?xgg ?xhd ?xcl ?xhn ?xht ?xhm ?xFi ?xFt ?xCF ?xCi ?xCC ?xPG
    (case a0 => k_is); (case l0 => k_is); (case c0 => k_is); (case k0 => k_is)
    (case a1 => k_is); (case l1 => k_is); (case c1 => k_is); (case k1 => k_is)
    (case a2 => k_is); (case l2 => k_is); (case c2 => k_is); (case k2 => k_is)
    (case a3 => k_is); (case l3 => k_is); (case c3 => k_is); (case k3 => k_is)
    (case a4 => k_is); (case l4 => k_is); (case c4 => k_is); (case k4 => k_is)
    (case a5 => k_is); (case l5 => k_is); (case c5 => k_is); (case k5 => k_is)
    (case a6 => k_is); (case l6 => k_is); (case c6 => k_is); (case k6 => k_is)
    (case a7 => k_is); (case l7 => k_is); (case c7 => k_is); (case k7 => k_is)
    (case a8 => k_is); (case l8 => k_is); (case c8 => k_is); (case k8 => k_is)
    (case a9 => k_is); (case l9 => k_is); (case c9 => k_is); (case k9 => k_is)
    (case a10 => k_is); (case l10 => k_is); (case c10 => k_is); (case k10 => k_is)
    (case a11 => k_is); (case l11 => k_is); (case c11 => k_is); (case k11 => k_is)
    (case a12 => k_is); (case l12 => k_is); (case c12 => k_is); (case k12 => k_is)
    (case a13 => k_is); (case l13 => k_is); (case c13 => k_is); (case k13 => k_is)
    (case a14 => k_is); (case l14 => k_is); (case c14 => k_is); (case k14 => k_is)
    (case a15 => k_is); (case l15 => k_is); (case c15 => k_is); (case k15 => k_is)
    (case a16 => k_is); (case l16 => k_is); (case c16 => k_is); (case k16 => k_is)
    (case a17 => k_is); (case l17 => k_is); (case c17 => k_is); (case k17 => k_is)
    (case a18 => k_is); (case l18 => k_is); (case c18 => k_is); (case k18 => k_is)
    (case a19 => k_is); (case l19 => k_is); (case c19 => k_is); (case k19 => k_is)
    (case a20 => k_is); (case l20 => k_is); (case c20 => k_is); (case k20 => k_is)
    (case a21 => k_is); (case l21 => k_is); (case c21 => k_is); (case k21 => k_is)
    (case a22 => k_is); (case l22 => k_is); (case c22 => k_is); (case k22 => k_is)
    (case a23 => k_is); (case l23 => k_is); (case c23 => k_is); (case k23 => k_is)
    (case a24 => k_is); (case l24 => k_is); (case c24 => k_is); (case k24 => k_is)
    (case c_ALLOWED => k_is); (case l_ALLOWED => k_is); (case w_ALLOWED => rfl)
    (case e_ALLOWED_0 => k_is); (case f_ALLOWED_0 => k_is)
    (case e_ALLOWED_1 => k_is); (case f_ALLOWED_1 => k_is)
    (case e_ALLOWED_2 => k_is); (case f_ALLOWED_2 => k_is)
    (case e_ALLOWED_3 => k_is); (case f_ALLOWED_3 => k_is)
    (case e_ALLOWED_4 => k_is); (case f_ALLOWED_4 => k_is)
    (case i_ALLOWED => exact ⟨⟨_, _, rfl, rfl⟩, ⟨⟨_, _, rfl, rfl⟩, ⟨⟨_, _, rfl, rfl⟩, ⟨⟨_, _, rfl, rfl⟩, ⟨⟨_, _, rfl, rfl⟩, trivial⟩⟩⟩⟩⟩)
    (case c_NEEDED_BEHIND => k_is); (case l_NEEDED_BEHIND => k_is); (case w_NEEDED_BEHIND => rfl)
    (case e_NEEDED_BEHIND_0 => k_is); (case f_NEEDED_BEHIND_0 => k_is)
    (case e_NEEDED_BEHIND_1 => k_is); (case f_NEEDED_BEHIND_1 => k_is)
    (case m_NEEDED_BEHIND_num => k_is)
    (case m_NEEDED_BEHIND_col => k_is)
    (case m_NEEDED_BEHIND_opn => k_is)
    (case m_NEEDED_BEHIND_cls => k_is)
    (case i_NEEDED_BEHIND => exact ⟨⟨_, _, rfl, rfl⟩, ⟨⟨_, _, rfl, rfl⟩, trivial⟩⟩)
    (case c_LEAST_NUMBER => k_is)
    (case c_GREATEST_NUMBER => k_is)
    (case c_LEAST_HEIGHT => k_is)
    (case c_GREATEST_HEIGHT => k_is)
    (case c_MOST_BOXES => k_is)
    (case c_MOST_SCROLLERS_WITHIN => k_is)
    (case c_BLANKS => k_is)
    (case c_SIGNS => k_is)
    (case c_DIGITS => k_is)
    (case z_abs => k_is)
    (case z_all => k_is)
    (case z_bool => k_is)
    (case z_enumerate => k_is)
    (case z_int => k_is)
    (case z_isinstance => k_is)
    (case z_len => k_is)
    (case z_list => k_is)
    (case z_max => k_is)
    (case z_range => k_is)
    (case z_set => k_is)
    (case z_str => k_is)
    (case z_sum => k_is)
    (case z_tuple => k_is)
    (case xC => k_is)
    (case xF => k_is)
    (case xL => k_is)
    (case xR => rfl)
    (case xsa => k_is)
    (case xnoP => k_is)
    (case xnoM => k_is)
    (case xiC => k_is)
    (case xtC => k_is)
    (case xkC => k_is)
    (case xexC => k_is)
    (case xtyC => k_is)
    (case xstr => k_is)
    (case xFL => k_is)
    (case xini => k_is)
    (case xveC => k_is)
    (case xmroC => k_is)
    (case xopq => k_is)
    (case xsup => k_is)
    (case xfn => k_is)
    (case xcode => k_is)
    (case xline => rfl)
    (case xcda => k_is)
    (case xvs => rfl)
    (case xcc => k_is)
    (case xga => k_is)
    (case xgg => k_is)
    (case xhd => k_is)
    (case xcl => k_is)
    (case xhn => k_is)
    (case xht => k_is)
    (case xhm => k_is)
    (case xFi => k_is)
    (case xFt => k_is)
    (case xCF => k_is)
    (case xCi => k_is)
    (case xCC => first | rfl | k_is)
    (case xPG => exact ⟨by decide +kernel, by decide +kernel⟩)
