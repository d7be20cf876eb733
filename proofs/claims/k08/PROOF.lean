import PyProof.Rows.All
import Wide.All
import OpenK.AllK
import Wide.FinOn
import HandS.ForMost
import HandS.IsInst
import HandS.DictComp
import HandS.SortInts
import HandS.More
import HandS.Conv
import HandS.Style
import HandS.Exc
import HandS.TupAny
import HandS.Walk
import HandS.Evl
import HandS.Zip
import KE.GoesEnum
import HandS.ExcOwn
import HandS.ExcIs
import HandS.TryMany
import HandS.RaiseMore
import HandS.WordsExc
import HandS.FStr
import HandS.NoneIn
import PySem.Challenge.RW_asyncframes_k08_what_is_looked_at_stays
set_option Elab.async false
set_option linter.all false
set_option maxRecDepth 100000
/-! Rules that were lacking: a list extended by a tuple, a tuple turned round by a slice. -/
namespace AF
open PySem PySem.Spec PyProof.Rows L2

theorem ext_tup_meets (l : Addr) (xs : Array Value) (n : Nat) (b : Addr) (ys : Array Value) (n2 : Nat) (dd : Option Addr) (sl : Array (Option Value))
    (h0 : ¬(!xs.isEmpty && Builtin.List.listTooLong (xs.size + ys.size)) = true) (h1 : xs.size ≤ sizeLine) (h2 : xs.size + ys.size ≤ sizeLine + 1) :
    Meets (Builtin.«list.extend» ⟨[.ref l, .ref b], []⟩)
      (fun _ R s => s.heap.get? l = some { cls := .type "list", dict := none, data := .seq xs n, slots := #[] }
        ∧ s.heap.get? b = some { cls := .type "tuple", dict := dd, data := .seq ys n2, slots := sl }
        ∧ R (.ok (.ret Value.none)) { s with heap := s.heap.update l (Obj.mapSeq fun x => x ++ ys), toks := s.toks }) :=
  .of_wp fun prog w A R s h => by
    obtain ⟨hp, g, d, tk, os⟩ := s
    obtain ⟨hl, hb, h⟩ := h
    have f1 := AutoSeq1.idx_int
    have f2 := AutoSeq1.sub_tuple_tuple
    have f3 := AutoSeq1.sub_list_list
    have f4 := AutoSeq1.sub_tuple_list
    have f5 := AutoSeq1.sub_list_tuple
    have hz' : (xs ++ ys).size ≤ sizeLine + 1 := by
      rw [Array.size_append]
      exact h2
    wp_walk using (wpAny_updateSeq hl rfl (hz := h1) (_hz' := hz')), AutoSeq1.wpAny_loadPart' hl, AutoSeq1.wpAny_loadPart' hb
    exact ⟨_, rfl, h⟩

def rExtT (K : PySem.W.Frag) : V → List V → Hp → VK → Prop := fun x vs H Q => ∃ l b xs zs, x = .ref l ∧ vs = [.ref b] ∧ H l = some (.lst xs) ∧ SqT K H b zs ∧ xs.length + zs.length ≤ sizeLine ∧ Q .non (upd H l (.lst (xs ++ zs)))
section
variable {X : Cx}
theorem mt_extT : MtM X "list.extend" (rExtT X.K) := by
  intro pins s σ H x vs v us Q I rx rv h
  obtain ⟨l, b, xs, zs, rfl, rfl, hH, hB, hz, q⟩ := h
  cases rx
  obtain ⟨u, rfl, ru⟩ := rv.one
  cases ru
  obtain ⟨z, its, n, r, hl, e⟩ := I.lstM hH
  obtain ⟨its2, r2, ⟨o, ho, hc, n2, hd⟩, z2⟩ := I.tuple hB
  have hl2 := r2.length
  obtain ⟨cls, dd, data, sl⟩ := o
  simp only at hc hd
  subst hc hd
  have hsz : its.toArray.size + its2.toArray.size ≤ sizeLine := by
    rw [List.size_toArray, List.size_toArray]
    omega
  have hlong : ¬ (!its.toArray.isEmpty && Builtin.List.listTooLong (its.toArray.size + its2.toArray.size)) = true := by
    rw [notLongL hsz, Bool.and_false]
    exact Bool.false_ne_true
  refine call_meets F.slot_list_extend ⟨_, e, rfl⟩ F.entry_list_extend (F.args_list_extend_2 _ _)
    (ext_tup_meets l its.toArray n b its2.toArray n2 dd sl hlong (by rw [List.size_toArray]; omega) (by omega)) ⟨e, ho, ?_⟩
  refine ⟨.non, _, I.lset (its' := its ++ its2) hH e (by simp) (r.append r2) ?_, rfl, q⟩
  rw [List.length_append]
  omega

/-! ### t[::-1] of a tuple -/
theorem adjust_rev (n : Nat) : Builtin.Slice.sliceAdjust none none (-1) (n : Int) = ((n : Int) - 1, -1) := by
  unfold Builtin.Slice.sliceAdjust
  simp
theorem places_rev (n : Nat) : Builtin.Slice.slicePlaces ((n : Int) - 1) (-1) (-1) = n := by
  unfold Builtin.Slice.slicePlaces
  have h1 : ¬ ((-1 : Int) > 0) := by omega
  simp only [h1, if_false]
  have e : -(-1 : Int) = 1 := by omega
  simp only [e, Int.ediv_one]
  split <;> omega

theorem applied_rev {prog : Program} {w : World} {A : Around} {E : Value → Shared → Prop} {s : Shared} {sl : Addr} {vl vu vs : Value} {n : Nat} {Q : Int × Int × Nat → Shared → Prop}
    (hs : s.heap.IsSliceOf sl vl vu vs) (pl : IsPart vl none) (pu : IsPart vu none) (ps : IsPart vs (some (-1)))
    (h : Q ((n : Int) - 1, -1, n) s) : wpAny (model prog w) A (Builtin.Slice.sliceApplied (.ref sl) (pure (n : Int))) Q E s := by
  obtain ⟨os, hos, hcs, hds⟩ := id hs
  unfold Builtin.Slice.sliceApplied Builtin.Slice.sliceFields
  refine wpAny_bind (wpAny_bind (wpAny_field hos hds (x := vl) rfl
    (wpAny_bind (wpAny_field hos hds (x := vu) rfl (wpAny_bind (wpAny_field hos hds (x := vs) rfl (wpAny_pure ?_)))))))
  refine wpAny_bind (HT.slicePart_ ps ?_)
  show wpAny _ _ (if ((-1 : Int) == 0) = true then _ else _) _ _ s
  rw [if_neg (by decide)]
  refine wpAny_bind (HT.slicePart_ pl (wpAny_bind (HT.slicePart_ pu (wpAny_bind (wpAny_pure ?_)))))
  show wpAny _ _ (match Builtin.Slice.sliceAdjust none none (-1) (n : Int) with | (lo, hi) => pure (lo, (-1 : Int), Builtin.Slice.slicePlaces lo hi (-1))) _ _ s
  rw [adjust_rev n]
  show wpAny _ _ (pure ((n : Int) - 1, (-1 : Int), Builtin.Slice.slicePlaces ((n : Int) - 1) (-1) (-1))) _ _ s
  rw [places_rev]
  exact wpAny_pure h
theorem pick_rev (xs : Array Value) : ((List.range xs.size).filterMap fun (m : Nat) => xs[(((xs.size : Int) - 1) + (m : Int) * (-1)).toNat]?).toArray = xs.toList.reverse.toArray := by
  have e : (List.range xs.size).filterMap (fun (m : Nat) => xs[(((xs.size : Int) - 1) + (m : Int) * (-1)).toNat]?) = (List.range xs.size).filterMap (fun m => xs[xs.size - 1 - m]?) := by
    have key : ∀ (l : List Nat), (∀ m ∈ l, m < xs.size) → l.filterMap (fun (m : Nat) => xs[(((xs.size : Int) - 1) + (m : Int) * (-1)).toNat]?) = l.filterMap (fun m => xs[xs.size - 1 - m]?) := by
      intro l
      induction l with
      | nil => intro _; rfl
      | cons m r ih =>
        intro hm
        have h1 := hm m List.mem_cons_self
        have q : (((xs.size : Int) - 1) + (m : Int) * (-1)).toNat = xs.size - 1 - m := by omega
        rw [List.filterMap_cons, List.filterMap_cons, q, ih fun j hj => hm j (List.mem_cons_of_mem _ hj)]
    exact key _ fun m hm => List.mem_range.mp hm
  rw [e]
  have e2 : (fun m => xs[xs.size - 1 - m]?) = (xs[·]?) ∘ (fun k => xs.size - 1 - k) := rfl
  rw [e2, ← List.filterMap_map, PySem.W.krv_range, List.filterMap_reverse, PySem.W.krv_all]
theorem getItem_tuple_rev {prog : Program} {w : World} {A : Around} {E : Value → Shared → Prop} {s : Shared} {t sl : Addr} {items : Array Value} {vl vu vs : Value} {Q : Value → Shared → Prop}
    (ht : IsTup s.heap t items) (hs : s.heap.IsSliceOf sl vl vu vs) (pl : IsPart vl none) (pu : IsPart vu none) (ps : IsPart vs (some (-1)))
    (h : Q (.ref s.heap.objs.size) { s with heap := s.heap.push { cls := .type "tuple", data := .seq items.toList.reverse.toArray } })
    (hsz : items.size ≤ sizeLine) : wpAny (model prog w) A (getItem (.ref t) (.ref sl)) Q E s := by
  have hok : sizeOk (.seq items.toList.reverse.toArray) := by
    show items.toList.reverse.toArray.size ≤ sizeLine
    rw [List.size_toArray, List.length_reverse, Array.length_toList]
    exact hsz
  obtain ⟨os, hos, hcs, hds⟩ := id hs
  have hTs : s.TypeIs (.ref sl) "slice" := ⟨os, hos, hcs⟩
  unfold getItem
  try with_reducible refine wpAny_holding ?_
  first | refine wpAny_bind (wpAny_pure ?_) | skip
  refine wpAny_bind (wpAny_sequenceKey ht.typeIs (by decide) ?_)
  refine wpAny_bind (wpAny_callSpecial?_slot (name := Str.ofString "__getitem__") ht.typeIs PyProof.Rows.slot_tuple_getitem
    (wpAny_call_entry PyProof.Rows.slot_tuple_getitem ht.typeIs entry_tuple_getitem ?_ (args_tuple_getitem _ _)))
  show wpAny _ _ (Builtin.Tuple.tupleItemsOf (.ref t) >>= _) _ _ s
  refine wpAny_bind (tupleItemsOf_ ht ?_)
  refine wpAny_bind (wpAny_typeOf hTs ?_)
  rw [if_pos (by decide)]
  refine wpAny_bind (applied_rev hs pl pu ps ?_)
  have hno : ¬ ((((items.size : Int) - 1) == 0 && (-1 : Int) == 1 && items.size == items.size) = true) := by
    have z : ((-1 : Int) == 1) = false := by decide
    rw [z]
    simp
  show wpAny _ _ (if (((items.size : Int) - 1) == 0 && (-1 : Int) == 1 && items.size == items.size) = true then _ else _) _ _ s
  rw [if_neg hno, pick_rev]
  first
    | exact wpAny_bind (m := Builtin.Tuple.tupleExact _) (wpAny_newObj_type (wpAny_pure ⟨_, rfl, wpAny_pure h⟩) hok)
    | exact wpAny_bind (m := Builtin.Tuple.tupleExact _) (wpAny_newObj_type (wpAny_bind (wpAny_pure (wpAny_pure ⟨_, rfl, wpAny_pure h⟩))) hok)
    | exact wpAny_bind (wpAny_bind (m := Builtin.Tuple.tupleExact _) (wpAny_newObj_type (wpAny_pure (wpAny_pure ⟨_, rfl, wpAny_pure h⟩)) hok))
    | exact wpAny_bind (wpAny_bind (m := Builtin.Tuple.tupleExact _) (wpAny_newObj_type (wpAny_pure ⟨_, rfl, wpAny_pure h⟩) hok))
def tRevT (K : PySem.W.Frag) (te : TE) : TE := fun σ H Q => te σ H fun x H1 => ∃ a xs, x = .ref a ∧ SqT K H1 a xs ∧ ∀ p, H1 p = none → Q (.ref p) (upd H1 p (.tup xs.reverse))
theorem pe_revT {e : Expr} {te : TE} {k : Nat} {p1 p2 p3 pos : Pos} (he : PE X e te) : PE X (.Subscript e (.Slice none none (some (.UnaryOp .USub (.Constant (.int 1) k p1) p2)) p3) pos) (tRevT X.K te) := by
  refine ⟨fun pins s σ H Q I h => ?_⟩
  refine Subscript_ (thn (he.run pins s σ H _ I h) fun v s1 ⟨x, H1, I1, r1, q1⟩ => ?_)
  obtain ⟨a, xs, ex, hx, q⟩ := q1
  subst ex
  cases r1
  have hst : PO X (some (.UnaryOp .USub (.Constant (.int 1) k p1) p2)) (tPart (tUn (rU fun i => .int (-i)) (tC (.int 1)))) := po_some (pe_un un_neg pe_int)
  refine wpAny_Slice (thn (po_none.run pins s1 σ H1 (fun o H2 => o = none ∧ H2 = H1) I1 ⟨rfl, rfl⟩) fun vl s2 ⟨l, H2, I2, pl, el, e2⟩ => ?_)
  subst el e2
  refine thn (po_none.run pins s2 σ H2 (fun o H3 => o = none ∧ H3 = H2) I2 ⟨rfl, rfl⟩) fun vu s3 ⟨u, H3, I3, pu, eu, e3⟩ => ?_
  subst eu e3
  refine thn (hst.run pins s3 σ H3 (fun o H4 => o = some (-1) ∧ H4 = H3) I3 ⟨1, rfl, -1, rfl, rfl, rfl⟩) fun vs s4 ⟨o, H4, I4, ps, eo, e4⟩ => ?_
  subst eo e4
  have I5 : Inv X pins σ H4 { s4 with heap := s4.heap.push { cls := .type "slice", data := .fields #[vl, vu, vs] } } :=
    I4.kept (t' := s4.toks) fun b ob q => Heap.get?_push_of_some _ q
  obtain ⟨its, r, ht, hz⟩ := I5.tuple hx
  have hlen := r.length
  show wpAny (model X.prog X.w) X.A (subscriptTail e (.Slice none none (some (.UnaryOp .USub (.Constant (.int 1) k p1) p2)) p3) (.ref a) (.ref s4.heap.objs.size)) (EP X pins σ Q) X.xe
    { s4 with heap := s4.heap.push { cls := .type "slice", data := .fields #[vl, vu, vs] } }
  refine tail_any (ops := [.ref a, .ref s4.heap.objs.size]) ht.typeIs (PyProof.Rows.slot_tuple_getitem.lookup) ?_ (by with_unfolding_all rfl)
  refine getItem_tuple_rev ht (Heap.IsSliceOf.new _ vl vu vs) pl pu ps ?_ (by rw [List.size_toArray]; omega)
  refine ⟨.ref _, _, I5.laid (t' := s4.toks) (o := .tup xs.reverse) (fun b ob q => Heap.get?_push_of_some _ q) (Nat.le_refl _) ?_, rfl, q _ (I5.hok.fresh (Nat.le_refl _))⟩
  exact ⟨by rw [List.length_reverse]; exact hz, its.reverse, r.reverse, IsTup.new _ _⟩
end
/-! ### a def of the text, its call -/
structure DF (K : PySem.W.Frag) (mg : Str → Option Value) (x : Str) (st : Stmt) (ps : List Str) where
  f : Addr
  fd : FuncData
  F : Fun K x x st f fd
  b : Binds K fd ps []
  m : mg x = some (.ref f)
section
variable {X : Cx}
theorem cal {x : Str} {st : Stmt} {ps : List Str} {k : Nat} {sp : Sp} {p pos : Pos} {e : Expr} {es : List Expr} {t : TA} (D : DF X.K X.mg x st ps)
    (G : FnOk X.prog X.w X.K X.mg X.base CX0 k D.f D.fd ps sp) (hr : Room k X.A) (ha : PA X (e :: es) t) (hg : Gl X x := by rfl)
    (hdb : (x == ("__debug__" : Str)) = false := by decide) (he : starEach (e :: es) X.env = (false, eval e X.env) :: starEach es X.env := by rfl)
    (hpl : (backTo pos (starEach es X.env)).any (·.1) = false := by rfl) : PE X (.Call (.Name x p) (e :: es) [] pos) (tCall sp [] E0 t) :=
  pe_call G hr hg D.m D.F.kp D.b .nil pass0 ha hdb he hpl
theorem cal0 {x : Str} {st : Stmt} {ps : List Str} {k : Nat} {sp : Sp} {p pos : Pos} (D : DF X.K X.mg x st ps)
    (G : FnOk X.prog X.w X.K X.mg X.base CX0 k D.f D.fd ps sp) (hr : Room k X.A) (hg : Gl X x := by rfl)
    (hdb : (x == ("__debug__" : Str)) = false := by decide) : PE X (.Call (.Name x p) [] [] pos) (tCall sp [] E0 tNil) :=
  pe_call0 G hr hg D.m D.F.kp D.b .nil pass0 hdb
/-- an item of a list or of a tuple -/
def rIxLT (K : PySem.W.Frag) : R2 := fun x y H Q => rIxL K x y H Q ∨ rIxT K x y H Q
/-! ### rules that name the written part K: within a comprehension's block X.K is no word that stands outside of it -/
theorem ixT (K : PySem.W.Frag) (h : X.K = K) : IxR X (rIxT K) := by subst h; exact ix_tup
theorem ixL (K : PySem.W.Frag) (h : X.K = K) : IxR X (rIxL K) := by subst h; exact ix_list
theorem ixLT (K : PySem.W.Frag) (h : X.K = K) : IxR X (rIxLT K) := by subst h; exact ix_list.or ix_tup
theorem slL (K : PySem.W.Frag) (h : X.K = K) : SlR X (rSlL K) := by subst h; exact sl_list
theorem slT (K : PySem.W.Frag) (h : X.K = K) : SlR X (rSlA K) := by subst h; exact sl_tupA
def rLenQ (K : PySem.W.Frag) : List V → Hp → VK → Prop := fun xs H Q => ∃ p ys, xs = [.ref p] ∧ (SqL K H p ys ∨ SqT K H p ys) ∧ Q (.int ys.length) H
theorem lenK (K : PySem.W.Frag) (h : X.K = K) : CallR X (.builtin "len") (rLenQ K) := by subst h; exact call_len_seq
theorem sumK (K : PySem.W.Frag) (h : X.K = K) (hc : X.calm = true) : CallR X (.builtin "sum") (rSum K) := by subst h; exact cr_sum hc
theorem allK (K : PySem.W.Frag) (h : X.K = K) (hc : X.calm = true) : CallR X (.builtin "all") (rAll K) := by subst h; exact cr_all hc
theorem anyK (K : PySem.W.Frag) (h : X.K = K) (hc : X.calm = true) : CallR X (.builtin "any") (rAny K) := by subst h; exact cr_any hc
theorem maxK (K : PySem.W.Frag) (h : X.K = K) (hc : X.calm = true) : CallR X (.builtin "max") (rMax K) := by subst h; exact cr_max hc
theorem minK (K : PySem.W.Frag) (h : X.K = K) (hc : X.calm = true) : CallR X (.builtin "min") (rMin K) := by subst h; exact cr_min hc
theorem sortedK (K : PySem.W.Frag) (h : X.K = K) : CallR X (.builtin "sorted") (rSortedI K) := by subst h; exact cr_sortedI
def rListQ (K : PySem.W.Frag) : List V → Hp → VK → Prop := fun xs H Q => ∃ p ys, xs = [.ref p] ∧ (SqL K H p ys ∨ SqT K H p ys) ∧ ∀ l, H l = none → Q (.ref l) (upd H l (.lst ys))
theorem listK (K : PySem.W.Frag) (h : X.K = K) : CallR X (.type "list") (rListQ K) := by subst h; exact call_list_of
def rTupQ (K : PySem.W.Frag) : List V → Hp → VK → Prop := fun xs H Q => ∃ p ys, xs = [.ref p] ∧ ((SqL K H p ys ∧ ∀ l, H l = none → Q (.ref l) (upd H l (.tup ys))) ∨ (SqT K H p ys ∧ Q (.ref p) H))
theorem tupK (K : PySem.W.Frag) (h : X.K = K) : CallR X (.type "tuple") (rTupQ K) := by subst h; exact call_tuple_of
theorem isiK (K : PySem.W.Frag) (h : X.K = K) : CallR X (.builtin "isinstance") (rIsi K) := by subst h; exact call_isi
theorem isiTK (K : PySem.W.Frag) (h : X.K = K) : CallR X (.builtin "isinstance") (rIsiT K) := by subst h; exact call_isiT
theorem piL {tg l : Expr} {tl : TE} (K : PySem.W.Frag) (h : X.K = K) (hl : PE X l tl) : PI X tg l (iList K tl) := by subst h; exact pi_list hl
theorem piT {tg l : Expr} {tl : TE} (K : PySem.W.Frag) (h : X.K = K) (hl : PE X l tl) : PI X tg l (iTup K tl) := by subst h; exact pi_tup hl
theorem catTK (K : PySem.W.Frag) (h : X.K = K) : OpR X (binaryOp .Add) (rCatA K) := by subst h; exact op_catA
theorem eqK (K : PySem.W.Frag) (h : X.K = K) (hu : X.A.units + 64 < cLine) : OpR X (compareOp .Eq) (rEqD K) := by subst h; exact op_eqD hu
theorem neK (K : PySem.W.Frag) (h : X.K = K) (hu : X.A.units + 64 < cLine) : OpR X (compareOp .NotEq) (rNeD K) := by subst h; exact op_neD hu
theorem inK (K : PySem.W.Frag) (h : X.K = K) : OpR X (compareOp .In) (rIn K false) := by subst h; exact op_in_seq
theorem notInK (K : PySem.W.Frag) (h : X.K = K) : OpR X (compareOp .NotIn) (rIn K true) := by subst h; exact op_notIn_seq
theorem extTK (K : PySem.W.Frag) (h : X.K = K) : MtM X "list.extend" (rExtT K) := by subst h; exact mt_extT
theorem revTK {e : Expr} {te : TE} {k : Nat} {p1 p2 p3 pos : Pos} (K : PySem.W.Frag) (h : X.K = K) (he : PE X e te) : PE X (.Subscript e (.Slice none none (some (.UnaryOp .USub (.Constant (.int 1) k p1) p2)) p3) pos) (tRevT K te) := by
  subst h
  exact pe_revT he
def tTru (K : PySem.W.Frag) (ta : TE) : TT := fun σ H Q => ta σ H fun x H' => ∃ k, TruV K x H' k ∧ Q k H'
theorem truK {a : Expr} {ta : TE} (K : PySem.W.Frag) (h : X.K = K) (ha : PE X a ta) (he : ∀ whole, isTrue a X.env whole = (do let v ← whole; standAt a.pos; holding [v] (truthy v)) := by intro _; rfl) : PT X a (tTru K ta) := by
  subst h
  exact pt_truth ha he
theorem pg_tupK {es : List Expr} {k : Nat} {t : TGs} {n : Nat} {pos : Pos} (K : PySem.W.Frag) (hK : X.K = K) (hc : X.calm = true) (h : PGs X es t)
    (hn : (assignEach es X.env).length = n := by rfl) (hst : (assignEach es X.env).findIdx? (·.1) = none := by rfl) : PG X (.Tuple es k pos) (gTup K n t) := by
  subst hK
  exact pg_tup hc h hn hst
end
theorem iteP {c A B : Prop} [Decidable c] (h : c) (k : A) : if c then A else B := by
  rw [if_pos h]
  exact k
theorem iteN {c A B : Prop} [Decidable c] (h : ¬ c) (k : B) : if c then A else B := by
  rw [if_neg h]
  exact k
/-- what law(script) promises -/
def spLaw (K : PySem.W.Frag) : Sp := fun vs H Q _ => ∃ (a : Addr) (ns : List Int), vs = [.ref a] ∧ SqL K H a (ns.map V.int) ∧ ns.length ≤ 63 ∧ ∀ H', Q (.bl true) H'
theorem walk_law {k : Nat} {l : PySem.W.OpenLaw} {q : Program} {loose : List Str} {XP : (Str → Option Value) → Heap → Prop} {YP : World → Heap → Prop} {d : DefRec} {K : Params → PySem.W.Frag}
    (hn : l.most = some 63) (hdf : d.params.defaults = []) (hk : k ≤ 200) (hY : ∀ (w : World) (h : Heap), YP w h → (K w.params).In h)
    (F : ∀ (w : World) (mg : Str → Option Value) (fa : Addr) (h : Heap), (K w.params).In h → h.Ns mainGlobals mg → mg d.name = some (.ref fa) →
      ∃ fd : FuncData, (∀ (s : Shared) (u : Value), BindsTo s fd ⟨[u], []⟩ [("script", u)]) ∧
        ∀ base : Heap, (K w.params).In base → base.Ns mainGlobals mg → FnOk l.prog w (K w.params) mg base CX0 k fa fd ["script"] (spLaw (K w.params))) :
    PySem.W.WalkO q loose XP YP l.row.toRowW d [] (fun f vs => PySem.call f vs) :=
  L2.walk_of (n := 63) (k := k) (x := "script") (CX := fun _ => CX0) (sp := fun w => spLaw (K w.params)) hn (by decide) hdf
    (Room.mono (k := 200) ⟨rfl, by decide, by decide⟩ hk) hY F (fun _ _ a ns hl _ hS => ⟨a, ns, rfl, hS, hl, fun _ => rfl⟩) fun _ _ _ _ _ z => z
end AF
/-! Boxes as data, and how they lie in a heap. -/
namespace AF
open PySem PySem.Spec PyProof.Rows L2

inductive Box where
  | blk (n h : Int)
  | scr (n h : Int) (ps : List Box)
namespace Box
def num : Box → Int
  | .blk n _ => n
  | .scr n _ _ => n
def ht : Box → Int
  | .blk _ h => h
  | .scr _ h _ => h
def parts : Box → List Box
  | .blk _ _ => []
  | .scr _ _ ps => ps
def isS : Box → Bool
  | .blk _ _ => false
  | .scr _ _ _ => true
def kind : Box → Str
  | .blk _ _ => "block"
  | .scr _ _ _ => "scroller"
mutual
def pre : Box → List Box
  | .blk n h => [.blk n h]
  | .scr n h ps => .scr n h ps :: preL ps
def preL : List Box → List Box
  | [] => []
  | b :: r => b.pre ++ preL r
end
mutual
def depth : Box → Nat
  | .blk _ _ => 0
  | .scr _ _ ps => depthL ps + 1
def depthL : List Box → Nat
  | [] => 0
  | b :: r => max b.depth (depthL r)
end
mutual
def py : Box → PyData
  | .blk n h => .tuple [.str "block", .int n, .int h]
  | .scr n h ps => .tuple [.str "scroller", .int n, .int h, .tuple (pyL ps)]
def pyL : List Box → List PyData
  | [] => []
  | b :: r => b.py :: pyL r
end
theorem pre_eq (b : Box) : b.pre = b :: preL b.parts := by
  cases b with
  | blk n h => simp [pre, parts, preL]
  | scr n h ps => simp [pre, parts]
theorem pyL_eq : ∀ l : List Box, pyL l = l.map py
  | [] => by simp [pyL]
  | b :: r => by simp [pyL, pyL_eq r]
theorem preL_eq : ∀ l : List Box, preL l = l.flatMap pre
  | [] => by simp [preL]
  | b :: r => by simp [preL, preL_eq r]
theorem depthL_mem : ∀ {l : List Box} {b : Box}, b ∈ l → b.depth ≤ depthL l
  | c :: r, b, h => by
    rcases List.mem_cons.mp h with e | h
    · subst e
      simp only [depthL]
      omega
    · have := depthL_mem h
      simp only [depthL]
      omega
end Box

mutual
def BoxAt (H : Hp) : V → Box → Prop
  | v, .blk n h => ∃ a : Addr, v = .ref a ∧ H a = some (.tup [.str "block", .int n, .int h])
  | v, .scr n h ps => ∃ (a p : Addr) (vs : List V), v = .ref a ∧ H a = some (.tup [.str "scroller", .int n, .int h, .ref p]) ∧ H p = some (.tup vs) ∧ BoxesAt H vs ps
def BoxesAt (H : Hp) : List V → List Box → Prop
  | vs, [] => vs = []
  | vs, b :: bs => ∃ (v : V) (r : List V), vs = v :: r ∧ BoxAt H v b ∧ BoxesAt H r bs
end
/-- tuples stand -/
def KeepT (H H' : Hp) : Prop := ∀ b xs, H b = some (.tup xs) → H' b = some (.tup xs)
theorem KeepT.refl (H : Hp) : KeepT H H := fun _ _ h => h
theorem KeepT.trans {H H1 H2 : Hp} (a : KeepT H H1) (b : KeepT H1 H2) : KeepT H H2 := fun c xs h => b c xs (a c xs h)
theorem Same.keepT {H H' : Hp} (e : Same H H') : KeepT H H' := fun b xs h => e b _ h
/-- all that was tracked is as it was, but at the places l -/
def But (l : List Addr) (H H' : Hp) : Prop := ∀ b o, b ∉ l → H b = some o → H' b = some o
theorem But.refl (l : List Addr) (H : Hp) : But l H H := fun _ _ _ h => h
theorem But.trans {l : List Addr} {H H1 H2 : Hp} (a : But l H H1) (b : But l H1 H2) : But l H H2 := fun c o n h => b c o n (a c o n h)
theorem But.of {l : List Addr} {H H' : Hp} (e : Same H H') : But l H H' := fun b o _ h => e b o h
theorem But.mono {l l' : List Addr} {H H' : Hp} (e : But l H H') (h : ∀ b ∈ l, b ∈ l') : But l' H H' := fun b o n q => e b o (fun z => n (h b z)) q
theorem same_new {H : Hp} {p : Addr} (h : H p = none) (o : HO) : Same H (upd H p o) := fun b u q => by
  rw [upd_ne (ne_of_none q h)]
  exact q
theorem but_upd {H : Hp} {p : Addr} (o : HO) : But [p] H (upd H p o) := fun b u n q => by
  rw [upd_ne (fun e => n (by rw [e]; exact List.mem_cons_self))]
  exact q
/-- a store to what is new to H -/
theorem same_upd {H H' : Hp} {p : Addr} (e : Same H H') (h : H p = none) (o : HO) : Same H (upd H' p o) := fun b u q => by
  rw [upd_ne (ne_of_none q h)]
  exact e b u q
theorem keepT_upd {H : Hp} {p : Addr} {xs : List V} (h : H p = some (.lst xs)) (o : HO) : KeepT H (upd H p o) := fun b ys q => by
  rw [upd_ne (ne_of q h (fun z => nomatch z))]
  exact q
theorem keepT_updK {H : Hp} {p : Addr} {xs : List (Key × V)} (h : H p = some (.dK xs)) (o : HO) : KeepT H (upd H p o) := fun b ys q => by
  rw [upd_ne (ne_of q h (fun z => nomatch z))]
  exact q

mutual
theorem BoxAt.keep {H H' : Hp} (k : KeepT H H') : ∀ (b : Box) (v : V), BoxAt H v b → BoxAt H' v b
  | .blk n h, v, q => by
    simp only [BoxAt] at q ⊢
    obtain ⟨a, e, q⟩ := q
    exact ⟨a, e, k _ _ q⟩
  | .scr n h ps, v, q => by
    simp only [BoxAt] at q ⊢
    obtain ⟨a, p, vs, e, q1, q2, q3⟩ := q
    exact ⟨a, p, vs, e, k _ _ q1, k _ _ q2, BoxesAt.keep k ps vs q3⟩
theorem BoxesAt.keep {H H' : Hp} (k : KeepT H H') : ∀ (bs : List Box) (vs : List V), BoxesAt H vs bs → BoxesAt H' vs bs
  | [], vs, q => by
    simp only [BoxesAt] at q ⊢
    exact q
  | b :: bs, vs, q => by
    simp only [BoxesAt] at q ⊢
    obtain ⟨v, r, e, q1, q2⟩ := q
    exact ⟨v, r, e, BoxAt.keep k b v q1, BoxesAt.keep k bs r q2⟩
end
section
variable {H H' : Hp} {v : V} {b : Box} {vs ws : List V} {bs cs : List Box}
theorem BoxAt.k (q : BoxAt H v b) (k : KeepT H H') : BoxAt H' v b := BoxAt.keep k b v q
theorem BoxesAt.k (q : BoxesAt H vs bs) (k : KeepT H H') : BoxesAt H' vs bs := BoxesAt.keep k bs vs q
theorem BoxAt.s (q : BoxAt H v b) (k : Same H H') : BoxAt H' v b := BoxAt.keep (Same.keepT k) b v q
theorem BoxesAt.s (q : BoxesAt H vs bs) (k : Same H H') : BoxesAt H' vs bs := BoxesAt.keep (Same.keepT k) bs vs q
/-- the first three items of a box's tuple -/
theorem BoxAt.tup (q : BoxAt H v b) : ∃ (a : Addr) (xs : List V), v = .ref a ∧ H a = some (.tup xs) ∧ xs.take 3 = [.str b.kind, .int b.num, .int b.ht] := by
  cases b with
  | blk n h =>
    simp only [BoxAt] at q
    obtain ⟨a, e, q⟩ := q
    exact ⟨a, _, e, q, rfl⟩
  | scr n h ps =>
    simp only [BoxAt] at q
    obtain ⟨a, p, vs, e, q, _⟩ := q
    exact ⟨a, _, e, q, rfl⟩
theorem BoxAt.scr (q : BoxAt H v (.scr n h ps)) : ∃ (a p : Addr) (vs : List V), v = .ref a ∧ H a = some (.tup [.str "scroller", .int n, .int h, .ref p]) ∧ H p = some (.tup vs) ∧ BoxesAt H vs ps := by
  simp only [BoxAt] at q
  exact q
theorem BoxAt.mkS {a p : Addr} (h1 : H a = some (.tup [.str "scroller", .int n, .int h, .ref p])) (h2 : H p = some (.tup vs)) (q : BoxesAt H vs bs) : BoxAt H (.ref a) (.scr n h bs) := by
  simp only [BoxAt]
  exact ⟨a, p, vs, rfl, h1, h2, q⟩
theorem BoxAt.mkB {a : Addr} (h1 : H a = some (.tup [.str "block", .int n, .int h])) : BoxAt H (.ref a) (.blk n h) := by
  simp only [BoxAt]
  exact ⟨a, rfl, h1⟩
theorem BoxesAt.nil : BoxesAt H [] [] := by
  simp only [BoxesAt]
theorem BoxesAt.cons (h1 : BoxAt H v b) (h2 : BoxesAt H vs bs) : BoxesAt H (v :: vs) (b :: bs) := by
  simp only [BoxesAt]
  exact ⟨v, vs, rfl, h1, h2⟩
theorem BoxesAt.cons_inv (q : BoxesAt H vs (b :: bs)) : ∃ v r, vs = v :: r ∧ BoxAt H v b ∧ BoxesAt H r bs := by
  simp only [BoxesAt] at q
  exact q
theorem BoxesAt.nil_inv (q : BoxesAt H vs []) : vs = [] := by
  simp only [BoxesAt] at q
  exact q
theorem BoxesAt.len : ∀ {bs : List Box} {vs : List V}, BoxesAt H vs bs → vs.length = bs.length
  | [], vs, q => by
    rw [q.nil_inv]
    rfl
  | b :: bs, vs, q => by
    obtain ⟨v, r, rfl, _, q2⟩ := q.cons_inv
    rw [List.length_cons, List.length_cons, BoxesAt.len q2]
theorem BoxesAt.get : ∀ {bs : List Box} {vs : List V} {i : Nat} {v : V}, BoxesAt H vs bs → vs[i]? = some v → ∃ b, bs[i]? = some b ∧ BoxAt H v b
  | [], vs, i, v, q, e => by
    rw [q.nil_inv] at e
    simp at e
  | b :: bs, vs, 0, v, q, e => by
    obtain ⟨u, r, rfl, q1, q2⟩ := q.cons_inv
    have e : u = v := by simpa using e
    subst e
    exact ⟨b, rfl, q1⟩
  | b :: bs, vs, i + 1, v, q, e => by
    obtain ⟨u, r, rfl, q1, q2⟩ := q.cons_inv
    exact BoxesAt.get (i := i) q2 (by simpa using e)
theorem BoxesAt.append : ∀ {bs cs : List Box} {vs ws : List V}, BoxesAt H vs bs → BoxesAt H ws cs → BoxesAt H (vs ++ ws) (bs ++ cs)
  | [], cs, vs, ws, q, q' => by
    rw [q.nil_inv]
    exact q'
  | b :: bs, cs, vs, ws, q, q' => by
    obtain ⟨v, r, rfl, q1, q2⟩ := q.cons_inv
    exact BoxesAt.cons q1 (BoxesAt.append q2 q')
theorem BoxesAt.one (h : BoxAt H v b) : BoxesAt H [v] [b] := .cons h .nil
theorem BoxesAt.reverse : ∀ {bs : List Box} {vs : List V}, BoxesAt H vs bs → BoxesAt H vs.reverse bs.reverse
  | [], vs, q => by
    rw [q.nil_inv]
    exact .nil
  | b :: bs, vs, q => by
    obtain ⟨v, r, rfl, q1, q2⟩ := q.cons_inv
    rw [List.reverse_cons, List.reverse_cons]
    exact (BoxesAt.reverse q2).append (.one q1)
theorem BoxesAt.take : ∀ {bs : List Box} {vs : List V} (i : Nat), BoxesAt H vs bs → BoxesAt H (vs.take i) (bs.take i)
  | _, _, 0, _ => .nil
  | [], vs, i + 1, q => by
    rw [q.nil_inv]
    exact .nil
  | b :: bs, vs, i + 1, q => by
    obtain ⟨v, r, rfl, q1, q2⟩ := q.cons_inv
    exact BoxesAt.cons q1 (BoxesAt.take i q2)
theorem BoxesAt.split_last (q : BoxesAt H vs (bs ++ [b])) : ∃ v ws, vs = ws ++ [v] ∧ BoxesAt H ws bs ∧ BoxAt H v b := by
  have r := q.reverse
  rw [List.reverse_append] at r
  obtain ⟨v, ws, e, q1, q2⟩ := BoxesAt.cons_inv (by simpa using r)
  refine ⟨v, ws.reverse, ?_, ?_, q1⟩
  · have := congrArg List.reverse e
    simpa using this
  · have := q2.reverse
    simpa using this
end
end AF
namespace AF
namespace Box
theorem preL_append : ∀ a b : List Box, preL (a ++ b) = preL a ++ preL b
  | [], b => by simp [preL]
  | x :: a, b => by simp [preL, preL_append a b]
theorem preL_ge : ∀ l : List Box, l.length ≤ (preL l).length
  | [] => Nat.zero_le _
  | b :: r => by
    have := preL_ge r
    simp only [preL, List.length_append, List.length_cons, pre_eq b]
    omega
end Box
end AF
/-! Data at any depth (Dp): boxes, lists of them, ints; the facts that == and isinstance ask. -/
namespace AF
open PySem PySem.Spec PyProof.Rows L2
section
variable {K : PySem.W.Frag} {H H' : Hp}
theorem Same.seqT {a : Addr} {xs : List V} (e : Same H H') (h : SqT K H a xs) : SqT K H' a xs := by
  rcases h with (h | ⟨o, h⟩) | h
  · exact .inl (.inl (e _ _ h))
  · exact .inl (.inr ⟨o, e _ _ h⟩)
  · exact .inr h
/-- lists, tuples and what is locked -/
def sqO : HO → Bool
  | .lst _ => true
  | .tup _ => true
  | .frz _ _ => true
  | _ => false
def KeepS (H H' : Hp) : Prop := ∀ b o, sqO o = true → H b = some o → H' b = some o
theorem Same.keepS (e : Same H H') : KeepS H H' := fun b o _ h => e b o h
theorem KeepS.seq {a : Addr} {xs : List V} (e : KeepS H H') (h : SqL K H a xs) : SqL K H' a xs := by
  rcases h with (h | ⟨o, h⟩) | h
  · exact .inl (.inl (e _ _ rfl h))
  · exact .inl (.inr ⟨o, e _ _ rfl h⟩)
  · exact .inr h
theorem KeepS.seqT {a : Addr} {xs : List V} (e : KeepS H H') (h : SqT K H a xs) : SqT K H' a xs := by
  rcases h with (h | ⟨o, h⟩) | h
  · exact .inl (.inl (e _ _ rfl h))
  · exact .inl (.inr ⟨o, e _ _ rfl h⟩)
  · exact .inr h
mutual
theorem Dp.keep (e : KeepS H H') : ∀ (d : PyData) (v : V), Dp K H v d → Dp K H' v d
  | .none, v, h => by
    cases h
    exact .non
  | .bool b, v, h => by
    cases h
    exact .bl b
  | .int i, v, h => by
    cases h
    exact .int i
  | .str x, v, h => by
    cases h
    exact .str x
  | .list ds, v, h => by
    cases h with
    | lst h1 h2 => exact .lst (e.seq h1) (DpAll.keep e ds _ h2)
  | .tuple ds, v, h => by
    cases h with
    | tup h1 h2 => exact .tup (e.seqT h1) (DpAll.keep e ds _ h2)
  | .dict _, v, h => by cases h
theorem DpAll.keep (e : KeepS H H') : ∀ (ds : List PyData) (vs : List V), DpAll K H vs ds → DpAll K H' vs ds
  | [], vs, h => by
    cases h
    exact .nil
  | d :: ds, vs, h => by
    cases h with
    | cons h1 h2 => exact .cons (Dp.keep e d _ h1) (DpAll.keep e ds _ h2)
end
theorem Dp.same (e : Same H H') (d : PyData) (v : V) (h : Dp K H v d) : Dp K H' v d := Dp.keep (Same.keepS e) d v h
theorem DpAll.same (e : Same H H') (ds : List PyData) (vs : List V) (h : DpAll K H vs ds) : DpAll K H' vs ds := DpAll.keep (Same.keepS e) ds vs h
theorem Dp.s {v : V} {d : PyData} (h : Dp K H v d) (e : Same H H') : Dp K H' v d := Dp.same e d v h
theorem DpAll.get : ∀ {ds : List PyData} {vs : List V} {i : Nat} {d : PyData}, DpAll K H vs ds → ds[i]? = some d → ∃ v, vs[i]? = some v ∧ Dp K H v d
  | [], _, _, _, _, e => by simp at e
  | c :: ds, vs, 0, d, h, e => by
    cases h with
    | cons h1 h2 =>
      have e : c = d := by simpa using e
      subst e
      exact ⟨_, rfl, h1⟩
  | c :: ds, vs, i + 1, d, h, e => by
    cases h with
    | cons h1 h2 =>
      obtain ⟨v, q, r⟩ := DpAll.get (i := i) h2 (by simpa using e)
      exact ⟨v, by simpa using q, r⟩
theorem DpAll.len : ∀ {ds : List PyData} {vs : List V}, DpAll K H vs ds → vs.length = ds.length
  | [], _, h => by
    cases h
    rfl
  | d :: ds, _, h => by
    cases h with
    | cons h1 h2 => rw [List.length_cons, List.length_cons, DpAll.len h2]
mutual
theorem BoxAt.dp : ∀ (b : Box) (v : V), BoxAt H v b → Dp K H v b.py
  | .blk n h, v, q => by
    simp only [BoxAt] at q
    obtain ⟨a, rfl, q⟩ := q
    simp only [Box.py]
    exact .tup (.of q) (.cons (.str _) (.cons (.int _) (.cons (.int _) .nil)))
  | .scr n h ps, v, q => by
    simp only [BoxAt] at q
    obtain ⟨a, p, vs, rfl, q1, q2, q3⟩ := q
    simp only [Box.py]
    exact .tup (.of q1) (.cons (.str _) (.cons (.int _) (.cons (.int _) (.cons (.tup (.of q2) (BoxesAt.dp ps vs q3)) .nil))))
theorem BoxesAt.dp : ∀ (bs : List Box) (vs : List V), BoxesAt H vs bs → DpAll K H vs (Box.pyL bs)
  | [], vs, q => by
    simp only [BoxesAt] at q
    subst q
    simp only [Box.pyL]
    exact .nil
  | b :: bs, vs, q => by
    simp only [BoxesAt] at q
    obtain ⟨v, r, rfl, q1, q2⟩ := q
    simp only [Box.pyL]
    exact .cons (BoxAt.dp b v q1) (BoxesAt.dp bs r q2)
end
theorem dpInts : ∀ ns : List Int, DpAll K H (ns.map V.int) (ns.map PyData.int)
  | [] => .nil
  | n :: r => .cons (.int n) (dpInts r)
theorem dpIntL {a : Addr} {ns : List Int} (h : SqL K H a (ns.map V.int)) : Dp K H (.ref a) (.list (ns.map PyData.int)) := .lst h (dpInts ns)

/-! how deep data is, and that it has no dict -/
mutual
def dd : PyData → Nat
  | .list ds => ddL ds + 1
  | .tuple ds => ddL ds + 1
  | _ => 0
def ddL : List PyData → Nat
  | [] => 0
  | d :: r => max (dd d) (ddL r)
end
theorem ddL_mem : ∀ {l : List PyData} {d : PyData}, d ∈ l → dd d ≤ ddL l
  | c :: r, d, h => by
    rcases List.mem_cons.mp h with e | h
    · subst e
      simp only [ddL]
      omega
    · have := ddL_mem h
      simp only [ddL]
      omega
theorem ddL_ints : ∀ ns : List Int, ddL (ns.map PyData.int) = 0
  | [] => by simp [ddL]
  | n :: r => by simp [ddL, dd, ddL_ints r]
mutual
theorem dd_py : ∀ b : Box, dd b.py ≤ 2 * b.depth + 1
  | .blk n h => by simp [Box.py, dd, ddL]
  | .scr n h ps => by
    have := dd_pyL ps
    simp only [Box.py, dd, ddL, Box.depth]
    omega
theorem dd_pyL : ∀ l : List Box, ddL (Box.pyL l) ≤ 2 * Box.depthL l + 1
  | [] => by simp [Box.pyL, ddL]
  | b :: r => by
    have h1 := dd_py b
    have h2 := dd_pyL r
    simp only [Box.pyL, ddL, Box.depthL]
    omega
end

/-! isinstance -/
theorem ty_lst {a : Addr} {xs : List V} (h : SqL K H a xs) : TyX K H (.ref a) (.type "list") := by
  rcases h with (h | ⟨o, h⟩) | ⟨o, its, n, h, c, _⟩
  · exact .base (.lst h)
  · exact .base (.frz h)
  · exact .kList h c
theorem ty_tup {a : Addr} {xs : List V} (h : SqT K H a xs) : TyX K H (.ref a) (.type "tuple") := by
  rcases h with (h | ⟨o, h⟩) | ⟨o, its, n, h, c, _⟩
  · exact .base (.tup h)
  · exact .fTuple h
  · exact .kTuple h c
/-- the name of the type of a piece of data -/
def tyn : PyData → String
  | .none => "NoneType"
  | .bool _ => "bool"
  | .int _ => "int"
  | .str _ => "str"
  | .list _ => "list"
  | .tuple _ => "tuple"
  | .dict _ => "dict"
theorem Dp.ty {v : V} {d : PyData} (h : Dp K H v d) : TyX K H v (.type (tyn d)) := by
  cases h with
  | non => exact .base .non
  | bl b => exact .base (.bl b)
  | int i => exact .base (.int i)
  | str x => exact .base (.str x)
  | lst h1 h2 => exact ty_lst h1
  | tup h1 h2 => exact ty_tup h1
end
section
variable {K : PySem.W.Frag}
def nN (n t : String) : Bool := n == t || (n == "int" && t == "bool")
theorem kb_all : ∀ t ∈ ["NoneType", "bool", "int", "str", "list", "tuple"], ∀ n ∈ ["list", "tuple", "bool", "str", "int"], kitB t n = some (nN n t) := by decide +kernel
theorem tyn_mem {d : PyData} (h : tyn d ≠ "dict") : tyn d ∈ ["NoneType", "bool", "int", "str", "list", "tuple"] := by
  cases d <;> first | exact absurd rfl h | simp [tyn]
def isLi : PyData → Bool
  | .list _ => true
  | _ => false
def isTu : PyData → Bool
  | .tuple _ => true
  | _ => false
def isBo : PyData → Bool
  | .bool _ => true
  | _ => false
def isSt : PyData → Bool
  | .str _ => true
  | _ => false
def isIn : PyData → Bool
  | .int _ => true
  | .bool _ => true
  | _ => false
theorem kit_li {d : PyData} (h : tyn d ≠ "dict") : PySem.W.kitOne K (.type (tyn d)) (.type "list") = some (isLi d) := by
  have q := kb_all _ (tyn_mem h) "list" (by simp)
  have e : nN "list" (tyn d) = isLi d := by cases d <;> rfl
  rw [e] at q
  exact kit_ty q
theorem kit_tu {d : PyData} (h : tyn d ≠ "dict") : PySem.W.kitOne K (.type (tyn d)) (.type "tuple") = some (isTu d) := by
  have q := kb_all _ (tyn_mem h) "tuple" (by simp)
  have e : nN "tuple" (tyn d) = isTu d := by cases d <;> rfl
  rw [e] at q
  exact kit_ty q
theorem kit_bo {d : PyData} (h : tyn d ≠ "dict") : PySem.W.kitOne K (.type (tyn d)) (.type "bool") = some (isBo d) := by
  have q := kb_all _ (tyn_mem h) "bool" (by simp)
  have e : nN "bool" (tyn d) = isBo d := by cases d <;> rfl
  rw [e] at q
  exact kit_ty q
theorem kit_st {d : PyData} (h : tyn d ≠ "dict") : PySem.W.kitOne K (.type (tyn d)) (.type "str") = some (isSt d) := by
  have q := kb_all _ (tyn_mem h) "str" (by simp)
  have e : nN "str" (tyn d) = isSt d := by cases d <;> rfl
  rw [e] at q
  exact kit_ty q
theorem kit_in {d : PyData} (h : tyn d ≠ "dict") : PySem.W.kitOne K (.type (tyn d)) (.type "int") = some (isIn d) := by
  have q := kb_all _ (tyn_mem h) "int" (by simp)
  have e : nN "int" (tyn d) = isIn d := by cases d <;> rfl
  rw [e] at q
  exact kit_ty q
theorem kit_seq {d : PyData} (h : tyn d ≠ "dict") : PySem.W.kitAny K (.type (tyn d)) [.type "list", .type "tuple"] = some (isLi d || isTu d) :=
  kitAny_cons (kit_li h) (fun e => kitAny_cons (kit_tu h) (fun e2 => by rw [e, e2]; exact kitAny_nil) (fun e2 => by rw [e2, Bool.or_true])) (fun e => by rw [e, Bool.true_or])
theorem kit_di : PySem.W.kitOne K (.type "dict") (.type "dict") = some true := kit_ty (by decide +kernel)
theorem Dp.nodict {H : Hp} {v : V} {d : PyData} (h : Dp K H v d) : tyn d ≠ "dict" := by
  cases h <;> simp [tyn]
theorem cls2 : Paired ClsV [V.ty "list", V.ty "tuple"] [Value.type "list", Value.type "tuple"] := .cons (.ty _) (.cons (.ty _) .nil)
end
end AF
namespace AF
open PySem PySem.Spec PyProof.Rows L2
/-! how wide data is -/
mutual
def wd : PyData → Nat
  | .list ds => max ds.length (wdL ds)
  | .tuple ds => max ds.length (wdL ds)
  | _ => 0
def wdL : List PyData → Nat
  | [] => 0
  | d :: r => max (wd d) (wdL r)
end
theorem wdL_mem : ∀ {l : List PyData} {d : PyData}, d ∈ l → wd d ≤ wdL l
  | c :: r, d, h => by
    rcases List.mem_cons.mp h with e | h
    · subst e
      simp only [wdL]
      omega
    · have := wdL_mem h
      simp only [wdL]
      omega
theorem wdL_ints : ∀ ns : List Int, wdL (ns.map PyData.int) = 0
  | [] => by simp [wdL]
  | n :: r => by simp [wdL, wd, wdL_ints r]
theorem sl1000 : 1000 < sizeLine := by decide
end AF
/-! Sums of heights, ranges, dicts from ints to ints. -/
namespace AF
open PySem PySem.Spec PyProof.Rows L2
namespace Box
def sumH (l : List Box) : Int := (l.map ht).sum
def placesFrom (z : Int) : List Box → List Int
  | [] => []
  | b :: r => z :: placesFrom (z + b.ht) r
def rng (b : Box) : Int := if sumH b.parts - b.ht > 0 then sumH b.parts - b.ht else 0
theorem placesFrom_len (z : Int) : ∀ l : List Box, (placesFrom z l).length = l.length
  | [] => rfl
  | b :: r => by
    show (placesFrom (z + b.ht) r).length + 1 = r.length + 1
    rw [placesFrom_len]
theorem sumH_cons (b : Box) (r : List Box) : sumH (b :: r) = b.ht + sumH r := by
  simp [sumH]
theorem sumH_append (a b : List Box) : sumH (a ++ b) = sumH a + sumH b := by
  simp [sumH]
theorem sumH_take_succ {l : List Box} {i : Nat} {b : Box} (h : l[i]? = some b) : sumH (l.take (i + 1)) = sumH (l.take i) + b.ht := by
  rw [List.take_add_one, h, sumH_append]
  simp [sumH]
theorem placesFrom_get (z : Int) : ∀ (l : List Box) (i : Nat), i < l.length → (placesFrom z l)[i]? = some (z + sumH (l.take i))
  | b :: r, 0, _ => by simp [placesFrom, sumH]
  | b :: r, i + 1, h => by
    have ih := placesFrom_get (z + b.ht) r i (by simpa using h)
    show (placesFrom (z + b.ht) r)[i]? = _
    rw [ih, List.take_succ_cons, sumH_cons]
    exact congrArg some (by omega)
theorem placesFrom_take {l : List Box} {i : Nat} (h : i < l.length) : (placesFrom 0 l).take (i + 1) = (placesFrom 0 l).take i ++ [sumH (l.take i)] := by
  rw [List.take_add_one, placesFrom_get 0 l i h]
  show _ ++ [0 + sumH (l.take i)] = _
  rw [Int.zero_add]
end Box

/-! dicts of ints -/
def dI (l : List (Int × Int)) : List (Key × V) := l.map fun p => (Sum.inl p.1, V.int p.2)
def getI (l : List (Int × Int)) (n : Int) : Option Int := (l.find? fun p => decide (p.1 = n)).map (·.2)
def putI (l : List (Int × Int)) (n z : Int) : List (Int × Int) := if (l.any fun p => decide (p.1 = n)) = true then l.map (fun p => if p.1 = n then (p.1, z) else p) else l ++ [(n, z)]
theorem dI_len (l : List (Int × Int)) : (dI l).length = l.length := List.length_map _
theorem inl_iff {a b : Int} : ((Sum.inl a : Key) = Sum.inl b) ↔ a = b := ⟨fun h => Sum.inl.inj h, fun h => by rw [h]⟩
theorem valV_dI (n : Int) : ∀ l : List (Int × Int), valV (dI l) (Sum.inl n : Key) = (getI l n).map V.int
  | [] => rfl
  | p :: r => by
    have ih := valV_dI n r
    by_cases e : p.1 = n
    · have h1 : valV (dI (p :: r)) (Sum.inl n : Key) = some (V.int p.2) := valV_pos (p := ((Sum.inl p.1 : Key), V.int p.2)) (by rw [e])
      rw [h1]
      simp [getI, List.find?_cons, e]
    · have h1 : valV (dI (p :: r)) (Sum.inl n : Key) = valV (dI r) (Sum.inl n : Key) := valV_neg (p := ((Sum.inl p.1 : Key), V.int p.2)) (fun z => e (inl_iff.mp z))
      rw [h1, ih]
      simp [getI, List.find?_cons, e]
theorem any_dI (n : Int) (l : List (Int × Int)) : ((dI l).any fun kv => decide (kv.1 = (Sum.inl n : Key))) = (l.any fun p => decide (p.1 = n)) := by
  induction l with
  | nil => rfl
  | cons p r ih =>
    have h : decide ((Sum.inl p.1 : Key) = Sum.inl n) = decide (p.1 = n) := decide_eq_decide.mpr inl_iff
    show (decide ((Sum.inl p.1 : Key) = Sum.inl n) || (dI r).any _) = (decide (p.1 = n) || r.any _)
    rw [h, ih]
theorem map_dI (n z : Int) (l : List (Int × Int)) : ((dI l).map fun kv => if kv.1 = (Sum.inl n : Key) then (kv.1, V.int z) else kv) = dI (l.map fun p => if p.1 = n then (p.1, z) else p) := by
  induction l with
  | nil => rfl
  | cons p r ih =>
    show (if (Sum.inl p.1 : Key) = Sum.inl n then ((Sum.inl p.1 : Key), V.int z) else (Sum.inl p.1, V.int p.2)) :: (dI r).map _ = dI ((if p.1 = n then (p.1, z) else p) :: _)
    rw [ih]
    by_cases e : p.1 = n
    · rw [if_pos (inl_iff.mpr e), if_pos e]
      rfl
    · rw [if_neg (fun q => e (inl_iff.mp q)), if_neg e]
      rfl
theorem putK_dI (l : List (Int × Int)) (n z : Int) : putK (dI l) (Sum.inl n : Key) (V.int z) = dI (putI l n z) := by
  unfold putK putI
  rw [any_dI]
  by_cases h : (l.any fun p => decide (p.1 = n)) = true
  · rw [if_pos h, if_pos h, map_dI]
  · rw [if_neg h, if_neg h]
    simp [dI]
theorem getI_nil (n : Int) : getI [] n = none := rfl
theorem getI_cons (p : Int × Int) (r : List (Int × Int)) (n : Int) : getI (p :: r) n = if p.1 = n then some p.2 else getI r n := by
  by_cases e : p.1 = n <;> simp [getI, List.find?_cons, e]
theorem getI_none {l : List (Int × Int)} {n : Int} : getI l n = none ↔ n ∉ l.map (·.1) := by
  induction l with
  | nil => simp [getI_nil]
  | cons p r ih =>
    rw [getI_cons, List.map_cons, List.mem_cons]
    by_cases e : p.1 = n
    · rw [if_pos e]
      simp [e]
    · rw [if_neg e, ih]
      constructor
      · intro h z
        rcases z with z | z
        · exact e z.symm
        · exact h z
      · intro h z
        exact h (.inr z)
theorem putI_new {l : List (Int × Int)} {n z : Int} (h : n ∉ l.map (·.1)) : putI l n z = l ++ [(n, z)] := by
  unfold putI
  rw [if_neg]
  intro q
  obtain ⟨p, hp, e⟩ := List.any_eq_true.mp q
  exact h (List.mem_map.mpr ⟨p, hp, of_decide_eq_true e⟩)
theorem putI_len (l : List (Int × Int)) (n z : Int) : (putI l n z).length ≤ l.length + 1 := by
  unfold putI
  split
  · rw [List.length_map]
    omega
  · rw [List.length_append]
    exact Nat.le_refl _
theorem getI_append (a b : List (Int × Int)) (n : Int) : getI (a ++ b) n = (getI a n).or (getI b n) := by
  induction a with
  | nil => rfl
  | cons p r ih =>
    rw [List.cons_append, getI_cons, getI_cons, ih]
    by_cases e : p.1 = n
    · rw [if_pos e, if_pos e]
      rfl
    · rw [if_neg e, if_neg e]
theorem getI_put (l : List (Int × Int)) (n z m : Int) : getI (putI l n z) m = if n = m then some z else getI l m := by
  by_cases h : (l.any fun p => decide (p.1 = n)) = true
  · unfold putI
    rw [if_pos h]
    revert h
    induction l with
    | nil => intro h; cases h
    | cons p r ih =>
      intro h
      rw [List.map_cons, getI_cons, getI_cons]
      by_cases e : p.1 = n
      · rw [if_pos e]
        show (if p.1 = m then some z else _) = _
        by_cases e2 : n = m
        · rw [if_pos (e.trans e2), if_pos e2]
        · rw [if_neg (fun q => e2 (e.symm.trans q)), if_neg e2, if_neg (fun q => e2 (e.symm.trans q))]
          have key : ∀ l : List (Int × Int), getI (l.map fun p => if p.1 = n then (p.1, z) else p) m = getI l m := by
            intro l
            induction l with
            | nil => rfl
            | cons q r ih =>
              rw [List.map_cons, getI_cons, getI_cons, ih]
              by_cases eq : q.1 = n
              · rw [if_pos eq]
                show (if q.1 = m then some z else _) = _
                rw [if_neg (fun w => e2 (eq.symm.trans w)), if_neg (fun w => e2 (eq.symm.trans w))]
              · rw [if_neg eq]
          exact key r
      · rw [if_neg e]
        have h' : (r.any fun p => decide (p.1 = n)) = true := by
          rw [List.any_cons] at h
          simpa [e] using h
        rw [ih h']
        by_cases e3 : p.1 = m
        · rw [if_pos e3, if_pos e3]
          by_cases e2 : n = m
          · exact absurd (e3.trans e2.symm) e
          · rw [if_neg e2]
        · rw [if_neg e3, if_neg e3]
  · have hn : n ∉ l.map (·.1) := by
      intro q
      obtain ⟨p, hp, e⟩ := List.mem_map.mp q
      exact h (List.any_eq_true.mpr ⟨p, hp, decide_eq_true e⟩)
    rw [putI_new hn, getI_append]
    by_cases e : n = m
    · subst e
      rw [if_pos rfl, getI_none.mpr hn, getI_cons, if_pos rfl]
      rfl
    · rw [if_neg e, getI_cons, if_neg e, getI_nil]
      cases getI l m <;> rfl
end AF
namespace AF
open PySem PySem.Spec PyProof.Rows L2
namespace Box
mutual
theorem pre_mem_len : ∀ (b : Box) (c : Box), c ∈ b.pre → c.pre.length ≤ b.pre.length
  | .blk n h, c, m => by
    have e : c = .blk n h := by simpa [pre] using m
    rw [e]
    exact Nat.le_refl _
  | .scr n h ps, c, m => by
    have m : c = .scr n h ps ∨ c ∈ preL ps := by simpa [pre] using m
    rcases m with e | m
    · rw [e]
      exact Nat.le_refl _
    · have := preL_mem_len ps c m
      simp only [pre, List.length_cons]
      omega
theorem preL_mem_len : ∀ (l : List Box) (c : Box), c ∈ preL l → c.pre.length ≤ (preL l).length
  | [], c, m => by simp [preL] at m
  | b :: r, c, m => by
    have m : c ∈ b.pre ∨ c ∈ preL r := by simpa [preL] using m
    simp only [preL, List.length_append]
    rcases m with m | m
    · have := pre_mem_len b c m
      omega
    · have := preL_mem_len r c m
      omega
end
theorem parts_le (b : Box) : b.parts.length + 1 ≤ b.pre.length := by
  have := preL_ge b.parts
  rw [pre_eq, List.length_cons]
  omega
/-- brought into the range -/
def clamp (b : Box) (w : Int) : Int := if (if b.rng < w then b.rng else w) > 0 then (if b.rng < w then b.rng else w) else 0
/-- the fitted offsets of the scrollers among l -/
def fitI (ofs : List (Int × Int)) (l : List Box) : List (Int × Int) := (l.filter isS).map fun s => (s.num, s.clamp ((getI ofs s.num).getD 0))
theorem fitI_len (ofs : List (Int × Int)) (l : List Box) : (fitI ofs l).length ≤ l.length := by
  unfold fitI
  rw [List.length_map]
  exact List.length_filter_le _ _
theorem fitI_key {ofs : List (Int × Int)} {l : List Box} {n : Int} (h : n ∈ (fitI ofs l).map (·.1)) : n ∈ l.map num := by
  unfold fitI at h
  rw [List.map_map] at h
  obtain ⟨s, hs, e⟩ := List.mem_map.mp h
  exact List.mem_map.mpr ⟨s, (List.mem_filter.mp hs).1, e⟩
theorem fitI_succ {ofs : List (Int × Int)} {l : List Box} {i : Nat} {c : Box} (h : l[i]? = some c) :
    fitI ofs (l.take (i + 1)) = fitI ofs (l.take i) ++ (if c.isS = true then [(c.num, c.clamp ((getI ofs c.num).getD 0))] else []) := by
  rw [List.take_add_one, h]
  unfold fitI
  show List.map _ (List.filter isS (l.take i ++ [c])) = _
  rw [List.filter_append, List.map_append]
  congr 1
  by_cases e : c.isS = true
  · rw [if_pos e]
    simp [e]
  · rw [if_neg e]
    simp [e]
theorem nodup_take {l : List Box} (hn : (l.map num).Nodup) {i : Nat} {c : Box} (h : l[i]? = some c) : c.num ∉ (l.take i).map num := by
  intro m
  have e : (l.map num).take i = (l.take i).map num := List.map_take.symm
  rw [← e] at m
  obtain ⟨j, hj, e2⟩ := List.mem_take_iff_getElem.mp m
  have hi : (l.map num)[i]? = some c.num := by
    rw [List.getElem?_map, h]
    rfl
  have hj2 : (l.map num)[j]? = some c.num := by
    rw [List.getElem?_eq_getElem (by omega), e2]
  have := nd_ix hn hi hj2
  omega
end Box
theorem DGet.dI {H : Hp} {a : Addr} {l : List (Int × Int)} {n : Int} (e : H a = some (.dK (dI l))) : DGet H a (.int n) ((getI l n).map V.int) := by
  have h := DGet.k (k := (Sum.inl n : Key)) e
  rw [valV_dI] at h
  exact h
theorem DPut.dI {H : Hp} {a : Addr} {l : List (Int × Int)} {n z : Int} (e : H a = some (.dK (dI l))) (hl : l.length < sizeLine) : DPut H a (.int n) (.int z) (upd H a (.dK (AF.dI (putI l n z)))) := by
  have h := DPut.k (k := (Sum.inl n : Key)) (v := .int z) e (by rw [dI_len]; exact hl)
  rw [putK_dI] at h
  exact h
theorem getD_int (o : Option Int) (z : Int) : (o.map V.int).getD (V.int z) = V.int (o.getD z) := by cases o <;> rfl
end AF
namespace AF
open PySem PySem.Spec PyProof.Rows L2
/-- the state of the law's draws -/
def DrawAt (H : Hp) (d l : Addr) : Prop := ∃ (ns : List Int) (i r z : Int), H d = some (.lst [.ref l, .int i, .int r, .int z]) ∧ H l = some (.lst (ns.map V.int)) ∧ 0 ≤ i ∧ l ≠ d
theorem But.keepT {H H' : Hp} {d : Addr} {xs : List V} (b : But [d] H H') (h : H d = some (.lst xs)) : KeepT H H' := fun a ys e =>
  b a _ (fun m => by
    have q : a = d := by simpa using m
    subst q
    rw [h] at e
    cases e) e
theorem But.at {H H' : Hp} {l : List Addr} {b : Addr} {o : HO} (k : But l H H') (n : b ∉ l) (h : H b = some o) : H' b = some o := k b o n h
theorem but_one {H H' : Hp} {d a : Addr} {o : HO} (k : But [d] H H') (h : H a = some o) (n : a ≠ d) : H' a = some o := k a o (by simpa using n) h
theorem DrawAt.lst {H : Hp} {d l : Addr} (h : DrawAt H d l) : ∃ xs, H d = some (.lst xs) := by
  obtain ⟨ns, i, r, z, e, _⟩ := h
  exact ⟨_, e⟩
theorem DrawAt.lst2 {H : Hp} {d l : Addr} (h : DrawAt H d l) : ∃ ns : List Int, H l = some (.lst (ns.map V.int)) := by
  obtain ⟨ns, i, r, z, _, e, _⟩ := h
  exact ⟨_, e⟩
theorem DrawAt.ne {H : Hp} {d l : Addr} (h : DrawAt H d l) : l ≠ d := by
  obtain ⟨ns, i, r, z, _, _, _, n⟩ := h
  exact n
theorem DrawAt.same {H H' : Hp} {d l : Addr} (h : DrawAt H d l) (k : Same H H') : DrawAt H' d l := by
  obtain ⟨ns, i, r, z, e, e2, h0, n⟩ := h
  exact ⟨ns, i, r, z, k _ _ e, k _ _ e2, h0, n⟩
/-- where d and l stand -/
theorem DrawAt.but {H H' : Hp} {d l : Addr} {x : List Addr} (h : DrawAt H d l) (k : But x H H') (h1 : d ∉ x) (h2 : l ∉ x) : DrawAt H' d l := by
  obtain ⟨ns, i, r, z, e, e2, h0, n⟩ := h
  exact ⟨ns, i, r, z, k _ _ h1 e, k _ _ h2 e2, h0, n⟩
theorem fmod_lo {a m : Int} (h : 0 < m) : 0 ≤ a % m := Int.emod_nonneg a (by omega)
theorem fmod_hi {a m : Int} (h : 0 < m) : a % m < m := Int.emod_lt_of_pos a h
end AF
namespace AF
open PySem PySem.Spec PyProof.Rows L2
/-- a dict locked while it is walked -/
def lockH (H : Hp) (c : Addr) (od : Obj) (kvs : List (Key × V)) : Hp := upd H c (.frz od (.dK kvs))
abbrev KeepL (H H' : Hp) : Prop := Same H H'
theorem keepS_lock {H : Hp} {c : Addr} {od : Obj} {kvs : List (Key × V)} (h : H c = some (.dK kvs)) : KeepS H (lockH H c od kvs) := fun b o hb e => by
  unfold lockH
  by_cases hbc : b = c
  · subst hbc
    rw [h] at e
    cases e
    cases hb
  · rw [upd_ne hbc]
    exact e
theorem lock_back {H H' : Hp} {c : Addr} {od : Obj} {kvs : List (Key × V)} (h : H c = some (.dK kvs)) (s : Same (lockH H c od kvs) H') : Same H (upd H' c (.dK kvs)) := fun b o e => by
  by_cases hbc : b = c
  · subst hbc
    rw [upd_same, ← h, e]
  · rw [upd_ne hbc]
    refine s b o ?_
    unfold lockH
    rw [upd_ne hbc]
    exact e
theorem canLay_ints : ∀ ns : List Int, PyData.canLayAll0 (ns.map PyData.int) = true
  | [] => by simp [PyData.canLayAll0]
  | n :: r => by simp [PyData.canLayAll0, PyData.canLay0, canLay_ints r]
theorem depth_ints : ∀ ns : List Int, PyData.depthAll (ns.map PyData.int) ≤ 1
  | [] => by simp [PyData.depthAll]
  | n :: r => by
    have := depth_ints r
    simp only [List.map_cons, PyData.depthAll, PyData.depth]
    omega
theorem shaped_ints (ns : List Int) : SeqAt.shaped (.list (ns.map PyData.int)) = true := by
  have h1 := canLay_ints ns
  have h2 := depth_ints ns
  show (PyData.canLay0 (.list (ns.map PyData.int)) && decide (PyData.depth (.list (ns.map PyData.int)) ≤ 64)) = true
  rw [Bool.and_eq_true]
  refine ⟨by simp only [PyData.canLay0]; exact h1, decide_eq_true ?_⟩
  simp only [PyData.depth]
  omega
end AF
namespace AF
open PySem PySem.Spec PyProof.Rows L2
theorem putI_mem {l : List (Int × Int)} {n z k : Int} (h : k ∈ (putI l n z).map (·.1)) : k ∈ l.map (·.1) ∨ k = n := by
  unfold putI at h
  split at h
  · left
    obtain ⟨p, hp, e⟩ := List.mem_map.mp h
    obtain ⟨q, hq, e2⟩ := List.mem_map.mp hp
    refine List.mem_map.mpr ⟨q, hq, ?_⟩
    by_cases c : q.1 = n
    · rw [if_pos c] at e2
      rw [← e, ← e2]
    · rw [if_neg c] at e2
      rw [← e, ← e2]
  · rw [List.map_append] at h
    rcases List.mem_append.mp h with h | h
    · exact .inl h
    · exact .inr (by simpa using h)
theorem putI_keys {l : List (Int × Int)} {n z : Int} (h : (l.any fun p => decide (p.1 = n)) = true) : (putI l n z).map (·.1) = l.map (·.1) := by
  unfold putI
  rw [if_pos h, List.map_map]
  refine List.map_congr_left fun p _ => ?_
  show (if p.1 = n then (p.1, z) else p).1 = p.1
  by_cases c : p.1 = n
  · rw [if_pos c]
  · rw [if_neg c]
theorem putI_nodup {l : List (Int × Int)} {n z : Int} (h : (l.map (·.1)).Nodup) : ((putI l n z).map (·.1)).Nodup := by
  by_cases c : (l.any fun p => decide (p.1 = n)) = true
  · rw [putI_keys c]
    exact h
  · have hn : n ∉ l.map (·.1) := by
      intro q
      obtain ⟨p, hp, e⟩ := List.mem_map.mp q
      exact c (List.any_eq_true.mpr ⟨p, hp, decide_eq_true e⟩)
    rw [putI_new hn, List.map_append]
    exact nd_snoc h hn
theorem getI_self {l : List (Int × Int)} (h : (l.map (·.1)).Nodup) {p : Int × Int} (hp : p ∈ l) : getI l p.1 = some p.2 := by
  induction l with
  | nil => cases hp
  | cons q r ih =>
    rw [List.map_cons] at h
    obtain ⟨h1, h2⟩ := List.nodup_cons.mp h
    rw [getI_cons]
    rcases List.mem_cons.mp hp with rfl | hp
    · rw [if_pos rfl]
    · rw [if_neg (fun e => h1 (List.mem_map.mpr ⟨p, hp, e.symm⟩)), ih h2 hp]
/-- each pair of such a dict is found by its key -/
theorem dI_self {l : List (Int × Int)} (h : (l.map (·.1)).Nodup) {p : Key × V} (hp : p ∈ dI l) : ∃ q ∈ l, p = (Sum.inl q.1, V.int q.2) ∧ valV (dI l) p.1 = some p.2 := by
  unfold dI at hp
  obtain ⟨q, hq, rfl⟩ := List.mem_map.mp hp
  refine ⟨q, hq, rfl, ?_⟩
  show valV (dI l) (Sum.inl q.1 : Key) = some (V.int q.2)
  rw [valV_dI, getI_self h hq]
  rfl
theorem dI_keys (l : List (Int × Int)) : (dI l).map (·.1) = (l.map (·.1)).map Sum.inl := by
  unfold dI
  rw [List.map_map, List.map_map]
  rfl
namespace Box
theorem fitI_keys (ofs : List (Int × Int)) (l : List Box) : (fitI ofs l).map (·.1) = (l.filter isS).map num := by
  unfold fitI
  rw [List.map_map]
  rfl
theorem fitI_nodup {ofs : List (Int × Int)} {l : List Box} (h : (l.map num).Nodup) : ((fitI ofs l).map (·.1)).Nodup := by
  rw [fitI_keys]
  exact h.sublist (List.filter_sublist.map num)
theorem fitI_congr {o1 o2 : List (Int × Int)} {l : List Box} (h : ∀ c ∈ l, getI o1 c.num = getI o2 c.num) : fitI o1 l = fitI o2 l := by
  unfold fitI
  refine List.map_congr_left fun s hs => ?_
  rw [h s (List.mem_filter.mp hs).1]
theorem rng_nonneg (b : Box) : 0 ≤ b.rng := by
  unfold rng
  split <;> omega
theorem clamp_zero (b : Box) : b.clamp 0 = 0 := by
  have := rng_nonneg b
  unfold clamp
  rw [if_neg (show ¬ b.rng < 0 by omega)]
  rfl
theorem fitI_zero (ofs : List (Int × Int)) (l : List Box) : (fitI ofs l).map (fun p => (p.1, (0 : Int))) = fitI [] l := by
  unfold fitI
  rw [List.map_map]
  refine List.map_congr_left fun s _ => ?_
  show (s.num, (0 : Int)) = (s.num, s.clamp ((getI [] s.num).getD 0))
  rw [getI_nil]
  show (s.num, (0 : Int)) = (s.num, s.clamp 0)
  rw [clamp_zero]
end Box
end AF
/-! The documents that the laws draw. -/
namespace AF
open PySem PySem.Spec PyProof.Rows L2
namespace Box
/-- how many boxes a drawn box of depth n has at most -/
def most : Nat → Nat
  | 0 => 1
  | n + 1 => 1 + 2 * most n
/-- drawn siblings: their numbers rise from above lo to hi -/
structure Good (n : Nat) (lo hi : Int) (bs : List Box) : Prop where
  asc : ((preL bs).map num).Pairwise (· < ·)
  low : ∀ c ∈ preL bs, lo < c.num
  top : ∀ c ∈ preL bs, c.num ≤ hi
  le : lo ≤ hi
  hts : ∀ c ∈ preL bs, 0 ≤ c.ht ∧ c.ht ≤ 8
  dep : depthL bs ≤ n
  few : hi ≤ lo + 3 * (preL bs).length
  cnt : (preL bs).length ≤ bs.length * most n
  two : ∀ c ∈ preL bs, c.parts.length ≤ 2
theorem Good.nil (n : Nat) (lo : Int) : Good n lo lo [] := by
  refine ⟨?_, ?_, ?_, Int.le_refl _, ?_, ?_, ?_, ?_, ?_⟩ <;> simp [preL, depthL]
theorem depthL_append : ∀ a b : List Box, depthL (a ++ b) = max (depthL a) (depthL b)
  | [], b => by simp [depthL]
  | x :: a, b => by
    have := depthL_append a b
    simp only [List.cons_append, depthL, this]
    omega
theorem Good.append {n : Nat} {lo mid hi : Int} {xs ys : List Box} (a : Good n lo mid xs) (b : Good n mid hi ys) : Good n lo hi (xs ++ ys) := by
  have e := preL_append xs ys
  refine ⟨?_, ?_, ?_, Int.le_trans a.le b.le, ?_, ?_, ?_, ?_, ?_⟩
  · rw [e, List.map_append]
    refine List.pairwise_append.mpr ⟨a.asc, b.asc, fun x hx y hy => ?_⟩
    obtain ⟨c, hc, rfl⟩ := List.mem_map.mp hx
    obtain ⟨d, hd, rfl⟩ := List.mem_map.mp hy
    exact Int.lt_of_le_of_lt (a.top c hc) (b.low d hd)
  · intro c hc
    rw [e] at hc
    rcases List.mem_append.mp hc with h | h
    · exact a.low c h
    · exact Int.lt_of_le_of_lt a.le (b.low c h)
  · intro c hc
    rw [e] at hc
    rcases List.mem_append.mp hc with h | h
    · exact Int.le_trans (a.top c h) b.le
    · exact b.top c h
  · intro c hc
    rw [e] at hc
    rcases List.mem_append.mp hc with h | h
    · exact a.hts c h
    · exact b.hts c h
  · rw [depthL_append]
    have := a.dep
    have := b.dep
    omega
  · rw [e, List.length_append]
    have := a.few
    have := b.few
    omega
  · rw [e, List.length_append, List.length_append, Nat.add_mul]
    have := a.cnt
    have := b.cnt
    omega
  · intro c hc
    rw [e] at hc
    rcases List.mem_append.mp hc with h | h
    · exact a.two c h
    · exact b.two c h
theorem Good.blk {n : Nat} {lo m h : Int} (h1 : lo < m) (h2 : m ≤ lo + 3) (h3 : 0 ≤ h) (h4 : h ≤ 8) : Good n lo m [.blk m h] := by
  have e : preL [.blk m h] = [.blk m h] := by simp [preL, pre]
  have hm : 1 ≤ most n := by
    cases n with
    | zero => exact Nat.le_refl _
    | succ n =>
      simp only [most]
      omega
  refine ⟨?_, ?_, ?_, Int.le_of_lt h1, ?_, ?_, ?_, ?_, ?_⟩
  · simp [e]
  · intro c hc
    rw [e] at hc
    rw [List.mem_singleton.mp hc]
    exact h1
  · intro c hc
    rw [e] at hc
    rw [List.mem_singleton.mp hc]
    exact Int.le_refl _
  · intro c hc
    rw [e] at hc
    rw [List.mem_singleton.mp hc]
    exact ⟨h3, h4⟩
  · simp [depthL, depth]
  · rw [e, List.length_singleton]
    omega
  · rw [e, List.length_singleton]
    omega
  · intro c hc
    rw [e] at hc
    rw [List.mem_singleton.mp hc]
    exact Nat.zero_le _
theorem Good.scr {n : Nat} {lo m hi h : Int} {ps : List Box} (g : Good n m hi ps) (h1 : lo < m) (h2 : m ≤ lo + 3) (h3 : 0 ≤ h) (h4 : h ≤ 8) (h5 : ps.length ≤ 2) : Good (n + 1) lo hi [.scr m h ps] := by
  have e : preL [.scr m h ps] = .scr m h ps :: preL ps := by simp [preL, pre]
  refine ⟨?_, ?_, ?_, by have := g.le; omega, ?_, ?_, ?_, ?_, ?_⟩
  · rw [e, List.map_cons]
    refine List.pairwise_cons.mpr ⟨fun x hx => ?_, g.asc⟩
    obtain ⟨c, hc, rfl⟩ := List.mem_map.mp hx
    exact g.low c hc
  · intro c hc
    rw [e] at hc
    rcases List.mem_cons.mp hc with rfl | hc
    · exact h1
    · have := g.low c hc
      omega
  · intro c hc
    rw [e] at hc
    rcases List.mem_cons.mp hc with rfl | hc
    · exact g.le
    · exact g.top c hc
  · intro c hc
    rw [e] at hc
    rcases List.mem_cons.mp hc with rfl | hc
    · exact ⟨h3, h4⟩
    · exact g.hts c hc
  · have := g.dep
    simp only [depthL, depth]
    omega
  · rw [e, List.length_cons]
    have := g.few
    omega
  · rw [e, List.length_cons, List.length_singleton]
    have h6 := g.cnt
    have h7 : ps.length * most n ≤ 2 * most n := Nat.mul_le_mul_right _ h5
    simp only [most]
    omega
  · intro c hc
    rw [e] at hc
    rcases List.mem_cons.mp hc with rfl | hc
    · exact h5
    · exact g.two c hc
theorem Good.up {n : Nat} {lo hi : Int} {bs : List Box} (g : Good n lo hi bs) : Good (n + 1) lo hi bs := by
  refine ⟨g.asc, g.low, g.top, g.le, g.hts, Nat.le_succ_of_le g.dep, g.few, Nat.le_trans g.cnt (Nat.mul_le_mul_left _ ?_), g.two⟩
  simp only [most]
  omega
theorem Good.mono {n k : Nat} {lo hi : Int} {bs : List Box} (g : Good n lo hi bs) (h : n ≤ k) : Good k lo hi bs := by
  induction h with
  | refl => exact g
  | step _ ih => exact ih.up
/-- a drawn document -/
structure Doc (b : Box) : Prop where
  ex : ∃ (n h hi : Int) (ps : List Box), b = .scr n h ps ∧ 1 ≤ n ∧ n ≤ 5 ∧ 0 ≤ h ∧ h ≤ 20 ∧ Good 2 n hi ps ∧ ps.length ≤ 4
theorem Doc.len {b : Box} (d : Doc b) : b.pre.length ≤ 29 := by
  obtain ⟨n, h, hi, ps, rfl, _, _, _, _, g, l⟩ := d.ex
  have h1 := g.cnt
  have h2 : most 2 = 7 := rfl
  rw [h2] at h1
  simp only [pre, List.length_cons]
  omega
theorem Doc.asc {b : Box} (d : Doc b) : (b.pre.map num).Pairwise (· < ·) := by
  obtain ⟨n, h, hi, ps, rfl, _, _, _, _, g, l⟩ := d.ex
  simp only [pre, List.map_cons]
  refine List.pairwise_cons.mpr ⟨fun x hx => ?_, g.asc⟩
  obtain ⟨c, hc, rfl⟩ := List.mem_map.mp hx
  exact g.low c hc
theorem Doc.nodup {b : Box} (d : Doc b) : (b.pre.map num).Nodup := d.asc.imp fun h => Int.ne_of_lt h
theorem Doc.nums {b : Box} (d : Doc b) : ∀ c ∈ b.pre, 1 ≤ c.num ∧ c.num ≤ 89 := by
  obtain ⟨n, h, hi, ps, rfl, h1, h2, _, _, g, l⟩ := d.ex
  intro c hc
  have h3 := g.cnt
  have h4 : most 2 = 7 := rfl
  rw [h4] at h3
  have h5 := g.few
  have h6 := g.le
  simp only [pre] at hc
  rcases List.mem_cons.mp hc with rfl | hc
  · exact ⟨h1, by simp only [num]; omega⟩
  · have a1 := g.low c hc
    have a2 := g.top c hc
    omega
theorem Doc.hts {b : Box} (d : Doc b) : ∀ c ∈ b.pre, 0 ≤ c.ht ∧ c.ht ≤ 20 := by
  obtain ⟨n, h, hi, ps, rfl, _, _, h1, h2, g, l⟩ := d.ex
  intro c hc
  simp only [pre] at hc
  rcases List.mem_cons.mp hc with rfl | hc
  · exact ⟨h1, h2⟩
  · have := g.hts c hc
    omega
theorem Doc.dep {b : Box} (d : Doc b) : b.depth ≤ 3 := by
  obtain ⟨n, h, hi, ps, rfl, _, _, _, _, g, l⟩ := d.ex
  have := g.dep
  simp only [depth]
  omega
theorem Doc.isS {b : Box} (d : Doc b) : b.isS = true := by
  obtain ⟨n, h, hi, ps, rfl, _⟩ := d.ex
  rfl
theorem Doc.kids {b : Box} (d : Doc b) : ∀ c ∈ b.pre, c.parts.length ≤ 4 := by
  obtain ⟨n, h, hi, ps, rfl, _, _, _, _, g, l⟩ := d.ex
  intro c hc
  simp only [pre] at hc
  rcases List.mem_cons.mp hc with rfl | hc
  · exact l
  · have := g.two c hc
    omega
mutual
theorem pre_dep : ∀ (b c : Box), c ∈ b.pre → c.depth ≤ b.depth
  | .blk n h, c, m => by
    have e : c = .blk n h := by simpa [pre] using m
    rw [e]
    exact Nat.le_refl _
  | .scr n h ps, c, m => by
    have m : c = .scr n h ps ∨ c ∈ preL ps := by simpa [pre] using m
    rcases m with e | m
    · rw [e]
      exact Nat.le_refl _
    · have := preL_dep ps c m
      simp only [depth]
      omega
theorem preL_dep : ∀ (l : List Box) (c : Box), c ∈ preL l → c.depth ≤ depthL l
  | [], c, m => by simp [preL] at m
  | b :: r, c, m => by
    have m : c ∈ b.pre ∨ c ∈ preL r := by simpa [preL] using m
    simp only [depthL]
    rcases m with m | m
    · have := pre_dep b c m
      omega
    · have := preL_dep r c m
      omega
end
end Box
end AF
/-! Comprehensions with two fors, walked; len(set(xs)) of ints that may stand twice. -/
namespace AF
open PySem PySem.Spec PyProof.Rows L2
section
variable {J : It} {n : Nat} {G : Hp → Prop} {Y : Nat → Hp → V → Hp → Prop}
/-- the inner for of a comprehension: from the heap as it stands -/
theorem lc_in (w : Walk J n G Y) {g : TG} {tt : TT} {te : TE} {vs : List Nat} {σ : L2.St} {H0 : Hp} {D : Addr} {Qd : Hp → Prop} (Pv : Nat → Hp → Prop) (h0 : Pv 0 H0) (hG : ∀ i H, i ≤ n → Pv i H → G H)
    (hs : ∀ i x H H', i < n → Pv i H → Y i H x H' → g x (wipe σ vs) H' fun σ2 H2 => wipe σ2 vs = wipe σ vs ∧ tt σ2 H2 fun b H3 =>
      if b = true then te σ2 H3 fun y H4 => ∃ acc, H4 D = some (.lst acc) ∧ acc.length < sizeLine ∧ Pv (i + 1) (upd H4 D (.lst (acc ++ [y]))) else Pv (i + 1) H3) (hd : ∀ H, Pv n H → Qd H) :
    ∃ W : Nat → Nat → Hp → Prop, (∃ m, W 0 m H0) ∧ ∀ i m H, W i m H →
      (J.stop i H ∧ Qd H) ∨ (J.go i H ∧ ∃ Nx : Hp → Prop, (∀ H', Nx H' → ∃ m', m' < m ∧ W (i + 1) m' H') ∧ ∀ x H', J.yld i H x H' → g x (wipe σ vs) H' fun σ2 H2 => wipe σ2 vs = wipe σ vs ∧ tt σ2 H2 fun b H3 =>
        if b = true then te σ2 H3 fun y H4 => ∃ acc, H4 D = some (.lst acc) ∧ acc.length < sizeLine ∧ Nx (upd H4 D (.lst (acc ++ [y]))) else Nx H3) := by
  refine ⟨fun i m H => m = n - i ∧ i ≤ n ∧ Pv i H, ⟨n, by simp, Nat.zero_le _, h0⟩, ?_⟩
  rintro i m H ⟨rfl, hi, p⟩
  have q := hG i H hi p
  by_cases hlt : i < n
  · exact .inr ⟨w.goes i H hlt q, Pv (i + 1), fun H' p' => ⟨n - (i + 1), by omega, rfl, hlt, p'⟩, fun x H' y => hs i x H H' hlt p (w.yields i H x H' hlt q y)⟩
  · have e : i = n := by omega
    subst e
    exact .inl ⟨w.stops H q, hd H p⟩
/-- the outer for of a comprehension with two: what follows of the inner one is asked as it stands -/
theorem lc_out (w : Walk J n G Y) {g : TG} {tt : TT} {wi1 : TI} {g1 : TG} {tt1 : TT} {te : TE} {vs vs1 : List Nat} {σ : L2.St} {H1 : Hp} {D : Addr} {Qd : Hp → Prop} (Pv : Nat → Hp → Prop) (h0 : Pv 0 (upd H1 D (.lst []))) (hG : ∀ i H, i ≤ n → Pv i H → G H)
    (hs : ∀ i x H H', i < n → Pv i H → Y i H x H' → g x (wipe σ vs) H' fun σ2 H2 => wipe σ2 vs = wipe σ vs ∧ tt σ2 H2 fun b H3 =>
      if b = true then wi1 σ2 H3 fun J1 H4 => ∃ W1 : Nat → Nat → Hp → Prop, (∃ m, W1 0 m H4) ∧ ∀ j k H, W1 j k H →
        (J1.stop j H ∧ Pv (i + 1) H) ∨ (J1.go j H ∧ ∃ Nx1 : Hp → Prop, (∀ H', Nx1 H' → ∃ k', k' < k ∧ W1 (j + 1) k' H') ∧ ∀ x H', J1.yld j H x H' → g1 x (wipe σ2 vs1) H' fun σ3 H5 => wipe σ3 vs1 = wipe σ2 vs1 ∧ tt1 σ3 H5 fun b H6 =>
          if b = true then te σ3 H6 fun y H7 => ∃ acc, H7 D = some (.lst acc) ∧ acc.length < sizeLine ∧ Nx1 (upd H7 D (.lst (acc ++ [y]))) else Nx1 H6)
      else Pv (i + 1) H3) (hd : ∀ H, Pv n H → Qd H) :
    ∃ W : Nat → Nat → Hp → Prop, (∃ m, W 0 m (upd H1 D (.lst []))) ∧ ∀ i m H, W i m H →
      (J.stop i H ∧ Qd H) ∨ (J.go i H ∧ ∃ Nx : Hp → Prop, (∀ H', Nx H' → ∃ m', m' < m ∧ W (i + 1) m' H') ∧ ∀ x H', J.yld i H x H' → g x (wipe σ vs) H' fun σ2 H2 => wipe σ2 vs = wipe σ vs ∧ tt σ2 H2 fun b H3 =>
        if b = true then wi1 σ2 H3 fun J1 H4 => ∃ W1 : Nat → Nat → Hp → Prop, (∃ m, W1 0 m H4) ∧ ∀ j k H, W1 j k H →
          (J1.stop j H ∧ Nx H) ∨ (J1.go j H ∧ ∃ Nx1 : Hp → Prop, (∀ H', Nx1 H' → ∃ k', k' < k ∧ W1 (j + 1) k' H') ∧ ∀ x H', J1.yld j H x H' → g1 x (wipe σ2 vs1) H' fun σ3 H5 => wipe σ3 vs1 = wipe σ2 vs1 ∧ tt1 σ3 H5 fun b H6 =>
            if b = true then te σ3 H6 fun y H7 => ∃ acc, H7 D = some (.lst acc) ∧ acc.length < sizeLine ∧ Nx1 (upd H7 D (.lst (acc ++ [y]))) else Nx1 H6)
        else Nx H3) := by
  refine ⟨fun i m H => m = n - i ∧ i ≤ n ∧ Pv i H, ⟨n, by simp, Nat.zero_le _, h0⟩, ?_⟩
  rintro i m H ⟨rfl, hi, p⟩
  have q := hG i H hi p
  by_cases hlt : i < n
  · exact .inr ⟨w.goes i H hlt q, Pv (i + 1), fun H' p' => ⟨n - (i + 1), by omega, rfl, hlt, p'⟩, fun x H' y => hs i x H H' hlt p (w.yields i H x H' hlt q y)⟩
  · have e : i = n := by omega
    subst e
    exact .inl ⟨w.stops H q, hd H p⟩
end

/-! len(set(xs)) -/
theorem firstMet_full (ns : List Int) : ∀ i, i ≤ ns.length → ((PyProof.Rows.firstMet (fun i => ns.getD i 0) i).length = i ↔ (ns.take i).Nodup)
  | 0, _ => by simp [PyProof.Rows.firstMet_zero]
  | i + 1, hi => by
    have hlt : i < ns.length := hi
    have ih := firstMet_full ns i (Nat.le_of_lt hlt)
    have hle := PyProof.Rows.firstMet_length_le (fun i => ns.getD i 0) i
    have e1 : ns.getD i 0 = ns[i] := by
      rw [List.getD_eq_getElem?_getD, List.getElem?_eq_getElem hlt]
      rfl
    have e2 : ns.take (i + 1) = ns.take i ++ [ns[i]] := by
      rw [List.take_add_one, List.getElem?_eq_getElem hlt]
      rfl
    have es : PyProof.Rows.firstMet (fun i => ns.getD i 0) (i + 1) = if (PyProof.Rows.firstMet (fun i => ns.getD i 0) i).any (· == ns[i]) then PyProof.Rows.firstMet (fun i => ns.getD i 0) i else PyProof.Rows.firstMet (fun i => ns.getD i 0) i ++ [ns[i]] := by
      rw [PyProof.Rows.firstMet_succ, ← e1]
      rfl
    rw [es, e2]
    constructor
    · intro h
      by_cases c : (PyProof.Rows.firstMet (fun i => ns.getD i 0) i).any (· == ns[i]) = true
      · rw [if_pos c] at h
        omega
      · rw [if_neg c, List.length_append, List.length_singleton] at h
        have hn : (ns.take i).Nodup := ih.mp (by omega)
        have et : PyProof.Rows.firstMet (fun i => ns.getD i 0) i = ns.take i := by
          have hfull : (ns.take i).length = i := by rw [List.length_take]; omega
          have key := RZ.firstMet_nodup (ns := ns.take i) hn i (by omega)
          have ee : ∀ j, j ≤ i → PyProof.Rows.firstMet (fun i => ns.getD i 0) j = PyProof.Rows.firstMet (fun k => (ns.take i).getD k 0) j := by
            intro j
            induction j with
            | zero => intro _; rfl
            | succ j ihj =>
              intro hj
              rw [PyProof.Rows.firstMet_succ, PyProof.Rows.firstMet_succ, ihj (by omega)]
              have : ns.getD j 0 = (ns.take i).getD j 0 := by
                rw [List.getD_eq_getElem?_getD, List.getD_eq_getElem?_getD, List.getElem?_take, if_pos (show j < i by omega)]
              rw [this]
          rw [ee i (Nat.le_refl _), key, List.take_take, Nat.min_self]
        rw [et] at c
        refine nd_snoc hn fun m => c ?_
        exact List.any_eq_true.mpr ⟨_, m, by simp⟩
    · intro h
      have h1 : (ns.take i).Nodup := (List.nodup_append.mp h).1
      have hl := ih.mpr h1
      by_cases c : (PyProof.Rows.firstMet (fun i => ns.getD i 0) i).any (· == ns[i]) = true
      · exfalso
        have hfull : (ns.take i).length = i := by rw [List.length_take]; omega
        have key := RZ.firstMet_nodup (ns := ns.take i) h1 i (by omega)
        have ee : ∀ j, j ≤ i → PyProof.Rows.firstMet (fun i => ns.getD i 0) j = PyProof.Rows.firstMet (fun k => (ns.take i).getD k 0) j := by
          intro j
          induction j with
          | zero => intro _; rfl
          | succ j ihj =>
            intro hj
            rw [PyProof.Rows.firstMet_succ, PyProof.Rows.firstMet_succ, ihj (by omega)]
            have : ns.getD j 0 = (ns.take i).getD j 0 := by
              rw [List.getD_eq_getElem?_getD, List.getD_eq_getElem?_getD, List.getElem?_take, if_pos (show j < i by omega)]
            rw [this]
        rw [ee i (Nat.le_refl _), key, List.take_take, Nat.min_self] at c
        obtain ⟨y, hy, ey⟩ := List.any_eq_true.mp c
        have ey : y = ns[i] := eq_of_beq ey
        subst ey
        have := (List.nodup_append.mp h).2.2 _ hy _ (List.mem_singleton_self _)
        exact this rfl
      · rw [if_neg c, List.length_append, hl]
        rfl
def tLenSetA (K : PySem.W.Frag) (ta : TE) : TE := fun σ H Q => ta σ H fun x H1 => ∃ (l : Addr) (ns : List Int), x = .ref l ∧ SqL K H1 l (ns.map V.int) ∧ ns.length ≤ 4000 ∧ ∀ n : Nat, (n = ns.length ↔ ns.Nodup) → Q (.int (n : Int)) H1
theorem pe_lenSetA {X : Cx} {a : Expr} {ta : TE} {p p2 q pos : Pos} (K : PySem.W.Frag) (hK : X.K = K) (hg : Gl X "len") (hm : X.mg "len" = none) (hg2 : Gl X "set") (hm2 : X.mg "set" = none) (ha : PE X a ta) (hc : X.calm = true := by rfl)
    (na : starEach [a] X.env = (false, eval a X.env) :: starEach [] X.env := by rfl) : PE X (.Call (.Name "len" p) [.Call (.Name "set" p2) [a] [] q] [] pos) (tLenSetA K ta) := by
  subst hK
  refine ⟨fun pins s σ H Q I h => ?_⟩
  refine Call_ (ld_blt I hg hm boot_len ?_)
  refine PyProof.Rows.callWith_builtin1 (PyProof.Rows.args_cons ?_ rfl) rfl rfl
  refine Call_ (ld_blt I hg2 hm2 boot_set ?_)
  refine PyProof.Rows.callWith_type1 (PyProof.Rows.args_cons (thn (ha.run pins s σ H _ I h) fun v s1 ⟨x, H1, I1, r1, q1⟩ => PyProof.Rows.args_nil ?_) na) na rfl
  obtain ⟨l, ns, rfl, hq, hl, q1⟩ := q1
  cases r1
  obtain ⟨its, r, pl, hz⟩ := I1.list hq
  have hlen : its.toArray.size = ns.length := by
    rw [List.size_toArray, ← r.length, List.length_map]
  refine call_set_list (I1.ok.hd hc) pl.isList (by simpa using RZ.intsAre_vals r) (by rw [hlen]; unfold scanBound; omega) fun h' tk hS hk => ?_
  refine PyProof.Rows.args_nil ?_
  rw [hlen] at hS
  have hle := PyProof.Rows.firstMet_length_le (fun i => ns.getD i 0) ns.length
  have hfull := firstMet_full ns ns.length (Nat.le_refl _)
  rw [List.take_length] at hfull
  obtain ⟨o, es, ep, t, ho, hex, hd, _, _, _, hf, hn⟩ := hS
  have I2 : Inv X pins σ H1 { s1 with heap := h', toks := tk } := I1.kept fun b o e => hk b o (Heap.lt_size e) e
  exact call_len_set ho hex hd hf (by rw [hn] <;> omega) ⟨.int _, H1, I2.tok _, ⟨_, by rw [hn]⟩, q1 _ hfull⟩
end AF
namespace AF
open PySem PySem.Spec PyProof.Rows L2
theorem find_at {α : Type} {l : List α} {p : α → Bool} {i : Nat} {c : α} (h : (l.take i).find? p = none) (hc : l[i]? = some c) (hp : p c = true) : l.find? p = some c := by
  obtain ⟨hi, e⟩ := List.getElem?_eq_some_iff.mp hc
  have e2 : l = l.take i ++ (c :: l.drop (i + 1)) := by
    rw [← e, List.getElem_cons_drop, List.take_append_drop]
  rw [e2, List.find?_append, h, List.find?_cons, hp]
  rfl
theorem find_step {α : Type} {l : List α} {p : α → Bool} {i : Nat} {c : α} (h : (l.take i).find? p = none) (hc : l[i]? = some c) (hp : p c = false) : (l.take (i + 1)).find? p = none := by
  rw [List.take_add_one, hc, List.find?_append, h]
  show (none : Option α).or ([c].find? p) = none
  rw [List.find?_cons, hp]
  rfl
/-- a box or None -/
def OptAt (H : Hp) (v : V) : Option Box → Prop
  | none => v = .non
  | some c => BoxAt H v c
def optI : Option Int → V
  | none => .non
  | some i => .int i
def optPy : Option Box → PyData
  | none => .none
  | some c => c.py
theorem OptAt.dp {K : PySem.W.Frag} {H : Hp} {v : V} : ∀ {o : Option Box}, OptAt H v o → Dp K H v (optPy o)
  | none, h => by
    have h : v = .non := h
    subst h
    exact .non
  | some c, h => BoxAt.dp c v h
theorem OptAt.s {H H' : Hp} {v : V} {o : Option Box} (h : OptAt H v o) (e : Same H H') : OptAt H' v o := by
  cases o with
  | none => exact h
  | some c => exact BoxAt.s h e
namespace Box
def byNum (n : Int) (c : Box) : Bool := decide (c.num = n)
def hasNum (n : Int) (c : Box) : Bool := (c.parts.find? (byNum n)).isSome
def parB (b : Box) (n : Int) : Option Int := (b.pre.find? (hasNum n)).map num
theorem mem_pre_parts {b c d : Box} (h1 : c ∈ b.pre) (h2 : d ∈ c.parts) : c.parts.length + 1 ≤ b.pre.length := by
  have := parts_le c
  have := pre_mem_len b c h1
  omega
/-- what a document is -/
structure IsDoc (b : Box) : Prop where
  s : b.isS = true
  n : ∀ c ∈ b.pre, 1 ≤ c.num ∧ c.num ≤ 999
  h : ∀ c ∈ b.pre, 0 ≤ c.ht ∧ c.ht ≤ 1000
  l : b.pre.length ≤ 40
  u : (b.pre.map num).Nodup
  d : b.depth ≤ 4
/-! layers -/
theorem depthL_filter : ∀ l : List Box, depthL l = if (l.filter isS).isEmpty then 0 else 1 + depthL ((l.filter isS).flatMap parts)
  | [] => by simp [depthL]
  | .blk n h :: r => by
    have ih := depthL_filter r
    have e : (Box.blk n h :: r).filter isS = r.filter isS := rfl
    rw [e]
    simp only [depthL, depth]
    omega
  | .scr n h ps :: r => by
    have ih := depthL_filter r
    have e : (Box.scr n h ps :: r).filter isS = .scr n h ps :: r.filter isS := rfl
    rw [e]
    have e2 : (Box.scr n h ps :: r.filter isS).flatMap parts = ps ++ (r.filter isS).flatMap parts := by simp [parts]
    rw [e2, depthL_append]
    simp only [depthL, depth]
    by_cases c : (r.filter isS).isEmpty = true
    · rw [if_pos c] at ih
      have c2 : r.filter isS = [] := List.isEmpty_iff.mp c
      rw [ih, c2]
      simp [depthL]
      omega
    · rw [if_neg c] at ih
      simp
      omega
theorem preL_layer : ∀ l : List Box, (preL ((l.filter isS).flatMap parts)).length + l.length ≤ (preL l).length
  | [] => by simp [preL]
  | .blk n h :: r => by
    have ih := preL_layer r
    have e : (Box.blk n h :: r).filter isS = r.filter isS := rfl
    rw [e]
    simp only [preL, pre, List.length_append, List.length_cons, List.length_nil]
    omega
  | .scr n h ps :: r => by
    have ih := preL_layer r
    have e : (Box.scr n h ps :: r).filter isS = .scr n h ps :: r.filter isS := rfl
    have e2 : (Box.scr n h ps :: r.filter isS).flatMap parts = ps ++ (r.filter isS).flatMap parts := by simp [parts]
    rw [e, e2, preL_append]
    simp only [preL, pre, List.length_append, List.length_cons]
    omega
end Box
end AF
namespace AF
open PySem PySem.Spec PyProof.Rows L2
theorem flat_ints (ns : List Int) : (ns.map V.int).all flatV = true := by
  rw [List.all_map]
  exact List.all_eq_true.mpr fun _ _ => rfl
theorem inV_ints (n : Int) (ns : List Int) : (inV (.int n) (ns.map V.int) = true) ↔ n ∈ ns := by
  unfold inV
  rw [List.any_map, List.any_eq_true]
  constructor
  · rintro ⟨m, hm, e⟩
    have e : (eqV (V.int m) (V.int n)) = true := e
    have : m = n := by simpa [eqV] using e
    rw [← this]
    exact hm
  · intro h
    exact ⟨n, h, by simp [eqV]⟩
namespace Box
theorem depthL_ge : ∀ (ps : List Box), ∀ c ∈ ps, c.depth ≤ depthL ps := fun ps c h => depthL_mem h
theorem depthL_in : ∀ ps : List Box, (depthL ps : Int) ∈ (0 : Int) :: ps.map fun c => (c.depth : Int)
  | [] => by simp [depthL]
  | b :: r => by
    have ih := depthL_in r
    simp only [depthL]
    by_cases h : depthL r ≤ b.depth
    · rw [Nat.max_eq_left h]
      simp
    · rw [Nat.max_eq_right (by omega)]
      rcases List.mem_cons.mp ih with e | e
      · omega
      · simp only [List.map_cons]
        exact List.mem_cons_of_mem _ (List.mem_cons_of_mem _ e)
theorem depthL_max {ps : List Box} {k : Int} (h1 : k ∈ (0 : Int) :: ps.map fun c => (c.depth : Int)) (h2 : ∀ y, y ∈ ((0 : Int) :: ps.map fun c => (c.depth : Int)) → y ≤ k) : k = (depthL ps : Int) := by
  have a := h2 _ (depthL_in ps)
  refine Int.le_antisymm ?_ a
  rcases List.mem_cons.mp h1 with e | e
  · omega
  · obtain ⟨c, hc, rfl⟩ := List.mem_map.mp e
    have := depthL_mem hc
    omega
end Box
end AF
namespace AF
open PySem PySem.Spec PyProof.Rows L2
section
variable {K : PySem.W.Frag} {H : Hp} {Q : VK}
/-- t + u of two tuples, whichever is empty -/
theorem catA_ok {a b : Addr} {xs ys : List V} (ha : H a = some (.tup xs)) (hb : H b = some (.tup ys)) (hl : xs.length + ys.length ≤ 1000) (q : ∀ (p : Addr) (H' : Hp), Same H H' → H' p = some (.tup (xs ++ ys)) → Q (.ref p) H') :
    rCatA K (.ref a) (.ref b) H Q := by
  refine ⟨a, b, xs, ys, rfl, rfl, .of ha, .of hb, Nat.le_of_lt (small1000 hl), fun e => ?_, fun _ e => ?_, fun _ _ p np => ?_⟩
  · refine q b H (.refl H) ?_
    rw [e]
    exact hb
  · refine q a H (.refl H) ?_
    rw [e, List.append_nil]
    exact ha
  · exact q p _ (same_new np _) upd_same
theorem cut_whole {xs : List V} {lo hi : Option Int} (h : HT.sIx xs.length 0 lo = 0 ∧ HT.sIx xs.length xs.length hi = xs.length) : cutV xs lo hi = xs := by
  unfold cutV
  rw [h.1, h.2, List.drop_zero, Nat.sub_zero, List.take_length]
/-- t[lo:hi] of a tuple, the whole or not -/
theorem slA_ok {a : Addr} {xs zs : List V} {lo hi : Option Int} (ha : H a = some (.tup xs)) (e : cutV xs lo hi = zs) (q : ∀ (p : Addr) (H' : Hp), Same H H' → H' p = some (.tup zs) → Q (.ref p) H') : rSlA K (.ref a) lo hi H Q := by
  refine ⟨a, xs, rfl, .of ha, fun h => ?_, fun _ p np => ?_⟩
  · refine q a H (.refl H) ?_
    rw [← e, cut_whole h]
    exact ha
  · rw [e]
    exact q p _ (same_new np _) upd_same
end
namespace Box
def nest (last : Int) : Nat → Box
  | 0 => .blk 900 3
  | k + 1 => .scr (last + k) 5 [nest last k]
theorem nest_len (last : Int) : ∀ k, (nest last k).pre.length = k + 1
  | 0 => by simp [nest, pre]
  | k + 1 => by simp [nest, pre, preL, nest_len last k]
theorem nest_dep (last : Int) : ∀ k, (nest last k).depth = k
  | 0 => by simp [nest, depth]
  | k + 1 => by simp [nest, depth, depthL, nest_dep last k]
mutual
theorem wd_py : ∀ b : Box, wd b.py ≤ b.pre.length + 4
  | .blk n h => by simp [py, wd, wdL, pre]
  | .scr n h ps => by
    have h1 := wd_pyL ps
    have h2 := preL_ge ps
    have h3 : (pyL ps).length = ps.length := by rw [pyL_eq, List.length_map]
    simp only [py, wd, wdL, pre, List.length_cons, List.length_nil]
    omega
theorem wd_pyL : ∀ l : List Box, wdL (pyL l) ≤ (preL l).length + 4
  | [] => by simp [pyL, wdL, preL]
  | b :: r => by
    have h1 := wd_py b
    have h2 := wd_pyL r
    simp only [pyL, wdL, preL, List.length_append]
    omega
end
theorem hasNum_iff {n : Int} {c : Box} : hasNum n c = true ↔ n ∈ c.parts.map num := by
  unfold hasNum
  rw [List.find?_isSome, List.mem_map]
  constructor
  · rintro ⟨d, hd, e⟩
    exact ⟨d, hd, of_decide_eq_true e⟩
  · rintro ⟨d, hd, e⟩
    exact ⟨d, hd, decide_eq_true e⟩
theorem parB_eq (b : Box) (n : Int) : b.parB n = ((b.pre.filter (hasNum n)).map num).head? := by
  unfold parB
  rw [List.head?_map, List.head?_filter]
theorem depthL_pre : ∀ (l : List Box) (k : Nat), (∀ c ∈ l, c.depth ≤ k) → depthL l ≤ k
  | [], k, _ => Nat.zero_le _
  | b :: r, k, h => by
    have h1 := h b List.mem_cons_self
    have h2 := depthL_pre r k fun c hc => h c (List.mem_cons_of_mem _ hc)
    simp only [depthL]
    omega
/-- a drawn document is a document -/
theorem Doc.isDoc {b : Box} (d : Doc b) : IsDoc b where
  s := d.isS
  n := fun c hc => by
    have := d.nums c hc
    omega
  h := fun c hc => by
    have := d.hts c hc
    omega
  l := by
    have := d.len
    omega
  u := d.nodup
  d := by
    have := d.dep
    omega
end Box
end AF
set_option maxHeartbeats 2000000
/-! zip of a tuple and a list of one length; update of a dict by a dict. -/
namespace AF
open PySem PySem.Spec PyProof.Rows L2
/-- the tuple at a beside the list at b -/
def ItzM (K : PySem.W.Frag) (a b : Addr) : It where
  go := fun i H => ∃ (xs ys : List V) (x y : V), SqT K H a xs ∧ SqL K H b ys ∧ xs[i]? = some x ∧ ys[i]? = some y
  yld := fun i H v H' => ∃ T x y, v = .ref T ∧ H T = none ∧ H' = upd H T (.tup [x, y]) ∧ (∀ xs, SqT K H a xs → xs[i]? = some x) ∧ ∀ ys, SqL K H b ys → ys[i]? = some y
  stop := fun i H => ∃ xs ys : List V, SqT K H a xs ∧ SqL K H b ys ∧ xs.length = i ∧ ys.length = i
/-- how the five cells of such a zip stand -/
def ZM (a b z p q i1 i2 : Addr) (i : Nat) (h : Heap) : Prop :=
  IsZip h z p q .none ∧ IsPair h p (.ref i1) (.ref i2) ∧ (∃ x y, IsPair h q x y) ∧ h.IsTupleIter i1 a i ∧ h.IsListIter i2 b i
theorem turn_zipM {P : Program} {w : World} {K : PySem.W.Frag} {elts : List Expr} {kk : Nat} {tpos : Pos} {a b z p q i1 i2 : Addr} (D : ZipSep2 z p q i1 i2 [i1, a] [i2, b]) :
    Turn P w K (.Tuple elts kk tpos) (ItzM K a b) [z, p, q, i1, i2] z (ZM a b z p q i1 i2) := by
  have five : ∀ {c : Addr}, c ∈ [z, p, q, i1, i2] → c = z ∨ c = p ∨ c = q ∨ c = i1 ∨ c = i2 := fun {c} h => by simpa using h
  have off : ∀ {c : Addr}, c ∉ [z, p, q, i1, i2] → c ≠ z ∧ c ≠ p ∧ c ≠ q ∧ c ≠ i1 ∧ c ≠ i2 := fun {c} h => by simpa using h
  refine ⟨by simp, fun i h st c hc => ?_, fun i h h' st k => ?_, ?_, ?_, fun A i s Q E st h => wpAny_pyIter_zip st.1 h⟩
  · obtain ⟨hz, hp, ⟨x, y, hq⟩, ⟨o1, e1, _, d1⟩, ⟨o2, e2, _, d2⟩⟩ := st
    rcases five hc with r | r | r | r | r <;> subst r
    · exact ⟨_, hz, fun _ n => nomatch n⟩
    · exact ⟨_, hp, fun _ n => nomatch n⟩
    · exact ⟨_, hq, fun _ n => nomatch n⟩
    · exact ⟨o1, e1, fun v n => by rw [d1] at n; exact nomatch n⟩
    · exact ⟨o2, e2, fun v n => by rw [d2] at n; exact nomatch n⟩
  · obtain ⟨hz, hp, ⟨x, y, hq⟩, h1, h2⟩ := st
    exact ⟨k _ (by simp) _ hz, k _ (by simp) _ hp, ⟨x, y, k _ (by simp) _ hq⟩, h1.at fun o e => k _ (by simp) o e, h2.at fun o e => k _ (by simp) o e⟩
  · intro X eP ew eK hcalm i pins s σ H E I hf st hg
    subst eP ew eK
    obtain ⟨hz, hp, ⟨x0, y0, hq⟩, h1, h2⟩ := st
    obtain ⟨xs, ys, x, y, sx, sy, gx, gy⟩ := hg
    obtain ⟨us, ru, tu, _⟩ := I.tuple sx
    obtain ⟨ws, rw_, tw, _⟩ := I.list sy
    obtain ⟨u, eu, rxu⟩ := ru.get gx
    obtain ⟨v, ev, ryv⟩ := rw_.get gy
    have lu : i < us.toArray.size := by
      rw [List.size_toArray]
      exact (List.getElem?_eq_some_iff.mp eu).1
    have lv : i < ws.toArray.size := by
      rw [List.size_toArray]
      exact (List.getElem?_eq_some_iff.mp ev).1
    have hh : X.A.in1.handled = none := I.ok.hd hcalm
    have na : a ≠ i1 := fun e => by
      obtain ⟨o, e1, _, d1⟩ := h1
      obtain ⟨o', e2, _, _, d2⟩ := tu
      rw [e, e1] at e2
      cases e2
      rw [d1] at d2
      cases d2
    have nb : b ≠ i2 := fun e => by
      obtain ⟨o, e1, _, d1⟩ := h2
      obtain ⟨o', e2, _, _, d2⟩ := tw.isList
      rw [e, e1] at e2
      cases e2
      rw [d1] at d2
      cases d2
    refine wpAny_pyNext_zipD2_item D (Draws.tuple hh i1 a na us.toArray) (Draws.list hh i2 b nb ws.toArray) hz hp hq ⟨h1, tu⟩ ⟨h2, tw.isList⟩ lu lv fun x1 x2 h' tk g1 g2 z' q' st1 st2 hT hsz hk => ?_
    have g1 : us[i]? = some x1 := by simpa using g1
    have g2 : ws[i]? = some x2 := by simpa using g2
    rw [eu] at g1
    rw [ev] at g2
    cases g1
    cases g2
    have zlt : z < s.heap.objs.size := Heap.lt_size hz
    refine ⟨_, rfl, wpAny_letOwnedTupleGo_zip (s := { s with heap := h', toks := tk }) z' fun h2' z2 sb => ?_⟩
    have over : ∀ {c : Addr} {o : Obj}, c ≠ z → h'.get? c = some o → h2'.get? c = some o := fun {c o} n e => (sb.2 c n).trans e
    have T2 : h2'.get? s.heap.objs.size = some { cls := .type "tuple", data := .seq #[u, v] } := over (Nat.ne_of_gt zlt) hT
    have fresh : ObjOk X.prog X.w (upd H s.heap.objs.size (.tup [x, y])) h2' s.heap.objs.size (.tup [x, y]) := ⟨(by show 2 ≤ sizeLine; decide), [u, v], .cons rxu (.cons ryv .nil), ⟨_, T2, rfl, _, rfl⟩⟩
    have J : Inv X pins σ (upd H s.heap.objs.size (.tup [x, y])) { s with heap := h2', toks := tk } :=
      I.turnedNew (t' := tk) (ch := [z, p, q, i1, i2]) (fun c o hb e => over (off hb).1 (hk c o (off hb).1 (off hb).2.2.1 (off hb).2.2.2.1 (off hb).2.2.2.2 e)) hf (Nat.le_refl _) fresh
    refine ⟨.ref s.heap.objs.size, _, J, rfl, ⟨_, x, y, rfl, I.hok.fresh (Nat.le_refl _), rfl, fun l hl => (I.tuple_inj hl sx) ▸ gx, fun l hl => (I.list_inj hl sy) ▸ gy⟩, ⟨z2, ?_, ⟨u, v, ?_⟩, ?_, ?_⟩, fun c hc => ?_⟩
    · exact over D.TIz (hk _ _ D.TIz D.TITO D.TIi1 D.TIi2 hp)
    · exact over D.TOz q'
    · exact st1.1.at fun o e => over D.zi1.symm e
    · exact st2.1.at fun o e => over D.zi2.symm e
    · have clt : c < s.heap.objs.size := by
        obtain ⟨o1, e1, _⟩ := h1
        obtain ⟨o2, e2, _⟩ := h2
        rcases five hc with r | r | r | r | r <;> subst r <;> first | exact zlt | exact Heap.lt_size hp | exact Heap.lt_size hq | exact Heap.lt_size e1 | exact Heap.lt_size e2
      rw [upd_ne (Nat.ne_of_lt clt)]
      exact (hf c hc).1
  · intro X eP ew eK hcalm i pins s σ H E I hf st hg
    subst eP ew eK
    obtain ⟨hz, hp, ⟨x0, y0, hq⟩, h1, h2⟩ := st
    obtain ⟨xs, ys, sx, sy, l1, l2⟩ := hg
    obtain ⟨us, ru, tu, _⟩ := I.tuple sx
    obtain ⟨ws, rw_, tw, _⟩ := I.list sy
    have n1 : us.toArray.size = i := by
      rw [List.size_toArray, ← ru.length]
      exact l1
    have n2 : ws.toArray.size = i := by
      rw [List.size_toArray, ← rw_.length]
      exact l2
    have hh : X.A.in1.handled = none := I.ok.hd hcalm
    have na : a ≠ i1 := fun e => by
      obtain ⟨o, e1, _, d1⟩ := h1
      obtain ⟨o', e2, _, _, d2⟩ := tu
      rw [e, e1] at e2
      cases e2
      rw [d1] at d2
      cases d2
    have nb : b ≠ i2 := fun e => by
      obtain ⟨o, e1, _, d1⟩ := h2
      obtain ⟨o', e2, _, _, d2⟩ := tw.isList
      rw [e, e1] at e2
      cases e2
      rw [d1] at d2
      cases d2
    refine wpAny_pyNext_zipD2_end D (Draws.tuple hh i1 a na us.toArray) (Draws.list hh i2 b nb ws.toArray) hz hp hq ⟨h1, tu⟩ ⟨h2, tw.isList⟩ (by omega) (by omega) (.inl n1.symm) fun h' tk hk => ⟨rfl, ?_⟩
    exact I.turnedL (t' := tk) (ch := [z, p, q, i1, i2]) (fun c o hb e => hk c o (off hb).1 (off hb).2.2.1 (off hb).2.2.2.1 (off hb).2.2.2.2 e) hf
def iZipM (K : PySem.W.Frag) (ta : TA) : TI := fun σ H R => ta σ H fun vs H1 => ∃ (a b : Addr) (xs ys : List V), vs = [.ref a, .ref b] ∧ SqT K H1 a xs ∧ SqL K H1 b ys ∧ R (ItzM K a b) H1
theorem pi_zipM {X : Cx} {e e2 : Expr} {ta : TA} {p pos tpos : Pos} {elts : List Expr} {kk : Nat} (K : PySem.W.Frag) (hK : X.K = K) (hg : Gl X "zip") (hm : X.mg "zip" = none) (ha : PA X [e, e2] ta)
    (hs : starEach [e, e2] X.env = (false, eval e X.env) :: starEach [e2] X.env := by rfl) (hpl : (backTo pos (starEach [e2] X.env)).any (·.1) = false := by rfl) :
    PI X (.Tuple elts kk tpos) (.Call (.Name "zip" p) [e, e2] [] pos) (iZipM K ta) := by
  subst hK
  refine ⟨fun pins s σ H R I h => Call_ (ld_blt I hg hm PyProof.Rows.boot_zip (PyProof.Rows.callWith_type1 (thn (ha.run pos pins s σ H _ I h) fun us s1 ⟨vs, H1, I1, r1, q1⟩ => ?_) hs hpl))⟩
  obtain ⟨a, b, xs, ys, rfl, sx, sy, q⟩ := q1
  cases r1 with
  | cons r rr =>
  cases rr with
  | cons r' rr =>
  cases rr
  cases r
  cases r'
  obtain ⟨us, ru, tu, _⟩ := I1.tuple sx
  obtain ⟨ws, rw_, tw, _⟩ := I1.list sy
  have la : a < s1.heap.objs.size := by
    obtain ⟨o, e1, _⟩ := tu
    exact Heap.lt_size e1
  have lb : b < s1.heap.objs.size := by
    obtain ⟨o, e1, _⟩ := tw.isList
    exact Heap.lt_size e1
  refine zip_begins2 (begins_tuple a us.toArray) (begins_list b ws.toArray) tu tw.isList fun h' z1 z2 z3 g1 g2 hsz hk => wpAny_pyIter_zip z1 ?_
  have I2 : Inv X pins σ H1 { s1 with heap := h' } := I1.kept (t' := s1.toks) hk
  have sep := zip_sep2 (N := s1.heap.objs.size) (fp1 := [a]) (fp2 := [b]) (fun c hc => by rw [List.mem_singleton.mp hc]; exact la) (fun c hc => by rw [List.mem_singleton.mp hc]; exact lb)
  refine ⟨_, [s1.heap.objs.size + 4, s1.heap.objs.size + 2, s1.heap.objs.size + 3, s1.heap.objs.size, s1.heap.objs.size + 1], _, _, H1, rfl, I2, turn_zipM sep, ⟨z1, z2, ⟨_, _, z3⟩, ⟨_, g1, rfl, rfl⟩, ⟨_, g2, rfl, rfl⟩⟩, fun c hc => ?_, q⟩
  have hle : s1.heap.objs.size ≤ c := by
    have hc : c = s1.heap.objs.size + 4 ∨ c = s1.heap.objs.size + 2 ∨ c = s1.heap.objs.size + 3 ∨ c = s1.heap.objs.size ∨ c = s1.heap.objs.size + 1 := by simpa using hc
    rcases hc with r | r | r | r | r <;> rw [r] <;> first | exact Nat.le_refl _ | exact Nat.le_add_right _ _
  exact I1.fpOk hle (I1.hok.fresh hle)
theorem walk_zipM {K : PySem.W.Frag} {a b : Addr} {xs ys : List V} (hl : xs.length = ys.length) : Walk (ItzM K a b) xs.length (fun H => SqT K H a xs ∧ SqL K H b ys) (YPair (fun i => xs[i]?) (fun i => ys[i]?)) := by
  refine ⟨fun i _ hi q => ⟨xs, ys, xs[i], ys[i]'(by omega), q.1, q.2, List.getElem?_eq_getElem hi, List.getElem?_eq_getElem (by omega)⟩, fun _ q => ⟨xs, ys, q.1, q.2, rfl, hl.symm⟩, fun i H v H' _ q y => ?_⟩
  obtain ⟨T, x, z, h1, h2, h3, h4, h5⟩ := y
  exact ⟨T, x, z, h1, h2, h3, h4 xs q.1, h5 ys q.2⟩
/-! ### d.update(e) of a dict -/
def rDUpd : V → List V → Hp → VK → Prop := fun x vs H Q => ∃ (a b : Addr) (kvs lvs : List (Key × V)), x = .ref a ∧ vs = [.ref b] ∧ H a = some (.dK kvs) ∧ H b = some (.dK lvs) ∧ a ≠ b ∧ kvs.length + lvs.length ≤ 100000 ∧ Q .non (upd H a (.dK (mergeK kvs lvs)))
theorem mtd_update {X : Cx} : MtR X "dict.update" rDUpd := by
  intro pins s σ H x vs v us Q I rx rv h
  obtain ⟨a, b, kvs, lvs, rfl, rfl, ea, eb, nab, hz, q⟩ := h
  obtain rfl : v = Value.ref a := rx
  obtain ⟨u, rfl, ru⟩ := rv.one
  obtain rfl : u = Value.ref b := ru
  obtain ⟨z1, l1, vs1, rel1, d1⟩ := dk_of I.hok ea
  obtain ⟨z2, l2, vs2, rel2, d2⟩ := dk_of I.hok eb
  have hlen : (mergeK kvs lvs).length ≤ sizeLine := Nat.le_trans (length_mergeK lvs kvs) (Nat.le_trans hz (by decide))
  refine call_meetsIn PySem.F.slot_dict_update d1.typeIs PySem.F.entry_dict_update (PySem.F.args_dict_update_2 _ _) (meets_dict_update (mixKind X.prog X.w) a b nab l2)
    ⟨vs1, vs2, d1, d2, by rw [← rel1.length, ← rel2.length]; exact Nat.le_trans hz (by decide), fun h' e1 e2 hs => ⟨.non, _, ?_, rfl, q⟩⟩
  have there : ∃ o, h'.get? a = some o := let ⟨o, _, _, e, _⟩ := e1; ⟨o, e⟩
  exact d_write (t' := s.toks) I (by rw [ea]; exact True.intro) hs there (dk_new hlen l1 (rel2.merge rel1) e1)
end AF
/-! Tops and windows. -/
namespace AF
open PySem PySem.Spec PyProof.Rows L2
abbrev T3 := Int × Int × Int
def mx (i j : Int) : Int := if j > i then j else i
def mn (i j : Int) : Int := if j < i then j else i
namespace Box
mutual
/-- each box with its top and window, in tree order -/
def winB (off : Int → Int) (t f b : Int) : Box → List (Box × T3)
  | .blk n h => [(.blk n h, (t, f, b))]
  | .scr n h ps => (.scr n h ps, (t, f, b)) :: winL off (t - off n) f b ps
def winL (off : Int → Int) (z f b : Int) : List Box → List (Box × T3)
  | [] => []
  | p :: r => winB off z (mx z f) (mn (z + p.ht) b) p ++ winL off (z + p.ht) f b r
end
/-- the parts alone -/
def kids (z f b : Int) : List Box → List (Box × T3)
  | [] => []
  | p :: r => (p, (z, mx z f, mn (z + p.ht) b)) :: kids (z + p.ht) f b r
mutual
theorem winB_fst (off : Int → Int) : ∀ (B : Box) (t f b : Int), (winB off t f b B).map (·.1) = B.pre
  | .blk n h, t, f, b => by simp [winB, pre]
  | .scr n h ps, t, f, b => by
    simp only [winB, pre, List.map_cons]
    rw [winL_fst off ps]
theorem winL_fst (off : Int → Int) : ∀ (l : List Box) (z f b : Int), (winL off z f b l).map (·.1) = preL l
  | [], z, f, b => by simp [winL, preL]
  | p :: r, z, f, b => by
    simp only [winL, preL, List.map_append]
    rw [winB_fst off p, winL_fst off r]
end
theorem winB_eq (off : Int → Int) (t f b : Int) (B : Box) : winB off t f b B = (B, (t, f, b)) :: winL off (t - off B.num) f b B.parts := by
  cases B with
  | blk n h => simp [winB, winL, parts]
  | scr n h ps => simp [winB, parts, num]
theorem kids_in (off : Int → Int) : ∀ (l : List Box) (z f b : Int), ∀ x ∈ kids z f b l, x ∈ winL off z f b l
  | [], z, f, b, x, h => by simp [kids] at h
  | p :: r, z, f, b, x, h => by
    simp only [kids] at h
    simp only [winL]
    rcases List.mem_cons.mp h with rfl | h
    · rw [winB_eq]
      exact List.mem_append_left _ List.mem_cons_self
    · exact List.mem_append_right _ (kids_in off r _ f b x h)
mutual
/-- the parts of one that is there are there -/
theorem winB_kids (off : Int → Int) : ∀ (B : Box) (t f b : Int) (c : Box) (w : T3), (c, w) ∈ winB off t f b B → ∀ x ∈ kids (w.1 - off c.num) w.2.1 w.2.2 c.parts, x ∈ winB off t f b B
  | .blk n h, t, f, b, c, w, hc, x, hx => by
    simp only [winB, List.mem_singleton] at hc
    cases hc
    simp [parts, kids] at hx
  | .scr n h ps, t, f, b, c, w, hc, x, hx => by
    simp only [winB] at hc ⊢
    rcases List.mem_cons.mp hc with e | hc
    · cases e
      exact List.mem_cons_of_mem _ (kids_in off ps _ f b x hx)
    · exact List.mem_cons_of_mem _ (winL_kids off ps _ f b c w hc x hx)
theorem winL_kids (off : Int → Int) : ∀ (l : List Box) (z f b : Int) (c : Box) (w : T3), (c, w) ∈ winL off z f b l → ∀ x ∈ kids (w.1 - off c.num) w.2.1 w.2.2 c.parts, x ∈ winL off z f b l
  | [], z, f, b, c, w, hc, x, hx => by simp [winL] at hc
  | p :: r, z, f, b, c, w, hc, x, hx => by
    simp only [winL] at hc ⊢
    rcases List.mem_append.mp hc with hc | hc
    · exact List.mem_append_left _ (winB_kids off p _ _ _ c w hc x hx)
    · exact List.mem_append_right _ (winL_kids off r _ f b c w hc x hx)
end
theorem kids_fst : ∀ (l : List Box) (z f b : Int), (kids z f b l).map (·.1) = l
  | [], z, f, b => rfl
  | p :: r, z, f, b => by
    simp only [kids, List.map_cons]
    rw [kids_fst r]
theorem kids_get : ∀ (l : List Box) (z f b : Int) (k : Nat) (p : Box), l[k]? = some p → (kids z f b l)[k]? = some (p, (z + sumH (l.take k), mx (z + sumH (l.take k)) f, mn (z + sumH (l.take k) + p.ht) b))
  | [], z, f, b, k, p, h => by simp at h
  | q :: r, z, f, b, 0, p, h => by
    have h : q = p := by simpa using h
    subst h
    simp [kids, sumH]
  | q :: r, z, f, b, k + 1, p, h => by
    have ih := kids_get r (z + q.ht) f b k p (by simpa using h)
    have e : z + sumH ((q :: r).take (k + 1)) = z + q.ht + sumH (r.take k) := by
      rw [List.take_succ_cons, sumH_cons]
      omega
    rw [e]
    simpa [kids] using ih
/-- numbers are all different: what a number has -/
theorem win_uniq {off : Int → Int} {B : Box} {t f b : Int} (nd : (B.pre.map num).Nodup) {c d : Box} {w v : T3} (h1 : (c, w) ∈ winB off t f b B) (h2 : (d, v) ∈ winB off t f b B) (e : c.num = d.num) : w = v ∧ c = d := by
  have key : ∀ (l : List (Box × T3)), ((l.map (·.1)).map num).Nodup → ∀ x ∈ l, ∀ y ∈ l, x.1.num = y.1.num → x = y := by
    intro l
    induction l with
    | nil => intro _ x hx; cases hx
    | cons a r ih =>
      intro n x hx y hy e
      simp only [List.map_cons, List.nodup_cons] at n
      have no : ∀ z ∈ r, a.1.num ≠ z.1.num := fun z hz e => n.1 (by
        rw [e]
        exact List.mem_map.mpr ⟨z.1, List.mem_map.mpr ⟨z, hz, rfl⟩, rfl⟩)
      rcases List.mem_cons.mp hx with e1 | hx' <;> rcases List.mem_cons.mp hy with e2 | hy'
      · rw [e1, e2]
      · exact absurd (e1 ▸ e) (no y hy')
      · exact absurd (e2 ▸ e.symm) (no x hx')
      · exact ih n.2 x hx' y hy' e
  have := key (winB off t f b B) (by rw [winB_fst]; exact nd) _ h1 _ h2 e
  cases this
  exact ⟨rfl, rfl⟩
/-- a box of the tree order that is no top is a part of an earlier one -/
theorem earlier : ∀ (n : Nat) (l : List Box), (preL l).length ≤ n → ∀ (i : Nat) (c : Box), (preL l)[i]? = some c → c ∈ l ∨ ∃ d ∈ (preL l).take i, c ∈ d.parts
  | n, [], _, i, c, h => by simp [preL] at h
  | 0, b :: r, hl, i, c, h => by
    simp only [preL, List.length_append, pre_eq b, List.length_cons] at hl
    omega
  | n + 1, b :: r, hl, i, c, h => by
    simp only [preL, pre_eq b, List.length_append, List.length_cons] at hl
    have e : preL (b :: r) = b :: (preL b.parts ++ preL r) := by simp [preL, pre_eq b]
    rw [e] at h ⊢
    cases i with
    | zero =>
      have h : b = c := by simpa using h
      subst h
      exact .inl List.mem_cons_self
    | succ i =>
      have h : (preL b.parts ++ preL r)[i]? = some c := by simpa using h
      rw [List.take_succ_cons]
      by_cases hi : i < (preL b.parts).length
      · rw [List.getElem?_append_left hi] at h
        rcases earlier n b.parts (by omega) i c h with h | ⟨d, hd, hc⟩
        · exact .inr ⟨b, List.mem_cons_self, h⟩
        · refine .inr ⟨d, List.mem_cons_of_mem _ ?_, hc⟩
          rw [List.take_append_of_le_length (by omega)]
          exact hd
      · rw [List.getElem?_append_right (by omega)] at h
        rcases earlier n r (by omega) _ c h with h | ⟨d, hd, hc⟩
        · exact .inl (List.mem_cons_of_mem _ h)
        · refine .inr ⟨d, List.mem_cons_of_mem _ ?_, hc⟩
          rw [List.take_append]
          exact List.mem_append_right _ hd
theorem parts_in {B c d : Box} (h : c ∈ B.pre) (hd : d ∈ c.parts) : d ∈ B.pre := by
  have key : ∀ (n : Nat) (B : Box), B.pre.length ≤ n → c ∈ B.pre → d ∈ B.pre := by
    intro n
    induction n with
    | zero =>
      intro B hl
      rw [pre_eq, List.length_cons] at hl
      omega
    | succ n ih =>
      intro B hl h
      rw [pre_eq] at h ⊢
      rcases List.mem_cons.mp h with rfl | h
      · refine List.mem_cons_of_mem _ ?_
        rw [preL_eq]
        refine List.mem_flatMap.mpr ⟨d, hd, ?_⟩
        rw [pre_eq]
        exact List.mem_cons_self
      · rw [preL_eq] at h ⊢
        obtain ⟨p, hp, hc⟩ := List.mem_flatMap.mp h
        refine List.mem_cons_of_mem _ (List.mem_flatMap.mpr ⟨p, hp, ih p ?_ hc⟩)
        have h1 : p.pre.length ≤ (preL B.parts).length := by
          have hk : ∀ l : List Box, p ∈ l → p.pre.length ≤ (preL l).length := by
            intro l
            induction l with
            | nil => intro h; cases h
            | cons x y ihl =>
              intro h
              simp only [preL, List.length_append]
              rcases List.mem_cons.mp h with rfl | h
              · omega
              · have := ihl h
                omega
          exact hk _ hp
        rw [pre_eq, List.length_cons] at hl
        omega
  exact key _ B (Nat.le_refl _) h
/-- the first part that has the row, and the row within it -/
def pst : Option Box × Int → Box → Option Box × Int
  | (some c, z), _ => (some c, z)
  | (none, z), p => if z < p.ht then (some p, z) else (none, z - p.ht)
/-- the way down: the scrollers, the root first, and the target -/
def und (off : Int → Int) : Nat → Box → Int → List Int × Option Int
  | 0, _, _ => ([], none)
  | _ + 1, .blk n _, _ => ([], some n)
  | k + 1, .scr n _ ps, z =>
    match ps.foldl pst (none, z + off n) with
    | (none, _) => ([n], none)
    | (some c, y) => (n :: (und off k c y).1, (und off k c y).2)
theorem pst_mem : ∀ (l : List Box) (s : Option Box × Int) (c : Box), (l.foldl pst s).1 = some c → s.1 = some c ∨ c ∈ l
  | [], s, c, h => .inl h
  | p :: r, s, c, h => by
    rcases pst_mem r (pst s p) c h with h | h
    · obtain ⟨o, z⟩ := s
      cases o with
      | some d => exact .inl h
      | none =>
        simp only [pst] at h
        split at h
        · have h : p = c := Option.some.inj h
          rw [h]
          exact .inr List.mem_cons_self
        · cases h
    · exact .inr (List.mem_cons_of_mem _ h)
theorem und_len (off : Int → Int) : ∀ (k : Nat) (c : Box) (z : Int), (und off k c z).1.length ≤ k
  | 0, _, _ => Nat.zero_le _
  | k + 1, .blk _ _, _ => Nat.zero_le _
  | k + 1, .scr n h ps, z => by
    simp only [und]
    cases hq : ps.foldl pst (none, z + off n) with
    | mk o y =>
      cases o with
      | none => simp
      | some c =>
        have := und_len off k c y
        simp only [List.length_cons]
        omega
end Box
/-! ### dicts of windows -/
def w3 (w : T3) : List V := [.int w.1, .int w.2.1, .int w.2.2]
/-- the dict has these, in this order -/
def WAt (H : Hp) : List (Key × V) → List (Box × T3) → Prop
  | kvs, [] => kvs = []
  | kvs, x :: xs => ∃ (a : Addr) (r : List (Key × V)), kvs = (Sum.inl x.1.num, .ref a) :: r ∧ H a = some (.tup (w3 x.2)) ∧ WAt H r xs
theorem WAt.k {H H' : Hp} (k : KeepT H H') : ∀ {ws : List (Box × T3)} {kvs : List (Key × V)}, WAt H kvs ws → WAt H' kvs ws
  | [], _, h => h
  | x :: xs, _, h => by
    obtain ⟨a, r, e, h1, h2⟩ := h
    exact ⟨a, r, e, k _ _ h1, WAt.k k h2⟩
theorem WAt.keys {H : Hp} : ∀ {ws : List (Box × T3)} {kvs : List (Key × V)}, WAt H kvs ws → kvs.map (·.1) = (ws.map fun x => x.1.num).map Sum.inl
  | [], _, h => by
    have h : _ = [] := h
    rw [h]
    rfl
  | x :: xs, _, h => by
    obtain ⟨a, r, rfl, h1, h2⟩ := h
    simp only [List.map_cons]
    rw [WAt.keys h2]
theorem WAt.append {H : Hp} : ∀ {ws vs : List (Box × T3)} {kvs lvs : List (Key × V)}, WAt H kvs ws → WAt H lvs vs → WAt H (kvs ++ lvs) (ws ++ vs)
  | [], vs, kvs, lvs, h, h' => by
    have h : kvs = [] := h
    rw [h]
    exact h'
  | x :: xs, vs, kvs, lvs, h, h' => by
    obtain ⟨a, r, rfl, h1, h2⟩ := h
    exact ⟨a, r ++ lvs, rfl, h1, WAt.append h2 h'⟩
theorem WAt.mem {H : Hp} : ∀ {ws : List (Box × T3)} {kvs : List (Key × V)} {p : Key × V}, WAt H kvs ws → p ∈ kvs → ∃ x ∈ ws, ∃ a : Addr, p = (Sum.inl x.1.num, .ref a) ∧ H a = some (.tup (w3 x.2))
  | [], _, p, h, hp => by
    have h : _ = [] := h
    rw [h] at hp
    cases hp
  | x :: xs, _, p, h, hp => by
    obtain ⟨a, r, rfl, h1, h2⟩ := h
    rcases List.mem_cons.mp hp with rfl | hp
    · exact ⟨x, List.mem_cons_self, a, rfl, h1⟩
    · obtain ⟨y, hy, b, e, hb⟩ := WAt.mem h2 hp
      exact ⟨y, List.mem_cons_of_mem _ hy, b, e, hb⟩
/-! ### keys of merged dicts -/
theorem valV_mem {kvs : List (Key × V)} {k : Key} {v : V} (h : valV kvs k = some v) : (k, v) ∈ kvs := by
  induction kvs with
  | nil => cases h
  | cons p r ih =>
    by_cases e : p.1 = k
    · rw [valV_pos e] at h
      cases h
      subst e
      exact List.mem_cons_self
    · rw [valV_neg e] at h
      exact List.mem_cons_of_mem _ (ih h)
theorem valV_some {kvs : List (Key × V)} {k : Key} (h : k ∈ kvs.map (·.1)) : ∃ v, valV kvs k = some v := by
  induction kvs with
  | nil => cases h
  | cons p r ih =>
    by_cases e : p.1 = k
    · exact ⟨p.2, valV_pos e⟩
    · rw [valV_neg e]
      refine ih ?_
      rcases List.mem_cons.mp h with h | h
      · exact absurd h.symm e
      · exact h
theorem valV_of_mem {kvs : List (Key × V)} {k : Key} {v : V} (nd : (kvs.map (·.1)).Nodup) (h : (k, v) ∈ kvs) : valV kvs k = some v := by
  induction kvs with
  | nil => cases h
  | cons p r ih =>
    simp only [List.map_cons, List.nodup_cons] at nd
    rcases List.mem_cons.mp h with rfl | h
    · exact valV_pos rfl
    · rw [valV_neg (fun e => nd.1 (by rw [e]; exact List.mem_map.mpr ⟨_, h, rfl⟩))]
      exact ih nd.2 h
theorem putK_new {kvs : List (Key × V)} {k : Key} {v : V} (h : k ∉ kvs.map (·.1)) : putK kvs k v = kvs ++ [(k, v)] := by
  unfold putK
  rw [if_neg]
  intro z
  obtain ⟨p, hp, e⟩ := List.any_eq_true.mp z
  exact h (List.mem_map.mpr ⟨p, hp, of_decide_eq_true e⟩)
theorem putK_keys {kvs : List (Key × V)} {k : Key} {v : V} (h : k ∈ kvs.map (·.1)) : (putK kvs k v).map (·.1) = kvs.map (·.1) := by
  unfold putK
  rw [if_pos, List.map_map]
  · refine List.map_congr_left fun p _ => ?_
    show (if p.1 = k then (p.1, v) else p).1 = p.1
    split <;> rfl
  · obtain ⟨p, hp, e⟩ := List.mem_map.mp h
    exact List.any_eq_true.mpr ⟨p, hp, decide_eq_true e⟩
theorem putK_keys2 {kvs : List (Key × V)} {k : Key} {v : V} (h : k ∉ kvs.map (·.1)) : (putK kvs k v).map (·.1) = kvs.map (·.1) ++ [k] := by
  rw [putK_new h, List.map_append]
  rfl
theorem putK_mem {kvs : List (Key × V)} {k : Key} {v : V} {p : Key × V} (h : p ∈ putK kvs k v) : p = (k, v) ∨ p ∈ kvs := by
  unfold putK at h
  split at h
  · obtain ⟨q, hq, e⟩ := List.mem_map.mp h
    by_cases hk : q.1 = k
    · rw [if_pos hk, hk] at e
      exact .inl e.symm
    · rw [if_neg hk] at e
      rw [← e]
      exact .inr hq
  · rcases List.mem_append.mp h with h | h
    · exact .inr h
    · exact .inl (List.mem_singleton.mp h)
theorem merge_facts : ∀ (lvs kvs : List (Key × V)), (kvs.map (·.1)).Nodup → ((mergeK kvs lvs).map (·.1)).Nodup ∧ (∀ k, k ∈ (mergeK kvs lvs).map (·.1) ↔ k ∈ kvs.map (·.1) ∨ k ∈ lvs.map (·.1)) ∧ ∀ p ∈ mergeK kvs lvs, p ∈ lvs ∨ p ∈ kvs
  | [], kvs, nd => ⟨nd, fun k => by simp [mergeK], fun p hp => .inr hp⟩
  | q :: lvs, kvs, nd => by
    have nd2 : ((putK kvs q.1 q.2).map (·.1)).Nodup := by
      by_cases h : q.1 ∈ kvs.map (·.1)
      · rw [putK_keys h]
        exact nd
      · rw [putK_keys2 h]
        exact List.nodup_append.mpr ⟨nd, by simp, fun a ha b hb => by
          rw [List.mem_singleton.mp hb]
          exact fun e => h (e ▸ ha)⟩
    obtain ⟨h1, h2, h3⟩ := merge_facts lvs (putK kvs q.1 q.2) nd2
    refine ⟨h1, fun k => ?_, fun p hp => ?_⟩
    · show k ∈ (mergeK (putK kvs q.1 q.2) lvs).map (·.1) ↔ _
      rw [h2]
      by_cases h : q.1 ∈ kvs.map (·.1)
      · rw [putK_keys h]
        simp only [List.map_cons, List.mem_cons]
        constructor
        · rintro (z | z)
          · exact .inl z
          · exact .inr (.inr z)
        · rintro (z | z | z)
          · exact .inl z
          · rw [z]
            exact .inl h
          · exact .inr z
      · rw [putK_keys2 h]
        simp only [List.mem_append, List.map_cons, List.mem_cons, List.not_mem_nil, or_false, or_assoc]
    · rcases h3 p hp with h | h
      · exact .inl (List.mem_cons_of_mem _ h)
      · rcases putK_mem h with rfl | h
        · exact .inl List.mem_cons_self
        · exact .inr h
theorem ints_of {ks : List Key} (h : ∀ k ∈ ks, ∃ n : Int, k = Sum.inl n) : ∃ ns : List Int, ks = ns.map Sum.inl := by
  induction ks with
  | nil => exact ⟨[], rfl⟩
  | cons k r ih =>
    obtain ⟨n, rfl⟩ := h k List.mem_cons_self
    obtain ⟨ns, rfl⟩ := ih fun x hx => h x (List.mem_cons_of_mem _ hx)
    exact ⟨n :: ns, rfl⟩
end AF
/-! Scrolls, row by row and at once; dicts that a function gives; lists of small tuples; a walk over a list or a tuple. -/
namespace AF
open PySem PySem.Spec PyProof.Rows L2
/-! ### dicts that a function gives -/
def mkD (ks : List Int) (f : Int → Int) : List (Int × Int) := ks.map fun n => (n, f n)
def up1 (f : Int → Int) (n z : Int) : Int → Int := fun m => if m = n then z else f m
theorem up1_at (f : Int → Int) (n z : Int) : up1 f n z n = z := if_pos rfl
theorem up1_ne {f : Int → Int} {n z m : Int} (h : m ≠ n) : up1 f n z m = f m := if_neg h
theorem up1_self (f : Int → Int) (n : Int) : up1 f n (f n) = f := by
  funext m
  unfold up1
  split
  · rename_i h
    rw [h]
  · rfl
theorem up1_up1 (f : Int → Int) (n z y : Int) : up1 (up1 f n z) n y = up1 f n y := by
  funext m
  unfold up1
  split <;> rfl
theorem mkD_keys (ks : List Int) (f : Int → Int) : (mkD ks f).map (·.1) = ks := by
  unfold mkD
  rw [List.map_map]
  exact List.map_id' ks
theorem mkD_len (ks : List Int) (f : Int → Int) : (mkD ks f).length = ks.length := List.length_map _
theorem getI_mkD {ks : List Int} {f : Int → Int} {n : Int} (h : n ∈ ks) : getI (mkD ks f) n = some (f n) := by
  induction ks with
  | nil => cases h
  | cons m r ih =>
    show getI ((m, f m) :: mkD r f) n = _
    rw [getI_cons]
    by_cases e : m = n
    · rw [if_pos e]
      show some (f m) = _
      rw [e]
    · rw [if_neg e]
      refine ih ?_
      rcases List.mem_cons.mp h with h | h
      · exact absurd h.symm e
      · exact h
theorem getI_mkD_none {ks : List Int} {f : Int → Int} {n : Int} (h : n ∉ ks) : getI (mkD ks f) n = none :=
  getI_none.mpr (by rw [mkD_keys]; exact h)
theorem putI_mkD {ks : List Int} {f : Int → Int} {n z : Int} (h : n ∈ ks) : putI (mkD ks f) n z = mkD ks (up1 f n z) := by
  unfold putI
  rw [if_pos]
  · unfold mkD
    rw [List.map_map]
    refine List.map_congr_left fun m _ => ?_
    show (if m = n then (m, z) else (m, f m)) = (m, up1 f n z m)
    unfold up1
    split <;> rfl
  · exact List.any_eq_true.mpr ⟨(n, f n), List.mem_map.mpr ⟨n, h, rfl⟩, decide_eq_true rfl⟩
theorem mkD_of : ∀ {l : List (Int × Int)}, (l.map (·.1)).Nodup → l = mkD (l.map (·.1)) (fun n => (getI l n).getD 0)
  | [], _ => rfl
  | p :: r, h => by
    rw [List.map_cons, List.nodup_cons] at h
    have ih := mkD_of h.2
    show p :: r = (p.1, (getI (p :: r) p.1).getD 0) :: mkD (r.map (·.1)) (fun n => (getI (p :: r) n).getD 0)
    have e1 : (getI (p :: r) p.1).getD 0 = p.2 := by rw [getI_cons, if_pos rfl]; rfl
    have e2 : mkD (r.map (·.1)) (fun n => (getI (p :: r) n).getD 0) = r := by
      refine Eq.trans ?_ ih.symm
      unfold mkD
      refine List.map_congr_left fun n hn => ?_
      show (n, (getI (p :: r) n).getD 0) = (n, (getI r n).getD 0)
      rw [getI_cons, if_neg (fun e => h.1 (by rw [e]; exact hn))]
    rw [e1, e2]
theorem mkD_congr {ks : List Int} {f g : Int → Int} (h : ∀ n ∈ ks, f n = g n) : mkD ks f = mkD ks g :=
  List.map_congr_left fun n hn => by rw [h n hn]
theorem DGet_mk {H : Hp} {a : Addr} {ks : List Int} {f : Int → Int} {n : Int} (e : H a = some (.dK (AF.dI (mkD ks f)))) (h : n ∈ ks) : DGet H a (.int n) (some (.int (f n))) := by
  have q := AF.DGet.dI (n := n) e
  rw [getI_mkD h] at q
  exact q
theorem DPut_mk {H : Hp} {a : Addr} {ks : List Int} {f : Int → Int} {n z : Int} (e : H a = some (.dK (AF.dI (mkD ks f)))) (h : n ∈ ks) (hl : ks.length ≤ 1000) : DPut H a (.int n) (.int z) (upd H a (.dK (AF.dI (mkD ks (up1 f n z))))) := by
  have q := AF.DPut.dI (n := n) (z := z) e (small1000 (by rw [mkD_len]; exact hl))
  rw [putI_mkD h] at q
  exact q
/-! ### scrolls -/
def cap (rg f : Int → Int) (s n : Int) : Nat := (if s = 1 then rg n - f n else f n).toNat
/-- all of the amount: the offsets -/
def G (rg : Int → Int) (s : Int) : List Int → Nat → (Int → Int) → (Int → Int)
  | [], _, f => f
  | n :: r, k, f => G rg s r (k - min k (cap rg f s n)) (up1 f n (f n + s * (min k (cap rg f s n) : Nat)))
/-- and the moves -/
def MS (rg : Int → Int) (s : Int) : List Int → Nat → (Int → Int) → List (Int × Int)
  | [], _, _ => []
  | n :: r, k, f => (if min k (cap rg f s n) = 0 then [] else [(n, s * (min k (cap rg f s n) : Nat))]) ++ MS rg s r (k - min k (cap rg f s n)) (up1 f n (f n + s * (min k (cap rg f s n) : Nat)))
/-- one row -/
def bst (rg : Int → Int) (s : Int) : Bool × (Int → Int) → Int → Bool × (Int → Int)
  | (true, f), _ => (true, f)
  | (false, f), n => if 0 ≤ f n + s ∧ f n + s ≤ rg n then (true, up1 f n (f n + s)) else (false, f)
def bump (rg : Int → Int) (s : Int) (ps : List Int) (f : Int → Int) : Int → Int := (ps.foldl (bst rg s) (false, f)).2
def rows (rg : Int → Int) (s : Int) (ps : List Int) : Nat → (Int → Int) → (Int → Int)
  | 0, f => f
  | k + 1, f => bump rg s ps (rows rg s ps k f)
def Bd (rg f : Int → Int) (ps : List Int) : Prop := ∀ n ∈ ps, 0 ≤ f n ∧ f n ≤ rg n
theorem G_notin {rg : Int → Int} {s : Int} : ∀ {ps : List Int} {k : Nat} {f : Int → Int} {m : Int}, m ∉ ps → G rg s ps k f m = f m
  | [], _, _, _, _ => rfl
  | n :: r, k, f, m, h => by
    rw [G, G_notin (ps := r) (fun z => h (List.mem_cons_of_mem _ z))]
    exact up1_ne fun e => h (by rw [e]; exact List.mem_cons_self)
theorem G_zero {rg : Int → Int} {s : Int} : ∀ {ps : List Int} {f : Int → Int}, G rg s ps 0 f = f
  | [], _ => rfl
  | n :: r, f => by
    rw [G, Nat.zero_min, Nat.zero_sub]
    have e : f n + s * ((0 : Nat) : Int) = f n := by simp
    rw [e, up1_self]
    exact G_zero
theorem bst_true (rg : Int → Int) (s : Int) (f : Int → Int) : ∀ ps : List Int, ps.foldl (bst rg s) (true, f) = (true, f)
  | [] => rfl
  | n :: r => bst_true rg s f r
theorem Bd.tail {rg f : Int → Int} {n z : Int} {r : List Int} (h : Bd rg f (n :: r)) (nd : n ∉ r) : Bd rg (up1 f n z) r := fun m hm => by
  have e : m ≠ n := fun e => nd (e ▸ hm)
  rw [up1_ne e]
  exact h m (List.mem_cons_of_mem _ hm)
theorem bump_G {rg : Int → Int} {s : Int} (hs : s = 1 ∨ s = -1) : ∀ {ps : List Int} {k : Nat} {f : Int → Int}, ps.Nodup → Bd rg f ps → bump rg s ps (G rg s ps k f) = G rg s ps (k + 1) f
  | [], k, f, _, _ => rfl
  | n :: r, k, f, nd, hb => by
    rw [List.nodup_cons] at nd
    have hn := hb n List.mem_cons_self
    have ht : ∀ z, Bd rg (up1 f n z) r := fun z => hb.tail nd.1
    have hgn : ∀ (k' : Nat) (z : Int), G rg s r k' (up1 f n z) n = z := fun k' z => by
      rw [G_notin nd.1, up1_at]
    unfold bump
    rw [List.foldl_cons, G, G]
    have hc : (cap rg f s n : Int) = if s = 1 then rg n - f n else f n := by
      unfold cap
      split <;> omega
    by_cases hk : k < cap rg f s n
    · have e1 : min k (cap rg f s n) = k := Nat.min_eq_left (Nat.le_of_lt hk)
      have e2 : min (k + 1) (cap rg f s n) = k + 1 := Nat.min_eq_left hk
      rw [e1, e2, Nat.sub_self, Nat.sub_self, G_zero, G_zero]
      have hm : 0 ≤ up1 f n (f n + s * (k : Int)) n + s ∧ up1 f n (f n + s * (k : Int)) n + s ≤ rg n := by
        rw [up1_at]
        rcases hs with rfl | rfl
        · rw [if_pos rfl] at hc
          omega
        · rw [if_neg (by decide)] at hc
          omega
      have e3 : bst rg s (false, up1 f n (f n + s * (k : Int))) n = (true, up1 (up1 f n (f n + s * (k : Int))) n (up1 f n (f n + s * (k : Int)) n + s)) := by
        simp only [bst]
        rw [if_pos hm]
      rw [e3, bst_true]
      simp only [up1_at, up1_up1]
      congr 1
      rw [Int.natCast_add, Int.mul_add]
      simp
      omega
    · have e1 : min k (cap rg f s n) = cap rg f s n := Nat.min_eq_right (by omega)
      have e2 : min (k + 1) (cap rg f s n) = cap rg f s n := Nat.min_eq_right (by omega)
      rw [e1, e2]
      have hm : ¬ (0 ≤ G rg s r (k - cap rg f s n) (up1 f n (f n + s * (cap rg f s n : Nat))) n + s ∧ G rg s r (k - cap rg f s n) (up1 f n (f n + s * (cap rg f s n : Nat))) n + s ≤ rg n) := by
        rw [hgn]
        rcases hs with rfl | rfl
        · rw [if_pos rfl] at hc
          omega
        · rw [if_neg (by decide)] at hc
          omega
      have e3 : bst rg s (false, G rg s r (k - cap rg f s n) (up1 f n (f n + s * (cap rg f s n : Nat)))) n = (false, G rg s r (k - cap rg f s n) (up1 f n (f n + s * (cap rg f s n : Nat)))) := by
        simp only [bst]
        rw [if_neg hm]
      rw [e3]
      have ih := bump_G hs (k := k - cap rg f s n) nd.2 (ht (f n + s * (cap rg f s n : Nat)))
      unfold bump at ih
      rw [ih]
      congr 1
      omega
theorem rows_G {rg : Int → Int} {s : Int} (hs : s = 1 ∨ s = -1) {ps : List Int} {f : Int → Int} (nd : ps.Nodup) (hb : Bd rg f ps) : ∀ k : Nat, rows rg s ps k f = G rg s ps k f
  | 0 => G_zero.symm
  | k + 1 => by
    rw [rows, rows_G hs nd hb k, bump_G hs nd hb]
theorem MS_eq {rg : Int → Int} {s : Int} (hs : s = 1 ∨ s = -1) : ∀ {ps : List Int} {k : Nat} {f : Int → Int}, ps.Nodup → MS rg s ps k f = (ps.filter fun n => decide (G rg s ps k f n ≠ f n)).map fun n => (n, G rg s ps k f n - f n)
  | [], k, f, _ => rfl
  | n :: r, k, f, nd => by
    rw [List.nodup_cons] at nd
    have ih := MS_eq (rg := rg) hs (k := k - min k (cap rg f s n)) (f := up1 f n (f n + s * (min k (cap rg f s n) : Nat))) nd.2
    rw [MS, ih, G]
    generalize hm : min k (cap rg f s n) = m
    have hgn : G rg s r (k - m) (up1 f n (f n + s * (m : Int))) n = f n + s * (m : Int) := by rw [G_notin nd.1, up1_at]
    generalize G rg s r (k - m) (up1 f n (f n + s * (m : Int))) = g at *
    have e1 : (r.filter fun x => decide (g x ≠ up1 f n (f n + s * (m : Int)) x)) = r.filter fun x => decide (g x ≠ f x) := by
      refine List.filter_congr fun x hx => ?_
      rw [up1_ne (fun e : x = n => nd.1 (e ▸ hx))]
    have e2 : ((r.filter fun x => decide (g x ≠ f x)).map fun x => (x, g x - up1 f n (f n + s * (m : Int)) x)) = (r.filter fun x => decide (g x ≠ f x)).map fun x => (x, g x - f x) := by
      refine List.map_congr_left fun x hx => ?_
      rw [up1_ne (fun e : x = n => nd.1 (e ▸ (List.mem_filter.mp hx).1))]
    rw [e1, e2, List.filter_cons]
    by_cases h0 : m = 0
    · subst h0
      have e3 : g n = f n := by rw [hgn]; simp
      rw [if_pos rfl, if_neg (by simp [e3])]
      rfl
    · have e3 : g n ≠ f n := by
        rw [hgn]
        rcases hs with rfl | rfl <;> omega
      have e4 : g n - f n = s * (m : Int) := by rw [hgn]; omega
      rw [if_neg h0, if_pos (decide_eq_true e3), List.map_cons, e4]
      rfl
/-- what step_of answers -/
def stepOf (z a g : Int) : Int := if a > 0 then mx 0 (mn a (g - z)) else mn 0 (mx a (-z))
theorem stepOf_eq {rg f : Int → Int} {s n : Int} {k : Nat} (hs : s = 1 ∨ s = -1) (h0 : 0 ≤ f n) (h1 : f n ≤ rg n) : stepOf (f n) (s * (k : Int)) (rg n) = s * (min k (cap rg f s n) : Nat) := by
  unfold stepOf mx mn cap
  rcases hs with rfl | rfl
  · rw [if_pos rfl]
    repeat' split
    all_goals omega
  · rw [if_neg (show ¬ (-1 : Int) = 1 by decide)]
    repeat' split
    all_goals omega
/-- brought into the range -/
def clampR (r w : Int) : Int := if (if r < w then r else w) > 0 then (if r < w then r else w) else 0
theorem G_one {rg f : Int → Int} {s n a : Int} (hs : s = if a > 0 then 1 else -1) (h0 : 0 ≤ f n) (h1 : f n ≤ rg n) : G rg s [n] a.natAbs f = up1 f n (clampR (rg n) (f n + a)) := by
  rw [G, G]
  congr 1
  unfold clampR cap
  subst hs
  by_cases c : a > 0
  · rw [if_pos c, if_pos rfl]
    repeat' split
    all_goals omega
  · rw [if_neg c, if_neg (show ¬ (-1 : Int) = 1 by decide)]
    repeat' split
    all_goals omega
theorem clampR_bd {r w : Int} (h : 0 ≤ r) : 0 ≤ clampR r w ∧ clampR r w ≤ r := by
  unfold clampR
  repeat' split
  all_goals omega
/-- moves, done one after another -/
def doMs (rg : Int → Int) (ks : List Int) : List (Int × Int) → (Int → Int) → (Int → Int)
  | [], f => f
  | m :: r, f => doMs rg ks r (if m.1 ∈ ks then up1 f m.1 (clampR (rg m.1) (f m.1 + m.2)) else f)
theorem doMs_snoc (rg : Int → Int) (ks : List Int) (m : Int × Int) : ∀ (l : List (Int × Int)) (f : Int → Int), doMs rg ks (l ++ [m]) f = (if m.1 ∈ ks then up1 (doMs rg ks l f) m.1 (clampR (rg m.1) (doMs rg ks l f m.1 + m.2)) else doMs rg ks l f)
  | [], f => rfl
  | p :: r, f => doMs_snoc rg ks m r _
theorem doMs_bd {rg : Int → Int} {ks : List Int} (hr : ∀ n ∈ ks, 0 ≤ rg n) : ∀ (l : List (Int × Int)) (f : Int → Int), Bd rg f ks → Bd rg (doMs rg ks l f) ks
  | [], f, h => h
  | p :: r, f, h => by
    refine doMs_bd hr r _ ?_
    split
    · intro n hn
      by_cases e : n = p.1
      · subst e
        rw [up1_at]
        exact clampR_bd (hr _ hn)
      · rw [up1_ne e]
        exact h n hn
    · exact h
/-! ### lists of small tuples -/
def TupsAt (H : Hp) : List V → List (List V) → Prop
  | vs, [] => vs = []
  | vs, x :: xs => ∃ (a : Addr) (r : List V), vs = .ref a :: r ∧ H a = some (.tup x) ∧ TupsAt H r xs
section
variable {H H' : Hp}
theorem TupsAt.k (k : KeepT H H') : ∀ {ts : List (List V)} {vs : List V}, TupsAt H vs ts → TupsAt H' vs ts
  | [], _, h => h
  | t :: ts, _, h => by
    obtain ⟨a, r, e, h1, h2⟩ := h
    exact ⟨a, r, e, k _ _ h1, TupsAt.k k h2⟩
theorem TupsAt.s (h : TupsAt H vs ts) (e : Same H H') : TupsAt H' vs ts := h.k (Same.keepT e)
theorem TupsAt.len : ∀ {ts : List (List V)} {vs : List V}, TupsAt H vs ts → vs.length = ts.length
  | [], _, h => by
    have h : _ = [] := h
    rw [h]
    rfl
  | t :: ts, _, h => by
    obtain ⟨a, r, rfl, h1, h2⟩ := h
    rw [List.length_cons, List.length_cons, TupsAt.len h2]
theorem TupsAt.snoc {a : Addr} {t : List V} (h1 : H a = some (.tup t)) : ∀ {ts : List (List V)} {vs : List V}, TupsAt H vs ts → TupsAt H (vs ++ [.ref a]) (ts ++ [t])
  | [], _, h => by
    have h : _ = [] := h
    rw [h]
    exact ⟨a, [], rfl, h1, rfl⟩
  | u :: ts, _, h => by
    obtain ⟨b, r, rfl, h2, h3⟩ := h
    exact ⟨b, r ++ [.ref a], rfl, h2, TupsAt.snoc h1 h3⟩
theorem TupsAt.get : ∀ {ts : List (List V)} {vs : List V} {i : Nat} {v : V}, TupsAt H vs ts → vs[i]? = some v → ∃ t a, ts[i]? = some t ∧ v = .ref a ∧ H a = some (.tup t)
  | [], _, i, v, h, e => by
    have h : _ = [] := h
    rw [h] at e
    simp at e
  | u :: ts, _, 0, v, h, e => by
    obtain ⟨b, r, rfl, h2, h3⟩ := h
    have e : V.ref b = v := by simpa using e
    exact ⟨u, b, rfl, e.symm, h2⟩
  | u :: ts, _, i + 1, v, h, e => by
    obtain ⟨b, r, rfl, h2, h3⟩ := h
    exact TupsAt.get (i := i) h3 (by simpa using e)
theorem TupsAt.nil : TupsAt H [] [] := rfl
end
/-- a move as a tuple -/
def mv (p : Int × Int) : List V := [.int p.1, .int p.2]
def mvPy (p : Int × Int) : PyData := .tuple [.int p.1, .int p.2]
theorem mv_dp {K : PySem.W.Frag} {H : Hp} : ∀ {ms : List (Int × Int)} {vs : List V}, TupsAt H vs (ms.map mv) → DpAll K H vs (ms.map mvPy)
  | [], _, h => by
    have h : _ = [] := h
    rw [h]
    exact .nil
  | m :: ms, _, h => by
    obtain ⟨a, r, rfl, h1, h2⟩ := h
    exact .cons (.tup (.of h1) (.cons (.int _) (.cons (.int _) .nil))) (mv_dp h2)
theorem mvPy_dd : ∀ ms : List (Int × Int), ddL (ms.map mvPy) ≤ 1
  | [] => by simp [ddL]
  | m :: r => by
    have := mvPy_dd r
    simp only [List.map_cons, mvPy, ddL, dd] at this ⊢
    omega
theorem mvPy_wd : ∀ ms : List (Int × Int), wdL (ms.map mvPy) ≤ 2
  | [] => by simp [wdL]
  | m :: r => by
    have := mvPy_wd r
    simp only [List.map_cons, mvPy, wdL, wd, List.length_cons, List.length_nil] at this ⊢
    omega
/-! ### a walk over a list or a tuple -/
def SqA (K : PySem.W.Frag) (t : Bool) (H : Hp) (a : Addr) (xs : List V) : Prop := if t = true then SqT K H a xs else SqL K H a xs
def ItA (K : PySem.W.Frag) (t : Bool) (a : Addr) : It := if t = true then Itt K a else Itl K a
def iSeq (K : PySem.W.Frag) (tl : TE) : TI := fun σ H R => ∃ t : Bool, tl σ H fun x H1 => ∃ a, x = .ref a ∧ (∃ xs, SqA K t H1 a xs) ∧ R (ItA K t a) H1
theorem piA {X : Cx} {tg l : Expr} {tl : TE} (K : PySem.W.Frag) (h : X.K = K) (hl : PE X l tl) : PI X tg l (iSeq K tl) := by
  subst h
  refine ⟨fun pins s σ H R I h => ?_⟩
  obtain ⟨t, h⟩ := h
  cases t with
  | true => exact (pi_tup hl).run pins s σ H R I h
  | false => exact (pi_list hl).run pins s σ H R I h
theorem for_seq {K : PySem.W.Frag} {a : Addr} {t : Bool} {xs : List V} {g : TG} {tb : TS} {D : Ends} {σ : L2.St} {H : Hp} (Pv : Nat → L2.St → Hp → Prop) (h0 : Pv 0 σ H) (hl : ∀ i σ H, i ≤ xs.length → Pv i σ H → SqA K t H a xs)
    (hs : ∀ i x σ H, xs[i]? = some x → Pv i σ H → g x σ H fun σ2 H2 => tb { D with nx := Pv (i + 1), ct := Pv (i + 1), bk := D.nx } σ2 H2) (hd : ∀ σ H, Pv xs.length σ H → D.nx σ H) :
    ∃ W : Nat → Nat → L2.St → Hp → Prop, (∃ m, W 0 m σ H) ∧ ∀ i m σ H, W i m σ H →
      ((ItA K t a).stop i H ∧ D.nx σ H) ∨ ((ItA K t a).go i H ∧ ∃ N : L2.St → Hp → Prop, (∀ σ' H', N σ' H' → ∃ m', m' < m ∧ W (i + 1) m' σ' H') ∧ ∀ x H', (ItA K t a).yld i H x H' → g x σ H' fun σ2 H2 => tb { D with nx := N, ct := N, bk := D.nx } σ2 H2) := by
  cases t with
  | true => exact for_tup Pv h0 hl hs hd
  | false => exact for_list Pv h0 hl hs hd
theorem SqA.lst {K : PySem.W.Frag} {H : Hp} {a : Addr} {xs : List V} (h : H a = some (.lst xs)) : SqA K false H a xs := .of h
theorem SqA.tup {K : PySem.W.Frag} {H : Hp} {a : Addr} {xs : List V} (h : H a = some (.tup xs)) : SqA K true H a xs := .of h
theorem SqA.same {K : PySem.W.Frag} {H H' : Hp} {t : Bool} {a : Addr} {xs : List V} (h : SqA K t H a xs) (e : Same H H') : SqA K t H' a xs := by
  cases t with
  | true => exact Same.seqT e h
  | false => exact _root_.L2.Same.seq e h
end AF
namespace AF
open PySem PySem.Spec PyProof.Rows L2
theorem sgn_if {b : Bool} {σ : L2.St} {H : Hp} {Q : VK} (h : Q (.int (if b = true then 1 else -1)) H) : if b = true then tC (.int 1) σ H Q else tUn (rU fun i => .int (-i)) (tC (.int 1)) σ H Q := by
  cases b with
  | true => exact h
  | false => exact ⟨1, rfl, h⟩
theorem int_at {ns : List Int} {i : Nat} {y : V} (h : (ns.map V.int)[i]? = some y) : ∃ n, ns[i]? = some n ∧ y = V.int n := by
  rw [List.getElem?_map] at h
  cases hq : ns[i]? with
  | none =>
    rw [hq] at h
    cases h
  | some n =>
    rw [hq] at h
    exact ⟨n, rfl, (Option.some.inj h).symm⟩
theorem take_snoc {α : Type} {l : List α} {i : Nat} {x : α} (h : l[i]? = some x) : l.take (i + 1) = l.take i ++ [x] := by
  rw [List.take_add_one, h]
  rfl
end AF
namespace AF
open PySem PySem.Spec PyProof.Rows L2
theorem cutA_to (xs : List V) (n : Nat) : cutV xs none (some (n : Int)) = xs.take n := by
  unfold cutV
  rw [HT.sIx_nat]
  show (xs.drop 0).take (min n xs.length - 0) = _
  rw [List.drop_zero, Nat.sub_zero]
  by_cases h : n ≤ xs.length
  · rw [Nat.min_eq_left h]
  · rw [Nat.min_eq_right (by omega), List.take_length, List.take_of_length_le (by omega)]
theorem cutA_from (xs : List V) (n : Nat) : cutV xs (some (n : Int)) none = xs.drop n := by
  unfold cutV
  rw [HT.sIx_nat]
  show (xs.drop (min n xs.length)).take (xs.length - min n xs.length) = _
  by_cases h : n ≤ xs.length
  · rw [Nat.min_eq_left h, List.take_of_length_le (by rw [List.length_drop]; omega)]
  · rw [Nat.min_eq_right (by omega), List.drop_of_length_le (Nat.le_refl _), List.drop_of_length_le (by omega), List.take_nil]
namespace Box
theorem rng_nn (b : Box) : 0 ≤ b.rng := by
  unfold rng
  split <;> omega
/-- the scrollers' ranges -/
def rngs (l : List Box) : List (Int × Int) := (l.filter isS).map fun c => (c.num, c.rng)
theorem rngs_keys (l : List Box) : (rngs l).map (·.1) = (l.filter isS).map num := by
  unfold rngs
  rw [List.map_map]
  rfl
theorem find_num {l : List Box} (hn : (l.map num).Nodup) {c : Box} (hc : c ∈ l) : l.find? (byNum c.num) = some c := by
  induction l with
  | nil => cases hc
  | cons x r ih =>
    rw [List.map_cons, List.nodup_cons] at hn
    rw [List.find?_cons]
    rcases List.mem_cons.mp hc with rfl | hc
    · have : byNum c.num c = true := decide_eq_true rfl
      rw [this]
    · have : byNum c.num x = false := decide_eq_false fun e => hn.1 (by rw [e]; exact List.mem_map.mpr ⟨c, hc, rfl⟩)
      rw [this]
      exact ih hn.2 hc
theorem find_num_some {l : List Box} {n : Int} {c : Box} (h : l.find? (byNum n) = some c) : c ∈ l ∧ c.num = n :=
  ⟨List.mem_of_find?_eq_some h, of_decide_eq_true (by simpa [byNum] using List.find?_some h)⟩
theorem rngs_get {l : List Box} (hn : (l.map num).Nodup) {c : Box} (hc : c ∈ l) (hS : c.isS = true) : getI (rngs l) c.num = some c.rng := by
  induction l with
  | nil => cases hc
  | cons x r ih =>
    rw [List.map_cons, List.nodup_cons] at hn
    unfold rngs at ih ⊢
    rw [List.filter_cons]
    rcases List.mem_cons.mp hc with rfl | hc
    · rw [if_pos hS, List.map_cons, getI_cons, if_pos rfl]
    · by_cases xS : x.isS = true
      · rw [if_pos xS, List.map_cons, getI_cons, if_neg (fun e => hn.1 (by rw [show x.num = c.num from e]; exact List.mem_map.mpr ⟨c, hc, rfl⟩))]
        exact ih hn.2 hc
      · rw [if_neg xS]
        exact ih hn.2 hc
end Box
theorem DGet_no {H : Hp} {a : Addr} {ks : List Int} {f : Int → Int} {n : Int} (e : H a = some (.dK (AF.dI (mkD ks f)))) (h : n ∉ ks) : DGet H a (.int n) none := by
  have q := AF.DGet.dI (n := n) e
  rw [getI_mkD_none h] at q
  exact q
/-- two dicts that say the same -/
theorem dI_mk_self {ks : List Int} {f : Int → Int} (hn : ks.Nodup) {p : Key × V} (hp : p ∈ AF.dI (mkD ks f)) : ∃ n ∈ ks, p = (Sum.inl n, V.int (f n)) ∧ valV (AF.dI (mkD ks f)) p.1 = some p.2 := by
  obtain ⟨q, hq, e1, e2⟩ := AF.dI_self (by rw [mkD_keys]; exact hn) hp
  unfold mkD at hq
  obtain ⟨n, hn, rfl⟩ := List.mem_map.mp hq
  exact ⟨n, hn, e1, e2⟩
theorem dI_mk_keys (ks : List Int) (f : Int → Int) : (AF.dI (mkD ks f)).map (·.1) = ks.map Sum.inl := by
  rw [dI_keys, mkD_keys]
theorem dI_mk_len (ks : List Int) (f : Int → Int) : (AF.dI (mkD ks f)).length = ks.length := by rw [dI_len, mkD_len]
end AF
/-! Own errors without an own __init__: what is asked of their classes; a try with several clauses that name the error. -/
namespace AF
open PySem PySem.Spec PyProof.Rows L2
/-- an own error class named x at C -/
structure Er1 (K : PySem.W.Frag) (mg : Str → Option Value) (x : Str) (C : Addr) : Prop where
  g : mg x = some (.ref C)
  x : PySem.W.excIn K C [.type "ValueError", .type "Exception", .type "BaseException", .type "object"] "ValueError.__new__" = true
  k : PySem.W.keepIn K (.ref C) = true
  b : PySem.W.subIn K (.ref C) (.type "BaseException") = some true
  t : PySem.W.typeIn K (.ref C) = some (.type "type")
  i : PySem.W.isClsIn K C = true
  s : PySem.W.subIn K (.ref C) (.ref C) = some true
section
variable {K : PySem.W.Frag} {mg : Str → Option Value} {x y : Str} {C D : Addr} {b : Bool}
theorem kitC_any (h2 : PySem.W.isClsIn K D = true) (h3 : PySem.W.typeIn K (.ref D) = some (.type "type")) (h4 : PySem.W.subIn K (.ref C) (.ref D) = some b) : PySem.W.kitCls K (.ref C) (.ref D) = some b := by
  have e2 : ((PySem.W.clsIn K D).isSome && PySem.W.typeIn K (.ref D) == some (.type "type")) = true := by
    have h2' : (PySem.W.clsIn K D).isSome = true := h2
    rw [h2', h3] <;> rfl
  show (if ((PySem.W.clsIn K D).isSome && PySem.W.typeIn K (.ref D) == some (.type "type")) = true then PySem.W.subIn K (.ref C) (.ref D) else none) = some b
  rw [if_pos e2]
  exact h4
theorem Er1.exm (E : Er1 K mg x D) (h : PySem.W.subIn K (.ref C) (.ref D) = some b) : PySem.W.exmOne K (.ref C) (.ref D) = some b := by
  have e1 : (PySem.W.subIn K (.ref D) (.type "BaseException") == some true) = true := by rw [E.b] <;> rfl
  show (if (PySem.W.subIn K (.ref D) (.type "BaseException") == some true) = true then PySem.W.kitCls K (.ref C) (.ref D) else none) = some b
  rw [if_pos e1]
  exact kitC_any E.i E.t h
theorem Er1.self (E : Er1 K mg x C) : PySem.W.exmOne K (.ref C) (.ref C) = some true := E.exm E.s
end
/-- the three errors of edits -/
structure Ers (K : PySem.W.Frag) (mg : Str → Option Value) (CN CB CR : Addr) : Prop where
  n : Er1 K mg "NoSuchBox" CN
  b : Er1 K mg "NotAScroller" CB
  r : Er1 K mg "RefusedEdit" CR
  bn : PySem.W.subIn K (.ref CB) (.ref CN) = some false
  rn : PySem.W.subIn K (.ref CR) (.ref CN) = some false
  rb : PySem.W.subIn K (.ref CR) (.ref CB) = some false
/-- and their common base, for isinstance -/
structure ErF (K : PySem.W.Frag) (mg : Str → Option Value) (CN CB CR F : Addr) : Prop where
  g : mg "FrameError" = some (.ref F)
  n : L2.ExcC K CN
  b : L2.ExcC K CB
  r : L2.ExcC K CR
  i : PySem.W.isClsIn K F = true
  t : PySem.W.typeIn K (.ref F) = some (.type "type")
  sn : PySem.W.subIn K (.ref CN) (.ref F) = some true
  sb : PySem.W.subIn K (.ref CB) (.ref F) = some true
  sr : PySem.W.subIn K (.ref CR) (.ref F) = some true
theorem kit_any {K : PySem.W.Frag} {C D : Addr} (h2 : PySem.W.isClsIn K D = true) (h3 : PySem.W.typeIn K (.ref D) = some (.type "type")) (h4 : PySem.W.subIn K (.ref C) (.ref D) = some true) : PySem.W.kitOne K (.ref C) (.ref D) = some true := by
  unfold PySem.W.kitOne
  split
  · rfl
  · exact kitC_any h2 h3 h4
/-- what leaves a def: an error of class C, the heap as it was -/
def ErAt (C : Addr) (E : XK) (H : Hp) : Prop := ∀ H' : Hp, Same H H' → E (.ref C) none H'
theorem ErAt.same {C : Addr} {E : XK} {H H1 : Hp} (e : ErAt C E H) (s : Same H H1) : ErAt C E H1 := fun H' s' => e H' (s.trans s')
/-- clauses that name the error, all by the name in slot i -/
def wAsM (K : PySem.W.Frag) (i : Nat) (D : Ends) : List (Value × (Addr → Value → Option Addr → TS)) → WX
  | [] => fun _ _ _ _ => False
  | (c, ts) :: r => fun cls d σ H => ∃ b, PySem.W.exmOne K cls c = some b ∧
      (b = true → ∀ a, H a = none → ts a cls d { nx := fun σ' H' => D.nx (σ'.set i none) H', rt := D.rt, bk := fun σ' H' => D.bk (σ'.set i none) H', ct := fun σ' H' => D.ct (σ'.set i none) H' } (σ.set i (some (.ref a))) H) ∧ (b = false → wAsM K i D r cls d σ H)
inductive AsM (X : Cx) (n : Str) : List ExceptHandler → List (Value × (Addr → Value → Option Addr → TS)) → Prop
  | nil : AsM X n [] []
  | cons {x : Str} {c : Value} {ts : Addr → Value → Option Addr → TS} {b₀ : Stmt} {suite : List Stmt} {np pos' : Pos} {hds : List ExceptHandler} {l : List (Value × (Addr → Value → Option Addr → TS))} (hc : Names X x c)
      (hsu : ∀ (a : Addr) (oe : Obj) (cls : Value) (d : Option Addr) (pn : List (Addr × Obj)), Zc cls d oe → (∃ vs, oe.data = .fields vs) → PSs (X.suite a ((a, oe) :: pn)) (b₀ :: suite) (ts a cls d)) (r : AsM X n hds l) :
      AsM X n (.ExceptHandler (some (.Name x np)) (some n) (b₀ :: suite) pos' :: hds) ((c, ts) :: l)
section
variable {X : Cx} {n : Str} {i : Nat} {body : List Stmt} {h₀ : ExceptHandler} {hds : List ExceptHandler} {l : List (Value × (Addr → Value → Option Addr → TS))} {pos : Pos} {tb : WX → TS}
theorem ps_try_asM (hs : X.stack = X.env :: X.outer) (hf : X.env.frame = some X.env.locals) (hN : X.N.Nodup) (hi : X.N[i]? = some n) (hln : X.env.kindOf n = some .local)
    (hb : ∀ (W : WX) (pn : List (Addr × Obj)) (xe : Value → Shared → Prop), Takes (X.tr pn xe) W → PassesOwn (model X.prog X.w) X.A X.env xe → PSs (X.tr pn xe) body (tb W))
    (hh : AsM X n (h₀ :: hds) l) : PS X (.Try body (h₀ :: hds) [] [] pos) (fun D σ H => tb (wAsM X.K i D l) D σ H) := by
  refine ⟨fun pins s σ H D I h => ?_⟩
  have ok := I.ok
  have hfr : X.A.frames = some (X.env :: X.outer) := by rw [ok.frames, hs]
  refine wpAny_Try_except ?_
  have run := (hb (wAsM X.K i D l) (X.pn ++ pins) (fun e s₁ => wpAny (model X.prog X.w) X.A (noteFrame e X.env) (fun _ s₂ => wpAny (model X.prog X.w) X.A (setFlight e none) (fun _ s₃ =>
    wpAny (model X.prog X.w) X.A (handleBy e X.env (h₀ :: hds)) (SP X pins D) X.xe s₃) X.xe s₂) X.xe s₁) (fun u s' xx => ?_) PassesOwn.looking).run [] s σ H D (I.toTry _) h
  · refine wpAny_mono run (fun f s1 hsp => ?_) (fun e s1 he => he)
    cases f with
    | next =>
      obtain ⟨σ', H', J', q⟩ := hsp
      exact wpAny_execs_nil ⟨σ', H', J'.ofTry ok, q⟩
    | brk =>
      obtain ⟨σ', H', J', q⟩ := hsp
      exact ⟨σ', H', J'.ofTry ok, q⟩
    | cont =>
      obtain ⟨σ', H', J', q⟩ := hsp
      exact ⟨σ', H', J'.ofTry ok, q⟩
    | ret u =>
      obtain ⟨v, σ', H', J', r, q⟩ := hsp
      exact ⟨v, σ', H', J'.ofTry ok, r, q⟩
  -- what the body lets out
  obtain ⟨a, B, sI, pins', σ', H', cls, d, rfl, J', nb, up, sky, na, os, ag, want⟩ := xx
  have J : Inv X pins σ' H' sI := J'.ofTry ok
  have sky' : Sky B (X.env :: X.outer) a (Zc cls d) X.env.locals s'.heap := by
    rw [← hs]
    exact sky
  show wpAny (model X.prog X.w) X.A (noteFrame (.ref a) X.env) _ _ _
  refine Sky.land Zc.steady hfr hf sky' fun h3 fl3 up3 => ?_
  have out : ∀ (h : Heap), HandSPX.FlyingZ B (X.env :: X.outer) a (Zc cls d) h → (s'.heap.UpToSlots h) → ∃ oe vs, h.get? a = some oe ∧ Zc cls d oe ∧ oe.data = .fields vs ∧ Inv X pins σ' H' { s' with heap := h } ∧ a ≠ X.env.locals ∧ a ∉ X.fs := fun h fl uph => by
    obtain ⟨oe, vs, he, hz, hd⟩ := fl.there
    have nfr : a ∉ frs (X.env :: X.outer) := fun hm => by
      obtain ⟨_, o', e', hnf⟩ := fl.2.2.1.mem hm
      rw [he] at e'
      cases e'
      exact hnf _ hd
    refine ⟨oe, vs, he, hz, hd, J.landed nb fl.1 (up.trans uph) os ag, fun z => nfr ?_, fun hm => nfr ?_⟩
    · exact List.mem_filterMap.mpr ⟨X.env, List.mem_cons_self, by rw [hf, z]⟩
    · obtain ⟨e, he, q⟩ := List.mem_filterMap.mp hm
      exact List.mem_filterMap.mpr ⟨e, List.mem_cons_of_mem _ he, q⟩
  obtain ⟨oe3, vs3, he3, hz3, hd3, J3, nL, nF⟩ := out h3 fl3 up3
  have S3 := J3.suite he3 hd3 na nL nF
  have LT : PySem.W.Looks (model X.prog X.w) h3 (typeOf (.ref a)) cls := fun A Q E s k q => wpAny_typeOf_ref (k _ _ he3) (by rw [hz3.1]; exact q)
  have go : ∀ {hd2 : List ExceptHandler} {l2 : List (Value × (Addr → Value → Option Addr → TS))}, AsM X n hd2 l2 → wAsM X.K i D l2 cls d σ' H' → wpAny (model X.prog X.w) X.A (handleBy (.ref a) X.env hd2) (SP X pins D) X.xe { s' with heap := h3 } := by
    intro hd2 l2 hk
    induction hk with
    | nil => exact fun z => z.elim
    | @cons x c ts b₀ suite np pos' hd3' l3 hc hsu r ih =>
      rintro ⟨b, hb1, hyes, hno⟩
      refine wpAny_handleBy_cons (codeAny_handlers_test ?_) (by intro q; cases q)
      have LM := PySem.W.exm_one (M := model X.prog X.w) (J3.kIn) LT hb1
      have test : ∀ {Q : Value → Shared → Prop} {E : Value → Shared → Prop}, Q c { s' with heap := h3 } → wpAny (model X.prog X.w) (X.A.mark (some (.ref a))) (eval (.Name x np) X.env) Q E { s' with heap := h3 } := fun {Q E} q => by
        obtain ⟨hg, hdbg, hm | ⟨hm, hv, hnn⟩⟩ := hc
        · exact ld_glob (X := X.suite a ((a, oe3) :: (X.pn ++ pins))) S3 hg hm q hdbg
        · exact ld_blt (X := X.suite a ((a, oe3) :: (X.pn ++ pins))) S3 hg hm hv q hnn hdbg
      refine test (LM.here ?_)
      cases b with
      | false => exact ih (hno rfl)
      | true =>
        refine codeAny_handlers_suite_as ?_
        refine HandSPX.lands_againZ fl3 fun h4 fl4 up4 => ?_
        obtain ⟨oe4, vs4, he4, hz4, hd4, J4, _, _⟩ := out h4 fl4 (up3.trans up4)
        have S4 := J4.suite he4 hd4 na nL nF
        refine store_ok (X := X.suite a ((a, oe4) :: (X.pn ++ pins))) (v := .ref a) S4 hN hi (.inl hln) rfl (fun s5 S5 => ?_) (.inr hln)
        have back : ∀ {σ6 : L2.St} {H6 : Hp} {Q : Shared → Prop} {s6 : Shared}, Inv (X.suite a ((a, oe4) :: (X.pn ++ pins))) [] σ6 H6 s6 → (∀ s7, Inv X pins (σ6.set i none) H6 s7 → Q s7) →
            wpAny (model X.prog X.w) X.A (do bindName X.env n .none; unbindBehindTheSuite X.env n pos') (fun _ s7 => Q s7) X.xe s6 := fun S6 hq => gone_ok (S6.unsuite ok) hN hi hln hq
        refine wpAny_mono ((hsu a oe4 cls d (X.pn ++ pins) hz4 ⟨_, hd4⟩).run [] s5 _ H' _ S5 (hyes rfl a na)) (fun f s6 hsp => ?_) (fun _ _ z => False.elim z)
        cases f with
        | next =>
          obtain ⟨σ6, H6, S6, q6⟩ := hsp
          exact back S6 fun s7 J7 => ⟨_, _, J7, q6⟩
        | brk =>
          obtain ⟨σ6, H6, S6, q6⟩ := hsp
          exact back S6 fun s7 J7 => ⟨_, _, J7, q6⟩
        | cont =>
          obtain ⟨σ6, H6, S6, q6⟩ := hsp
          exact back S6 fun s7 J7 => ⟨_, _, J7, q6⟩
        | ret u =>
          obtain ⟨v6, σ6, H6, S6, r6, q6⟩ := hsp
          exact back S6 fun s7 J7 => ⟨_, _, _, J7, r6, q6⟩
  exact go hh want
end
end AF
namespace AF
open PySem PySem.Spec PyProof.Rows L2
/-- a suite that knows which class it caught -/
theorem suiteM {Y : Cx} {C : Addr} {cls : Value} {d : Option Addr} {oe : Obj} {ss : List Stmt} {R : TS} (h : Zc (.ref C) none oe → PSs Y ss R) (hz : Zc cls d oe) : PSs Y ss (fun D σ H => cls = .ref C ∧ d = none ∧ R D σ H) :=
  ⟨fun pins s σ H D I ⟨e1, e2, q⟩ => by
    subst e1 e2
    exact (h hz).run pins s σ H D I q⟩
theorem isEK {X : Cx} {a C : Addr} {oe : Obj} {pn : List (Addr × Obj)} (K : PySem.W.Frag) (h : X.K = K) (T : L2.ExcC K C) (hz : Zc (.ref C) none oe) (hf : ∃ vs, oe.data = .fields vs) : CallR (X.suite a ((a, oe) :: pn)) (.builtin "isinstance") (rIsE K C a) := by
  subst h
  exact call_isE T hz hf
end AF
/-! Edits: at one place, and by a walk over all. -/
namespace AF
open PySem PySem.Spec PyProof.Rows L2
namespace Box
abbrev nums (l : List Box) : List Int := l.map num
mutual
/-- another box for the one with this number -/
def rep (n : Int) (o : Box) : Box → Box
  | .blk m h => if m = n then o else .blk m h
  | .scr m h ps => if m = n then o else .scr m h (repL n o ps)
def repL (n : Int) (o : Box) : List Box → List Box
  | [] => []
  | p :: r => rep n o p :: repL n o r
end
mutual
/-- the one with this number made another -/
def rf (n : Int) (f : Box → Box) : Box → Box
  | .blk m h => if m = n then f (.blk m h) else .blk m h
  | .scr m h ps => if m = n then f (.scr m h ps) else .scr m h (rfL n f ps)
def rfL (n : Int) (f : Box → Box) : List Box → List Box
  | [] => []
  | p :: r => rf n f p :: rfL n f r
end
theorem rep_same {n : Int} {o b : Box} (h : b.num = n) : rep n o b = o := by
  cases b with
  | blk m g => simp only [rep]; exact if_pos h
  | scr m g ps => simp only [rep]; exact if_pos h
theorem repL_eq (n : Int) (o : Box) : ∀ l : List Box, repL n o l = l.map (rep n o)
  | [] => by simp [repL]
  | p :: r => by simp [repL, repL_eq n o r]
theorem pre_scr (m h : Int) (ps : List Box) : (Box.scr m h ps).pre = .scr m h ps :: preL ps := by simp [pre]
theorem preL_cons (p : Box) (r : List Box) : preL (p :: r) = p.pre ++ preL r := by simp [preL]
theorem self_pre (b : Box) : b ∈ b.pre := by
  rw [pre_eq]
  exact List.mem_cons_self
mutual
theorem rf_rep {n : Int} {f : Box → Box} {o : Box} : ∀ b : Box, (∀ c ∈ b.pre, c.num = n → f c = o) → rf n f b = rep n o b
  | .blk m h, hf => by
    simp only [rf, rep]
    split
    · rename_i e
      exact hf _ (self_pre _) e
    · rfl
  | .scr m h ps, hf => by
    simp only [rf, rep]
    split
    · rename_i e
      exact hf _ (self_pre _) e
    · rw [rfL_rep ps fun c hc => hf c (by rw [pre_scr]; exact List.mem_cons_of_mem _ hc)]
theorem rfL_rep {n : Int} {f : Box → Box} {o : Box} : ∀ l : List Box, (∀ c ∈ preL l, c.num = n → f c = o) → rfL n f l = repL n o l
  | [], _ => rfl
  | p :: r, hf => by
    simp only [rfL, repL]
    rw [rf_rep p fun c hc => hf c (by rw [preL_cons]; exact List.mem_append_left _ hc), rfL_rep r fun c hc => hf c (by rw [preL_cons]; exact List.mem_append_right _ hc)]
theorem rf_no {n : Int} {f : Box → Box} : ∀ b : Box, n ∉ nums b.pre → rf n f b = b
  | .blk m h, no => by
    simp only [rf]
    rw [if_neg]
    intro e
    exact no (by rw [← e]; exact List.mem_map.mpr ⟨_, self_pre _, rfl⟩)
  | .scr m h ps, no => by
    rw [pre_scr, nums, List.map_cons, List.mem_cons] at no
    simp only [rf]
    rw [if_neg (fun e => no (.inl e.symm)), rfL_no ps fun h => no (.inr h)]
theorem rfL_no {n : Int} {f : Box → Box} : ∀ l : List Box, n ∉ nums (preL l) → rfL n f l = l
  | [], _ => rfl
  | p :: r, no => by
    rw [preL_cons, nums, List.map_append, List.mem_append] at no
    simp only [rfL]
    rw [rf_no p fun h => no (.inl h), rfL_no r fun h => no (.inr h)]
theorem rf_depth {n : Int} {f : Box → Box} {k : Nat} (hf : ∀ c, (f c).depth ≤ c.depth + k) : ∀ b : Box, (rf n f b).depth ≤ b.depth + k
  | .blk m h => by
    simp only [rf]
    split
    · exact hf _
    · omega
  | .scr m h ps => by
    simp only [rf]
    split
    · exact hf _
    · have := rfL_depth (n := n) hf ps
      simp only [depth]
      omega
theorem rfL_depth {n : Int} {f : Box → Box} {k : Nat} (hf : ∀ c, (f c).depth ≤ c.depth + k) : ∀ l : List Box, depthL (rfL n f l) ≤ depthL l + k
  | [] => by simp [rfL, depthL]
  | p :: r => by
    have h1 := rf_depth (n := n) hf p
    have h2 := rfL_depth (n := n) hf r
    simp only [rfL, depthL]
    omega
end
theorem nd_cons {m h : Int} {ps : List Box} (nd : (nums (Box.scr m h ps).pre).Nodup) : m ∉ nums (preL ps) ∧ (nums (preL ps)).Nodup := by
  rw [pre_scr, nums, List.map_cons, List.nodup_cons] at nd
  exact nd
theorem nd_app {p : Box} {r : List Box} (nd : (nums (preL (p :: r))).Nodup) : (nums p.pre).Nodup ∧ (nums (preL r)).Nodup ∧ ∀ n ∈ nums p.pre, n ∉ nums (preL r) := by
  rw [preL_cons, nums, List.map_append] at nd
  obtain ⟨h1, h2, h3⟩ := List.nodup_append.mp nd
  exact ⟨h1, h2, fun n hn hm => h3 n hn n hm rfl⟩
mutual
theorem rf_len {n : Int} {f : Box → Box} {k : Nat} (hf : ∀ c, (f c).pre.length ≤ c.pre.length + k) : ∀ b : Box, (nums b.pre).Nodup → (rf n f b).pre.length ≤ b.pre.length + k
  | .blk m h, nd => by
    simp only [rf]
    split
    · exact hf _
    · omega
  | .scr m h ps, nd => by
    simp only [rf]
    split
    · exact hf _
    · have := rfL_len (n := n) hf ps (nd_cons nd).2
      simp only [pre_scr, List.length_cons]
      omega
theorem rfL_len {n : Int} {f : Box → Box} {k : Nat} (hf : ∀ c, (f c).pre.length ≤ c.pre.length + k) : ∀ l : List Box, (nums (preL l)).Nodup → (preL (rfL n f l)).length ≤ (preL l).length + k
  | [], _ => by simp [rfL, preL]
  | p :: r, nd => by
    obtain ⟨h1, h2, h3⟩ := nd_app nd
    simp only [rfL, preL_cons, List.length_append]
    cases (inferInstance : Decidable (n ∈ nums p.pre)) with
    | isTrue h =>
      have := rf_len (n := n) hf p h1
      rw [rfL_no r (h3 n h)]
      omega
    | isFalse h =>
      have := rfL_len (n := n) hf r h2
      rw [rf_no p h]
      omega
end
/-! ### edits -/
def insAt (i : Nat) (x : Box) (l : List Box) : List Box := l.take i ++ [x] ++ l.drop i
def insF (i : Nat) (x : Box) : Box → Box
  | .blk m h => .blk m h
  | .scr m h ps => .scr m h (insAt i x ps)
def setH (g : Int) : Box → Box
  | .blk m _ => .blk m g
  | .scr m _ ps => .scr m g ps
def remP (n : Int) (l : List Box) : List Box := l.filter fun c => !decide (c.num = n)
def remF (n : Int) : Box → Box
  | .blk m h => .blk m h
  | .scr m h ps => .scr m h (remP n ps)
inductive Ed
  | ins (n i : Int) (x : Box)
  | rem (n : Int)
  | rsz (n g : Int)
def Ed.num : Ed → Int
  | .ins n _ _ => n
  | .rem n => n
  | .rsz n _ => n
def drop? : Ed → Box → Bool
  | .rem n, c => decide (c.num = n)
  | _, _ => false
mutual
/-- the law's walk -/
def lw (e : Ed) : Box → Box
  | .blk m h => match e with
    | .rsz n g => if m = n then .blk m g else .blk m h
    | _ => .blk m h
  | .scr m h ps => .scr m (match e with | .rsz n g => if m = n then g else h | _ => h) (match e with | .ins n i x => if m = n then insAt i.toNat x (lwL e ps) else lwL e ps | _ => lwL e ps)
def lwL (e : Ed) : List Box → List Box
  | [] => []
  | p :: r => if drop? e p = true then lwL e r else lw e p :: lwL e r
end
mutual
theorem lw_no {e : Ed} : ∀ b : Box, e.num ∉ nums b.pre → lw e b = b
  | .blk m h, no => by
    have ne : ¬ m = e.num := fun q => no (by rw [← q]; exact List.mem_map.mpr ⟨_, self_pre _, rfl⟩)
    simp only [lw]
    cases e with
    | ins n i x => rfl
    | rem n => rfl
    | rsz n g => exact if_neg ne
  | .scr m h ps, no => by
    rw [pre_scr, nums, List.map_cons, List.mem_cons] at no
    have ne : ¬ m = e.num := fun q => no (.inl q.symm)
    have ih := lwL_no ps fun h => no (.inr h)
    simp only [lw]
    rw [ih]
    cases e with
    | ins n i x =>
      dsimp only
      rw [if_neg (show ¬ m = n from ne)]
    | rem n => rfl
    | rsz n g =>
      dsimp only
      rw [if_neg (show ¬ m = n from ne)]
theorem lwL_no {e : Ed} : ∀ l : List Box, e.num ∉ nums (preL l) → lwL e l = l
  | [], _ => by simp [lwL]
  | p :: r, no => by
    rw [preL_cons, nums, List.map_append, List.mem_append] at no
    have hd : drop? e p = false := by
      cases e with
      | ins n i x => rfl
      | rem n => exact decide_eq_false fun q => no (.inl (by rw [← show p.num = (Ed.rem n).num from q]; exact List.mem_map.mpr ⟨_, self_pre _, rfl⟩))
      | rsz n g => rfl
    simp only [lwL]
    rw [hd, if_neg Bool.false_ne_true, lw_no p fun h => no (.inl h), lwL_no r fun h => no (.inr h)]
end
mutual
theorem lw_ins {n i : Int} {x : Box} : ∀ b : Box, (nums b.pre).Nodup → lw (.ins n i x) b = rf n (insF i.toNat x) b
  | .blk m h, nd => by
    simp only [lw, rf, insF]
    split <;> rfl
  | .scr m h ps, nd => by
    obtain ⟨h1, h2⟩ := nd_cons nd
    simp only [lw, rf]
    by_cases e : m = n
    · rw [if_pos e, if_pos e, lwL_no ps (by rw [show (Ed.ins n i x).num = n from rfl, ← e]; exact h1)]
      rfl
    · rw [if_neg e, if_neg e, lwL_ins ps h2]
theorem lwL_ins {n i : Int} {x : Box} : ∀ l : List Box, (nums (preL l)).Nodup → lwL (.ins n i x) l = rfL n (insF i.toNat x) l
  | [], _ => by simp [lwL, rfL]
  | p :: r, nd => by
    obtain ⟨h1, h2, _⟩ := nd_app nd
    simp only [lwL, rfL]
    rw [if_neg (show ¬ drop? (.ins n i x) p = true from Bool.false_ne_true), lw_ins p h1, lwL_ins r h2]
theorem lw_rsz {n g : Int} : ∀ b : Box, (nums b.pre).Nodup → lw (.rsz n g) b = rf n (setH g) b
  | .blk m h, nd => by
    simp only [lw, rf, setH]
  | .scr m h ps, nd => by
    obtain ⟨h1, h2⟩ := nd_cons nd
    simp only [lw, rf]
    by_cases e : m = n
    · rw [if_pos e, if_pos e, lwL_no ps (by rw [show (Ed.rsz n g).num = n from rfl, ← e]; exact h1)]
      rfl
    · rw [if_neg e, if_neg e, lwL_rsz ps h2]
theorem lwL_rsz {n g : Int} : ∀ l : List Box, (nums (preL l)).Nodup → lwL (.rsz n g) l = rfL n (setH g) l
  | [], _ => by simp [lwL, rfL]
  | p :: r, nd => by
    obtain ⟨h1, h2, _⟩ := nd_app nd
    simp only [lwL, rfL]
    rw [if_neg (show ¬ drop? (.rsz n g) p = true from Bool.false_ne_true), lw_rsz p h1, lwL_rsz r h2]
end
/-- where a part of these numbers is, all others are left as they are -/
theorem lwL_top {n : Int} : ∀ l : List Box, (nums (preL l)).Nodup → n ∈ nums l → lwL (.rem n) l = remP n l
  | [], _, h => by cases h
  | p :: r, nd, h => by
    obtain ⟨h1, h2, h3⟩ := nd_app nd
    unfold remP
    simp only [lwL, List.filter_cons]
    have sub : ∀ l : List Box, ∀ k ∈ nums l, k ∈ nums (preL l) := fun l k hk => by
      obtain ⟨c, hc, rfl⟩ := List.mem_map.mp hk
      rw [preL_eq]
      exact List.mem_map.mpr ⟨c, List.mem_flatMap.mpr ⟨c, hc, self_pre c⟩, rfl⟩
    by_cases e : p.num = n
    · have hn : n ∉ nums (preL r) := h3 n (by rw [← e]; exact List.mem_map.mpr ⟨_, self_pre _, rfl⟩)
      rw [if_pos (show drop? (.rem n) p = true from decide_eq_true e), if_neg (by simp [e]), lwL_no (e := .rem n) r hn]
      refine (List.filter_eq_self.mpr fun c hc => ?_).symm
      have : ¬ c.num = n := fun q => hn (sub r n (by rw [← q]; exact List.mem_map.mpr ⟨c, hc, rfl⟩))
      simp [this]
    · have hr : n ∈ nums r := by
        rcases List.mem_cons.mp h with h | h
        · exact absurd h.symm e
        · exact h
      have hp : n ∉ nums p.pre := fun q => h3 n q (sub r n hr)
      rw [if_neg (show ¬ drop? (.rem n) p = true from fun z => e (of_decide_eq_true z)), if_pos (by simp [e]), lw_no (e := .rem n) p hp, lwL_top r h2 hr]
      rfl
theorem hasNum_no {n : Int} {b : Box} (h : n ∉ nums b.pre) : b.pre.find? (hasNum n) = none := by
  refine List.find?_eq_none.mpr fun c hc q => ?_
  have := hasNum_iff.mp q
  obtain ⟨d, hd, e⟩ := List.mem_map.mp this
  exact h (by rw [← e]; exact List.mem_map.mpr ⟨d, parts_in hc hd, rfl⟩)
mutual
/-- the parent, and what the walk does there -/
theorem lw_rem {n : Int} : ∀ b : Box, (nums b.pre).Nodup → n ≠ b.num → n ∈ nums b.pre → ∃ s ∈ b.pre, b.pre.find? (hasNum n) = some s ∧ s.isS = true ∧ lw (.rem n) b = rf s.num (remF n) b
  | .blk m h, nd, ne, hn => by
    rw [show (Box.blk m h).pre = [.blk m h] by simp [pre]] at hn
    exact absurd (List.mem_singleton.mp hn) ne
  | .scr m h ps, nd, ne, hn => by
    obtain ⟨h1, h2⟩ := nd_cons nd
    rw [pre_scr] at hn ⊢
    have hn : n ∈ nums (preL ps) := by
      rcases List.mem_cons.mp hn with q | q
      · exact absurd q ne
      · exact q
    cases (inferInstance : Decidable (n ∈ nums ps)) with
    | isTrue q =>
      refine ⟨.scr m h ps, List.mem_cons_self, ?_, rfl, ?_⟩
      · rw [List.find?_cons]
        have : hasNum n (.scr m h ps) = true := hasNum_iff.mpr q
        rw [this]
      · simp only [lw, rf, num, if_true]
        rw [lwL_top ps h2 q]
        rfl
    | isFalse q =>
      obtain ⟨s, hs, hf, hS, hl⟩ := lwL_rem ps h2 q hn
      refine ⟨s, List.mem_cons_of_mem _ hs, ?_, hS, ?_⟩
      · rw [List.find?_cons]
        have : hasNum n (.scr m h ps) = false := by
          cases z : hasNum n (.scr m h ps)
          · rfl
          · exact absurd (hasNum_iff.mp z) q
        rw [this]
        exact hf
      · simp only [lw, rf]
        rw [if_neg (fun e => h1 (by rw [e]; exact List.mem_map.mpr ⟨s, hs, rfl⟩)), hl]
theorem lwL_rem {n : Int} : ∀ l : List Box, (nums (preL l)).Nodup → n ∉ nums l → n ∈ nums (preL l) → ∃ s ∈ preL l, (preL l).find? (hasNum n) = some s ∧ s.isS = true ∧ lwL (.rem n) l = rfL s.num (remF n) l
  | [], _, _, hn => by simp [preL] at hn
  | p :: r, nd, no, hn => by
    obtain ⟨h1, h2, h3⟩ := nd_app nd
    rw [nums, List.map_cons, List.mem_cons] at no
    rw [preL_cons] at hn ⊢
    have hd : ¬ drop? (.rem n) p = true := fun z => no (.inl (of_decide_eq_true z).symm)
    simp only [lwL, rfL]
    rw [if_neg hd]
    cases (inferInstance : Decidable (n ∈ nums p.pre)) with
    | isTrue q =>
      obtain ⟨s, hs, hf, hS, hl⟩ := lw_rem p h1 (fun e => no (.inl e)) q
      have hsr : s.num ∉ nums (preL r) := h3 _ (List.mem_map.mpr ⟨s, hs, rfl⟩)
      refine ⟨s, List.mem_append_left _ hs, ?_, hS, ?_⟩
      · rw [List.find?_append, hf]
        rfl
      · rw [hl, lwL_no (e := .rem n) r (h3 n q), rfL_no r hsr]
    | isFalse q =>
      rw [nums, List.map_append, List.mem_append] at hn
      have hr : n ∈ nums (preL r) := hn.resolve_left q
      obtain ⟨s, hs, hf, hS, hl⟩ := lwL_rem r h2 (fun e => no (.inr e)) hr
      have hsp : s.num ∉ nums p.pre := fun e => h3 _ e (List.mem_map.mpr ⟨s, hs, rfl⟩)
      refine ⟨s, List.mem_append_right _ hs, ?_, hS, ?_⟩
      · rw [List.find?_append, hasNum_no q, hf]
        rfl
      · rw [lw_no (e := .rem n) p q, rf_no p hsp, hl]
end
/-! ### what an edit answers -/
inductive Res
  | no
  | block
  | bad
  | ok (b : Box)
open Classical in
noncomputable def fin (b : Box) : Res := if IsDoc b then .ok b else .bad
/-- the edit at its place -/
noncomputable def edR (b : Box) : Ed → Res
  | .ins n i x => match b.pre.find? (byNum n) with
    | none => .no
    | some (.blk _ _) => .block
    | some (.scr m h ps) => if 0 ≤ i ∧ i ≤ (ps.length : Int) then fin (rep n (.scr m h (insAt i.toNat x ps)) b) else .bad
  | .rem n => match b.pre.find? (byNum n) with
    | none => .no
    | some _ => if n = b.num then .bad else match b.pre.find? (hasNum n) with
      | none => .bad
      | some s => fin (rep s.num (.scr s.num s.ht (remP n s.parts)) b)
  | .rsz n g => match b.pre.find? (byNum n) with
    | none => .no
    | some c => fin (rep n (setH g c) b)
/-- the edit by the walk -/
noncomputable def edL (b : Box) (e : Ed) : Res := match b.pre.find? (byNum e.num) with
  | none => .no
  | some c => match e, c with
    | .ins _ _ _, .blk _ _ => .block
    | .ins n i x, .scr _ _ ps => if 0 ≤ i ∧ i ≤ (ps.length : Int) then fin (lw (.ins n i x) b) else .bad
    | .rem n, _ => if n = b.num then .bad else fin (lw (.rem n) b)
    | .rsz n g, _ => fin (lw (.rsz n g) b)
theorem find_one {b c d : Box} {n : Int} (nd : (nums b.pre).Nodup) (h : b.pre.find? (byNum n) = some c) (hd : d ∈ b.pre) (e : d.num = n) : d = c := by
  have := find_num nd hd
  rw [e, h] at this
  exact (Option.some.inj this).symm
theorem edR_edL {b : Box} (nd : (nums b.pre).Nodup) (e : Ed) : edR b e = edL b e := by
  cases e with
  | ins n i x =>
    unfold edR edL
    dsimp only [Ed.num]
    cases hf : b.pre.find? (byNum n) with
    | none => rfl
    | some c =>
      cases c with
      | blk _ _ => rfl
      | scr m h ps =>
        dsimp only
        split
        · rw [lw_ins b nd, rf_rep (o := .scr m h (insAt i.toNat x ps)) b fun c hc e => ?_]
          rw [find_one nd hf hc e]
          rfl
        · rfl
  | rem n =>
    unfold edR edL
    dsimp only [Ed.num]
    cases hf : b.pre.find? (byNum n) with
    | none => rfl
    | some c =>
      dsimp only
      by_cases e : n = b.num
      · rw [if_pos e]
        cases c <;> simp [e]
      · rw [if_neg e]
        obtain ⟨h1, h2⟩ := find_num_some hf
        obtain ⟨s, hs, hfs, hS, hl⟩ := lw_rem b nd e (by rw [← h2]; exact List.mem_map.mpr ⟨c, h1, rfl⟩)
        rw [hfs]
        have e2 : rf s.num (remF n) b = rep s.num (.scr s.num s.ht (remP n s.parts)) b := by
          refine rf_rep b fun d hd e => ?_
          have := find_one nd (find_num nd hs) hd e
          subst this
          cases d with
          | blk _ _ => cases hS
          | scr _ _ _ => rfl
        dsimp only
        rw [if_neg e, hl, e2]
  | rsz n g =>
    unfold edR edL
    dsimp only [Ed.num]
    cases hf : b.pre.find? (byNum n) with
    | none => rfl
    | some c =>
      dsimp only
      rw [lw_rsz b nd, rf_rep (o := setH g c) b fun d hd e => ?_]
      rw [find_one nd hf hd e]
/-! ### sizes -/
theorem preL_mem_le {l : List Box} {c : Box} (h : c ∈ l) : c.pre.length ≤ (preL l).length := by
  induction l with
  | nil => cases h
  | cons p r ih =>
    rw [preL_cons, List.length_append]
    rcases List.mem_cons.mp h with rfl | h
    · omega
    · have := ih h
      omega
theorem insF_len (i : Nat) (x c : Box) : (insF i x c).pre.length ≤ c.pre.length + x.pre.length := by
  cases c with
  | blk m h => simp [insF, pre]
  | scr m h ps =>
    have h1 : (preL ps).length = (preL (ps.take i)).length + (preL (ps.drop i)).length := by
      rw [← List.length_append, ← preL_append, List.take_append_drop]
    have h2 : preL [x] = x.pre := by simp [preL]
    simp only [insF, insAt, pre_scr, preL_append, List.length_cons, List.length_append, h2]
    omega
theorem insF_depth (i : Nat) (x c : Box) : (insF i x c).depth ≤ c.depth + x.depth := by
  cases c with
  | blk m h => simp [insF, depth]
  | scr m h ps =>
    have h1 : depthL ps = max (depthL (ps.take i)) (depthL (ps.drop i)) := by rw [← depthL_append, List.take_append_drop]
    have h2 : depthL [x] = x.depth := by simp [depthL]
    simp only [insF, insAt, depth, depthL_append, h2]
    omega
theorem setH_len (g : Int) (c : Box) : (setH g c).pre.length ≤ c.pre.length + 0 := by
  cases c <;> simp [setH, pre]
theorem setH_depth (g : Int) (c : Box) : (setH g c).depth ≤ c.depth + 0 := by
  cases c <;> simp [setH, depth]
theorem remP_len (n : Int) : ∀ l : List Box, (preL (remP n l)).length ≤ (preL l).length
  | [] => Nat.le_refl _
  | p :: r => by
    have := remP_len n r
    unfold remP at this ⊢
    rw [List.filter_cons]
    split
    · simp only [preL_cons, List.length_append]
      omega
    · simp only [preL_cons, List.length_append]
      omega
theorem remP_depth (n : Int) : ∀ l : List Box, depthL (remP n l) ≤ depthL l
  | [] => Nat.le_refl _
  | p :: r => by
    have := remP_depth n r
    unfold remP at this ⊢
    rw [List.filter_cons]
    split
    · simp only [depthL]
      omega
    · simp only [depthL]
      omega
theorem remF_len (n : Int) (c : Box) : (remF n c).pre.length ≤ c.pre.length + 0 := by
  cases c with
  | blk m h => simp [remF]
  | scr m h ps =>
    have := remP_len n ps
    simp only [remF, pre_scr, List.length_cons]
    omega
theorem remF_depth (n : Int) (c : Box) : (remF n c).depth ≤ c.depth + 0 := by
  cases c with
  | blk m h => simp [remF]
  | scr m h ps =>
    have := remP_depth n ps
    simp only [remF, depth]
    omega
def Ed.len : Ed → Nat
  | .ins _ _ x => x.pre.length
  | _ => 0
def Ed.dep : Ed → Nat
  | .ins _ _ x => x.depth
  | _ => 0
/-- the walk's outcome is not much larger -/
theorem lw_size {b : Box} {e : Ed} (nd : (nums b.pre).Nodup) (hr : ∀ n, e = .rem n → n ≠ b.num) : (lw e b).pre.length ≤ b.pre.length + e.len ∧ (lw e b).depth ≤ b.depth + e.dep := by
  cases e with
  | ins n i x =>
    rw [lw_ins b nd]
    exact ⟨rf_len (insF_len _ _) b nd, rf_depth (insF_depth _ _) b⟩
  | rem n =>
    cases (inferInstance : Decidable (n ∈ nums b.pre)) with
    | isTrue q =>
      obtain ⟨s, hs, _, _, hl⟩ := lw_rem b nd (hr n rfl) q
      rw [hl]
      exact ⟨rf_len (remF_len _) b nd, rf_depth (remF_depth _) b⟩
    | isFalse q =>
      rw [lw_no (e := .rem n) b q]
      exact ⟨Nat.le_add_right _ _, Nat.le_add_right _ _⟩
  | rsz n g =>
    rw [lw_rsz b nd]
    exact ⟨rf_len (setH_len _) b nd, rf_depth (setH_depth _) b⟩
end Box
end AF
namespace AF
open PySem PySem.Spec PyProof.Rows L2
namespace Box
/-- what comes out ahead of the check -/
def edP (b : Box) : Ed → Res
  | .ins n i x => match b.pre.find? (byNum n) with
    | none => .no
    | some (.blk _ _) => .block
    | some (.scr m h ps) => if 0 ≤ i ∧ i ≤ (ps.length : Int) then .ok (rep n (.scr m h (insAt i.toNat x ps)) b) else .bad
  | .rem n => match b.pre.find? (byNum n) with
    | none => .no
    | some _ => if n = b.num then .bad else match b.pre.find? (hasNum n) with
      | none => .bad
      | some s => .ok (rep s.num (.scr s.num s.ht (remP n s.parts)) b)
  | .rsz n g => match b.pre.find? (byNum n) with
    | none => .no
    | some c => .ok (rep n (setH g c) b)
noncomputable def Res.check : Res → Res
  | .ok l => Box.fin l
  | r => r
theorem edR_edP (b : Box) (e : Ed) : edR b e = (edP b e).check := by
  cases e with
  | ins n i x =>
    unfold edR edP
    dsimp only
    cases b.pre.find? (byNum n) with
    | none => rfl
    | some c =>
      cases c with
      | blk _ _ => rfl
      | scr m h ps =>
        dsimp only
        split <;> rfl
  | rem n =>
    unfold edR edP
    dsimp only
    cases b.pre.find? (byNum n) with
    | none => rfl
    | some c =>
      dsimp only
      split
      · rfl
      · cases b.pre.find? (hasNum n) <;> rfl
  | rsz n g =>
    unfold edR edP
    dsimp only
    cases b.pre.find? (byNum n) <;> rfl
theorem edP_ok {b l : Box} (nd : (nums b.pre).Nodup) {e : Ed} (h : edP b e = .ok l) : l = lw e b ∧ ∀ n, e = .rem n → n ≠ b.num := by
  cases e with
  | ins n i x =>
    refine ⟨?_, (fun n e => nomatch e)⟩
    unfold edP at h
    dsimp only at h
    cases hf : b.pre.find? (byNum n) with
    | none =>
      rw [hf] at h
      cases h
    | some c =>
      rw [hf] at h
      cases c with
      | blk _ _ => cases h
      | scr m g ps =>
        dsimp only at h
        split at h
        · cases h
          rw [lw_ins b nd, rf_rep (o := .scr m g (insAt i.toNat x ps)) b fun c hc e => ?_]
          rw [find_one nd hf hc e]
          rfl
        · cases h
  | rem n =>
    unfold edP at h
    dsimp only at h
    cases hf : b.pre.find? (byNum n) with
    | none =>
      rw [hf] at h
      cases h
    | some c =>
      rw [hf] at h
      dsimp only at h
      by_cases e : n = b.num
      · rw [if_pos e] at h
        cases h
      · rw [if_neg e] at h
        obtain ⟨h1, h2⟩ := find_num_some hf
        obtain ⟨s, hs, hfs, hS, hl⟩ := lw_rem b nd e (by rw [← h2]; exact List.mem_map.mpr ⟨c, h1, rfl⟩)
        rw [hfs] at h
        cases h
        refine ⟨?_, fun k ek => by cases ek; exact e⟩
        rw [hl]
        refine (rf_rep b fun d hd e => ?_).symm
        have := find_one nd (find_num nd hs) hd e
        subst this
        cases d with
        | blk _ _ => cases hS
        | scr _ _ _ => rfl
  | rsz n g =>
    refine ⟨?_, (fun n e => nomatch e)⟩
    unfold edP at h
    dsimp only at h
    cases hf : b.pre.find? (byNum n) with
    | none =>
      rw [hf] at h
      cases h
    | some c =>
      rw [hf] at h
      cases h
      rw [lw_rsz b nd, rf_rep (o := setH g c) b fun d hd e => ?_]
      rw [find_one nd hf hd e]
end Box
/-! ### texts of numbers -/
theorem txt_all : (List.range 1151).all (fun n => decide ((Str.ofString (toString ((n : Int) - 50))).length ≤ 8) && decide (((n : Int) - 50).natAbs.log2 < 1920)) = true := by decide +kernel
theorem txt_ok {i : Int} (h0 : -50 ≤ i) (h1 : i ≤ 1100) : (Str.ofString (toString i)).length ≤ 8 ∧ i.natAbs.log2 < 1920 := by
  have h := List.all_eq_true.mp txt_all (i + 50).toNat (List.mem_range.mpr (by omega))
  have e : (((i + 50).toNat : Nat) : Int) - 50 = i := by omega
  rw [e, Bool.and_eq_true] at h
  exact ⟨of_decide_eq_true h.1, of_decide_eq_true h.2⟩
end AF
namespace AF
open PySem PySem.Spec PyProof.Rows L2
theorem jl {a b : Str} {m k : Nat} (h1 : a.length ≤ m) (h2 : b.length ≤ k) : (a ++ b).length ≤ m + k := by
  rw [PySem.Str.length_append]
  exact Nat.add_le_add h1 h2
theorem jr {s : Str} {m : Nat} (h : s.length ≤ m) (hm : m ≤ 1000 := by decide) : s.length ≤ sizeLine := Nat.le_trans h (Nat.le_of_lt (small1000 hm))
theorem SqA.lt {K : PySem.W.Frag} {H : Hp} {p : Addr} {ws : List V} (h : H p = some (.lst ws) ∨ H p = some (.tup ws)) : SqL K H p ws ∨ SqT K H p ws := by
  rcases h with h | h
  · exact .inl (.of h)
  · exact .inr (.of h)
end AF
namespace AF
open PySem PySem.Spec PyProof.Rows L2
theorem BoxesAt.drop {H : Hp} : ∀ {bs : List Box} {vs : List V} (i : Nat), BoxesAt H vs bs → BoxesAt H (vs.drop i) (bs.drop i)
  | _, _, 0, h => h
  | [], vs, i + 1, h => by
    rw [h.nil_inv]
    exact .nil
  | b :: bs, vs, i + 1, h => by
    obtain ⟨v, r, rfl, _, h2⟩ := h.cons_inv
    exact BoxesAt.drop i h2
end AF
namespace AF
open PySem PySem.Spec PyProof.Rows L2
theorem cut_but (xs : List V) (v : V) : cutV (xs ++ [v]) none (some (-1)) = xs := by
  have h1 : HT.sIx (xs ++ [v]).length 0 none = 0 := by
    unfold HT.sIx
    simp
  have h2 : HT.sIx (xs ++ [v]).length (xs ++ [v]).length (some (-1)) = xs.length := by
    unfold HT.sIx
    simp
    omega
  unfold cutV
  rw [h1, h2, List.drop_zero, Nat.sub_zero, List.take_left]
/-- an item of a list of ints, by a drawn place -/
theorem pickI {ns : List Int} {z : Int} (h0 : 0 ≤ z) (h1 : z < ns.length) : ∃ n ∈ ns, atI (ns.map V.int) z = some (.int n) := by
  have hz : z = ((z.toNat : Nat) : Int) := by omega
  have hlt : z.toNat < ns.length := by omega
  rw [hz]
  exact ⟨ns[z.toNat], List.getElem_mem hlt, atI_nat (by rw [List.getElem?_map, List.getElem?_eq_getElem hlt]; rfl)⟩
end AF
namespace AF
namespace Box
theorem lwL_snoc (e : Ed) (c : Box) : ∀ l : List Box, lwL e (l ++ [c]) = lwL e l ++ (if drop? e c = true then [] else [lw e c])
  | [] => by
    simp only [List.nil_append, lwL]
  | p :: r => by
    have ih := lwL_snoc e c r
    simp only [List.cons_append, lwL]
    rw [ih]
    split <;> simp
theorem lwL_len (e : Ed) : ∀ l : List Box, (lwL e l).length ≤ l.length
  | [] => by simp [lwL]
  | p :: r => by
    have ih := lwL_len e r
    simp only [lwL]
    split
    · simp only [List.length_cons]
      omega
    · simp only [List.length_cons]
      omega
end Box
end AF
/-! Anchors, places by number, offsets after an edit. -/
namespace AF
open PySem PySem.Spec PyProof.Rows L2
/-- a dict filled by a walk -/
theorem dc_walk {J : It} {n : Nat} {G : Hp → Prop} {Y : Nat → Hp → V → Hp → Prop} (w : Walk J n G Y) {g : TG} {tt : TT} {tk tv : TE} {vs : List Nat} {σ : L2.St} {H1 : Hp} {D : Addr} {Qd : Hp → Prop} (Pv : Nat → Hp → Prop) (h0 : Pv 0 (upd H1 D (.dK []))) (hG : ∀ i H, i ≤ n → Pv i H → G H)
    (hs : ∀ i x H H', i < n → Pv i H → Y i H x H' → g x (wipe σ vs) H' fun σ2 H2 => wipe σ2 vs = wipe σ vs ∧ tt σ2 H2 fun b H3 =>
      if b = true then tk σ2 H3 fun y H4 => tv σ2 H4 fun z H5 => ∃ kvs k, y = kV k ∧ H5 D = some (.dK kvs) ∧ kvs.length < sizeLine ∧ Pv (i + 1) (upd H5 D (.dK (putK kvs k z))) else Pv (i + 1) H3) (hd : ∀ H, Pv n H → Qd H) :
    ∃ W : Nat → Nat → Hp → Prop, (∃ m, W 0 m (upd H1 D (.dK []))) ∧ ∀ i m H, W i m H →
      (J.stop i H ∧ Qd H) ∨ (J.go i H ∧ ∃ Nx : Hp → Prop, (∀ H', Nx H' → ∃ m', m' < m ∧ W (i + 1) m' H') ∧ ∀ x H', J.yld i H x H' → g x (wipe σ vs) H' fun σ2 H2 => wipe σ2 vs = wipe σ vs ∧ tt σ2 H2 fun b H3 =>
        if b = true then tk σ2 H3 fun y H4 => tv σ2 H4 fun z H5 => ∃ kvs k, y = kV k ∧ H5 D = some (.dK kvs) ∧ kvs.length < sizeLine ∧ Nx (upd H5 D (.dK (putK kvs k z))) else Nx H3) := by
  refine ⟨fun i m H => m = n - i ∧ i ≤ n ∧ Pv i H, ⟨n, by simp, Nat.zero_le _, h0⟩, fun i m H hh => ?_⟩
  obtain ⟨rfl, hi, p⟩ := hh
  have q := hG i H hi p
  cases Nat.lt_or_ge i n with
  | inl hlt => exact .inr ⟨w.goes i H hlt q, Pv (i + 1), fun H' p' => ⟨n - (i + 1), by omega, rfl, hlt, p'⟩, fun x H' y => hs i x H H' hlt p (w.yields i H x H' hlt q y)⟩
  | inr hge =>
    have e : i = n := by omega
    subst e
    exact .inl ⟨w.stops H q, hd H p⟩
namespace Box
/-- the first part that reaches beyond the row -/
def anc : Int → List Box → Option Int
  | _, [] => none
  | z, p :: r => if z < p.ht then some p.num else anc (z - p.ht) r
def anchorN (c : Box) (z : Int) : Option Int := if z > 0 then anc z c.parts else none
/-- the place of a part, by its number -/
def plc (n : Int) : Int → List Box → Option Int
  | _, [] => none
  | z, p :: r => if p.num = n then some z else plc n (z + p.ht) r
def plD : Int → List Box → List (Int × Int)
  | _, [] => []
  | z, p :: r => (p.num, z) :: plD (z + p.ht) r
theorem plD_keys : ∀ (l : List Box) (z : Int), (plD z l).map (·.1) = l.map num
  | [], _ => rfl
  | p :: r, z => by
    simp only [plD, List.map_cons]
    rw [plD_keys r]
theorem plD_get (n : Int) : ∀ (l : List Box) (z : Int), getI (plD z l) n = plc n z l
  | [], _ => rfl
  | p :: r, z => by
    simp only [plD, plc]
    rw [getI_cons, plD_get n r]
theorem plD_len : ∀ (l : List Box) (z : Int), (plD z l).length = l.length
  | [], _ => rfl
  | p :: r, z => by
    simp only [plD, List.length_cons]
    rw [plD_len r]
theorem plD_snoc (c : Box) : ∀ (l : List Box) (z : Int), plD z (l ++ [c]) = plD z l ++ [(c.num, z + sumH l)]
  | [], z => by simp [plD, sumH]
  | p :: r, z => by
    simp only [List.cons_append, plD]
    rw [plD_snoc c r, sumH_cons]
    congr 4
    omega
theorem anc_mem : ∀ (l : List Box) (z n : Int), anc z l = some n → n ∈ l.map num
  | [], z, n, h => by cases h
  | p :: r, z, n, h => by
    simp only [anc] at h
    split at h
    · cases h
      exact List.mem_cons_self
    · exact List.mem_cons_of_mem _ (anc_mem r _ n h)
theorem plc_some {n : Int} : ∀ (l : List Box) (z : Int), n ∈ l.map num → ∃ y, plc n z l = some y
  | [], _, h => by cases h
  | p :: r, z, h => by
    simp only [plc]
    split
    · exact ⟨_, rfl⟩
    · rename_i e
      refine plc_some r _ ?_
      rcases List.mem_cons.mp h with h | h
      · exact absurd h.symm e
      · exact h
/-- how far the anchor is shifted -/
def shf (c s : Box) (z : Int) : Int := match anchorN c z with
  | none => 0
  | some n => match plc n 0 s.parts with
    | none => 0
    | some y => y - (plc n 0 c.parts).getD 0
def newOff (b : Box) (ol : List (Int × Int)) (s : Box) : Int := match getI ol s.num with
  | none => 0
  | some z => match b.pre.find? (byNum s.num) with
    | none => z
    | some c => z + shf c s z
/-- the offsets after an edit -/
def aft (b : Box) (ol : List (Int × Int)) (l : Box) : List (Int × Int) := (l.pre.filter isS).map fun s => (s.num, s.clamp (newOff b ol s))
/-- what the program gathers first -/
def gat (ol : List (Int × Int)) (l : Box) (bs : List Box) : List (Int × Int) := bs.filterMap fun c => match l.pre.find? (byNum c.num) with
  | none => none
  | some s => if c.isS = true then some (c.num, (getI ol c.num).getD 0 + shf c s ((getI ol c.num).getD 0)) else none
theorem gat_keys {ol : List (Int × Int)} {l : Box} {n : Int} : ∀ {bs : List Box}, n ∈ (gat ol l bs).map (·.1) → ∃ c ∈ bs, c.num = n ∧ c.isS = true := by
  intro bs h
  obtain ⟨p, hp, rfl⟩ := List.mem_map.mp h
  obtain ⟨c, hc, e⟩ := List.mem_filterMap.mp hp
  refine ⟨c, hc, ?_⟩
  split at e
  · cases e
  · split at e
    · rename_i hS
      cases e
      exact ⟨rfl, hS⟩
    · cases e
theorem gat_get {ol : List (Int × Int)} {l c s : Box} : ∀ {bs : List Box}, (bs.map num).Nodup → c ∈ bs → c.isS = true → l.pre.find? (byNum c.num) = some s →
    getI (gat ol l bs) c.num = some ((getI ol c.num).getD 0 + shf c s ((getI ol c.num).getD 0))
  | [], _, h, _, _ => by cases h
  | p :: r, nd, h, hS, hf => by
    rw [List.map_cons, List.nodup_cons] at nd
    unfold gat
    rw [List.filterMap_cons]
    rcases List.mem_cons.mp h with rfl | h
    · rw [hf]
      dsimp only
      rw [if_pos hS, getI_cons, if_pos rfl]
    · have ih := gat_get (ol := ol) nd.2 h hS hf
      unfold gat at ih
      have ne : ¬ p.num = c.num := fun e => nd.1 (by rw [e]; exact List.mem_map.mpr ⟨c, h, rfl⟩)
      split
      · exact ih
      · rename_i q hq
        have hq1 : q.1 = p.num := by
          split at hq
          · cases hq
          · split at hq
            · cases hq
              rfl
            · cases hq
        rw [getI_cons, hq1, if_neg ne]
        exact ih
theorem fit_aft {b l : Box} {ol : List (Int × Int)} (ndb : (nums b.pre).Nodup) (ndl : (nums l.pre).Nodup) (hk : ol.map (·.1) = (b.pre.filter isS).map num) : fitI (gat ol l b.pre) l.pre = aft b ol l := by
  unfold fitI aft
  refine List.map_congr_left fun s hs => ?_
  obtain ⟨hs1, hs2⟩ := List.mem_filter.mp hs
  have hfs := find_num ndl hs1
  congr 2
  unfold newOff
  cases hg : getI ol s.num with
  | none =>
    have hn := getI_none.mp hg
    rw [hk] at hn
    have : getI (gat ol l b.pre) s.num = none := by
      refine getI_none.mpr fun m => ?_
      obtain ⟨c, hc, e, hS⟩ := gat_keys m
      exact hn (List.mem_map.mpr ⟨c, List.mem_filter.mpr ⟨hc, hS⟩, e⟩)
    rw [this]
    rfl
  | some z =>
    have hn : s.num ∈ ol.map (·.1) := by
      cases (inferInstance : Decidable (s.num ∈ ol.map (·.1))) with
      | isTrue h => exact h
      | isFalse h =>
        rw [getI_none.mpr h] at hg
        cases hg
    rw [hk] at hn
    obtain ⟨c, hc, e⟩ := List.mem_map.mp hn
    obtain ⟨hc1, hc2⟩ := List.mem_filter.mp hc
    have hfc := find_num ndb hc1
    rw [e] at hfc
    have hfl : l.pre.find? (byNum c.num) = some s := by rw [e]; exact hfs
    have hgg := gat_get (ol := ol) ndb hc1 hc2 hfl
    rw [e, hg] at hgg
    rw [hgg, hfc]
    rfl
end Box
end AF
namespace AF
namespace Box
theorem tops_nodup : ∀ {l : List Box}, (nums (preL l)).Nodup → (nums l).Nodup
  | [], _ => List.nodup_nil
  | p :: r, nd => by
    obtain ⟨_, h2, h3⟩ := nd_app nd
    rw [nums, List.map_cons, List.nodup_cons]
    refine ⟨fun m => h3 p.num (List.mem_map.mpr ⟨p, self_pre p, rfl⟩) ?_, tops_nodup h2⟩
    obtain ⟨c, hc, e⟩ := List.mem_map.mp m
    rw [← e, preL_eq]
    exact List.mem_map.mpr ⟨c, List.mem_flatMap.mpr ⟨c, hc, self_pre c⟩, rfl⟩
mutual
theorem parts_nodup {c : Box} : ∀ b : Box, (nums b.pre).Nodup → c ∈ b.pre → (nums c.parts).Nodup
  | .blk m h, nd, hc => by
    have e : c = .blk m h := by simpa [pre] using hc
    subst e
    exact List.nodup_nil
  | .scr m h ps, nd, hc => by
    obtain ⟨_, h2⟩ := nd_cons nd
    rw [pre_scr] at hc
    rcases List.mem_cons.mp hc with rfl | hc
    · exact tops_nodup h2
    · exact partsL_nodup ps h2 hc
theorem partsL_nodup {c : Box} : ∀ l : List Box, (nums (preL l)).Nodup → c ∈ preL l → (nums c.parts).Nodup
  | [], _, hc => by simp [preL] at hc
  | p :: r, nd, hc => by
    obtain ⟨h1, h2, _⟩ := nd_app nd
    rw [preL_cons, List.mem_append] at hc
    rcases hc with hc | hc
    · exact parts_nodup p h1 hc
    · exact partsL_nodup r h2 hc
end
theorem gat_snoc (ol : List (Int × Int)) (l c : Box) (bs : List Box) : gat ol l (bs ++ [c]) = gat ol l bs ++ (match l.pre.find? (byNum c.num) with
    | none => []
    | some s => if c.isS = true then [(c.num, (getI ol c.num).getD 0 + shf c s ((getI ol c.num).getD 0))] else []) := by
  unfold gat
  rw [List.filterMap_append]
  congr 1
  rw [List.filterMap_cons, List.filterMap_nil]
  cases l.pre.find? (byNum c.num) with
  | none => rfl
  | some s =>
    dsimp only
    cases hS : c.isS <;> simp
theorem gat_len (ol : List (Int × Int)) (l : Box) (bs : List Box) : (gat ol l bs).length ≤ bs.length := List.length_filterMap_le ..
end Box
theorem drop_cons {α : Type} {l : List α} {i : Nat} {x : α} (h : l[i]? = some x) : l.drop i = x :: l.drop (i + 1) := by
  obtain ⟨h1, h2⟩ := List.getElem?_eq_some_iff.mp h
  rw [← h2]
  exact List.drop_eq_getElem_cons h1
end AF
namespace AF
open PySem PySem.Spec PyProof.Rows L2
def oiPy : Option Int → PyData
  | none => .none
  | some i => .int i
theorem oi_dp {K : PySem.W.Frag} {H : Hp} : ∀ o : Option Int, Dp K H (optI o) (oiPy o)
  | none => .non
  | some i => .int i
theorem oi_dd (o : Option Int) : dd (oiPy o) = 0 ∧ wd (oiPy o) = 0 := by
  cases o <;> simp [oiPy, dd, wd]
end AF
namespace K08
open PySem PySem.Spec PyProof.Rows L2
def topS (i : Nat) : Stmt := PySem.Challenge.pw_asyncframes_k08_what_is_looked_at_stays.main.body.getD i (.Pass ⟨0, 0, 0, 0⟩)
abbrev s_is_scroller : Stmt := topS 1
abbrev s_number_of : Stmt := topS 2
abbrev s_height_of : Stmt := topS 3
abbrev s_parts_of : Stmt := topS 4
abbrev s_all_boxes : Stmt := topS 5
abbrev s_find : Stmt := topS 6
abbrev s_places : Stmt := topS 8
abbrev s_length_of : Stmt := topS 9
abbrev s_range_of : Stmt := topS 10
abbrev s_ranges : Stmt := topS 11
abbrev s_nearest : Stmt := topS 12
abbrev s_fitted : Stmt := topS 13
abbrev s_anchor : Stmt := topS 15
abbrev s_offsets_after : Stmt := topS 16
abbrev s_shift_of_anchor : Stmt := topS 17
abbrev s_places_by_number : Stmt := topS 18
abbrev s_law_draw : Stmt := topS 20
abbrev s_law_next : Stmt := topS 21
abbrev s_law_same : Stmt := topS 22
abbrev s_law_box : Stmt := topS 23
abbrev s_law_document : Stmt := topS 24
abbrev s_law_all : Stmt := topS 25
abbrev s_law_length : Stmt := topS 26
abbrev s_law_range : Stmt := topS 27
abbrev s_law_offsets : Stmt := topS 28
abbrev s_law_named : Stmt := topS 29
abbrev s_law_depth : Stmt := topS 30
abbrev s_law_is_document : Stmt := topS 31
abbrev s_law_part : Stmt := topS 32
abbrev s_law_edit : Stmt := topS 33
abbrev s_law_with : Stmt := topS 34
abbrev s_law_edited : Stmt := topS 35
abbrev s_law_place : Stmt := topS 36
abbrev s_law_anchor : Stmt := topS 37
abbrev s_law_after : Stmt := topS 38
abbrev s_law_same_dict : Stmt := topS 39
abbrev s_law : Stmt := topS 40
theorem sc_is_scroller : FnScope ["box"] ["box"] (defScope s_is_scroller) :=
  ⟨rfl, rfl, rfl, by decide +kernel, rfl, by decide +kernel, by decide +kernel⟩
theorem sc_number_of : FnScope ["box"] ["box"] (defScope s_number_of) :=
  ⟨rfl, rfl, rfl, by decide +kernel, rfl, by decide +kernel, by decide +kernel⟩
theorem sc_height_of : FnScope ["box"] ["box"] (defScope s_height_of) :=
  ⟨rfl, rfl, rfl, by decide +kernel, rfl, by decide +kernel, by decide +kernel⟩
theorem sc_parts_of : FnScope ["box"] ["box"] (defScope s_parts_of) :=
  ⟨rfl, rfl, rfl, by decide +kernel, rfl, by decide +kernel, by decide +kernel⟩
theorem sc_all_boxes : FnScope ["document", "boxes", "coming", "box"] ["document"] (defScope s_all_boxes) :=
  ⟨rfl, rfl, rfl, by decide +kernel, rfl, by decide +kernel, by decide +kernel⟩
theorem sc_find : FnScope ["document", "number", "box"] ["document", "number"] (defScope s_find) :=
  ⟨rfl, rfl, rfl, by decide +kernel, rfl, by decide +kernel, by decide +kernel⟩
theorem sc_places : FnScope ["scroller", "found", "place", "part"] ["scroller"] (defScope s_places) :=
  ⟨rfl, rfl, rfl, by decide +kernel, rfl, by decide +kernel, by decide +kernel⟩
theorem sc_length_of : FnScope ["scroller", "part"] ["scroller"] (defScope s_length_of) :=
  ⟨rfl, rfl, rfl, by decide +kernel, rfl, by decide +kernel, by decide +kernel⟩
theorem sc_range_of : FnScope ["scroller"] ["scroller"] (defScope s_range_of) :=
  ⟨rfl, rfl, rfl, by decide +kernel, rfl, by decide +kernel, by decide +kernel⟩
theorem sc_ranges : FnScope ["document", "box"] ["document"] (defScope s_ranges) :=
  ⟨rfl, rfl, rfl, by decide +kernel, rfl, by decide +kernel, by decide +kernel⟩
theorem sc_nearest : FnScope ["offset", "greatest"] ["offset", "greatest"] (defScope s_nearest) :=
  ⟨rfl, rfl, rfl, by decide +kernel, rfl, by decide +kernel, by decide +kernel⟩
theorem sc_fitted : FnScope ["document", "offsets", "greatest", "number"] ["document", "offsets"] (defScope s_fitted) :=
  ⟨rfl, rfl, rfl, by decide +kernel, rfl, by decide +kernel, by decide +kernel⟩
theorem sc_anchor : FnScope ["scroller", "offset", "part", "place"] ["scroller", "offset"] (defScope s_anchor) :=
  ⟨rfl, rfl, rfl, by decide +kernel, rfl, by decide +kernel, by decide +kernel⟩
theorem sc_offsets_after : FnScope ["document", "offsets", "later", "found", "before", "number", "after"] ["document", "offsets", "later"] (defScope s_offsets_after) :=
  ⟨rfl, rfl, rfl, by decide +kernel, rfl, by decide +kernel, by decide +kernel⟩
theorem sc_shift_of_anchor : FnScope ["before", "after", "offset", "number", "new_places"] ["before", "after", "offset"] (defScope s_shift_of_anchor) :=
  ⟨rfl, rfl, rfl, by decide +kernel, rfl, by decide +kernel, by decide +kernel⟩
theorem sc_places_by_number : FnScope ["scroller", "part", "place"] ["scroller"] (defScope s_places_by_number) :=
  ⟨rfl, rfl, rfl, by decide +kernel, rfl, by decide +kernel, by decide +kernel⟩
theorem sc_law_draw : FnScope ["script"] ["script"] (defScope s_law_draw) :=
  ⟨rfl, rfl, rfl, by decide +kernel, rfl, by decide +kernel, by decide +kernel⟩
theorem sc_law_next : FnScope ["draw", "many", "found", "cell"] ["draw", "many"] (defScope s_law_next) :=
  ⟨rfl, rfl, rfl, by decide +kernel, rfl, by decide +kernel, by decide +kernel⟩
theorem sc_law_same : FnScope ["actual", "due", "k"] ["actual", "due"] (defScope s_law_same) :=
  ⟨rfl, rfl, rfl, by decide +kernel, rfl, by decide +kernel, by decide +kernel⟩
theorem sc_law_box : FnScope ["draw", "last", "depth", "number", "height", "k"] ["draw", "last", "depth"] (defScope s_law_box) :=
  ⟨rfl, rfl, rfl, by decide +kernel, rfl, by decide +kernel, by decide +kernel⟩
theorem sc_law_document : FnScope ["draw", "last", "height", "number", "k"] ["draw"] (defScope s_law_document) :=
  ⟨rfl, rfl, rfl, by decide +kernel, rfl, by decide +kernel, by decide +kernel⟩
theorem sc_law_all : FnScope ["box", "found", "part"] ["box"] (defScope s_law_all) :=
  ⟨rfl, rfl, rfl, by decide +kernel, rfl, by decide +kernel, by decide +kernel⟩
theorem sc_law_length : FnScope ["scroller", "part"] ["scroller"] (defScope s_law_length) :=
  ⟨rfl, rfl, rfl, by decide +kernel, rfl, by decide +kernel, by decide +kernel⟩
theorem sc_law_range : FnScope ["scroller"] ["scroller"] (defScope s_law_range) :=
  ⟨rfl, rfl, rfl, by decide +kernel, rfl, by decide +kernel, by decide +kernel⟩
theorem sc_law_offsets : FnScope ["draw", "document", "found", "box"] ["draw", "document"] (defScope s_law_offsets) :=
  ⟨rfl, rfl, rfl, by decide +kernel, rfl, by decide +kernel, by decide +kernel⟩
theorem sc_law_named : FnScope ["document", "number", "box"] ["document", "number"] (defScope s_law_named) :=
  ⟨rfl, rfl, rfl, by decide +kernel, rfl, by decide +kernel, by decide +kernel⟩
theorem sc_law_depth : FnScope ["box", "part"] ["box"] (defScope s_law_depth) :=
  ⟨rfl, rfl, rfl, by decide +kernel, rfl, by decide +kernel, by decide +kernel⟩
theorem sc_law_is_document : FnScope ["box", "boxes", "seen", "one"] ["box"] (defScope s_law_is_document) :=
  ⟨rfl, rfl, rfl, by decide +kernel, rfl, by decide +kernel, by decide +kernel⟩
theorem sc_law_part : FnScope ["draw", "last", "document", "number", "inner"] ["draw", "last", "document"] (defScope s_law_part) :=
  ⟨rfl, rfl, rfl, by decide +kernel, rfl, by decide +kernel, by decide +kernel⟩
theorem sc_law_edit : FnScope ["draw", "document", "numbers", "number", "form", "box"] ["draw", "document"] (defScope s_law_edit) :=
  ⟨rfl, rfl, rfl, by decide +kernel, rfl, by decide +kernel, by decide +kernel⟩
theorem sc_law_with : FnScope ["box", "edit", "parts", "height", "part"] ["box", "edit"] (defScope s_law_with) :=
  ⟨rfl, rfl, rfl, by decide +kernel, rfl, by decide +kernel, by decide +kernel⟩
theorem sc_law_edited : FnScope ["document", "edit", "box", "later"] ["document", "edit"] (defScope s_law_edited) :=
  ⟨rfl, rfl, rfl, by decide +kernel, rfl, by decide +kernel, by decide +kernel⟩
theorem sc_law_place : FnScope ["scroller", "number", "place", "part"] ["scroller", "number"] (defScope s_law_place) :=
  ⟨rfl, rfl, rfl, by decide +kernel, rfl, by decide +kernel, by decide +kernel⟩
theorem sc_law_anchor : FnScope ["scroller", "offset", "inside", "part"] ["scroller", "offset"] (defScope s_law_anchor) :=
  ⟨rfl, rfl, rfl, by decide +kernel, rfl, by decide +kernel, by decide +kernel⟩
theorem sc_law_after : FnScope ["document", "offsets", "later", "found", "box", "offset", "before", "number"] ["document", "offsets", "later"] (defScope s_law_after) :=
  ⟨rfl, rfl, rfl, by decide +kernel, rfl, by decide +kernel, by decide +kernel⟩
theorem sc_law_same_dict : FnScope ["actual", "due", "key"] ["actual", "due"] (defScope s_law_same_dict) :=
  ⟨rfl, rfl, rfl, by decide +kernel, rfl, by decide +kernel, by decide +kernel⟩
theorem sc_law : FnScope ["script", "draw", "turn", "document", "offsets", "box", "later", "kept", "due"] ["script"] (defScope s_law) :=
  ⟨rfl, rfl, rfl, by decide +kernel, rfl, by decide +kernel, by decide +kernel⟩
/-- what the text's top leaves, as far as the walk asks -/
structure Tx (K : PySem.W.Frag) (mg : Str → Option Value) where
  d_is_scroller : AF.DF K mg "is_scroller" s_is_scroller ["box"]
  d_number_of : AF.DF K mg "number_of" s_number_of ["box"]
  d_height_of : AF.DF K mg "height_of" s_height_of ["box"]
  d_parts_of : AF.DF K mg "parts_of" s_parts_of ["box"]
  d_all_boxes : AF.DF K mg "all_boxes" s_all_boxes ["document"]
  d_find : AF.DF K mg "find" s_find ["document", "number"]
  d_places : AF.DF K mg "places" s_places ["scroller"]
  d_length_of : AF.DF K mg "length_of" s_length_of ["scroller"]
  d_range_of : AF.DF K mg "range_of" s_range_of ["scroller"]
  d_ranges : AF.DF K mg "ranges" s_ranges ["document"]
  d_nearest : AF.DF K mg "nearest" s_nearest ["offset", "greatest"]
  d_fitted : AF.DF K mg "fitted" s_fitted ["document", "offsets"]
  d_anchor : AF.DF K mg "anchor" s_anchor ["scroller", "offset"]
  d_offsets_after : AF.DF K mg "offsets_after" s_offsets_after ["document", "offsets", "later"]
  d_shift_of_anchor : AF.DF K mg "shift_of_anchor" s_shift_of_anchor ["before", "after", "offset"]
  d_places_by_number : AF.DF K mg "places_by_number" s_places_by_number ["scroller"]
  d_law_draw : AF.DF K mg "_law_draw" s_law_draw ["script"]
  d_law_next : AF.DF K mg "_law_next" s_law_next ["draw", "many"]
  d_law_same : AF.DF K mg "_law_same" s_law_same ["actual", "due"]
  d_law_box : AF.DF K mg "_law_box" s_law_box ["draw", "last", "depth"]
  d_law_document : AF.DF K mg "_law_document" s_law_document ["draw"]
  d_law_all : AF.DF K mg "_law_all" s_law_all ["box"]
  d_law_length : AF.DF K mg "_law_length" s_law_length ["scroller"]
  d_law_range : AF.DF K mg "_law_range" s_law_range ["scroller"]
  d_law_offsets : AF.DF K mg "_law_offsets" s_law_offsets ["draw", "document"]
  d_law_named : AF.DF K mg "_law_named" s_law_named ["document", "number"]
  d_law_depth : AF.DF K mg "_law_depth" s_law_depth ["box"]
  d_law_is_document : AF.DF K mg "_law_is_document" s_law_is_document ["box"]
  d_law_part : AF.DF K mg "_law_part" s_law_part ["draw", "last", "document"]
  d_law_edit : AF.DF K mg "_law_edit" s_law_edit ["draw", "document"]
  d_law_with : AF.DF K mg "_law_with" s_law_with ["box", "edit"]
  d_law_edited : AF.DF K mg "_law_edited" s_law_edited ["document", "edit"]
  d_law_place : AF.DF K mg "_law_place" s_law_place ["scroller", "number"]
  d_law_anchor : AF.DF K mg "_law_anchor" s_law_anchor ["scroller", "offset"]
  d_law_after : AF.DF K mg "_law_after" s_law_after ["document", "offsets", "later"]
  d_law_same_dict : AF.DF K mg "_law_same_dict" s_law_same_dict ["actual", "due"]
  d_law : AF.DF K mg "law" s_law ["script"]
  z_abs : mg "abs" = none
  z_all : mg "all" = none
  z_bool : mg "bool" = none
  z_dict : mg "dict" = none
  z_int : mg "int" = none
  z_isinstance : mg "isinstance" = none
  z_len : mg "len" = none
  z_list : mg "list" = none
  z_max : mg "max" = none
  z_min : mg "min" = none
  z_range : mg "range" = none
  z_sorted : mg "sorted" = none
  z_str : mg "str" = none
  z_sum : mg "sum" = none
  z_tuple : mg "tuple" = none
  z_zip : mg "zip" = none
end K08
namespace K08
open PySem PySem.Spec PyProof.Rows L2
section
variable {P : Program} {w : World} {K : PySem.W.Frag} {mg : Str → Option Value} {base : Heap}
/-! ### boxes.py -/
def spIsS : Sp := fun vs H Q _ => ∃ (v : V) (b : AF.Box), vs = [v] ∧ AF.BoxAt H v b ∧ Q (.bl b.isS) H
def spNum : Sp := fun vs H Q _ => ∃ (v : V) (b : AF.Box), vs = [v] ∧ AF.BoxAt H v b ∧ Q (.int b.num) H
def spHt : Sp := fun vs H Q _ => ∃ (v : V) (b : AF.Box), vs = [v] ∧ AF.BoxAt H v b ∧ Q (.int b.ht) H
def spParts : Sp := fun vs H Q _ => ∃ (v : V) (b : AF.Box), vs = [v] ∧ AF.BoxAt H v b ∧
  ∀ (p : Addr) (ws : List V) (H' : Hp), Same H H' → H' p = some (.tup ws) → AF.BoxesAt H' ws b.parts → Q (.ref p) H'
theorem ok_is_scroller (T : Tx K mg) : FnOk P w K mg base CX0 1 T.d_is_scroller.f T.d_is_scroller.fd ["box"] spIsS := by
  refine T.d_is_scroller.F.ok sc_is_scroller (fun vs H Q E h => ?_) (fun cdv A outer s H vs Q E hr h => ?_)
  · obtain ⟨v, b, rfl, _⟩ := h
    rfl
  obtain ⟨v, b, rfl, hb, q⟩ := h
  refine ⟨_, (pss_one (ps_ret (pe_cmpR op_eq (pe_ix (AF.ixT K rfl) (pv 0) pe_int (fun _ _ => rfl)) pe_str (nomark _)))), ?_⟩
  obtain ⟨a, xs, rfl, ha, e⟩ := hb.tup
  have e0 : xs[0]? = some (.str b.kind) := by
    have := congrArg (fun l => l[0]?) e
    simpa using this
  refine ⟨_, rfl, a, _, _, _, rfl, rfl, .of ha, atI_nat (j := 0) e0, rfl, ?_⟩
  have z : (decide (V.str b.kind = V.str "scroller")) = b.isS := by
    cases b with
    | blk n h => exact decide_eq_false (by intro z; cases z)
    | scr n h ps => exact decide_eq_true rfl
  rw [z]
  exact q
theorem ok_number_of (T : Tx K mg) : FnOk P w K mg base CX0 1 T.d_number_of.f T.d_number_of.fd ["box"] spNum := by
  refine T.d_number_of.F.ok sc_number_of (fun vs H Q E h => ?_) (fun cdv A outer s H vs Q E hr h => ?_)
  · obtain ⟨v, b, rfl, _⟩ := h
    rfl
  obtain ⟨v, b, rfl, hb, q⟩ := h
  refine ⟨_, (pss_one (ps_ret (pe_ix (AF.ixT K rfl) (pv 0) pe_int (fun _ _ => rfl)))), ?_⟩
  obtain ⟨a, xs, rfl, ha, e⟩ := hb.tup
  have e0 : xs[1]? = some (.int b.num) := by
    have := congrArg (fun l => l[1]?) e
    simpa using this
  exact ⟨_, rfl, a, _, _, _, rfl, rfl, .of ha, atI_nat (j := 1) e0, q⟩
theorem ok_height_of (T : Tx K mg) : FnOk P w K mg base CX0 1 T.d_height_of.f T.d_height_of.fd ["box"] spHt := by
  refine T.d_height_of.F.ok sc_height_of (fun vs H Q E h => ?_) (fun cdv A outer s H vs Q E hr h => ?_)
  · obtain ⟨v, b, rfl, _⟩ := h
    rfl
  obtain ⟨v, b, rfl, hb, q⟩ := h
  refine ⟨_, (pss_one (ps_ret (pe_ix (AF.ixT K rfl) (pv 0) pe_int (fun _ _ => rfl)))), ?_⟩
  obtain ⟨a, xs, rfl, ha, e⟩ := hb.tup
  have e0 : xs[2]? = some (.int b.ht) := by
    have := congrArg (fun l => l[2]?) e
    simpa using this
  exact ⟨_, rfl, a, _, _, _, rfl, rfl, .of ha, atI_nat (j := 2) e0, q⟩
theorem ok_parts_of (T : Tx K mg) : FnOk P w K mg base CX0 2 T.d_parts_of.f T.d_parts_of.fd ["box"] spParts := by
  have G_is_scroller := ok_is_scroller (P := P) (w := w) (base := base) T
  refine T.d_parts_of.F.ok sc_parts_of (fun vs H Q E h => ?_) (fun cdv A outer s H vs Q E hr h => ?_)
  · obtain ⟨v, b, rfl, _⟩ := h
    rfl
  obtain ⟨v, b, rfl, hb, q⟩ := h
  refine ⟨_, (pss_cons (ps_if (pt_val (AF.cal T.d_is_scroller G_is_scroller (hr.mono (by omega)) (pa_cons (pv 0) pa_nil)))
      (pss_one (ps_ret (pe_ix (AF.ixT K rfl) (pv 0) pe_int (fun _ _ => rfl))))
      pss_nil)
      (pss_one (ps_ret (pe_tup pa_nil)))), ?_⟩
  refine ⟨v, rfl, v, b, rfl, hb, b.isS, rfl, ?_⟩
  cases b with
  | blk n h =>
    refine iteF ⟨Nat.zero_le _, fun p hp => ?_⟩
    exact q p [] _ (AF.same_new hp _) upd_same .nil
  | scr n h ps =>
    refine iteT ?_
    obtain ⟨a, p, vs, rfl, h1, h2, h3⟩ := hb.scr
    exact ⟨_, rfl, a, _, _, _, rfl, rfl, .of h1, atI_nat (j := 3) rfl, q p vs H (.refl H) h2 h3⟩

def spAll : Sp := fun vs H Q _ => ∃ (v : V) (b : AF.Box), vs = [v] ∧ AF.BoxAt H v b ∧ b.pre.length ≤ 1000 ∧
  ∀ (l : Addr) (ws : List V) (H' : Hp), Same H H' → H l = none → H' l = some (.lst ws) → AF.BoxesAt H' ws b.pre → Q (.ref l) H'
theorem ok_all_boxes (T : Tx K mg) : FnOk P w K mg base CX0 3 T.d_all_boxes.f T.d_all_boxes.fd ["document"] spAll := by
  have G_parts_of := ok_parts_of (P := P) (w := w) (base := base) T
  refine T.d_all_boxes.F.ok sc_all_boxes (fun vs H Q E h => ?_) (fun cdv A outer s H vs Q E hr h => ?_)
  · obtain ⟨v, b, rfl, _⟩ := h
    rfl
  obtain ⟨v, b, rfl, hb, hlen, q⟩ := h
  refine ⟨_, (pss_cons (ps_set (i := 1) sc_all_boxes.nd rfl (Or.inl rfl) (pe_lst pa_nil))
      (pss_cons (ps_set (i := 2) sc_all_boxes.nd rfl (Or.inl rfl) (pe_lst (pa_cons (pv 0) pa_nil)))
      (pss_cons (ps_while PassesOwn.never (AF.truK K rfl (pv 2))
      (pss_cons (ps_set (i := 3) sc_all_boxes.nd rfl (Or.inl rfl) (pe_bm0 PySem.F.plainAttrs_list PySem.F.slot_list_pop PySem.F.type_list_pop mt_pop (pv 2)))
      (pss_cons (ps_expr (pe_bm PySem.F.plainAttrs_list PySem.F.slot_list_append PySem.F.type_list_append mt_append (pv 1) (pa_cons (pv 3) pa_nil)))
      (pss_one (ps_expr (pe_bm PySem.F.plainAttrs_list PySem.F.slot_list_extend PySem.F.type_list_extend (AF.extTK K rfl) (pv 2) (pa_cons (AF.revTK K rfl (AF.cal T.d_parts_of G_parts_of (hr.mono (by omega)) (pa_cons (pv 3) pa_nil))) pa_nil)))))))
      (pss_one (ps_ret (pv 1)))))), ?_⟩
  refine ⟨Nat.zero_le _, fun l nl => ?_⟩
  refine ⟨v, rfl, (by show 1 ≤ sizeLine; decide), fun c nc => ?_⟩
  have nlc : l ≠ c := fun e => by rw [← e, upd_same] at nc; cases nc
  have nHc : H c = none := by rw [upd_ne nlc.symm] at nc; exact nc
  -- what is done, what is still to come (the last is the next)
  dsimp only [gName, tSeq]
  refine while_by (Pv := fun σ H3 => ∃ (x : Option V) (ws us : List V) (done todo : List AF.Box), σ = [some v, some (.ref l), some (.ref c), x] ∧ Same H H3 ∧
      H3 l = some (.lst ws) ∧ H3 c = some (.lst us) ∧ AF.BoxesAt H3 ws done ∧ AF.BoxesAt H3 us todo ∧ done ++ AF.Box.preL todo.reverse = b.pre)
    (μ := fun σ H3 => match H3 l with | some (.lst ws) => 1000 - ws.length | _ => 0) ?_ ?_ ?_
  · refine ⟨none, [], [v], [], [b], rfl, ?_, ?_, upd_same, .nil, .one ?_, ?_⟩
    · exact AF.same_upd (AF.same_new nl _) nHc _
    · rw [upd_ne nlc]
      exact upd_same
    · exact hb.s (AF.same_upd (AF.same_new nl _) nHc _)
    · simp [AF.Box.preL]
  · rintro σ H3 ⟨x, ws, us, done, todo, rfl, sm, el, ec, bw, bu, hpre⟩
    refine ⟨.ref c, rfl, !us.isEmpty, .inl ⟨us, .of ec, rfl⟩, ?_⟩
    have hlu := bu.len
    by_cases hn : todo = []
    · subst hn
      have e : us = [] := bu.nil_inv
      subst e
      refine iteF ?_
      have hd : done = b.pre := by simpa [AF.Box.preL] using hpre
      subst hd
      exact ⟨.ref l, rfl, q l ws H3 sm nl el bw⟩
    · obtain ⟨td, bx, rfl⟩ : ∃ td bx, todo = td ++ [bx] := ⟨todo.dropLast, todo.getLast hn, (List.dropLast_concat_getLast hn).symm⟩
      obtain ⟨y, us', rfl, bu', by_⟩ := bu.split_last
      have he : (us' ++ [y]).isEmpty = false := by simp
      rw [he]
      refine iteT ?_
      -- box = coming.pop()
      refine ⟨.ref c, rfl, .inl ⟨rfl, _, .of ec⟩, c, _, y, rfl, rfl, ec, by simp, ?_⟩
      have edl : (us' ++ [y]).dropLast = us' := by simp
      rw [edl]
      have k1 : AF.KeepT H3 (upd H3 c (.lst us')) := AF.keepT_upd ec _
      have el1 : (upd H3 c (.lst us')) l = some (.lst ws) := by rw [upd_ne nlc]; exact el
      have hw : ws.length < 1000 := by
        have h1 := bw.len
        have h2 : (done ++ AF.Box.preL (td ++ [bx]).reverse).length ≤ 1000 := by rw [hpre]; exact hlen
        rw [List.reverse_append, List.length_append] at h2
        have h3 : AF.Box.preL ([bx].reverse ++ td.reverse) = bx.pre ++ AF.Box.preL td.reverse := by simp [AF.Box.preL]
        rw [h3, List.length_append, AF.Box.pre_eq, List.length_cons] at h2
        omega
      -- boxes.append(box)
      refine ⟨.ref l, rfl, .inl ⟨rfl, _, .of el1⟩, y, rfl, l, ws, y, rfl, rfl, el1, small1000 (by omega), ?_⟩
      -- coming.extend(parts_of(box)[::-1])
      have k2 : AF.KeepT (upd H3 c (.lst us')) (upd (upd H3 c (.lst us')) l (.lst (ws ++ [y]))) := AF.keepT_upd el1 _
      have ec2 : (upd (upd H3 c (.lst us')) l (.lst (ws ++ [y]))) c = some (.lst us') := by rw [upd_ne nlc.symm]; exact upd_same
      have by2 := by_.k (k1.trans k2)
      refine ⟨.ref c, rfl, .inl ⟨rfl, _, .of ec2⟩, y, rfl, y, bx, rfl, by2, fun p ps H4 s4 ep bp => ?_⟩
      have ec4 := s4 _ _ ec2
      refine ⟨p, ps, rfl, .of ep, fun t nt => ?_⟩
      have s5 : Same H4 (upd H4 t (.tup ps.reverse)) := AF.same_new nt _
      have ec5 := s5 _ _ ec4
      have hps := bp.len
      have hus := bu'.len
      have hcount : us'.length + ps.length ≤ 1000 := by
        have h2 : (done ++ AF.Box.preL (td ++ [bx]).reverse).length ≤ 1000 := by rw [hpre]; exact hlen
        rw [List.reverse_append, List.length_append] at h2
        have h3 : AF.Box.preL ([bx].reverse ++ td.reverse) = bx.pre ++ AF.Box.preL td.reverse := by simp [AF.Box.preL]
        rw [h3, List.length_append, AF.Box.pre_eq, List.length_cons] at h2
        have h4 := AF.Box.preL_ge bx.parts
        have h5 := AF.Box.preL_ge td.reverse
        rw [List.length_reverse] at h5
        omega
      refine ⟨c, t, us', ps.reverse, rfl, rfl, ec5, .of upd_same, ?_, ?_⟩
      · rw [List.length_reverse]
        exact Nat.le_of_lt (small1000 hcount)
      have k6 : AF.KeepT (upd H4 t (.tup ps.reverse)) (upd (upd H4 t (.tup ps.reverse)) c (.lst (us' ++ ps.reverse))) := AF.keepT_upd ec5 _
      have kk : AF.KeepT H3 (upd (upd H4 t (.tup ps.reverse)) c (.lst (us' ++ ps.reverse))) := ((k1.trans k2).trans (AF.Same.keepT s4)).trans ((AF.Same.keepT s5).trans k6)
      have el6 : (upd (upd H4 t (.tup ps.reverse)) c (.lst (us' ++ ps.reverse))) l = some (.lst (ws ++ [y])) := by
        rw [upd_ne nlc]
        exact s5 _ _ (s4 _ _ upd_same)
      refine ⟨⟨some y, ws ++ [y], us' ++ ps.reverse, done ++ [bx], td ++ bx.parts.reverse, rfl, ?_, el6, upd_same, ?_, ?_, ?_⟩, ?_⟩
      · refine AF.same_upd (fun b u z => s5 _ _ (s4 _ _ ?_)) nHc _
        rw [upd_ne (ne_of_none z nl), upd_ne (ne_of_none z nHc)]
        exact sm _ _ z
      · exact (bw.k kk).append (.one (by_.k kk))
      · exact (bu'.k kk).append ((bp.k ((AF.Same.keepT s5).trans k6)).reverse)
      · rw [← hpre, List.reverse_append, List.reverse_append, List.reverse_reverse]
        simp [AF.Box.preL, AF.Box.preL_append, AF.Box.pre_eq bx, List.append_assoc]
      · show (match (upd (upd H4 t (.tup ps.reverse)) c (.lst (us' ++ ps.reverse))) l with | some (.lst ws) => 1000 - ws.length | _ => 0) < (match H3 l with | some (.lst ws) => 1000 - ws.length | _ => 0)
        rw [el6, el]
        show 1000 - (ws ++ [y]).length < 1000 - ws.length
        rw [List.length_append, List.length_singleton]
        omega
  · intro σ H3 Q Q' m h
    obtain ⟨v1, e1, k, e2, h⟩ := h
    exact ⟨v1, e1, k, e2, m _ _ h⟩

end
end K08
namespace K08
open PySem PySem.Spec PyProof.Rows L2
section
variable {P : Program} {w : World} {K : PySem.W.Frag} {mg : Str → Option Value} {base : Heap}
def spFind : Sp := fun vs H Q _ => ∃ (v : V) (b : AF.Box) (n : Int), vs = [v, .int n] ∧ AF.BoxAt H v b ∧ b.pre.length ≤ 1000 ∧
  ∀ (w : V) (H' : Hp), Same H H' → AF.OptAt H' w (b.pre.find? (AF.Box.byNum n)) → Q w H'
theorem ok_find (T : Tx K mg) : FnOk P w K mg base CX0 4 T.d_find.f T.d_find.fd ["document", "number"] spFind := by
  have G_all_boxes := ok_all_boxes (P := P) (w := w) (base := base) T
  have G_number_of := ok_number_of (P := P) (w := w) (base := base) T
  refine T.d_find.F.ok sc_find (fun vs H Q E h => ?_) (fun cdv A outer s H vs Q E hr h => ?_)
  · obtain ⟨_, _, _, rfl, _⟩ := h
    rfl
  obtain ⟨v, b, n, rfl, hb, hlen, q⟩ := h
  refine ⟨_, (pss_cons (ps_for PassesOwn.never rfl (AF.piL K rfl (AF.cal T.d_all_boxes G_all_boxes (hr.mono (by omega)) (pa_cons (pv 0) pa_nil))) (pg_name (i := 2) sc_find.nd rfl (Or.inl rfl))
      (pss_one (ps_if (pt_cmpR op_eq (AF.cal T.d_number_of G_number_of (hr.mono (by omega)) (pa_cons (pv 2) pa_nil)) (pv 1) (nomark _))
      (pss_one (ps_ret (pv 2)))
      pss_nil)))
      (pss_one (ps_ret pe_non))), ?_⟩
  refine ⟨v, rfl, v, b, rfl, hb, hlen, fun l ws H1 s1 nl el bw => ?_⟩
  refine ⟨l, rfl, ⟨ws, .of el⟩, ?_⟩
  have hw := bw.len
  refine for_list (xs := ws) (Pv := fun i σ H3 => ∃ x : Option V, σ = [some v, some (.int n), x] ∧ H3 = H1 ∧ (b.pre.take i).find? (AF.Box.byNum n) = none) ?_ ?_ ?_ ?_
  · exact ⟨none, rfl, rfl, rfl⟩
  · rintro i σ H3 _ ⟨x, _, rfl, _⟩
    exact .of el
  · rintro i y σ H3 hy ⟨x, rfl, rfl, hf⟩
    obtain ⟨c, hc, by_⟩ := bw.get hy
    refine ⟨y, rfl, y, c, rfl, by_, .int n, rfl, rfl, _, rfl, ite2 (fun cc => ?_) (fun cc => ?_)⟩
    · have e : c.num = n := V.int.inj (of_decide_eq_true cc)
      refine ⟨y, rfl, q y H3 s1 ?_⟩
      rw [AF.find_at hf hc (decide_eq_true e)]
      exact by_
    · have e : ¬ c.num = n := fun z => cc (decide_eq_true (congrArg V.int z))
      exact ⟨some y, rfl, rfl, AF.find_step hf hc (decide_eq_false e)⟩
  · rintro σ H3 ⟨x, rfl, rfl, hf⟩
    rw [hw, List.take_length] at hf
    exact q .non H3 s1 (by rw [hf]; rfl)
def spPar : Sp := fun vs H Q _ => ∃ (v : V) (b : AF.Box) (n : Int), vs = [v, .int n] ∧ AF.BoxAt H v b ∧ b.pre.length ≤ 1000 ∧ ∀ H' : Hp, Same H H' → Q (AF.optI (b.parB n)) H'

/-! ### layout.py -/
def spPlaces : Sp := fun vs H Q _ => ∃ (v : V) (b : AF.Box), vs = [v] ∧ AF.BoxAt H v b ∧ b.parts.length ≤ 1000 ∧
  ∀ (l : Addr) (H' : Hp), Same H H' → H l = none → H' l = some (.lst ((AF.Box.placesFrom 0 b.parts).map V.int)) → Q (.ref l) H'
theorem ok_places (T : Tx K mg) : FnOk P w K mg base CX0 3 T.d_places.f T.d_places.fd ["scroller"] spPlaces := by
  have G_parts_of := ok_parts_of (P := P) (w := w) (base := base) T
  have G_height_of := ok_height_of (P := P) (w := w) (base := base) T
  refine T.d_places.F.ok sc_places (fun vs H Q E h => ?_) (fun cdv A outer s H vs Q E hr h => ?_)
  · obtain ⟨v, b, rfl, _⟩ := h
    rfl
  obtain ⟨v, b, rfl, hb, hlen, q⟩ := h
  refine ⟨_, (pss_cons (ps_set (i := 1) sc_places.nd rfl (Or.inl rfl) (pe_lst pa_nil))
      (pss_cons (ps_set (i := 2) sc_places.nd rfl (Or.inl rfl) pe_int)
      (pss_cons (ps_for PassesOwn.never rfl (AF.piT K rfl (AF.cal T.d_parts_of G_parts_of (hr.mono (by omega)) (pa_cons (pv 0) pa_nil))) (pg_name (i := 3) sc_places.nd rfl (Or.inl rfl))
      (pss_cons (ps_expr (pe_bm PySem.F.plainAttrs_list PySem.F.slot_list_append PySem.F.type_list_append mt_append (pv 1) (pa_cons (pv 2) pa_nil)))
      (pss_one (ps_aug (i := 2) sc_places.nd rfl (Or.inl rfl) (AF.cal T.d_height_of G_height_of (hr.mono (by omega)) (pa_cons (pv 3) pa_nil)) ip_add))))
      (pss_one (ps_ret (pv 1)))))), ?_⟩
  refine ⟨Nat.zero_le _, fun l nl => ?_⟩
  have s0 : Same H (upd H l (.lst [])) := AF.same_new nl _
  refine ⟨v, rfl, v, b, rfl, hb.s s0, fun p ws H1 s1 ep bp => ?_⟩
  refine ⟨p, rfl, ⟨ws, .of ep⟩, ?_⟩
  have hw := bp.len
  refine for_tup (xs := ws) (Pv := fun i σ H3 => ∃ x : Option V, σ = [some v, some (.ref l), some (.int (AF.Box.sumH (b.parts.take i))), x] ∧ Same H H3 ∧ AF.KeepT H1 H3 ∧
    H3 l = some (.lst (((AF.Box.placesFrom 0 b.parts).take i).map V.int))) ?_ ?_ ?_ ?_
  · exact ⟨none, rfl, s0.trans s1, .refl _, s1 _ _ upd_same⟩
  · rintro i σ H3 _ ⟨x, _, _, k, _⟩
    exact .of (k _ _ ep)
  · rintro i y σ H3 hy ⟨x, rfl, sm, k, el⟩
    obtain ⟨c, hc, by_⟩ := bp.get hy
    have hi : i < b.parts.length := by
      have := (List.getElem?_eq_some_iff.mp hc).1
      exact this
    refine ⟨.ref l, rfl, .inl ⟨rfl, _, .of el⟩, .int (AF.Box.sumH (b.parts.take i)), rfl, l, _, _, rfl, rfl, el, ?_, ?_⟩
    · rw [List.length_map, List.length_take]
      exact small1000 (Nat.le_trans (Nat.min_le_left _ _) (by omega))
    refine ⟨_, rfl, y, rfl, y, c, rfl, by_.k (k.trans (AF.keepT_upd el _)), _, _, rfl, rfl, some y, ?_, ?_, k.trans (AF.keepT_upd el _), ?_⟩
    · rw [AF.Box.sumH_take_succ hc]
      rfl
    · exact AF.same_upd sm nl _
    · rw [upd_same, AF.Box.placesFrom_take hi, List.map_append]
      rfl
  · rintro σ H3 ⟨x, rfl, sm, k, el⟩
    refine ⟨.ref l, rfl, q l H3 sm nl ?_⟩
    rw [el, hw]
    have e := AF.Box.placesFrom_len 0 b.parts
    rw [List.take_of_length_le (by omega)]
def spInt (f : AF.Box → Int) : Sp := fun vs H Q _ => ∃ (v : V) (b : AF.Box), vs = [v] ∧ AF.BoxAt H v b ∧ b.parts.length ≤ 1000 ∧ ∀ H' : Hp, Same H H' → Q (.int (f b)) H'
theorem ok_length_of (T : Tx K mg) : FnOk P w K mg base CX0 3 T.d_length_of.f T.d_length_of.fd ["scroller"] (spInt fun b => AF.Box.sumH b.parts) := by
  have G_parts_of := ok_parts_of (P := P) (w := w) (base := base) T
  have G_height_of := ok_height_of (P := P) (w := w) (base := base) T
  refine T.d_length_of.F.ok sc_length_of (fun vs H Q E h => ?_) (fun cdv A outer s H vs Q E hr h => ?_)
  · obtain ⟨v, b, rfl, _⟩ := h
    rfl
  obtain ⟨v, b, rfl, hb, hlen, q⟩ := h
  refine ⟨_, (pss_one (ps_ret (pe_callB (AF.sumK K rfl rfl) (by rfl) T.z_sum (by decide +kernel) (pa_cons (pe_lc (own := [("part", 1)]) (g := gName 1) rfl sc_length_of.nd (AF.piT K rfl (AF.cal T.d_parts_of G_parts_of (hr.mono (by omega)) (pa_cons (pv 0) pa_nil))) (blkOk_by (own := [("part", 1)]) (N := ["scroller", "part"]) (sc := defScope s_length_of) (by decide +kernel)) (fun _ _ _ _ _ => (pg_name (i := 1) sc_length_of.nd rfl (Or.inl rfl))) (fun _ _ _ _ _ => pts_nil) (fun _ _ _ _ _ => (AF.cal T.d_height_of G_height_of (hr.mono (by omega)) (pa_cons (pv 1) pa_nil)))) pa_nil)))), ?_⟩
  refine ⟨v, rfl, v, b, rfl, hb, fun p ws H1 s1 ep bp => ?_⟩
  refine ⟨p, rfl, ⟨ws, .of ep⟩, fun D nD => ?_⟩
  have hw := bp.len
  have nHD : H D = none := Same.free s1 nD
  refine lc_tup (xs := ws) (Pv := fun i H3 => Same H H3 ∧ AF.KeepT H1 H3 ∧ H3 D = some (.lst (((b.parts.map AF.Box.ht).take i).map V.int))) ?_ ?_ ?_ ?_
  · exact ⟨AF.same_upd s1 nHD _, AF.Same.keepT (AF.same_new nD _), upd_same⟩
  · rintro i H3 _ ⟨_, k, _⟩
    exact .of (k _ _ ep)
  · rintro i y H3 hy ⟨sm, k, eD⟩
    obtain ⟨c, hc, by_⟩ := bp.get hy
    refine ⟨rfl, y, rfl, y, c, rfl, by_.k k, _, eD, ?_, AF.same_upd sm nHD _, k.trans (AF.keepT_upd eD _), ?_⟩
    · rw [List.length_map, List.length_take]
      refine small1000 (Nat.le_trans (Nat.min_le_right _ _) ?_)
      rw [List.length_map]
      exact hlen
    · rw [upd_same, List.take_add_one, List.getElem?_map, hc, List.map_append]
      rfl
  · rintro H3 ⟨sm, k, eD⟩
    rw [hw, List.take_of_length_le (by rw [List.length_map]; exact Nat.le_refl _)] at eD
    exact ⟨D, _, rfl, .of eD, q H3 sm⟩
theorem ok_range_of (T : Tx K mg) : FnOk P w K mg base CX0 4 T.d_range_of.f T.d_range_of.fd ["scroller"] (spInt AF.Box.rng) := by
  have G_length_of := ok_length_of (P := P) (w := w) (base := base) T
  have G_height_of := ok_height_of (P := P) (w := w) (base := base) T
  refine T.d_range_of.F.ok sc_range_of (fun vs H Q E h => ?_) (fun cdv A outer s H vs Q E hr h => ?_)
  · obtain ⟨v, b, rfl, _⟩ := h
    rfl
  obtain ⟨v, b, rfl, hb, hlen, q⟩ := h
  refine ⟨_, (pss_one (ps_ret (pe_callB (call_max2 rfl) (by rfl) T.z_max (by decide +kernel) (pa_cons pe_int (pa_cons (pe_op op_sub (AF.cal T.d_length_of G_length_of (hr.mono (by omega)) (pa_cons (pv 0) pa_nil)) (AF.cal T.d_height_of G_height_of (hr.mono (by omega)) (pa_cons (pv 0) pa_nil))) pa_nil))))), ?_⟩
  refine ⟨v, rfl, v, b, rfl, hb, hlen, fun H1 s1 => ?_⟩
  exact ⟨v, rfl, v, b, rfl, hb.s s1, _, _, rfl, rfl, _, _, rfl, q H1 s1⟩

end
end K08
namespace K08
open PySem PySem.Spec PyProof.Rows L2
section
variable {P : Program} {w : World} {K : PySem.W.Frag} {mg : Str → Option Value} {base : Heap}
def spNear : Sp := fun vs H Q _ => ∃ z r : Int, vs = [.int z, .int r] ∧ Q (.int (AF.clampR r z)) H
theorem ok_nearest (T : Tx K mg) : FnOk P w K mg base CX0 1 T.d_nearest.f T.d_nearest.fd ["offset", "greatest"] spNear := by
  refine T.d_nearest.F.ok sc_nearest (fun vs H Q E h => ?_) (fun cdv A outer s H vs Q E hr h => ?_)
  · obtain ⟨_, _, rfl, _⟩ := h
    rfl
  obtain ⟨z, r, rfl, q⟩ := h
  refine ⟨_, (pss_one (ps_ret (pe_callB (call_max2 rfl) (by rfl) T.z_max (by decide +kernel) (pa_cons pe_int (pa_cons (pe_callB (call_min2 rfl) (by rfl) T.z_min (by decide +kernel) (pa_cons (pv 0) (pa_cons (pv 1) pa_nil))) pa_nil))))), ?_⟩
  exact ⟨_, rfl, _, rfl, z, r, rfl, 0, _, rfl, q⟩
theorem rngs_succ {l : List AF.Box} {i : Nat} {c : AF.Box} (h : l[i]? = some c) : AF.Box.rngs (l.take (i + 1)) = AF.Box.rngs (l.take i) ++ (if c.isS = true then [(c.num, c.rng)] else []) := by
  rw [List.take_add_one, h]
  unfold AF.Box.rngs
  show List.map _ (List.filter AF.Box.isS (l.take i ++ [c])) = _
  rw [List.filter_append, List.map_append]
  congr 1
  by_cases e : c.isS = true
  · rw [if_pos e]
    simp [e]
  · rw [if_neg e]
    simp [e]
theorem rngs_len (l : List AF.Box) : (AF.Box.rngs l).length ≤ l.length := by
  unfold AF.Box.rngs
  rw [List.length_map]
  exact List.length_filter_le _ _
theorem rngs_nodup {l : List AF.Box} (h : (l.map AF.Box.num).Nodup) : ((AF.Box.rngs l).map (·.1)).Nodup := by
  rw [AF.Box.rngs_keys]
  exact h.sublist ((List.filter_sublist).map _)
def spRanges : Sp := fun vs H Q _ => ∃ (v : V) (b : AF.Box), vs = [v] ∧ AF.BoxAt H v b ∧ b.pre.length ≤ 1000 ∧ (b.pre.map AF.Box.num).Nodup ∧
  ∀ (d : Addr) (H' : Hp), Same H H' → H d = none → H' d = some (.dK (AF.dI (AF.Box.rngs b.pre))) → Q (.ref d) H'
theorem ok_ranges (T : Tx K mg) : FnOk P w K mg base CX0 5 T.d_ranges.f T.d_ranges.fd ["document"] spRanges := by
  have G_is_scroller := ok_is_scroller (P := P) (w := w) (base := base) T
  have G_number_of := ok_number_of (P := P) (w := w) (base := base) T
  have G_all_boxes := ok_all_boxes (P := P) (w := w) (base := base) T
  have G_range_of := ok_range_of (P := P) (w := w) (base := base) T
  refine T.d_ranges.F.ok sc_ranges (fun vs H Q E h => ?_) (fun cdv A outer s H vs Q E hr h => ?_)
  · obtain ⟨_, _, rfl, _⟩ := h
    rfl
  obtain ⟨v, b, rfl, hb, hlen, hnd, q⟩ := h
  refine ⟨_, (pss_one (ps_ret (pe_dc (own := [("box", 1)]) (g := gName 1) rfl sc_ranges.nd (AF.piL K rfl (AF.cal T.d_all_boxes G_all_boxes (hr.mono (by omega)) (pa_cons (pv 0) pa_nil))) (blkOk_by (own := [("box", 1)]) (N := ["document", "box"]) (sc := defScope s_ranges) (by decide +kernel)) (fun _ _ _ _ _ => (pg_name (i := 1) sc_ranges.nd rfl (Or.inl rfl))) (fun _ _ _ _ _ => pts_one (pt_val (AF.cal T.d_is_scroller G_is_scroller (hr.mono (by omega)) (pa_cons (pv 1) pa_nil)))) (fun _ _ _ _ _ => (AF.cal T.d_number_of G_number_of (hr.mono (by omega)) (pa_cons (pv 1) pa_nil))) (fun _ _ _ _ _ => (AF.cal T.d_range_of G_range_of (hr.mono (by omega)) (pa_cons (pv 1) pa_nil)))))), ?_⟩
  refine ⟨v, rfl, v, b, rfl, hb, hlen, fun l ws H1 s1 nl el bw => ?_⟩
  refine ⟨l, rfl, ⟨ws, .of el⟩, fun D nD => ?_⟩
  have hw := bw.len
  refine AF.dc_walk (walk_list (xs := ws)) (Pv := fun i H3 => Same H1 H3 ∧ H3 D = some (.dK (AF.dI (AF.Box.rngs (b.pre.take i))))) ?_ ?_ ?_ ?_
  · exact ⟨AF.same_new nD _, upd_same⟩
  · rintro i H3 _ ⟨s3, _⟩
    exact .of (s3 _ _ el)
  · rintro i u H3 H4 hi ⟨s3, eD⟩ ⟨rfl, hu⟩
    obtain ⟨c, hc, bu⟩ := bw.get hu
    have bu := bu.s s3
    have hcl : c.parts.length ≤ 1000 := by
      have h1 := AF.Box.parts_le c
      have h2 := AF.Box.pre_mem_len b c (List.mem_of_getElem? hc)
      omega
    have es := rngs_succ hc
    have hrl : (AF.Box.rngs (b.pre.take i)).length ≤ 1000 := by
      have h1 := rngs_len (b.pre.take i)
      rw [List.length_take] at h1
      omega
    have hnew : c.num ∉ (AF.Box.rngs (b.pre.take i)).map (·.1) := fun m => by
      rw [AF.Box.rngs_keys] at m
      obtain ⟨x, hx, e⟩ := List.mem_map.mp m
      exact AF.Box.nodup_take hnd hc (List.mem_map.mpr ⟨x, (List.mem_filter.mp hx).1, e⟩)
    refine ⟨rfl, u, rfl, u, c, rfl, bu, c.isS, rfl, ?_⟩
    cases hS : c.isS with
    | false =>
      rw [hS, if_neg (by simp), List.append_nil] at es
      refine iteF ⟨s3, ?_⟩
      rw [es]
      exact eD
    | true =>
      rw [hS, if_pos rfl] at es
      refine iteT ?_
      refine ⟨u, rfl, u, c, rfl, bu, u, rfl, u, c, rfl, bu, hcl, fun H5 s5 => ⟨_, Sum.inl c.num, rfl, s5 _ _ eD, ?_, AF.same_upd (s3.trans s5) nD _, ?_⟩⟩
      · rw [AF.dI_len]
        exact small1000 hrl
      · rw [upd_same, AF.putK_dI, AF.putI_new hnew, es]
  · rintro H3 ⟨s3, eD⟩
    have nHD : H D = none := Same.free s1 nD
    rw [hw, List.take_length] at eD
    exact q D H3 (s1.trans s3) nHD eD
def spFitted : Sp := fun vs H Q _ => ∃ (v : V) (b : AF.Box) (o : Addr) (ofs : List (Int × Int)), vs = [v, .ref o] ∧ AF.BoxAt H v b ∧ b.pre.length ≤ 1000 ∧ (b.pre.map AF.Box.num).Nodup ∧ H o = some (.dK (AF.dI ofs)) ∧
  ∀ (d : Addr) (H' : Hp), Same H H' → H d = none → H' d = some (.dK (AF.dI (AF.Box.fitI ofs b.pre))) → Q (.ref d) H'
theorem fitI_rngs (ofs : List (Int × Int)) (l : List AF.Box) : (AF.Box.rngs l).map (fun p => (p.1, AF.clampR p.2 ((AF.getI ofs p.1).getD 0))) = AF.Box.fitI ofs l := by
  unfold AF.Box.rngs AF.Box.fitI
  rw [List.map_map]
  rfl
theorem ok_fitted (T : Tx K mg) : FnOk P w K mg base CX0 6 T.d_fitted.f T.d_fitted.fd ["document", "offsets"] spFitted := by
  have G_ranges := ok_ranges (P := P) (w := w) (base := base) T
  have G_nearest := ok_nearest (P := P) (w := w) (base := base) T
  refine T.d_fitted.F.ok sc_fitted (fun vs H Q E h => ?_) (fun cdv A outer s H vs Q E hr h => ?_)
  · obtain ⟨v, b, o, ofs, rfl, _⟩ := h
    rfl
  obtain ⟨v, b, o, ofs, rfl, hb, hlen, hnd, ho, q⟩ := h
  refine ⟨_, (pss_cons (ps_set (i := 2) sc_fitted.nd rfl (Or.inr rfl) (AF.cal T.d_ranges G_ranges (hr.mono (by omega)) (pa_cons (pv 0) pa_nil)))
      (pss_one (ps_ret (pe_lock (pe_dc (own := [("number", 3)]) (g := gName 3) rfl sc_fitted.nd (pi_keys (pv 2)) (blkOk_by (own := [("number", 3)]) (N := ["document", "offsets", "greatest", "number"]) (sc := defScope s_fitted) (by decide +kernel)) (fun _ _ _ _ _ => (pg_name (i := 3) sc_fitted.nd rfl (Or.inl rfl))) (fun _ _ _ _ _ => pts_nil) (fun _ _ _ _ _ => (pv 3)) (fun _ _ _ _ _ => (AF.cal T.d_nearest G_nearest (hr.mono (by omega)) (pa_cons (pe_dget2 (hu_of hr) (pv 1) (pv 3) pe_int ⟨by rfl, by rfl, by rfl, by rfl⟩) (pa_cons (pe_dget (hu_of hr) (pv 2) (pv 3) (fun _ _ => rfl)) pa_nil))))))))), ?_⟩
  refine ⟨v, rfl, v, b, rfl, hb, hlen, hnd, fun g H1 s1 ng eg => ?_⟩
  refine ⟨g, .dK (AF.dI (AF.Box.rngs b.pre)), eg, trivial, fun od => ?_⟩
  have nog : o ≠ g := ne_of_none ho ng
  have hrl := rngs_len b.pre
  refine ⟨.ref g, rfl, g, od, rfl, .inl ⟨_, upd_same, fun D nD => ?_⟩⟩
  have ngD : g ≠ D := ne_of_none upd_same nD
  have nD1 : H1 D = none := by
    rw [upd_ne ngD.symm] at nD
    exact nD
  refine AF.dc_walk walk_keys (Pv := fun i H3 => AF.KeepL (AF.lockH H1 g od (AF.dI (AF.Box.rngs b.pre))) H3 ∧ H3 D = some (.dK (AF.dI (((AF.Box.rngs b.pre).take i).map fun p => (p.1, AF.clampR p.2 ((AF.getI ofs p.1).getD 0)))))) ?_ ?_ ?_ ?_
  · exact ⟨AF.same_new nD _, upd_same⟩
  · rintro i H3 _ ⟨sm, _⟩
    exact sm _ _ upd_same
  · rintro i k0 H3 H4 hi ⟨sm, eD⟩ ⟨rfl, k, x, hk, rfl⟩
    obtain ⟨p, hp, rfl, rfl⟩ : ∃ p, (AF.Box.rngs b.pre)[i]? = some p ∧ k = Sum.inl p.1 ∧ x = V.int p.2 := by
      unfold AF.dI at hk
      rw [List.getElem?_map] at hk
      cases hl : (AF.Box.rngs b.pre)[i]? with
      | none =>
        rw [hl] at hk
        cases hk
      | some p =>
        rw [hl] at hk
        have := Option.some.inj hk
        exact ⟨p, rfl, (congrArg Prod.fst this).symm, (congrArg Prod.snd this).symm⟩
    have eG : H4 g = some (.frz od (.dK (AF.dI (AF.Box.rngs b.pre)))) := sm _ _ upd_same
    have eO : H4 o = some (.dK (AF.dI ofs)) := sm _ _ (by
      show (upd _ g _) o = _
      rw [upd_ne nog]
      exact s1 _ _ ho)
    have hgv : some (V.int p.2) = valV (AF.dI (AF.Box.rngs b.pre)) (Sum.inl p.1 : Key) := by
      rw [AF.valV_dI, AF.getI_self (rngs_nodup hnd) (List.mem_of_getElem? hp)]
      rfl
    have hlt : ((AF.Box.rngs b.pre).take i).length ≤ 1000 := by
      rw [List.length_take]
      omega
    refine ⟨rfl, _, rfl, .ref o, rfl, o, rfl, .inl ⟨_, .inl eO⟩, _, rfl, _, AF.DGet.dI eO, .ref g, rfl, _, rfl, g, .int p.2, rfl, .inl ⟨_, Sum.inl p.1, .inr ⟨od, eG⟩, rfl, hgv⟩, ?_⟩
    refine ⟨(AF.getI ofs p.1).getD 0, p.2, congrArg (fun z => [z, V.int p.2]) (AF.getD_int (AF.getI ofs p.1) 0), ⟨_, Sum.inl p.1, rfl, eD, ?_, AF.same_upd sm nD _, ?_⟩⟩
    · rw [AF.dI_len, List.length_map]
      exact small1000 hlt
    · have hnew : p.1 ∉ (((AF.Box.rngs b.pre).take i).map fun p => (p.1, AF.clampR p.2 ((AF.getI ofs p.1).getD 0))).map (·.1) := by
        intro m
        rw [List.map_map] at m
        obtain ⟨r, hr1, hr2⟩ := List.mem_map.mp m
        have e1 : ((AF.Box.rngs b.pre).map (·.1))[i]? = some p.1 := by
          rw [List.getElem?_map, hp]
          rfl
        obtain ⟨j, hj, e2⟩ := List.mem_take_iff_getElem.mp hr1
        have e3 : ((AF.Box.rngs b.pre).map (·.1))[j]? = some p.1 := by
          rw [List.getElem?_map, List.getElem?_eq_getElem (by omega), e2]
          exact congrArg some hr2
        have := nd_ix (rngs_nodup hnd) e1 e3
        omega
      rw [upd_same, AF.putK_dI, AF.putI_new hnew, List.take_add_one, hp, List.map_append]
      rfl
  · rintro H3 ⟨sm, eD⟩
    refine ⟨sm _ _ upd_same, q D _ (s1.trans (AF.lock_back eg sm)) (Same.free s1 nD1) ?_⟩
    rw [upd_ne ngD.symm]
    rw [AF.dI_len, List.take_length, fitI_rngs] at eD
    exact eD

end
end K08
namespace K08
open PySem PySem.Spec PyProof.Rows L2
section
variable {P : Program} {w : World} {K : PySem.W.Frag} {mg : Str → Option Value} {base : Heap}
/-! ### the law's draws -/
def spDraw (K : PySem.W.Frag) : Sp := fun vs H Q _ => ∃ (a : Addr) (ns : List Int), vs = [.ref a] ∧ SqL K H a (ns.map V.int) ∧ ∀ (d l : Addr) (H' : Hp), Same H H' → H d = none → H l = none → AF.DrawAt H' d l → Q (.ref d) H'
theorem ok_law_draw (T : Tx K mg) : FnOk P w K mg base CX0 1 T.d_law_draw.f T.d_law_draw.fd ["script"] (spDraw K) := by
  refine T.d_law_draw.F.ok sc_law_draw (fun vs H Q E h => ?_) (fun cdv A outer s H vs Q E hr h => ?_)
  · obtain ⟨a, ns, rfl, _⟩ := h
    rfl
  obtain ⟨a, ns, rfl, hS, q⟩ := h
  refine ⟨_, (pss_one (ps_ret (pe_lst (pa_cons (pe_callTy (AF.listK K rfl) (by rfl) T.z_list (by decide +kernel) (pa_cons (pv 0) pa_nil)) (pa_cons pe_int (pa_cons pe_int (pa_cons pe_int pa_nil))))))), ?_⟩
  refine ⟨.ref a, rfl, a, _, rfl, .inl hS, fun l nl => ⟨(by show 4 ≤ sizeLine; decide), fun d nd => ?_⟩⟩
  have s1 : Same H (upd H l (.lst (ns.map V.int))) := AF.same_new nl _
  have nld : l ≠ d := fun e => by rw [← e, upd_same] at nd; cases nd
  refine q d l _ (s1.trans (AF.same_new nd _)) (Same.free s1 nd) nl ⟨ns, 0, 0, 17, upd_same, ?_, Int.le_refl 0, nld⟩
  rw [upd_ne nld]
  exact upd_same
def spNext : Sp := fun vs H Q _ => ∃ (d l : Addr) (m : Int), vs = [.ref d, .int m] ∧ AF.DrawAt H d l ∧ 0 < m ∧ m < 1073741824 ∧
  ∀ (x : Int) (H' : Hp), 0 ≤ x → x < m → AF.DrawAt H' d l → AF.But [d] H H' → AF.KeepT H H' → Q (.int x) H'
theorem ok_law_next (T : Tx K mg) : FnOk P w K mg base CX0 1 T.d_law_next.f T.d_law_next.fd ["draw", "many"] spNext := by
  refine T.d_law_next.F.ok sc_law_next (fun vs H Q E h => ?_) (fun cdv A outer s H vs Q E hr h => ?_)
  · obtain ⟨d, l, m, rfl, _⟩ := h
    rfl
  obtain ⟨d, l, m, rfl, hD, hm, hm2, q⟩ := h
  obtain ⟨ns, i, r, z, hd, hl, hi, nld⟩ := hD
  refine ⟨_, (pss_cons (ps_if (pt_cmpR op_gt (pe_ix (AF.ixL K rfl) (pv 0) pe_int (fun _ _ => rfl)) pe_int (nomark _))
      (pss_cons (ps_set (i := 2) sc_law_next.nd rfl (Or.inl rfl) (pe_op op_mod (pe_callTy call_int1 (by rfl) T.z_int (by decide +kernel) (pa_cons (pe_ix (AF.ixL K rfl) (pv 0) pe_int (fun _ _ => rfl)) pa_nil)) (pv 1)))
      (pss_cons (ps_asg (pe_op op_fdiv (pe_ix (AF.ixL K rfl) (pv 0) pe_int (fun _ _ => rfl)) (pv 1)) (pg_sub (pv 0) pe_int set_list))
      (pss_one (ps_ret (pv 2)))))
      pss_nil)
      (pss_cons (ps_if (pt_cmpR op_lt (pe_ix (AF.ixL K rfl) (pv 0) pe_int (fun _ _ => rfl)) (pe_callB (AF.lenK K rfl) (by rfl) T.z_len (by decide +kernel) (pa_cons (pe_ix (AF.ixL K rfl) (pv 0) pe_int (fun _ _ => rfl)) pa_nil)) (nomark _))
      (pss_cons (ps_set (i := 3) sc_law_next.nd rfl (Or.inl rfl) (pe_callB call_abs (by rfl) T.z_abs (by decide +kernel) (pa_cons (pe_ix (AF.ixL K rfl) (pe_ix (AF.ixL K rfl) (pv 0) pe_int (fun _ _ => rfl)) (pe_ix (AF.ixL K rfl) (pv 0) pe_int (fun _ _ => rfl)) (fun _ _ => rfl)) pa_nil)))
      (pss_cons (ps_asg (pe_op op_add (pe_ix (AF.ixL K rfl) (pv 0) pe_int (fun _ _ => rfl)) pe_int) (pg_sub (pv 0) pe_int set_list))
      (pss_cons (ps_if (pt_cmpR op_ge (pv 3) (pe_op op_pow pe_int pe_int) (nomark _))
      (pss_cons (ps_asg (pe_op op_fdiv (pv 3) (pv 1)) (pg_sub (pv 0) pe_int set_list))
      (pss_one (ps_ret (pe_op op_mod (pe_callTy call_int1 (by rfl) T.z_int (by decide +kernel) (pa_cons (pv 3) pa_nil)) (pv 1)))))
      pss_nil)
      (pss_one (ps_asg (pe_op op_mod (pe_callTy call_int1 (by rfl) T.z_int (by decide +kernel) (pa_cons (pe_op op_add (pe_op op_add (pe_op op_mul (pe_ix (AF.ixL K rfl) (pv 0) pe_int (fun _ _ => rfl)) pe_int) (pv 3)) pe_int) pa_nil)) pe_int) (pg_sub (pv 0) pe_int set_list))))))
      (pss_one (ps_asg (pe_op op_mod (pe_callTy call_int1 (by rfl) T.z_int (by decide +kernel) (pa_cons (pe_op op_add (pe_op op_mul (pe_ix (AF.ixL K rfl) (pv 0) pe_int (fun _ _ => rfl)) pe_int) pe_int) pa_nil)) pe_int) (pg_sub (pv 0) pe_int set_list))))
      (pss_one (ps_ret (pe_op op_mod (pe_op op_fdiv (pe_callTy call_int1 (by rfl) T.z_int (by decide +kernel) (pa_cons (pe_op op_mod (pe_op op_mul (pe_ix (AF.ixL K rfl) (pv 0) pe_int (fun _ _ => rfl)) pe_int) pe_int) pa_nil)) pe_int) (pv 1)))))), ?_⟩
  have hdl : ∀ o, (upd H d o) l = some (.lst (ns.map V.int)) := fun o => by
    rw [upd_ne nld]
    exact hl
  refine ⟨.ref d, rfl, d, _, _, _, rfl, rfl, .of hd, rfl, _, _, rfl, rfl, _, rfl, ite2 (fun c => ?_) (fun c => ?_)⟩
  · refine ⟨.ref d, rfl, d, _, _, _, rfl, rfl, .of hd, rfl, .inl ⟨r, rfl, _, rfl, _, _, rfl, rfl, hm, ?_⟩⟩
    refine ⟨.ref d, rfl, d, _, _, _, rfl, rfl, .of hd, rfl, _, rfl, _, _, rfl, rfl, ⟨hm, hm2⟩, .ref d, rfl, d, _, _, _, rfl, rfl, hd, rfl, ?_⟩
    refine ⟨_, rfl, ?_⟩
    exact q _ _ (AF.fmod_lo hm) (AF.fmod_hi hm) ⟨ns, i, r / m, z, upd_same, hdl _, hi, nld⟩ (AF.but_upd _) (AF.keepT_upd hd _)
  · -- the end, the same on every way
    have fin : ∀ (i' r' z' : Int) (H1 : Hp), H1 = upd H d (.lst [.ref l, .int i', .int r', .int z']) → 0 ≤ i' → Q (.int (z' * 69621 % 2147483629 / 7 % m)) H1 := by
      rintro i' r' z' H1 rfl h0
      exact q _ _ (AF.fmod_lo hm) (AF.fmod_hi hm) ⟨ns, i', r', z', upd_same, hdl _, h0, nld⟩ (AF.but_upd _) (AF.keepT_upd hd _)
    refine ⟨.ref d, rfl, d, _, _, _, rfl, rfl, .of hd, rfl, .ref d, rfl, d, _, _, _, rfl, rfl, .of hd, rfl, l, _, rfl, .inl (.of hl), _, _, rfl, rfl, _, rfl, ite2 (fun c2 => ?_) (fun c2 => ?_)⟩
    · have hlt : i.toNat < ns.length := by
        have h1 : i < (((ns.map V.int).length : Nat) : Int) := of_decide_eq_true c2
        rw [List.length_map] at h1
        omega
      have ei : i = ((i.toNat : Nat) : Int) := by omega
      have ea : atI (ns.map V.int) i = some (V.int ns[i.toNat]) := by
        have : atI (ns.map V.int) ((i.toNat : Nat) : Int) = some (V.int ns[i.toNat]) := atI_nat (by rw [List.getElem?_map, List.getElem?_eq_getElem hlt]; rfl)
        rw [← ei] at this
        exact this
      refine ⟨.ref d, rfl, d, _, _, _, rfl, rfl, .of hd, rfl, .ref d, rfl, d, _, _, _, rfl, rfl, .of hd, rfl, l, _, _, _, rfl, rfl, .of hl, ea, _, rfl, ?_⟩
      -- draw[1] = draw[1] + 1
      refine ⟨.ref d, rfl, d, _, _, _, rfl, rfl, .of hd, rfl, _, _, rfl, rfl, .ref d, rfl, d, _, _, _, rfl, rfl, hd, rfl, ?_⟩
      have hd1 : (upd H d (.lst [.ref l, .int (i + 1), .int r, .int z])) d = some (.lst [.ref l, .int (i + 1), .int r, .int z]) := upd_same
      refine ⟨_, rfl, _, _, rfl, rfl, ⟨by decide, by decide, by decide⟩, _, _, rfl, rfl, _, rfl, ite2 (fun c3 => ?_) (fun c3 => ?_)⟩
      · refine ⟨_, rfl, _, rfl, _, _, rfl, rfl, ⟨hm, hm2⟩, .ref d, rfl, d, _, _, _, rfl, rfl, hd1, rfl, ?_⟩
        refine ⟨_, rfl, .inl ⟨_, rfl, _, rfl, _, _, rfl, rfl, hm, ?_⟩⟩
        rw [upd_upd]
        exact q _ _ (AF.fmod_lo hm) (AF.fmod_hi hm) ⟨ns, i + 1, _, z, upd_same, hdl _, by omega, nld⟩ (AF.but_upd _) (AF.keepT_upd hd _)
      · refine ⟨.ref d, rfl, d, _, _, _, rfl, rfl, .of hd1, rfl, _, _, rfl, rfl, .inr ⟨by decide, by decide⟩, _, rfl, _, _, rfl, rfl, _, _, rfl, rfl, .inl ⟨_, rfl, _, _, rfl, rfl, (by show (0 : Int) < 2147483647; decide), .ref d, rfl, d, _, _, _, rfl, rfl, hd1, rfl, ?_⟩⟩
        refine ⟨.ref d, rfl, d, _, _, _, rfl, rfl, .of upd_same, rfl, _, _, rfl, rfl, .inr ⟨by decide, by decide⟩, _, _, rfl, rfl, (by show (0 : Int) < 2147483629; decide), .inl ⟨_, rfl, _, _, rfl, rfl, ⟨by decide, by decide⟩, _, rfl, _, _, rfl, rfl, hm, ?_⟩⟩
        exact fin (i + 1) r _ _ upd_upd (by omega)
    · refine ⟨.ref d, rfl, d, _, _, _, rfl, rfl, .of hd, rfl, _, _, rfl, rfl, .inr ⟨by decide, by decide⟩, _, _, rfl, rfl, .inl ⟨_, rfl, _, _, rfl, rfl, (by show (0 : Int) < 2147483647; decide), .ref d, rfl, d, _, _, _, rfl, rfl, hd, rfl, ?_⟩⟩
      refine ⟨.ref d, rfl, d, _, _, _, rfl, rfl, .of upd_same, rfl, _, _, rfl, rfl, .inr ⟨by decide, by decide⟩, _, _, rfl, rfl, (by show (0 : Int) < 2147483629; decide), .inl ⟨_, rfl, _, _, rfl, rfl, ⟨by decide, by decide⟩, _, rfl, _, _, rfl, rfl, hm, ?_⟩⟩
      exact fin i r _ _ rfl hi

end
end K08
namespace K08
open PySem PySem.Spec PyProof.Rows L2
section
variable {P : Program} {w : World} {K : PySem.W.Frag} {mg : Str → Option Value} {base : Heap}
/-! ### the law's comparison, of data that is the same -/
def spSame (K : PySem.W.Frag) (n : Nat) : Sp := fun vs H Q _ => ∃ (x y : V) (d : PyData), vs = [x, y] ∧ Dp K H x d ∧ Dp K H y d ∧ AF.dd d < n ∧ AF.wd d ≤ 1000 ∧ ∀ H' : Hp, Same H H' → Q (.bl true) H'
theorem ok_same_step (T : Tx K mg) {n : Nat} (G_law_same : FnOk P w K mg base CX0 n T.d_law_same.f T.d_law_same.fd ["actual", "due"] (spSame K n)) :
    FnOk P w K mg base CX0 (n + 1) T.d_law_same.f T.d_law_same.fd ["actual", "due"] (spSame K (n + 1)) := by
  refine T.d_law_same.F.ok sc_law_same (fun vs H Q E h => ?_) (fun cdv A outer s H vs Q E hr h => ?_)
  · obtain ⟨x, y, d, rfl, _⟩ := h
    rfl
  obtain ⟨x, y, d, rfl, hx, hy, hd, hw, q⟩ := h
  have nd := AF.Dp.nodict hx
  refine ⟨_, (pss_cons (ps_if (pt_val (pe_callB (AF.isiTK K rfl) (by rfl) T.z_isinstance (by decide +kernel) (pa_cons (pv 1) (pa_cons (pe_tup (pa_cons (pe_bltn (v := .ty "list") (by rfl) T.z_list (by decide +kernel) rfl) (pa_cons (pe_bltn (v := .ty "tuple") (by rfl) T.z_tuple (by decide +kernel) rfl) pa_nil))) pa_nil))))
      (pss_cons (ps_if (PW.pt (pw_or (pt_cmpR op_ne (pe_callB (AF.isiK K rfl) (by rfl) T.z_isinstance (by decide +kernel) (pa_cons (pv 1) (pa_cons (pe_bltn (v := .ty "list") (by rfl) T.z_list (by decide +kernel) rfl) pa_nil))) (pe_callB (AF.isiK K rfl) (by rfl) T.z_isinstance (by decide +kernel) (pa_cons (pv 0) (pa_cons (pe_bltn (v := .ty "list") (by rfl) T.z_list (by decide +kernel) rfl) pa_nil))) (nomark _)) (pw_or1 (pt_cmpR op_ne (pe_callB (AF.isiK K rfl) (by rfl) T.z_isinstance (by decide +kernel) (pa_cons (pv 1) (pa_cons (pe_bltn (v := .ty "tuple") (by rfl) T.z_tuple (by decide +kernel) rfl) pa_nil))) (pe_callB (AF.isiK K rfl) (by rfl) T.z_isinstance (by decide +kernel) (pa_cons (pv 0) (pa_cons (pe_bltn (v := .ty "tuple") (by rfl) T.z_tuple (by decide +kernel) rfl) pa_nil))) (nomark _)))))
      (pss_one (ps_ret pe_bl))
      pss_nil)
      (pss_cons (ps_if (pt_cmpR op_ne (pe_callB (AF.lenK K rfl) (by rfl) T.z_len (by decide +kernel) (pa_cons (pv 0) pa_nil)) (pe_callB (AF.lenK K rfl) (by rfl) T.z_len (by decide +kernel) (pa_cons (pv 1) pa_nil)) (nomark _))
      (pss_one (ps_ret pe_bl))
      pss_nil)
      (pss_one (ps_ret (pe_callB (AF.allK K rfl rfl) (by rfl) T.z_all (by decide +kernel) (pa_cons (pe_lc (own := [("k", 2)]) (g := gName 2) rfl sc_law_same.nd (pi_range1 (by rfl) T.z_range (pa_cons (pe_callB (AF.lenK K rfl) (by rfl) T.z_len (by decide +kernel) (pa_cons (pv 1) pa_nil)) pa_nil)) (blkOk_by (own := [("k", 2)]) (N := ["actual", "due", "k"]) (sc := defScope s_law_same) (by decide +kernel)) (fun _ _ _ _ _ => (pg_name (i := 2) sc_law_same.nd rfl (Or.inl rfl))) (fun _ _ _ _ _ => pts_nil) (fun _ _ _ _ _ => (AF.cal T.d_law_same G_law_same (hr.mono (by omega)) (pa_cons (pe_ix (AF.ixLT K rfl) (pv 0) (pv 2) (fun _ _ => rfl)) (pa_cons (pe_ix (AF.ixLT K rfl) (pv 1) (pv 2) (fun _ _ => rfl)) pa_nil))))) pa_nil))))))
      pss_nil)
      (pss_cons (ps_if (pt_cmpR op_isN (pv 1) pe_non (nomark _))
      (pss_one (ps_ret (pe_cmpR op_isN (pv 0) pe_non (nomark _))))
      pss_nil)
      (pss_cons (ps_if (pt_cmpR op_ne (pe_callB (AF.isiK K rfl) (by rfl) T.z_isinstance (by decide +kernel) (pa_cons (pv 1) (pa_cons (pe_bltn (v := .ty "bool") (by rfl) T.z_bool (by decide +kernel) rfl) pa_nil))) (pe_callB (AF.isiK K rfl) (by rfl) T.z_isinstance (by decide +kernel) (pa_cons (pv 0) (pa_cons (pe_bltn (v := .ty "bool") (by rfl) T.z_bool (by decide +kernel) rfl) pa_nil))) (nomark _))
      (pss_one (ps_ret pe_bl))
      pss_nil)
      (pss_cons (ps_if (pt_val (pe_callB (AF.isiK K rfl) (by rfl) T.z_isinstance (by decide +kernel) (pa_cons (pv 1) (pa_cons (pe_bltn (v := .ty "str") (by rfl) T.z_str (by decide +kernel) rfl) pa_nil))))
      (pss_one (ps_ret (pe_and (pe_callB (AF.isiK K rfl) (by rfl) T.z_isinstance (by decide +kernel) (pa_cons (pv 0) (pa_cons (pe_bltn (v := .ty "str") (by rfl) T.z_str (by decide +kernel) rfl) pa_nil))) (pe_one (pe_cmpR op_eq (pv 0) (pv 1) (nomark _))))))
      pss_nil)
      (pss_one (ps_ret (pe_and (pe_callB (AF.isiK K rfl) (by rfl) T.z_isinstance (by decide +kernel) (pa_cons (pv 0) (pa_cons (pe_bltn (v := .ty "int") (by rfl) T.z_int (by decide +kernel) rfl) pa_nil))) (pe_one (pe_cmpR op_eq (pv 0) (pv 1) (nomark _)))))))))), ?_⟩
  refine ⟨y, rfl, (by show 2 ≤ sizeLine; decide), fun t nt => ?_⟩
  have s0 : Same H (upd H t (.tup [.ty "list", .ty "tuple"])) := AF.same_new nt _
  have hx0 := AF.Dp.s hx s0
  have hy0 := AF.Dp.s hy s0
  refine ⟨y, t, _, _, _, _, rfl, upd_same, AF.cls2, (AF.Dp.ty hy0), AF.kit_seq nd, _, rfl, ?_⟩
  by_cases hs : (AF.isLi d || AF.isTu d) = true
  · refine AF.iteP hs ?_
    refine ⟨y, rfl, y, _, _, _, _, rfl, .ty _, (AF.Dp.ty hy0), AF.kit_li nd, x, rfl, x, _, _, _, _, rfl, .ty _, (AF.Dp.ty hx0), AF.kit_li nd, rfl, _, rfl, iteNS rfl ?_⟩
    refine ⟨y, rfl, y, _, _, _, _, rfl, .ty _, (AF.Dp.ty hy0), AF.kit_tu nd, x, rfl, x, _, _, _, _, rfl, .ty _, (AF.Dp.ty hx0), AF.kit_tu nd, rfl, _, rfl, iteNS rfl ?_⟩
    obtain ⟨a, b, xs, ys, ds, rfl, rfl, hds, h1, h2, hxs, hys⟩ : ∃ (a b : Addr) (xs ys : List V) (ds : List PyData), x = .ref a ∧ y = .ref b ∧ (d = .list ds ∨ d = .tuple ds) ∧
        (SqL K (upd H t (.tup [.ty "list", .ty "tuple"])) a xs ∨ SqT K (upd H t (.tup [.ty "list", .ty "tuple"])) a xs) ∧ (SqL K (upd H t (.tup [.ty "list", .ty "tuple"])) b ys ∨ SqT K (upd H t (.tup [.ty "list", .ty "tuple"])) b ys) ∧
        DpAll K (upd H t (.tup [.ty "list", .ty "tuple"])) xs ds ∧ DpAll K (upd H t (.tup [.ty "list", .ty "tuple"])) ys ds := by
      cases d with
      | list ds =>
        cases hx0 with
        | lst a1 a2 =>
          cases hy0 with
          | lst b1 b2 => exact ⟨_, _, _, _, ds, rfl, rfl, .inl rfl, .inl a1, .inl b1, a2, b2⟩
      | tuple ds =>
        cases hx0 with
        | tup a1 a2 =>
          cases hy0 with
          | tup b1 b2 => exact ⟨_, _, _, _, ds, rfl, rfl, .inr rfl, .inr a1, .inr b1, a2, b2⟩
      | none => cases hs
      | bool _ => cases hs
      | int _ => cases hs
      | str _ => cases hs
      | dict _ => cases hs
    have lx := AF.DpAll.len hxs
    have ly := AF.DpAll.len hys
    have hdl : AF.ddL ds < n ∧ ds.length ≤ 1000 ∧ AF.wdL ds ≤ 1000 := by
      rcases hds with rfl | rfl
      · simp only [AF.dd, AF.wd] at hd hw
        omega
      · simp only [AF.dd, AF.wd] at hd hw
        omega
    have ll : ((xs.length : Nat) : Int) = ((ys.length : Nat) : Int) := by omega
    refine ⟨.ref a, rfl, a, xs, rfl, h1, .ref b, rfl, b, ys, rfl, h2, rfl, _, rfl, iteNS (congrArg V.int ll) ?_⟩
    refine ⟨.ref b, rfl, b, ys, rfl, h2, ((ys.length : Nat) : Int), rfl, by omega, by omega, fun D nD => ?_⟩
    have nHD : H D = none := Same.free s0 nD
    refine lc_range (lo := 0) (n := ys.length) (Pv := fun i H3 => Same (upd H t (.tup [.ty "list", .ty "tuple"])) H3 ∧ H3 D = some (.lst ((List.replicate i true).map V.bl))) ?_ ?_ ?_
    · exact ⟨AF.same_new nD _, upd_same⟩
    · rintro i H3 hi ⟨sm, eD⟩
      have hi2 : i < ds.length := by omega
      have hc : ds[i]? = some ds[i] := List.getElem?_eq_getElem hi2
      obtain ⟨v, hv, dv⟩ := AF.DpAll.get hxs hc
      obtain ⟨u, hu, du⟩ := AF.DpAll.get hys hc
      have hm : ds[i] ∈ ds := List.getElem_mem hi2
      have hm1 := AF.ddL_mem hm
      have hm2 := AF.wdL_mem hm
      have i1 : rIxL K (.ref a) (.int (0 + (i : Int))) H3 (fun z H' => z = v ∧ H' = H3) ∨ rIxT K (.ref a) (.int (0 + (i : Int))) H3 (fun z H' => z = v ∧ H' = H3) := by
        rcases h1 with h1 | h1
        · exact .inl ⟨a, xs, _, v, rfl, rfl, Same.seq sm h1, at_of (Int.zero_add _) hv, rfl, rfl⟩
        · exact .inr ⟨a, xs, _, v, rfl, rfl, AF.Same.seqT sm h1, at_of (Int.zero_add _) hv, rfl, rfl⟩
      refine ⟨rfl, .ref a, rfl, .int (0 + (i : Int)), rfl, ?_⟩
      have fin : ∀ H' : Hp, Same H3 H' → ∃ acc, H' D = some (.lst acc) ∧ acc.length < sizeLine ∧ Same (upd H t (.tup [.ty "list", .ty "tuple"])) (upd H' D (.lst (acc ++ [.bl true]))) ∧
          (upd H' D (.lst (acc ++ [.bl true]))) D = some (.lst ((List.replicate (i + 1) true).map V.bl)) := fun H' s' => by
        refine ⟨_, s' _ _ eD, ?_, AF.same_upd (sm.trans s') nD _, ?_⟩
        · rw [List.length_map, List.length_replicate]
          exact Nat.lt_of_le_of_lt (by omega) AF.sl1000
        · rw [upd_same, List.replicate_succ', List.map_append]
          rfl
      have go : spSame K n [v, u] H3 (fun y H4 => ∃ acc, H4 D = some (.lst acc) ∧ acc.length < sizeLine ∧ Same (upd H t (.tup [.ty "list", .ty "tuple"])) (upd H4 D (.lst (acc ++ [y]))) ∧
          (upd H4 D (.lst (acc ++ [y]))) D = some (.lst ((List.replicate (i + 1) true).map V.bl))) E0 :=
        ⟨v, u, ds[i], rfl, AF.Dp.s dv sm, AF.Dp.s du sm, by omega, by omega, fin⟩
      have i2 : ∀ R : V → Hp → Prop, R u H3 → (rIxL K (.ref b) (.int (0 + (i : Int))) H3 R ∨ rIxT K (.ref b) (.int (0 + (i : Int))) H3 R) := fun R hR => by
        rcases h2 with h2 | h2
        · exact .inl ⟨b, ys, _, u, rfl, rfl, Same.seq sm h2, at_of (Int.zero_add _) hu, hR⟩
        · exact .inr ⟨b, ys, _, u, rfl, rfl, AF.Same.seqT sm h2, at_of (Int.zero_add _) hu, hR⟩
      rcases h1 with h1 | h1
      · exact .inl ⟨a, xs, _, v, rfl, rfl, Same.seq sm h1, at_of (Int.zero_add _) hv, .ref b, rfl, .int (0 + (i : Int)), rfl, i2 _ go⟩
      · exact .inr ⟨a, xs, _, v, rfl, rfl, AF.Same.seqT sm h1, at_of (Int.zero_add _) hv, .ref b, rfl, .int (0 + (i : Int)), rfl, i2 _ go⟩
    · rintro H3 ⟨sm, eD⟩
      refine ⟨D, _, rfl, .of eD, ?_⟩
      have e : (List.replicate ys.length true).all id = true := by simp
      rw [e]
      exact q H3 (s0.trans sm)
  · refine AF.iteN hs ?_
    -- no seq
    have tail : (∀ z : V, y = z → x = z) := fun z e => by
      subst e
      cases d <;> first | (cases hx; done) | (cases hx; cases hy; rfl) | exact absurd rfl hs
    have exy : x = y := tail y rfl
    subst exy
    refine ⟨x, rfl, rfl, _, rfl, ite2 (fun c => ?_) (fun c => ?_)⟩
    · have e : x = .non := of_decide_eq_true c
      subst e
      exact ⟨.non, rfl, rfl, q _ s0⟩
    · refine ⟨x, rfl, x, _, _, _, _, rfl, .ty _, (AF.Dp.ty hx0), AF.kit_bo nd, x, rfl, x, _, _, _, _, rfl, .ty _, (AF.Dp.ty hx0), AF.kit_bo nd, rfl, _, rfl, iteNS rfl ?_⟩
      refine ⟨x, rfl, x, _, _, _, _, rfl, .ty _, (AF.Dp.ty hx0), AF.kit_st nd, _, rfl, ?_⟩
      have fin : scal x x = true → scal x x = true ∧ Q (.bl (decide (x = x))) (upd H t (.tup [.ty "list", .ty "tuple"])) := fun z => ⟨z, by
        rw [decide_eq_true rfl]
        exact q _ s0⟩
      by_cases hst : AF.isSt d = true
      · refine AF.iteP hst ?_
        refine ⟨x, rfl, x, _, _, _, _, rfl, .ty _, (AF.Dp.ty hx0), AF.kit_st nd, _, rfl, ?_⟩
        refine AF.iteP hst ?_
        refine ⟨x, rfl, x, rfl, fin ?_⟩
        cases d <;> first | (cases hx; rfl) | cases hst
      · refine AF.iteN hst ?_
        have hin : AF.isIn d = true := by
          cases d with
          | int _ => rfl
          | bool _ => rfl
          | none =>
            cases hx
            exact absurd (decide_eq_true rfl) c
          | str _ => exact absurd rfl hst
          | list _ => exact absurd rfl hs
          | tuple _ => exact absurd rfl hs
          | dict _ => cases hx
        refine ⟨x, rfl, x, _, _, _, _, rfl, .ty _, (AF.Dp.ty hx0), AF.kit_in nd, _, rfl, ?_⟩
        refine AF.iteP hin ?_
        refine ⟨x, rfl, x, rfl, fin ?_⟩
        cases d <;> first | (cases hx; rfl) | cases hin
theorem ok_same0 (T : Tx K mg) : FnOk P w K mg base CX0 0 T.d_law_same.f T.d_law_same.fd ["actual", "due"] (spSame K 0) := by
  have no : ∀ vs H Q E, ¬ spSame K 0 vs H Q E := fun vs H Q E h => by
    obtain ⟨x, y, d, _, _, _, h, _⟩ := h
    omega
  exact ⟨fun vs H Q E h => absurd h (no vs H Q E), fun A outer s H args us vs Q E _ _ _ _ h => absurd h (no vs H Q E)⟩
theorem ok_law_same (T : Tx K mg) : ∀ n : Nat, FnOk P w K mg base CX0 n T.d_law_same.f T.d_law_same.fd ["actual", "due"] (spSame K n)
  | 0 => ok_same0 T
  | n + 1 => ok_same_step T (ok_law_same T n)

end
end K08
namespace K08
open PySem PySem.Spec PyProof.Rows L2
section
variable {P : Program} {w : World} {K : PySem.W.Frag} {mg : Str → Option Value} {base : Heap}
/-! ### the law's documents -/
def spBox (n : Nat) : Sp := fun vs H Q _ => ∃ (d e l : Addr) (lo : Int) (m : Nat), vs = [.ref d, .ref e, .int (m : Int)] ∧ m < n ∧ AF.DrawAt H d l ∧ H e = some (.lst [.int lo]) ∧ e ≠ d ∧ e ≠ l ∧
  ∀ (v : V) (b : AF.Box) (hi : Int) (H' : Hp), AF.BoxAt H' v b → AF.Box.Good m lo hi [b] → AF.DrawAt H' d l → H' e = some (.lst [.int hi]) → AF.But [d, e] H H' → AF.KeepT H H' → Q v H'
theorem ok_box0 (T : Tx K mg) : FnOk P w K mg base CX0 1 T.d_law_box.f T.d_law_box.fd ["draw", "last", "depth"] (spBox 0) := by
  have no : ∀ vs H Q E, ¬ spBox 0 vs H Q E := fun vs H Q E h => by
    obtain ⟨_, _, _, _, m, _, h, _⟩ := h
    omega
  exact ⟨fun vs H Q E h => absurd h (no vs H Q E), fun A outer s H args us vs Q E _ _ _ _ h => absurd h (no vs H Q E)⟩
theorem ok_box_step (T : Tx K mg) {n : Nat} (G_law_box : FnOk P w K mg base CX0 (n + 1) T.d_law_box.f T.d_law_box.fd ["draw", "last", "depth"] (spBox n)) :
    FnOk P w K mg base CX0 (n + 2) T.d_law_box.f T.d_law_box.fd ["draw", "last", "depth"] (spBox (n + 1)) := by
  have G_law_next := ok_law_next (P := P) (w := w) (base := base) T
  refine T.d_law_box.F.ok sc_law_box (fun vs H Q E h => ?_) (fun cdv A outer s H vs Q E hr h => ?_)
  · obtain ⟨_, _, _, _, _, rfl, _⟩ := h
    rfl
  obtain ⟨d, e, l, lo, m, rfl, hmn, hD, he, ned, nel, q⟩ := h
  refine ⟨_, (pss_cons (ps_asg (pe_op op_add (pe_op op_add (pe_ix (AF.ixL K rfl) (pv 1) pe_int (fun _ _ => rfl)) pe_int) (AF.cal T.d_law_next G_law_next (hr.mono (by omega)) (pa_cons (pv 0) (pa_cons pe_int pa_nil)))) (pg_sub (pv 1) pe_int set_list))
      (pss_cons (ps_set (i := 3) sc_law_box.nd rfl (Or.inl rfl) (pe_ix (AF.ixL K rfl) (pv 1) pe_int (fun _ _ => rfl)))
      (pss_cons (ps_if (PW.pt (pw_or (pt_cmpR op_eq (pv 2) pe_int (nomark _)) (pw_or1 (pt_cmpR op_gt (AF.cal T.d_law_next G_law_next (hr.mono (by omega)) (pa_cons (pv 0) (pa_cons pe_int pa_nil))) pe_int (nomark _)))))
      (pss_one (ps_ret (pe_tup (pa_cons pe_str (pa_cons (pv 3) (pa_cons (AF.cal T.d_law_next G_law_next (hr.mono (by omega)) (pa_cons (pv 0) (pa_cons pe_int pa_nil))) pa_nil))))))
      pss_nil)
      (pss_cons (ps_set (i := 4) sc_law_box.nd rfl (Or.inl rfl) (AF.cal T.d_law_next G_law_next (hr.mono (by omega)) (pa_cons (pv 0) (pa_cons pe_int pa_nil))))
      (pss_one (ps_ret (pe_tup (pa_cons pe_str (pa_cons (pv 3) (pa_cons (pv 4) (pa_cons (pe_callTy (AF.tupK K rfl) (by rfl) T.z_tuple (by decide +kernel) (pa_cons (pe_lc (own := [("k", 5)]) (g := gName 5) rfl sc_law_box.nd (pi_range1 (by rfl) T.z_range (pa_cons (AF.cal T.d_law_next G_law_next (hr.mono (by omega)) (pa_cons (pv 0) (pa_cons pe_int pa_nil))) pa_nil)) (blkOk_by (own := [("k", 5)]) (N := ["draw", "last", "depth", "number", "height", "k"]) (sc := defScope s_law_box) (by decide +kernel)) (fun _ _ _ _ _ => (pg_name (i := 5) sc_law_box.nd rfl (Or.inl rfl))) (fun _ _ _ _ _ => pts_nil) (fun _ _ _ _ _ => (AF.cal T.d_law_box G_law_box (hr.mono (by omega)) (pa_cons (pv 0) (pa_cons (pv 1) (pa_cons (pe_op op_sub (pv 2) pe_int) pa_nil)))))) pa_nil)) pa_nil))))))))))), ?_⟩
  refine ⟨.ref e, rfl, e, _, _, _, rfl, rfl, .of he, rfl, _, _, rfl, rfl, .ref d, rfl, d, l, 3, rfl, hD, by decide, by decide, fun x H1 hx0 hx1 hD1 b1 k1 => ?_⟩
  have he1 : H1 e = some (.lst [.int lo]) := AF.but_one b1 he ned
  refine ⟨_, _, rfl, rfl, .ref e, rfl, e, _, _, _, rfl, rfl, he1, rfl, ?_⟩
  have ce : AF.But [d, e] H1 (upd H1 e (.lst [.int (lo + 1 + x)])) := (AF.but_upd _).mono (fun b h => List.mem_cons_of_mem _ h)
  have be : AF.But [d, e] H (upd H1 e (.lst [.int (lo + 1 + x)])) := (b1.mono (fun b h => by rw [List.mem_singleton.mp h]; exact List.mem_cons_self)).trans ce
  have ke : AF.KeepT H (upd H1 e (.lst [.int (lo + 1 + x)])) := k1.trans (AF.keepT_upd he1 _)
  have hD2 : AF.DrawAt (upd H1 e (.lst [.int (lo + 1 + x)])) d l := AF.DrawAt.but hD1 (AF.but_upd _) (by simpa using ned.symm) (by simpa using nel.symm)
  refine ⟨.ref e, rfl, e, _, _, _, rfl, rfl, .of upd_same, rfl, ?_⟩
  -- the end where a block comes out
  have blk : ∀ (H3 : Hp), AF.DrawAt H3 d l → H3 e = some (.lst [.int (lo + 1 + x)]) → AF.But [d, e] H H3 → AF.KeepT H H3 →
      spNext [.ref d, .int 7] H3 (fun y H4 => 3 ≤ sizeLine ∧ ∀ p, H4 p = none → Q (.ref p) (upd H4 p (.tup [.str "block", .int (lo + 1 + x), y]))) E0 := fun H3 hD3 he3 b3 k3 => by
    refine ⟨d, l, 7, rfl, hD3, by decide, by decide, fun y H4 hy0 hy1 hD4 b4 k4 => ⟨by decide, fun p np => ?_⟩⟩
    have s4 : Same H4 (upd H4 p (.tup [.str "block", .int (lo + 1 + x), .int y])) := AF.same_new np _
    have b34 : AF.But [d, e] H3 H4 := b4.mono (fun b h => by rw [List.mem_singleton.mp h]; exact List.mem_cons_self)
    refine q (.ref p) (.blk (lo + 1 + x) y) (lo + 1 + x) _ (AF.BoxAt.mkB upd_same) (AF.Box.Good.blk (by omega) (by omega) hy0 (by omega)) (AF.DrawAt.same hD4 s4) (s4 _ _ (AF.but_one b4 he3 ned)) ?_ ?_
    · exact (b3.trans b34).trans (.of s4)
    · exact (k3.trans k4).trans (AF.Same.keepT s4)
  refine ⟨.int (m : Int), rfl, rfl, _, rfl, ite2 (fun c => ?_) (fun c => ?_)⟩
  · exact iteT ⟨.int (lo + 1 + x), rfl, .ref d, rfl, blk _ hD2 upd_same be ke⟩
  · refine ⟨.ref d, rfl, d, l, 3, rfl, hD2, by decide, by decide, fun y H3 hy0 hy1 hD3 b3 k3 => ?_⟩
    have b23 : AF.But [d, e] (upd H1 e (.lst [.int (lo + 1 + x)])) H3 := b3.mono (fun b h => by rw [List.mem_singleton.mp h]; exact List.mem_cons_self)
    have he3 : H3 e = some (.lst [.int (lo + 1 + x)]) := AF.but_one b3 upd_same ned
    refine ⟨_, _, rfl, rfl, _, rfl, ite2 (fun c2 => ?_) (fun c2 => ?_)⟩
    · exact ⟨.int (lo + 1 + x), rfl, .ref d, rfl, blk _ hD3 he3 (be.trans b23) (ke.trans k3)⟩
    · obtain ⟨m', rfl⟩ : ∃ m', m = m' + 1 := by
        cases m with
        | zero => exact absurd (decide_eq_true rfl) c
        | succ m' => exact ⟨m', rfl⟩
      refine ⟨.ref d, rfl, d, l, 9, rfl, hD3, by decide, by decide, fun g H4 hg0 hg1 hD4 b4 k4 => ?_⟩
      have b34 : AF.But [d, e] H3 H4 := b4.mono (fun b h => by rw [List.mem_singleton.mp h]; exact List.mem_cons_self)
      have he4 := AF.but_one b4 he3 ned
      refine ⟨.int (lo + 1 + x), rfl, .int g, rfl, .ref d, rfl, d, l, 3, rfl, hD4, by decide, by decide, fun z H5 hz0 hz1 hD5 b5 k5 => ?_⟩
      have b45 : AF.But [d, e] H4 H5 := b5.mono (fun b h => by rw [List.mem_singleton.mp h]; exact List.mem_cons_self)
      have he5 := AF.but_one b5 he4 ned
      have bAll : AF.But [d, e] H H5 := ((be.trans b23).trans b34).trans b45
      have kAll : AF.KeepT H H5 := ((ke.trans k3).trans k4).trans k5
      refine ⟨z, rfl, by omega, by omega, fun D nD => ?_⟩
      have nDd : D ≠ d := by
        obtain ⟨xs, h⟩ := AF.DrawAt.lst hD5
        exact (ne_of_none h nD).symm
      have nDe : D ≠ e := (ne_of_none he5 nD).symm
      have nDl : D ≠ l := by
        obtain ⟨xs, h⟩ := AF.DrawAt.lst2 hD5
        exact (ne_of_none h nD).symm
      have nHD : ∀ b o, b ∉ [d, e] → H b = some o → b ≠ D := fun b o hn h => ne_of_none (bAll b o hn h) nD
      refine lc_range (lo := 0) (n := z.toNat) (Pv := fun i H6 => ∃ (ws : List V) (bs : List AF.Box) (hi : Int), H6 D = some (.lst ws) ∧ AF.BoxesAt H6 ws bs ∧ bs.length = i ∧ AF.Box.Good m' (lo + 1 + x) hi bs ∧
        AF.DrawAt H6 d l ∧ H6 e = some (.lst [.int hi]) ∧ AF.But [d, e] H H6 ∧ AF.KeepT H H6) ?_ ?_ ?_
      · have s6 : Same H5 (upd H5 D (.lst [])) := AF.same_new nD _
        exact ⟨[], [], lo + 1 + x, upd_same, .nil, rfl, .nil _ _, AF.DrawAt.same hD5 s6, s6 _ _ he5, bAll.trans (.of s6), kAll.trans (AF.Same.keepT s6)⟩
      · rintro i H6 hi6 ⟨ws, bs, hi, eD, bw, bl, gd, hD6, he6, b6, k6⟩
        refine ⟨rfl, .ref d, rfl, .ref e, rfl, .int ((m' + 1 : Nat) : Int), rfl, _, _, rfl, rfl, d, e, l, hi, m', ?_, by omega, hD6, he6, ned, nel, fun v b hi' H7 bv g7 hD7 he7 b7 k7 => ?_⟩
        · have z1 : (((m' + 1 : Nat) : Int) - 1) = (m' : Int) := by omega
          exact congrArg (fun i => [V.ref d, V.ref e, V.int i]) z1
        · have eD7 : H7 D = some (.lst ws) := b7 D _ (by simp [nDd, nDe]) eD
          have hwl := bw.len
          have c7 : AF.But [D] H7 (upd H7 D (.lst (ws ++ [v]))) := AF.but_upd _
          have kt7 : AF.KeepT H7 (upd H7 D (.lst (ws ++ [v]))) := AF.keepT_upd eD7 _
          refine ⟨ws, eD7, small1000 (by omega), ws ++ [v], bs ++ [b], hi', upd_same, ((bw.k k7).k kt7).append (.one (bv.k kt7)), by rw [List.length_append, bl]; rfl, gd.append g7, ?_, ?_, ?_, ?_⟩
          · exact AF.DrawAt.but hD7 c7 (by simpa using nDd.symm) (by simpa using nDl.symm)
          · rw [upd_ne nDe.symm]
            exact he7
          · intro b o hn h
            rw [upd_ne (nHD b o hn h)]
            exact (b6.trans b7) b o hn h
          · exact (k6.trans k7).trans kt7
      · rintro H6 ⟨ws, bs, hi, eD, bw, bl, gd, hD6, he6, b6, k6⟩
        refine ⟨D, ws, rfl, .inl ⟨.of eD, fun t nt => ⟨(by show 4 ≤ sizeLine; decide), fun p np => ?_⟩⟩⟩
        have s7 : Same H6 (upd H6 t (.tup ws)) := AF.same_new nt _
        have s8 : Same (upd H6 t (.tup ws)) (upd (upd H6 t (.tup ws)) p (.tup [.str "scroller", .int (lo + 1 + x), .int g, .ref t])) := AF.same_new np _
        have s78 := s7.trans s8
        refine q (.ref p) (.scr (lo + 1 + x) g bs) hi _ (AF.BoxAt.mkS upd_same (s8 _ _ upd_same) (bw.s s78)) (gd.scr (by omega) (by omega) hg0 (by omega) (by omega)) (AF.DrawAt.same hD6 s78) (s78 _ _ he6) (b6.trans (.of s78)) (k6.trans (AF.Same.keepT s78))
theorem ok_law_box (T : Tx K mg) : ∀ n : Nat, FnOk P w K mg base CX0 (n + 1) T.d_law_box.f T.d_law_box.fd ["draw", "last", "depth"] (spBox n)
  | 0 => ok_box0 T
  | n + 1 => ok_box_step T (ok_law_box T n)
def spDoc : Sp := fun vs H Q _ => ∃ (d l : Addr), vs = [.ref d] ∧ AF.DrawAt H d l ∧
  ∀ (v : V) (b : AF.Box) (H' : Hp), AF.BoxAt H' v b → AF.Box.Doc b → AF.DrawAt H' d l → AF.But [d] H H' → AF.KeepT H H' → Q v H'
theorem ok_law_document (T : Tx K mg) : FnOk P w K mg base CX0 5 T.d_law_document.f T.d_law_document.fd ["draw"] spDoc := by
  have G_law_next := ok_law_next (P := P) (w := w) (base := base) T
  have G_law_box := ok_law_box (P := P) (w := w) (base := base) T 3
  refine T.d_law_document.F.ok sc_law_document (fun vs H Q E h => ?_) (fun cdv A outer s H vs Q E hr h => ?_)
  · obtain ⟨_, _, rfl, _⟩ := h
    rfl
  obtain ⟨d, l, rfl, hD, q⟩ := h
  refine ⟨_, (pss_cons (ps_set (i := 1) sc_law_document.nd rfl (Or.inr rfl) (pe_lst (pa_cons (pe_op op_add pe_int (AF.cal T.d_law_next G_law_next (hr.mono (by omega)) (pa_cons (pv 0) (pa_cons pe_int pa_nil)))) pa_nil)))
      (pss_cons (ps_set (i := 2) sc_law_document.nd rfl (Or.inl rfl) (pe_ix (AF.ixL K rfl) (pe_lst (pa_cons pe_int (pa_cons pe_int (pa_cons pe_int (pa_cons pe_int (pa_cons pe_int (pa_cons pe_int pa_nil))))))) (AF.cal T.d_law_next G_law_next (hr.mono (by omega)) (pa_cons (pv 0) (pa_cons pe_int pa_nil))) (fun _ _ => rfl)))
      (pss_cons (ps_set (i := 3) sc_law_document.nd rfl (Or.inl rfl) (pe_ix (AF.ixL K rfl) (pv 1) pe_int (fun _ _ => rfl)))
      (pss_one (ps_ret (pe_tup (pa_cons pe_str (pa_cons (pv 3) (pa_cons (pv 2) (pa_cons (pe_callTy (AF.tupK K rfl) (by rfl) T.z_tuple (by decide +kernel) (pa_cons (pe_lc (own := [("k", 4)]) (g := gName 4) rfl sc_law_document.nd (pi_range1 (by rfl) T.z_range (pa_cons (AF.cal T.d_law_next G_law_next (hr.mono (by omega)) (pa_cons (pv 0) (pa_cons pe_int pa_nil))) pa_nil)) (blkOk_by (own := [("k", 4)]) (N := ["draw", "last", "height", "number", "k"]) (sc := defScope s_law_document) (by decide +kernel)) (fun _ _ _ _ _ => (pg_name (i := 4) sc_law_document.nd rfl (Or.inl rfl))) (fun _ _ _ _ _ => pts_nil) (fun _ _ _ _ _ => (AF.cal T.d_law_box G_law_box (hr.mono (by omega)) (pa_cons (pv 0) (pa_cons (pv 1) (pa_cons (pe_op op_add pe_int (AF.cal T.d_law_next G_law_next (hr.mono (by omega)) (pa_cons (pv 0) (pa_cons pe_int pa_nil)))) pa_nil)))))) pa_nil)) pa_nil)))))))))), ?_⟩
  refine ⟨.ref d, rfl, d, l, 5, rfl, hD, by decide, by decide, fun x H1 hx0 hx1 hD1 b1 k1 => ?_⟩
  refine ⟨_, _, rfl, rfl, (by show 1 ≤ sizeLine; decide), fun e ne => ?_⟩
  have s2 : Same H1 (upd H1 e (.lst [.int (1 + x)])) := AF.same_new ne _
  have hD2 := AF.DrawAt.same hD1 s2
  have ned : e ≠ d := by
    obtain ⟨xs, h⟩ := AF.DrawAt.lst hD1
    exact (ne_of_none h ne).symm
  have nel : e ≠ l := by
    obtain ⟨xs, h⟩ := AF.DrawAt.lst2 hD1
    exact (ne_of_none h ne).symm
  -- height = [..][..]
  refine ⟨by decide, fun g ng => ?_⟩
  have s3 : Same (upd H1 e (.lst [.int (1 + x)])) (upd (upd H1 e (.lst [.int (1 + x)])) g (.lst [.int 0, .int 3, .int 6, .int 9, .int 12, .int 20])) := AF.same_new ng _
  have hD3 := AF.DrawAt.same hD2 s3
  refine ⟨.ref d, rfl, d, l, 6, rfl, hD3, by decide, by decide, fun y H4 hy0 hy1 hD4 b4 k4 => ?_⟩
  have eg4 : H4 g = some (.lst [.int 0, .int 3, .int 6, .int 9, .int 12, .int 20]) := AF.but_one b4 upd_same (by
    obtain ⟨xs, h⟩ := AF.DrawAt.lst hD2
    exact (ne_of_none h ng).symm)
  have he4 : H4 e = some (.lst [.int (1 + x)]) := AF.but_one b4 (s3 _ _ upd_same) ned
  obtain ⟨z, hz, hz0, hz1⟩ : ∃ z : Int, atI [V.int 0, V.int 3, V.int 6, V.int 9, V.int 12, V.int 20] y = some (.int z) ∧ 0 ≤ z ∧ z ≤ 20 := by
    have hc : y = 0 ∨ y = 1 ∨ y = 2 ∨ y = 3 ∨ y = 4 ∨ y = 5 := by omega
    rcases hc with rfl | rfl | rfl | rfl | rfl | rfl
    · exact ⟨0, rfl, by decide, by decide⟩
    · exact ⟨3, rfl, by decide, by decide⟩
    · exact ⟨6, rfl, by decide, by decide⟩
    · exact ⟨9, rfl, by decide, by decide⟩
    · exact ⟨12, rfl, by decide, by decide⟩
    · exact ⟨20, rfl, by decide, by decide⟩
  refine ⟨g, _, _, _, rfl, rfl, .of eg4, hz, .ref e, rfl, e, _, _, _, rfl, rfl, .of he4, rfl, ?_⟩
  have bH4 : AF.But [d] H H4 := (b1.trans (.of (s2.trans s3))).trans b4
  have kH4 : AF.KeepT H H4 := (k1.trans (AF.Same.keepT (s2.trans s3))).trans k4
  have nHe : ∀ b o, b ∉ [d] → H b = some o → b ≠ e := fun b o hn h => ne_of_none (b1 b o hn h) ne
  refine ⟨.int (1 + x), rfl, .int z, rfl, .ref d, rfl, d, l, 5, rfl, hD4, by decide, by decide, fun u H5 hu0 hu1 hD5 b5 k5 => ?_⟩
  have he5 := AF.but_one b5 he4 ned
  refine ⟨u, rfl, by omega, by omega, fun D nD => ?_⟩
  have nDd : D ≠ d := by
    obtain ⟨xs, h⟩ := AF.DrawAt.lst hD5
    exact (ne_of_none h nD).symm
  have nDe : D ≠ e := (ne_of_none he5 nD).symm
  have nDl : D ≠ l := by
    obtain ⟨xs, h⟩ := AF.DrawAt.lst2 hD5
    exact (ne_of_none h nD).symm
  have bH5 := bH4.trans b5
  have kH5 := kH4.trans k5
  have nHD : ∀ b o, b ∉ [d] → H b = some o → b ≠ D := fun b o hn h => ne_of_none (bH5 b o hn h) nD
  refine lc_range (lo := 0) (n := u.toNat) (Pv := fun i H6 => ∃ (ws : List V) (bs : List AF.Box) (hi : Int), H6 D = some (.lst ws) ∧ AF.BoxesAt H6 ws bs ∧ bs.length = i ∧ AF.Box.Good 2 (1 + x) hi bs ∧
    AF.DrawAt H6 d l ∧ H6 e = some (.lst [.int hi]) ∧ AF.But [d] H H6 ∧ AF.KeepT H H6) ?_ ?_ ?_
  · have s6 : Same H5 (upd H5 D (.lst [])) := AF.same_new nD _
    exact ⟨[], [], 1 + x, upd_same, .nil, rfl, .nil _ _, AF.DrawAt.same hD5 s6, s6 _ _ he5, bH5.trans (.of s6), kH5.trans (AF.Same.keepT s6)⟩
  · rintro i H6 hi6 ⟨ws, bs, hi, eD, bw, bl, gd, hD6, he6, b6, k6⟩
    refine ⟨rfl, .ref d, rfl, .ref e, rfl, .ref d, rfl, d, l, 2, rfl, hD6, by decide, by decide, fun r H7 hr0 hr1 hD7 b7 k7 => ?_⟩
    have he7 := AF.but_one b7 he6 ned
    have eD7 : H7 D = some (.lst ws) := AF.but_one b7 eD nDd
    obtain ⟨m, hm, hm2⟩ : ∃ m : Nat, (1 : Int) + r = (m : Int) ∧ m < 3 := ⟨(1 + r).toNat, by omega, by omega⟩
    refine ⟨_, _, rfl, rfl, d, e, l, hi, m, congrArg (fun i => [V.ref d, V.ref e, V.int i]) hm, hm2, hD7, he7, ned, nel, fun v b hi' H8 bv g8 hD8 he8 b8 k8 => ?_⟩
    have eD8 : H8 D = some (.lst ws) := b8 D _ (by simp [nDd, nDe]) eD7
    have hwl := bw.len
    have c8 : AF.But [D] H8 (upd H8 D (.lst (ws ++ [v]))) := AF.but_upd _
    have kt8 : AF.KeepT H8 (upd H8 D (.lst (ws ++ [v]))) := AF.keepT_upd eD8 _
    refine ⟨ws, eD8, small1000 (by omega), ws ++ [v], bs ++ [b], hi', upd_same, (((bw.k k7).k k8).k kt8).append (.one (bv.k kt8)), by rw [List.length_append, bl]; rfl, gd.append (g8.mono (by omega)), ?_, ?_, ?_, ?_⟩
    · exact AF.DrawAt.but hD8 c8 (by simpa using nDd.symm) (by simpa using nDl.symm)
    · rw [upd_ne nDe.symm]
      exact he8
    · intro b o hn h
      rw [upd_ne (nHD b o hn h)]
      refine b8 b o ?_ ((b6.trans b7) b o hn h)
      have h1 : b ≠ d := by simpa using hn
      have h2 := nHe b o hn h
      simp [h1, h2]
    · exact ((k6.trans k7).trans k8).trans kt8
  · rintro H6 ⟨ws, bs, hi, eD, bw, bl, gd, hD6, he6, b6, k6⟩
    refine ⟨D, ws, rfl, .inl ⟨.of eD, fun t nt => ⟨(by show 4 ≤ sizeLine; decide), fun p np => ?_⟩⟩⟩
    have s7 : Same H6 (upd H6 t (.tup ws)) := AF.same_new nt _
    have s8 : Same (upd H6 t (.tup ws)) (upd (upd H6 t (.tup ws)) p (.tup [.str "scroller", .int (1 + x), .int z, .ref t])) := AF.same_new np _
    have s78 := s7.trans s8
    refine q (.ref p) (.scr (1 + x) z bs) _ (AF.BoxAt.mkS upd_same (s8 _ _ upd_same) (bw.s s78)) ⟨1 + x, z, hi, bs, rfl, by omega, by omega, hz0, hz1, gd, by omega⟩ (AF.DrawAt.same hD6 s78) (b6.trans (.of s78)) (k6.trans (AF.Same.keepT s78))

end
end K08
namespace K08
open PySem PySem.Spec PyProof.Rows L2
section
variable {P : Program} {w : World} {K : PySem.W.Frag} {mg : Str → Option Value} {base : Heap}
/-! ### the law's own walk over the boxes -/
def spLAll (n : Nat) : Sp := fun vs H Q _ => ∃ (v : V) (b : AF.Box), vs = [v] ∧ AF.BoxAt H v b ∧ b.depth < n ∧ b.pre.length ≤ 1000 ∧
  ∀ (l : Addr) (ws : List V) (H' : Hp), Same H H' → H l = none → H' l = some (.lst ws) → AF.BoxesAt H' ws b.pre → Q (.ref l) H'
theorem ok_all0 (T : Tx K mg) : FnOk P w K mg base CX0 0 T.d_law_all.f T.d_law_all.fd ["box"] (spLAll 0) := by
  have no : ∀ vs H Q E, ¬ spLAll 0 vs H Q E := fun vs H Q E h => by
    obtain ⟨_, _, _, _, h, _⟩ := h
    omega
  exact ⟨fun vs H Q E h => absurd h (no vs H Q E), fun A outer s H args us vs Q E _ _ _ _ h => absurd h (no vs H Q E)⟩
theorem ok_all_step (T : Tx K mg) {n : Nat} (G_law_all : FnOk P w K mg base CX0 n T.d_law_all.f T.d_law_all.fd ["box"] (spLAll n)) :
    FnOk P w K mg base CX0 (n + 1) T.d_law_all.f T.d_law_all.fd ["box"] (spLAll (n + 1)) := by
  refine T.d_law_all.F.ok sc_law_all (fun vs H Q E h => ?_) (fun cdv A outer s H vs Q E hr h => ?_)
  · obtain ⟨_, _, rfl, _⟩ := h
    rfl
  obtain ⟨v, b, rfl, hb, hdep, hlen, q⟩ := h
  refine ⟨_, (pss_cons (ps_set (i := 1) sc_law_all.nd rfl (Or.inl rfl) (pe_lst (pa_cons (pv 0) pa_nil)))
      (pss_cons (ps_for PassesOwn.never rfl (AF.piT K rfl (pe_ifExp (pt_cmpR op_eq (pe_ix (AF.ixT K rfl) (pv 0) pe_int (fun _ _ => rfl)) pe_str (nomark _)) (pe_ix (AF.ixT K rfl) (pv 0) pe_int (fun _ _ => rfl)) (pe_tup pa_nil))) (pg_name (i := 2) sc_law_all.nd rfl (Or.inl rfl))
      (pss_one (ps_set (i := 1) sc_law_all.nd rfl (Or.inl rfl) (pe_op op_cat (pv 1) (AF.cal T.d_law_all G_law_all (hr.mono (by omega)) (pa_cons (pv 2) pa_nil))))))
      (pss_one (ps_ret (pv 1))))), ?_⟩
  refine ⟨v, rfl, (by show 1 ≤ sizeLine; decide), fun f nf => ?_⟩
  have s0 : Same H (upd H f (.lst [v])) := AF.same_new nf _
  have hb0 := hb.s s0
  obtain ⟨a, xs, ev, ha, e⟩ := hb0.tup
  have e0 : xs[0]? = some (.str b.kind) := by
    have := congrArg (fun l => l[0]?) e
    simpa using this
  refine ⟨v, rfl, a, _, _, _, ev, rfl, .of ha, atI_nat (j := 0) e0, rfl, _, rfl, ?_⟩
  have hpre := AF.Box.pre_eq b
  -- from the parts on
  have go : ∀ (p : Addr) (ps : List V) (H1 : Hp), Same (upd H f (.lst [v])) H1 → H1 p = some (.tup ps) → AF.BoxesAt H1 ps b.parts →
      ∃ W : Nat → Nat → L2.St → Hp → Prop, (∃ m, W 0 m [some v, some (.ref f), none] H1) ∧ ∀ i m σ H2, W i m σ H2 →
        ((Itt K p).stop i H2 ∧ tRet (tVar 1) { nx := fun _ H' => Q .non H', rt := Q } σ H2) ∨ ((Itt K p).go i H2 ∧ ∃ N : L2.St → Hp → Prop, (∀ σ' H', N σ' H' → ∃ m', m' < m ∧ W (i + 1) m' σ' H') ∧ ∀ x H', (Itt K p).yld i H2 x H' → gName 2 x σ H' fun σ2 H2 =>
          tAsg (tOp rCat (tVar 1) (tCall (spLAll n) [] E0 (tCons (tVar 2) tNil))) (gName 1) { nx := N, rt := Q, ct := N, bk := tRet (tVar 1) { nx := fun _ H' => Q .non H', rt := Q } } σ2 H2) := by
    intro p ps H1 s1 ep bp
    have hps := bp.len
    refine for_tup (xs := ps) (D := { nx := tRet (tVar 1) { nx := fun _ H' => Q .non H', rt := Q }, rt := Q }) (Pv := fun i σ H3 => ∃ (c : Addr) (x : Option V) (ws : List V), σ = [some v, some (.ref c), x] ∧ Same H H3 ∧ AF.KeepT H1 H3 ∧ H c = none ∧ H3 c = some (.lst ws) ∧
      AF.BoxesAt H3 ws (b :: AF.Box.preL (b.parts.take i))) ?_ ?_ ?_ ?_
    · refine ⟨f, none, [v], rfl, s0.trans s1, .refl _, nf, s1 _ _ upd_same, ?_⟩
      exact .one ((hb0.s s1))
    · rintro i σ H3 _ ⟨c, x, ws, _, _, k, _⟩
      exact .of (k _ _ ep)
    · rintro i y σ H3 hy ⟨c, x, ws, rfl, sm, k, nc, ec, bw⟩
      obtain ⟨d, hd, by_⟩ := bp.get hy
      have hi := (List.getElem?_eq_some_iff.mp hd).1
      have et : b.parts.take (i + 1) = b.parts.take i ++ [d] := by rw [List.take_add_one, hd]; rfl
      have hd1 : d.depth < n := by
        cases b with
        | blk _ _ => simp [AF.Box.parts] at hd
        | scr m g qs =>
          have := AF.Box.depthL_mem (List.mem_of_getElem? hd)
          simp only [AF.Box.depth] at hdep
          simp only [AF.Box.parts] at this
          omega
      have hdm : d.pre.length ≤ b.pre.length := by
        refine AF.Box.pre_mem_len b d ?_
        rw [hpre, AF.Box.preL_eq]
        refine List.mem_cons_of_mem _ (List.mem_flatMap.mpr ⟨d, List.mem_of_getElem? hd, ?_⟩)
        rw [AF.Box.pre_eq d]
        exact List.mem_cons_self
      have hsum : (b :: AF.Box.preL (b.parts.take i)).length + d.pre.length ≤ b.pre.length := by
        have h1 : AF.Box.preL b.parts = AF.Box.preL (b.parts.take (i + 1)) ++ AF.Box.preL (b.parts.drop (i + 1)) := by rw [← AF.Box.preL_append, List.take_append_drop]
        rw [hpre, h1, et, AF.Box.preL_append]
        simp only [List.length_cons, List.length_append, AF.Box.preL, List.length_nil]
        omega
      refine ⟨.ref c, rfl, y, rfl, y, d, rfl, by_.k k, hd1, by omega, fun l us H4 s4 nl el bu => ?_⟩
      have hw := bw.len
      have hu := bu.len
      refine ⟨c, l, ws, us, rfl, rfl, s4 _ _ ec, el, Nat.le_of_lt (small1000 (by omega)), fun z nz => ?_⟩
      have s5 : Same H4 (upd H4 z (.lst (ws ++ us))) := AF.same_new nz _
      refine ⟨z, some y, ws ++ us, rfl, (sm.trans s4).trans s5, (k.trans (AF.Same.keepT s4)).trans (AF.Same.keepT s5), ?_, upd_same, ?_⟩
      · exact Same.free (sm.trans s4) nz
      · rw [et, AF.Box.preL_append, ← List.cons_append]
        have e2 : AF.Box.preL [d] = d.pre := by simp [AF.Box.preL]
        rw [e2]
        exact ((bw.s s4).s s5).append (bu.s s5)
    · rintro σ H3 ⟨c, x, ws, rfl, sm, k, nc, ec, bw⟩
      rw [hps, List.take_length, ← hpre] at bw
      exact ⟨.ref c, rfl, q c ws H3 sm nc ec bw⟩
  cases b with
  | blk m g =>
    refine AF.iteN (by intro z; cases (of_decide_eq_true z)) ⟨Nat.zero_le _, fun p np => ⟨p, rfl, ⟨[], .of upd_same⟩, ?_⟩⟩
    exact go p [] _ (AF.same_new np _) upd_same .nil
  | scr m g ps =>
    refine iteT ?_
    obtain ⟨a2, p, vs, rfl, h1, h2, h3⟩ := hb0.scr
    exact ⟨_, rfl, a2, _, _, _, rfl, rfl, .of h1, atI_nat (j := 3) rfl, p, rfl, ⟨vs, .of h2⟩, go p vs _ (.refl _) h2 h3⟩
theorem ok_law_all (T : Tx K mg) : ∀ n : Nat, FnOk P w K mg base CX0 n T.d_law_all.f T.d_law_all.fd ["box"] (spLAll n)
  | 0 => ok_all0 T
  | n + 1 => ok_all_step T (ok_law_all T n)

def spIntS (f : AF.Box → Int) : Sp := fun vs H Q _ => ∃ (v : V) (b : AF.Box), vs = [v] ∧ AF.BoxAt H v b ∧ b.isS = true ∧ b.parts.length ≤ 1000 ∧ ∀ H' : Hp, Same H H' → Q (.int (f b)) H'
theorem ok_law_length (T : Tx K mg) : FnOk P w K mg base CX0 1 T.d_law_length.f T.d_law_length.fd ["scroller"] (spIntS fun b => AF.Box.sumH b.parts) := by
  refine T.d_law_length.F.ok sc_law_length (fun vs H Q E h => ?_) (fun cdv A outer s H vs Q E hr h => ?_)
  · obtain ⟨_, _, rfl, _⟩ := h
    rfl
  obtain ⟨v, b, rfl, hb, hS, hlen, q⟩ := h
  refine ⟨_, (pss_one (ps_ret (pe_callB (AF.sumK K rfl rfl) (by rfl) T.z_sum (by decide +kernel) (pa_cons (pe_lc (own := [("part", 1)]) (g := gName 1) rfl sc_law_length.nd (AF.piT K rfl (pe_ix (AF.ixT K rfl) (pv 0) pe_int (fun _ _ => rfl))) (blkOk_by (own := [("part", 1)]) (N := ["scroller", "part"]) (sc := defScope s_law_length) (by decide +kernel)) (fun _ _ _ _ _ => (pg_name (i := 1) sc_law_length.nd rfl (Or.inl rfl))) (fun _ _ _ _ _ => pts_nil) (fun _ _ _ _ _ => (pe_ix (AF.ixT K rfl) (pv 1) pe_int (fun _ _ => rfl)))) pa_nil)))), ?_⟩
  obtain ⟨m, g, ps, rfl⟩ : ∃ m g ps, b = .scr m g ps := by
    cases b with
    | blk _ _ => cases hS
    | scr m g ps => exact ⟨m, g, ps, rfl⟩
  obtain ⟨a, p, ws, rfl, h1, h2, bp⟩ := hb.scr
  refine ⟨.ref a, rfl, a, _, _, _, rfl, rfl, .of h1, atI_nat (j := 3) rfl, p, rfl, ⟨ws, .of h2⟩, fun D nD => ?_⟩
  have hw := bp.len
  refine lc_tup (xs := ws) (Pv := fun i H3 => Same H H3 ∧ H3 D = some (.lst (((ps.map AF.Box.ht).take i).map V.int))) ?_ ?_ ?_ ?_
  · exact ⟨AF.same_new nD _, upd_same⟩
  · rintro i H3 _ ⟨sm, _⟩
    exact .of (sm _ _ h2)
  · rintro i y H3 hy ⟨sm, eD⟩
    obtain ⟨c, hc, by_⟩ := bp.get hy
    obtain ⟨a3, xs, rfl, h3, e⟩ := (by_.s sm).tup
    have e0 : xs[2]? = some (.int c.ht) := by
      have := congrArg (fun l => l[2]?) e
      simpa using this
    refine ⟨rfl, .ref a3, rfl, a3, _, _, _, rfl, rfl, .of h3, atI_nat (j := 2) e0, _, eD, ?_, AF.same_upd sm nD _, ?_⟩
    · rw [List.length_map, List.length_take]
      refine small1000 (Nat.le_trans (Nat.min_le_right _ _) ?_)
      rw [List.length_map]
      exact hlen
    · rw [upd_same, List.take_add_one, List.getElem?_map, hc, List.map_append]
      rfl
  · rintro H3 ⟨sm, eD⟩
    rw [hw, List.take_of_length_le (by rw [List.length_map]; exact Nat.le_refl _)] at eD
    exact ⟨D, _, rfl, .of eD, q H3 sm⟩
theorem ok_law_range (T : Tx K mg) : FnOk P w K mg base CX0 2 T.d_law_range.f T.d_law_range.fd ["scroller"] (spIntS AF.Box.rng) := by
  have G_law_length := ok_law_length (P := P) (w := w) (base := base) T
  refine T.d_law_range.F.ok sc_law_range (fun vs H Q E h => ?_) (fun cdv A outer s H vs Q E hr h => ?_)
  · obtain ⟨_, _, rfl, _⟩ := h
    rfl
  obtain ⟨v, b, rfl, hb, hS, hlen, q⟩ := h
  refine ⟨_, (pss_one (ps_ret (pe_callB (call_max2 rfl) (by rfl) T.z_max (by decide +kernel) (pa_cons pe_int (pa_cons (pe_op op_sub (AF.cal T.d_law_length G_law_length (hr.mono (by omega)) (pa_cons (pv 0) pa_nil)) (pe_ix (AF.ixT K rfl) (pv 0) pe_int (fun _ _ => rfl))) pa_nil))))), ?_⟩
  refine ⟨v, rfl, v, b, rfl, hb, hS, hlen, fun H1 s1 => ?_⟩
  obtain ⟨a, xs, rfl, ha, e⟩ := (hb.s s1).tup
  have e0 : xs[2]? = some (.int b.ht) := by
    have := congrArg (fun l => l[2]?) e
    simpa using this
  exact ⟨_, rfl, a, _, _, _, rfl, rfl, .of ha, atI_nat (j := 2) e0, _, _, rfl, rfl, _, _, rfl, q H1 s1⟩

end
end K08
namespace K08
open PySem PySem.Spec PyProof.Rows L2
section
variable {P : Program} {w : World} {K : PySem.W.Frag} {mg : Str → Option Value} {base : Heap}
/-! ### the law's own reading of a document -/
def spNamed : Sp := fun vs H Q _ => ∃ (v : V) (b : AF.Box) (n : Int), vs = [v, .int n] ∧ AF.BoxAt H v b ∧ b.depth < 9 ∧ b.pre.length ≤ 1000 ∧
  ∀ (w : V) (H' : Hp), Same H H' → AF.OptAt H' w (b.pre.find? (AF.Box.byNum n)) → Q w H'
theorem ok_law_named (T : Tx K mg) : FnOk P w K mg base CX0 10 T.d_law_named.f T.d_law_named.fd ["document", "number"] spNamed := by
  have G_law_all := ok_law_all (P := P) (w := w) (base := base) T 9
  refine T.d_law_named.F.ok sc_law_named (fun vs H Q E h => ?_) (fun cdv A outer s H vs Q E hr h => ?_)
  · obtain ⟨_, _, _, rfl, _⟩ := h
    rfl
  obtain ⟨v, b, n, rfl, hb, hd, hlen, q⟩ := h
  refine ⟨_, (pss_cons (ps_for PassesOwn.never rfl (AF.piL K rfl (AF.cal T.d_law_all G_law_all (hr.mono (by omega)) (pa_cons (pv 0) pa_nil))) (pg_name (i := 2) sc_law_named.nd rfl (Or.inl rfl))
      (pss_one (ps_if (pt_cmpR op_eq (pe_ix (AF.ixT K rfl) (pv 2) pe_int (fun _ _ => rfl)) (pv 1) (nomark _))
      (pss_one (ps_ret (pv 2)))
      pss_nil)))
      (pss_one (ps_ret pe_non))), ?_⟩
  refine ⟨v, rfl, v, b, rfl, hb, hd, hlen, fun l ws H1 s1 nl el bw => ?_⟩
  refine ⟨l, rfl, ⟨ws, .of el⟩, ?_⟩
  have hw := bw.len
  refine for_list (xs := ws) (Pv := fun i σ H3 => ∃ x : Option V, σ = [some v, some (.int n), x] ∧ H3 = H1 ∧ (b.pre.take i).find? (AF.Box.byNum n) = none) ?_ ?_ ?_ ?_
  · exact ⟨none, rfl, rfl, rfl⟩
  · rintro i σ H3 _ ⟨x, _, rfl, _⟩
    exact .of el
  · rintro i y σ H3 hy ⟨x, rfl, rfl, hf⟩
    obtain ⟨c, hc, by_⟩ := bw.get hy
    obtain ⟨a7, xs7, ey, ha7, e7⟩ := by_.tup
    have i1 : xs7[1]? = some (.int c.num) := by
      have := congrArg (fun l => l[1]?) e7
      simpa using this
    refine ⟨y, rfl, a7, _, _, _, ey, rfl, .of ha7, atI_nat (j := 1) i1, .int n, rfl, rfl, _, rfl, ite2 (fun cc => ?_) (fun cc => ?_)⟩
    · have e : c.num = n := V.int.inj (of_decide_eq_true cc)
      refine ⟨y, rfl, q y H3 s1 ?_⟩
      rw [AF.find_at hf hc (decide_eq_true e)]
      exact by_
    · have e : ¬ c.num = n := fun z => cc (decide_eq_true (congrArg V.int z))
      exact ⟨some y, rfl, rfl, AF.find_step hf hc (decide_eq_false e)⟩
  · rintro σ H3 ⟨x, rfl, rfl, hf⟩
    rw [hw, List.take_length] at hf
    exact q .non H3 s1 (by rw [hf]; rfl)
def spDepth (n : Nat) : Sp := fun vs H Q _ => ∃ (v : V) (b : AF.Box), vs = [v] ∧ AF.BoxAt H v b ∧ b.depth < n ∧ b.pre.length ≤ 1000 ∧ ∀ H' : Hp, Same H H' → Q (.int (b.depth : Int)) H'
theorem ok_depth0 (T : Tx K mg) : FnOk P w K mg base CX0 0 T.d_law_depth.f T.d_law_depth.fd ["box"] (spDepth 0) := by
  have no : ∀ vs H Q E, ¬ spDepth 0 vs H Q E := fun vs H Q E h => by
    obtain ⟨_, _, _, _, h, _⟩ := h
    omega
  exact ⟨fun vs H Q E h => absurd h (no vs H Q E), fun A outer s H args us vs Q E _ _ _ _ h => absurd h (no vs H Q E)⟩
theorem ok_depth_step (T : Tx K mg) {n : Nat} (G_law_depth : FnOk P w K mg base CX0 n T.d_law_depth.f T.d_law_depth.fd ["box"] (spDepth n)) :
    FnOk P w K mg base CX0 (n + 1) T.d_law_depth.f T.d_law_depth.fd ["box"] (spDepth (n + 1)) := by
  refine T.d_law_depth.F.ok sc_law_depth (fun vs H Q E h => ?_) (fun cdv A outer s H vs Q E hr h => ?_)
  · obtain ⟨_, _, rfl, _⟩ := h
    rfl
  obtain ⟨v, b, rfl, hb, hdep, hlen, q⟩ := h
  refine ⟨_, (pss_one (ps_ret (pe_ifExp (pt_cmpR op_eq (pe_ix (AF.ixT K rfl) (pv 0) pe_int (fun _ _ => rfl)) pe_str (nomark _)) pe_int (pe_op op_add pe_int (pe_callB (AF.maxK K rfl rfl) (by rfl) T.z_max (by decide +kernel) (pa_cons (pe_op op_cat (pe_lst (pa_cons pe_int pa_nil)) (pe_lc (own := [("part", 1)]) (g := gName 1) rfl sc_law_depth.nd (AF.piT K rfl (pe_ix (AF.ixT K rfl) (pv 0) pe_int (fun _ _ => rfl))) (blkOk_by (own := [("part", 1)]) (N := ["box", "part"]) (sc := defScope s_law_depth) (by decide +kernel)) (fun _ _ _ _ _ => (pg_name (i := 1) sc_law_depth.nd rfl (Or.inl rfl))) (fun _ _ _ _ _ => pts_nil) (fun _ _ _ _ _ => (AF.cal T.d_law_depth G_law_depth (hr.mono (by omega)) (pa_cons (pv 1) pa_nil))))) pa_nil)))))), ?_⟩
  obtain ⟨a, xs, ev, ha, e⟩ := hb.tup
  have e0 : xs[0]? = some (.str b.kind) := by
    have := congrArg (fun l => l[0]?) e
    simpa using this
  refine ⟨v, rfl, a, _, _, _, ev, rfl, .of ha, atI_nat (j := 0) e0, rfl, _, rfl, ?_⟩
  cases b with
  | blk m g =>
    refine iteT ?_
    have t : Q (.int 0) H := by simpa [AF.Box.depth] using q H (.refl H)
    exact t
  | scr m g ps =>
    refine AF.iteN (by intro z; cases (of_decide_eq_true z)) ?_
    obtain ⟨a2, p, us, rfl, h1, h2, bp⟩ := hb.scr
    refine ⟨(by show 1 ≤ sizeLine; decide), fun z nz => ?_⟩
    have s0 : Same H (upd H z (.lst [.int 0])) := AF.same_new nz _
    refine ⟨_, rfl, a2, _, _, _, rfl, rfl, .of (s0 _ _ h1), atI_nat (j := 3) rfl, p, rfl, ⟨us, .of (s0 _ _ h2)⟩, fun D nD => ?_⟩
    have hus := bp.len
    have hps : ps.length ≤ 1000 := by
      have h3 := AF.Box.preL_ge ps
      simp only [AF.Box.pre, List.length_cons] at hlen
      omega
    refine lc_tup (xs := us) (Pv := fun i H3 => Same (upd H z (.lst [.int 0])) H3 ∧ H3 D = some (.lst (((ps.map fun c => (c.depth : Int)).take i).map V.int))) ?_ ?_ ?_ ?_
    · exact ⟨AF.same_new nD _, upd_same⟩
    · rintro i H3 _ ⟨s3, _⟩
      exact .of (s3 _ _ (s0 _ _ h2))
    · rintro i y H3 hy ⟨s3, eD⟩
      obtain ⟨c, hc, by_⟩ := bp.get hy
      have hm := List.mem_of_getElem? hc
      have hd1 : c.depth < n := by
        have := AF.Box.depthL_mem hm
        simp only [AF.Box.depth] at hdep
        omega
      have hdm : c.pre.length ≤ 1000 := by
        have h4 := AF.Box.pre_mem_len (.scr m g ps) c (by
          simp only [AF.Box.pre]
          rw [AF.Box.preL_eq]
          refine List.mem_cons_of_mem _ (List.mem_flatMap.mpr ⟨c, hm, ?_⟩)
          rw [AF.Box.pre_eq c]
          exact List.mem_cons_self)
        omega
      refine ⟨rfl, y, rfl, y, c, rfl, by_.s (s0.trans s3), hd1, hdm, fun H4 s4 => ⟨_, s4 _ _ eD, ?_, AF.same_upd (s3.trans s4) nD _, ?_⟩⟩
      · rw [List.length_map, List.length_take, List.length_map]
        exact small1000 (by omega)
      · rw [upd_same, List.take_add_one, List.getElem?_map, hc, List.map_append]
        rfl
    · rintro H3 ⟨s3, eD⟩
      rw [hus, ← List.length_map (f := fun c : AF.Box => (c.depth : Int)), List.take_length] at eD
      refine ⟨z, D, _, _, rfl, rfl, s3 _ _ upd_same, eD, ?_, fun r nr => ?_⟩
      · rw [List.length_map, List.length_map]
        exact Nat.le_of_lt (small1000 (by show 1 + ps.length ≤ 1000; have := AF.Box.preL_ge ps; simp only [AF.Box.pre, List.length_cons] at hlen; omega))
      have er : (upd H3 r (.lst ([.int 0] ++ (ps.map fun c => (c.depth : Int)).map V.int))) r = some (.lst (((0 : Int) :: ps.map fun c => (c.depth : Int)).map V.int)) := upd_same
      refine ⟨r, _, rfl, .of er, by simp, fun k hk hmax => ⟨_, _, rfl, rfl, ?_⟩⟩
      have ek : k = (AF.Box.depthL ps : Int) := AF.Box.depthL_max hk hmax
      subst ek
      have e2 : (1 : Int) + (AF.Box.depthL ps : Int) = ((AF.Box.scr m g ps).depth : Int) := by
        simp only [AF.Box.depth]
        omega
      have := q _ ((s0.trans s3).trans (AF.same_new nr (.lst ([.int 0] ++ (ps.map fun c => (c.depth : Int)).map V.int))))
      rw [← e2] at this
      exact this
theorem ok_law_depth (T : Tx K mg) : ∀ n : Nat, FnOk P w K mg base CX0 n T.d_law_depth.f T.d_law_depth.fd ["box"] (spDepth n)
  | 0 => ok_depth0 T
  | n + 1 => ok_depth_step T (ok_law_depth T n)
def spLIsDoc : Sp := fun vs H Q _ => ∃ (v : V) (b : AF.Box), vs = [v] ∧ AF.BoxAt H v b ∧ b.depth < 9 ∧ b.pre.length ≤ 1000 ∧ ∀ (k : Bool) (H' : Hp), Same H H' → (k = true ↔ AF.Box.IsDoc b) → Q (.bl k) H'
theorem ok_law_is_document (T : Tx K mg) : FnOk P w K mg base CX0 10 T.d_law_is_document.f T.d_law_is_document.fd ["box"] spLIsDoc := by
  have G_law_all := ok_law_all (P := P) (w := w) (base := base) T 9
  have G_law_depth := ok_law_depth (P := P) (w := w) (base := base) T 9
  refine T.d_law_is_document.F.ok sc_law_is_document (fun vs H Q E h => ?_) (fun cdv A outer s H vs Q E hr h => ?_)
  · obtain ⟨_, _, rfl, _⟩ := h
    rfl
  obtain ⟨v, b, rfl, hb, hdep, hlen, q⟩ := h
  refine ⟨_, (pss_cons (ps_set (i := 1) sc_law_is_document.nd rfl (Or.inl rfl) (AF.cal T.d_law_all G_law_all (hr.mono (by omega)) (pa_cons (pv 0) pa_nil)))
      (pss_cons (ps_set (i := 2) sc_law_is_document.nd rfl (Or.inl rfl) (pe_lst pa_nil))
      (pss_cons (ps_for PassesOwn.never rfl (AF.piL K rfl (pv 1)) (pg_name (i := 3) sc_law_is_document.nd rfl (Or.inl rfl))
      (pss_cons (ps_if (PW.pt (pw_or (pt_cmpR (AF.inK K rfl) (pe_ix (AF.ixT K rfl) (pv 3) pe_int (fun _ _ => rfl)) (pv 2) (by rfl)) (pw_or (pt_not (pt_chain op_le op_le pe_int (pe_ix (AF.ixT K rfl) (pv 3) pe_int (fun _ _ => rfl)) pe_int)) (pw_or1 (pt_not (pt_chain op_le op_le pe_int (pe_ix (AF.ixT K rfl) (pv 3) pe_int (fun _ _ => rfl)) pe_int))))))
      (pss_one (ps_ret pe_bl))
      pss_nil)
      (pss_one (ps_expr (pe_bm PySem.F.plainAttrs_list PySem.F.slot_list_append PySem.F.type_list_append mt_append (pv 2) (pa_cons (pe_ix (AF.ixT K rfl) (pv 3) pe_int (fun _ _ => rfl)) pa_nil))))))
      (pss_one (ps_ret (pe_and (pe_cmpR op_eq (pe_ix (AF.ixT K rfl) (pv 0) pe_int (fun _ _ => rfl)) pe_str (nomark _)) (pe_and (pe_cmpR op_le (pe_callB (AF.lenK K rfl) (by rfl) T.z_len (by decide +kernel) (pa_cons (pv 1) pa_nil)) pe_int (nomark _)) (pe_one (pe_cmpR op_le (AF.cal T.d_law_depth G_law_depth (hr.mono (by omega)) (pa_cons (pv 0) pa_nil)) pe_int (nomark _)))))))))), ?_⟩
  refine ⟨v, rfl, v, b, rfl, hb, hdep, hlen, fun l ws H1 s1 nl el bw => ?_⟩
  have hw := bw.len
  refine ⟨Nat.zero_le _, fun D nD => ?_⟩
  have s2 : Same H1 (upd H1 D (.lst [])) := AF.same_new nD _
  refine ⟨.ref l, rfl, l, rfl, ⟨ws, .of (s2 _ _ el)⟩, ?_⟩
  refine for_list (xs := ws) (Pv := fun i σ H3 => ∃ x : Option V, σ = [some v, some (.ref l), some (.ref D), x] ∧ Same H1 H3 ∧ H3 D = some (.lst (((b.pre.map AF.Box.num).take i).map V.int)) ∧
    (∀ c ∈ b.pre.take i, (1 ≤ c.num ∧ c.num ≤ 999) ∧ 0 ≤ c.ht ∧ c.ht ≤ 1000) ∧ ((b.pre.map AF.Box.num).take i).Nodup) ?_ ?_ ?_ ?_
  · exact ⟨none, rfl, s2, upd_same, by simp, by simp⟩
  · rintro i σ H3 _ ⟨_, _, s3, _⟩
    exact .of (s3 _ _ el)
  · rintro i y σ H3 hy ⟨x, rfl, s3, eD, hall, hnd⟩
    obtain ⟨c, hc, by_⟩ := bw.get hy
    have hi := (List.getElem?_eq_some_iff.mp hc).1
    have cm := List.mem_of_getElem? hc
    obtain ⟨a7, xs7, ey, ha7, e7⟩ := (by_.s s3).tup
    have i1 : xs7[1]? = some (.int c.num) := by
      have := congrArg (fun l => l[1]?) e7
      simpa using this
    have i2 : xs7[2]? = some (.int c.ht) := by
      have := congrArg (fun l => l[2]?) e7
      simpa using this
    have en : (b.pre.map AF.Box.num)[i]? = some c.num := by
      rw [List.getElem?_map, hc]
      rfl
    have bad : ¬ AF.Box.IsDoc b → Q (.bl false) H3 := fun hn => q false H3 (s1.trans s3) ⟨(fun z => nomatch z), fun z => absurd z hn⟩
    have hinV := AF.inV_ints c.num ((b.pre.map AF.Box.num).take i)
    refine ⟨y, rfl, a7, _, _, _, ey, rfl, .of ha7, atI_nat (j := 1) i1, .ref D, rfl, D, _, rfl, .inl (.of eD), rfl, AF.flat_ints _, _, rfl, ite2 (fun c1 => ?_) (fun c1 => ?_)⟩
    · refine iteT (bad fun z => ?_)
      have m := hinV.mp c1
      obtain ⟨j, hj, ej⟩ := List.mem_take_iff_getElem.mp m
      have ej2 : (b.pre.map AF.Box.num)[j]? = some c.num := by
        rw [List.getElem?_eq_getElem (by omega), ej]
      have := nd_ix z.u en ej2
      omega
    have hnew : c.num ∉ (b.pre.map AF.Box.num).take i := fun m => c1 (hinV.mpr m)
    -- not 1 <= one[1] <= 999
    have fin : ((1 ≤ c.num ∧ c.num ≤ 999) ∧ 0 ≤ c.ht ∧ c.ht ≤ 1000) → ∃ x : Option V, [some v, some (.ref l), some (.ref D), some y] = [some v, some (.ref l), some (.ref D), x] ∧ Same H1 (upd H3 D (.lst (((b.pre.map AF.Box.num).take i).map V.int ++ [.int c.num]))) ∧
        (upd H3 D (.lst (((b.pre.map AF.Box.num).take i).map V.int ++ [.int c.num]))) D = some (.lst (((b.pre.map AF.Box.num).take (i + 1)).map V.int)) ∧ (∀ c ∈ b.pre.take (i + 1), (1 ≤ c.num ∧ c.num ≤ 999) ∧ 0 ≤ c.ht ∧ c.ht ≤ 1000) ∧ ((b.pre.map AF.Box.num).take (i + 1)).Nodup := fun hg => by
      refine ⟨_, rfl, AF.same_upd s3 nD _, ?_, ?_, ?_⟩
      · rw [upd_same, List.take_add_one, en, List.map_append]
        rfl
      · intro d hd
        rw [List.take_add_one, hc] at hd
        rcases List.mem_append.mp hd with h | h
        · exact hall d h
        · have : d = c := by simpa using h
          rw [this]
          exact hg
      · rw [List.take_add_one, en]
        exact nd_snoc hnd hnew
    have hlt : (((b.pre.map AF.Box.num).take i).map V.int).length < sizeLine := by
      rw [List.length_map, List.length_take, List.length_map]
      exact small1000 (by omega)
    -- the append
    have app : ((1 ≤ c.num ∧ c.num ≤ 999) ∧ 0 ≤ c.ht ∧ c.ht ≤ 1000) → rAppend (.ref D) [.int c.num] H3 (fun _ H4 => ∃ x : Option V, [some v, some (.ref l), some (.ref D), some y] = [some v, some (.ref l), some (.ref D), x] ∧ Same H1 H4 ∧
        H4 D = some (.lst (((b.pre.map AF.Box.num).take (i + 1)).map V.int)) ∧ (∀ c ∈ b.pre.take (i + 1), (1 ≤ c.num ∧ c.num ≤ 999) ∧ 0 ≤ c.ht ∧ c.ht ≤ 1000) ∧ ((b.pre.map AF.Box.num).take (i + 1)).Nodup) := fun hg =>
      ⟨D, _, _, rfl, rfl, eD, hlt, fin hg⟩
    refine ⟨y, rfl, a7, _, _, _, ey, rfl, .of ha7, atI_nat (j := 1) i1, _, _, rfl, rfl, _, rfl, ite2 (fun c2 => ?_) (fun c2 => ?_)⟩
    rotate_left
    · refine ⟨_, rfl, iteT (iteT (bad fun z => ?_))⟩
      exact c2 (decide_eq_true (z.n c cm).1)
    refine ⟨_, _, rfl, rfl, _, rfl, ite2 (fun c3 => ?_) (fun c3 => ?_)⟩
    · refine iteT (bad fun z => ?_)
      have h := (z.n c cm).2
      rw [decide_eq_true h] at c3
      cases c3
    have h999 : c.num ≤ 999 := by
      by_cases h : c.num ≤ 999
      · exact h
      · rw [decide_eq_false h] at c3
        exact absurd rfl c3
    have h1 : 1 ≤ c.num := of_decide_eq_true c2
    refine ⟨y, rfl, a7, _, _, _, ey, rfl, .of ha7, atI_nat (j := 2) i2, _, _, rfl, rfl, _, rfl, ite2 (fun c4 => ?_) (fun c4 => ?_)⟩
    rotate_left
    · refine ⟨_, rfl, iteT (bad fun z => ?_)⟩
      exact c4 (decide_eq_true (z.h c cm).1)
    refine ⟨_, _, rfl, rfl, _, rfl, ite2 (fun c5 => ?_) (fun c5 => ?_)⟩
    · refine bad fun z => ?_
      have h := (z.h c cm).2
      rw [decide_eq_true h] at c5
      cases c5
    have h1000 : c.ht ≤ 1000 := by
      by_cases h : c.ht ≤ 1000
      · exact h
      · rw [decide_eq_false h] at c5
        exact absurd rfl c5
    have h0 : 0 ≤ c.ht := of_decide_eq_true c4
    exact ⟨.ref D, rfl, .inl ⟨rfl, _, .of eD⟩, y, rfl, a7, _, _, _, ey, rfl, .of ha7, atI_nat (j := 1) i1, app ⟨⟨h1, h999⟩, h0, h1000⟩⟩
  · rintro σ H3 ⟨x, rfl, s3, eD, hall, hnd⟩
    rw [hw] at hall hnd
    rw [List.take_length] at hall
    rw [← List.length_map (f := AF.Box.num), List.take_length] at hnd
    have s13 := s1.trans s3
    obtain ⟨a7, xs7, ey, ha7, e7⟩ := (hb.s s13).tup
    have i0 : xs7[0]? = some (.str b.kind) := by
      have := congrArg (fun l => l[0]?) e7
      simpa using this
    have hk : (decide (V.str b.kind = V.str "scroller") = true) ↔ b.isS = true := by
      cases b with
      | blk _ _ => exact ⟨(fun z => by cases (of_decide_eq_true z)), (fun z => by cases z)⟩
      | scr _ _ _ => exact ⟨fun _ => rfl, fun _ => decide_eq_true rfl⟩
    refine ⟨v, rfl, a7, _, _, _, ey, rfl, .of ha7, atI_nat (j := 0) i0, rfl, _, rfl, ite2 (fun c1 => ?_) (fun c1 => ?_)⟩
    rotate_left
    · exact q false H3 s13 ⟨(fun z => nomatch z), fun z => absurd (hk.mpr z.s) c1⟩
    refine ⟨.ref l, rfl, l, ws, rfl, .inl (.of (s3 _ _ el)), _, _, rfl, rfl, _, rfl, ite2 (fun c2 => ?_) (fun c2 => ?_)⟩
    rotate_left
    · refine q false H3 s13 ⟨(fun z => nomatch z), fun z => absurd (decide_eq_true ?_) c2⟩
      have := z.l
      omega
    have h40 : ((ws.length : Nat) : Int) ≤ 40 := of_decide_eq_true c2
    refine ⟨v, rfl, v, b, rfl, hb.s s13, hdep, hlen, fun H4 s4 => ⟨_, _, rfl, rfl, ?_⟩⟩
    refine q _ H4 (s13.trans s4) ⟨fun z => ⟨hk.mp c1, fun c hc => (hall c hc).1, fun c hc => (hall c hc).2, by omega, hnd, ?_⟩, fun z => decide_eq_true ?_⟩
    · have := of_decide_eq_true z
      omega
    · have := z.d
      omega

end
end K08
namespace K08
open PySem PySem.Spec PyProof.Rows L2
section
variable {P : Program} {w : World} {K : PySem.W.Frag} {mg : Str → Option Value} {base : Heap}
/-! ### the law's offsets -/
/-- drawn offsets of this document -/
def Offs (b : AF.Box) (ol : List (Int × Int)) : Prop := ol.map (·.1) = (b.pre.filter AF.Box.isS).map AF.Box.num ∧ ∀ c ∈ b.pre, c.isS = true → ∃ z, AF.getI ol c.num = some z ∧ 0 ≤ z ∧ z ≤ c.rng
theorem but_new {l : List Addr} {H H' : Hp} {x : Addr} {o : HO} (e : AF.But l H H') (h : H x = none) : AF.But l H (upd H' x o) := fun b u n q => by
  rw [upd_ne (ne_of_none q h)]
  exact e b u n q
def spOffs : Sp := fun vs H Q _ => ∃ (d l : Addr) (v : V) (b : AF.Box), vs = [.ref d, v] ∧ AF.DrawAt H d l ∧ AF.BoxAt H v b ∧ b.depth < 7 ∧ b.pre.length ≤ 100 ∧ (b.pre.map AF.Box.num).Nodup ∧ (∀ c ∈ b.pre, c.rng ≤ 100000) ∧
  ∀ (x : Addr) (ol : List (Int × Int)) (H' : Hp), H x = none → H' x = some (.dK (AF.dI ol)) → Offs b ol → AF.DrawAt H' d l → AF.But [d] H H' → AF.KeepT H H' → x ≠ d → Q (.ref x) H'
theorem ok_law_offsets (T : Tx K mg) : FnOk P w K mg base CX0 8 T.d_law_offsets.f T.d_law_offsets.fd ["draw", "document"] spOffs := by
  have G_law_all := ok_law_all (P := P) (w := w) (base := base) T 7
  have G_law_range := ok_law_range (P := P) (w := w) (base := base) T
  have G_law_next := ok_law_next (P := P) (w := w) (base := base) T
  refine T.d_law_offsets.F.ok sc_law_offsets (fun vs H Q E h => ?_) (fun cdv A outer s H vs Q E hr h => ?_)
  · obtain ⟨_, _, _, _, rfl, _⟩ := h
    rfl
  obtain ⟨d, l, v, b, rfl, hD, hb, hdep, hlen, hnd, hrng, q⟩ := h
  refine ⟨_, (pss_cons (ps_set (i := 2) sc_law_offsets.nd rfl (Or.inl rfl) pe_dnewK)
      (pss_cons (ps_for PassesOwn.never rfl (AF.piL K rfl (AF.cal T.d_law_all G_law_all (hr.mono (by omega)) (pa_cons (pv 1) pa_nil))) (pg_name (i := 3) sc_law_offsets.nd rfl (Or.inl rfl))
      (pss_one (ps_if (pt_cmpR op_eq (pe_ix (AF.ixT K rfl) (pv 3) pe_int (fun _ _ => rfl)) pe_str (nomark _))
      (pss_one (ps_dput (hu_of hr) (pv 2) (pe_ix (AF.ixT K rfl) (pv 3) pe_int (fun _ _ => rfl)) (pe_ix (AF.ixL K rfl) (pe_lst (pa_cons pe_int (pa_cons (AF.cal T.d_law_range G_law_range (hr.mono (by omega)) (pa_cons (pv 3) pa_nil)) (pa_cons (AF.cal T.d_law_next G_law_next (hr.mono (by omega)) (pa_cons (pv 0) (pa_cons (pe_op op_add (AF.cal T.d_law_range G_law_range (hr.mono (by omega)) (pa_cons (pv 3) pa_nil)) pe_int) pa_nil))) pa_nil)))) (AF.cal T.d_law_next G_law_next (hr.mono (by omega)) (pa_cons (pv 0) (pa_cons pe_int pa_nil))) (fun _ _ => rfl)) rfl))
      pss_nil)))
      (pss_one (ps_ret (pv 2))))), ?_⟩
  refine fun x nx => ?_
  have s0 := AF.same_new nx (.dK ([] : List (Key × V)))
  refine ⟨v, rfl, v, b, rfl, hb.s s0, hdep, by omega, fun lst ws H1 s1 nl el bw => ?_⟩
  refine ⟨lst, rfl, ⟨ws, .of el⟩, ?_⟩
  have hw := bw.len
  have s01 := s0.trans s1
  have hD1 := AF.DrawAt.same hD s01
  have ex1 : H1 x = some (.dK (AF.dI [])) := s1 _ _ upd_same
  have nlx : lst ≠ x := (ne_of_none upd_same nl).symm
  have nxd : x ≠ d := by
    obtain ⟨xs, e⟩ := hD.lst
    exact (ne_of_none e nx).symm
  have nld : lst ≠ d := by
    obtain ⟨xs, e⟩ := (AF.DrawAt.same hD s0).lst
    exact (ne_of_none e nl).symm
  refine for_list (xs := ws) (Pv := fun i σ H3 => ∃ (x3 : Option V) (ol : List (Int × Int)), σ = [some (.ref d), some v, some (.ref x), x3] ∧ AF.But [d] H H3 ∧ AF.KeepT H1 H3 ∧ H3 lst = some (.lst ws) ∧ H3 x = some (.dK (AF.dI ol)) ∧ AF.DrawAt H3 d l ∧
      ol.map (·.1) = ((b.pre.take i).filter AF.Box.isS).map AF.Box.num ∧ ∀ c ∈ b.pre.take i, c.isS = true → ∃ z, AF.getI ol c.num = some z ∧ 0 ≤ z ∧ z ≤ c.rng) ?_ ?_ ?_ ?_
  · exact ⟨none, [], rfl, .of s01, .refl _, el, ex1, hD1, rfl, fun c hc => by simp at hc⟩
  · rintro i σ H3 _ ⟨_, _, _, _, _, e, _⟩
    exact .of e
  · rintro i u σ H3 hu ⟨x3, ol, rfl, b3, k3, el3, ex3, hD3, hks, hvs⟩
    obtain ⟨c, hc, bu⟩ := bw.get hu
    have bu := bu.k k3
    have hcm : c ∈ b.pre := List.mem_of_getElem? hc
    have hi : i < b.pre.length := (List.getElem?_eq_some_iff.mp hc).1
    have et : b.pre.take (i + 1) = b.pre.take i ++ [c] := by
      rw [List.take_add_one, hc]
      rfl
    have hpl : c.parts.length ≤ 1000 := by
      have h1 := AF.Box.parts_le c
      have h2 := AF.Box.pre_mem_len b c hcm
      omega
    obtain ⟨a, xs, ev, ha, e⟩ := bu.tup
    have e0 : xs[0]? = some (.str c.kind) := by
      have := congrArg (fun l => l[0]?) e
      simpa using this
    have e1 : xs[1]? = some (.int c.num) := by
      have := congrArg (fun l => l[1]?) e
      simpa using this
    refine ⟨u, rfl, a, _, _, _, ev, rfl, .of ha, atI_nat (j := 0) e0, rfl, _, rfl, ?_⟩
    by_cases hS : c.isS = true
    · have hk : c.kind = "scroller" := by
        cases c with
        | blk _ _ => cases hS
        | scr _ _ _ => rfl
      refine AF.iteP (decide_eq_true (by rw [hk])) ?_
      have hr0 : 0 ≤ c.rng := by
        unfold AF.Box.rng
        split <;> omega
      have hr1 := hrng c hcm
      refine ⟨u, rfl, u, c, rfl, bu, hS, hpl, fun H4 s4 => ?_⟩
      refine ⟨.ref d, rfl, u, rfl, u, c, rfl, bu.s s4, hS, hpl, fun H5 s5 => ?_⟩
      have s45 := s4.trans s5
      refine ⟨c.rng, 1, rfl, rfl, d, l, c.rng + 1, rfl, AF.DrawAt.same hD3 s45, by omega, by omega, fun r H6 r0 r1 hD6 b6 k6 => ?_⟩
      refine ⟨(by show 3 ≤ sizeLine; decide), fun p np => ?_⟩
      have sp := AF.same_new np (.lst [V.int 0, .int c.rng, .int r])
      have npd : p ≠ d := by
        obtain ⟨xs, e⟩ := hD6.lst
        exact (ne_of_none e np).symm
      refine ⟨.ref d, rfl, d, l, 3, rfl, AF.DrawAt.same hD6 sp, by decide, by decide, fun j H7 j0 j1 hD7 b7 k7 => ?_⟩
      have ep7 : H7 p = some (.lst [V.int 0, .int c.rng, .int r]) := b7 _ _ (by simpa using npd) upd_same
      obtain ⟨z, hz, z0, z1⟩ : ∃ z : Int, atI [V.int 0, V.int c.rng, V.int r] j = some (.int z) ∧ 0 ≤ z ∧ z ≤ c.rng := by
        have : j = 0 ∨ j = 1 ∨ j = 2 := by omega
        rcases this with rfl | rfl | rfl
        · exact ⟨0, rfl, Int.le_refl _, hr0⟩
        · exact ⟨c.rng, rfl, hr0, Int.le_refl _⟩
        · exact ⟨r, rfl, r0, by omega⟩
      have b37 : AF.But [d] H3 H7 := (((AF.But.of s45).trans b6).trans (.of sp)).trans b7
      have k37 : AF.KeepT H3 H7 := (((AF.Same.keepT s45).trans k6).trans (AF.Same.keepT sp)).trans k7
      have ex7 := b37 _ _ (by simpa using nxd) ex3
      have hol : ol.length ≤ 1000 := by
        have := congrArg List.length hks
        simp only [List.length_map] at this
        have h1 : ((b.pre.take i).filter AF.Box.isS).length ≤ (b.pre.take i).length := List.length_filter_le ..
        rw [List.length_take] at h1
        omega
      refine ⟨p, _, j, _, rfl, rfl, .of ep7, hz, .ref x, rfl, u, rfl, a, _, _, _, ev, rfl, .of (k37 _ _ ha), atI_nat (j := 1) e1, x, _, rfl, AF.DPut.dI ex7 (small1000 hol), ?_⟩
      have hnew : c.num ∉ ol.map (·.1) := by
        rw [hks]
        intro m
        obtain ⟨g, hg, eg⟩ := List.mem_map.mp m
        have hg := (List.mem_filter.mp hg).1
        have h5 := hnd.sublist ((List.take_sublist (i + 1) b.pre).map _)
        rw [et, List.map_append] at h5
        exact absurd eg ((List.nodup_append.mp h5).2.2 _ (List.mem_map.mpr ⟨g, hg, rfl⟩) _ (by simp))
      rw [AF.putI_new hnew]
      refine ⟨some u, ol ++ [(c.num, z)], rfl, but_new (b3.trans b37) nx, (k3.trans k37).trans (AF.keepT_updK ex7 _), ?_, upd_same, ?_, ?_, ?_⟩
      · rw [upd_ne nlx]
        exact b37 _ _ (by simpa using nld) el3
      · refine AF.DrawAt.but hD7 (AF.but_upd _) (by simpa using nxd.symm) ?_
        obtain ⟨ns, e⟩ := hD7.lst2
        intro m
        rw [List.mem_singleton.mp m, ex7] at e
        cases e
      · rw [et, List.map_append, hks, List.filter_append, List.map_append]
        congr 1
        simp [hS]
      · rw [et]
        intro g hg hgS
        rcases List.mem_append.mp hg with hg | hg
        · obtain ⟨y, hy, y0, y1⟩ := hvs g hg hgS
          exact ⟨y, by rw [AF.getI_append, hy]; rfl, y0, y1⟩
        · rw [List.mem_singleton.mp hg]
          refine ⟨z, ?_, z0, z1⟩
          rw [AF.getI_append, AF.getI_none.mpr hnew, AF.getI_cons, if_pos rfl]
          rfl
    · have hk : ¬ c.kind = "scroller" := by
        cases c with
        | blk _ _ =>
          intro z
          cases z
        | scr _ _ _ => exact absurd rfl hS
      refine AF.iteN (fun z => hk (V.str.inj (of_decide_eq_true z))) ?_
      refine ⟨some u, ol, rfl, b3, k3, el3, ex3, hD3, ?_, ?_⟩
      · rw [et, hks, List.filter_append]
        simp [hS]
      · rw [et]
        intro g hg hgS
        rcases List.mem_append.mp hg with hg | hg
        · exact hvs g hg hgS
        · rw [List.mem_singleton.mp hg] at hgS
          exact absurd hgS hS
  · rintro σ H3 ⟨x3, ol, rfl, b3, k3, el3, ex3, hD3, hks, hvs⟩
    rw [hw, List.take_length] at hks hvs
    exact ⟨.ref x, rfl, q x ol H3 nx ex3 ⟨hks, hvs⟩ hD3 b3 ((AF.Same.keepT s01).trans k3) nxd⟩

end
end K08
namespace K08
open PySem PySem.Spec PyProof.Rows L2
section
variable {P : Program} {w : World} {K : PySem.W.Frag} {mg : Str → Option Value} {base : Heap}
/-! ### edits.py: anchors -/
def spAnchor : Sp := fun vs H Q _ => ∃ (v : V) (c : AF.Box) (z : Int), vs = [v, .int z] ∧ AF.BoxAt H v c ∧ c.parts.length ≤ 1000 ∧ ∀ H' : Hp, Same H H' → Q (AF.optI (AF.Box.anchorN c z)) H'
theorem ok_anchor (T : Tx K mg) : FnOk P w K mg base CX0 4 T.d_anchor.f T.d_anchor.fd ["scroller", "offset"] spAnchor := by
  have G_parts_of := ok_parts_of (P := P) (w := w) (base := base) T
  have G_places := ok_places (P := P) (w := w) (base := base) T
  have G_number_of := ok_number_of (P := P) (w := w) (base := base) T
  have G_height_of := ok_height_of (P := P) (w := w) (base := base) T
  refine T.d_anchor.F.ok sc_anchor (fun vs H Q E h => ?_) (fun cdv A outer s H vs Q E hr h => ?_)
  · obtain ⟨_, _, _, rfl, _⟩ := h
    rfl
  obtain ⟨v, c, z, rfl, hb, hlen, q⟩ := h
  refine ⟨_, (pss_cons (ps_if (pt_cmpR op_le (pv 1) pe_int (nomark _))
      (pss_one (ps_ret pe_non))
      pss_nil)
      (pss_cons (ps_for PassesOwn.never rfl (AF.pi_zipM K rfl (by rfl) T.z_zip (pa_cons (AF.cal T.d_parts_of G_parts_of (hr.mono (by omega)) (pa_cons (pv 0) pa_nil)) (pa_cons (AF.cal T.d_places G_places (hr.mono (by omega)) (pa_cons (pv 0) pa_nil)) pa_nil))) (AF.pg_tupK (n := 2) K rfl rfl (pgs_cons (pg_name (i := 2) sc_anchor.nd rfl (Or.inl rfl)) (pgs_cons (pg_name (i := 3) sc_anchor.nd rfl (Or.inl rfl)) pgs_nil)))
      (pss_one (ps_if (pt_cmpR op_gt (pe_op op_add (pv 3) (AF.cal T.d_height_of G_height_of (hr.mono (by omega)) (pa_cons (pv 2) pa_nil))) (pv 1) (nomark _))
      (pss_one (ps_ret (AF.cal T.d_number_of G_number_of (hr.mono (by omega)) (pa_cons (pv 2) pa_nil))))
      pss_nil)))
      (pss_one (ps_ret pe_non)))), ?_⟩
  unfold AF.Box.anchorN at q
  refine ⟨_, rfl, _, _, rfl, rfl, _, rfl, ite2 (fun c1 => ?_) (fun c1 => ?_)⟩
  · have h1 : z ≤ 0 := of_decide_eq_true c1
    rw [if_neg (by omega)] at q
    exact q H (.refl H)
  have h1 : z > 0 := by
    by_cases h : z ≤ 0
    · exact absurd (decide_eq_true h) c1
    · omega
  rw [if_pos h1] at q
  refine ⟨v, rfl, v, c, rfl, hb, fun p ws H1 s1 ep bp => ?_⟩
  refine ⟨v, rfl, v, c, rfl, hb.s s1, hlen, fun l H2 s2 nl el => ?_⟩
  have hw := bp.len
  have hpl : ws.length = ((AF.Box.placesFrom 0 c.parts).map V.int).length := by
    rw [List.length_map, AF.Box.placesFrom_len, hw]
  have bp2 := bp.s s2
  refine ⟨p, l, _, _, rfl, .of (s2 _ _ ep), .of el, ?_⟩
  refine for_it (AF.walk_zipM hpl) (Pv := fun i σ H3 => ∃ (x2 x3 : Option V), σ = [some v, some (.int z), x2, x3] ∧ Same H2 H3 ∧ AF.Box.anc (z - AF.Box.sumH (c.parts.take i)) (c.parts.drop i) = AF.Box.anc z c.parts) ?_ ?_ ?_ ?_
  · exact ⟨none, none, rfl, .refl _, by simp [AF.Box.sumH]⟩
  · rintro i σ H3 _ ⟨_, _, _, s3, _⟩
    exact ⟨.of (s3 _ _ (s2 _ _ ep)), .of (s3 _ _ el)⟩
  · rintro i y σ H3 H4 hi ⟨x2, x3, rfl, s3, ha⟩ ⟨B, u, zz, rfl, nB, rfl, eu, ez⟩
    obtain ⟨g, hg, bu⟩ := bp2.get eu
    have hip : i < c.parts.length := (List.getElem?_eq_some_iff.mp hg).1
    have ez : zz = .int (AF.Box.sumH (c.parts.take i)) := by
      have ez : ((AF.Box.placesFrom 0 c.parts).map V.int)[i]? = some zz := ez
      rw [List.getElem?_map, AF.Box.placesFrom_get 0 _ _ hip] at ez
      have := Option.some.inj ez
      rw [← this]
      congr 1
      omega
    subst ez
    have sB := AF.same_new nB (.tup [u, V.int (AF.Box.sumH (c.parts.take i))])
    rw [AF.drop_cons hg] at ha
    simp only [AF.Box.anc] at ha
    refine ⟨B, _, rfl, .of upd_same, rfl, _, _, rfl, _, _, rfl, rfl, ?_⟩
    refine ⟨_, rfl, u, rfl, u, g, rfl, (bu.s s3).s sB, _, _, rfl, rfl, _, rfl, _, _, rfl, rfl, _, rfl, ite2 (fun c2 => ?_) (fun c2 => ?_)⟩
    · have h2 : z - AF.Box.sumH (c.parts.take i) < g.ht := by
        have := of_decide_eq_true c2
        omega
      rw [if_pos h2] at ha
      refine ⟨u, rfl, u, g, rfl, (bu.s s3).s sB, ?_⟩
      have := q _ ((s1.trans s2).trans (s3.trans sB))
      rw [← ha] at this
      exact this
    · have h2 : ¬ z - AF.Box.sumH (c.parts.take i) < g.ht := fun h => c2 (decide_eq_true (by omega))
      rw [if_neg h2] at ha
      refine ⟨_, _, rfl, s3.trans sB, ?_⟩
      rw [AF.Box.sumH_take_succ hg, ← ha]
      congr 1
      omega
  · rintro σ H3 ⟨x2, x3, rfl, s3, ha⟩
    have e : c.parts.drop ((AF.Box.placesFrom 0 c.parts).map V.int).length = [] := by
      rw [← hpl, hw, List.drop_length]
    first
      | rw [e] at ha
      | (rw [hw, List.drop_length] at ha)
    have := q H3 ((s1.trans s2).trans s3)
    rw [← ha] at this
    exact this
def spPBN : Sp := fun vs H Q _ => ∃ (v : V) (c : AF.Box), vs = [v] ∧ AF.BoxAt H v c ∧ c.parts.length ≤ 1000 ∧ (c.parts.map AF.Box.num).Nodup ∧
  ∀ (d : Addr) (H' : Hp), Same H H' → H' d = some (.dK (AF.dI (AF.Box.plD 0 c.parts))) → Q (.ref d) H'
theorem ok_places_by_number (T : Tx K mg) : FnOk P w K mg base CX0 4 T.d_places_by_number.f T.d_places_by_number.fd ["scroller"] spPBN := by
  have G_parts_of := ok_parts_of (P := P) (w := w) (base := base) T
  have G_places := ok_places (P := P) (w := w) (base := base) T
  have G_number_of := ok_number_of (P := P) (w := w) (base := base) T
  refine T.d_places_by_number.F.ok sc_places_by_number (fun vs H Q E h => ?_) (fun cdv A outer s H vs Q E hr h => ?_)
  · obtain ⟨_, _, rfl, _⟩ := h
    rfl
  obtain ⟨v, c, rfl, hb, hlen, hnd, q⟩ := h
  refine ⟨_, (pss_one (ps_ret (pe_dc (own := [("part", 1), ("place", 2)]) rfl sc_places_by_number.nd (AF.pi_zipM K rfl (by rfl) T.z_zip (pa_cons (AF.cal T.d_parts_of G_parts_of (hr.mono (by omega)) (pa_cons (pv 0) pa_nil)) (pa_cons (AF.cal T.d_places G_places (hr.mono (by omega)) (pa_cons (pv 0) pa_nil)) pa_nil))) (blkOk_by (own := [("part", 1), ("place", 2)]) (N := ["scroller", "part", "place"]) (sc := defScope s_places_by_number) (by decide +kernel)) (fun _ _ _ _ _ => (AF.pg_tupK (n := 2) K rfl rfl (pgs_cons (pg_name (i := 1) sc_places_by_number.nd rfl (Or.inl rfl)) (pgs_cons (pg_name (i := 2) sc_places_by_number.nd rfl (Or.inl rfl)) pgs_nil)))) (fun _ _ _ _ _ => pts_nil) (fun _ _ _ _ _ => (AF.cal T.d_number_of G_number_of (hr.mono (by omega)) (pa_cons (pv 1) pa_nil))) (fun _ _ _ _ _ => (pv 2))))), ?_⟩
  refine ⟨v, rfl, v, c, rfl, hb, fun p ws H1 s1 ep bp => ?_⟩
  refine ⟨v, rfl, v, c, rfl, hb.s s1, hlen, fun l H2 s2 nl el => ?_⟩
  have hw := bp.len
  have hpl : ws.length = ((AF.Box.placesFrom 0 c.parts).map V.int).length := by
    rw [List.length_map, AF.Box.placesFrom_len, hw]
  have bp2 := bp.s s2
  refine ⟨p, l, _, _, rfl, .of (s2 _ _ ep), .of el, fun D nD => ?_⟩
  have nHD : H D = none := Same.free (s1.trans s2) nD
  refine AF.dc_walk (AF.walk_zipM hpl) (Pv := fun i H3 => Same H2 H3 ∧ H3 D = some (.dK (AF.dI (AF.Box.plD 0 (c.parts.take i))))) ?_ ?_ ?_ ?_
  · exact ⟨AF.same_new nD _, upd_same⟩
  · rintro i H3 _ ⟨s3, _⟩
    exact ⟨.of (s3 _ _ (s2 _ _ ep)), .of (s3 _ _ el)⟩
  · rintro i y H3 H4 hi ⟨s3, eD⟩ ⟨B, u, zz, rfl, nB, rfl, eu, ez⟩
    obtain ⟨g, hg, bu⟩ := bp2.get eu
    have hip : i < c.parts.length := (List.getElem?_eq_some_iff.mp hg).1
    have ez : zz = .int (AF.Box.sumH (c.parts.take i)) := by
      have ez : ((AF.Box.placesFrom 0 c.parts).map V.int)[i]? = some zz := ez
      rw [List.getElem?_map, AF.Box.placesFrom_get 0 _ _ hip] at ez
      have := Option.some.inj ez
      rw [← this]
      congr 1
      omega
    subst ez
    have sB := AF.same_new nB (.tup [u, V.int (AF.Box.sumH (c.parts.take i))])
    have eD4 := sB _ _ eD
    have hnew : g.num ∉ (AF.Box.plD 0 (c.parts.take i)).map (·.1) := by
      rw [AF.Box.plD_keys]
      exact AF.Box.nodup_take hnd hg
    refine ⟨B, _, rfl, .of upd_same, rfl, _, _, rfl, _, _, rfl, rfl, rfl, u, rfl, u, g, rfl, (bu.s s3).s sB, _, rfl, _, Sum.inl g.num, rfl, eD4, ?_, AF.same_upd (s3.trans sB) nD _, ?_⟩
    · rw [AF.dI_len, AF.Box.plD_len, List.length_take]
      exact small1000 (by omega)
    · rw [upd_same, AF.putK_dI, AF.putI_new hnew, AF.take_snoc hg, AF.Box.plD_snoc, Int.zero_add]
  · rintro H3 ⟨s3, eD⟩
    refine q D H3 ((s1.trans s2).trans s3) ?_
    rw [eD]
    congr 4
    first
      | rw [← hpl, hw, List.take_length]
      | rw [hw, List.take_length]
def spShift : Sp := fun vs H Q _ => ∃ (bv av : V) (c s : AF.Box) (z : Int), vs = [bv, av, .int z] ∧ AF.BoxAt H bv c ∧ AF.BoxAt H av s ∧ c.parts.length ≤ 1000 ∧ s.parts.length ≤ 1000 ∧ (c.parts.map AF.Box.num).Nodup ∧ (s.parts.map AF.Box.num).Nodup ∧
  ∀ H' : Hp, Same H H' → Q (.int (AF.Box.shf c s z)) H'
theorem ok_shift_of_anchor (T : Tx K mg) : FnOk P w K mg base CX0 5 T.d_shift_of_anchor.f T.d_shift_of_anchor.fd ["before", "after", "offset"] spShift := by
  have G_anchor := ok_anchor (P := P) (w := w) (base := base) T
  have G_places_by_number := ok_places_by_number (P := P) (w := w) (base := base) T
  refine T.d_shift_of_anchor.F.ok sc_shift_of_anchor (fun vs H Q E h => ?_) (fun cdv A outer s H vs Q E hr h => ?_)
  · obtain ⟨_, _, _, _, _, rfl, _⟩ := h
    rfl
  obtain ⟨bv, av, c, s, z, rfl, hc, hs, hcl, hsl, hcn, hsn, q⟩ := h
  refine ⟨_, (pss_cons (ps_set (i := 3) sc_shift_of_anchor.nd rfl (Or.inl rfl) (AF.cal T.d_anchor G_anchor (hr.mono (by omega)) (pa_cons (pv 0) (pa_cons (pv 2) pa_nil))))
      (pss_cons (ps_set (i := 4) sc_shift_of_anchor.nd rfl (Or.inl rfl) (AF.cal T.d_places_by_number G_places_by_number (hr.mono (by omega)) (pa_cons (pv 1) pa_nil)))
      (pss_cons (ps_if (pt_cmp (pc_dnotinN (hu_of hr) (pv 3) (pv 4)))
      (pss_one (ps_ret pe_int))
      pss_nil)
      (pss_one (ps_ret (pe_op op_sub (pe_dget (hu_of hr) (pv 4) (pv 3) (fun _ _ => rfl)) (pe_dget (hu_of hr) (AF.cal T.d_places_by_number G_places_by_number (hr.mono (by omega)) (pa_cons (pv 0) pa_nil)) (pv 3) (fun _ _ => rfl)))))))), ?_⟩
  refine ⟨bv, rfl, .int z, rfl, bv, c, z, rfl, hc, hcl, fun H1 s1 => ?_⟩
  refine ⟨av, rfl, av, s, rfl, hs.s s1, hsl, hsn, fun d H2 s2 ed => ?_⟩
  have s12 := s1.trans s2
  unfold AF.Box.shf at q
  cases ha : AF.Box.anchorN c z with
  | none =>
    rw [ha] at q
    exact ⟨_, rfl, .ref d, rfl, .inr ⟨d, _, rfl, rfl, .inl ed, _, rfl, iteT (q H2 s12)⟩⟩
  | some n =>
    rw [ha] at q
    dsimp only at q
    have hg := AF.DGet.dI (n := n) ed
    rw [AF.Box.plD_get] at hg
    have hnc : n ∈ c.parts.map AF.Box.num := by
      unfold AF.Box.anchorN at ha
      split at ha
      · exact AF.Box.anc_mem _ _ _ ha
      · cases ha
    obtain ⟨y2, hy2⟩ := AF.Box.plc_some c.parts 0 hnc
    cases hp : AF.Box.plc n 0 s.parts with
    | none =>
      rw [hp] at q hg
      exact ⟨_, rfl, .ref d, rfl, .inl ⟨d, _, rfl, hg, _, rfl, iteT (q H2 s12)⟩⟩
    | some y =>
      rw [hp] at q hg
      rw [hy2] at q
      refine ⟨_, rfl, .ref d, rfl, .inl ⟨d, _, rfl, hg, _, rfl, iteF ?_⟩⟩
      refine ⟨.ref d, rfl, _, rfl, d, .int y, rfl, hg, bv, rfl, bv, c, rfl, hc.s s12, hcl, hcn, fun d2 H3 s3 ed2 => ?_⟩
      have hg2 := AF.DGet.dI (n := n) ed2
      rw [AF.Box.plD_get, hy2] at hg2
      exact ⟨_, rfl, d2, .int y2, rfl, hg2, _, _, rfl, rfl, q H3 (s12.trans s3)⟩
def spOffAfter : Sp := fun vs H Q _ => ∃ (v lv : V) (b l : AF.Box) (o : Addr) (ol : List (Int × Int)), vs = [v, .ref o, lv] ∧ AF.BoxAt H v b ∧ AF.BoxAt H lv l ∧ (b.pre.map AF.Box.num).Nodup ∧ (l.pre.map AF.Box.num).Nodup ∧ b.pre.length ≤ 1000 ∧ l.pre.length ≤ 1000 ∧
  H o = some (.dK (AF.dI ol)) ∧ ol.map (·.1) = (b.pre.filter AF.Box.isS).map AF.Box.num ∧
  ∀ (d : Addr) (H' : Hp), Same H H' → H d = none → H' d = some (.dK (AF.dI (AF.Box.aft b ol l))) → Q (.ref d) H'
theorem ok_offsets_after (T : Tx K mg) : FnOk P w K mg base CX0 7 T.d_offsets_after.f T.d_offsets_after.fd ["document", "offsets", "later"] spOffAfter := by
  have G_all_boxes := ok_all_boxes (P := P) (w := w) (base := base) T
  have G_number_of := ok_number_of (P := P) (w := w) (base := base) T
  have G_find := ok_find (P := P) (w := w) (base := base) T
  have G_is_scroller := ok_is_scroller (P := P) (w := w) (base := base) T
  have G_shift_of_anchor := ok_shift_of_anchor (P := P) (w := w) (base := base) T
  have G_fitted := ok_fitted (P := P) (w := w) (base := base) T
  refine T.d_offsets_after.F.ok sc_offsets_after (fun vs H Q E h => ?_) (fun cdv A outer s H vs Q E hr h => ?_)
  · obtain ⟨_, _, _, _, _, _, rfl, _⟩ := h
    rfl
  obtain ⟨v, lv, b, l, o, ol, rfl, hb, hl, ndb, ndl, hbl, hll, ho, hk, q⟩ := h
  refine ⟨_, (pss_cons (ps_set (i := 3) sc_offsets_after.nd rfl (Or.inl rfl) pe_dnewK)
      (pss_cons (ps_for PassesOwn.never rfl (AF.piL K rfl (AF.cal T.d_all_boxes G_all_boxes (hr.mono (by omega)) (pa_cons (pv 0) pa_nil))) (pg_name (i := 4) sc_offsets_after.nd rfl (Or.inl rfl))
      (pss_cons (ps_set (i := 5) sc_offsets_after.nd rfl (Or.inl rfl) (AF.cal T.d_number_of G_number_of (hr.mono (by omega)) (pa_cons (pv 4) pa_nil)))
      (pss_cons (ps_set (i := 6) sc_offsets_after.nd rfl (Or.inl rfl) (AF.cal T.d_find G_find (hr.mono (by omega)) (pa_cons (pv 2) (pa_cons (pv 5) pa_nil))))
      (pss_one (ps_if (PW.pt (pw_and (pt_val (AF.cal T.d_is_scroller G_is_scroller (hr.mono (by omega)) (pa_cons (pv 4) pa_nil))) (pw_and1 (pt_cmpR op_notN (pv 6) pe_non (nomark _)))))
      (pss_one (ps_dput (hu_of hr) (pv 3) (pv 5) (pe_op op_add (pe_dget (hu_of hr) (pv 1) (pv 5) (fun _ _ => rfl)) (AF.cal T.d_shift_of_anchor G_shift_of_anchor (hr.mono (by omega)) (pa_cons (pv 4) (pa_cons (pv 6) (pa_cons (pe_dget (hu_of hr) (pv 1) (pv 5) (fun _ _ => rfl)) pa_nil))))) rfl))
      pss_nil)))))
      (pss_one (ps_ret (AF.cal T.d_fitted G_fitted (hr.mono (by omega)) (pa_cons (pv 2) (pa_cons (pv 3) pa_nil))))))), ?_⟩
  intro d nd
  have s0 : Same H (upd H d (.dK [])) := AF.same_new nd _
  refine ⟨v, rfl, v, b, rfl, hb.s s0, hbl, fun lst ws H1 s1 nl el bw => ?_⟩
  refine ⟨lst, rfl, ⟨ws, .of el⟩, ?_⟩
  have hw := bw.len
  have s01 := s0.trans s1
  refine for_list (xs := ws) (Pv := fun i σ H3 => ∃ (x4 x5 x6 : Option V), σ = [some v, some (.ref o), some lv, some (.ref d), x4, x5, x6] ∧ Same H H3 ∧ AF.KeepT H1 H3 ∧ H3 lst = some (.lst ws) ∧ H3 d = some (.dK (AF.dI (AF.Box.gat ol l (b.pre.take i))))) ?_ ?_ ?_ ?_
  · exact ⟨none, none, none, rfl, s01, .refl _, el, s1 _ _ upd_same⟩
  · rintro i σ H3 _ ⟨_, _, _, _, _, _, e, _⟩
    exact .of e
  · rintro i u σ H3 hu ⟨x4, x5, x6, rfl, s3, k3, el3, ed3⟩
    obtain ⟨c, hc, bu⟩ := bw.get hu
    have bu := bu.k k3
    have hcm : c ∈ b.pre := List.mem_of_getElem? hc
    have et := AF.take_snoc hc
    have hsn := AF.Box.gat_snoc ol l c (b.pre.take i)
    rw [← et] at hsn
    refine ⟨u, rfl, u, c, rfl, bu, lv, rfl, .int c.num, rfl, lv, l, c.num, rfl, hl.s s3, hll, fun w1 H4 s4 hw1 => ?_⟩
    have s34 := s3.trans s4
    have bu4 := bu.s s4
    have ed4 := s4 _ _ ed3
    have el4 := s4 _ _ el3
    have k4 := k3.trans (AF.Same.keepT s4)
    refine ⟨u, rfl, u, c, rfl, bu4, c.isS, rfl, ?_⟩
    cases hS : c.isS with
    | false =>
      refine iteF ⟨_, _, _, rfl, s34, k4, el4, ?_⟩
      rw [hsn, hS]
      cases l.pre.find? (AF.Box.byNum c.num) <;> simpa using ed4
    | true =>
      refine iteT ?_
      cases hf : l.pre.find? (AF.Box.byNum c.num) with
      | none =>
        rw [hf] at hw1 hsn
        have hw1 : w1 = .non := hw1
        subst hw1
        refine ⟨_, rfl, rfl, _, rfl, AF.iteN (by simp) ⟨_, _, _, rfl, s34, k4, el4, ?_⟩⟩
        rw [hsn, List.append_nil]
        exact ed4
      | some s2 =>
        rw [hf] at hw1 hsn
        have hw1 : AF.BoxAt H4 w1 s2 := hw1
        obtain ⟨aw, _, ew, _, _⟩ := hw1.tup
        have hsm := (AF.Box.find_num_some hf).1
        dsimp only at hsn
        rw [if_pos hS] at hsn
        have hkey : c.num ∈ ol.map (·.1) := by
          rw [hk]
          exact List.mem_map.mpr ⟨c, List.mem_filter.mpr ⟨hcm, hS⟩, rfl⟩
        obtain ⟨z, hz⟩ : ∃ z, AF.getI ol c.num = some z := by
          cases hq : AF.getI ol c.num with
          | none => exact absurd hkey (AF.getI_none.mp hq)
          | some z => exact ⟨z, rfl⟩
        rw [hz] at hsn
        have hgo : ∀ {H' : Hp}, Same H H' → DGet H' o (.int c.num) (some (.int z)) := fun s' => by
          have := AF.DGet.dI (n := c.num) (s' _ _ ho)
          rw [hz] at this
          exact this
        have hp1 : c.parts.length ≤ 1000 := by
          have h1 := AF.Box.parts_le c
          have h2 := AF.Box.pre_mem_len b c hcm
          omega
        have hp2 : s2.parts.length ≤ 1000 := by
          have h1 := AF.Box.parts_le s2
          have h2 := AF.Box.pre_mem_len l s2 hsm
          omega
        refine ⟨_, rfl, rfl, _, rfl, AF.iteP (by rw [ew]; rfl) ?_⟩
        refine ⟨.ref o, rfl, .int c.num, rfl, o, .int z, rfl, hgo s34, u, rfl, w1, rfl, .ref o, rfl, .int c.num, rfl, o, .int z, rfl, hgo s34, ?_⟩
        refine ⟨u, w1, c, s2, z, rfl, bu4, hw1, hp1, hp2, AF.Box.parts_nodup b ndb hcm, AF.Box.parts_nodup l ndl hsm, fun H5 s5 => ?_⟩
        have ed5 := s5 _ _ ed4
        have hgl : (AF.Box.gat ol l (b.pre.take i)).length ≤ 1000 := by
          have := AF.Box.gat_len ol l (b.pre.take i)
          rw [List.length_take] at this
          omega
        have hnew : c.num ∉ (AF.Box.gat ol l (b.pre.take i)).map (·.1) := fun m => by
          obtain ⟨g, hg, eg, _⟩ := AF.Box.gat_keys m
          exact AF.Box.nodup_take ndb hc (List.mem_map.mpr ⟨g, hg, eg⟩)
        have hput := AF.DPut.dI (n := c.num) (z := z + AF.Box.shf c s2 z) ed5 (small1000 hgl)
        rw [AF.putI_new hnew] at hput
        refine ⟨_, _, rfl, rfl, .ref d, rfl, .int c.num, rfl, d, _, rfl, hput, ?_⟩
        have nld : lst ≠ d := ne_of el3 ed3 (fun z => nomatch z)
        refine ⟨_, _, _, rfl, AF.same_upd (s34.trans s5) nd _, (k4.trans (AF.Same.keepT s5)).trans (AF.keepT_updK ed5 _), ?_, ?_⟩
        · rw [upd_ne nld]
          exact s5 _ _ el4
        · rw [upd_same, hsn]
          rfl
  · rintro σ H3 ⟨x4, x5, x6, rfl, s3, k3, el3, ed3⟩
    rw [hw, List.take_length] at ed3
    refine ⟨lv, rfl, .ref d, rfl, lv, l, d, _, rfl, hl.s s3, hll, ndl, ed3, fun d2 H4 s4 nd2 ed4 => ?_⟩
    rw [AF.Box.fit_aft ndb ndl hk] at ed4
    exact q d2 H4 (s3.trans s4) (Same.free s3 nd2) ed4

end
end K08
namespace K08
open PySem PySem.Spec PyProof.Rows L2
section
variable {P : Program} {w : World} {K : PySem.W.Frag} {mg : Str → Option Value} {base : Heap}
def NumOk (i : Int) : Prop := -50 ≤ i ∧ i ≤ 1100
/-- an edit as a tuple -/
def EdAt (H : Hp) (a : Addr) : AF.Box.Ed → Prop
  | .ins n i x => ∃ o, H a = some (.tup [.str "insert", .int n, .int i, o]) ∧ AF.BoxAt H o x
  | .rem n => H a = some (.tup [.str "remove", .int n])
  | .rsz n g => H a = some (.tup [.str "resize", .int n, .int g])
theorem EdAt.k {H H' : Hp} {a : Addr} {e : AF.Box.Ed} (h : EdAt H a e) (k : AF.KeepT H H') : EdAt H' a e := by
  cases e with
  | ins n i x =>
    obtain ⟨o, h1, h2⟩ := h
    exact ⟨o, k _ _ h1, h2.k k⟩
  | rem n => exact k _ _ h
  | rsz n g => exact k _ _ h
theorem EdAt.s {H H' : Hp} {a : Addr} {e : AF.Box.Ed} (h : EdAt H a e) (k : Same H H') : EdAt H' a e := h.k (AF.Same.keepT k)
def EdSm : AF.Box.Ed → Prop
  | .ins n i x => NumOk n ∧ NumOk i ∧ x.pre.length ≤ 10 ∧ x.depth ≤ 3
  | .rem n => NumOk n
  | .rsz n g => NumOk n

/-! ### the law's edits -/
theorem drawNe {H : Hp} {d l p : Addr} (hD : AF.DrawAt H d l) (np : H p = none) : p ∉ [d] := by
  obtain ⟨xs, e⟩ := hD.lst
  simpa using (ne_of_none e np).symm
def spLPart : Sp := fun vs H Q _ => ∃ (d l la : Addr) (v : V) (b : AF.Box) (m : Int), vs = [.ref d, .ref la, v] ∧ AF.DrawAt H d l ∧ H la = some (.lst [.int m]) ∧ la ∉ [d] ∧ AF.BoxAt H v b ∧ b.depth < 9 ∧ b.pre.length ≤ 1000 ∧
  ∀ (u : V) (x : AF.Box) (H' : Hp), AF.BoxAt H' u x → x.pre.length ≤ 3 → x.depth ≤ 3 → AF.DrawAt H' d l → AF.But [d] H H' → AF.KeepT H H' → Q u H'
theorem ok_law_part (T : Tx K mg) : FnOk P w K mg base CX0 10 T.d_law_part.f T.d_law_part.fd ["draw", "last", "document"] spLPart := by
  have G_law_next := ok_law_next (P := P) (w := w) (base := base) T
  have G_law_all := ok_law_all (P := P) (w := w) (base := base) T 9
  refine T.d_law_part.F.ok sc_law_part (fun vs H Q E h => ?_) (fun cdv A outer s H vs Q E hr h => ?_)
  · obtain ⟨_, _, _, _, _, _, rfl, _⟩ := h
    rfl
  obtain ⟨d, l, la, v, b, m, rfl, hD, ela, nla, hb, hdep, hlen, q⟩ := h
  refine ⟨_, (pss_cons (ps_set (i := 3) sc_law_part.nd rfl (Or.inl rfl) (pe_ix (AF.ixL K rfl) (pe_lst (pa_cons (pe_op op_add (pe_op op_add (pe_ix (AF.ixL K rfl) (pv 1) pe_int (fun _ _ => rfl)) pe_int) (AF.cal T.d_law_next G_law_next (hr.mono (by omega)) (pa_cons (pv 0) (pa_cons pe_int pa_nil)))) (pa_cons (pe_ix (AF.ixT K rfl) (pe_ix (AF.ixL K rfl) (AF.cal T.d_law_all G_law_all (hr.mono (by omega)) (pa_cons (pv 2) pa_nil)) (pe_un un_neg pe_int) (fun _ _ => rfl)) pe_int (fun _ _ => rfl)) (pa_cons pe_int pa_nil)))) (pe_ix (AF.ixL K rfl) (pe_lst (pa_cons pe_int (pa_cons pe_int (pa_cons pe_int (pa_cons pe_int (pa_cons pe_int (pa_cons pe_int pa_nil))))))) (AF.cal T.d_law_next G_law_next (hr.mono (by omega)) (pa_cons (pv 0) (pa_cons pe_int pa_nil))) (fun _ _ => rfl)) (fun _ _ => rfl)))
      (pss_cons (ps_if (pt_cmpR op_eq (AF.cal T.d_law_next G_law_next (hr.mono (by omega)) (pa_cons (pv 0) (pa_cons pe_int pa_nil))) pe_int (nomark _))
      (pss_one (ps_ret (pe_tup (pa_cons pe_str (pa_cons (pv 3) (pa_cons (pe_ix (AF.ixL K rfl) (pe_lst (pa_cons pe_int (pa_cons pe_int (pa_cons pe_int (pa_cons pe_int (pa_cons pe_int pa_nil)))))) (AF.cal T.d_law_next G_law_next (hr.mono (by omega)) (pa_cons (pv 0) (pa_cons pe_int pa_nil))) (fun _ _ => rfl)) pa_nil))))))
      pss_nil)
      (pss_cons (ps_set (i := 4) sc_law_part.nd rfl (Or.inl rfl) (pe_lst (pa_cons (pe_tup (pa_cons pe_str (pa_cons (pe_op op_add (pv 3) pe_int) (pa_cons pe_int pa_nil)))) (pa_cons (pe_tup (pa_cons pe_str (pa_cons (pe_op op_add (pv 3) pe_int) (pa_cons pe_int (pa_cons (pe_tup pa_nil) pa_nil))))) (pa_cons (pe_tup (pa_cons pe_str (pa_cons (pe_op op_add (pv 3) pe_int) (pa_cons pe_int (pa_cons (pe_tup (pa_cons (pe_tup (pa_cons pe_str (pa_cons (pe_op op_add (pv 3) pe_int) (pa_cons pe_int (pa_cons (pe_tup pa_nil) pa_nil))))) pa_nil)) pa_nil))))) pa_nil)))))
      (pss_one (ps_ret (pe_tup (pa_cons pe_str (pa_cons (pv 3) (pa_cons pe_int (pa_cons (pe_ifExp (pt_cmpR op_gt (AF.cal T.d_law_next G_law_next (hr.mono (by omega)) (pa_cons (pv 0) (pa_cons pe_int pa_nil))) pe_int (nomark _)) (pe_tup (pa_cons (pe_ix (AF.ixL K rfl) (pv 4) (AF.cal T.d_law_next G_law_next (hr.mono (by omega)) (pa_cons (pv 0) (pa_cons pe_int pa_nil))) (fun _ _ => rfl)) pa_nil)) (pe_tup pa_nil)) pa_nil)))))))))), ?_⟩
  refine ⟨.ref la, rfl, la, _, _, _, rfl, rfl, .of ela, atI_nat (j := 0) rfl, _, _, rfl, rfl, .ref d, rfl, d, l, 5, rfl, hD, by decide, by decide, fun r1 H1 _ _ hD1 b1 k1 => ?_⟩
  refine ⟨_, _, rfl, rfl, v, rfl, v, b, rfl, hb.k k1, hdep, hlen, fun la2 ws H2 s2 nl el bw => ?_⟩
  have hpre := AF.Box.pre_eq b
  obtain ⟨ws0, y, hws⟩ : ∃ ws0 y, ws = ws0 ++ [y] := by
    have hl := bw.len
    rw [hpre, List.length_cons] at hl
    have hne : ws ≠ [] := fun e => by rw [e] at hl; cases hl
    exact ⟨ws.dropLast, ws.getLast hne, (List.dropLast_concat_getLast hne).symm⟩
  subst hws
  obtain ⟨c, bc⟩ : ∃ c, AF.BoxAt H2 y c := by
    have hy : (ws0 ++ [y])[ws0.length]? = some y := by simp
    obtain ⟨c, _, hc⟩ := bw.get hy
    exact ⟨c, hc⟩
  obtain ⟨ay, ys, ey, hay, ee⟩ := bc.tup
  have y1 : ys[1]? = some (.int c.num) := by
    have := congrArg (fun l => l[1]?) ee
    simpa using this
  refine ⟨1, rfl, la2, _, _, y, rfl, rfl, .of el, atI_last ws0 y, ay, _, _, _, ey, rfl, .of hay, atI_nat (j := 1) y1, (by show 3 ≤ sizeLine; decide), fun p np => ?_⟩
  have s3 := AF.same_new np (.lst ([m + 50 + r1, c.num, 1000].map V.int))
  have s13 := s2.trans s3
  have hD3 := AF.DrawAt.same hD1 s13
  have ep : (upd H2 p (.lst ([m + 50 + r1, c.num, 1000].map V.int))) p = some (.lst ([m + 50 + r1, c.num, 1000].map V.int)) := upd_same
  have npd := drawNe (AF.DrawAt.same hD1 s2) np
  refine ⟨(by show 6 ≤ sizeLine; decide), fun t nt => ?_⟩
  have s4 := AF.same_new nt (.lst ([0, 0, 0, 0, 1, 2].map V.int))
  have ntd := drawNe hD3 nt
  refine ⟨.ref d, rfl, d, l, 6, rfl, AF.DrawAt.same hD3 s4, by decide, by decide, fun j H5 j0 j1 hD5 b5 k5 => ?_⟩
  obtain ⟨z, hzm, hz⟩ := AF.pickI (ns := [0, 0, 0, 0, 1, 2]) j0 j1
  refine ⟨t, _, j, _, rfl, rfl, .of (b5 _ _ ntd upd_same), hz, ?_⟩
  have z01 : 0 ≤ z ∧ z < 3 := by
    simp at hzm
    omega
  obtain ⟨N, _, hN⟩ := AF.pickI (ns := [m + 50 + r1, c.num, 1000]) z01.1 z01.2
  refine ⟨p, _, z, _, rfl, rfl, .of (b5 _ _ npd (s4 _ _ ep)), hN, ?_⟩
  have B5 : AF.But [d] H H5 := (b1.trans (.of (s13.trans s4))).trans b5
  have K5 : AF.KeepT H H5 := (k1.trans (AF.Same.keepT (s13.trans s4))).trans k5
  clear b5 k5 s4 s3 s13 s2
  refine ⟨.ref d, rfl, d, l, 2, rfl, hD5, by decide, by decide, fun f H6 _ _ hD6 b6 k6 => ?_⟩
  have B6 := B5.trans b6
  have K6 := K5.trans k6
  refine ⟨rfl, _, rfl, ite2 (fun c1 => ?_) (fun c1 => ?_)⟩
  · refine ⟨_, rfl, (by show 5 ≤ sizeLine; decide), fun t2 nt2 => ?_⟩
    have s7 := AF.same_new nt2 (.lst ([3, 8, 0, 1001, 5].map V.int))
    have nt2d := drawNe hD6 nt2
    refine ⟨.ref d, rfl, d, l, 5, rfl, AF.DrawAt.same hD6 s7, by decide, by decide, fun g H8 g0 g1 hD8 b8 k8 => ?_⟩
    obtain ⟨h, _, hh⟩ := AF.pickI (ns := [3, 8, 0, 1001, 5]) g0 g1
    refine ⟨t2, _, g, _, rfl, rfl, .of (b8 _ _ nt2d upd_same), hh, (by show 3 ≤ sizeLine; decide), fun o no => ?_⟩
    have s9 := AF.same_new no (.tup [V.str "block", .int N, .int h])
    exact q _ (.blk N h) _ (AF.BoxAt.mkB upd_same) (by simp [AF.Box.pre]) (by simp [AF.Box.depth]) (AF.DrawAt.same hD8 s9) ((B6.trans (.of s7)).trans (b8.trans (.of s9))) ((K6.trans (AF.Same.keepT s7)).trans (k8.trans (AF.Same.keepT s9)))
  · refine ⟨_, rfl, _, _, rfl, rfl, (by show 3 ≤ sizeLine; decide), fun p1 np1 => ?_⟩
    have t1 := AF.same_new np1 (.tup [V.str "block", .int (N + 10), .int 6])
    have g1 : AF.BoxAt (upd H6 p1 (.tup [V.str "block", .int (N + 10), .int 6])) (.ref p1) (.blk (N + 10) 6) := AF.BoxAt.mkB upd_same
    have hD7 := AF.DrawAt.same hD6 t1
    generalize upd H6 p1 (.tup [V.str "block", .int (N + 10), .int 6]) = H7 at *
    refine ⟨_, rfl, _, _, rfl, rfl, Nat.zero_le _, fun e1 ne1 => ⟨(by show 4 ≤ sizeLine; decide), fun p2 np2 => ?_⟩⟩
    have t2 := AF.same_new ne1 (.tup ([] : List V))
    have t3 := AF.same_new np2 (.tup [V.str "scroller", .int (N + 10), .int 2, .ref e1])
    have g2 : AF.BoxAt (upd (upd H7 e1 (.tup ([] : List V))) p2 (.tup [V.str "scroller", .int (N + 10), .int 2, .ref e1])) (.ref p2) (.scr (N + 10) 2 []) := AF.BoxAt.mkS upd_same (t3 _ _ upd_same) .nil
    have t23 := t2.trans t3
    have hD8 := AF.DrawAt.same hD7 t23
    have g1 := g1.s t23
    have t8 := t1.trans t23
    clear t1 t2 t3 t23
    generalize upd (upd H7 e1 (.tup ([] : List V))) p2 (.tup [V.str "scroller", .int (N + 10), .int 2, .ref e1]) = H8 at *
    refine ⟨_, rfl, _, _, rfl, rfl, _, rfl, _, _, rfl, rfl, Nat.zero_le _, fun e2 ne2 => ⟨(by show 4 ≤ sizeLine; decide), fun p3 np3 => ?_⟩⟩
    have t2 := AF.same_new ne2 (.tup ([] : List V))
    have t3 := AF.same_new np3 (.tup [V.str "scroller", .int (N + 20), .int 1, .ref e2])
    have g3 : AF.BoxAt (upd (upd H8 e2 (.tup ([] : List V))) p3 (.tup [V.str "scroller", .int (N + 20), .int 1, .ref e2])) (.ref p3) (.scr (N + 20) 1 []) := AF.BoxAt.mkS upd_same (t3 _ _ upd_same) .nil
    have t23 := t2.trans t3
    have hD9 := AF.DrawAt.same hD8 t23
    have g1 := g1.s t23
    have g2 := g2.s t23
    have t9 := t8.trans t23
    clear t2 t3 t23 t8
    generalize upd (upd H8 e2 (.tup ([] : List V))) p3 (.tup [V.str "scroller", .int (N + 20), .int 1, .ref e2]) = H9 at *
    refine ⟨(by show 1 ≤ sizeLine; decide), fun e3 ne3 => ⟨(by show 4 ≤ sizeLine; decide), fun p4 np4 => ?_⟩⟩
    have t2 := AF.same_new ne3 (.tup [V.ref p3])
    have t3 := AF.same_new np4 (.tup [V.str "scroller", .int (N + 10), .int 2, .ref e3])
    have g4 : AF.BoxAt (upd (upd H9 e3 (.tup [V.ref p3])) p4 (.tup [V.str "scroller", .int (N + 10), .int 2, .ref e3])) (.ref p4) (.scr (N + 10) 2 [.scr (N + 20) 1 []]) := AF.BoxAt.mkS upd_same (t3 _ _ upd_same) (.one (g3.s (t2.trans t3)))
    have t23 := t2.trans t3
    have hDa := AF.DrawAt.same hD9 t23
    have g1 := g1.s t23
    have g2 := g2.s t23
    have ta := t9.trans t23
    clear t2 t3 t23 t9
    generalize upd (upd H9 e3 (.tup [V.ref p3])) p4 (.tup [V.str "scroller", .int (N + 10), .int 2, .ref e3]) = Ha at *
    refine ⟨(by show 3 ≤ sizeLine; decide), fun il nil => ?_⟩
    have t2 := AF.same_new nil (.lst [V.ref p1, .ref p2, .ref p4])
    have eil : (upd Ha il (.lst [V.ref p1, .ref p2, .ref p4])) il = some (.lst [V.ref p1, .ref p2, .ref p4]) := upd_same
    have nild := drawNe hDa nil
    have hDb := AF.DrawAt.same hDa t2
    have bx : AF.BoxesAt (upd Ha il (.lst [V.ref p1, .ref p2, .ref p4])) [V.ref p1, .ref p2, .ref p4] [.blk (N + 10) 6, .scr (N + 10) 2 [], .scr (N + 10) 2 [.scr (N + 20) 1 []]] := .cons (g1.s t2) (.cons (g2.s t2) (.one (g4.s t2)))
    have tb := ta.trans t2
    have Bb := B6.trans (.of tb)
    have Kb := K6.trans (AF.Same.keepT tb)
    clear t2 ta tb g1 g2 g3 g4
    generalize upd Ha il (.lst [V.ref p1, .ref p2, .ref p4]) = Hb at *
    refine ⟨_, rfl, .ref d, rfl, d, l, 3, rfl, hDb, by decide, by decide, fun h Hc _ _ hDc bc' kc => ?_⟩
    have Bc := Bb.trans bc'
    have Kc := Kb.trans kc
    refine ⟨_, _, rfl, rfl, _, rfl, ite2 (fun c2 => ?_) (fun c2 => ?_)⟩
    · refine ⟨.ref il, rfl, .ref d, rfl, d, l, 3, rfl, hDc, by decide, by decide, fun j Hd j0 j1 hDd bd kd => ?_⟩
      have eild := bd _ _ nild (bc' _ _ nild eil)
      have bxd := (bx.k kc).k kd
      have hj : j = ((j.toNat : Nat) : Int) := by omega
      have hlt : j.toNat < 3 := by omega
      generalize j.toNat = k at hj hlt
      subst hj
      obtain ⟨y2, hy2⟩ : ∃ y2, [V.ref p1, .ref p2, .ref p4][k]? = some y2 := ⟨_, List.getElem?_eq_getElem hlt⟩
      obtain ⟨x2, hx2, by2⟩ := bxd.get hy2
      have hx3 : x2.pre.length ≤ 2 ∧ x2.depth ≤ 2 := by
        have hm := List.mem_of_getElem? hx2
        simp at hm
        rcases hm with rfl | rfl | rfl <;> simp [AF.Box.pre, AF.Box.preL, AF.Box.depth, AF.Box.depthL]
      refine ⟨il, _, _, y2, rfl, rfl, .of eild, atI_nat hy2, (by show 1 ≤ sizeLine; decide), fun p5 np5 => ⟨(by show 4 ≤ sizeLine; decide), fun p6 np6 => ?_⟩⟩
      have t2 := AF.same_new np5 (.tup [y2])
      have t3 := AF.same_new np6 (.tup [V.str "scroller", .int N, .int 4, .ref p5])
      refine q _ (.scr N 4 [x2]) _ (AF.BoxAt.mkS upd_same (t3 _ _ upd_same) (.one (by2.s (t2.trans t3)))) ?_ ?_ (AF.DrawAt.same hDd (t2.trans t3)) ((Bc.trans bd).trans (.of (t2.trans t3))) ((Kc.trans kd).trans (AF.Same.keepT (t2.trans t3)))
      · simp only [AF.Box.pre, AF.Box.preL, List.length_cons, List.length_append, List.length_nil]
        omega
      · simp only [AF.Box.depth, AF.Box.depthL]
        omega
    · refine ⟨Nat.zero_le _, fun p5 np5 => ⟨(by show 4 ≤ sizeLine; decide), fun p6 np6 => ?_⟩⟩
      have t2 := AF.same_new np5 (.tup ([] : List V))
      have t3 := AF.same_new np6 (.tup [V.str "scroller", .int N, .int 4, .ref p5])
      exact q _ (.scr N 4 []) _ (AF.BoxAt.mkS upd_same (t3 _ _ upd_same) .nil) (by simp [AF.Box.pre, AF.Box.preL]) (by simp [AF.Box.depth, AF.Box.depthL]) (AF.DrawAt.same hDc (t2.trans t3)) (Bc.trans (.of (t2.trans t3))) (Kc.trans (AF.Same.keepT (t2.trans t3)))
def spLEdit : Sp := fun vs H Q _ => ∃ (d l : Addr) (v : V) (b : AF.Box), vs = [.ref d, v] ∧ AF.DrawAt H d l ∧ AF.BoxAt H v b ∧ AF.Box.IsDoc b ∧
  ∀ (a : Addr) (e : AF.Box.Ed) (H' : Hp), EdAt H' a e → EdSm e → AF.DrawAt H' d l → AF.But [d] H H' → AF.KeepT H H' → Q (.ref a) H'
theorem ok_law_edit (T : Tx K mg) : FnOk P w K mg base CX0 11 T.d_law_edit.f T.d_law_edit.fd ["draw", "document"] spLEdit := by
  have G_law_next := ok_law_next (P := P) (w := w) (base := base) T
  have G_law_all := ok_law_all (P := P) (w := w) (base := base) T 9
  have G_law_part := ok_law_part (P := P) (w := w) (base := base) T
  refine T.d_law_edit.F.ok sc_law_edit (fun vs H Q E h => ?_) (fun cdv A outer s H vs Q E hr h => ?_)
  · obtain ⟨_, _, _, _, rfl, _⟩ := h
    rfl
  obtain ⟨d, l, v, b, rfl, hD, hb, hdoc, q⟩ := h
  have hdep := hdoc.d
  have hlen := hdoc.l
  refine ⟨_, (pss_cons (ps_set (i := 2) sc_law_edit.nd rfl (Or.inl rfl) (pe_op op_cat (pe_lc (own := [("box", 5)]) (g := gName 5) rfl sc_law_edit.nd (AF.piL K rfl (AF.cal T.d_law_all G_law_all (hr.mono (by omega)) (pa_cons (pv 1) pa_nil))) (blkOk_by (own := [("box", 5)]) (N := ["draw", "document", "numbers", "number", "form", "box"]) (sc := defScope s_law_edit) (by decide +kernel)) (fun _ _ _ _ _ => (pg_name (i := 5) sc_law_edit.nd rfl (Or.inl rfl))) (fun _ _ _ _ _ => pts_nil) (fun _ _ _ _ _ => (pe_ix (AF.ixT K rfl) (pv 5) pe_int (fun _ _ => rfl)))) (pe_lst (pa_cons pe_int pa_nil))))
      (pss_cons (ps_set (i := 3) sc_law_edit.nd rfl (Or.inl rfl) (pe_ix (AF.ixL K rfl) (pv 2) (AF.cal T.d_law_next G_law_next (hr.mono (by omega)) (pa_cons (pv 0) (pa_cons (pe_callB (AF.lenK K rfl) (by rfl) T.z_len (by decide +kernel) (pa_cons (pv 2) pa_nil)) pa_nil))) (fun _ _ => rfl)))
      (pss_cons (ps_set (i := 4) sc_law_edit.nd rfl (Or.inl rfl) (AF.cal T.d_law_next G_law_next (hr.mono (by omega)) (pa_cons (pv 0) (pa_cons pe_int pa_nil))))
      (pss_cons (ps_if (pt_cmpR op_lt (pv 4) pe_int (nomark _))
      (pss_one (ps_ret (pe_tup (pa_cons pe_str (pa_cons (pv 3) (pa_cons (pe_op op_sub (AF.cal T.d_law_next G_law_next (hr.mono (by omega)) (pa_cons (pv 0) (pa_cons pe_int pa_nil))) pe_int) (pa_cons (AF.cal T.d_law_part G_law_part (hr.mono (by omega)) (pa_cons (pv 0) (pa_cons (pe_lst (pa_cons (pe_callB (AF.maxK K rfl rfl) (by rfl) T.z_max (by decide +kernel) (pa_cons (pe_slice (AF.slL K rfl) (pv 2) po_none (po_some (pe_un un_neg pe_int))) pa_nil)) pa_nil)) (pa_cons (pv 1) pa_nil)))) pa_nil)))))))
      pss_nil)
      (pss_cons (ps_if (pt_cmpR op_eq (pv 4) pe_int (nomark _))
      (pss_one (ps_ret (pe_tup (pa_cons pe_str (pa_cons (pv 3) pa_nil)))))
      pss_nil)
      (pss_one (ps_ret (pe_tup (pa_cons pe_str (pa_cons (pv 3) (pa_cons (pe_ix (AF.ixL K rfl) (pe_lst (pa_cons pe_int (pa_cons pe_int (pa_cons pe_int (pa_cons pe_int (pa_cons pe_int (pa_cons pe_int (pa_cons pe_int (pa_cons (pe_un un_neg pe_int) pa_nil))))))))) (AF.cal T.d_law_next G_law_next (hr.mono (by omega)) (pa_cons (pv 0) (pa_cons pe_int pa_nil))) (fun _ _ => rfl)) pa_nil))))))))))), ?_⟩
  refine ⟨v, rfl, v, b, rfl, hb, by omega, by omega, fun lst2 ws2 H1 s1 nl2 el2 bw2 => ?_⟩
  refine ⟨lst2, rfl, ⟨ws2, .of el2⟩, fun D nD => ?_⟩
  have hw2 := bw2.len
  refine lc_list (xs := ws2) (Pv := fun j H2 => Same H1 H2 ∧ H2 D = some (.lst (((b.pre.take j).map AF.Box.num).map V.int))) ?_ ?_ ?_ ?_
  · exact ⟨AF.same_new nD _, upd_same⟩
  · rintro j H2 _ ⟨s2, _⟩
    exact .of (s2 _ _ el2)
  · rintro j u H2 hu ⟨s2, eD⟩
    obtain ⟨c, hc, bu⟩ := bw2.get hu
    obtain ⟨au, xs, ev, ha, e⟩ := (bu.s s2).tup
    have e1 : xs[1]? = some (.int c.num) := by
      have := congrArg (fun l => l[1]?) e
      simpa using this
    refine ⟨rfl, u, rfl, au, _, _, _, ev, rfl, .of ha, atI_nat (j := 1) e1, _, eD, small1000 (by rw [List.length_map, List.length_map, List.length_take]; omega), AF.same_upd s2 nD _, ?_⟩
    rw [upd_same, AF.take_snoc hc, List.map_append, List.map_append]
    rfl
  rintro H2 ⟨s2, eD⟩
  rw [hw2, List.take_length] at eD
  refine ⟨(by show 1 ≤ sizeLine; decide), fun t7 nt7 => ?_⟩
  have s3 := AF.same_new nt7 (.lst [V.int 777])
  refine ⟨D, t7, _, _, rfl, rfl, s3 _ _ eD, upd_same, Nat.le_of_lt (small1000 (by simp only [List.length_map, List.length_singleton]; omega)), fun nb nnb => ?_⟩
  have e777 : (b.pre.map AF.Box.num).map V.int ++ [V.int 777] = (b.pre.map AF.Box.num ++ [777]).map V.int := by rw [List.map_append]; rfl
  have s4 := AF.same_new nnb (.lst ((b.pre.map AF.Box.num ++ [777]).map V.int))
  have s14 := ((s1.trans s2).trans s3).trans s4
  have nnbd : nb ∉ [d] := drawNe (AF.DrawAt.same hD ((s1.trans s2).trans s3)) nnb
  rw [e777]
  have enb : (upd (upd H2 t7 (.lst [V.int 777])) nb (.lst ((b.pre.map AF.Box.num ++ [777]).map V.int))) nb = some (.lst ((b.pre.map AF.Box.num ++ [777]).map V.int)) := upd_same
  have hnl : (b.pre.map AF.Box.num ++ [777]).length = b.pre.length + 1 := by rw [List.length_append, List.length_map]; rfl
  have hD4 := AF.DrawAt.same hD s14
  clear s1 s2 s3 s4 eD
  generalize upd (upd H2 t7 (.lst [V.int 777])) nb (.lst ((b.pre.map AF.Box.num ++ [777]).map V.int)) = H4 at *
  refine ⟨.ref nb, rfl, .ref d, rfl, .ref nb, rfl, nb, _, rfl, .inl (.of enb), d, l, _, rfl, hD4, ?_, ?_, fun z H5 z0 z1 hD5 b5 k5 => ?_⟩
  · rw [List.length_map]
    omega
  · rw [List.length_map]
    omega
  rw [List.length_map] at z1
  obtain ⟨n, hnm, hn⟩ := AF.pickI (ns := b.pre.map AF.Box.num ++ [777]) z0 z1
  have hnok : NumOk n := by
    rcases List.mem_append.mp hnm with h | h
    · obtain ⟨c, hc, rfl⟩ := List.mem_map.mp h
      have := hdoc.n c hc
      exact ⟨by omega, by omega⟩
    · rw [List.mem_singleton.mp h]
      exact ⟨by decide, by decide⟩
  have enb5 := b5 _ _ nnbd enb
  refine ⟨nb, _, z, _, rfl, rfl, .of enb5, hn, ?_⟩
  refine ⟨.ref d, rfl, d, l, 5, rfl, hD5, by decide, by decide, fun f H6 _ _ hD6 b6 k6 => ?_⟩
  have enb6 := b6 _ _ nnbd enb5
  have B6 : AF.But [d] H H6 := ((AF.But.of s14).trans b5).trans b6
  have K6 : AF.KeepT H H6 := ((AF.Same.keepT s14).trans k5).trans k6
  refine ⟨_, rfl, _, _, rfl, rfl, _, rfl, ite2 (fun c1 => ?_) (fun c1 => ?_)⟩
  · refine ⟨_, rfl, .ref d, rfl, d, l, 6, rfl, hD6, by decide, by decide, fun i H7 i0 i1 hD7 b7 k7 => ?_⟩
    refine ⟨_, _, rfl, rfl, .ref d, rfl, .ref nb, rfl, 1, rfl, _, rfl, nb, _, rfl, .of (b7 _ _ nnbd enb6), fun t nt => ?_⟩
    have ecut : cutV ((b.pre.map AF.Box.num ++ [777]).map V.int) none (some (-1)) = (b.pre.map AF.Box.num).map V.int := by
      rw [← e777]
      exact AF.cut_but _ _
    rw [ecut]
    have s8 := AF.same_new nt (.lst ((b.pre.map AF.Box.num).map V.int))
    have hD8 := AF.DrawAt.same hD7 s8
    refine ⟨t, b.pre.map AF.Box.num, rfl, .of upd_same, ?_, fun m hm _ => ?_⟩
    · rw [List.length_map, AF.Box.pre_eq, List.length_cons]
      exact Nat.succ_pos _
    refine ⟨(by show 1 ≤ sizeLine; decide), fun la nla => ?_⟩
    have s9 := AF.same_new nla (.lst [V.int m])
    have B9 := (B6.trans b7).trans (.of (s8.trans s9))
    have K9 := (K6.trans k7).trans (AF.Same.keepT (s8.trans s9))
    refine ⟨v, rfl, d, l, la, v, b, m, rfl, AF.DrawAt.same hD8 s9, upd_same, drawNe hD8 nla, hb.k K9, by omega, by omega, fun o x H10 ho hxl hxd hD10 b10 k10 => ?_⟩
    refine ⟨(by show 4 ≤ sizeLine; decide), fun a na => ?_⟩
    have sA := AF.same_new na (.tup [V.str "insert", .int n, .int (i - 1), o])
    refine q a (.ins n (i - 1) x) _ ⟨o, upd_same, ho.s sA⟩ ⟨hnok, ⟨by omega, by omega⟩, by omega, by omega⟩ (AF.DrawAt.same hD10 sA) ((B9.trans b10).trans (.of sA)) ((K9.trans k10).trans (AF.Same.keepT sA))
  · refine ⟨_, rfl, rfl, _, rfl, ite2 (fun c2 => ?_) (fun c2 => ?_)⟩
    · refine ⟨_, rfl, (by show 2 ≤ sizeLine; decide), fun a na => ?_⟩
      have sA := AF.same_new na (.tup [V.str "remove", .int n])
      exact q a (.rem n) _ upd_same hnok (AF.DrawAt.same hD6 sA) (B6.trans (.of sA)) (K6.trans (AF.Same.keepT sA))
    · refine ⟨_, rfl, 1, rfl, (by show 8 ≤ sizeLine; decide), fun t nt => ?_⟩
      have s7 := AF.same_new nt (.lst ([0, 2, 5, 9, 15, 1000, 1001, -1].map V.int))
      refine ⟨.ref d, rfl, d, l, 8, rfl, AF.DrawAt.same hD6 s7, by decide, by decide, fun j H8 j0 j1 hD8 b8 k8 => ?_⟩
      obtain ⟨g, _, hg⟩ := AF.pickI (ns := [0, 2, 5, 9, 15, 1000, 1001, -1]) j0 j1
      refine ⟨t, _, j, _, rfl, rfl, .of (b8 _ _ (drawNe hD6 nt) upd_same), hg, (by show 3 ≤ sizeLine; decide), fun a na => ?_⟩
      have sA := AF.same_new na (.tup [V.str "resize", .int n, .int g])
      exact q a (.rsz n g) _ upd_same hnok (AF.DrawAt.same hD8 sA) (((B6.trans (.of s7)).trans b8).trans (.of sA)) (((K6.trans (AF.Same.keepT s7)).trans k8).trans (AF.Same.keepT sA))

end
end K08
namespace K08
open PySem PySem.Spec PyProof.Rows L2
section
variable {P : Program} {w : World} {K : PySem.W.Frag} {mg : Str → Option Value} {base : Heap}
/-! ### the law's walk -/
/-- the fields of an edit's tuple -/
theorem EdAt.flds {H : Hp} {a : Addr} {e : AF.Box.Ed} (h : EdAt H a e) : ∃ (xs : List V) (word : Str), H a = some (.tup xs) ∧ xs[0]? = some (.str word) ∧ xs[1]? = some (.int e.num) ∧
    (match e with
      | .ins _ i x => word = "insert" ∧ xs[2]? = some (.int i) ∧ ∃ o, xs[3]? = some o ∧ AF.BoxAt H o x
      | .rem _ => word = "remove"
      | .rsz _ g => word = "resize" ∧ xs[2]? = some (.int g)) := by
  cases e with
  | ins n i x =>
    obtain ⟨o, h1, h2⟩ := h
    exact ⟨_, "insert", h1, rfl, rfl, rfl, rfl, o, rfl, h2⟩
  | rem n => exact ⟨_, "remove", h, rfl, rfl, rfl⟩
  | rsz n g => exact ⟨_, "resize", h, rfl, rfl, rfl, rfl⟩
def wParts (e : AF.Box.Ed) (m : Int) (l : List AF.Box) : List AF.Box := match e with
  | .ins n i x => if m = n then AF.Box.insAt i.toNat x l else l
  | _ => l
def spLWith (k : Nat) : Sp := fun vs H Q _ => ∃ (v : V) (b : AF.Box) (a : Addr) (e : AF.Box.Ed), vs = [v, .ref a] ∧ AF.BoxAt H v b ∧ EdAt H a e ∧ b.depth < k ∧ b.pre.length ≤ 900 ∧ (∀ n i x, e = .ins n i x → 0 ≤ i ∧ i ≤ 1000) ∧
  ∀ (u : V) (H' : Hp), Same H H' → AF.BoxAt H' u (AF.Box.lw e b) → Q u H'
theorem ok_lwith0 (T : Tx K mg) : FnOk P w K mg base CX0 0 T.d_law_with.f T.d_law_with.fd ["box", "edit"] (spLWith 0) := by
  have no : ∀ vs H Q E, ¬ spLWith 0 vs H Q E := fun vs H Q E h => by
    obtain ⟨_, _, _, _, _, _, _, h, _⟩ := h
    omega
  exact ⟨fun vs H Q E h => absurd h (no vs H Q E), fun A outer s H args us vs Q E _ _ _ _ h => absurd h (no vs H Q E)⟩
theorem ok_lwith_step (T : Tx K mg) {k : Nat} (G_law_with : FnOk P w K mg base CX0 k T.d_law_with.f T.d_law_with.fd ["box", "edit"] (spLWith k)) : FnOk P w K mg base CX0 (k + 1) T.d_law_with.f T.d_law_with.fd ["box", "edit"] (spLWith (k + 1)) := by
  refine T.d_law_with.F.ok sc_law_with (fun vs H Q E h => ?_) (fun cdv A outer s H vs Q E hr h => ?_)
  · obtain ⟨_, _, _, _, rfl, _⟩ := h
    rfl
  obtain ⟨v, b, a, e, rfl, hb, ha, hdep, hlen, hi, q⟩ := h
  refine ⟨_, (pss_cons (ps_if (pt_cmpR op_eq (pe_ix (AF.ixT K rfl) (pv 0) pe_int (fun _ _ => rfl)) pe_str (nomark _))
      (pss_one (ps_ret (pe_ifExp (PW.pt (pw_and (pt_cmpR op_eq (pe_ix (AF.ixT K rfl) (pv 1) pe_int (fun _ _ => rfl)) pe_str (nomark _)) (pw_and1 (pt_cmpR op_eq (pe_ix (AF.ixT K rfl) (pv 0) pe_int (fun _ _ => rfl)) (pe_ix (AF.ixT K rfl) (pv 1) pe_int (fun _ _ => rfl)) (nomark _))))) (pe_op (AF.catTK K rfl) (pe_slice (AF.slT K rfl) (pv 0) po_none (po_some pe_int)) (pe_tup (pa_cons (pe_ix (AF.ixT K rfl) (pv 1) pe_int (fun _ _ => rfl)) pa_nil))) (pv 0))))
      pss_nil)
      (pss_cons (ps_setLc (i := 2) (own := [("part", 4)]) (g := gName 4) rfl sc_law_with.nd rfl rfl (sw_true rfl rfl rfl (by decide +kernel)) (AF.piT K rfl (pe_ix (AF.ixT K rfl) (pv 0) pe_int (fun _ _ => rfl))) (blkOk_by (own := [("part", 4)]) (N := ["box", "edit", "parts", "height", "part"]) (sc := defScope s_law_with) (by decide +kernel)) (fun _ _ _ _ _ => (pg_name (i := 4) sc_law_with.nd rfl (Or.inl rfl))) (fun _ _ _ _ _ => pts_one (PW.pt (pw_or (pt_cmpR op_ne (pe_ix (AF.ixT K rfl) (pv 1) pe_int (fun _ _ => rfl)) pe_str (nomark _)) (pw_or1 (pt_cmpR op_ne (pe_ix (AF.ixT K rfl) (pv 4) pe_int (fun _ _ => rfl)) (pe_ix (AF.ixT K rfl) (pv 1) pe_int (fun _ _ => rfl)) (nomark _)))))) (fun _ _ _ _ _ => (AF.cal T.d_law_with G_law_with (hr.mono (by omega)) (pa_cons (pv 4) (pa_cons (pv 1) pa_nil)))))
      (Evl.pss_cut (ps_if (PW.pt (pw_and (pt_cmpR op_eq (pe_ix (AF.ixT K rfl) (pv 1) pe_int (fun _ _ => rfl)) pe_str (nomark _)) (pw_and1 (pt_cmpR op_eq (pe_ix (AF.ixT K rfl) (pv 0) pe_int (fun _ _ => rfl)) (pe_ix (AF.ixT K rfl) (pv 1) pe_int (fun _ _ => rfl)) (nomark _)))))
      (pss_one (ps_expr (pe_bm PySem.F.plainAttrs_list PySem.F.slot_list_insert PySem.F.type_list_insert mt_insert (pv 2) (pa_cons (pe_ix (AF.ixT K rfl) (pv 1) pe_int (fun _ _ => rfl)) (pa_cons (pe_ix (AF.ixT K rfl) (pv 1) pe_int (fun _ _ => rfl)) pa_nil)))))
      pss_nil)
      (pss_cons (ps_set (i := 3) sc_law_with.nd rfl (Or.inl rfl) (pe_ifExp (PW.pt (pw_and (pt_cmpR op_eq (pe_ix (AF.ixT K rfl) (pv 1) pe_int (fun _ _ => rfl)) pe_str (nomark _)) (pw_and1 (pt_cmpR op_eq (pe_ix (AF.ixT K rfl) (pv 0) pe_int (fun _ _ => rfl)) (pe_ix (AF.ixT K rfl) (pv 1) pe_int (fun _ _ => rfl)) (nomark _))))) (pe_ix (AF.ixT K rfl) (pv 1) pe_int (fun _ _ => rfl)) (pe_ix (AF.ixT K rfl) (pv 0) pe_int (fun _ _ => rfl))))
      (pss_one (ps_ret (pe_tup (pa_cons pe_str (pa_cons (pe_ix (AF.ixT K rfl) (pv 0) pe_int (fun _ _ => rfl)) (pa_cons (pv 3) (pa_cons (pe_callTy (AF.tupK K rfl) (by rfl) T.z_tuple (by decide +kernel) (pa_cons (pv 2) pa_nil)) pa_nil))))))))))), ?_⟩
  obtain ⟨av, vs, ev, hav, ee⟩ := hb.tup
  have b0 : vs[0]? = some (.str b.kind) := by
    have := congrArg (fun l => l[0]?) ee
    simpa using this
  have b1 : vs[1]? = some (.int b.num) := by
    have := congrArg (fun l => l[1]?) ee
    simpa using this
  have b2 : vs[2]? = some (.int b.ht) := by
    have := congrArg (fun l => l[2]?) ee
    simpa using this
  obtain ⟨xs, word, hxs, f0, f1, hwd⟩ := ha.flds
  refine ⟨v, rfl, av, _, _, _, ev, rfl, .of hav, atI_nat (j := 0) b0, rfl, _, rfl, ?_⟩
  cases b with
  | blk m h =>
    refine AF.iteP (decide_eq_true rfl) ?_
    refine ⟨.ref a, rfl, a, _, _, _, rfl, rfl, .of hxs, atI_nat (j := 0) f0, rfl, _, rfl, ?_⟩
    cases e with
    | ins n i x =>
      obtain ⟨rfl, _⟩ := hwd
      refine AF.iteN (by intro z; cases (of_decide_eq_true z)) ⟨v, rfl, q v H (.refl H) ?_⟩
      simp only [AF.Box.lw]
      exact hb
    | rem n =>
      have hwd : word = "remove" := hwd
      subst hwd
      refine AF.iteN (by intro z; cases (of_decide_eq_true z)) ⟨v, rfl, q v H (.refl H) ?_⟩
      simp only [AF.Box.lw]
      exact hb
    | rsz n g =>
      obtain ⟨rfl, f2⟩ := hwd
      simp only [AF.Box.lw] at q
      refine AF.iteP (decide_eq_true rfl) ?_
      refine ⟨v, rfl, av, _, _, _, ev, rfl, .of hav, atI_nat (j := 1) b1, .ref a, rfl, a, _, _, _, rfl, rfl, .of hxs, atI_nat (j := 1) f1, rfl, _, rfl, ite2 (fun c => ?_) (fun c => ?_)⟩
      · have e1 : m = n := V.int.inj (of_decide_eq_true c)
        rw [if_pos e1] at q
        subst ev
        simp only [AF.BoxAt] at hb
        obtain ⟨av', eq, hav'⟩ := hb
        cases eq
        refine ⟨.ref av, rfl, 2, rfl, AF.slA_ok (zs := [.str "block", .int m]) hav' rfl fun p H1 s1 ep => ?_⟩
        refine ⟨.ref a, rfl, a, _, _, _, rfl, rfl, .of (s1 _ _ hxs), atI_nat (j := 2) f2, (by show 1 ≤ sizeLine; decide), fun o no => ?_⟩
        have s2 := AF.same_new no (.tup [V.int g])
        refine AF.catA_ok (s2 _ _ ep) upd_same (by show 2 + 1 ≤ 1000; decide) fun p2 H3 s3 ep2 => ?_
        exact q _ _ (s1.trans (s2.trans s3)) (AF.BoxAt.mkB ep2)
      · have e1 : ¬ m = n := fun z => c (decide_eq_true (congrArg V.int z))
        rw [if_neg e1] at q
        exact ⟨v, rfl, q v H (.refl H) hb⟩
  | scr m h ps =>
    refine AF.iteN (by intro z; cases (of_decide_eq_true z)) ?_
    obtain ⟨av', p, ws, ev', hav', ep, bp⟩ := hb.scr
    rw [ev] at ev'
    cases ev'
    have hw := bp.len
    have hpl : (AF.Box.scr m h ps).pre.length = (AF.Box.preL ps).length + 1 := by rw [AF.Box.pre_scr, List.length_cons]
    have hge := AF.Box.preL_ge ps
    simp only [AF.Box.depth] at hdep
    simp only [AF.Box.lw] at q
    refine ⟨v, rfl, av, _, _, _, ev, rfl, .of hav', atI_nat (j := 3) rfl, p, rfl, ⟨ws, .of ep⟩, fun D nD => ?_⟩
    refine lc_tup (xs := ws) (Pv := fun i H3 => ∃ us : List V, Same H H3 ∧ H3 D = some (.lst us) ∧ AF.BoxesAt H3 us (AF.Box.lwL e (ps.take i)) ∧ us.length ≤ i) ?_ ?_ ?_ ?_
    · refine ⟨[], AF.same_new nD _, upd_same, ?_, Nat.le_refl _⟩
      rw [List.take_zero]
      simp only [AF.Box.lwL]
      exact .nil
    · rintro i H3 _ ⟨_, s3, _⟩
      exact .of (s3 _ _ ep)
    · rintro i y H3 hy ⟨us, s3, eD, bu, hul⟩
      obtain ⟨c, hc, by_⟩ := bp.get hy
      have hcm := List.mem_of_getElem? hc
      have hi2 : i < ps.length := (List.getElem?_eq_some_iff.mp hc).1
      have h1 := AF.Box.depthL_mem hcm
      have h2 := AF.Box.preL_mem_le hcm
      have by3 := by_.s s3
      have hx3 := s3 _ _ hxs
      have et := AF.Box.lwL_snoc e c (ps.take i)
      rw [← AF.take_snoc hc] at et
      refine ⟨rfl, .ref a, rfl, a, _, _, _, rfl, rfl, .of hx3, atI_nat (j := 0) f0, rfl, _, rfl, ?_⟩
      -- the part is kept
      have keep : AF.Box.drop? e c = false → ∀ (u : V) (H4 : Hp), Same H3 H4 → AF.BoxAt H4 u (AF.Box.lw e c) → ∃ acc, H4 D = some (.lst acc) ∧ acc.length < sizeLine ∧ ∃ us' : List V, Same H (upd H4 D (.lst (acc ++ [u]))) ∧ (upd H4 D (.lst (acc ++ [u]))) D = some (.lst us') ∧
          AF.BoxesAt (upd H4 D (.lst (acc ++ [u]))) us' (AF.Box.lwL e (ps.take (i + 1))) ∧ us'.length ≤ i + 1 := fun hd u H4 s4 hu => by
        have eD4 := s4 _ _ eD
        have k5 := AF.keepT_upd eD4 (.lst (us ++ [u]))
        refine ⟨us, eD4, small1000 (by omega), us ++ [u], AF.same_upd (s3.trans s4) nD _, upd_same, ?_, by rw [List.length_append, List.length_singleton]; omega⟩
        rw [et, hd, if_neg Bool.false_ne_true]
        exact ((bu.s s4).k k5).append (.one (hu.k k5))
      cases e with
      | ins n i' x =>
        obtain ⟨rfl, _⟩ := hwd
        refine AF.iteP (by decide) ?_
        exact ⟨y, rfl, .ref a, rfl, y, c, a, _, rfl, by3, ha.s s3, by omega, by omega, hi, keep rfl⟩
      | rsz n g =>
        obtain ⟨rfl, _⟩ := hwd
        refine AF.iteP (by decide) ?_
        exact ⟨y, rfl, .ref a, rfl, y, c, a, _, rfl, by3, ha.s s3, by omega, by omega, hi, keep rfl⟩
      | rem n =>
        have hwd : word = "remove" := hwd
        subst hwd
        refine AF.iteN (by decide) ?_
        obtain ⟨ac, ys, ec, hac, e7⟩ := by3.tup
        have y1 : ys[1]? = some (.int c.num) := by
          have := congrArg (fun l => l[1]?) e7
          simpa using this
        refine ⟨y, rfl, ac, _, _, _, ec, rfl, .of hac, atI_nat (j := 1) y1, .ref a, rfl, a, _, _, _, rfl, rfl, .of hx3, atI_nat (j := 1) f1, rfl, _, rfl, ?_⟩
        by_cases e1 : c.num = n
        · refine iteNS (congrArg V.int e1) ?_
          rw [show AF.Box.drop? (.rem n) c = true from decide_eq_true e1, if_pos rfl, List.append_nil] at et
          exact ⟨us, s3, eD, by rw [et]; exact bu, by omega⟩
        · have hne : ¬ V.int c.num = V.int n := fun z => e1 (V.int.inj z)
          refine AF.iteP (by show (!decide (V.int c.num = V.int n)) = true; rw [decide_eq_false hne]; rfl) ?_
          exact ⟨y, rfl, .ref a, rfl, y, c, a, _, rfl, by3, ha.s s3, by omega, by omega, hi, keep (decide_eq_false e1)⟩
    · rintro H3 ⟨us, s3, eD, bu, hul⟩
      rw [hw, List.take_length] at bu
      have hx3 := s3 _ _ hxs
      refine ⟨fun σ' H' => ∃ us1 : List V, σ' = [some v, some (.ref a), some (.ref D), none, none] ∧ Same H H' ∧ H' D = some (.lst us1) ∧
        AF.BoxesAt H' us1 (wParts e m (AF.Box.lwL e ps)), ?_, ?_⟩
      · refine ⟨.ref a, rfl, a, _, _, _, rfl, rfl, .of hx3, atI_nat (j := 0) f0, rfl, _, rfl, ?_⟩
        cases e with
        | rem n =>
          have hwd : word = "remove" := hwd
          subst hwd
          exact AF.iteN (by decide) ⟨us, rfl, s3, eD, bu⟩
        | rsz n g =>
          obtain ⟨rfl, _⟩ := hwd
          exact AF.iteN (by decide) ⟨us, rfl, s3, eD, bu⟩
        | ins n i x =>
          obtain ⟨rfl, f2, o, f3, ho⟩ := hwd
          obtain ⟨hi0, hi1⟩ := hi n i x rfl
          refine AF.iteP (by decide) ?_
          refine ⟨v, rfl, av, _, _, _, ev, rfl, .of (s3 _ _ hav), atI_nat (j := 1) b1, .ref a, rfl, a, _, _, _, rfl, rfl, .of hx3, atI_nat (j := 1) f1, rfl, _, rfl, ite2 (fun c => ?_) (fun c => ?_)⟩
          · have e1 : m = n := V.int.inj (of_decide_eq_true c)
            refine ⟨.ref D, rfl, .inl ⟨rfl, _, .of eD⟩, .ref a, rfl, a, _, _, _, rfl, rfl, .of hx3, atI_nat (j := 2) f2, .ref a, rfl, a, _, _, _, rfl, rfl, .of hx3, atI_nat (j := 3) f3, D, us, i, o, rfl, rfl, eD, small1000 (by omega), hi0, by omega, ?_⟩
            have k4 := AF.keepT_upd eD (.lst (us.take i.toNat ++ [o] ++ us.drop i.toNat))
            refine ⟨_, rfl, AF.same_upd s3 nD _, upd_same, ?_⟩
            dsimp only [wParts]
            rw [if_pos e1]
            exact (((bu.k k4).take i.toNat).append (.one ((ho.s s3).k k4))).append ((bu.k k4).drop i.toNat)
          · have e1 : ¬ m = n := fun z => c (decide_eq_true (congrArg V.int z))
            refine ⟨us, rfl, s3, eD, ?_⟩
            dsimp only [wParts]
            rw [if_neg e1]
            exact bu
      · rintro σ H1 ⟨us1, rfl, s1, eD1, bu1⟩
        have hx1 := s1 _ _ hxs
        refine ⟨.ref a, rfl, a, _, _, _, rfl, rfl, .of hx1, atI_nat (j := 0) f0, rfl, _, rfl, ?_⟩
        cases e with
        | ins n i x =>
          obtain ⟨rfl, _⟩ := hwd
          refine AF.iteN (by decide) ?_
          refine ⟨v, rfl, av, _, _, _, ev, rfl, .of (s1 _ _ hav), atI_nat (j := 2) b2, ?_⟩
          refine ⟨v, rfl, av, _, _, _, ev, rfl, .of (s1 _ _ hav), atI_nat (j := 1) b1, _, rfl, .ref D, rfl, D, _, rfl, .inl ⟨.of eD1, fun t nt => ⟨(by show 4 ≤ sizeLine; decide), fun N nN => ?_⟩⟩⟩
          have s2 := AF.same_new nt (.tup us1)
          have s3 := AF.same_new nN (.tup [V.str "scroller", .int m, .int h, .ref t])
          exact q _ _ (s1.trans (s2.trans s3)) (AF.BoxAt.mkS upd_same (s3 _ _ upd_same) (bu1.s (s2.trans s3)))
        | rem n =>
          have hwd : word = "remove" := hwd
          subst hwd
          refine AF.iteN (by decide) ?_
          refine ⟨v, rfl, av, _, _, _, ev, rfl, .of (s1 _ _ hav), atI_nat (j := 2) b2, ?_⟩
          refine ⟨v, rfl, av, _, _, _, ev, rfl, .of (s1 _ _ hav), atI_nat (j := 1) b1, _, rfl, .ref D, rfl, D, _, rfl, .inl ⟨.of eD1, fun t nt => ⟨(by show 4 ≤ sizeLine; decide), fun N nN => ?_⟩⟩⟩
          have s2 := AF.same_new nt (.tup us1)
          have s3 := AF.same_new nN (.tup [V.str "scroller", .int m, .int h, .ref t])
          exact q _ _ (s1.trans (s2.trans s3)) (AF.BoxAt.mkS upd_same (s3 _ _ upd_same) (bu1.s (s2.trans s3)))
        | rsz n g =>
          obtain ⟨rfl, f2⟩ := hwd
          dsimp only at q
          refine AF.iteP (by decide) ?_
          refine ⟨v, rfl, av, _, _, _, ev, rfl, .of (s1 _ _ hav), atI_nat (j := 1) b1, .ref a, rfl, a, _, _, _, rfl, rfl, .of hx1, atI_nat (j := 1) f1, rfl, _, rfl, ite2 (fun c => ?_) (fun c => ?_)⟩
          · have e1 : m = n := V.int.inj (of_decide_eq_true c)
            rw [if_pos e1] at q
            refine ⟨.ref a, rfl, a, _, _, _, rfl, rfl, .of hx1, atI_nat (j := 2) f2, ?_⟩
            refine ⟨v, rfl, av, _, _, _, ev, rfl, .of (s1 _ _ hav), atI_nat (j := 1) b1, _, rfl, .ref D, rfl, D, _, rfl, .inl ⟨.of eD1, fun t nt => ⟨(by show 4 ≤ sizeLine; decide), fun N nN => ?_⟩⟩⟩
            have s2 := AF.same_new nt (.tup us1)
            have s3 := AF.same_new nN (.tup [V.str "scroller", .int m, .int g, .ref t])
            exact q _ _ (s1.trans (s2.trans s3)) (AF.BoxAt.mkS upd_same (s3 _ _ upd_same) (bu1.s (s2.trans s3)))
          · have e1 : ¬ m = n := fun z => c (decide_eq_true (congrArg V.int z))
            rw [if_neg e1] at q
            refine ⟨v, rfl, av, _, _, _, ev, rfl, .of (s1 _ _ hav), atI_nat (j := 2) b2, ?_⟩
            refine ⟨v, rfl, av, _, _, _, ev, rfl, .of (s1 _ _ hav), atI_nat (j := 1) b1, _, rfl, .ref D, rfl, D, _, rfl, .inl ⟨.of eD1, fun t nt => ⟨(by show 4 ≤ sizeLine; decide), fun N nN => ?_⟩⟩⟩
            have s2 := AF.same_new nt (.tup us1)
            have s3 := AF.same_new nN (.tup [V.str "scroller", .int m, .int h, .ref t])
            exact q _ _ (s1.trans (s2.trans s3)) (AF.BoxAt.mkS upd_same (s3 _ _ upd_same) (bu1.s (s2.trans s3)))
theorem ok_law_with (T : Tx K mg) : ∀ k : Nat, FnOk P w K mg base CX0 k T.d_law_with.f T.d_law_with.fd ["box", "edit"] (spLWith k)
  | 0 => ok_lwith0 T
  | k + 1 => ok_lwith_step T (ok_law_with T k)
/-- an answer as a value: a box, or a word -/
def ResAt (H : Hp) (u : V) : AF.Box.Res → Prop
  | .no => u = .str "none"
  | .block => u = .str "block"
  | .bad => u = .str "refused"
  | .ok l => AF.BoxAt H u l
def resPy : AF.Box.Res → PyData
  | .no => .str "none"
  | .block => .str "block"
  | .bad => .str "refused"
  | .ok l => l.py
theorem ResAt.dp {H : Hp} {u : V} : ∀ {r : AF.Box.Res}, ResAt H u r → Dp K H u (resPy r)
  | .no, h => by
    have h : u = _ := h
    subst h
    exact .str _
  | .block, h => by
    have h : u = _ := h
    subst h
    exact .str _
  | .bad, h => by
    have h : u = _ := h
    subst h
    exact .str _
  | .ok l, h => AF.BoxAt.dp l u h
theorem ResAt.s {H H' : Hp} {u : V} {r : AF.Box.Res} (h : ResAt H u r) (s : Same H H') : ResAt H' u r := by
  cases r with
  | ok l => exact AF.BoxAt.s h s
  | no => exact h
  | block => exact h
  | bad => exact h
def spLEdited : Sp := fun vs H Q _ => ∃ (v : V) (b : AF.Box) (a : Addr) (e : AF.Box.Ed), vs = [v, .ref a] ∧ AF.BoxAt H v b ∧ EdAt H a e ∧ EdSm e ∧ b.depth ≤ 5 ∧ b.pre.length ≤ 100 ∧ (b.pre.map AF.Box.num).Nodup ∧
  ∀ (u : V) (H' : Hp), Same H H' → ResAt H' u (AF.Box.edL b e) → Q u H'
theorem ok_law_edited (T : Tx K mg) : FnOk P w K mg base CX0 11 T.d_law_edited.f T.d_law_edited.fd ["document", "edit"] spLEdited := by
  have G_law_named := ok_law_named (P := P) (w := w) (base := base) T
  have G_law_with := ok_law_with (P := P) (w := w) (base := base) T 9
  have G_law_is_document := ok_law_is_document (P := P) (w := w) (base := base) T
  refine T.d_law_edited.F.ok sc_law_edited (fun vs H Q E h => ?_) (fun cdv A outer s H vs Q E hr h => ?_)
  · obtain ⟨_, _, _, _, rfl, _⟩ := h
    rfl
  obtain ⟨v, b, a, e, rfl, hb, ha, hsm, hdep, hlen, hnd, q⟩ := h
  refine ⟨_, (pss_cons (ps_set (i := 2) sc_law_edited.nd rfl (Or.inl rfl) (AF.cal T.d_law_named G_law_named (hr.mono (by omega)) (pa_cons (pv 0) (pa_cons (pe_ix (AF.ixT K rfl) (pv 1) pe_int (fun _ _ => rfl)) pa_nil))))
      (pss_cons (ps_if (pt_cmpR op_isN (pv 2) pe_non (nomark _))
      (pss_one (ps_ret pe_str))
      pss_nil)
      (pss_cons (ps_if (PW.pt (pw_and (pt_cmpR op_eq (pe_ix (AF.ixT K rfl) (pv 1) pe_int (fun _ _ => rfl)) pe_str (nomark _)) (pw_and1 (pt_cmpR op_eq (pe_ix (AF.ixT K rfl) (pv 2) pe_int (fun _ _ => rfl)) pe_str (nomark _)))))
      (pss_one (ps_ret pe_str))
      pss_nil)
      (pss_cons (ps_if (PW.pt (pw_or (PW.pt (pw_and (pt_cmpR op_eq (pe_ix (AF.ixT K rfl) (pv 1) pe_int (fun _ _ => rfl)) pe_str (nomark _)) (pw_and1 (pt_not (pt_chain op_le op_le pe_int (pe_ix (AF.ixT K rfl) (pv 1) pe_int (fun _ _ => rfl)) (pe_callB (AF.lenK K rfl) (by rfl) T.z_len (by decide +kernel) (pa_cons (pe_ix (AF.ixT K rfl) (pv 2) pe_int (fun _ _ => rfl)) pa_nil))))))) (pw_or1 (PW.pt (pw_and (pt_cmpR op_eq (pe_ix (AF.ixT K rfl) (pv 1) pe_int (fun _ _ => rfl)) pe_str (nomark _)) (pw_and1 (pt_cmpR op_eq (pe_ix (AF.ixT K rfl) (pv 1) pe_int (fun _ _ => rfl)) (pe_ix (AF.ixT K rfl) (pv 0) pe_int (fun _ _ => rfl)) (nomark _))))))))
      (pss_one (ps_ret pe_str))
      pss_nil)
      (pss_cons (ps_set (i := 3) sc_law_edited.nd rfl (Or.inl rfl) (AF.cal T.d_law_with G_law_with (hr.mono (by omega)) (pa_cons (pv 0) (pa_cons (pv 1) pa_nil))))
      (pss_one (ps_ret (pe_ifExp (pt_val (AF.cal T.d_law_is_document G_law_is_document (hr.mono (by omega)) (pa_cons (pv 3) pa_nil))) (pv 3) pe_str)))))))), ?_⟩
  obtain ⟨av, vs, ev, hav, ee⟩ := hb.tup
  have b1 : vs[1]? = some (.int b.num) := by
    have := congrArg (fun l => l[1]?) ee
    simpa using this
  obtain ⟨xs, word, hxs, f0, f1, hwd⟩ := ha.flds
  refine ⟨v, rfl, .ref a, rfl, a, _, _, _, rfl, rfl, .of hxs, atI_nat (j := 1) f1, v, b, e.num, rfl, hb, by omega, by omega, fun w1 H1 s1 hw1 => ?_⟩
  unfold AF.Box.edL at q
  have hx1 := s1 _ _ hxs
  cases hf : b.pre.find? (AF.Box.byNum e.num) with
  | none =>
    rw [hf] at hw1 q
    have hw1 : w1 = .non := hw1
    subst hw1
    exact ⟨_, rfl, rfl, _, rfl, AF.iteP (decide_eq_true rfl) (q _ H1 s1 rfl)⟩
  | some c =>
    rw [hf] at hw1 q
    have hw1 : AF.BoxAt H1 w1 c := hw1
    obtain ⟨aw, ys, ew, haw, e7⟩ := hw1.tup
    have y0 : ys[0]? = some (.str c.kind) := by
      have := congrArg (fun l => l[0]?) e7
      simpa using this
    refine ⟨_, rfl, rfl, _, rfl, AF.iteN (by rw [ew]; intro z; cases (of_decide_eq_true z)) ?_⟩
    -- the walk, and the check
    have tail : (∀ n i x, e = .ins n i x → 0 ≤ i ∧ i ≤ 1000) → (∀ n, e = .rem n → n ≠ b.num) → (∀ (u : V) (H' : Hp), Same H H' → ResAt H' u (AF.Box.fin (AF.Box.lw e b)) → Q u H') →
        spLWith 9 [v, .ref a] H1 (fun u H2 => tRet (tIf (tB (tCall spLIsDoc [] E0 (tCons (tVar 3) tNil))) (tVar 3) (tC (V.str "refused"))) { nx := fun _ H' => Q V.non H', rt := Q } [some v, some (.ref a), some w1, some u] H2) E0 := fun h1 h2 qf => by
      have hsz := AF.Box.lw_size (e := e) hnd h2
      have hel : e.len ≤ 10 ∧ e.dep ≤ 3 := by
        cases e with
        | ins n i x => exact hsm.2.2
        | rem n => exact ⟨Nat.zero_le _, Nat.zero_le _⟩
        | rsz n g => exact ⟨Nat.zero_le _, Nat.zero_le _⟩
      refine ⟨v, b, a, e, rfl, hb.s s1, ha.s s1, by omega, by omega, h1, fun u H2 s2 hu => ?_⟩
      refine ⟨u, rfl, u, _, rfl, hu, by omega, by omega, fun k H3 s3 hk => ⟨k, rfl, ?_⟩⟩
      have s13 := (s1.trans s2).trans s3
      unfold AF.Box.fin at qf
      cases k with
      | true =>
        rw [if_pos (hk.mp rfl)] at qf
        exact iteT ⟨u, rfl, qf u H3 s13 (hu.s s3)⟩
      | false =>
        rw [if_neg (fun z => Bool.false_ne_true (hk.mpr z))] at qf
        exact iteF (qf _ H3 s13 rfl)
    refine ⟨.ref a, rfl, a, _, _, _, rfl, rfl, .of hx1, atI_nat (j := 0) f0, rfl, _, rfl, ?_⟩
    cases e with
    | rem n =>
      have hwd : word = "remove" := hwd
      subst hwd
      refine AF.iteN (by decide) ?_
      refine ⟨.ref a, rfl, a, _, _, _, rfl, rfl, .of hx1, atI_nat (j := 0) f0, rfl, _, rfl, AF.iteN (by decide) ?_⟩
      refine ⟨.ref a, rfl, a, _, _, _, rfl, rfl, .of hx1, atI_nat (j := 0) f0, rfl, _, rfl, AF.iteP (by decide) ?_⟩
      refine ⟨.ref a, rfl, a, _, _, _, rfl, rfl, .of hx1, atI_nat (j := 1) f1, v, rfl, av, _, _, _, ev, rfl, .of (s1 _ _ hav), atI_nat (j := 1) b1, rfl, _, rfl, ite2 (fun cc => ?_) (fun cc => ?_)⟩
      · have e1 : n = b.num := V.int.inj (of_decide_eq_true cc)
        cases c <;> (dsimp only at q; rw [if_pos e1] at q; exact q _ H1 s1 rfl)
      · have e1 : ¬ n = b.num := fun z => cc (decide_eq_true (congrArg V.int z))
        have qf : ∀ (u : V) (H' : Hp), Same H H' → ResAt H' u (AF.Box.fin (AF.Box.lw (.rem n) b)) → Q u H' := by
          cases c <;> (dsimp only at q; rw [if_neg e1] at q; exact q)
        refine ⟨v, rfl, .ref a, rfl, ?_⟩
        exact tail (fun n i x z => nomatch z) (fun n' z => by cases z; exact e1) qf
    | rsz n g =>
      obtain ⟨rfl, _⟩ := hwd
      refine AF.iteN (by decide) ?_
      refine ⟨.ref a, rfl, a, _, _, _, rfl, rfl, .of hx1, atI_nat (j := 0) f0, rfl, _, rfl, AF.iteN (by decide) ?_⟩
      refine ⟨.ref a, rfl, a, _, _, _, rfl, rfl, .of hx1, atI_nat (j := 0) f0, rfl, _, rfl, AF.iteN (by decide) ?_⟩
      have qf : ∀ (u : V) (H' : Hp), Same H H' → ResAt H' u (AF.Box.fin (AF.Box.lw (.rsz n g) b)) → Q u H' := by
        cases c <;> exact q
      refine ⟨v, rfl, .ref a, rfl, ?_⟩
      exact tail (fun n i x z => nomatch z) (fun n' z => nomatch z) qf
    | ins n i x =>
      obtain ⟨rfl, f2, _⟩ := hwd
      refine AF.iteP (by decide) ?_
      refine ⟨w1, rfl, aw, _, _, _, ew, rfl, .of haw, atI_nat (j := 0) y0, rfl, _, rfl, ?_⟩
      cases c with
      | blk m h => exact AF.iteP (decide_eq_true rfl) (q _ H1 s1 rfl)
      | scr m h ps =>
        refine AF.iteN (by intro z; cases (of_decide_eq_true z)) ?_
        dsimp only at q
        obtain ⟨aw', pp, us, ew', haw', epp, bpp⟩ := hw1.scr
        rw [ew] at ew'
        cases ew'
        have hul := bpp.len
        have hpl : ps.length ≤ 100 := by
          have h1 := AF.Box.parts_le (.scr m h ps)
          have h2 := AF.Box.pre_mem_len b _ (AF.Box.find_num_some hf).1
          simp only [AF.Box.parts] at h1
          omega
        refine ⟨.ref a, rfl, a, _, _, _, rfl, rfl, .of hx1, atI_nat (j := 0) f0, rfl, _, rfl, AF.iteP (by decide) ?_⟩
        refine ⟨.ref a, rfl, a, _, _, _, rfl, rfl, .of hx1, atI_nat (j := 2) f2, _, _, rfl, rfl, _, rfl, ite2 (fun c1 => ?_) (fun c1 => ?_)⟩
        · refine ⟨w1, rfl, aw, _, _, _, ew, rfl, .of haw', atI_nat (j := 3) rfl, pp, us, rfl, .inr (.of epp), _, _, rfl, rfl, _, rfl, ?_⟩
          by_cases c2 : i ≤ (us.length : Int)
          · have hr : 0 ≤ i ∧ i ≤ (ps.length : Int) := ⟨of_decide_eq_true c1, by omega⟩
            rw [if_pos hr] at q
            rw [decide_eq_true c2]
            refine AF.iteN (by decide) ?_
            refine ⟨.ref a, rfl, a, _, _, _, rfl, rfl, .of hx1, atI_nat (j := 0) f0, rfl, _, rfl, AF.iteN (by decide) ?_⟩
            refine ⟨v, rfl, .ref a, rfl, ?_⟩
            exact tail (fun n' i' x' z => by cases z; omega) (fun n' z => nomatch z) q
          · have hr : ¬ (0 ≤ i ∧ i ≤ (ps.length : Int)) := fun z => c2 (by omega)
            rw [if_neg hr] at q
            rw [decide_eq_false c2]
            exact AF.iteP rfl (q _ H1 s1 rfl)
        · have hr : ¬ (0 ≤ i ∧ i ≤ (ps.length : Int)) := fun z => c1 (decide_eq_true z.1)
          rw [if_neg hr] at q
          exact ⟨_, rfl, AF.iteP rfl (q _ H1 s1 rfl)⟩

end
end K08
namespace K08
open PySem PySem.Spec PyProof.Rows L2
section
variable {P : Program} {w : World} {K : PySem.W.Frag} {mg : Str → Option Value} {base : Heap}
/-! ### the law's offsets after an edit -/
def spLPlace : Sp := fun vs H Q _ => ∃ (v : V) (c : AF.Box) (n : Int), vs = [v, .int n] ∧ AF.BoxAt H v c ∧ c.isS = true ∧ Q (AF.optI (AF.Box.plc n 0 c.parts)) H
theorem ok_law_place (T : Tx K mg) : FnOk P w K mg base CX0 1 T.d_law_place.f T.d_law_place.fd ["scroller", "number"] spLPlace := by
  refine T.d_law_place.F.ok sc_law_place (fun vs H Q E h => ?_) (fun cdv A outer s H vs Q E hr h => ?_)
  · obtain ⟨_, _, _, rfl, _⟩ := h
    rfl
  obtain ⟨v, c, n, rfl, hb, hS, q⟩ := h
  refine ⟨_, (pss_cons (ps_set (i := 2) sc_law_place.nd rfl (Or.inl rfl) pe_int)
      (pss_cons (ps_for PassesOwn.never rfl (AF.piT K rfl (pe_ix (AF.ixT K rfl) (pv 0) pe_int (fun _ _ => rfl))) (pg_name (i := 3) sc_law_place.nd rfl (Or.inl rfl))
      (pss_cons (ps_if (pt_cmpR op_eq (pe_ix (AF.ixT K rfl) (pv 3) pe_int (fun _ _ => rfl)) (pv 1) (nomark _))
      (pss_one (ps_ret (pv 2)))
      pss_nil)
      (pss_one (ps_set (i := 2) sc_law_place.nd rfl (Or.inl rfl) (pe_op op_add (pv 2) (pe_ix (AF.ixT K rfl) (pv 3) pe_int (fun _ _ => rfl)))))))
      (pss_one (ps_ret pe_non)))), ?_⟩
  obtain ⟨m, h, ps, rfl⟩ : ∃ m h ps, c = .scr m h ps := by
    cases c with
    | blk _ _ => cases hS
    | scr m h ps => exact ⟨m, h, ps, rfl⟩
  obtain ⟨a, p, ws, rfl, h1, h2, bp⟩ := hb.scr
  have q : Q (AF.optI (AF.Box.plc n 0 ps)) H := q
  have hw := bp.len
  refine ⟨.ref a, rfl, a, _, _, _, rfl, rfl, .of h1, atI_nat (j := 3) rfl, p, rfl, ⟨ws, .of h2⟩, ?_⟩
  refine for_tup (xs := ws) (Pv := fun i σ H3 => ∃ (x3 : Option V), σ = [some (.ref a), some (.int n), some (.int (AF.Box.sumH (ps.take i))), x3] ∧ H3 = H ∧ AF.Box.plc n (AF.Box.sumH (ps.take i)) (ps.drop i) = AF.Box.plc n 0 ps) ?_ ?_ ?_ ?_
  · exact ⟨none, rfl, rfl, by simp [AF.Box.sumH]⟩
  · rintro i σ H3 _ ⟨_, _, rfl, _⟩
    exact .of h2
  · rintro i y σ H3 hy ⟨x3, rfl, rfl, hp⟩
    obtain ⟨g, hg, by_⟩ := bp.get hy
    obtain ⟨ay, ys, ey, hay, ee⟩ := by_.tup
    have y1 : ys[1]? = some (.int g.num) := by
      have := congrArg (fun l => l[1]?) ee
      simpa using this
    have y2 : ys[2]? = some (.int g.ht) := by
      have := congrArg (fun l => l[2]?) ee
      simpa using this
    rw [AF.drop_cons hg] at hp
    simp only [AF.Box.plc] at hp
    refine ⟨y, rfl, ay, _, _, _, ey, rfl, .of hay, atI_nat (j := 1) y1, .int n, rfl, rfl, _, rfl, ite2 (fun c1 => ?_) (fun c1 => ?_)⟩
    · have e : g.num = n := V.int.inj (of_decide_eq_true c1)
      rw [if_pos e] at hp
      rw [← hp] at q
      exact ⟨_, rfl, q⟩
    · have e : ¬ g.num = n := fun z => c1 (decide_eq_true (congrArg V.int z))
      rw [if_neg e] at hp
      refine ⟨_, rfl, y, rfl, ay, _, _, _, ey, rfl, .of hay, atI_nat (j := 2) y2, _, _, rfl, rfl, some y, ?_, rfl, ?_⟩
      · rw [AF.Box.sumH_take_succ hg]
        rfl
      · rw [AF.Box.sumH_take_succ hg]
        exact hp
  · rintro σ H3 ⟨x3, rfl, rfl, hp⟩
    rw [hw, List.drop_length] at hp
    rw [← hp] at q
    exact q
def spLAnchor : Sp := fun vs H Q _ => ∃ (v : V) (c : AF.Box) (z : Int), vs = [v, .int z] ∧ AF.BoxAt H v c ∧ c.isS = true ∧ ∀ H' : Hp, Same H H' → Q (AF.optI (AF.Box.anchorN c z)) H'
theorem ok_law_anchor (T : Tx K mg) : FnOk P w K mg base CX0 1 T.d_law_anchor.f T.d_law_anchor.fd ["scroller", "offset"] spLAnchor := by
  refine T.d_law_anchor.F.ok sc_law_anchor (fun vs H Q E h => ?_) (fun cdv A outer s H vs Q E hr h => ?_)
  · obtain ⟨_, _, _, rfl, _⟩ := h
    rfl
  obtain ⟨v, c, z, rfl, hb, hS, q⟩ := h
  refine ⟨_, (pss_cons (ps_set (i := 2) sc_law_anchor.nd rfl (Or.inl rfl) (pv 1))
      (pss_cons (ps_for PassesOwn.never rfl (AF.piT K rfl (pe_ifExp (pt_cmpR op_gt (pv 1) pe_int (nomark _)) (pe_ix (AF.ixT K rfl) (pv 0) pe_int (fun _ _ => rfl)) (pe_tup pa_nil))) (pg_name (i := 3) sc_law_anchor.nd rfl (Or.inl rfl))
      (pss_cons (ps_if (pt_cmpR op_lt (pv 2) (pe_ix (AF.ixT K rfl) (pv 3) pe_int (fun _ _ => rfl)) (nomark _))
      (pss_one (ps_ret (pe_ix (AF.ixT K rfl) (pv 3) pe_int (fun _ _ => rfl))))
      pss_nil)
      (pss_one (ps_set (i := 2) sc_law_anchor.nd rfl (Or.inl rfl) (pe_op op_sub (pv 2) (pe_ix (AF.ixT K rfl) (pv 3) pe_int (fun _ _ => rfl)))))))
      (pss_one (ps_ret pe_non)))), ?_⟩
  obtain ⟨m, h, ps, rfl⟩ : ∃ m h ps, c = .scr m h ps := by
    cases c with
    | blk _ _ => cases hS
    | scr m h ps => exact ⟨m, h, ps, rfl⟩
  obtain ⟨a, p, ws, rfl, h1, h2, bp⟩ := hb.scr
  unfold AF.Box.anchorN at q
  have hw := bp.len
  refine ⟨_, rfl, _, rfl, _, _, rfl, rfl, _, rfl, ite2 (fun c1 => ?_) (fun c1 => ?_)⟩
  · have hz : z > 0 := of_decide_eq_true c1
    rw [if_pos hz] at q
    have q : ∀ H' : Hp, Same H H' → Q (AF.optI (AF.Box.anc z ps)) H' := q
    refine ⟨.ref a, rfl, a, _, _, _, rfl, rfl, .of h1, atI_nat (j := 3) rfl, p, rfl, ⟨ws, .of h2⟩, ?_⟩
    refine for_tup (xs := ws) (Pv := fun i σ H3 => ∃ (x3 : Option V), σ = [some (.ref a), some (.int z), some (.int (z - AF.Box.sumH (ps.take i))), x3] ∧ H3 = H ∧ AF.Box.anc (z - AF.Box.sumH (ps.take i)) (ps.drop i) = AF.Box.anc z ps) ?_ ?_ ?_ ?_
    · refine ⟨none, ?_, rfl, by simp [AF.Box.sumH]⟩
      simp [AF.Box.sumH]
      rfl
    · rintro i σ H3 _ ⟨_, _, rfl, _⟩
      exact .of h2
    · rintro i y σ H3 hy ⟨x3, rfl, rfl, hp⟩
      obtain ⟨g, hg, by_⟩ := bp.get hy
      obtain ⟨ay, ys, ey, hay, ee⟩ := by_.tup
      have y1 : ys[1]? = some (.int g.num) := by
        have := congrArg (fun l => l[1]?) ee
        simpa using this
      have y2 : ys[2]? = some (.int g.ht) := by
        have := congrArg (fun l => l[2]?) ee
        simpa using this
      rw [AF.drop_cons hg] at hp
      simp only [AF.Box.anc] at hp
      have es : z - AF.Box.sumH (ps.take (i + 1)) = z - AF.Box.sumH (ps.take i) - g.ht := by
        rw [AF.Box.sumH_take_succ hg]
        omega
      refine ⟨_, rfl, y, rfl, ay, _, _, _, ey, rfl, .of hay, atI_nat (j := 2) y2, _, _, rfl, rfl, _, rfl, ite2 (fun c2 => ?_) (fun c2 => ?_)⟩
      · rw [if_pos (of_decide_eq_true c2)] at hp
        have := q H3 (.refl _)
        rw [← hp] at this
        exact ⟨y, rfl, ay, _, _, _, ey, rfl, .of hay, atI_nat (j := 1) y1, this⟩
      · rw [if_neg (fun h => c2 (decide_eq_true h))] at hp
        refine ⟨_, rfl, y, rfl, ay, _, _, _, ey, rfl, .of hay, atI_nat (j := 2) y2, _, _, rfl, rfl, some y, ?_, rfl, ?_⟩
        · rw [es]
          rfl
        · rw [es]
          exact hp
    · rintro σ H3 ⟨x3, rfl, rfl, hp⟩
      rw [hw, List.drop_length] at hp
      have := q H3 (.refl _)
      rw [← hp] at this
      exact this
  · rw [if_neg (fun h => c1 (decide_eq_true h))] at q
    refine ⟨Nat.zero_le _, fun p2 np2 => ⟨p2, rfl, ⟨[], .of upd_same⟩, ?_⟩⟩
    refine for_tup (xs := []) (Pv := fun i σ H3 => H3 = upd H p2 (.tup ([] : List V))) rfl ?_ ?_ ?_
    · rintro i σ H3 _ rfl
      exact .of upd_same
    · rintro i y σ H3 hy _
      cases hy
    · rintro σ H3 rfl
      exact q _ (AF.same_new np2 _)
def spLAfter : Sp := fun vs H Q _ => ∃ (v lv : V) (b l : AF.Box) (o : Addr) (ol : List (Int × Int)), vs = [v, .ref o, lv] ∧ AF.BoxAt H v b ∧ AF.BoxAt H lv l ∧ (b.pre.map AF.Box.num).Nodup ∧ (l.pre.map AF.Box.num).Nodup ∧ b.depth < 9 ∧ l.depth < 9 ∧ b.pre.length ≤ 1000 ∧ l.pre.length ≤ 1000 ∧
  H o = some (.dK (AF.dI ol)) ∧ ol.map (·.1) = (b.pre.filter AF.Box.isS).map AF.Box.num ∧
  ∀ (d : Addr) (H' : Hp), Same H H' → H d = none → H' d = some (.dK (AF.dI (AF.Box.aft b ol l))) → Q (.ref d) H'
theorem ok_law_after (T : Tx K mg) : FnOk P w K mg base CX0 11 T.d_law_after.f T.d_law_after.fd ["document", "offsets", "later"] spLAfter := by
  have G_law_all := ok_law_all (P := P) (w := w) (base := base) T 9
  have G_law_named := ok_law_named (P := P) (w := w) (base := base) T
  have G_law_anchor := ok_law_anchor (P := P) (w := w) (base := base) T
  have G_law_place := ok_law_place (P := P) (w := w) (base := base) T
  have G_law_range := ok_law_range (P := P) (w := w) (base := base) T
  refine T.d_law_after.F.ok sc_law_after (fun vs H Q E h => ?_) (fun cdv A outer s H vs Q E hr h => ?_)
  · obtain ⟨_, _, _, _, _, _, rfl, _⟩ := h
    rfl
  obtain ⟨v, lv, b, l, o, ol, rfl, hb, hl, ndb, ndl, hbd, hld, hbl, hll, ho, hk, q⟩ := h
  refine ⟨_, (pss_cons (ps_set (i := 3) sc_law_after.nd rfl (Or.inl rfl) pe_dnewK)
      (pss_cons (ps_for PassesOwn.never rfl (AF.piL K rfl (AF.cal T.d_law_all G_law_all (hr.mono (by omega)) (pa_cons (pv 2) pa_nil))) (pg_name (i := 4) sc_law_after.nd rfl (Or.inl rfl))
      (pss_one (ps_if (pt_cmpR op_eq (pe_ix (AF.ixT K rfl) (pv 4) pe_int (fun _ _ => rfl)) pe_str (nomark _))
      (pss_cons (ps_set (i := 5) sc_law_after.nd rfl (Or.inl rfl) (pe_dget2 (hu_of hr) (pv 1) (pe_ix (AF.ixT K rfl) (pv 4) pe_int (fun _ _ => rfl)) pe_int ⟨by rfl, by rfl, by rfl, by rfl⟩))
      (Evl.pss_cut (ps_if (pt_cmp (pc_din (hu_of hr) (pe_ix (AF.ixT K rfl) (pv 4) pe_int (fun _ _ => rfl)) (pv 1)))
      (pss_cons (ps_set (i := 6) sc_law_after.nd rfl (Or.inl rfl) (AF.cal T.d_law_named G_law_named (hr.mono (by omega)) (pa_cons (pv 0) (pa_cons (pe_ix (AF.ixT K rfl) (pv 4) pe_int (fun _ _ => rfl)) pa_nil))))
      (pss_cons (ps_set (i := 7) sc_law_after.nd rfl (Or.inl rfl) (AF.cal T.d_law_anchor G_law_anchor (hr.mono (by omega)) (pa_cons (pv 6) (pa_cons (pv 5) pa_nil))))
      (pss_one (ps_if (PW.pt (pw_and (pt_cmpR op_notN (pv 7) pe_non (nomark _)) (pw_and1 (pt_cmpR op_notN (AF.cal T.d_law_place G_law_place (hr.mono (by omega)) (pa_cons (pv 4) (pa_cons (pv 7) pa_nil))) pe_non (nomark _)))))
      (pss_one (ps_set (i := 5) sc_law_after.nd rfl (Or.inl rfl) (pe_op op_sub (pe_op op_add (pv 5) (AF.cal T.d_law_place G_law_place (hr.mono (by omega)) (pa_cons (pv 4) (pa_cons (pv 7) pa_nil)))) (AF.cal T.d_law_place G_law_place (hr.mono (by omega)) (pa_cons (pv 6) (pa_cons (pv 7) pa_nil))))))
      pss_nil))))
      pss_nil)
      (pss_one (ps_dput (hu_of hr) (pv 3) (pe_ix (AF.ixT K rfl) (pv 4) pe_int (fun _ _ => rfl)) (pe_callB (call_max2 rfl) (by rfl) T.z_max (by decide +kernel) (pa_cons pe_int (pa_cons (pe_callB (call_min2 rfl) (by rfl) T.z_min (by decide +kernel) (pa_cons (pv 5) (pa_cons (AF.cal T.d_law_range G_law_range (hr.mono (by omega)) (pa_cons (pv 4) pa_nil)) pa_nil))) pa_nil))) rfl))))
      pss_nil)))
      (pss_one (ps_ret (pv 3))))), ?_⟩
  intro d nd
  have s0 : Same H (upd H d (.dK [])) := AF.same_new nd _
  refine ⟨lv, rfl, lv, l, rfl, hl.s s0, hld, hll, fun lst ws H1 s1 nl el bw => ?_⟩
  refine ⟨lst, rfl, ⟨ws, .of el⟩, ?_⟩
  have hw := bw.len
  have s01 := s0.trans s1
  refine for_list (xs := ws) (Pv := fun i σ H3 => ∃ (x4 x5 x6 x7 : Option V), σ = [some v, some (.ref o), some lv, some (.ref d), x4, x5, x6, x7] ∧ Same H H3 ∧ AF.KeepT H1 H3 ∧ H3 lst = some (.lst ws) ∧
      H3 d = some (.dK (AF.dI (((l.pre.take i).filter AF.Box.isS).map fun s => (s.num, s.clamp (AF.Box.newOff b ol s)))))) ?_ ?_ ?_ ?_
  · exact ⟨none, none, none, none, rfl, s01, .refl _, el, s1 _ _ upd_same⟩
  · rintro i σ H3 _ ⟨_, _, _, _, _, _, _, e, _⟩
    exact .of e
  · rintro i u σ H3 hu ⟨x4, x5, x6, x7, rfl, s3, k3, el3, ed3⟩
    obtain ⟨g, hg, bu⟩ := bw.get hu
    have bu := bu.k k3
    have hgm : g ∈ l.pre := List.mem_of_getElem? hg
    have hi : i < l.pre.length := (List.getElem?_eq_some_iff.mp hg).1
    have et := AF.take_snoc hg
    obtain ⟨au, xs, eu, hau, ee⟩ := bu.tup
    have u0 : xs[0]? = some (.str g.kind) := by
      have := congrArg (fun l => l[0]?) ee
      simpa using this
    have u1 : xs[1]? = some (.int g.num) := by
      have := congrArg (fun l => l[1]?) ee
      simpa using this
    have nld : lst ≠ d := ne_of el3 ed3 (fun z => nomatch z)
    refine ⟨u, rfl, au, _, _, _, eu, rfl, .of hau, atI_nat (j := 0) u0, rfl, _, rfl, ?_⟩
    cases hS : g.isS with
    | false =>
      have hkd : ¬ g.kind = "scroller" := by
        cases g with
        | blk _ _ =>
          intro z
          cases z
        | scr _ _ _ => cases hS
      refine AF.iteN (fun z => hkd (V.str.inj (of_decide_eq_true z))) ⟨_, _, _, _, rfl, s3, k3, el3, ?_⟩
      rw [et, List.filter_append]
      simpa [hS] using ed3
    | true =>
      have hkd : g.kind = "scroller" := by
        cases g with
        | blk _ _ => cases hS
        | scr _ _ _ => rfl
      refine AF.iteP (decide_eq_true (by rw [hkd])) ?_
      have hgp : g.parts.length ≤ 1000 := by
        have h1 := AF.Box.parts_le g
        have h2 := AF.Box.pre_mem_len l g hgm
        omega
      have hgo := AF.DGet.dI (n := g.num) (s3 _ _ ho)
      have hz0 := AF.getD_int (AF.getI ol g.num) 0
      refine ⟨.ref o, rfl, o, rfl, .inl ⟨_, .inl (s3 _ _ ho)⟩, u, rfl, au, _, _, _, eu, rfl, .of hau, atI_nat (j := 1) u1, _, hgo, ?_⟩
      rw [hz0]
      -- the end of a turn
      refine ⟨fun σ' H' => ∃ (x6 x7 : Option V), σ' = [some v, some (.ref o), some lv, some (.ref d), some u, some (.int (AF.Box.newOff b ol g)), x6, x7] ∧ Same H3 H', ?_, ?_⟩
      · cases hq : AF.getI ol g.num with
        | none =>
          rw [hq] at hgo
          have hn : AF.Box.newOff b ol g = 0 := by
            unfold AF.Box.newOff
            rw [hq]
          refine ⟨u, rfl, au, _, _, _, eu, rfl, .of hau, atI_nat (j := 1) u1, .ref o, rfl, o, _, rfl, hgo, _, rfl, iteF ⟨x6, x7, ?_, .refl _⟩⟩
          rw [hn]
          rfl
        | some z =>
          rw [hq] at hgo
          have hmem : g.num ∈ ol.map (·.1) := by
            cases (inferInstance : Decidable (g.num ∈ ol.map (·.1))) with
            | isTrue h => exact h
            | isFalse h =>
              rw [AF.getI_none.mpr h] at hq
              cases hq
          rw [hk] at hmem
          obtain ⟨c, hcf, ecn⟩ := List.mem_map.mp hmem
          obtain ⟨hcm, hcS⟩ := List.mem_filter.mp hcf
          have hfc := AF.Box.find_num ndb hcm
          rw [ecn] at hfc
          have hn : AF.Box.newOff b ol g = z + AF.Box.shf c g z := by
            unfold AF.Box.newOff
            rw [hq, hfc]
          refine ⟨u, rfl, au, _, _, _, eu, rfl, .of hau, atI_nat (j := 1) u1, .ref o, rfl, o, _, rfl, hgo, _, rfl, iteT ?_⟩
          refine ⟨v, rfl, u, rfl, au, _, _, _, eu, rfl, .of hau, atI_nat (j := 1) u1, v, b, g.num, rfl, hb.s s3, hbd, hbl, fun w1 H4 s4 hw1 => ?_⟩
          rw [hfc] at hw1
          have hw1 : AF.BoxAt H4 w1 c := hw1
          refine ⟨w1, rfl, .int z, rfl, w1, c, z, rfl, hw1, hcS, fun H5 s5 => ?_⟩
          have s45 := s4.trans s5
          unfold AF.Box.shf at hn
          cases hanc : AF.Box.anchorN c z with
          | none =>
            rw [hanc] at hn
            refine ⟨_, rfl, rfl, _, rfl, AF.iteN (by decide) ⟨some w1, some .non, ?_, s45⟩⟩
            rw [hn, Int.add_zero]
            rfl
          | some n =>
            rw [hanc] at hn
            dsimp only at hn
            have hnc : n ∈ c.parts.map AF.Box.num := by
              unfold AF.Box.anchorN at hanc
              split at hanc
              · exact AF.Box.anc_mem _ _ _ hanc
              · cases hanc
            obtain ⟨y2, hy2⟩ := AF.Box.plc_some c.parts 0 hnc
            refine ⟨_, rfl, rfl, _, rfl, AF.iteP (by rfl) ?_⟩
            refine ⟨u, rfl, .int n, rfl, u, g, n, rfl, bu.s s45, hS, ?_⟩
            cases hpn : AF.Box.plc n 0 g.parts with
            | none =>
              rw [hpn] at hn
              refine ⟨rfl, _, rfl, AF.iteN (by decide) ⟨some w1, some (.int n), ?_, s45⟩⟩
              rw [hn, Int.add_zero]
              rfl
            | some y =>
              rw [hpn, hy2] at hn
              refine ⟨rfl, _, rfl, AF.iteP (by rfl) ?_⟩
              refine ⟨_, rfl, u, rfl, .int n, rfl, u, g, n, rfl, bu.s s45, hS, ?_⟩
              rw [hpn]
              refine ⟨_, _, rfl, rfl, w1, rfl, .int n, rfl, w1, c, n, rfl, hw1.s s5, hcS, ?_⟩
              rw [hy2]
              refine ⟨_, _, rfl, rfl, some w1, some (.int n), ?_, s45⟩
              have e : z + y - y2 = AF.Box.newOff b ol g := by
                rw [hn]
                show z + y - y2 = z + (y - y2)
                omega
              rw [← e]
              rfl
      · rintro σ H6 ⟨x6, x7, rfl, s6⟩
        have s36 := s3.trans s6
        refine ⟨_, rfl, u, rfl, u, g, rfl, bu.s s6, hS, hgp, fun H7 s7 => ?_⟩
        have ed7 := s7 _ _ (s6 _ _ ed3)
        have hle : (((l.pre.take i).filter AF.Box.isS).map fun s => (s.num, s.clamp (AF.Box.newOff b ol s))).length ≤ 1000 := by
          rw [List.length_map]
          have h1 : ((l.pre.take i).filter AF.Box.isS).length ≤ (l.pre.take i).length := List.length_filter_le ..
          rw [List.length_take] at h1
          omega
        have hnew : g.num ∉ (((l.pre.take i).filter AF.Box.isS).map fun s => (s.num, s.clamp (AF.Box.newOff b ol s))).map (·.1) := fun m => by
          rw [List.map_map] at m
          obtain ⟨c', hc', e'⟩ := List.mem_map.mp m
          exact AF.Box.nodup_take ndl hg (List.mem_map.mpr ⟨c', (List.mem_filter.mp hc').1, e'⟩)
        have hput := AF.DPut.dI (n := g.num) (z := g.clamp (AF.Box.newOff b ol g)) ed7 (small1000 hle)
        rw [AF.putI_new hnew] at hput
        refine ⟨_, _, rfl, 0, _, rfl, .ref d, rfl, u, rfl, au, _, _, _, eu, rfl, .of (s7 _ _ (s6 _ _ hau)), atI_nat (j := 1) u1, d, _, rfl, hput, ?_⟩
        refine ⟨_, _, _, _, rfl, AF.same_upd (s36.trans s7) nd _, (k3.trans (AF.Same.keepT (s6.trans s7))).trans (AF.keepT_updK ed7 _), ?_, ?_⟩
        · rw [upd_ne nld]
          exact s7 _ _ (s6 _ _ el3)
        · rw [upd_same, et, List.filter_append, List.map_append]
          simp [hS]
  · rintro σ H3 ⟨x4, x5, x6, x7, rfl, s3, k3, el3, ed3⟩
    rw [hw, List.take_length] at ed3
    exact ⟨.ref d, rfl, q d H3 s3 nd ed3⟩

end
end K08
namespace K08
open PySem PySem.Spec PyProof.Rows L2
section
variable {P : Program} {w : World} {K : PySem.W.Frag} {mg : Str → Option Value} {base : Heap}
/-! ### the law's dicts -/
def spSameDict (K : PySem.W.Frag) (n : Nat) : Sp := fun vs H Q _ => ∃ (a c : Addr) (kvs lvs : List (Key × V)) (ks js : List Int), vs = [.ref a, .ref c] ∧ H a = some (.dK kvs) ∧ H c = some (.dK lvs) ∧ a ≠ c ∧
  kvs.map (·.1) = ks.map Sum.inl ∧ lvs.map (·.1) = js.map Sum.inl ∧ ks.Perm js ∧ lvs.length ≤ 1000 ∧
  (∀ p ∈ lvs, ∃ v d, valV kvs p.1 = some v ∧ valV lvs p.1 = some p.2 ∧ Dp K H v d ∧ Dp K H p.2 d ∧ AF.dd d < n ∧ AF.wd d ≤ 1000) ∧ ∀ H' : Hp, Same H H' → Q (.bl true) H'
theorem ok_law_same_dict (T : Tx K mg) {n : Nat} : FnOk P w K mg base CX0 (n + 1) T.d_law_same_dict.f T.d_law_same_dict.fd ["actual", "due"] (spSameDict K n) := by
  have G_law_same := ok_law_same (P := P) (w := w) (base := base) T n
  refine T.d_law_same_dict.F.ok sc_law_same_dict (fun vs H Q E h => ?_) (fun cdv A outer s H vs Q E hr h => ?_)
  · obtain ⟨_, _, _, _, _, _, rfl, _⟩ := h
    rfl
  obtain ⟨a, c, kvs, lvs, ks, js, rfl, ha, hc, nac, ek, ej, pm, hlen, hall, q⟩ := h
  refine ⟨_, (pss_cons (ps_if (PW.pt (pw_or (pt_not (pt_val (pe_callB (AF.isiK K rfl) (by rfl) T.z_isinstance (by decide +kernel) (pa_cons (pv 0) (pa_cons (pe_bltn (v := .ty "dict") (by rfl) T.z_dict (by decide +kernel) rfl) pa_nil))))) (pw_or1 (pt_cmpR (AF.neK K rfl hr.units) (pe_callB (AF.sortedK K rfl) (by rfl) T.z_sorted (by decide +kernel) (pa_cons (pe_callTy (call_listD rfl) (by rfl) T.z_list (by decide +kernel) (pa_cons (pv 0) pa_nil)) pa_nil)) (pe_callB (AF.sortedK K rfl) (by rfl) T.z_sorted (by decide +kernel) (pa_cons (pe_callTy (call_listD rfl) (by rfl) T.z_list (by decide +kernel) (pa_cons (pv 1) pa_nil)) pa_nil)) (nomark _)))))
      (pss_one (ps_ret pe_bl))
      pss_nil)
      (pss_one (ps_ret (pe_callB (AF.allK K rfl rfl) (by rfl) T.z_all (by decide +kernel) (pa_cons (pe_lock (pe_lc (own := [("key", 2)]) (g := gName 2) rfl sc_law_same_dict.nd (pi_keys (pv 1)) (blkOk_by (own := [("key", 2)]) (N := ["actual", "due", "key"]) (sc := defScope s_law_same_dict) (by decide +kernel)) (fun _ _ _ _ _ => (pg_name (i := 2) sc_law_same_dict.nd rfl (Or.inl rfl))) (fun _ _ _ _ _ => pts_nil) (fun _ _ _ _ _ => (AF.cal T.d_law_same G_law_same (hr.mono (by omega)) (pa_cons (pe_dget (hu_of hr) (pv 0) (pv 2) (fun _ _ => rfl)) (pa_cons (pe_dget (hu_of hr) (pv 1) (pv 2) (fun _ _ => rfl)) pa_nil)))))) pa_nil))))), ?_⟩
  refine ⟨.ref a, rfl, .ref a, _, _, _, _, rfl, .ty _, .base (.dK ha), AF.kit_di, _, rfl, ?_⟩
  refine AF.iteN (by simp) ?_
  have el1 : kvs.map (fun kv => kV kv.1) = ks.map V.int := by
    have := congrArg (List.map kV) ek
    rw [List.map_map, List.map_map] at this
    exact this
  have el2 : lvs.map (fun kv => kV kv.1) = js.map V.int := by
    have := congrArg (List.map kV) ej
    rw [List.map_map, List.map_map] at this
    exact this
  refine ⟨.ref a, rfl, a, kvs, rfl, .inl ha, fun x nx => ?_⟩
  have s1 : Same H (upd H x (.lst (kvs.map fun kv => kV kv.1))) := AF.same_new nx _
  refine ⟨x, ks, rfl, .of (by rw [el1]; exact upd_same), fun ns1 y pm1 st1 ny => ?_⟩
  have s2 := s1.trans (AF.same_new ny (.lst (ns1.map V.int)))
  refine ⟨.ref c, rfl, c, lvs, rfl, .inl (s2 _ _ hc), fun z nz => ?_⟩
  have s3 : Same (upd (upd H x (.lst (kvs.map fun kv => kV kv.1))) y (.lst (ns1.map V.int))) _ := AF.same_new nz (.lst (lvs.map fun kv => kV kv.1))
  refine ⟨z, js, rfl, .of (by rw [el2]; exact upd_same), fun ns2 u pm2 st2 nu => ?_⟩
  have s4 := AF.same_new nu (.lst (ns2.map V.int))
  have e12 : ns1 = ns2 := PySem.W.ksm_same (pm1.trans (pm.trans pm2.symm)) st1 st2
  subst e12
  have sh : SeqAt.shaped (.list (ns1.map PyData.int)) = true := AF.shaped_ints ns1
  refine ⟨_, _, AF.dpIntL (.of (s4 _ _ (s3 _ _ upd_same))), AF.dpIntL (.of upd_same), sh, sh, _, rfl, ?_⟩
  have er : PyData.eqv (.list (ns1.map PyData.int)) (.list (ns1.map PyData.int)) = true := SeqAt.eqv_refl _ (SeqAt.canLay_of_shaped sh)
  refine AF.iteN (by rw [er]; simp) ?_
  have sH := s2.trans (s3.trans s4)
  -- the walk over the keys, the dict locked meanwhile
  refine ⟨c, .dK lvs, sH _ _ hc, trivial, fun od => ?_⟩
  have kS := AF.keepS_lock (od := od) (sH _ _ hc)
  refine ⟨.ref c, rfl, c, od, rfl, .inl ⟨lvs, upd_same, fun D nD => ?_⟩⟩
  refine lc_it walk_keys (Pv := fun i H3 => AF.KeepL (AF.lockH (upd (upd (upd (upd H x (.lst (kvs.map fun kv => kV kv.1))) y (.lst (ns1.map V.int))) z (.lst (lvs.map fun kv => kV kv.1))) u (.lst (ns1.map V.int))) c od lvs) H3 ∧
    H3 D = some (.lst ((List.replicate i true).map V.bl))) ?_ ?_ ?_ ?_
  · exact ⟨AF.same_new nD _, upd_same⟩
  · rintro i H3 _ ⟨sm, _⟩
    exact sm _ _ upd_same
  · rintro i k0 H3 H4 hi ⟨sm, eD⟩ ⟨rfl, k, v, hk, rfl⟩
    have hm : (k, v) ∈ lvs := List.mem_of_getElem? hk
    obtain ⟨v1, d, g1, g2, d1, d2, hd, hw⟩ := hall _ hm
    have eA : H4 a = some (.dK kvs) := sm _ _ (by
      show (upd _ c _) a = _
      rw [upd_ne nac]
      exact sH _ _ ha)
    have eC : H4 c = some (.frz od (.dK lvs)) := sm _ _ upd_same
    have dk : AF.KeepS H H4 := fun b o hb h => sm _ _ (kS _ _ hb (sH _ _ h))
    refine ⟨rfl, .ref a, rfl, kV k, rfl, a, v1, rfl, .inl ⟨kvs, k, .inl eA, rfl, g1.symm⟩, .ref c, rfl, kV k, rfl, c, v, rfl, .inl ⟨lvs, k, .inr ⟨od, eC⟩, rfl, g2.symm⟩, ?_⟩
    refine ⟨v1, v, d, rfl, AF.Dp.keep dk _ _ d1, AF.Dp.keep dk _ _ d2, hd, hw, fun H5 s5 => ⟨_, s5 _ _ eD, ?_, AF.same_upd (sm.trans s5) nD _, ?_⟩⟩
    · rw [List.length_map, List.length_replicate]
      exact Nat.lt_of_le_of_lt (by omega) AF.sl1000
    · rw [upd_same, List.replicate_succ', List.map_append]
      rfl
  · rintro H3 ⟨sm, eD⟩
    refine ⟨sm _ _ upd_same, D, List.replicate lvs.length true, rfl, .of ?_, ?_⟩
    · rw [upd_ne (fun e => by rw [e] at nD; rw [upd_same] at nD; cases nD)]
      exact eD
    · have e : (List.replicate lvs.length true).all id = true := by simp
      rw [e]
      exact q _ (sH.trans (AF.lock_back (sH _ _ hc) sm))
def spZeros : Sp := fun vs H Q _ => ∃ (c : Addr) (l : List (Int × Int)), vs = [.ref c] ∧ H c = some (.dK (AF.dI l)) ∧ l.length ≤ 1000 ∧ (l.map (·.1)).Nodup ∧
  ∀ (d : Addr) (H' : Hp), Same H H' → H d = none → H' d = some (.dK (AF.dI (l.map fun p => (p.1, 0)))) → Q (.ref d) H'

theorem Offs.nodup {b : AF.Box} {ol : List (Int × Int)} (h : Offs b ol) (hn : (b.pre.map AF.Box.num).Nodup) : (ol.map (·.1)).Nodup := by
  rw [h.1]
  exact hn.sublist ((List.filter_sublist).map _)
theorem Doc.rng {b : AF.Box} (dc : AF.Box.Doc b) : ∀ c ∈ b.pre, c.rng ≤ 80 := by
  intro c hc
  have hk := dc.kids c hc
  have hs : AF.Box.sumH c.parts ≤ 20 * (c.parts.length : Int) := by
    have key : ∀ l : List AF.Box, (∀ d ∈ l, d.ht ≤ 20) → AF.Box.sumH l ≤ 20 * (l.length : Int) := by
      intro l
      induction l with
      | nil => intro _; simp [AF.Box.sumH]
      | cons d r ih =>
        intro h
        have h1 := h d List.mem_cons_self
        have h2 := ih fun e he => h e (List.mem_cons_of_mem _ he)
        rw [AF.Box.sumH_cons, List.length_cons]
        omega
    exact key _ fun d hd => (dc.hts d (AF.Box.parts_in hc hd)).2
  have h0 := (dc.hts c hc).1
  unfold AF.Box.rng
  split <;> omega

end
end K08
namespace K08
open PySem PySem.Spec PyProof.Rows L2
section
variable {P : Program} {w : World} {K : PySem.W.Frag} {mg : Str → Option Value} {base : Heap}
theorem edR_doc {b l : AF.Box} {e : AF.Box.Ed} (h : AF.Box.edR b e = .ok l) : AF.Box.IsDoc l := by
  rw [AF.Box.edR_edP] at h
  cases hP : AF.Box.edP b e with
  | ok l' =>
    rw [hP] at h
    have h : AF.Box.fin l' = .ok l := h
    unfold AF.Box.fin at h
    split at h
    · cases h
      assumption
    · cases h
  | no =>
    rw [hP] at h
    cases h
  | block =>
    rw [hP] at h
    cases h
  | bad =>
    rw [hP] at h
    cases h
theorem resPy_small {r : AF.Box.Res} (h : ∀ l, r = .ok l → AF.Box.IsDoc l) : AF.dd (resPy r) < 10 ∧ AF.wd (resPy r) ≤ 1000 := by
  cases r with
  | ok l =>
    have hd := h l rfl
    have h1 := AF.dd_py l
    have h2 := AF.Box.wd_py l
    have h3 := hd.d
    have h4 := hd.l
    simp only [resPy]
    omega
  | no => exact ⟨by simp [resPy, AF.dd], by simp [resPy, AF.wd]⟩
  | block => exact ⟨by simp [resPy, AF.dd], by simp [resPy, AF.wd]⟩
  | bad => exact ⟨by simp [resPy, AF.dd], by simp [resPy, AF.wd]⟩
theorem edR_root {b : AF.Box} (nd : (b.pre.map AF.Box.num).Nodup) : AF.Box.edR b (.rem b.num) = .bad := by
  unfold AF.Box.edR
  dsimp only
  rw [AF.Box.find_num nd (AF.Box.self_pre b)]
  dsimp only
  rw [if_pos rfl]

/-! ### the law -/
theorem ok_all (T : Tx K mg) : FnOk P w K mg base CX0 14 T.d_law.f T.d_law.fd ["script"] (AF.spLaw K) := by
  have G_law_draw := ok_law_draw (P := P) (w := w) (base := base) T
  have G_law_document := ok_law_document (P := P) (w := w) (base := base) T
  have G_law_offsets := ok_law_offsets (P := P) (w := w) (base := base) T
  have G_law_all := ok_law_all (P := P) (w := w) (base := base) T 9
  have G_law_same := ok_law_same (P := P) (w := w) (base := base) T 3
  have G_law_same_dict := ok_law_same_dict (P := P) (w := w) (base := base) T (n := 1)
  have G_law_anchor := ok_law_anchor (P := P) (w := w) (base := base) T
  have G_law_edit := ok_law_edit (P := P) (w := w) (base := base) T
  have G_law_edited := ok_law_edited (P := P) (w := w) (base := base) T
  have G_law_after := ok_law_after (P := P) (w := w) (base := base) T
  have G_anchor := ok_anchor (P := P) (w := w) (base := base) T
  have G_offsets_after := ok_offsets_after (P := P) (w := w) (base := base) T
  refine T.d_law.F.ok sc_law (fun vs H Q E h => ?_) (fun cdv A outer s H vs Q E hr h => ?_)
  · obtain ⟨_, _, rfl, _⟩ := h
    rfl
  obtain ⟨a, ns, rfl, hS, h63, q⟩ := h
  refine ⟨_, (pss_cons (ps_set (i := 1) sc_law.nd rfl (Or.inl rfl) (AF.cal T.d_law_draw G_law_draw (hr.mono (by omega)) (pa_cons (pv 0) pa_nil)))
      (pss_cons (ps_for PassesOwn.never rfl (pi_range1 (by rfl) T.z_range (pa_cons pe_int pa_nil)) (pg_name (i := 2) sc_law.nd rfl (Or.inl rfl))
      (pss_cons (ps_set (i := 3) sc_law.nd rfl (Or.inl rfl) (AF.cal T.d_law_document G_law_document (hr.mono (by omega)) (pa_cons (pv 1) pa_nil)))
      (pss_cons (ps_set (i := 4) sc_law.nd rfl (Or.inl rfl) (AF.cal T.d_law_offsets G_law_offsets (hr.mono (by omega)) (pa_cons (pv 1) (pa_cons (pv 3) pa_nil))))
      (pss_cons (ps_for PassesOwn.never rfl (AF.piL K rfl (AF.cal T.d_law_all G_law_all (hr.mono (by omega)) (pa_cons (pv 3) pa_nil))) (pg_name (i := 5) sc_law.nd rfl (Or.inl rfl))
      (pss_one (ps_if (PW.pt (pw_and (pt_cmpR op_eq (pe_ix (AF.ixT K rfl) (pv 5) pe_int (fun _ _ => rfl)) pe_str (nomark _)) (pw_and1 (pt_not (pt_val (AF.cal T.d_law_same G_law_same (hr.mono (by omega)) (pa_cons (AF.cal T.d_anchor G_anchor (hr.mono (by omega)) (pa_cons (pv 5) (pa_cons (pe_dget (hu_of hr) (pv 4) (pe_ix (AF.ixT K rfl) (pv 5) pe_int (fun _ _ => rfl)) (fun _ _ => rfl)) pa_nil))) (pa_cons (AF.cal T.d_law_anchor G_law_anchor (hr.mono (by omega)) (pa_cons (pv 5) (pa_cons (pe_dget (hu_of hr) (pv 4) (pe_ix (AF.ixT K rfl) (pv 5) pe_int (fun _ _ => rfl)) (fun _ _ => rfl)) pa_nil))) pa_nil))))))))
      (pss_one (ps_ret pe_bl))
      pss_nil)))
      (pss_cons (ps_set (i := 6) sc_law.nd rfl (Or.inl rfl) (AF.cal T.d_law_edited G_law_edited (hr.mono (by omega)) (pa_cons (pv 3) (pa_cons (AF.cal T.d_law_edit G_law_edit (hr.mono (by omega)) (pa_cons (pv 1) (pa_cons (pv 3) pa_nil))) pa_nil))))
      (pss_one (ps_if (pt_not (pt_val (pe_callB (AF.isiK K rfl) (by rfl) T.z_isinstance (by decide +kernel) (pa_cons (pv 6) (pa_cons (pe_bltn (v := .ty "str") (by rfl) T.z_str (by decide +kernel) rfl) pa_nil)))))
      (pss_cons (ps_set (i := 7) sc_law.nd rfl (Or.inl rfl) (pe_callTy call_dictD (by rfl) T.z_dict (by decide +kernel) (pa_cons (pv 4) pa_nil)))
      (pss_cons (ps_set (i := 8) sc_law.nd rfl (Or.inl rfl) (AF.cal T.d_law_after G_law_after (hr.mono (by omega)) (pa_cons (pv 3) (pa_cons (pv 4) (pa_cons (pv 6) pa_nil)))))
      (pss_one (ps_if (PW.pt (pw_or (pt_not (pt_val (AF.cal T.d_law_same_dict G_law_same_dict (hr.mono (by omega)) (pa_cons (AF.cal T.d_offsets_after G_offsets_after (hr.mono (by omega)) (pa_cons (pv 3) (pa_cons (pv 4) (pa_cons (pv 6) pa_nil)))) (pa_cons (pv 8) pa_nil))))) (pw_or1 (pt_cmpR (op_ne_dictA hr.units0) (pv 4) (pv 7) (nomark _)))))
      (pss_one (ps_ret pe_bl))
      pss_nil))))
      pss_nil)))))))
      (pss_one (ps_ret pe_bl)))), ?_⟩
  refine ⟨.ref a, rfl, a, ns, rfl, hS, fun d l H1 s1 nd nl hD => ?_⟩
  refine ⟨6, rfl, by decide, by decide, ?_⟩
  refine for_range (lo := 0) (n := 6) (Pv := fun i σ H3 => ∃ x2 x3 x4 x5 x6 x7 x8 : Option V, σ = [some (.ref a), some (.ref d), x2, x3, x4, x5, x6, x7, x8] ∧ AF.DrawAt H3 d l) ?_ ?_ ?_
  · exact ⟨none, none, none, none, none, none, none, rfl, hD⟩
  · rintro i σ H2 hi ⟨x2, x3, x4, x5, x6, x7, x8, rfl, hD2⟩
    refine ⟨.ref d, rfl, d, l, rfl, hD2, fun v b H3 bv dc hD3 b3 k3 => ?_⟩
    have hlen := dc.len
    have hdep := dc.dep
    have hnd := dc.nodup
    have hrg := Doc.rng dc
    refine ⟨.ref d, rfl, v, rfl, d, l, v, b, rfl, hD3, bv, by omega, by omega, hnd, fun c hc => by have := hrg c hc; omega, fun x ol H4 nx ex hof hD4 b4 k4 nxd => ?_⟩
    have bv4 := bv.k k4
    have hon := hof.nodup hnd
    refine ⟨v, rfl, v, b, rfl, bv4, by omega, by omega, fun lst ws H5 s5 nlst el bw => ?_⟩
    refine ⟨lst, rfl, ⟨ws, .of el⟩, ?_⟩
    refine for_list (xs := ws) (Pv := fun j σ H6 => ∃ x5 : Option V, σ = [some (.ref a), some (.ref d), some (.int (0 + (i : Int))), some v, some (.ref x), x5, x6, x7, x8] ∧ Same H5 H6) ?_ ?_ ?_ ?_
    · exact ⟨x5, rfl, .refl _⟩
    · rintro j σ H6 _ ⟨_, _, s6⟩
      exact .of (s6 _ _ el)
    · rintro j u σ H6 hu ⟨x5, rfl, s6⟩
      obtain ⟨c, hc, bu⟩ := bw.get hu
      have bu := bu.s s6
      have hcm : c ∈ b.pre := List.mem_of_getElem? hc
      have ex6 := s6 _ _ (s5 _ _ ex)
      obtain ⟨au, xs, eu, hau, ee⟩ := bu.tup
      have u0 : xs[0]? = some (.str c.kind) := by
        have := congrArg (fun l => l[0]?) ee
        simpa using this
      have u1 : xs[1]? = some (.int c.num) := by
        have := congrArg (fun l => l[1]?) ee
        simpa using this
      refine ⟨u, rfl, au, _, _, _, eu, rfl, .of hau, atI_nat (j := 0) u0, rfl, _, rfl, ?_⟩
      cases hSc : c.isS with
      | false =>
        have hkd : ¬ c.kind = "scroller" := by
          cases c with
          | blk _ _ =>
            intro z
            cases z
          | scr _ _ _ => cases hSc
        exact AF.iteN (fun z => hkd (V.str.inj (of_decide_eq_true z))) ⟨_, rfl, s6⟩
      | true =>
        have hkd : c.kind = "scroller" := by
          cases c with
          | blk _ _ => cases hSc
          | scr _ _ _ => rfl
        refine AF.iteP (decide_eq_true (by rw [hkd])) ?_
        obtain ⟨z, hz, _, _⟩ := hof.2 c hcm hSc
        have hgo : ∀ {H' : Hp}, Same H6 H' → DGet H' x (.int c.num) (some (.int z)) := fun s' => by
          have := AF.DGet.dI (n := c.num) (s' _ _ ex6)
          rw [hz] at this
          exact this
        have hpl : c.parts.length ≤ 1000 := by
          have := dc.kids c hcm
          omega
        refine ⟨u, rfl, .ref x, rfl, u, rfl, au, _, _, _, eu, rfl, .of hau, atI_nat (j := 1) u1, x, .int z, rfl, hgo (.refl _), u, c, z, rfl, bu, hpl, fun H7 s7 => ?_⟩
        refine ⟨u, rfl, .ref x, rfl, u, rfl, au, _, _, _, eu, rfl, .of (s7 _ _ hau), atI_nat (j := 1) u1, x, .int z, rfl, hgo s7, u, c, z, rfl, bu.s s7, hSc, fun H8 s8 => ?_⟩
        obtain ⟨o1, o2⟩ := AF.oi_dd (AF.Box.anchorN c z)
        refine ⟨_, _, AF.oiPy (AF.Box.anchorN c z), rfl, AF.oi_dp _, AF.oi_dp _, by omega, by omega, fun H9 s9 => ⟨_, rfl, iteF ?_⟩⟩
        exact ⟨_, rfl, ((s6.trans s7).trans s8).trans s9⟩
    rintro σ H6 ⟨x5, rfl, s6⟩
    have s46 := s5.trans s6
    have bv6 := bv4.s s46
    have hD6 := AF.DrawAt.same hD4 s46
    have ex6 := s46 _ _ ex
    have nxd' : x ∉ [d] := by simpa using nxd
    refine ⟨v, rfl, .ref d, rfl, v, rfl, d, l, v, b, rfl, hD6, bv6, dc.isDoc, fun ea e H7 he hsm hD7 b7 k7 => ?_⟩
    have bv7 := bv6.k k7
    have ex7 := b7 _ _ nxd' ex6
    refine ⟨v, b, ea, e, rfl, bv7, he, hsm, by omega, by omega, hnd, fun lu H8 s8 hlu => ?_⟩
    rw [← AF.Box.edR_edL hnd e] at hlu
    have bv8 := bv7.s s8
    have ex8 := s8 _ _ ex7
    have hD8 := AF.DrawAt.same hD7 s8
    have hdl : Dp K H8 lu (resPy (AF.Box.edR b e)) := hlu.dp
    refine ⟨lu, rfl, lu, _, _, _, _, rfl, .ty _, AF.Dp.ty hdl, AF.kit_st (AF.Dp.nodict hdl), _, rfl, ?_⟩
    cases hR : AF.Box.edR b e with
    | no => exact iteF ⟨_, _, _, _, _, _, _, rfl, hD8⟩
    | block => exact iteF ⟨_, _, _, _, _, _, _, rfl, hD8⟩
    | bad => exact iteF ⟨_, _, _, _, _, _, _, rfl, hD8⟩
    | ok lb =>
      rw [hR] at hlu
      have hlu : AF.BoxAt H8 lu lb := hlu
      have hdoc := edR_doc hR
      have hns : AF.isSt (resPy (.ok lb)) = false := by
        cases lb <;> simp [resPy, AF.Box.py, AF.isSt]
      rw [hns]
      refine iteT ?_
      have h1 := hdoc.l
      have h2 := hdoc.d
      have h3 := hdoc.u
      refine ⟨.ref x, rfl, x, _, rfl, .inl ex8, fun kp nkp => ?_⟩
      have s9 := AF.same_new nkp (.dK (AF.dI ol))
      refine ⟨v, rfl, .ref x, rfl, lu, rfl, v, lu, b, lb, x, ol, rfl, bv8.s s9, hlu.s s9, hnd, h3, by omega, by omega, by omega, by omega, s9 _ _ ex8, hof.1, fun d1 H10 s10 nd1 ed1 => ?_⟩
      have s810 := s9.trans s10
      refine ⟨v, rfl, .ref x, rfl, lu, rfl, v, lu, b, lb, x, ol, rfl, bv8.s s810, hlu.s s810, hnd, h3, by omega, by omega, s810 _ _ ex8, hof.1, fun d2 H11 s11 nd2 ed2 => ?_⟩
      have hln : ((AF.Box.aft b ol lb).map (·.1)).Nodup := by
        unfold AF.Box.aft
        rw [List.map_map]
        exact h3.sublist ((List.filter_sublist).map _)
      have hll : (AF.Box.aft b ol lb).length ≤ 1000 := by
        unfold AF.Box.aft
        rw [List.length_map]
        have := List.length_filter_le AF.Box.isS lb.pre
        omega
      refine ⟨.ref d1, rfl, d2, d1, _, _, _, _, rfl, ed2, s11 _ _ ed1, (ne_of_none ed1 nd2).symm, AF.dI_keys _, AF.dI_keys _, .refl _, by rw [AF.dI_len]; exact hll, fun p hp => ?_, fun H12 s12 => ⟨_, rfl, iteF ?_⟩⟩
      · obtain ⟨q0, _, rfl, e⟩ := AF.dI_self hln hp
        exact ⟨_, .int q0.2, e, e, .int _, .int _, by simp [AF.dd], by simp [AF.wd]⟩
      have s812 := (s810.trans s11).trans s12
      have s912 := (s10.trans s11).trans s12
      refine ⟨.ref x, rfl, .ref kp, rfl, x, kp, _, _, rfl, rfl, s812 _ _ ex8, s912 _ _ upd_same, rfl, fun p hp => ?_, _, rfl, iteF ?_⟩
      · obtain ⟨q0, _, rfl, e⟩ := AF.dI_self hon hp
        exact ⟨e, rfl⟩
      exact ⟨_, _, _, _, _, _, _, rfl, AF.DrawAt.same hD8 s812⟩
  · rintro σ H2 ⟨x2, x3, x4, x5, x6, x7, x8, rfl, hD2⟩
    exact q H2

end
end K08
namespace K08
open PySem PySem.Spec PyProof.Rows L2
set_option maxHeartbeats 4000000 in
theorem all_mk {l : PySem.W.OpenLaw} {w : World} {K : PySem.W.Frag} {h : Heap} {mg : Str → Option Value} {fa : Addr} (X : K.In h) (G : h.Ns mainGlobals mg) (hfa : mg "law" = some (.ref fa))
    {f0 : Addr} {od0 an0 : Option Addr} {sl0 : Array (Option Value)} {oc0 kV0 dc0 pm0 cd0 ct0 : Value}
    (a0 : PySem.W.nsIn K mainGlobals "is_scroller" = some (some (.ref f0))) (l0 : K.lookup f0 = some ⟨oc0, od0, .func (PySem.W.fnOf "is_scroller" "is_scroller" (defArgs s_is_scroller) (defBody s_is_scroller) (defScope s_is_scroller) .none kV0 dc0 pm0 an0 cd0 ct0), sl0⟩)
    (c0 : PySem.W.codeIn K cd0 "is_scroller" = true) (k0 : PySem.W.keepIn K (.ref f0) = true)
    {f1 : Addr} {od1 an1 : Option Addr} {sl1 : Array (Option Value)} {oc1 kV1 dc1 pm1 cd1 ct1 : Value}
    (a1 : PySem.W.nsIn K mainGlobals "number_of" = some (some (.ref f1))) (l1 : K.lookup f1 = some ⟨oc1, od1, .func (PySem.W.fnOf "number_of" "number_of" (defArgs s_number_of) (defBody s_number_of) (defScope s_number_of) .none kV1 dc1 pm1 an1 cd1 ct1), sl1⟩)
    (c1 : PySem.W.codeIn K cd1 "number_of" = true) (k1 : PySem.W.keepIn K (.ref f1) = true)
    {f2 : Addr} {od2 an2 : Option Addr} {sl2 : Array (Option Value)} {oc2 kV2 dc2 pm2 cd2 ct2 : Value}
    (a2 : PySem.W.nsIn K mainGlobals "height_of" = some (some (.ref f2))) (l2 : K.lookup f2 = some ⟨oc2, od2, .func (PySem.W.fnOf "height_of" "height_of" (defArgs s_height_of) (defBody s_height_of) (defScope s_height_of) .none kV2 dc2 pm2 an2 cd2 ct2), sl2⟩)
    (c2 : PySem.W.codeIn K cd2 "height_of" = true) (k2 : PySem.W.keepIn K (.ref f2) = true)
    {f3 : Addr} {od3 an3 : Option Addr} {sl3 : Array (Option Value)} {oc3 kV3 dc3 pm3 cd3 ct3 : Value}
    (a3 : PySem.W.nsIn K mainGlobals "parts_of" = some (some (.ref f3))) (l3 : K.lookup f3 = some ⟨oc3, od3, .func (PySem.W.fnOf "parts_of" "parts_of" (defArgs s_parts_of) (defBody s_parts_of) (defScope s_parts_of) .none kV3 dc3 pm3 an3 cd3 ct3), sl3⟩)
    (c3 : PySem.W.codeIn K cd3 "parts_of" = true) (k3 : PySem.W.keepIn K (.ref f3) = true)
    {f4 : Addr} {od4 an4 : Option Addr} {sl4 : Array (Option Value)} {oc4 kV4 dc4 pm4 cd4 ct4 : Value}
    (a4 : PySem.W.nsIn K mainGlobals "all_boxes" = some (some (.ref f4))) (l4 : K.lookup f4 = some ⟨oc4, od4, .func (PySem.W.fnOf "all_boxes" "all_boxes" (defArgs s_all_boxes) (defBody s_all_boxes) (defScope s_all_boxes) .none kV4 dc4 pm4 an4 cd4 ct4), sl4⟩)
    (c4 : PySem.W.codeIn K cd4 "all_boxes" = true) (k4 : PySem.W.keepIn K (.ref f4) = true)
    {f5 : Addr} {od5 an5 : Option Addr} {sl5 : Array (Option Value)} {oc5 kV5 dc5 pm5 cd5 ct5 : Value}
    (a5 : PySem.W.nsIn K mainGlobals "find" = some (some (.ref f5))) (l5 : K.lookup f5 = some ⟨oc5, od5, .func (PySem.W.fnOf "find" "find" (defArgs s_find) (defBody s_find) (defScope s_find) .none kV5 dc5 pm5 an5 cd5 ct5), sl5⟩)
    (c5 : PySem.W.codeIn K cd5 "find" = true) (k5 : PySem.W.keepIn K (.ref f5) = true)
    {f6 : Addr} {od6 an6 : Option Addr} {sl6 : Array (Option Value)} {oc6 kV6 dc6 pm6 cd6 ct6 : Value}
    (a6 : PySem.W.nsIn K mainGlobals "places" = some (some (.ref f6))) (l6 : K.lookup f6 = some ⟨oc6, od6, .func (PySem.W.fnOf "places" "places" (defArgs s_places) (defBody s_places) (defScope s_places) .none kV6 dc6 pm6 an6 cd6 ct6), sl6⟩)
    (c6 : PySem.W.codeIn K cd6 "places" = true) (k6 : PySem.W.keepIn K (.ref f6) = true)
    {f7 : Addr} {od7 an7 : Option Addr} {sl7 : Array (Option Value)} {oc7 kV7 dc7 pm7 cd7 ct7 : Value}
    (a7 : PySem.W.nsIn K mainGlobals "length_of" = some (some (.ref f7))) (l7 : K.lookup f7 = some ⟨oc7, od7, .func (PySem.W.fnOf "length_of" "length_of" (defArgs s_length_of) (defBody s_length_of) (defScope s_length_of) .none kV7 dc7 pm7 an7 cd7 ct7), sl7⟩)
    (c7 : PySem.W.codeIn K cd7 "length_of" = true) (k7 : PySem.W.keepIn K (.ref f7) = true)
    {f8 : Addr} {od8 an8 : Option Addr} {sl8 : Array (Option Value)} {oc8 kV8 dc8 pm8 cd8 ct8 : Value}
    (a8 : PySem.W.nsIn K mainGlobals "range_of" = some (some (.ref f8))) (l8 : K.lookup f8 = some ⟨oc8, od8, .func (PySem.W.fnOf "range_of" "range_of" (defArgs s_range_of) (defBody s_range_of) (defScope s_range_of) .none kV8 dc8 pm8 an8 cd8 ct8), sl8⟩)
    (c8 : PySem.W.codeIn K cd8 "range_of" = true) (k8 : PySem.W.keepIn K (.ref f8) = true)
    {f9 : Addr} {od9 an9 : Option Addr} {sl9 : Array (Option Value)} {oc9 kV9 dc9 pm9 cd9 ct9 : Value}
    (a9 : PySem.W.nsIn K mainGlobals "ranges" = some (some (.ref f9))) (l9 : K.lookup f9 = some ⟨oc9, od9, .func (PySem.W.fnOf "ranges" "ranges" (defArgs s_ranges) (defBody s_ranges) (defScope s_ranges) .none kV9 dc9 pm9 an9 cd9 ct9), sl9⟩)
    (c9 : PySem.W.codeIn K cd9 "ranges" = true) (k9 : PySem.W.keepIn K (.ref f9) = true)
    {f10 : Addr} {od10 an10 : Option Addr} {sl10 : Array (Option Value)} {oc10 kV10 dc10 pm10 cd10 ct10 : Value}
    (a10 : PySem.W.nsIn K mainGlobals "nearest" = some (some (.ref f10))) (l10 : K.lookup f10 = some ⟨oc10, od10, .func (PySem.W.fnOf "nearest" "nearest" (defArgs s_nearest) (defBody s_nearest) (defScope s_nearest) .none kV10 dc10 pm10 an10 cd10 ct10), sl10⟩)
    (c10 : PySem.W.codeIn K cd10 "nearest" = true) (k10 : PySem.W.keepIn K (.ref f10) = true)
    {f11 : Addr} {od11 an11 : Option Addr} {sl11 : Array (Option Value)} {oc11 kV11 dc11 pm11 cd11 ct11 : Value}
    (a11 : PySem.W.nsIn K mainGlobals "fitted" = some (some (.ref f11))) (l11 : K.lookup f11 = some ⟨oc11, od11, .func (PySem.W.fnOf "fitted" "fitted" (defArgs s_fitted) (defBody s_fitted) (defScope s_fitted) .none kV11 dc11 pm11 an11 cd11 ct11), sl11⟩)
    (c11 : PySem.W.codeIn K cd11 "fitted" = true) (k11 : PySem.W.keepIn K (.ref f11) = true)
    {f12 : Addr} {od12 an12 : Option Addr} {sl12 : Array (Option Value)} {oc12 kV12 dc12 pm12 cd12 ct12 : Value}
    (a12 : PySem.W.nsIn K mainGlobals "anchor" = some (some (.ref f12))) (l12 : K.lookup f12 = some ⟨oc12, od12, .func (PySem.W.fnOf "anchor" "anchor" (defArgs s_anchor) (defBody s_anchor) (defScope s_anchor) .none kV12 dc12 pm12 an12 cd12 ct12), sl12⟩)
    (c12 : PySem.W.codeIn K cd12 "anchor" = true) (k12 : PySem.W.keepIn K (.ref f12) = true)
    {f13 : Addr} {od13 an13 : Option Addr} {sl13 : Array (Option Value)} {oc13 kV13 dc13 pm13 cd13 ct13 : Value}
    (a13 : PySem.W.nsIn K mainGlobals "offsets_after" = some (some (.ref f13))) (l13 : K.lookup f13 = some ⟨oc13, od13, .func (PySem.W.fnOf "offsets_after" "offsets_after" (defArgs s_offsets_after) (defBody s_offsets_after) (defScope s_offsets_after) .none kV13 dc13 pm13 an13 cd13 ct13), sl13⟩)
    (c13 : PySem.W.codeIn K cd13 "offsets_after" = true) (k13 : PySem.W.keepIn K (.ref f13) = true)
    {f14 : Addr} {od14 an14 : Option Addr} {sl14 : Array (Option Value)} {oc14 kV14 dc14 pm14 cd14 ct14 : Value}
    (a14 : PySem.W.nsIn K mainGlobals "shift_of_anchor" = some (some (.ref f14))) (l14 : K.lookup f14 = some ⟨oc14, od14, .func (PySem.W.fnOf "shift_of_anchor" "shift_of_anchor" (defArgs s_shift_of_anchor) (defBody s_shift_of_anchor) (defScope s_shift_of_anchor) .none kV14 dc14 pm14 an14 cd14 ct14), sl14⟩)
    (c14 : PySem.W.codeIn K cd14 "shift_of_anchor" = true) (k14 : PySem.W.keepIn K (.ref f14) = true)
    {f15 : Addr} {od15 an15 : Option Addr} {sl15 : Array (Option Value)} {oc15 kV15 dc15 pm15 cd15 ct15 : Value}
    (a15 : PySem.W.nsIn K mainGlobals "places_by_number" = some (some (.ref f15))) (l15 : K.lookup f15 = some ⟨oc15, od15, .func (PySem.W.fnOf "places_by_number" "places_by_number" (defArgs s_places_by_number) (defBody s_places_by_number) (defScope s_places_by_number) .none kV15 dc15 pm15 an15 cd15 ct15), sl15⟩)
    (c15 : PySem.W.codeIn K cd15 "places_by_number" = true) (k15 : PySem.W.keepIn K (.ref f15) = true)
    {f16 : Addr} {od16 an16 : Option Addr} {sl16 : Array (Option Value)} {oc16 kV16 dc16 pm16 cd16 ct16 : Value}
    (a16 : PySem.W.nsIn K mainGlobals "_law_draw" = some (some (.ref f16))) (l16 : K.lookup f16 = some ⟨oc16, od16, .func (PySem.W.fnOf "_law_draw" "_law_draw" (defArgs s_law_draw) (defBody s_law_draw) (defScope s_law_draw) .none kV16 dc16 pm16 an16 cd16 ct16), sl16⟩)
    (c16 : PySem.W.codeIn K cd16 "_law_draw" = true) (k16 : PySem.W.keepIn K (.ref f16) = true)
    {f17 : Addr} {od17 an17 : Option Addr} {sl17 : Array (Option Value)} {oc17 kV17 dc17 pm17 cd17 ct17 : Value}
    (a17 : PySem.W.nsIn K mainGlobals "_law_next" = some (some (.ref f17))) (l17 : K.lookup f17 = some ⟨oc17, od17, .func (PySem.W.fnOf "_law_next" "_law_next" (defArgs s_law_next) (defBody s_law_next) (defScope s_law_next) .none kV17 dc17 pm17 an17 cd17 ct17), sl17⟩)
    (c17 : PySem.W.codeIn K cd17 "_law_next" = true) (k17 : PySem.W.keepIn K (.ref f17) = true)
    {f18 : Addr} {od18 an18 : Option Addr} {sl18 : Array (Option Value)} {oc18 kV18 dc18 pm18 cd18 ct18 : Value}
    (a18 : PySem.W.nsIn K mainGlobals "_law_same" = some (some (.ref f18))) (l18 : K.lookup f18 = some ⟨oc18, od18, .func (PySem.W.fnOf "_law_same" "_law_same" (defArgs s_law_same) (defBody s_law_same) (defScope s_law_same) .none kV18 dc18 pm18 an18 cd18 ct18), sl18⟩)
    (c18 : PySem.W.codeIn K cd18 "_law_same" = true) (k18 : PySem.W.keepIn K (.ref f18) = true)
    {f19 : Addr} {od19 an19 : Option Addr} {sl19 : Array (Option Value)} {oc19 kV19 dc19 pm19 cd19 ct19 : Value}
    (a19 : PySem.W.nsIn K mainGlobals "_law_box" = some (some (.ref f19))) (l19 : K.lookup f19 = some ⟨oc19, od19, .func (PySem.W.fnOf "_law_box" "_law_box" (defArgs s_law_box) (defBody s_law_box) (defScope s_law_box) .none kV19 dc19 pm19 an19 cd19 ct19), sl19⟩)
    (c19 : PySem.W.codeIn K cd19 "_law_box" = true) (k19 : PySem.W.keepIn K (.ref f19) = true)
    {f20 : Addr} {od20 an20 : Option Addr} {sl20 : Array (Option Value)} {oc20 kV20 dc20 pm20 cd20 ct20 : Value}
    (a20 : PySem.W.nsIn K mainGlobals "_law_document" = some (some (.ref f20))) (l20 : K.lookup f20 = some ⟨oc20, od20, .func (PySem.W.fnOf "_law_document" "_law_document" (defArgs s_law_document) (defBody s_law_document) (defScope s_law_document) .none kV20 dc20 pm20 an20 cd20 ct20), sl20⟩)
    (c20 : PySem.W.codeIn K cd20 "_law_document" = true) (k20 : PySem.W.keepIn K (.ref f20) = true)
    {f21 : Addr} {od21 an21 : Option Addr} {sl21 : Array (Option Value)} {oc21 kV21 dc21 pm21 cd21 ct21 : Value}
    (a21 : PySem.W.nsIn K mainGlobals "_law_all" = some (some (.ref f21))) (l21 : K.lookup f21 = some ⟨oc21, od21, .func (PySem.W.fnOf "_law_all" "_law_all" (defArgs s_law_all) (defBody s_law_all) (defScope s_law_all) .none kV21 dc21 pm21 an21 cd21 ct21), sl21⟩)
    (c21 : PySem.W.codeIn K cd21 "_law_all" = true) (k21 : PySem.W.keepIn K (.ref f21) = true)
    {f22 : Addr} {od22 an22 : Option Addr} {sl22 : Array (Option Value)} {oc22 kV22 dc22 pm22 cd22 ct22 : Value}
    (a22 : PySem.W.nsIn K mainGlobals "_law_length" = some (some (.ref f22))) (l22 : K.lookup f22 = some ⟨oc22, od22, .func (PySem.W.fnOf "_law_length" "_law_length" (defArgs s_law_length) (defBody s_law_length) (defScope s_law_length) .none kV22 dc22 pm22 an22 cd22 ct22), sl22⟩)
    (c22 : PySem.W.codeIn K cd22 "_law_length" = true) (k22 : PySem.W.keepIn K (.ref f22) = true)
    {f23 : Addr} {od23 an23 : Option Addr} {sl23 : Array (Option Value)} {oc23 kV23 dc23 pm23 cd23 ct23 : Value}
    (a23 : PySem.W.nsIn K mainGlobals "_law_range" = some (some (.ref f23))) (l23 : K.lookup f23 = some ⟨oc23, od23, .func (PySem.W.fnOf "_law_range" "_law_range" (defArgs s_law_range) (defBody s_law_range) (defScope s_law_range) .none kV23 dc23 pm23 an23 cd23 ct23), sl23⟩)
    (c23 : PySem.W.codeIn K cd23 "_law_range" = true) (k23 : PySem.W.keepIn K (.ref f23) = true)
    {f24 : Addr} {od24 an24 : Option Addr} {sl24 : Array (Option Value)} {oc24 kV24 dc24 pm24 cd24 ct24 : Value}
    (a24 : PySem.W.nsIn K mainGlobals "_law_offsets" = some (some (.ref f24))) (l24 : K.lookup f24 = some ⟨oc24, od24, .func (PySem.W.fnOf "_law_offsets" "_law_offsets" (defArgs s_law_offsets) (defBody s_law_offsets) (defScope s_law_offsets) .none kV24 dc24 pm24 an24 cd24 ct24), sl24⟩)
    (c24 : PySem.W.codeIn K cd24 "_law_offsets" = true) (k24 : PySem.W.keepIn K (.ref f24) = true)
    {f25 : Addr} {od25 an25 : Option Addr} {sl25 : Array (Option Value)} {oc25 kV25 dc25 pm25 cd25 ct25 : Value}
    (a25 : PySem.W.nsIn K mainGlobals "_law_named" = some (some (.ref f25))) (l25 : K.lookup f25 = some ⟨oc25, od25, .func (PySem.W.fnOf "_law_named" "_law_named" (defArgs s_law_named) (defBody s_law_named) (defScope s_law_named) .none kV25 dc25 pm25 an25 cd25 ct25), sl25⟩)
    (c25 : PySem.W.codeIn K cd25 "_law_named" = true) (k25 : PySem.W.keepIn K (.ref f25) = true)
    {f26 : Addr} {od26 an26 : Option Addr} {sl26 : Array (Option Value)} {oc26 kV26 dc26 pm26 cd26 ct26 : Value}
    (a26 : PySem.W.nsIn K mainGlobals "_law_depth" = some (some (.ref f26))) (l26 : K.lookup f26 = some ⟨oc26, od26, .func (PySem.W.fnOf "_law_depth" "_law_depth" (defArgs s_law_depth) (defBody s_law_depth) (defScope s_law_depth) .none kV26 dc26 pm26 an26 cd26 ct26), sl26⟩)
    (c26 : PySem.W.codeIn K cd26 "_law_depth" = true) (k26 : PySem.W.keepIn K (.ref f26) = true)
    {f27 : Addr} {od27 an27 : Option Addr} {sl27 : Array (Option Value)} {oc27 kV27 dc27 pm27 cd27 ct27 : Value}
    (a27 : PySem.W.nsIn K mainGlobals "_law_is_document" = some (some (.ref f27))) (l27 : K.lookup f27 = some ⟨oc27, od27, .func (PySem.W.fnOf "_law_is_document" "_law_is_document" (defArgs s_law_is_document) (defBody s_law_is_document) (defScope s_law_is_document) .none kV27 dc27 pm27 an27 cd27 ct27), sl27⟩)
    (c27 : PySem.W.codeIn K cd27 "_law_is_document" = true) (k27 : PySem.W.keepIn K (.ref f27) = true)
    {f28 : Addr} {od28 an28 : Option Addr} {sl28 : Array (Option Value)} {oc28 kV28 dc28 pm28 cd28 ct28 : Value}
    (a28 : PySem.W.nsIn K mainGlobals "_law_part" = some (some (.ref f28))) (l28 : K.lookup f28 = some ⟨oc28, od28, .func (PySem.W.fnOf "_law_part" "_law_part" (defArgs s_law_part) (defBody s_law_part) (defScope s_law_part) .none kV28 dc28 pm28 an28 cd28 ct28), sl28⟩)
    (c28 : PySem.W.codeIn K cd28 "_law_part" = true) (k28 : PySem.W.keepIn K (.ref f28) = true)
    {f29 : Addr} {od29 an29 : Option Addr} {sl29 : Array (Option Value)} {oc29 kV29 dc29 pm29 cd29 ct29 : Value}
    (a29 : PySem.W.nsIn K mainGlobals "_law_edit" = some (some (.ref f29))) (l29 : K.lookup f29 = some ⟨oc29, od29, .func (PySem.W.fnOf "_law_edit" "_law_edit" (defArgs s_law_edit) (defBody s_law_edit) (defScope s_law_edit) .none kV29 dc29 pm29 an29 cd29 ct29), sl29⟩)
    (c29 : PySem.W.codeIn K cd29 "_law_edit" = true) (k29 : PySem.W.keepIn K (.ref f29) = true)
    {f30 : Addr} {od30 an30 : Option Addr} {sl30 : Array (Option Value)} {oc30 kV30 dc30 pm30 cd30 ct30 : Value}
    (a30 : PySem.W.nsIn K mainGlobals "_law_with" = some (some (.ref f30))) (l30 : K.lookup f30 = some ⟨oc30, od30, .func (PySem.W.fnOf "_law_with" "_law_with" (defArgs s_law_with) (defBody s_law_with) (defScope s_law_with) .none kV30 dc30 pm30 an30 cd30 ct30), sl30⟩)
    (c30 : PySem.W.codeIn K cd30 "_law_with" = true) (k30 : PySem.W.keepIn K (.ref f30) = true)
    {f31 : Addr} {od31 an31 : Option Addr} {sl31 : Array (Option Value)} {oc31 kV31 dc31 pm31 cd31 ct31 : Value}
    (a31 : PySem.W.nsIn K mainGlobals "_law_edited" = some (some (.ref f31))) (l31 : K.lookup f31 = some ⟨oc31, od31, .func (PySem.W.fnOf "_law_edited" "_law_edited" (defArgs s_law_edited) (defBody s_law_edited) (defScope s_law_edited) .none kV31 dc31 pm31 an31 cd31 ct31), sl31⟩)
    (c31 : PySem.W.codeIn K cd31 "_law_edited" = true) (k31 : PySem.W.keepIn K (.ref f31) = true)
    {f32 : Addr} {od32 an32 : Option Addr} {sl32 : Array (Option Value)} {oc32 kV32 dc32 pm32 cd32 ct32 : Value}
    (a32 : PySem.W.nsIn K mainGlobals "_law_place" = some (some (.ref f32))) (l32 : K.lookup f32 = some ⟨oc32, od32, .func (PySem.W.fnOf "_law_place" "_law_place" (defArgs s_law_place) (defBody s_law_place) (defScope s_law_place) .none kV32 dc32 pm32 an32 cd32 ct32), sl32⟩)
    (c32 : PySem.W.codeIn K cd32 "_law_place" = true) (k32 : PySem.W.keepIn K (.ref f32) = true)
    {f33 : Addr} {od33 an33 : Option Addr} {sl33 : Array (Option Value)} {oc33 kV33 dc33 pm33 cd33 ct33 : Value}
    (a33 : PySem.W.nsIn K mainGlobals "_law_anchor" = some (some (.ref f33))) (l33 : K.lookup f33 = some ⟨oc33, od33, .func (PySem.W.fnOf "_law_anchor" "_law_anchor" (defArgs s_law_anchor) (defBody s_law_anchor) (defScope s_law_anchor) .none kV33 dc33 pm33 an33 cd33 ct33), sl33⟩)
    (c33 : PySem.W.codeIn K cd33 "_law_anchor" = true) (k33 : PySem.W.keepIn K (.ref f33) = true)
    {f34 : Addr} {od34 an34 : Option Addr} {sl34 : Array (Option Value)} {oc34 kV34 dc34 pm34 cd34 ct34 : Value}
    (a34 : PySem.W.nsIn K mainGlobals "_law_after" = some (some (.ref f34))) (l34 : K.lookup f34 = some ⟨oc34, od34, .func (PySem.W.fnOf "_law_after" "_law_after" (defArgs s_law_after) (defBody s_law_after) (defScope s_law_after) .none kV34 dc34 pm34 an34 cd34 ct34), sl34⟩)
    (c34 : PySem.W.codeIn K cd34 "_law_after" = true) (k34 : PySem.W.keepIn K (.ref f34) = true)
    {f35 : Addr} {od35 an35 : Option Addr} {sl35 : Array (Option Value)} {oc35 kV35 dc35 pm35 cd35 ct35 : Value}
    (a35 : PySem.W.nsIn K mainGlobals "_law_same_dict" = some (some (.ref f35))) (l35 : K.lookup f35 = some ⟨oc35, od35, .func (PySem.W.fnOf "_law_same_dict" "_law_same_dict" (defArgs s_law_same_dict) (defBody s_law_same_dict) (defScope s_law_same_dict) .none kV35 dc35 pm35 an35 cd35 ct35), sl35⟩)
    (c35 : PySem.W.codeIn K cd35 "_law_same_dict" = true) (k35 : PySem.W.keepIn K (.ref f35) = true)
    {f36 : Addr} {od36 an36 : Option Addr} {sl36 : Array (Option Value)} {oc36 kV36 dc36 pm36 cd36 ct36 : Value}
    (a36 : PySem.W.nsIn K mainGlobals "law" = some (some (.ref f36))) (l36 : K.lookup f36 = some ⟨oc36, od36, .func (PySem.W.fnOf "law" "law" (defArgs s_law) (defBody s_law) (defScope s_law) .none kV36 dc36 pm36 an36 cd36 ct36), sl36⟩)
    (c36 : PySem.W.codeIn K cd36 "law" = true) (k36 : PySem.W.keepIn K (.ref f36) = true)
    (z_abs : PySem.W.nsIn K mainGlobals "abs" = some none)
    (z_all : PySem.W.nsIn K mainGlobals "all" = some none)
    (z_bool : PySem.W.nsIn K mainGlobals "bool" = some none)
    (z_dict : PySem.W.nsIn K mainGlobals "dict" = some none)
    (z_int : PySem.W.nsIn K mainGlobals "int" = some none)
    (z_isinstance : PySem.W.nsIn K mainGlobals "isinstance" = some none)
    (z_len : PySem.W.nsIn K mainGlobals "len" = some none)
    (z_list : PySem.W.nsIn K mainGlobals "list" = some none)
    (z_max : PySem.W.nsIn K mainGlobals "max" = some none)
    (z_min : PySem.W.nsIn K mainGlobals "min" = some none)
    (z_range : PySem.W.nsIn K mainGlobals "range" = some none)
    (z_sorted : PySem.W.nsIn K mainGlobals "sorted" = some none)
    (z_str : PySem.W.nsIn K mainGlobals "str" = some none)
    (z_sum : PySem.W.nsIn K mainGlobals "sum" = some none)
    (z_tuple : PySem.W.nsIn K mainGlobals "tuple" = some none)
    (z_zip : PySem.W.nsIn K mainGlobals "zip" = some none)
    : ∃ fd : FuncData, (∀ (s : Shared) (v : Value), BindsTo s fd ⟨[v], []⟩ [("script", v)]) ∧ ∀ base : Heap, K.In base → base.Ns mainGlobals mg → FnOk l.prog w K mg base CX0 14 fa fd ["script"] (AF.spLaw K) := by
  have e := hfa.symm.trans (PySem.W.mg_of X G a36)
  cases e
  let T : Tx K mg := {
    d_is_scroller := ⟨_, _, fun_mk (st := s_is_scroller) l0 c0 k0, (fun_mk (st := s_is_scroller) l0 c0 k0).binds fun _ _ _ _ _ _ us hl => match us, hl with | [_], _ => rfl, PySem.W.mg_of X G a0⟩
    d_number_of := ⟨_, _, fun_mk (st := s_number_of) l1 c1 k1, (fun_mk (st := s_number_of) l1 c1 k1).binds fun _ _ _ _ _ _ us hl => match us, hl with | [_], _ => rfl, PySem.W.mg_of X G a1⟩
    d_height_of := ⟨_, _, fun_mk (st := s_height_of) l2 c2 k2, (fun_mk (st := s_height_of) l2 c2 k2).binds fun _ _ _ _ _ _ us hl => match us, hl with | [_], _ => rfl, PySem.W.mg_of X G a2⟩
    d_parts_of := ⟨_, _, fun_mk (st := s_parts_of) l3 c3 k3, (fun_mk (st := s_parts_of) l3 c3 k3).binds fun _ _ _ _ _ _ us hl => match us, hl with | [_], _ => rfl, PySem.W.mg_of X G a3⟩
    d_all_boxes := ⟨_, _, fun_mk (st := s_all_boxes) l4 c4 k4, (fun_mk (st := s_all_boxes) l4 c4 k4).binds fun _ _ _ _ _ _ us hl => match us, hl with | [_], _ => rfl, PySem.W.mg_of X G a4⟩
    d_find := ⟨_, _, fun_mk (st := s_find) l5 c5 k5, (fun_mk (st := s_find) l5 c5 k5).binds fun _ _ _ _ _ _ us hl => match us, hl with | [_, _], _ => rfl, PySem.W.mg_of X G a5⟩
    d_places := ⟨_, _, fun_mk (st := s_places) l6 c6 k6, (fun_mk (st := s_places) l6 c6 k6).binds fun _ _ _ _ _ _ us hl => match us, hl with | [_], _ => rfl, PySem.W.mg_of X G a6⟩
    d_length_of := ⟨_, _, fun_mk (st := s_length_of) l7 c7 k7, (fun_mk (st := s_length_of) l7 c7 k7).binds fun _ _ _ _ _ _ us hl => match us, hl with | [_], _ => rfl, PySem.W.mg_of X G a7⟩
    d_range_of := ⟨_, _, fun_mk (st := s_range_of) l8 c8 k8, (fun_mk (st := s_range_of) l8 c8 k8).binds fun _ _ _ _ _ _ us hl => match us, hl with | [_], _ => rfl, PySem.W.mg_of X G a8⟩
    d_ranges := ⟨_, _, fun_mk (st := s_ranges) l9 c9 k9, (fun_mk (st := s_ranges) l9 c9 k9).binds fun _ _ _ _ _ _ us hl => match us, hl with | [_], _ => rfl, PySem.W.mg_of X G a9⟩
    d_nearest := ⟨_, _, fun_mk (st := s_nearest) l10 c10 k10, (fun_mk (st := s_nearest) l10 c10 k10).binds fun _ _ _ _ _ _ us hl => match us, hl with | [_, _], _ => rfl, PySem.W.mg_of X G a10⟩
    d_fitted := ⟨_, _, fun_mk (st := s_fitted) l11 c11 k11, (fun_mk (st := s_fitted) l11 c11 k11).binds fun _ _ _ _ _ _ us hl => match us, hl with | [_, _], _ => rfl, PySem.W.mg_of X G a11⟩
    d_anchor := ⟨_, _, fun_mk (st := s_anchor) l12 c12 k12, (fun_mk (st := s_anchor) l12 c12 k12).binds fun _ _ _ _ _ _ us hl => match us, hl with | [_, _], _ => rfl, PySem.W.mg_of X G a12⟩
    d_offsets_after := ⟨_, _, fun_mk (st := s_offsets_after) l13 c13 k13, (fun_mk (st := s_offsets_after) l13 c13 k13).binds fun _ _ _ _ _ _ us hl => match us, hl with | [_, _, _], _ => rfl, PySem.W.mg_of X G a13⟩
    d_shift_of_anchor := ⟨_, _, fun_mk (st := s_shift_of_anchor) l14 c14 k14, (fun_mk (st := s_shift_of_anchor) l14 c14 k14).binds fun _ _ _ _ _ _ us hl => match us, hl with | [_, _, _], _ => rfl, PySem.W.mg_of X G a14⟩
    d_places_by_number := ⟨_, _, fun_mk (st := s_places_by_number) l15 c15 k15, (fun_mk (st := s_places_by_number) l15 c15 k15).binds fun _ _ _ _ _ _ us hl => match us, hl with | [_], _ => rfl, PySem.W.mg_of X G a15⟩
    d_law_draw := ⟨_, _, fun_mk (st := s_law_draw) l16 c16 k16, (fun_mk (st := s_law_draw) l16 c16 k16).binds fun _ _ _ _ _ _ us hl => match us, hl with | [_], _ => rfl, PySem.W.mg_of X G a16⟩
    d_law_next := ⟨_, _, fun_mk (st := s_law_next) l17 c17 k17, (fun_mk (st := s_law_next) l17 c17 k17).binds fun _ _ _ _ _ _ us hl => match us, hl with | [_, _], _ => rfl, PySem.W.mg_of X G a17⟩
    d_law_same := ⟨_, _, fun_mk (st := s_law_same) l18 c18 k18, (fun_mk (st := s_law_same) l18 c18 k18).binds fun _ _ _ _ _ _ us hl => match us, hl with | [_, _], _ => rfl, PySem.W.mg_of X G a18⟩
    d_law_box := ⟨_, _, fun_mk (st := s_law_box) l19 c19 k19, (fun_mk (st := s_law_box) l19 c19 k19).binds fun _ _ _ _ _ _ us hl => match us, hl with | [_, _, _], _ => rfl, PySem.W.mg_of X G a19⟩
    d_law_document := ⟨_, _, fun_mk (st := s_law_document) l20 c20 k20, (fun_mk (st := s_law_document) l20 c20 k20).binds fun _ _ _ _ _ _ us hl => match us, hl with | [_], _ => rfl, PySem.W.mg_of X G a20⟩
    d_law_all := ⟨_, _, fun_mk (st := s_law_all) l21 c21 k21, (fun_mk (st := s_law_all) l21 c21 k21).binds fun _ _ _ _ _ _ us hl => match us, hl with | [_], _ => rfl, PySem.W.mg_of X G a21⟩
    d_law_length := ⟨_, _, fun_mk (st := s_law_length) l22 c22 k22, (fun_mk (st := s_law_length) l22 c22 k22).binds fun _ _ _ _ _ _ us hl => match us, hl with | [_], _ => rfl, PySem.W.mg_of X G a22⟩
    d_law_range := ⟨_, _, fun_mk (st := s_law_range) l23 c23 k23, (fun_mk (st := s_law_range) l23 c23 k23).binds fun _ _ _ _ _ _ us hl => match us, hl with | [_], _ => rfl, PySem.W.mg_of X G a23⟩
    d_law_offsets := ⟨_, _, fun_mk (st := s_law_offsets) l24 c24 k24, (fun_mk (st := s_law_offsets) l24 c24 k24).binds fun _ _ _ _ _ _ us hl => match us, hl with | [_, _], _ => rfl, PySem.W.mg_of X G a24⟩
    d_law_named := ⟨_, _, fun_mk (st := s_law_named) l25 c25 k25, (fun_mk (st := s_law_named) l25 c25 k25).binds fun _ _ _ _ _ _ us hl => match us, hl with | [_, _], _ => rfl, PySem.W.mg_of X G a25⟩
    d_law_depth := ⟨_, _, fun_mk (st := s_law_depth) l26 c26 k26, (fun_mk (st := s_law_depth) l26 c26 k26).binds fun _ _ _ _ _ _ us hl => match us, hl with | [_], _ => rfl, PySem.W.mg_of X G a26⟩
    d_law_is_document := ⟨_, _, fun_mk (st := s_law_is_document) l27 c27 k27, (fun_mk (st := s_law_is_document) l27 c27 k27).binds fun _ _ _ _ _ _ us hl => match us, hl with | [_], _ => rfl, PySem.W.mg_of X G a27⟩
    d_law_part := ⟨_, _, fun_mk (st := s_law_part) l28 c28 k28, (fun_mk (st := s_law_part) l28 c28 k28).binds fun _ _ _ _ _ _ us hl => match us, hl with | [_, _, _], _ => rfl, PySem.W.mg_of X G a28⟩
    d_law_edit := ⟨_, _, fun_mk (st := s_law_edit) l29 c29 k29, (fun_mk (st := s_law_edit) l29 c29 k29).binds fun _ _ _ _ _ _ us hl => match us, hl with | [_, _], _ => rfl, PySem.W.mg_of X G a29⟩
    d_law_with := ⟨_, _, fun_mk (st := s_law_with) l30 c30 k30, (fun_mk (st := s_law_with) l30 c30 k30).binds fun _ _ _ _ _ _ us hl => match us, hl with | [_, _], _ => rfl, PySem.W.mg_of X G a30⟩
    d_law_edited := ⟨_, _, fun_mk (st := s_law_edited) l31 c31 k31, (fun_mk (st := s_law_edited) l31 c31 k31).binds fun _ _ _ _ _ _ us hl => match us, hl with | [_, _], _ => rfl, PySem.W.mg_of X G a31⟩
    d_law_place := ⟨_, _, fun_mk (st := s_law_place) l32 c32 k32, (fun_mk (st := s_law_place) l32 c32 k32).binds fun _ _ _ _ _ _ us hl => match us, hl with | [_, _], _ => rfl, PySem.W.mg_of X G a32⟩
    d_law_anchor := ⟨_, _, fun_mk (st := s_law_anchor) l33 c33 k33, (fun_mk (st := s_law_anchor) l33 c33 k33).binds fun _ _ _ _ _ _ us hl => match us, hl with | [_, _], _ => rfl, PySem.W.mg_of X G a33⟩
    d_law_after := ⟨_, _, fun_mk (st := s_law_after) l34 c34 k34, (fun_mk (st := s_law_after) l34 c34 k34).binds fun _ _ _ _ _ _ us hl => match us, hl with | [_, _, _], _ => rfl, PySem.W.mg_of X G a34⟩
    d_law_same_dict := ⟨_, _, fun_mk (st := s_law_same_dict) l35 c35 k35, (fun_mk (st := s_law_same_dict) l35 c35 k35).binds fun _ _ _ _ _ _ us hl => match us, hl with | [_, _], _ => rfl, PySem.W.mg_of X G a35⟩
    d_law := ⟨_, _, fun_mk (st := s_law) l36 c36 k36, (fun_mk (st := s_law) l36 c36 k36).binds fun _ _ _ _ _ _ us hl => match us, hl with | [_], _ => rfl, PySem.W.mg_of X G a36⟩
    z_abs := PySem.W.mg_none_of X G z_abs
    z_all := PySem.W.mg_none_of X G z_all
    z_bool := PySem.W.mg_none_of X G z_bool
    z_dict := PySem.W.mg_none_of X G z_dict
    z_int := PySem.W.mg_none_of X G z_int
    z_isinstance := PySem.W.mg_none_of X G z_isinstance
    z_len := PySem.W.mg_none_of X G z_len
    z_list := PySem.W.mg_none_of X G z_list
    z_max := PySem.W.mg_none_of X G z_max
    z_min := PySem.W.mg_none_of X G z_min
    z_range := PySem.W.mg_none_of X G z_range
    z_sorted := PySem.W.mg_none_of X G z_sorted
    z_str := PySem.W.mg_none_of X G z_str
    z_sum := PySem.W.mg_none_of X G z_sum
    z_tuple := PySem.W.mg_none_of X G z_tuple
    z_zip := PySem.W.mg_none_of X G z_zip
  }
  exact ⟨T.d_law.fd, fun s v => .of_eq rfl, fun base _ _ => ok_all T⟩
end K08
open PySem PySem.W PyProof.Rows K08
set_option maxRecDepth 100000 in
set_option maxHeartbeats 0 in
theorem PySem.Challenge.cw_asyncframes_k08_what_is_looked_at_stays_holds : PySem.Challenge.rw_asyncframes_k08_what_is_looked_at_stays.Holds := by
  w_on; o_law; k_head; (case hw => w_witness2)
  k_fill
  refine AF.walk_law (k := 14) (l := PySem.Challenge.rw_asyncframes_k08_what_is_looked_at_stays) rfl rfl (by decide) (fun w h Y => PySem.W.kIn_of Y) ?F
  case F =>
    intro w mg fa h KX G hmg
    refine' all_mk KX G hmg ?a0 ?l0 ?c0 ?k0 ?a1 ?l1 ?c1 ?k1 ?a2 ?l2 ?c2 ?k2 ?a3 ?l3 ?c3 ?k3 ?a4 ?l4 ?c4 ?k4 ?a5 ?l5 ?c5 ?k5 ?a6 ?l6 ?c6 ?k6 ?a7 ?l7 ?c7 ?k7 ?a8 ?l8 ?c8 ?k8 ?a9 ?l9 ?c9 ?k9 ?a10 ?l10 ?c10 ?k10 ?a11 ?l11 ?c11 ?k11 ?a12 ?l12 ?c12 ?k12 ?a13 ?l13 ?c13 ?k13 ?a14 ?l14 ?c14 ?k14 ?a15 ?l15 ?c15 ?k15 ?a16 ?l16 ?c16 ?k16 ?a17 ?l17 ?c17 ?k17 ?a18 ?l18 ?c18 ?k18 ?a19 ?l19 ?c19 ?k19 ?a20 ?l20 ?c20 ?k20 ?a21 ?l21 ?c21 ?k21 ?a22 ?l22 ?c22 ?k22 ?a23 ?l23 ?c23 ?k23 ?a24 ?l24 ?c24 ?k24 ?a25 ?l25 ?c25 ?k25 ?a26 ?l26 ?c26 ?k26 ?a27 ?l27 ?c27 ?k27 ?a28 ?l28 ?c28 ?k28 ?a29 ?l29 ?c29 ?k29 ?a30 ?l30 ?c30 ?k30 ?a31 ?l31 ?c31 ?k31 ?a32 ?l32 ?c32 ?k32 ?a33 ?l33 ?c33 ?k33 ?a34 ?l34 ?c34 ?k34 ?a35 ?l35 ?c35 ?k35 ?a36 ?l36 ?c36 ?k36   ?z_abs ?z_all ?z_bool ?z_dict ?z_int ?z_isinstance ?z_len ?z_list ?z_max ?z_min ?z_range ?z_sorted ?z_str ?z_sum ?z_tuple ?z_zip
    (case a0 => k_is); (case l0 => k_is); (case c0 => k_is); (case k0 => k_is)
    (case a1 => k_is); (case l1 => k_is); (case c1 => k_is); (case k1 => k_is)
    (case a2 => k_is); (case l2 => k_is); (case c2 => k_is); (case k2 => k_is)
    (case a3 => k_is); (case l3 => k_is); (case c3 => k_is); (case k3 => k_is)
    (case a4 => k_is); (case l4 => k_is); (case c4 => k_is); (case k4 => k_is)
    (case a5 => k_is); (case l5 => k_is); (case c5 => k_is); (case k5 => k_is)
    (case a6 => k_is); (case l6 => k_is); (case c6 => k_is); (case k6 => k_is)
    (case a7 => k_is); (case l7 => k_is); (case c7 => k_is); (case k7 => k_is)
    (case a8 => k_is); (case l8 => k_is); (case c8 => k_is); (case k8 => k_is)
    (case a9 => k_is); (case l9 => k_is); (case c9 => k_is); (case k9 => k_is)
    (case a10 => k_is); (case l10 => k_is); (case c10 => k_is); (case k10 => k_is)
    (case a11 => k_is); (case l11 => k_is); (case c11 => k_is); (case k11 => k_is)
    (case a12 => k_is); (case l12 => k_is); (case c12 => k_is); (case k12 => k_is)
    (case a13 => k_is); (case l13 => k_is); (case c13 => k_is); (case k13 => k_is)
    (case a14 => k_is); (case l14 => k_is); (case c14 => k_is); (case k14 => k_is)
    (case a15 => k_is); (case l15 => k_is); (case c15 => k_is); (case k15 => k_is)
    (case a16 => k_is); (case l16 => k_is); (case c16 => k_is); (case k16 => k_is)
    (case a17 => k_is); (case l17 => k_is); (case c17 => k_is); (case k17 => k_is)
    (case a18 => k_is); (case l18 => k_is); (case c18 => k_is); (case k18 => k_is)
    (case a19 => k_is); (case l19 => k_is); (case c19 => k_is); (case k19 => k_is)
    (case a20 => k_is); (case l20 => k_is); (case c20 => k_is); (case k20 => k_is)
    (case a21 => k_is); (case l21 => k_is); (case c21 => k_is); (case k21 => k_is)
    (case a22 => k_is); (case l22 => k_is); (case c22 => k_is); (case k22 => k_is)
    (case a23 => k_is); (case l23 => k_is); (case c23 => k_is); (case k23 => k_is)
    (case a24 => k_is); (case l24 => k_is); (case c24 => k_is); (case k24 => k_is)
    (case a25 => k_is); (case l25 => k_is); (case c25 => k_is); (case k25 => k_is)
    (case a26 => k_is); (case l26 => k_is); (case c26 => k_is); (case k26 => k_is)
    (case a27 => k_is); (case l27 => k_is); (case c27 => k_is); (case k27 => k_is)
    (case a28 => k_is); (case l28 => k_is); (case c28 => k_is); (case k28 => k_is)
    (case a29 => k_is); (case l29 => k_is); (case c29 => k_is); (case k29 => k_is)
    (case a30 => k_is); (case l30 => k_is); (case c30 => k_is); (case k30 => k_is)
    (case a31 => k_is); (case l31 => k_is); (case c31 => k_is); (case k31 => k_is)
    (case a32 => k_is); (case l32 => k_is); (case c32 => k_is); (case k32 => k_is)
    (case a33 => k_is); (case l33 => k_is); (case c33 => k_is); (case k33 => k_is)
    (case a34 => k_is); (case l34 => k_is); (case c34 => k_is); (case k34 => k_is)
    (case a35 => k_is); (case l35 => k_is); (case c35 => k_is); (case k35 => k_is)
    (case a36 => k_is); (case l36 => k_is); (case c36 => k_is); (case k36 => k_is)
    (case z_abs => k_is)
    (case z_all => k_is)
    (case z_bool => k_is)
    (case z_dict => k_is)
    (case z_int => k_is)
    (case z_isinstance => k_is)
    (case z_len => k_is)
    (case z_list => k_is)
    (case z_max => k_is)
    (case z_min => k_is)
    (case z_range => k_is)
    (case z_sorted => k_is)
    (case z_str => k_is)
    (case z_sum => k_is)
    (case z_tuple => k_is)
    (case z_zip => k_is)
