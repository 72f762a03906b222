import PyProof.Rows.All
import Wide.All
import OpenK.AllK
import Wide.FinOn
import HandS.ForMost
import HandS.IsInst
import HandS.StrMore
import HandS.Flow
import HandS.TupAny
import HandS.More
import HandS.Walk
import HandS.Zip
import PyProof.TypeEq
import KE.KExcInit
import HandS.ExcInit
import HandS.ExcField
import KE.KExcIs
import PyProof.ReprRoads
import HandS.Wide
import PySem.Challenge.RW_lateclasses_k30_exceptions
set_option Elab.async false
set_option linter.all false
set_option maxRecDepth 100000
set_option maxHeartbeats 4000000
namespace Kit
open PySem PySem.Spec PyProof.Rows L2

/-! ### calls -/
/-- a def of the top that is ready to be called -/
structure Cal (P : Program) (w : World) (K : PySem.W.Frag) (mg : Str → Option Value) (base : Heap) (k : Nat) (x : Str) (ps : List Str) (sp : Sp) : Prop where
  ex : ∃ (f : Addr) (fd : FuncData), FnOk P w K mg base CX0 k f fd ps sp ∧ mg x = some (.ref f) ∧ PySem.W.keepIn K (.ref f) = true ∧ Binds K fd ps []
section
variable {X : Cx} {x : Str} {e : Expr} {es : List Expr} {t : TA} {p pos : Pos} {k j : Nat} {ps : List Str} {sp : Sp}
theorem pcall (C : Cal X.prog X.w X.K X.mg X.base k x ps sp) (hr : Room j X.A) (hk : k ≤ j) (hg : Gl X x) (ha : PA X (e :: es) t) (hdb : (x == ("__debug__" : Str)) = false := by decide)
    (he : starEach (e :: es) X.env = (false, eval e X.env) :: starEach es X.env := by rfl) (hpl : (backTo pos (starEach es X.env)).any (·.1) = false := by rfl) :
    PE X (.Call (.Name x p) (e :: es) [] pos) (tCall sp [] E0 t) := by
  obtain ⟨f, fd, F, hm, hkp, hb⟩ := C.ex
  exact pe_call F (hr.mono hk) hg hm hkp hb .nil pass0 ha hdb he hpl
theorem pcall0 (C : Cal X.prog X.w X.K X.mg X.base k x ps sp) (hr : Room j X.A) (hk : k ≤ j) (hg : Gl X x) (hdb : (x == ("__debug__" : Str)) = false := by decide) :
    PE X (.Call (.Name x p) [] [] pos) (tCall sp [] E0 tNil) := by
  obtain ⟨f, fd, F, hm, hkp, hb⟩ := C.ex
  exact pe_call0 F (hr.mono hk) hg hm hkp hb .nil pass0 hdb
theorem callOr {f : Value} {r r' : List V → Hp → VK → Prop} (h : CallR X f r) (h' : CallR X f r') : CallR X f (fun xs H Q => r xs H Q ∨ r' xs H Q) := fun pins s σ H xs us Q I rv q =>
  q.elim (h pins s σ H xs us Q I rv) (h' pins s σ H xs us Q I rv)
/-- a name of the top that holds a plain value -/
def GlobV (mg : Str → Option Value) (x : Str) (v : V) : Prop := ∃ u, mg x = some u ∧ RelV v u
theorem pglob {v : V} (hg : Gl X x) (h : GlobV X.mg x v) (hdb : (x == ("__debug__" : Str)) = false := by decide) : PE X (.Name x pos) (tC v) := by
  obtain ⟨u, hm, r⟩ := h
  exact pe_glob hg hm r hdb
theorem pbty {n : String} (hg : Gl X x) (hm : X.mg x = none) (hv : bootBuiltins x = some (.type n)) (hn : x ≠ "__name__" := by decide) (hdb : (x == ("__debug__" : Str)) = false := by decide) : PE X (.Name x pos) (tC (.ty n)) :=
  pe_bltn hg hm hv rfl hn hdb

/-! ### == of types -/
def tyK (a : String) : Bool := ["int", "str", "bool", "NoneType", "float", "list", "tuple", "dict"].contains a
theorem tyT (s : Shared) {a : String} (h : tyK a = true) : s.TypeIs (.type a) "type" := by
  have e : a = "int" ∨ a = "str" ∨ a = "bool" ∨ a = "NoneType" ∨ a = "float" ∨ a = "list" ∨ a = "tuple" ∨ a = "dict" := by
    simpa [tyK] using h
  rcases e with rfl | rfl | rfl | rfl | rfl | rfl | rfl | rfl
  · exact TypeEq.meta_int s
  · exact TypeEq.meta_str s
  · exact TypeEq.meta_bool s
  · exact TypeEq.meta_NoneType s
  · exact TypeEq.meta_float s
  · exact TypeEq.meta_list s
  · exact TypeEq.meta_tuple s
  · exact TypeEq.meta_dict s
def rTyEq (neg : Bool) : R2 := fun x y H Q => ∃ a b, x = .ty a ∧ y = .ty b ∧ tyK a = true ∧ tyK b = true ∧ Q (.bl (if neg then !decide (a = b) else decide (a = b))) H
theorem op_eqTy : OpR X (compareOp .Eq) (rTyEq false) := by
  intro pins s σ H x y v u Q I rx ry h
  obtain ⟨a, b, rfl, rfl, ha, hb, q⟩ := h
  cases (show v = Value.type a from rx)
  cases (show u = Value.type b from ry)
  by_cases e : a = b
  · subst e
    refine TypeEq.eq_type_same (fun s' => tyT s' ha) ⟨.bl true, H, I, rfl, ?_⟩
    simpa using q
  · refine TypeEq.eq_type_other (fun s' => tyT s' ha) (fun s' => tyT s' hb) ?_ ⟨.bl false, H, I, rfl, ?_⟩
    · rw [ty_beq]; exact decide_eq_false e
    · simpa [e] using q
end
theorem slot_type_ne : Slot "type" (cmpInfo .NotEq).2.1 "object.__ne__" :=
  .of (owner := "object") (n := "__ne__") (by rw [typeLookup_type, builtinLookup_eq_fast]; kernel_rfl) (by decide +kernel) (by decide +kernel) (by decide +kernel)
    (by first | exact .inl (by decide +kernel) | exact .inr (by decide +kernel)) (by rw [isSubtype_type]; kernel_rfl)
theorem slot_type_ne_refl : Slot "type" (cmpInfo .NotEq).2.2 "object.__ne__" :=
  .of (owner := "object") (n := "__ne__") (by rw [typeLookup_type, builtinLookup_eq_fast]; kernel_rfl) (by decide +kernel) (by decide +kernel) (by decide +kernel)
    (by first | exact .inl (by decide +kernel) | exact .inr (by decide +kernel)) (by rw [isSubtype_type]; kernel_rfl)
theorem slot_ty_eq : Slot "type" "__eq__" "object.__eq__" := TypeEq.slot_type_eq
theorem slot_ty_ne : Slot "type" "__ne__" "object.__ne__" := slot_type_ne
section
variable {prog : Program} {w : World} {A : Around} {E : Value → Shared → Prop} {s : Shared}
theorem objNe_type_same {a : String} (ha : tyK a = true) {Q : Fin → Shared → Prop} (hq : Q (.done (.ret (.bool false))) s) : wpAny (model prog w) A (Builtin.«object.__ne__» ⟨[.type a, .type a], []⟩) Q E s := by
  unfold Builtin.«object.__ne__»
  repeat (first
    | with_reducible refine wpAny_cRoomFor_or (.inl rfl) ?_
    | (with_reducible refine wpAny_callSpecialIfBound?_slot (tyT s ha) slot_ty_eq (call_gives slot_ty_eq (tyT s ha) F.entry_object_eq (F.args_object_eq_2 _ _) (TypeEq.object_eq_same rfl (by simp)) ?_))
    | wp_step)
  show wpAny _ _ (do let x ← truthy (.bool true); ret (Value.bool !x)) _ _ _
  exact wpAny_bind (wpAny_truthy_bool (wpAny_pure hq))
theorem objNe_type_other {a b : String} (ha : tyK a = true) (hne : (Value.type a == Value.type b) = false) {Q : Fin → Shared → Prop} (hq : Q (.done (.ret .notImplemented)) s) : wpAny (model prog w) A (Builtin.«object.__ne__» ⟨[.type a, .type b], []⟩) Q E s := by
  unfold Builtin.«object.__ne__»
  repeat (first
    | with_reducible refine wpAny_cRoomFor_or (.inl rfl) ?_
    | (with_reducible refine wpAny_callSpecialIfBound?_slot (tyT s ha) slot_ty_eq (call_gives slot_ty_eq (tyT s ha) F.entry_object_eq (F.args_object_eq_2 _ _) (TypeEq.object_eq_other rfl hne) ?_))
    | wp_step)
  exact wpAny_pure hq
theorem rc_ne_decline {a b : Value} {T id : String} {k : Bool} {Q : Value → Shared → Prop} (ha : ∀ s' : Shared, s'.TypeIs a T) (hb : ∀ s' : Shared, s'.TypeIs b T)
    (h1 : Slot T (cmpInfo .NotEq).2.1 id) (h2 : Slot T (cmpInfo .NotEq).2.2 id) (hv : [a, b].any Value.onHeap = false) (hk : isSame a b = pure k) {M : Model}
    (hc : wpAny M A (call (.builtin id) [a, b]) (fun v s₁ => v = .notImplemented ∧ wpAny M A (call (.builtin id) [b, a]) (fun v s₂ => v = .notImplemented ∧ Q (.bool (!k)) s₂) E s₁) E s) :
    wpAny M A (richCompare .NotEq a b) Q E s := by
  rcases hi : cmpInfo CmpOp.NotEq with ⟨sym, f, r⟩
  rw [hi] at h1 h2
  simp only [richCompare, hi, (ha s).oneThing_none]
  try with_reducible refine wpAny_holding ?_
  refine wpAny_bind (wpAny_cRoomFor_or (.inl hv) ?_)
  refine wpAny_bind (wpAny_typeOf (ha s) (wpAny_bind (wpAny_typeOf (hb s) ?_)))
  simp only [bne_self_eq_false, Bool.false_eq_true, if_false, pure_bind, Bool.not_false, if_true]
  refine wpAny_bind (m := tryCompare a _ b) (wpAny_tryCompare_declines (ha s) h1 (wpAny_mono hc (fun v s₁ h₁ => ⟨h₁.1, ?_⟩) fun _ _ x => x))
  refine wpAny_bind (m := tryCompare b _ a) (wpAny_tryCompare_declines (hb s₁) h2 (wpAny_mono h₁.2 (fun v s₂ h₂ => ⟨h₂.1, ?_⟩) fun _ _ x => x))
  refine wpAny_bind (wpAny_rule (wpAny_bind (wpAny_of_eq hk (wpAny_pure h₂.2))))
theorem args_ne (a b : Value) : argsOk "object.__ne__" ⟨[a, b], []⟩ := by unfold argsOk; kernel_rfl
theorem ne_type_same {a : String} (ha : tyK a = true) {Q : Value → Shared → Prop} (h : Q (.bool false) s) : wpAny (model prog w) A (compareOp .NotEq (.type a) (.type a)) Q E s := by
  show wpAny _ A (richCompare .NotEq _ _) Q E s
  exact wpAny_richCompare_same (T := "type") (tyT s ha) (tyT s ha) slot_type_ne
    (wpAny_call_entry slot_type_ne (tyT s ha) F.cmpEntry_ne (objNe_type_same ha ⟨_, rfl, (by intro e; cases e), h⟩) (args_ne _ _))
theorem ne_type_other {a b : String} (ha : tyK a = true) (hb : tyK b = true) (hne : (Value.type a == Value.type b) = false) {Q : Value → Shared → Prop} (h : Q (.bool true) s) : wpAny (model prog w) A (compareOp .NotEq (.type a) (.type b)) Q E s := by
  have hne' : (Value.type b == Value.type a) = false := by
    rw [Bool.eq_false_iff] at hne ⊢
    intro e
    exact hne (by rw [beq_iff_eq] at e ⊢; exact e.symm)
  show wpAny _ A (richCompare .NotEq _ _) Q E s
  exact rc_ne_decline (T := "type") (k := false) (fun s' => tyT s' ha) (fun s' => tyT s' hb) slot_type_ne slot_type_ne_refl rfl (by rw [isSame_plain rfl, hne])
    (wpAny_call_entry slot_type_ne (tyT s ha) F.cmpEntry_ne (objNe_type_other ha hne ⟨_, rfl, rfl,
      wpAny_call_entry slot_type_ne_refl (tyT s hb) F.cmpEntry_ne (objNe_type_other hb hne' ⟨_, rfl, rfl, h⟩) (args_ne _ _)⟩) (args_ne _ _))
end
section
variable {X : Cx}
theorem op_neTy : OpR X (compareOp .NotEq) (rTyEq true) := by
  intro pins s σ H x y v u Q I rx ry h
  obtain ⟨a, b, rfl, rfl, ha, hb, q⟩ := h
  cases (show v = Value.type a from rx)
  cases (show u = Value.type b from ry)
  by_cases e : a = b
  · subst e
    refine ne_type_same ha ⟨.bl false, H, I, rfl, ?_⟩
    simpa using q
  · refine ne_type_other ha hb ?_ ⟨.bl true, H, I, rfl, ?_⟩
    · rw [ty_beq]; exact decide_eq_false e
    · simpa [e] using q

/-! ### operators whatever the kinds -/
theorem opAdd : OpR X (binaryOp .Add) (fun x y H Q => rI0 (fun i j => .int (i + j)) x y H Q ∨ (∃ i j, x = .str i ∧ y = .str j ∧ i.length + j.length ≤ sizeLine ∧ Q (.str (i ++ j)) H) ∨ rCat x y H Q ∨ rCatA X.K x y H Q) :=
  op_add.or (op_add_str.or (op_cat.or op_catA))
variable {j : Nat}
theorem opEq (hr : X.A.units + 64 < cLine) : OpR X (compareOp .Eq) (fun x y H Q => rEq x y H Q ∨ rTyEq false x y H Q ∨ rEqD X.K x y H Q) := op_eq.or (op_eqTy.or (op_eqD hr))
theorem opNe (hr : X.A.units + 64 < cLine) : OpR X (compareOp .NotEq) (fun x y H Q => rNe x y H Q ∨ rTyEq true x y H Q ∨ rNeD X.K x y H Q) := op_ne.or (op_neTy.or (op_neD hr))
theorem opLt : OpR X (compareOp .Lt) (fun x y H Q => rI0 (fun i j => .bl (decide (i < j))) x y H Q ∨ (∃ i j, x = .str i ∧ y = .str j ∧ Q (.bl (decide (i.cps.toList < j.cps.toList))) H)) := op_lt.or op_lt_str
theorem opLe : OpR X (compareOp .LtE) (fun x y H Q => rI0 (fun i j => .bl (decide (i ≤ j))) x y H Q ∨ (∃ i j, x = .str i ∧ y = .str j ∧ Q (.bl (!decide (j.cps.toList < i.cps.toList))) H)) := op_le.or op_le_str
theorem opGt : OpR X (compareOp .Gt) (fun x y H Q => rI0 (fun i j => .bl (decide (j < i))) x y H Q ∨ (∃ i j, x = .str i ∧ y = .str j ∧ Q (.bl (decide (j.cps.toList < i.cps.toList))) H)) := op_gt.or op_gt_str
theorem opGe : OpR X (compareOp .GtE) (fun x y H Q => rI0 (fun i j => .bl (decide (j ≤ i))) x y H Q ∨ (∃ i j, x = .str i ∧ y = .str j ∧ Q (.bl (!decide (i.cps.toList < j.cps.toList))) H)) := op_ge.or op_ge_str
theorem callMax (hc : X.calm = true := by rfl) : CallR X (.builtin "max") (fun xs H Q => ∃ i j, xs = [.int i, .int j] ∧ Q (.int (if j > i then j else i)) H) := call_max2 hc
theorem callMin (hc : X.calm = true := by rfl) : CallR X (.builtin "min") (fun xs H Q => ∃ i j, xs = [.int i, .int j] ∧ Q (.int (if j < i then j else i)) H) := call_min2 hc
theorem callAll (hc : X.calm = true := by rfl) : CallR X (.builtin "all") (rAll X.K) := cr_all hc
theorem callAny (hc : X.calm = true := by rfl) : CallR X (.builtin "any") (rAny X.K) := cr_any hc
theorem callIsi : CallR X (.builtin "isinstance") (rIsi X.K) := call_isi
theorem ixU : IxR X (rIx X.K) := ix_seq
theorem slU : SlR X (fun x lo hi H Q => rSlL X.K x lo hi H Q ∨ rSlS x lo hi H Q ∨ rSlA X.K x lo hi H Q) := sl_list.or (sl_str.or sl_tupA)
def rLenU (K : PySem.W.Frag) : List V → Hp → VK → Prop := fun xs H Q => (∃ p ys, xs = [.ref p] ∧ (SqL K H p ys ∨ SqT K H p ys) ∧ Q (.int ys.length) H) ∨ (∃ z, xs = [.str z] ∧ z.length ≤ sizeLine ∧ Q (.int z.length) H)
theorem callLen : CallR X (.builtin "len") (rLenU X.K) := callOr call_len_seq call_len_str
end
/-- built-in names that the top leaves alone -/
structure Bi (mg : Str → Option Value) : Prop where
  b_len : mg "len" = none
  b_max : mg "max" = none
  b_min : mg "min" = none
  b_int : mg "int" = none
  b_str : mg "str" = none
  b_bool : mg "bool" = none
  b_list : mg "list" = none
  b_tuple : mg "tuple" = none
  b_dict : mg "dict" = none
  b_type : mg "type" = none
  b_isinstance : mg "isinstance" = none
  b_all : mg "all" = none
  b_any : mg "any" = none
  b_range : mg "range" = none
  b_zip : mg "zip" = none
  b_repr : mg "repr" = none
  b_set : mg "set" = none
end Kit

open PySem PySem.Spec PyProof.Rows L2
/-! own errors that stand over Exception, made, held, read -/
namespace Kit
def exB : List Value := [.type "Exception", .type "BaseException", .type "object"]
/-- what is asked of the class at C, in one word -/
def errB (K : PySem.W.Frag) (C : Addr) : Bool :=
  PySem.W.excInitIn K C exB "Exception.__new__" && (PySem.W.excOver K C exB && (PySem.W.hasDictIn K C &&
    (decide (PySem.W.findIn K (.ref C) "__setattr__" = some (some (.builtin "object.__setattr__"))) && (PySem.W.keepIn K (.ref C) &&
      (decide (PySem.W.subIn K (.ref C) (.type "BaseException") = some true) && (decide (PySem.W.typeIn K (.ref C) = some (.type "type")) &&
        (decide (PySem.W.findIn K (.ref C) "__getattribute__" = some (some (.builtin "BaseException.__getattribute__"))) && (decide (PySem.W.findIn K (.ref C) "__getattr__" = some none) &&
          (decide (PySem.W.findIn K (.ref C) "__class__" = some (some (.builtin "object.__class__"))) && (decide (PySem.W.specialIn K (.builtin "object.__class__") "__get__" = some (some (.builtin "getset_descriptor.__get__"))) &&
            (decide (PySem.W.takesIn K (.builtin "object.__class__") = some true) && decide (PySem.W.mroIn K C (.type "object") = some true))))))))))))
structure ErrC (K : PySem.W.Frag) (C : Addr) : Prop where
  lay : PySem.W.excInitIn K C exB "Exception.__new__" = true
  ov : PySem.W.excOver K C exB = true
  hd : PySem.W.hasDictIn K C = true
  sa : PySem.W.findIn K (.ref C) "__setattr__" = some (some (.builtin "object.__setattr__"))
  kp : PySem.W.keepIn K (.ref C) = true
  bs : PySem.W.subIn K (.ref C) (.type "BaseException") = some true
  ty : PySem.W.typeIn K (.ref C) = some (.type "type")
  ga : PySem.W.findIn K (.ref C) "__getattribute__" = some (some (.builtin "BaseException.__getattribute__"))
  gg : PySem.W.findIn K (.ref C) "__getattr__" = some none
  ic : PySem.W.findIn K (.ref C) "__class__" = some (some (.builtin "object.__class__"))
  isp : PySem.W.specialIn K (.builtin "object.__class__") "__get__" = some (some (.builtin "getset_descriptor.__get__"))
  itk : PySem.W.takesIn K (.builtin "object.__class__") = some true
  imr : PySem.W.mroIn K C (.type "object") = some true
theorem errB_ok {K : PySem.W.Frag} {C : Addr} (h : errB K C = true) : ErrC K C := by
  unfold errB at h
  simp only [Bool.and_eq_true, decide_eq_true_eq] at h
  obtain ⟨a, b, c, d, e, f, g, i, j, k, l, m, n⟩ := h
  exact ⟨a, b, c, d, e, f, g, i, j, k, l, m, n⟩
theorem ErrC.xf {K : PySem.W.Frag} {C : Addr} (T : ErrC K C) : XfC K C := ⟨T.ga, T.gg, T.bs, T.hd⟩
theorem taker_none {K : PySem.W.Frag} {C : Addr} {f : Str} (h : PySem.W.findIn K (.ref C) f = some none) : PySem.W.takerIn K C f = some none := by
  unfold PySem.W.takerIn
  rw [h]
  rfl
/-- the record of an error -/
abbrev erO (C t : Addr) (d : Option Addr) : Obj := { cls := .ref C, dict := d, data := .fields #[.ref t, .none, .none, .none, .bool false, .none] }
section
variable {prog : Program} {w : World} {A : Around} {R : Result → Shared → Prop} {hp : Heap} {g : Array GenState} {d : Drawn} {t : Nat} {os : OsState}
/-- object.__setattr__ of a fresh error: its dict is made -/
theorem err_store {K : PySem.W.Frag} {C x t0 : Addr} {name : Str} {tk : Tok} {v : Value} (T : ErrC K C) (X : K.In hp) (hx : hp.get? x = some (erO C t0 none)) (hf : PySem.W.findIn K (.ref C) name = some none)
    (hq : ∀ h' tk' dx, (∀ b o, b ≠ x → hp.get? b = some o → h'.get? b = some o) → hp.objs.size ≤ dx → dx ≠ x → h'.get? x = some (erO C t0 (some dx)) → h'.Ns1 dx (fun y => if y = name then some v else none) →
      R (.ok (.ret .none)) ⟨h', g, d, tk', os⟩) :
    codeAny (model prog w) A (.call (.builtin "object.__setattr__") ⟨[.ref x, .str name tk, v], []⟩) R ⟨hp, g, d, t, os⟩ := by
  have far : x ≠ hp.objs.size := Nat.ne_of_lt (Heap.lt_size hx)
  refine PySem.W.osa_openX (s := ⟨hp, g, d, t, os⟩) (od := none) F.store_Exception X ⟨hx, rfl, rfl, trivial⟩ T.ov (taker_none hf) fun b => ?_
  obtain ⟨cd, hc, hd'⟩ := PySem.W.any_some T.hd
  refine wpAny_bind (wpAny_pure (wpAny_bind (PySem.W.instanceDict_exc (s := ⟨hp, g, d, t, os⟩) (c2 := .none) hx (PySem.W.looks_clsIn X hc) hd' ?_)))
  refine HandSPX.store_in_new (dx := hp.objs.size) ?_ fun h' tk' hn' hs => ?_
  · refine ⟨_, #[], 0, (Heap.get?_update_ne _ _ _ _ far.symm).trans (Heap.get?_push_at rfl rfl), rfl, fun e he => absurd he (by simp), fun _ => rfl⟩
  · have old : ∀ b o, hp.get? b = some o → (hp.push (PySem.W.dictOf [] 0)).get? b = some o := fun b o e => Heap.get?_push_of_some _ e
    refine hq h' tk' hp.objs.size (fun b o nb e => ?_) (Nat.le_refl _) far.symm ?_ hn'
    · rw [hs.2 b (Nat.ne_of_lt (Heap.lt_size e))]
      exact (Heap.get?_update_ne _ _ _ _ nb).trans (old b o e)
    · rw [hs.2 x far]
      exact Heap.get?_update_self _ (old x _ hx) rfl
end
section
variable {fs : List Addr} {H : Hp} {h h' : Heap} {a dx : Addr} {o0 o1 o2 : HO}
/-- a tracked object is written and a new one laid beside it -/
theorem Un.beside (e : H a = some o0) (n1 : ∀ xs, o0 ≠ .tup xs) (n2 : ∀ o u, o0 ≠ .frz o u) (n3 : ∀ ps, o0 ≠ .tbl ps) (hd : H dx = none) (hn : h.objs.size ≤ dx) (k : ∀ b o, b ≠ a → h.get? b = some o → h'.get? b = some o) (ha : ∃ o, h'.get? a = some o) :
    Un fs [] H (upd (upd H dx o1) a o2) h h' := by
  have nd : ∀ {b : Addr} {o : Obj}, h.get? b = some o → b ≠ dx := fun q => Nat.ne_of_lt (Nat.lt_of_lt_of_le (Heap.lt_size q) hn)
  have na : ∀ {b : Addr}, H b = none → b ≠ a := fun {b} n z => by rw [z, e] at n; cases n
  have tr : ∀ {b : Addr} {u : HO}, H b = some u → u ≠ o0 → upd (upd H dx o1) a o2 b = some u := fun {b u} q ne => by
    have hb : b ≠ a := fun z => by rw [z, e] at q; exact ne (Option.some.inj q).symm
    rw [upd_ne hb, upd_ne (ne_of_none q hd)]
    exact q
  constructor
  · intro b o q n _ _
    exact k b o (na n) q
  · intro b o q n _ _
    exact ⟨o.slots, k b o (na n) q⟩
  · intro b o q n _
    rw [upd_ne (na n), upd_ne (nd q)]
    exact n
  · intro b o q _
    by_cases hb : b = a
    · rw [hb]
      exact ha
    · exact ⟨o, k b o hb q⟩
  · exact fun b xs q => tr q (fun z => n1 xs z.symm)
  · exact fun b o u q => tr q (fun z => n2 o u z.symm)
  · exact fun b ps q => ⟨#[], by rw [tr q (fun z => n3 ps z.symm)]; simp⟩
end
section
variable {X : Cx} {pins : List (Addr × Obj)} {σ : L2.St} {H : Hp} {s : Shared} {a C dx : Addr} {f : Str} {y : V} {u : Value} {fs : List (Str × V)} {Q : Unit → Shared → Prop} {E : Value → Shared → Prop}
/-- self.f = y, the first one of a new error -/
theorem err_first (T : ErrC X.K C) (I : Inv X pins σ H s) (e : H a = some (exo a C none)) (hno : PySem.W.findIn X.K (.ref C) f = some none) (ry : RelV y u)
    (h : ∀ dx s', H dx = none → dx ≠ a → Inv X pins σ (upd (upd H dx (exd dx [(f, y)])) a (exo a C (some dx))) s' → Q () s') : wpAny (model X.prog X.w) X.A (setAttr (.ref a) f u) Q E s := by
  obtain ⟨t1, ho⟩ := exo_at I.hok e
  obtain ⟨hp, g, d, t, os⟩ := s
  refine PySem.W.set_plain (od := none) I.kIn ⟨ho, rfl, rfl, trivial⟩ T.sa (err_store T I.kIn ho hno fun h' tk' dx k dn dne hx hn => ?_)
  have hnd : H dx = none := I.hok.fresh dn
  refine h dx _ hnd dne (I.un (t' := tk') (Un.beside e (fun _ => exo_tup) (fun _ _ => exo_frz) (fun _ => exo_tbl) hnd dn k ⟨_, hx⟩) fun b o q => ?_)
  by_cases hb : b = a
  · subst hb
    rw [upd_same] at q
    cases q
    exact exo_ok hx
  rw [upd_ne hb] at q
  by_cases hd : b = dx
  · subst hd
    rw [upd_same] at q
    cases q
    exact exd_ok hn (relO_put (fs := []) ry fun g => True.intro)
  rw [upd_ne hd] at q
  refine (I.hok b o q).stay (fun c v hc z => k c v ?_ z) (fun c hc => ?_) fun c xs hc => ?_
  · rcases hc with hc | hc
    · rw [hc]
      exact hb
    · exact at_ne e hc exo_own
  · rw [upd_ne (at_ne e hc exo_own), upd_ne (ne_of_none hc hnd)]
    exact hc
  · rw [upd_ne (at_ne e hc exo_tup), upd_ne (ne_of_none hc hnd)]
    exact hc
end
section
variable {X : Cx} {pins : List (Addr × Obj)} {σ : L2.St} {H : Hp} {s : Shared} {a C dx : Addr} {f : Str} {y : V} {u : Value} {fs : List (Str × V)} {Q : Unit → Shared → Prop} {E : Value → Shared → Prop}
/-- self.f = y, a further one -/
theorem err_more (T : ErrC X.K C) (I : Inv X pins σ H s) (e : H a = some (exo a C (some dx))) (ed : H dx = some (exd dx fs)) (hl : fs.length ≤ 900) (hno : PySem.W.findIn X.K (.ref C) f = some none) (ry : RelV y u)
    (h : ∀ s', Inv X pins σ (upd H dx (exd dx ((f, y) :: fs))) s' → Q () s') : wpAny (model X.prog X.w) X.A (setAttr (.ref a) f u) Q E s := by
  obtain ⟨t1, ho⟩ := exo_at I.hok e
  obtain ⟨mA, hns, rel⟩ := exd_at I.hok ed
  obtain ⟨oD, _, _, hoD, _, _⟩ := hns.count (within_of rel)
  obtain ⟨hp, g, d, t, os⟩ := s
  obtain ⟨cd, hc, hd'⟩ := PySem.W.any_some T.hd
  have L : PySem.W.Looks (model X.prog X.w) hp (classData C) cd := PySem.W.looks_clsIn I.kIn hc
  refine PySem.W.set_plain (od := some oD) I.kIn ⟨ho, rfl, rfl, hoD⟩ T.sa (PySem.W.osa_openX (s := ⟨hp, g, d, t + 1, os⟩) (od := some oD) F.store_Exception I.kIn ⟨ho, rfl, rfl, hoD⟩ T.ov (taker_none hno) fun b => ?_)
  refine wpAny_bind (wpAny_pure (wpAny_bind (wpAny_bind (wpAny_loadPart ho (wpAny_bind (L.at ?_))))))
  rw [hd']
  refine wpAny_pure (a := some dx) (OEX.store_in_old hns (within_of rel) (by rw [List.length_map]; omega) fun h' tk' hn sb => ?_)
  have there : ∃ o, h'.get? dx = some o := by
    obtain ⟨o, _, _, e', _⟩ := hn
    exact ⟨o, e'⟩
  exact h _ (I.write (t' := tk') (x := dx) (e := dx) (o := exd dx ((f, y) :: fs)) (by rw [ed]; trivial) (.inl rfl) (fun b o nb q => (sb.2 b nb).trans q) there (exd_ok hn (relO_put ry rel)))
end
/-- the reading of self.f = e in the __init__ of an error -/
def tErSt (K : PySem.W.Frag) (f : Str) (to te : TE) : TS := fun D σ H => te σ H fun y H1 => to σ H1 fun x H2 => ∃ a C : Addr, x = .ref a ∧ ErrC K C ∧ PySem.W.findIn K (.ref C) f = some none ∧
  ((H2 a = some (exo a C none) ∧ ∀ dx, H2 dx = none → dx ≠ a → D.nx σ (upd (upd H2 dx (exd dx [(f, y)])) a (exo a C (some dx)))) ∨
    ∃ (dx : Addr) (fs : List (Str × V)), H2 a = some (exo a C (some dx)) ∧ H2 dx = some (exd dx fs) ∧ fs.length ≤ 900 ∧ D.nx σ (upd H2 dx (exd dx ((f, y) :: fs))))
section
variable {X : Cx} {o e : Expr} {es : List Expr} {to te : TE} {ta : TA} {f x : Str} {p p' pos : Pos} {C fI : Addr} {k j : Nat} {fd : FuncData} {ps : List Str} {sp : Sp}
theorem ps_err (ho : PE X o to) (he : PE X e te) (hs : swapsWith e (some (.Attribute o f p')) pos.line X.env = pure false := by rfl) : PS X (.Assign [.Attribute o f p'] e pos) (tErSt X.K f to te) := by
  constructor
  intro pins s σ H D I h
  refine plainObj_wpAny_Assign_Attribute (thn (he.run pins s σ H _ I h) fun v s1 ⟨y, H1, I1, r1, q1⟩ => thn (ho.run pins s1 σ H1 _ I1 q1) fun u s2 ⟨x, H2, I2, r2, a, C, ex, T, hno, q⟩ => ?_) hs
  subst ex
  cases (show u = Value.ref a from r2)
  rcases q with ⟨ea, q⟩ | ⟨dx, fs, ea, ed, hl, q⟩
  · exact err_first T I2 ea hno r1 fun dx s' n ne J => ⟨σ, _, J, q dx n ne⟩
  · exact err_more T I2 ea ed hl hno r1 fun s' J => ⟨σ, _, J, q⟩
/-- an own error of the top that is ready to be made -/
structure ErCal (P : Program) (w : World) (K : PySem.W.Frag) (mg : Str → Option Value) (base : Heap) (k : Nat) (x : Str) (C : Addr) (ps : List Str) (sp : Sp) : Prop where
  T : ErrC K C
  ex : ∃ (f : Addr) (fd : FuncData), PySem.W.findIn K (.ref C) "__init__" = some (some (.ref f)) ∧ PySem.W.typeIn K (.ref f) = some (.type "function") ∧ FnOk P w K mg base CX0 k f fd ps sp ∧ mg x = some (.ref C) ∧ Binds K fd ps []
theorem err_open {pins : List (Addr × Obj)} {σ : L2.St} {H : Hp} {s : Shared} {us : List Value} {vs : List V} {Q : Addr → VK} {R : Value → Shared → Prop} (M : ErCal X.prog X.w X.K X.mg X.base k x C ps sp) (hr : Room (k + 1) X.A) (I : Inv X pins σ H s) (r : Vals vs us) (hl : vs.length ≤ 1000)
    (hsp : ∀ a, H a = none → sp (.ref a :: vs) (upd H a (exo a C none)) (Q a) E0)
    (fin : ∀ a h2 u s', H a = none → s.heap.objs.size ≤ a → (∀ b o, s.heap.get? b = some o → h2.get? b = some o) → Inv X pins σ (upd H a (exo a C none)) { s with heap := h2 } → CE X.stack X.prog X.w (upd H a (exo a C none)) { s with heap := h2 } (Q a) u s' → u = .none ∧ R (.ref a) s') :
    wpAny (model X.prog X.w) X.A (call (.ref C) us) R X.xe s := by
  obtain ⟨fI, fd, iC, tI, F1, hm, hb⟩ := M.ex
  obtain ⟨nm, N, qn, bs, bm, hdct, sn, sub, ab, col, dd, k0, k1, k2, k3, k5, hC, hT⟩ := PySem.W.excInit_of I.kIn M.T.lay
  obtain ⟨hp, g, dr, tk, os⟩ := s
  have big : hp.objs.size ≤ hp.objs.size + 1 := Nat.le_succ _
  have hn : H (hp.objs.size + 1) = none := I.hok.fresh big
  have hq := hsp (hp.objs.size + 1) hn
  have old : ∀ b o, hp.get? b = some o → ((hp.push (PySem.W.kdv_tup us)).push (HandSPX.excO C hp.objs.size)).get? b = some o := fun b o e => Heap.get?_push_of_some _ (Heap.get?_push_of_some _ e)
  have new : ((hp.push (PySem.W.kdv_tup us)).push (HandSPX.excO C hp.objs.size)).get? (hp.objs.size + 1) = some (HandSPX.excO C hp.objs.size) := by heap_get
  have I2 := I.laid (t' := tk) (a := hp.objs.size + 1) (o := exo (hp.objs.size + 1) C none) old big (exo_ok new)
  have r2 : Vals (V.ref (hp.objs.size + 1) :: vs) (Value.ref (hp.objs.size + 1) :: us) := .cons rfl r
  have len : (Value.ref (hp.objs.size + 1) :: us).length = ps.length := by
    rw [← r2.length]
    exact F1.len _ _ _ _ hq
  have room : us.length ≤ sizeLine := by
    rw [← Paired.length r, sizeLine_eq]
    omega
  have bnd := hb ⟨_, g, dr, tk, os⟩ (Value.ref (hp.objs.size + 1) :: us) I2.kIn (by rw [List.append_nil]; exact len)
  rw [List.append_nil] at bnd
  refine wpAny_call (HandSPX.call_own F.excBase_Exception hT hC (PySem.W.looks_findIn I.kIn iC) (fun self => PySem.W.bind_fn I.kIn self tI) room (codeAny_mono (F1.run _ X.stack _ _ ⟨Value.ref (hp.objs.size + 1) :: us, []⟩ _ _ _ E0 (hr.make C us []) (I2.env0.make C us []) bnd r2 hq) fun r s' hq' => ?_))
  cases r with
  | error er => exact False.elim hq'
  | ok fl =>
    cases fl with
    | ret u => exact fin _ _ u s' hn big old I2 hq'
    | next => exact False.elim hq'
    | brk => exact False.elim hq'
    | cont => exact False.elim hq'
/-- C(e, ..), an own error, as a value -/
def tErV (C : Addr) (sp : Sp) (ta : TA) : TE := fun σ H Q => ta σ H fun vs H1 => vs.length ≤ 1000 ∧ ∀ a, H1 a = none → sp (.ref a :: vs) (upd H1 a (exo a C none)) (fun v H2 => v = .non ∧ Q (.ref a) H2) E0
theorem pe_err (M : ErCal X.prog X.w X.K X.mg X.base k x C ps sp) (hr : Room j X.A) (hk : k + 1 ≤ j) (hg : Gl X x) (ha : PA X (e :: es) ta) (hdb : (x == ("__debug__" : Str)) = false := by decide)
    (he : starEach (e :: es) X.env = (false, eval e X.env) :: starEach es X.env := by rfl) (hpl : (backTo pos (starEach es X.env)).any (·.1) = false := by rfl) : PE X (.Call (.Name x p) (e :: es) [] pos) (tErV C sp ta) := by
  constructor
  intro pins s σ H Q I h
  obtain ⟨_, _, _, _, _, hm, _⟩ := M.ex
  refine wpAny_Call_Name_kw (ld_glob I hg hm (PySem.W.callWith_K (h₀ := X.base) I.ok.mod.kin M.T.kp (thn (ha.run pos pins s σ H _ I h) fun us s1 ⟨vs, H1, I1, r1, hz, q⟩ => ⟨I1.kIn, ?_⟩) he hpl) hdb)
  refine err_open M (hr.mono hk) I1 r1 hz q fun a h2 u s' _ _ _ J c => ?_
  obtain ⟨v, H', I3, rv, ev, q3⟩ := J.after c
  subst ev
  exact ⟨rv, V.ref a, H', I3, rfl, q3⟩
/-- C(e, ..), an own error that is raised -/
def tErR (C : Addr) (sp : Sp) (ta : TA) : L2.St → Hp → XK → Prop := fun σ H Q => ta σ H fun vs H1 => vs.length ≤ 1000 ∧ ∀ a, H1 a = none → sp (.ref a :: vs) (upd H1 a (exo a C none))
  (fun v H2 => v = .non ∧ ∃ (d : Addr) (fs : List (Str × V)), H2 a = some (exo a C (some d)) ∧ H2 d = some (exd d fs) ∧ H1 d = none ∧ Q (.ref C) (some d) (upd (del H2 a) d (.xd fs))) E0
theorem pmk_err (M : ErCal X.prog X.w X.K X.mg X.base k x C ps sp) (hr : Room j X.A) (hk : k + 1 ≤ j) (hg : Gl X x) (ha : PA X (e :: es) ta) (hdb : (x == ("__debug__" : Str)) = false := by decide)
    (he : starEach (e :: es) X.env = (false, eval e X.env) :: starEach es X.env := by rfl) (hpl : (backTo pos (starEach es X.env)).any (·.1) = false := by rfl) : PMk X (.Call (.Name x p) (e :: es) [] pos) (tErR C sp ta) := by
  intro pins s σ H Q I h
  obtain ⟨_, _, _, _, _, hm, _⟩ := M.ex
  refine wpAny_Call_Name_kw (ld_glob I hg hm (PySem.W.callWith_K (h₀ := X.base) I.ok.mod.kin M.T.kp (thn (ha.run pos pins s σ H _ I h) fun us s1 ⟨vs, H1, I1, r1, hz, q⟩ => ⟨I1.kIn, ?_⟩) he hpl) hdb)
  obtain ⟨hp, g, dr, tk, os⟩ := s1
  refine err_open M (hr.mono hk) I1 r1 hz q fun a hp2 u s' _ big old J c => ?_
  obtain ⟨v, H2, os2, bare2, un2, hok2, rv, ev, d, fs, ea, ed, hd1, q2⟩ := c
  subst ev
  obtain ⟨h2, g2, d2, t2, os'⟩ := s'
  exact ⟨rv, mk_end (raises_own M.T.bs M.T.ty) I1 big old un2 hok2 os2 bare2 ea ed hd1 q2⟩
end
/-! a held error's attribute, and isinstance of it -/
theorem held_at {X : Cx} {pins : List (Addr × Obj)} {σ : L2.St} {H : Hp} {s : Shared} {a C dx : Addr} {fs : List (Str × V)} (I : Inv X pins σ H s) (e : H a = some (exo a C (some dx))) (ed : H dx = some (exd dx fs)) :
    ∃ (o od : Obj) (mA : Str → Option Value), PySem.W.InstAt s.heap a o C (some od) ∧ (∀ n, PySem.W.lookIn n od = some (mA n)) ∧ ∀ n, RelO (fs.lookup n) (mA n) := by
  obtain ⟨t1, ho⟩ := exo_at I.hok e
  obtain ⟨mA, hns, rel⟩ := exd_at I.hok ed
  obtain ⟨od, hod, hl⟩ := lookIn_ns hns
  exact ⟨_, od, mA, ⟨ho, rfl, rfl, hod⟩, hl, rel⟩
def tErAt (K : PySem.W.Frag) (f : Str) (te : TE) : TE := fun σ H Q => te σ H fun x H1 => ∃ (a C dx : Addr) (fs : List (Str × V)) (v : V), x = .ref a ∧ ErrC K C ∧ PySem.W.findIn K (.ref C) f = some none ∧ H1 a = some (exo a C (some dx)) ∧ H1 dx = some (exd dx fs) ∧ fs.lookup f = some v ∧ Q v H1
theorem pe_erAt {X : Cx} {e : Expr} {te : TE} {pos : Pos} {n : Str} (he : PE X e te) (hb : attributeBase e n X.env (eval e X.env) = eval e X.env := by rfl) : PE X (.Attribute e n pos) (tErAt X.K n te) := by
  constructor
  intro pins s σ H Q I h
  refine attr_of hb (thn (he.run pins s σ H _ I h) fun u s1 ⟨x, H1, I1, rx, a, C, dx, fs, v, ex, T, hno, ea, ed, l, q⟩ => ?_)
  subst ex
  cases (show u = Value.ref a from rx)
  obtain ⟨o, od, mA, J, hl, rel⟩ := held_at I1 ea ed
  obtain ⟨w, hw, rw'⟩ := RelO.some_of (v := v) (o := mA n) (by rw [← l]; exact rel n)
  exact HandSPX.exc_get I1.kIn J T.ga T.gg T.bs (PySem.W.findObj_own T.hd hno rfl (by rw [hl, hw])) (handed_of rw') ⟨v, H1, I1.tok _, rw', q⟩
theorem ErrC.kit {K : PySem.W.Frag} {C x : Addr} {ox : Obj} {od : Option Obj} (T : ErrC K C) : PySem.W.KitX K (.ref x) (.ref C) (fun h => PySem.W.InstAt h x ox C od) :=
  PySem.W.kitx_exc (gt := none) (by obtain ⟨cd, hc, _⟩ := PySem.W.any_some T.hd; rw [hc]; rfl) T.ga T.gg T.bs T.ic T.isp T.itk T.imr
def rErIs (K : PySem.W.Frag) : List V → Hp → VK → Prop := fun xs H Q => ∃ (a C dx : Addr) (fs : List (Str × V)) (c : V) (u : Value) (b : Bool), xs = [.ref a, c] ∧ ErrC K C ∧ H a = some (exo a C (some dx)) ∧ H dx = some (exd dx fs) ∧ ClsV c u ∧ PySem.W.kitOne K (.ref C) u = some b ∧ Q (.bl b) H
theorem call_erIs {X : Cx} : CallR X (.builtin "isinstance") (rErIs X.K) := by
  intro pins s σ H xs us Q I r h
  obtain ⟨a, C, dx, fs, c, u, b, rfl, T, ea, ed, k, e, q⟩ := h
  obtain ⟨u1, u2, rfl, r1, r2⟩ := vals2 r
  cases k.eq r2
  cases (show u1 = Value.ref a from r1)
  obtain ⟨o, od, mA, J, _, _⟩ := held_at I ea ed
  exact PySem.W.kia_one T.kit I.kIn J e (fun z => nomatch z) fun tk => ⟨.bl b, H, I.tok tk, rfl, q⟩
def rErIsT (K : PySem.W.Frag) : List V → Hp → VK → Prop := fun xs H Q => ∃ (a C dx : Addr) (fs : List (Str × V)) (tp : Addr) (cs : List V) (us : List Value) (b : Bool), xs = [.ref a, .ref tp] ∧ ErrC K C ∧ H a = some (exo a C (some dx)) ∧ H dx = some (exd dx fs) ∧ H tp = some (.tup cs) ∧ Paired ClsV cs us ∧ PySem.W.kitAny K (.ref C) us = some b ∧ Q (.bl b) H
theorem call_erIsT {X : Cx} : CallR X (.builtin "isinstance") (rErIsT X.K) := by
  intro pins s σ H xs us Q I r h
  obtain ⟨a, C, dx, fs, tp, cs, ws, b, rfl, T, ea, ed, hT, k, e, q⟩ := h
  obtain ⟨u1, u2, rfl, r1, r2⟩ := vals2 r
  cases (show u2 = Value.ref tp from r2)
  cases (show u1 = Value.ref a from r1)
  obtain ⟨o, od, mA, J, _, _⟩ := held_at I ea ed
  obtain ⟨_, its, rv, ⟨oc, odd, dt, sl⟩, h1, h2, n, h3⟩ := (show ObjOk X.prog X.w H s.heap tp (.tup cs) from I.hok tp _ hT)
  cases ClsV.all k rv
  dsimp only at h2 h3
  subst h2 h3
  exact PySem.W.kia_tup T.kit I.kIn J h1 e (fun z => nomatch z) fun tk => ⟨.bl b, H, I.tok tk, rfl, q⟩
/-- the error that an except suite holds -/
def rErIsC (K : PySem.W.Frag) (a : Addr) (cls : Value) : List V → Hp → VK → Prop := fun xs H Q => ∃ (c : V) (u : Value) (b : Bool) (C dx : Addr) (fs : List (Str × V)), xs = [.ref a, c] ∧ cls = .ref C ∧ ErrC K C ∧ H dx = some (.xd fs) ∧ ClsV c u ∧ PySem.W.kitOne K (.ref C) u = some b ∧ Q (.bl b) H
theorem call_erIsC {X : Cx} {a : Addr} {oe : Obj} {cls : Value} {d : Addr} {pn : List (Addr × Obj)} (hz : Zc cls (some d) oe) (hf : ∃ vs, oe.data = .fields vs) : CallR (X.suite a ((a, oe) :: pn)) (.builtin "isinstance") (fun xs H Q => ∃ fs, H d = some (.xd fs) ∧ rErIsC X.K a cls xs H Q) := by
  intro pins s σ H xs us Q I r h
  obtain ⟨fs, hd, c, u, b, C, dx, fs', rfl, rfl, T, _, k, e, q⟩ := h
  obtain ⟨u1, u2, rfl, r1, r2⟩ := vals2 r
  cases k.eq r2
  cases (show u1 = Value.ref a from r1)
  obtain ⟨ha, _⟩ := I.pin (a, oe) (List.mem_append_left _ List.mem_cons_self)
  obtain ⟨vs, hv⟩ := hf
  obtain ⟨mA, hns, _⟩ := (show ObjOk X.prog X.w H s.heap d (.xd fs) from I.hok d _ hd)
  obtain ⟨od, hod, _⟩ := lookIn_ns hns
  have J : PySem.W.InstAt s.heap a oe C (some od) := ⟨ha, hz.1, by unfold PySem.W.notCls; rw [hv] <;> rfl, by rw [hz.2]; exact hod⟩
  exact PySem.W.kia_one T.kit I.kIn J e (fun z => nomatch z) fun tk => ⟨.bl b, H, I.tok tk, rfl, q⟩
end Kit

open PySem PySem.Spec PyProof.Rows L2
/-! promises of defs that may say repr of things: no repr is under way where they are called -/
namespace Kit
structure FnG (P : Program) (w : World) (K : PySem.W.Frag) (mg : Str → Option Value) (base : Heap) (CX : CXT) (k : Nat) (f : Addr) (fd : FuncData) (ps : List Str) (sp : Sp) : Prop where
  len : ∀ vs H Q E, sp vs H Q E → vs.length = ps.length
  run : ∀ (A : Around) (outer : List Env) (s : Shared) (H : Hp) (args : Args) (us : List Value) (vs : List V) (Q : VK) (E : XK),
    A.guards = some [] → Room k A → Env0 P w K mg base A outer s H → BindsTo s fd args (ps.zip us) → Vals vs us → sp vs H Q E → codeAny (model P w) A (.call (.ref f) args) (CR CX outer P w H s Q E) s
section
variable {P : Program} {w : World} {K : PySem.W.Frag} {mg : Str → Option Value} {base : Heap} {CX : CXT} {k : Nat} {f : Addr} {fd : FuncData} {x qual : Str} {N ps : List Str} {sp : Sp} {st : Stmt}
/-- a def by its body -/
theorem okG (F : Fun K x qual st f fd) (S : FnScope N ps (defScope st)) (len : ∀ vs H Q E, sp vs H Q E → vs.length = ps.length)
    (body : ∀ cdv A outer s H vs Q E, A.guards = some [] → Room k (A.deeper (envOfC qual (defScope st) s.heap.objs.size f cdv)) → sp vs H Q E →
      ∃ t, PSs (cxOf CX P w K mg base N qual (defScope st) f cdv A outer s H E) (defBody st) t ∧ t { nx := fun _ H' => Q .non H', rt := Q } (start N vs) H) :
    FnG P w K mg base CX (k + 1) f fd ps sp := by
  obtain ⟨oc, od, kV, doc, pm, an, cdv, ct, osl, rfl, look, code⟩ := F.ex
  constructor
  · exact len
  intro A outer s H args us vs Q E gd hr e0 hb r hsp
  have KX : K.In s.heap := e0.mod.kin.keeps fun b o e => (e0.bs b o e).1
  have kinds : ∀ y ∈ ps.zip us, (defScope st).names.lookup y.1 = some .local ∨ ((defScope st).names.lookup y.1 = some .cell ∧ ((cellsFrom (s.heap.objs.size + 1) (defScope st).names []).lookup y.1).isSome = true) := by
    rintro ⟨n, v⟩ hy
    exact (S.par n (List.of_mem_zip hy).1).imp id fun q => ⟨q, PySem.W.cellsFrom_some _ _ _ (.inl q)⟩
  refine codeAny_call_function hr.depth (KX _ _ look) rfl S.co S.gen rfl (PySem.W.codeRec_of KX code)
    (hb _ _ _ _ (wpAny_newFunctionEnv_cells S.kind kinds fun env he s1 z => ?_))
  subst he
  refine ⟨(e0.mod.nolimit.keeps fun b o e => (e0.bs b o e).1).keeps z.toInCall.keep, codeAny_func ?_⟩
  obtain ⟨t, ht, hq⟩ := body cdv A outer s H vs Q E gd (hr.deeper _) hsp
  have I : Inv (cxOf CX P w K mg base N qual (defScope st) f cdv A outer s H E) [] (start N vs) H s1 :=
    inv_start S hr.hd e0 (len _ _ _ _ hsp) r z
  have fin : ∀ {σ' : L2.St} {H' : Hp} {v : V} {u : Value} {s' : Shared}, Inv (cxOf CX P w K mg base N qual (defScope st) f cdv A outer s H E) [] σ' H' s' → RelV v u → Q v H' →
      CE outer P w H s Q u s' := fun J rv q => ⟨_, _, J.os, J.bare, J.base, J.hok, rv, q⟩
  refine wpAny_mono (ht.run [] s1 (start N vs) H _ I hq) (fun fl s' hs => ?_) fun e s' hs => hs
  cases fl with
  | next =>
    obtain ⟨_, _, J, q⟩ := hs
    exact fin (v := V.non) (u := Value.none) J rfl q
  | ret u =>
    obtain ⟨_, _, _, J, rv, q⟩ := hs
    exact fin J rv q
  | brk =>
    obtain ⟨_, _, _, q⟩ := hs
    exact False.elim q
  | cont =>
    obtain ⟨_, _, _, q⟩ := hs
    exact False.elim q
/-- .. nothing leaves it -/
theorem okG0 (F : Fun K x qual st f fd) (S : FnScope N ps (defScope st)) (len : ∀ vs H Q E, sp vs H Q E → vs.length = ps.length)
    (body : ∀ cdv A outer s H vs Q E, A.guards = some [] → Room k (A.deeper (envOfC qual (defScope st) s.heap.objs.size f cdv)) → sp vs H Q E →
      ∃ t, PSs (cxOf CX0 P w K mg base N qual (defScope st) f cdv A outer s H E).nox (defBody st) t ∧ t { nx := fun _ H' => Q .non H', rt := Q } (start N vs) H) :
    FnG P w K mg base CX0 (k + 1) f fd ps sp :=
  okG F S len fun cdv A outer s H vs Q E gd hr h => by
    obtain ⟨t, ht, q⟩ := body cdv A outer s H vs Q E gd hr h
    exact ⟨t, ht.nox, q⟩
end
/-- such a def, ready to be called -/
structure CalG (P : Program) (w : World) (K : PySem.W.Frag) (mg : Str → Option Value) (base : Heap) (k : Nat) (x : Str) (ps : List Str) (sp : Sp) : Prop where
  ex : ∃ (f : Addr) (fd : FuncData), FnG P w K mg base CX0 k f fd ps sp ∧ mg x = some (.ref f) ∧ PySem.W.keepIn K (.ref f) = true ∧ Binds K fd ps []
theorem pcallG {X : Cx} {x : Str} {ps : List Str} {sp : Sp} {k j : Nat} {e : Expr} {es : List Expr} {t : TA} {p pos : Pos} (C : CalG X.prog X.w X.K X.mg X.base k x ps sp) (gd : X.A.guards = some []) (hr : Room j X.A) (hk : k ≤ j) (hg : Gl X x) (ha : PA X (e :: es) t)
    (hdb : (x == ("__debug__" : Str)) = false := by decide) (he : starEach (e :: es) X.env = (false, eval e X.env) :: starEach es X.env := by rfl) (hpl : (backTo pos (starEach es X.env)).any (·.1) = false := by rfl) :
    PE X (.Call (.Name x p) (e :: es) [] pos) (tCall sp [] E0 t) := by
  obtain ⟨f, fd, F, hm, kp, hb⟩ := C.ex
  constructor
  intro pins s σ H Q I h
  refine wpAny_Call_Name_kw (ld_glob I hg hm (PySem.W.callWith_K (h₀ := X.base) I.ok.mod.kin kp (thn (ha.run pos pins s σ H _ I h) fun us s1 ⟨vs, H1, I1, r, q⟩ => ⟨I1.kIn, ?_⟩) he hpl) hdb)
  have hl : us.length = ps.length := by
    rw [← r.length, ← F.len _ _ _ _ q]
    simp
  have bnd := hb s1 us I1.kIn (by rw [List.append_nil]; exact hl)
  rw [List.append_nil] at bnd
  have q : sp vs H1 Q E0 := by simpa using q
  refine wpAny_call (codeAny_mono (F.run X.A X.stack s1 H1 ⟨us, []⟩ us vs Q E0 gd (hr.mono hk) I1.env0 bnd r q) fun r s' hq => ?_)
  rcases r with er | (u | _ | _ | _)
  all_goals first | exact I1.after hq | exact False.elim hq
/-! the law's call: nothing is under way there -/
section
variable {P : Program} {w : World} {K : PySem.W.Frag} {mg mb : Str → Option Value} {k : Nat} {fa a : Addr} {fd : FuncData} {x : Str} {sp : Sp} {s₁ : Shared} {vs : List Value} {ns : List Int}
/-- what the caller of a law wants -/
def Well (s₁ : Shared) (r : Result) (s' : Shared) : Prop := r = .ok (.ret (.bool true)) ∧ OldK s₁.heap s'.heap ∧ s'.os = s₁.os ∧ AllBare s'.gens
theorem enterG {H : Hp} (KX : K.In s₁.heap) (hns : s₁.heap.Ns mainGlobals mg) (hb : s₁.heap.Ns builtinsNs mb) (hbb : ∀ x : Str, x ≠ "__name__" → mb x = bootBuiltins x) (hlim : s₁.heap.NoLimit) (hg : s₁.gens = #[])
    (ha : ∃ o its n, s₁.heap.get? a = some o ∧ o.data = .seq its n) (hr : Room k callerA) (F : ∀ base : Heap, K.In base → base.Ns mainGlobals mg → FnG P w K mg base CX0 k fa fd [x] sp)
    (bind : ∀ (s : Shared) (u : Value), BindsTo s fd ⟨[u], []⟩ [(x, u)]) (only : Only H) (hok : HOk P w H s₁.heap) (one : ∀ b u, H b = some u → b = a ∧ K.lookup a = none) (hsp : sp [.ref a] H (fun v _ => v = .bl true) E0) :
    codeAny (model P w) callerA (.call (.ref fa) ⟨[.ref a], []⟩) (Well s₁) s₁ := by
  obtain ⟨oa, its, n, hoa, hda⟩ := ha
  have free : ∀ {b : Addr} {o : Obj} {es : Array DictEntry} {ep : Nat}, s₁.heap.get? b = some o → o.data = .dict es ep → H b = none := fun {b o es ep} e d => by
    cases q : H b with
    | none => rfl
    | some u =>
      have z := (one b u q).1
      rw [z, hoa] at e
      cases e
      rw [hda] at d
      cases d
  have keep : ∀ {b : Addr} {m : Str → Option Value}, s₁.heap.Ns b m → (hidT s₁.heap H).Ns b m := by
    rintro b m ⟨o, es, ep, e, d, r⟩
    exact ⟨o, es, ep, hidT_get e (free e d), d, r⟩
  have KB : K.In (hidT s₁.heap H) := fun b o e => hidT_get (KX b o e) (by
    cases q : H b with
    | none => rfl
    | some u =>
      obtain ⟨z, y⟩ := one b u q
      rw [z, y] at e
      cases e)
  obtain ⟨mc, l1, l2⟩ := hlim
  have e0 : Env0 P w K mg (hidT s₁.heap H) callerA [] s₁ H :=
    { frames := rfl
      mod := ⟨KB, keep hns, ⟨mb, keep hb, hbb⟩, ⟨mc, keep l1, l2⟩⟩
      bs := fun b o e => of_hidT e
      bsz := Nat.le_of_eq (hidT_size _ _)
      funs := trivial
      frf := fun b hb => nomatch hb
      hok := hok
      bare := .of_eq hg }
  refine codeAny_mono ((F _ KB (keep hns)).run callerA [] s₁ H ⟨[.ref a], []⟩ [.ref a] [.ref a] _ _ rfl hr e0 (bind s₁ (.ref a)) (.cons rfl .nil) hsp) fun r s' h => ?_
  cases r with
  | error e => exact False.elim h
  | ok fl =>
    cases fl with
    | next => exact False.elim h
    | brk => exact False.elim h
    | cont => exact False.elim h
    | ret u =>
      obtain ⟨v, H', os, bare, un, hok', r', q⟩ := h
      cases (show v = V.bl true from q)
      cases (show u = Value.bool true from r')
      refine ⟨rfl, OldK.of_keep fun b o e => ?_, os, bare⟩
      rcases only b with z | ⟨ob, xs, z⟩
      · exact un.keep b o e z (fun y => nomatch y) (fun y => nomatch y)
      · have e1 := (hok b _ z).1
        have e2 := (hok' b _ (un.frzs b ob _ z)).1
        rw [e] at e1
        cases e1
        exact e2
end
theorem walkG {l : PySem.W.OpenLaw} {n k : Nat} {q : Program} {loose : List Str} {XP : (Str → Option Value) → Heap → Prop} {YP : World → Heap → Prop} {d : DefRec} {K : Params → PySem.W.Frag} {sp : World → Sp} {x : Str}
    (hn : l.most = some n) (hn2 : n ≤ sizeLine) (hdf : d.params.defaults = []) (hr : Room k callerA) (hY : ∀ (w : World) (h : Heap), YP w h → (K w.params).In h)
    (F : ∀ (w : World) (mg : Str → Option Value) (fa : Addr) (h : Heap), (K w.params).In h → h.Ns mainGlobals mg → mg d.name = some (.ref fa) →
      ∃ fd : FuncData, (∀ (s : Shared) (u : Value), BindsTo s fd ⟨[u], []⟩ [(x, u)]) ∧ ∀ base : Heap, (K w.params).In base → base.Ns mainGlobals mg → FnG l.prog w (K w.params) mg base CX0 k fa fd [x] (sp w))
    (hsp : ∀ (w : World) (H : Hp) (a : Addr) (ns : List Int), ns.length ≤ n → Only H → SqL (K w.params) H a (ns.map V.int) → sp w [.ref a] H (fun v _ => v = .bl true) E0) :
    PySem.W.WalkO q loose XP YP l.row.toRowW d [] (fun f vs => PySem.call f vs) := by
  refine Att.attach_call hn hdf fun w s₀ s₁ mg mb fa o pm cd doc a vs ns G Y ho hd hcd hmg hobj hints hlen hg => ?_
  have KX := hY w _ Y
  obtain ⟨fd, hb, hF⟩ := F w mg fa _ KX G.T.g hmg
  have rv := vals_ints hints
  have le : ns.length ≤ sizeLine := Nat.le_trans hlen hn2
  have ha : ∃ o its n, s₁.heap.get? a = some o ∧ o.data = .seq its n := ⟨_, _, _, hobj, rfl⟩
  cases hk : (K w.params).lookup a with
  | some ob =>
    have e := KX a ob hk
    rw [hobj] at e
    cases e
    refine enterG (H := fun _ => none) KX G.T.g G.T.b G.T.builtins G.T.nolimit hg ha hr hF hb (fun _ => .inl rfl) (fun b u z => nomatch z) (fun b u z => nomatch z) (hsp w _ a ns hlen (fun _ => .inl rfl) ?_)
    exact .inr ⟨_, vs.toArray, _, hk, rfl, rfl, rfl, by rw [List.size_toArray, hints.length]; exact le, by simpa using rv⟩
  | none =>
    let fz : HO := .frz { cls := .type "list", data := .seq vs.toArray } (.lst (ns.map V.int))
    have at_ : ∀ b u, (if b = a then some fz else none) = some u → b = a ∧ u = fz := fun b u z => by
      by_cases h : b = a
      · rw [if_pos h] at z
        exact ⟨h, (Option.some.inj z).symm⟩
      · rw [if_neg h] at z
        cases z
    have only : Only fun b => if b = a then some fz else none := fun b => by
      by_cases h : b = a
      · exact .inr ⟨_, _, if_pos h⟩
      · exact .inl (if_neg h)
    refine enterG (H := fun b => if b = a then some fz else none) KX G.T.g G.T.b G.T.builtins G.T.nolimit hg ha hr hF hb only (fun b u z => ?_) (fun b u z => ⟨(at_ b u z).1, hk⟩) (hsp w _ a ns hlen only (.inl (.inr ⟨_, if_pos rfl⟩)))
    obtain ⟨rfl, rfl⟩ := at_ b u z
    exact ⟨hobj, by rw [List.length_map]; exact le, vs, _, rv, hobj⟩
end Kit

namespace Kit
open PySem PySem.Spec PyProof.Rows L2
/-! ### the reading, head first -/
section
variable {σ : L2.St} {H H' : Hp} {Q : VK} {K : PySem.W.Frag} {D : Ends} {a b p q : Addr} {o o' : HO}
theorem v_var {i : Nat} {v : V} (h : σ[i]? = some (some v)) (k : Q v H) : tVar i σ H Q := ⟨v, h, k⟩
theorem v_c {v : V} (k : Q v H) : tC v σ H Q := k
theorem v_op {r : R2} {ta tb : TE} (k : ta σ H fun x H1 => tb σ H1 fun y H2 => r x y H2 Q) : tOp r ta tb σ H Q := k
theorem v_un {r : V → Hp → VK → Prop} {ta : TE} (k : ta σ H fun x H1 => r x H1 Q) : tUn r ta σ H Q := k
theorem v_I0 {g : Int → Int → V} {i j : Int} (k : Q (g i j) H) : rI0 g (.int i) (.int j) H Q := ⟨i, j, rfl, rfl, k⟩
theorem v_I {C : Int → Int → Prop} {g : Int → Int → V} {i j : Int} (c : C i j) (k : Q (g i j) H) : rI C g (.int i) (.int j) H Q := ⟨i, j, rfl, rfl, c, k⟩
theorem v_U {g : Int → V} {i : Int} (k : Q (g i) H) : rU g (.int i) H Q := ⟨i, rfl, k⟩
/-- + -/
def rAddU (K : PySem.W.Frag) : R2 := fun x y H Q => rI0 (fun i j => .int (i + j)) x y H Q ∨ (∃ i j, x = .str i ∧ y = .str j ∧ i.length + j.length ≤ sizeLine ∧ Q (.str (i ++ j)) H) ∨ rCat x y H Q ∨ rCatA K x y H Q
theorem opAddU {X : Cx} : OpR X (binaryOp .Add) (rAddU X.K) := opAdd
theorem v_addI {i j : Int} (k : Q (.int (i + j)) H) : rAddU K (.int i) (.int j) H Q := .inl ⟨i, j, rfl, rfl, k⟩
theorem v_addS {i j : Str} (c : i.length + j.length ≤ sizeLine) (k : Q (.str (i ++ j)) H) : rAddU K (.str i) (.str j) H Q := .inr (.inl ⟨i, j, rfl, rfl, c, k⟩)
theorem v_addL {xs ys : List V} (h : H a = some (.lst xs)) (h' : H b = some (.lst ys)) (c : xs.length + ys.length ≤ sizeLine) (k : ∀ p, H p = none → Q (.ref p) (upd H p (.lst (xs ++ ys)))) : rAddU K (.ref a) (.ref b) H Q :=
  .inr (.inr (.inl ⟨a, b, xs, ys, rfl, rfl, h, h', c, k⟩))
theorem v_addT {xs ys : List V} (h : SqT K H a xs) (h' : SqT K H b ys) (c : xs.length + ys.length ≤ sizeLine) (k0 : xs = [] → Q (.ref b) H) (k1 : xs ≠ [] → ys = [] → Q (.ref a) H)
    (k : xs ≠ [] → ys ≠ [] → ∀ p, H p = none → Q (.ref p) (upd H p (.tup (xs ++ ys)))) : rAddU K (.ref a) (.ref b) H Q := .inr (.inr (.inr ⟨a, b, xs, ys, rfl, rfl, h, h', c, k0, k1, k⟩))
/-- ==, != -/
def rEqU (K : PySem.W.Frag) : R2 := fun x y H Q => rEq x y H Q ∨ rTyEq false x y H Q ∨ rEqD K x y H Q
def rNeU (K : PySem.W.Frag) : R2 := fun x y H Q => rNe x y H Q ∨ rTyEq true x y H Q ∨ rNeD K x y H Q
theorem opEqU {X : Cx} (hr : X.A.units + 64 < cLine) : OpR X (compareOp .Eq) (rEqU X.K) := opEq hr
theorem opNeU {X : Cx} (hr : X.A.units + 64 < cLine) : OpR X (compareOp .NotEq) (rNeU X.K) := opNe hr
theorem v_eq {x y : V} (c : scal x y = true) (k : Q (.bl (decide (x = y))) H) : rEqU K x y H Q := .inl ⟨c, k⟩
theorem v_ne {x y : V} (c : scal x y = true) (k : Q (.bl (!decide (x = y))) H) : rNeU K x y H Q := .inl ⟨c, k⟩
theorem v_eqI {i j : Int} (k : Q (.bl (decide (i = j))) H) : rEqU K (.int i) (.int j) H Q := .inl ⟨rfl, by rw [show decide (V.int i = V.int j) = decide (i = j) by simp]; exact k⟩
theorem v_neI {i j : Int} (k : Q (.bl (!decide (i = j))) H) : rNeU K (.int i) (.int j) H Q := .inl ⟨rfl, by rw [show decide (V.int i = V.int j) = decide (i = j) by simp]; exact k⟩
theorem v_eqS {i j : Str} (k : Q (.bl (decide (i = j))) H) : rEqU K (.str i) (.str j) H Q := .inl ⟨rfl, by rw [show decide (V.str i = V.str j) = decide (i = j) by simp]; exact k⟩
theorem v_neS {i j : Str} (k : Q (.bl (!decide (i = j))) H) : rNeU K (.str i) (.str j) H Q := .inl ⟨rfl, by rw [show decide (V.str i = V.str j) = decide (i = j) by simp]; exact k⟩
theorem v_eqB {i j : Bool} (k : Q (.bl (decide (i = j))) H) : rEqU K (.bl i) (.bl j) H Q := .inl ⟨rfl, by rw [show decide (V.bl i = V.bl j) = decide (i = j) by simp]; exact k⟩
theorem v_eqTy {m n : String} (h : tyK m = true) (h' : tyK n = true) (k : Q (.bl (decide (m = n))) H) : rEqU K (.ty m) (.ty n) H Q := .inr (.inl ⟨m, n, rfl, rfl, h, h', k⟩)
theorem v_neTy {m n : String} (h : tyK m = true) (h' : tyK n = true) (k : Q (.bl (!decide (m = n))) H) : rNeU K (.ty m) (.ty n) H Q := .inr (.inl ⟨m, n, rfl, rfl, h, h', k⟩)
theorem v_eqD {x y : V} {d e : PyData} (h : Dp K H x d) (h' : Dp K H y e) (s : SeqAt.shaped d = true) (s' : SeqAt.shaped e = true) (k : Q (.bl (PyData.eqv d e)) H) : rEqU K x y H Q := .inr (.inr ⟨d, e, h, h', s, s', k⟩)
theorem v_neD {x y : V} {d e : PyData} (h : Dp K H x d) (h' : Dp K H y e) (s : SeqAt.shaped d = true) (s' : SeqAt.shaped e = true) (k : Q (.bl (!PyData.eqv d e)) H) : rNeU K x y H Q := .inr (.inr ⟨d, e, h, h', s, s', k⟩)
/-- <, <=, >, >= -/
def rLtU : R2 := fun x y H Q => rI0 (fun i j => .bl (decide (i < j))) x y H Q ∨ (∃ i j, x = .str i ∧ y = .str j ∧ Q (.bl (decide (i.cps.toList < j.cps.toList))) H)
def rLeU : R2 := fun x y H Q => rI0 (fun i j => .bl (decide (i ≤ j))) x y H Q ∨ (∃ i j, x = .str i ∧ y = .str j ∧ Q (.bl (!decide (j.cps.toList < i.cps.toList))) H)
def rGtU : R2 := fun x y H Q => rI0 (fun i j => .bl (decide (j < i))) x y H Q ∨ (∃ i j, x = .str i ∧ y = .str j ∧ Q (.bl (decide (j.cps.toList < i.cps.toList))) H)
def rGeU : R2 := fun x y H Q => rI0 (fun i j => .bl (decide (j ≤ i))) x y H Q ∨ (∃ i j, x = .str i ∧ y = .str j ∧ Q (.bl (!decide (i.cps.toList < j.cps.toList))) H)
theorem opLtU {X : Cx} : OpR X (compareOp .Lt) rLtU := opLt
theorem opLeU {X : Cx} : OpR X (compareOp .LtE) rLeU := opLe
theorem opGtU {X : Cx} : OpR X (compareOp .Gt) rGtU := opGt
theorem opGeU {X : Cx} : OpR X (compareOp .GtE) rGeU := opGe
theorem v_ltI {i j : Int} (k : Q (.bl (decide (i < j))) H) : rLtU (.int i) (.int j) H Q := .inl ⟨i, j, rfl, rfl, k⟩
theorem v_leI {i j : Int} (k : Q (.bl (decide (i ≤ j))) H) : rLeU (.int i) (.int j) H Q := .inl ⟨i, j, rfl, rfl, k⟩
theorem v_gtI {i j : Int} (k : Q (.bl (decide (j < i))) H) : rGtU (.int i) (.int j) H Q := .inl ⟨i, j, rfl, rfl, k⟩
theorem v_geI {i j : Int} (k : Q (.bl (decide (j ≤ i))) H) : rGeU (.int i) (.int j) H Q := .inl ⟨i, j, rfl, rfl, k⟩
theorem v_leS {i j : Str} (k : Q (.bl (!decide (j.cps.toList < i.cps.toList))) H) : rLeU (.str i) (.str j) H Q := .inr ⟨i, j, rfl, rfl, k⟩
theorem v_ltS {i j : Str} (k : Q (.bl (decide (i.cps.toList < j.cps.toList))) H) : rLtU (.str i) (.str j) H Q := .inr ⟨i, j, rfl, rfl, k⟩
/-- xs[i] -/
theorem v_ixL {xs : List V} {i : Int} {v : V} (h : SqL K H a xs) (e : atI xs i = some v) (k : Q v H) : rIx K (.ref a) (.int i) H Q := .inl ⟨a, xs, i, v, rfl, rfl, h, e, k⟩
theorem v_ixT {xs : List V} {i : Int} {v : V} (h : SqT K H a xs) (e : atI xs i = some v) (k : Q v H) : rIx K (.ref a) (.int i) H Q := .inr (.inl ⟨a, xs, i, v, rfl, rfl, h, e, k⟩)
theorem v_ixS {z : Str} {i : Int} {c : Nat} (hz : z.length ≤ sizeLine) (e : atI z.cps.toList i = some c) (k : Q (.str ⟨#[c]⟩) H) : rIx K (.str z) (.int i) H Q := .inr (.inr ⟨z, i, c, rfl, rfl, hz, e, k⟩)
/-- slices -/
def rSlU (K : PySem.W.Frag) : V → Option Int → Option Int → Hp → VK → Prop := fun x lo hi H Q => rSlL K x lo hi H Q ∨ rSlS x lo hi H Q ∨ rSlA K x lo hi H Q
theorem slUU {X : Cx} : SlR X (rSlU X.K) := slU
theorem v_sl {r : V → Option Int → Option Int → Hp → VK → Prop} {te : TE} {tl th : TO} (k : te σ H fun x H1 => tl σ H1 fun l H2 => th σ H2 fun u H3 => r x l u H3 Q) : L2.tSl r te tl th σ H Q := k
theorem v_nopart {Q : Option Int → Hp → Prop} (k : Q none H) : tNoPart σ H Q := k
theorem v_part {t : TE} {Q : Option Int → Hp → Prop} (k : t σ H fun x H1 => ∃ i, x = .int i ∧ Q (some i) H1) : tPart t σ H Q := k
theorem v_partI {i : Int} {R : Int → Prop} (k : R i) : ∃ j, V.int i = .int j ∧ R j := ⟨i, rfl, k⟩
theorem v_slS {z : Str} {lo hi : Option Int} (hz : z.length ≤ sizeLine) (k : Q (.str (cutS z lo hi)) H) : rSlU K (.str z) lo hi H Q := .inr (.inl ⟨z, rfl, hz, k⟩)
theorem v_slL {xs : List V} {lo hi : Option Int} (h : SqL K H a xs) (k : ∀ p, H p = none → Q (.ref p) (upd H p (.lst (cutV xs lo hi)))) : rSlU K (.ref a) lo hi H Q := .inl ⟨a, xs, rfl, h, k⟩
/-- tests -/
theorem v_test {t : TE} {Q : Bool → Hp → Prop} (k : t σ H fun x H' => ∃ k, x = .bl k ∧ Q k H') : tTest t σ H Q := k
theorem v_B {t : TE} {Q : Bool → Hp → Prop} (k : t σ H fun x H' => ∃ k, x = .bl k ∧ Q k H') : tB t σ H Q := k
theorem v_isbl {b : Bool} {P : Bool → Prop} (k : P b) : ∃ c, V.bl b = .bl c ∧ P c := ⟨b, rfl, k⟩
theorem v_and {t u : TT} {Q : Bool → Hp → Prop} (k : t σ H fun c H1 => if c = true then u σ H1 Q else Q false H1) : tAnd t u σ H Q := k
theorem v_or {t u : TT} {Q : Bool → Hp → Prop} (k : t σ H fun c H1 => if c = true then Q true H1 else u σ H1 Q) : tOr t u σ H Q := k
theorem v_not {t : TT} {Q : Bool → Hp → Prop} (k : t σ H fun c H1 => Q (!c) H1) : tNot t σ H Q := k
theorem v_andV {ta tb : TE} (k : ta σ H fun x H1 => ∃ c, x = .bl c ∧ if c = true then tb σ H1 Q else Q (.bl false) H1) : tAndV ta tb σ H Q := k
theorem v_orV {ta tb : TE} (k : ta σ H fun x H1 => ∃ c, x = .bl c ∧ if c = true then Q (.bl true) H1 else tb σ H1 Q) : tOrV ta tb σ H Q := k
theorem v_notV {ta : TE} (k : ta σ H fun x H1 => ∃ c, x = .bl c ∧ Q (.bl (!c)) H1) : tNotV ta σ H Q := k
theorem v_if {t : TT} {ta tb : TE} (k : t σ H fun c H1 => if c = true then ta σ H1 Q else tb σ H1 Q) : tIf t ta tb σ H Q := k
theorem v_chain {r r' : R2} {ta tb tc : TE} (k : ta σ H fun x H1 => tb σ H1 fun y H2 => r x y H2 fun z H3 => ∃ k, z = .bl k ∧ (if k = true then tc σ H3 fun w' H4 => r' y w' H4 Q else Q (.bl false) H3)) : tChain r r' ta tb tc σ H Q := k
/-- calls, displays -/
theorem v_nil {Q : List V → Hp → Prop} (k : Q [] H) : tNil σ H Q := k
theorem v_cons {ta : TE} {tr : TA} {Q : List V → Hp → Prop} (k : ta σ H fun x H1 => tr σ H1 fun xs H2 => Q (x :: xs) H2) : tCons ta tr σ H Q := k
theorem v_cb {r : List V → Hp → VK → Prop} {t : TA} (k : t σ H fun vs H1 => r vs H1 Q) : tCB r t σ H Q := k
theorem v_call {sp : Sp} {dvs : List V} {E : XK} {t : TA} (k : t σ H fun vs H1 => sp (vs ++ dvs) H1 Q E) : tCall sp dvs E t σ H Q := k
theorem v_tup {t : TA} (k : t σ H fun xs H1 => xs.length ≤ sizeLine ∧ ∀ p, H1 p = none → Q (.ref p) (upd H1 p (.tup xs))) : tTup t σ H Q := k
theorem v_lst {t : TA} (k : t σ H fun xs H1 => xs.length ≤ sizeLine ∧ ∀ p, H1 p = none → Q (.ref p) (upd H1 p (.lst xs))) : tLst t σ H Q := k
theorem v_lenL {xs : List V} (h : SqL K H a xs) (k : Q (.int xs.length) H) : rLenU K [.ref a] H Q := .inl ⟨a, xs, rfl, .inl h, k⟩
theorem v_lenT {xs : List V} (h : SqT K H a xs) (k : Q (.int xs.length) H) : rLenU K [.ref a] H Q := .inl ⟨a, xs, rfl, .inr h, k⟩
theorem v_lenS {z : Str} (h : z.length ≤ sizeLine) (k : Q (.int z.length) H) : rLenU K [.str z] H Q := .inr ⟨z, rfl, h, k⟩
def rMax : List V → Hp → VK → Prop := fun xs H Q => ∃ i j, xs = [.int i, .int j] ∧ Q (.int (if j > i then j else i)) H
def rMin : List V → Hp → VK → Prop := fun xs H Q => ∃ i j, xs = [.int i, .int j] ∧ Q (.int (if j < i then j else i)) H
def rInt1 : List V → Hp → VK → Prop := fun xs H Q => (∃ i, xs = [.int i] ∧ Q (.int i) H) ∨ ∃ k, xs = [.bl k] ∧ Q (.int (if k then 1 else 0)) H
theorem callMaxU {X : Cx} (hc : X.calm = true := by rfl) : CallR X (.builtin "max") rMax := callMax hc
theorem callMinU {X : Cx} (hc : X.calm = true := by rfl) : CallR X (.builtin "min") rMin := callMin hc
theorem callIntU {X : Cx} : CallR X (.type "int") rInt1 := call_int1
theorem v_max {i j : Int} (k : Q (.int (max i j)) H) : rMax [.int i, .int j] H Q := ⟨i, j, rfl, by
  rw [show (if j > i then j else i) = max i j by rw [Int.max_def]; split <;> split <;> omega]; exact k⟩
theorem v_min {i j : Int} (k : Q (.int (min i j)) H) : rMin [.int i, .int j] H Q := ⟨i, j, rfl, by
  rw [show (if j < i then j else i) = min i j by rw [Int.min_def]; split <;> split <;> omega]; exact k⟩
theorem v_intI {i : Int} (k : Q (.int i) H) : rInt1 [.int i] H Q := .inl ⟨i, rfl, k⟩
theorem v_intB {b : Bool} (k : Q (.int (if b then 1 else 0)) H) : rInt1 [.bl b] H Q := .inr ⟨b, rfl, k⟩
theorem v_typ {x : V} {T : String} (t : TyB K H x T) (k : Q (.ty T) H) : rTyp K [x] H Q := ⟨x, T, rfl, t, k⟩
/-- methods of texts -/
theorem v_m1 {r : V → List V → Hp → VK → Prop} {to te : TE} (k : to σ H fun x H1 => (∃ a, x = .str a) ∧ te σ H1 fun y H2 => r x [y] H2 Q) : tM1 r to te σ H Q := k
theorem v_isstr {z : Str} {P : Prop} (k : P) : (∃ a, V.str z = .str a) ∧ P := ⟨⟨z, rfl⟩, k⟩
/-- statements -/
theorem v_seq {t u : TS} (k : t { D with nx := u D } σ H) : tSeq t u D σ H := k
theorem v_next (k : D.nx σ H) : tNext D σ H := k
theorem v_asg {te : TE} {g : TG} (k : te σ H fun x H1 => g x σ H1 D.nx) : tAsg te g D σ H := k
theorem v_gname {i : Nat} {v : V} {Q : L2.St → Hp → Prop} (k : Q (σ.set i (some v)) H) : gName i v σ H Q := k
theorem v_gsub {to ti : TE} {t : TSet} {v : V} {Q : L2.St → Hp → Prop} (k : to σ H fun o H1 => ti σ H1 fun i H2 => t o i v H2 fun H3 => Q σ H3) : gSub to ti t v σ H Q := k
theorem v_setL {xs : List V} {k : Int} {j : Nat} {v : V} {Q : Hp → Prop} (h : H a = some (.lst xs)) (e : ixN xs.length k = some j) (q : Q (upd H a (.lst (xs.set j v)))) : rSetL (.ref a) (.int k) v H Q := ⟨a, xs, k, j, rfl, rfl, h, e, q⟩
theorem v_ifS {c : TT} {t u : TS} (k : c σ H fun b H1 => if b = true then t D σ H1 else u D σ H1) : tIfS c t u D σ H := k
theorem v_ret {te : TE} (k : te σ H D.rt) : tRet te D σ H := k
theorem v_drop {te : TE} (k : te σ H fun _ H1 => D.nx σ H1) : tDrop te D σ H := k
theorem v_iteD {p : Prop} [Decidable p] {A B : Prop} (h1 : p → A) (h2 : ¬ p → B) : if decide p = true then A else B := by
  by_cases h : p
  · rw [decide_eq_true h]; exact iteT (h1 h)
  · rw [decide_eq_false h]; exact iteF (h2 h)
theorem v_iteB {b : Bool} {A B : Prop} (h1 : b = true → A) (h2 : b = false → B) : if b = true then A else B := by
  cases b
  · exact iteF (h2 rfl)
  · exact iteT (h1 rfl)
/-! ### the heap -/
theorem sq_upd {xs : List V} (hn : H p = none) (h : SqL K H a xs) : SqL K (upd H p o) a xs := by
  refine Same.seq (fun b u e => ?_) h
  rw [upd_ne (ne_of_none e hn)]; exact e
theorem same_new (hn : H p = none) : Same H (upd H p o) := fun b u e => by rw [upd_ne (ne_of_none e hn)]; exact e
theorem same_mut (s : Same H H') (hn : H p = none) : Same H (upd H' p o) := fun b u e => by rw [upd_ne (ne_of_none e hn)]; exact s b u e
theorem at_ints {ns : List Int} {t : Int} (h0 : 0 ≤ t) (h : t < ns.length) : atI (ns.map V.int) t = some (.int (ns.getD t.toNat 0)) := by
  obtain ⟨n, rfl⟩ : ∃ n : Nat, t = n := ⟨t.toNat, by omega⟩
  refine atI_nat ?_
  have hn : n < ns.length := by omega
  simp [List.getElem?_map, hn]
/-! ### frames -/
theorem same_at {v : HO} (s : Same H H') (e : H a = some v) : H' a = some v := s _ _ e
/-- the law's source of draws stands at a -/
def Src (a : Addr) (H : Hp) : Prop := ∃ n s : Int, H a = some (.lst [.int n, .int s]) ∧ 0 ≤ n ∧ 0 ≤ s ∧ s < 2147483648
/-- all but the source is as it was -/
structure Dr (a : Addr) (H H' : Hp) : Prop where
  keep : ∀ b o, H b = some o → b ≠ a → H' b = some o
  src : Src a H'
theorem Dr.refl (h : Src a H) : Dr a H H := ⟨fun _ _ e _ => e, h⟩
theorem Dr.trans {H2 : Hp} (x : Dr a H H') (y : Dr a H' H2) : Dr a H H2 := ⟨fun b o e n => y.keep b o (x.keep b o e n) n, y.src⟩
theorem Src.same (h : Src a H) (s : Same H H') : Src a H' := by
  obtain ⟨n, m, e, r⟩ := h
  exact ⟨n, m, s _ _ e, r⟩
theorem Dr.same (h : Src a H) (s : Same H H') : Dr a H H' := ⟨fun b o e _ => s b o e, h.same s⟩
theorem dr_at {v : HO} (d : Dr a H H') (n : b ≠ a) (e : H b = some v) : H' b = some v := d.keep _ _ e n
theorem Src.upd (h : Src a H) (n : a ≠ p) : Src a (upd H p o) := by
  obtain ⟨m, s, e, r⟩ := h
  exact ⟨m, s, by rw [upd_ne n]; exact e, r⟩
theorem Src.ne (h : Src a H) (n : H p = none) : a ≠ p := by
  obtain ⟨m, s, e, _⟩ := h
  exact ne_of_none e n
theorem Dr.new (h : Src a H) (n : H p = none) : Dr a H (L2.upd H p o) := ⟨fun b u e _ => by rw [upd_ne (ne_of_none e n)]; exact e, h.upd (h.ne n)⟩
theorem Dr.mut {H0 : Hp} (d : Dr a H0 H) (h : Src a H0) (n : H0 p = none) : Dr a H0 (L2.upd H p o) :=
  ⟨fun b u e k => by rw [upd_ne (ne_of_none e n)]; exact d.keep b u e k, d.src.upd (h.ne n)⟩
theorem sq_dr {xs : List V} (d : Dr a H H') (n : b ≠ a) (h : SqL K H b xs) : SqL K H' b xs := by
  rcases h with (h | ⟨o, h⟩) | h
  · exact .inl (.inl (d.keep _ _ h n))
  · exact .inl (.inr ⟨o, d.keep _ _ h n⟩)
  · exact .inr h
theorem sq_lst {xs : List V} (h : H b = some (.lst xs)) : SqL K H b xs := .inl (.inl h)
/-! ### comprehensions -/
/-- what is left of a comprehension once its source is known: the new list is to stand at L -/
def LcT (J : It) (g : TG) (tt : TT) (te : TE) (vs : List Nat) (σ : L2.St) (H1 : Hp) (Qd : Addr → Hp → Prop) : Prop :=
  ∀ L, H1 L = none → ∃ W : Nat → Nat → Hp → Prop, (∃ m, W 0 m (upd H1 L (.lst []))) ∧ ∀ i m H, W i m H →
      (J.stop i H ∧ Qd L H) ∨ (J.go i H ∧ ∃ Nx : Hp → Prop, (∀ H', Nx H' → ∃ m', m' < m ∧ W (i + 1) m' H') ∧ ∀ x H', J.yld i H x H' → g x (wipe σ vs) H' fun σ2 H2 => wipe σ2 vs = wipe σ vs ∧ tt σ2 H2 fun b H3 =>
        if b = true then te σ2 H3 fun y H4 => ∃ acc, H4 L = some (.lst acc) ∧ acc.length < sizeLine ∧ Nx (upd H4 L (.lst (acc ++ [y]))) else Nx H3)
/-- what is left of a for once its source is known -/
def ForT (J : It) (g : TG) (tb : TS) (D : Ends) (σ : L2.St) (H : Hp) : Prop :=
  ∃ W : Nat → Nat → L2.St → Hp → Prop, (∃ m, W 0 m σ H) ∧ ∀ i m σ H, W i m σ H →
  (J.stop i H ∧ D.nx σ H) ∨ (J.go i H ∧ ∃ N : L2.St → Hp → Prop, (∀ σ' H', N σ' H' → ∃ m', m' < m ∧ W (i + 1) m' σ' H') ∧ ∀ x H', J.yld i H x H' → g x σ H' fun σ2 H2 => tb { D with nx := N, ct := N, bk := D.nx } σ2 H2)
theorem lc_f {J : It} {G : Hp → Prop} {Y : Nat → Hp → V → Hp → Prop} {xs : List V} {g : TG} {tt : TT} {te : TE} {vs : List Nat} {H1 : Hp} {Qd : Addr → Hp → Prop} (w : Walk J xs.length G Y) (hy : ∀ i H x H', i < xs.length → Y i H x H' → H' = H ∧ xs[i]? = some x)
    (hG : ∀ H', Same H1 H' → G H') (f : V → Option V) (hl : xs.length < sizeLine)
    (turn : ∀ (x : V) (H2 : Hp) (R : V → Hp → Prop) (Rn : Hp → Prop), x ∈ xs → Same H1 H2 → (∀ y H5, Same H2 H5 → f x = some y → R y H5) → (∀ H5, Same H2 H5 → f x = none → Rn H5) →
      g x (wipe σ vs) H2 fun σ2 H3 => wipe σ2 vs = wipe σ vs ∧ tt σ2 H3 fun b H4 => if b = true then te σ2 H4 R else Rn H4)
    (fin : ∀ D H', H1 D = none → Same H1 H' → H' D = some (.lst (xs.filterMap f)) → Qd D H') :
    LcT J g tt te vs σ H1 Qd := by
  intro D hD
  refine lc_it w (fun i H => Same H1 H ∧ H D = some (.lst ((xs.take i).filterMap f))) ⟨same_new hD, upd_same⟩ (fun i H _ p => hG H p.1) ?_ (fun H p => fin D H hD p.1 (by have := p.2; rwa [List.take_length] at this))
  rintro i x H H' hi ⟨sm, hd⟩ y
  obtain ⟨rfl, hx⟩ := hy i H x H' hi y
  have ht : xs.take (i + 1) = xs.take i ++ [x] := by rw [List.take_add_one, hx]; rfl
  refine turn x H' _ _ (List.mem_of_getElem? hx) sm (fun y H5 s5 e => ⟨_, s5 _ _ hd, ?_, same_mut (sm.trans s5) hD, ?_⟩) (fun H5 s5 e => ⟨sm.trans s5, ?_⟩)
  · refine Nat.lt_of_le_of_lt (Nat.le_trans (List.length_filterMap_le _ _) ?_) hl
    rw [List.length_take]; exact Nat.min_le_right _ _
  · rw [upd_same, ht, List.filterMap_append]
    simp [e]
  · rw [s5 _ _ hd, ht, List.filterMap_append]
    simp [e]
theorem lc_dr {J : It} {G : Hp → Prop} {Y : Nat → Hp → V → Hp → Prop} {xs : List V} {g : TG} {tt : TT} {te : TE} {vs : List Nat} {H1 : Hp} {Qd : Addr → Hp → Prop} (hs : Src a H1) (w : Walk J xs.length G Y) (hy : ∀ i H x H', i < xs.length → Y i H x H' → H' = H ∧ xs[i]? = some x)
    (hG : ∀ H', Dr a H1 H' → G H') (E : V → Prop) (hl : xs.length < sizeLine)
    (turn : ∀ (x : V) (H2 : Hp) (R : V → Hp → Prop) (Rn : Hp → Prop), x ∈ xs → Dr a H1 H2 → (∀ y H5, Dr a H2 H5 → E y → R y H5) →
      g x (wipe σ vs) H2 fun σ2 H3 => wipe σ2 vs = wipe σ vs ∧ tt σ2 H3 fun b H4 => if b = true then te σ2 H4 R else Rn H4)
    (fin : ∀ D H' ys, H1 D = none → Dr a H1 H' → H' D = some (.lst ys) → ys.length = xs.length → (∀ y ∈ ys, E y) → Qd D H') :
    LcT J g tt te vs σ H1 Qd := by
  intro D hD
  have nD : D ≠ a := (hs.ne hD).symm
  refine lc_it w (fun i H => Dr a H1 H ∧ ∃ ys, H D = some (.lst ys) ∧ ys.length = i ∧ ∀ y ∈ ys, E y) ⟨Dr.new hs hD, [], upd_same, rfl, fun _ z => by cases z⟩ (fun i H _ p => hG H p.1)
    ?_ (fun H p => by obtain ⟨d, ys, e, l, q⟩ := p; exact fin D H ys hD d e l q)
  rintro i x H H' hi ⟨sm, ys, hd, hlen, hE⟩ y
  obtain ⟨rfl, hx⟩ := hy i H x H' hi y
  refine turn x H' _ _ (List.mem_of_getElem? hx) sm (fun y H5 s5 e => ⟨_, s5.keep _ _ hd nD, by omega, (sm.trans s5).mut hs hD, ys ++ [y], upd_same, by simp [hlen], fun z hz => ?_⟩)
  rcases List.mem_append.mp hz with hz | hz
  · exact hE z hz
  · have ez : z = y := by simpa using hz
    rw [ez]; exact e
theorem hy_at {xs : List V} : ∀ i H x H', i < xs.length → YAt xs i H x H' → H' = H ∧ xs[i]? = some x := fun _ _ _ _ _ y => y
/-- the sgns of a text -/
def sgns (z : Str) : List V := z.cps.toList.map fun c => .str ⟨#[c]⟩
theorem sgns_len {z : Str} : (sgns z).length = z.length := by simp [sgns, Str.length]
theorem walk_sgns {z : Str} : Walk (Its z) (sgns z).length (fun _ => True) (YAt (sgns z)) := by
  rw [sgns_len]
  refine walk_str.mono (fun _ h => h) fun i H x H' hi _ y => ?_
  obtain ⟨e, c, hc, rfl⟩ := y
  refine ⟨e, ?_⟩
  unfold sgns
  rw [List.getElem?_map, Array.getElem?_toList, hc]; rfl
def upto (lo : Int) (n : Nat) : List V := (List.range n).map fun (i : Nat) => .int (lo + i)
theorem upto_len {lo : Int} {n : Nat} : (upto lo n).length = n := by simp [upto]
theorem walk_upto {lo : Int} {n : Nat} : Walk (Itr lo n) (upto lo n).length (fun _ => True) (YAt (upto lo n)) := by
  rw [upto_len]
  refine walk_range.mono (fun _ h => h) fun i H x H' hi _ y => ?_
  obtain ⟨e, rfl⟩ := y
  refine ⟨e, ?_⟩
  simp [upto, hi]
theorem v_lc {wi : TI} {g : TG} {tt : TT} {te : TE} {vs : List Nat} (k : wi σ H fun J H1 => LcT J g tt te vs σ H1 fun L H' => Q (.ref L) H') : tLc wi g tt te vs σ H Q := k
theorem v_iStr {te : TE} {R : It → Hp → Prop} (k : te σ H fun v H1 => ∃ x, v = .str x ∧ R (Its x) H1) : iStr te σ H R := k
theorem v_isS {z : Str} {R : Str → Prop} (k : R z) : ∃ x, V.str z = .str x ∧ R x := ⟨z, rfl, k⟩
theorem v_iRng1 {ta : TA} {R : It → Hp → Prop} (k : ta σ H fun vs H1 => ∃ j : Int, vs = [.int j] ∧ -(2 ^ 62) ≤ j ∧ j < 2 ^ 62 ∧ R (Itr 0 j.toNat) H1) : iRng1 ta σ H R := k
theorem v_rng1 {j : Int} {R : Int → Prop} (h1 : -(2 ^ 62) ≤ j ∧ j < 2 ^ 62) (k : R j) : ∃ i : Int, [V.int j] = [.int i] ∧ -(2 ^ 62) ≤ i ∧ i < 2 ^ 62 ∧ R i := ⟨j, rfl, h1.1, h1.2, k⟩
theorem v_iList {tl : TE} {R : It → Hp → Prop} (k : tl σ H fun x H1 => ∃ a, x = .ref a ∧ (∃ xs, SqL K H1 a xs) ∧ R (Itl K a) H1) : iList K tl σ H R := k
theorem v_isL {xs : List V} {R : Addr → Prop} (h : SqL K H a xs) (k : R a) : ∃ b, V.ref a = .ref b ∧ (∃ xs, SqL K H b xs) ∧ R b := ⟨a, rfl, ⟨_, h⟩, k⟩
theorem v_for {wi : TI} {g : TG} {tb : TS} (k : wi σ H fun J H1 => ForT J g tb D σ H1) : tFor wi g tb D σ H := k
theorem for_w {J : It} {n : Nat} {G : Hp → Prop} {Y : Nat → Hp → V → Hp → Prop} (w : Walk J n G Y) {g : TG} {tb : TS} (Pv : Nat → L2.St → Hp → Prop) (h0 : Pv 0 σ H) (hG : ∀ i σ H, i ≤ n → Pv i σ H → G H)
    (hs : ∀ i x σ H H', i < n → Pv i σ H → Y i H x H' → g x σ H' fun σ2 H2 => tb { D with nx := Pv (i + 1), ct := Pv (i + 1), bk := D.nx } σ2 H2) (hd : ∀ σ H, Pv n σ H → D.nx σ H) : ForT J g tb D σ H := for_it w Pv h0 hG hs hd
theorem v_yes {Q : Bool → Hp → Prop} (k : Q true H) : tYes σ H Q := k
theorem v_nand {A : Prop} {P : Prop} (h : A) (k : P) : A ∧ P := ⟨h, k⟩
theorem v_all {bs : List Bool} (h : SqL K H a (bs.map V.bl)) (k : Q (.bl (bs.all id)) H) : rAll K [.ref a] H Q := ⟨a, bs, rfl, h, k⟩
theorem v_any {bs : List Bool} (h : SqL K H a (bs.map V.bl)) (k : Q (.bl (bs.any id)) H) : rAny K [.ref a] H Q := ⟨a, bs, rfl, h, k⟩
theorem v_iteN {p : Prop} [Decidable p] {A B : Prop} (h1 : ¬ p → A) (h2 : p → B) : if (!decide p) = true then A else B := by
  by_cases h : p
  · rw [decide_eq_true h]; exact iteF (h2 h)
  · rw [decide_eq_false h]; exact iteT (h1 h)
theorem v_iteNot {b : Bool} {A B : Prop} (h : if b = true then B else A) : if (!b) = true then A else B := by
  cases b
  · exact iteT (by simpa using h)
  · exact iteF (by simpa using h)
theorem v_iteNF {A B : Prop} (h : A) : if (!false) = true then A else B := iteT h
theorem v_iteNT {A B : Prop} (h : B) : if (!true) = true then A else B := iteF h
/-! ### isinstance -/
theorem tyx {x : V} {T : String} (t : TyB K H x T) : TyX K H x (.type T) := by
  cases t with
  | non => exact .base .non
  | bl b => exact .base (.bl b)
  | int i => exact .base (.int i)
  | str z => exact .base (.str z)
  | byt b => exact .byt b
  | lst h =>
    rcases h with (h | ⟨o, h⟩) | ⟨o, its, n, h, c, _⟩
    · exact .base (.lst h)
    · exact .base (.frz h)
    · exact .kList h c
  | tup h =>
    rcases h with (h | ⟨o, h⟩) | ⟨o, its, n, h, c, _⟩
    · exact .base (.tup h)
    · exact .fTuple h
    · exact .kTuple h c
  | dK h => exact .base (.dK h)
theorem v_isi {x : V} {T n : String} {r : Bool} (t : TyB K H x T) (e : kitB T n = some r) (k : Q (.bl r) H) : rIsi K [x, .ty n] H Q := ⟨x, .ty n, .type T, .type n, r, rfl, .ty n, tyx t, kit_ty e, k⟩
def isB (a b : String) : Bool := a == b || (a == "bool" && b == "int")
theorem kb {a b : String} (ha : tyK a = true) (hb : tyK b = true) : kitB a b = some (isB a b) := by
  have ea : a = "int" ∨ a = "str" ∨ a = "bool" ∨ a = "NoneType" ∨ a = "float" ∨ a = "list" ∨ a = "tuple" ∨ a = "dict" := by simpa [tyK] using ha
  have eb : b = "int" ∨ b = "str" ∨ b = "bool" ∨ b = "NoneType" ∨ b = "float" ∨ b = "list" ∨ b = "tuple" ∨ b = "dict" := by simpa [tyK] using hb
  rcases ea with rfl | rfl | rfl | rfl | rfl | rfl | rfl | rfl <;> rcases eb with rfl | rfl | rfl | rfl | rfl | rfl | rfl | rfl <;> decide +kernel
theorem v_isiK {x : V} {T n : String} (t : TyB K H x T) (hT : tyK T = true) (hn : tyK n = true) (k : Q (.bl (isB T n)) H) : rIsi K [x, .ty n] H Q := v_isi t (kb hT hn) k
theorem v_iteTrue {b : Bool} {A B : Prop} (h : b = true) (k : A) : if b = true then A else B := by subst h; exact iteT k
theorem v_iteFalse {b : Bool} {A B : Prop} (h : b = false) (k : B) : if b = true then A else B := by subst h; exact iteF k
theorem v_ss {x y : Str} {P : Str → Str → Prop} (k : P x y) : ∃ a b, V.str x = .str a ∧ [V.str y] = [V.str b] ∧ P a b := ⟨x, y, rfl, rfl, k⟩
theorem v_s0 {x : Str} {P : Str → Prop} (k : P x) : ∃ a, V.str x = .str a ∧ ([] : List V) = [] ∧ P a := ⟨x, rfl, rfl, k⟩
/-- what _law_source gives: a new list of two ints -/
def spSource (K : PySem.W.Frag) : Sp := fun vs H Q _ => ∃ (a : Addr) (ns : List Int) (t : Int), vs = [.ref a, .int t] ∧ SqL K H a (ns.map V.int) ∧ ns.length ≤ 63 ∧ 0 ≤ t ∧ t ≤ 100 ∧
  ∀ p H', H p = none → Same H H' → Src p H' → Q (.ref p) H'
/-- what _law_draw gives: some int below the amount; the source's list holds two others -/
def spDraw : Sp := fun vs H Q _ => ∃ (a : Addr) (m : Int), vs = [.ref a, .int m] ∧ Src a H ∧ 0 < m ∧ m ≤ 1000000 ∧
  ∀ (d : Int) H', 0 ≤ d → d < m → Dr a H H' → Q (.int d) H'
end

section
variable {H H' : Hp} {a p : Addr} {Q : VK} {E : XK} {m : Int}
theorem Dr.free (hs : Src a H) (d : Dr a H H') (n : H' p = none) : H p = none := by
  cases e : H p with
  | none => rfl
  | some o =>
    by_cases h : p = a
    · obtain ⟨_, _, e2, _⟩ := d.src
      rw [h, e2] at n; cases n
    · rw [d.keep _ _ e h] at n; cases n
theorem v_draw (hs : Src a H) (hm : 0 < m ∧ m ≤ 1000000) (k : ∀ (d : Int) H', 0 ≤ d → d < m → Dr a H H' → Q (.int d) H') : spDraw ([.ref a, .int m] ++ []) H Q E := ⟨a, m, rfl, hs, hm.1, hm.2, k⟩
theorem at_str {l : List Nat} {i : Int} (h0 : 0 ≤ i) (h : i < l.length) : atI l i = some (l.getD i.toNat 0) := by
  obtain ⟨n, rfl⟩ : ∃ n : Nat, i = n := ⟨i.toNat, by omega⟩
  refine atI_nat ?_
  have hn : n < l.length := by omega
  simp [hn]
theorem at_list {xs : List V} {i : Int} (h0 : 0 ≤ i) (h : i < xs.length) : ∃ v, atI xs i = some v ∧ v ∈ xs := by
  obtain ⟨n, rfl⟩ : ∃ n : Nat, i = n := ⟨i.toNat, by omega⟩
  have hn : n < xs.length := by omega
  exact ⟨xs[n], atI_nat (by simp [hn]), List.getElem_mem hn⟩
end
theorem v_disp {trs : List (TE × TE)} {σ : L2.St} {H : Hp} {Q : VK} (k : ∀ p, H p = none → tPairs trs σ (upd H p (.dK [])) fun ps H2 => H2 p = some (.dK []) ∧ ∃ kvs : List (Key × V), ps = kvs.map (fun kv => (kV kv.1, kv.2)) ∧ kvs.length ≤ 15 ∧ Q (.ref p) (upd H2 p (.dK (mergeK [] kvs)))) : tDisp trs σ H Q := k
theorem upd_upd' {H : Hp} {p : Addr} {o o' : HO} : upd (upd H p o) p o' = upd H p o' := upd_upd
/-- {'k': v} -/
theorem v_disp1 {k : Str} {v : V} {σ : L2.St} {H : Hp} {Q : VK} (q : ∀ p, H p = none → Q (.ref p) (upd H p (.dK [(Sum.inr k, v)]))) : tDisp [(tC (.str k), tC v)] σ H Q := by
  intro p hp
  refine ⟨upd_same, [(Sum.inr k, v)], rfl, by simp, ?_⟩
  rw [upd_upd]
  exact q p hp
theorem eqvBB (a b : Bool) : PyData.eqv (.list [.bool a, .bool b]) (.list [.bool a, .bool b]) = true := by cases a <;> cases b <;> rfl
theorem v_neBB {K : PySem.W.Frag} {H : Hp} {Q : VK} {p q : Addr} {a b : Bool} (h : H p = some (.lst [.bl a, .bl b])) (h' : H q = some (.lst [.bl a, .bl b])) (k : Q (.bl false) H) : rNeU K (.ref p) (.ref q) H Q := by
  refine v_neD (d := .list [.bool a, .bool b]) (e := .list [.bool a, .bool b]) (.lst (sq_lst h) (.cons (.bl a) (.cons (.bl b) .nil))) (.lst (sq_lst h') (.cons (.bl a) (.cons (.bl b) .nil))) rfl rfl ?_
  rw [eqvBB]
  exact k
/-! ### texts glued -/
theorem app_cps (x y : Str) : (x ++ y).cps.toList = x.cps.toList ++ y.cps.toList := by
  show (x.cps ++ y.cps).toList = _
  rw [Array.toList_append]
theorem empty_cps : ("" : Str).cps.toList = [] := by decide +kernel
theorem join0_cps : ∀ ys : List Str, (Str.join "" ys).cps.toList = (ys.map fun y => y.cps.toList).flatten
  | [] => by simp [Str.join, Str.empty]
  | [x] => by simp [Str.join]
  | x :: y :: r => by
    show (x ++ "" ++ Str.join "" (y :: r)).cps.toList = _
    rw [app_cps, app_cps, join0_cps (y :: r), empty_cps]
    simp
theorem txt_join0 (ys : List Str) : (Txt.join "" ys).cps.toList = (ys.map fun y => y.cps.toList).flatten := by
  rw [show Txt.join "" ys = Str.join "" ys by unfold Txt.join; exact StrLaws.glued_eq_join _ _, join0_cps]
theorem len_cps (z : Str) : z.length = z.cps.toList.length := by simp [Str.length]
def chS (c : Nat) : Str := ⟨#[c]⟩
theorem chars_of {E : Nat → Prop} : ∀ {ys : List V}, (∀ y ∈ ys, ∃ c : Nat, y = .str ⟨#[c]⟩ ∧ E c) → ∃ cs : List Nat, ys = (cs.map chS).map V.str ∧ ∀ c ∈ cs, E c
  | [], _ => ⟨[], rfl, fun _ h => by cases h⟩
  | y :: ys, h => by
    obtain ⟨c, rfl, hc⟩ := h y List.mem_cons_self
    obtain ⟨cs, rfl, h2⟩ := chars_of (ys := ys) fun y hy => h y (List.mem_cons_of_mem _ hy)
    exact ⟨c :: cs, rfl, fun d hd => (List.mem_cons.mp hd).elim (fun z => z ▸ hc) (h2 d)⟩
theorem join_chars (cs : List Nat) : (Txt.join "" (cs.map chS)).cps.toList = cs := by
  rw [txt_join0, List.map_map]
  induction cs with
  | nil => rfl
  | cons c cs ih => rw [List.map_cons, List.flatten_cons, ih]; rfl
theorem sum_chars : ∀ cs : List Nat, ((cs.map chS).map (·.length)).sum = cs.length
  | [] => rfl
  | c :: cs => by rw [List.map_cons, List.map_cons, List.sum_cons, sum_chars cs, List.length_cons]; show 1 + _ = _; omega
/-! ### the rules with the written part named: a block's context bears bound names -/
section
variable {X : Cx} {K : PySem.W.Frag}
theorem kLen (hK : X.K = K) : CallR X (.builtin "len") (rLenU K) := by subst hK; exact callLen
theorem kAll (hK : X.K = K) (hc : X.calm = true := by rfl) : CallR X (.builtin "all") (rAll K) := by subst hK; exact callAll hc
theorem kAny (hK : X.K = K) (hc : X.calm = true := by rfl) : CallR X (.builtin "any") (rAny K) := by subst hK; exact callAny hc
theorem kIsi (hK : X.K = K) : CallR X (.builtin "isinstance") (rIsi K) := by subst hK; exact callIsi
theorem kType (hK : X.K = K) : CallR X (.type "type") (rTyp K) := by subst hK; exact call_type1
theorem kIx (hK : X.K = K) : IxR X (rIx K) := by subst hK; exact ixU
theorem kSl (hK : X.K = K) : SlR X (rSlU K) := by subst hK; exact slUU
theorem kAdd (hK : X.K = K) : OpR X (binaryOp .Add) (rAddU K) := by subst hK; exact opAddU
theorem kEq (hK : X.K = K) (hr : X.A.units + 64 < cLine) : OpR X (compareOp .Eq) (rEqU K) := by subst hK; exact opEqU hr
theorem kNe (hK : X.K = K) (hr : X.A.units + 64 < cLine) : OpR X (compareOp .NotEq) (rNeU K) := by subst hK; exact opNeU hr
theorem kList {tg e : Expr} {te : TE} (hK : X.K = K) (he : PE X e te) : PI X tg e (iList K te) := by subst hK; exact pi_list he
end
end Kit

open PySem PySem.Spec PyProof.Rows L2
/-! repr of data -/
namespace Kit
mutual
theorem Dp.noDict {K : PySem.W.Frag} {H : Hp} : ∀ {d : PyData} {v : V}, Dp K H v d → d.hasDict = false
  | .none, _, _ => by simp only [PyData.hasDict]
  | .bool _, _, _ => by simp only [PyData.hasDict]
  | .int _, _, _ => by simp only [PyData.hasDict]
  | .str _, _, _ => by simp only [PyData.hasDict]
  | .list ds, _, h => by
    cases h with
    | lst _ ha => simpa only [PyData.hasDict] using DpAll.noDict ha
  | .tuple ds, _, h => by
    cases h with
    | tup _ ha => simpa only [PyData.hasDict] using DpAll.noDict ha
  | .dict _, _, h => by cases h
theorem DpAll.noDict {K : PySem.W.Frag} {H : Hp} : ∀ {ds : List PyData} {vs : List V}, DpAll K H vs ds → PyData.hasDictAll ds = false
  | [], _, _ => by simp only [PyData.hasDictAll]
  | d :: ds, _, h => by
    cases h with
    | cons h1 h2 => simp only [PyData.hasDictAll, Dp.noDict h1, DpAll.noDict h2, Bool.or_self]
end
theorem sqT_sm {K : PySem.W.Frag} {H H' : Hp} {a : Addr} {xs : List V} (s : Same H H') (h : SqT K H a xs) : SqT K H' a xs := by
  rcases h with (h | ⟨o, h⟩) | h
  · exact .inl (.inl (s _ _ h))
  · exact .inl (.inr ⟨o, s _ _ h⟩)
  · exact .inr h
mutual
theorem Dp.same {K : PySem.W.Frag} {H H' : Hp} (s : Same H H') : ∀ {d : PyData} {v : V}, Dp K H v d → Dp K H' v d
  | .none, _, h => by cases h; exact .non
  | .bool _, _, h => by cases h; exact .bl _
  | .int _, _, h => by cases h; exact .int _
  | .str _, _, h => by cases h; exact .str _
  | .list ds, _, h => by
    cases h with
    | lst hs ha => exact .lst (s.seq hs) (DpAll.same s ha)
  | .tuple ds, _, h => by
    cases h with
    | tup hs ha => exact .tup (sqT_sm s hs) (DpAll.same s ha)
  | .dict _, _, h => by cases h
theorem DpAll.same {K : PySem.W.Frag} {H H' : Hp} (s : Same H H') : ∀ {ds : List PyData} {vs : List V}, DpAll K H vs ds → DpAll K H' vs ds
  | [], _, h => by cases h; exact .nil
  | d :: ds, _, h => by
    cases h with
    | cons h1 h2 => exact .cons (Dp.same s h1) (DpAll.same s h2)
end
/-- plain values -/
def scP : V → Option PyData
  | .non => some .none
  | .bl b => some (.bool b)
  | .int i => some (.int i)
  | .str z => some (.str z)
  | _ => none
theorem scP_dp {K : PySem.W.Frag} {H : Hp} {v : V} {d : PyData} (h : scP v = some d) : Dp K H v d := by
  cases v <;> simp [scP] at h <;> subst h
  · exact .non
  · exact .bl _
  · exact .int _
  · exact .str _
theorem scP_reads {h : Heap} {v : V} {u : Value} {d : PyData} (e : scP v = some d) (r : RelV v u) : Reads h u d [] := by
  cases v <;> simp [scP] at e <;> subst e
  · cases r
    exact .none
  · cases r
    exact .bool _
  · obtain ⟨t, rfl⟩ := r
    exact .int _ t
  · obtain ⟨t, rfl⟩ := r
    exact .str _ t
def keyP : Key → PyData
  | .inl i => .int i
  | .inr z => .str z
/-- a dict of plain values -/
def dkP : List (Key × V) → Option (List (PyData × PyData))
  | [] => some []
  | (k, v) :: r => (scP v).bind fun d => (dkP r).map fun ds => (keyP k, d) :: ds
theorem dkP_cons {k : Key} {v : V} {r : List (Key × V)} {x : List (PyData × PyData)} (e : dkP ((k, v) :: r) = some x) : ∃ d ds, scP v = some d ∧ dkP r = some ds ∧ x = (keyP k, d) :: ds := by
  simp only [dkP] at e
  cases hd : scP v with
  | none => rw [hd] at e; cases e
  | some d =>
    rw [hd, Option.bind_some] at e
    cases hr : dkP r with
    | none => rw [hr] at e; cases e
    | some ds =>
      rw [hr] at e
      cases e
      exact ⟨d, ds, rfl, rfl, rfl⟩
theorem dk_reads {P : Program} {w : World} {h : Heap} : ∀ {kvs : List (Key × V)} {vs : List (Key × Value)} {es : List DictEntry} {ds : List (PyData × PyData)}, KV kvs vs → Pairs (mixKind P w) es vs → dkP kvs = some ds →
    ReadsAll h (es.map (·.key)) (ds.map (·.1)) [] ∧ ReadsAll h (es.map (·.val)) (ds.map (·.2)) []
  | [], _, _, _, r, p, e => by
    cases r
    cases p
    cases e
    exact ⟨.nil, .nil⟩
  | (k, v) :: kvs, _, _, _, r, p, e => by
    unfold KV at r
    cases r with
    | @cons _ q _ qs r1 r2 =>
      cases p with
      | @cons en _ es _ p1 p2 p3 =>
        obtain ⟨d, ds, ed, er, rfl⟩ := dkP_cons e
        obtain ⟨a, b⟩ := dk_reads (h := h) r2 p3 er
        obtain ⟨k', v'⟩ := q
        obtain ⟨h1, h2⟩ := r1
        dsimp only at h1 h2 p1 p2
        subst h1
        refine ⟨ReadsAll.cons (as := []) ?_ a, ReadsAll.cons (as := []) ?_ b⟩
        · show Reads h en.key (keyP k) []
          rcases keyIs_shape p1 with ⟨i, t, e1, e2⟩ | ⟨z, t, e1, e2⟩
          · rw [e1, e2]
            exact .int _ _
          · rw [e1, e2]
            exact .str _ _
        · show Reads h en.val d []
          rw [p2]
          exact scP_reads ed h2
/-- a plain value or a dict of such -/
def ItS (H : Hp) (x : V) (d : PyData) : Prop := scP x = some d ∨ ∃ a kvs ds, x = .ref a ∧ H a = some (.dK kvs) ∧ dkP kvs = some ds ∧ d = .dict ds
theorem ItS.same {H H' : Hp} {x : V} {d : PyData} (s : Same H H') (h : ItS H x d) : ItS H' x d := by
  rcases h with h | ⟨a, kvs, ds, e, h, r⟩
  · exact .inl h
  · exact .inr ⟨a, kvs, ds, e, s _ _ h, r⟩
section
variable {X : Cx} {pins : List (Addr × Obj)} {σ : L2.St} {H : Hp} {s : Shared}
theorem ItS.reads (I : Inv X pins σ H s) {x : V} {d : PyData} {u : Value} (h : ItS H x d) (r : RelV x u) : ∃ as, Reads s.heap u d as ∧ sysModules ∉ as := by
  rcases h with h | ⟨a, kvs, ds, rfl, h, e, rfl⟩
  · exact ⟨_, scP_reads h r, fun q => nomatch q⟩
  · cases (show u = Value.ref a from r)
    obtain ⟨_, ne, vs, rel, o, es, n, ho, ⟨hc, _⟩, hd, _, pr, _⟩ := dk_of I.hok h
    obtain ⟨p, q⟩ := dk_reads (h := s.heap) rel pr e
    refine ⟨_, Reads.dict ho hc hd p q, fun m => ?_⟩
    rcases List.mem_cons.mp m with z | z
    · rw [← z] at ne
      cases ne
    · simp at z
theorem ItS.readsAll (I : Inv X pins σ H s) : ∀ {xs : List V} {ds : List PyData} {us : List Value}, Paired (ItS H) xs ds → Vals xs us → ∃ as, ReadsAll s.heap us ds as ∧ sysModules ∉ as
  | _, _, _, .nil, r => by
    cases r
    exact ⟨_, .nil, fun q => nomatch q⟩
  | _, _, _, .cons a b, r => by
    cases r with
    | cons r1 r2 =>
      obtain ⟨as, p, q⟩ := a.reads I r1
      obtain ⟨bs, p2, q2⟩ := ItS.readsAll I b r2
      exact ⟨_, .cons p p2, fun m => (List.mem_append.mp m).elim q q2⟩
end
theorem same_push {H H1 : Hp} {p : Addr} {o : HO} (s : Same H H1) (n : H1 p = none) : Same H (upd H1 p o) := s.trans (same_new n)
/-- what can be shown -/
def okP (d : PyData) : Prop := d.showable = true ∧ d.depth ≤ 30 ∧ d.shown.length ≤ sizeLine
def ShV (K : PySem.W.Frag) (H : Hp) (x : V) (d : PyData) : Prop := Dp K H x d ∨ ItS H x d ∨ ∃ a xs ds, x = .ref a ∧ SqL K H a xs ∧ Paired (ItS H) xs ds ∧ d = .list ds
theorem ShV.same {K : PySem.W.Frag} {H H' : Hp} {x : V} {d : PyData} (s : Same H H') (h : ShV K H x d) : ShV K H' x d := by
  rcases h with h | h | ⟨a, xs, ds, e, h, p, r⟩
  · exact .inl (Dp.same s h)
  · exact .inr (.inl (h.same s))
  · exact .inr (.inr ⟨a, xs, ds, e, s.seq h, L2.Paired.mapP p fun _ _ q => q.same s, r⟩)
section
variable {prog : Program} {w : World} {h₀ : Heap} {A : Around} {E : Value → Shared → Prop} {s : Shared} {Q : Value → Shared → Prop}
theorem repr_items {a : Addr} {o : Obj} {vs : Array Value} {n : Nat} {xs : List PyData} {as : List Addr} (h1 : h₀.get? a = some o) (h2 : o.cls = .type "list") (h3 : o.data = .seq vs n) (h4 : ReadsAll h₀ vs.toList xs as) (hs : PyData.showableAll xs = true) (hsm : sysModules ∉ as)
    (hg : A.guards = some []) (hu : A.units + ((PyData.list xs).depth + 1) < cLine) (hk : ∀ b o, h₀.get? b = some o → s.heap.get? b = some o) (hsz : (PyData.list xs).shown.length ≤ sizeLine)
    (hQ : ∀ h' u tk, (∀ b o, s.heap.get? b = some o → h'.get? b = some o) → Q (.str (PyData.list xs).shown u) { s with heap := h', toks := tk }) : wpAny (model prog w) A (call (.builtin "repr") [.ref a]) Q E s := by
  obtain ⟨l⟩ := vs
  cases l with
  | nil =>
    have h5 : ReadsAll h₀ [] xs as := h4
    cases h5
    exact repr_of_reads' (Reads.list h1 h2 h3 .nil) rfl (fun z => nomatch z) hg hu hk hQ hsz
  | cons y l =>
    have small : (listText (PyData.shownAll xs)).length ≤ sizeLine := by simpa only [PyData.shown] using hsz
    obtain ⟨bs, hb, all⟩ := ReprAllK.of_readsAll (prog := prog) (w := w) h4 hs (fun _ => hsm) (fun t ht => Nat.le_trans (listText_mem_le ht) small)
    have deep : (PyData.list xs).depth = PyData.depthAll xs + 1 := by simp only [PyData.depth]
    have far : a ∉ bs := not_mem_of_deeper (.list h1 h2 h3 h4) (by omega) hb
    simp only [PyData.shown] at hQ
    refine call_repr_slot (by omega) ⟨o, hk _ _ h1, h2⟩ F.slot_list_repr.toG ?_
    refine call_list_reprK h1 h2 h3 far (by simpa using all.length_eq) (fun i z e => all.item i z (by simpa using e)) hg (fun b _ => Clear.nil b) (by show A.units + 1 + _ < cLine; omega) hk (fun h' u tk k => ⟨_, _, rfl, hQ h' u tk k⟩) small
end
def rRepr (K : PySem.W.Frag) : List V → Hp → VK → Prop := fun xs H Q => ∃ x d, xs = [x] ∧ ShV K H x d ∧ okP d ∧ Q (.str d.shown) H
theorem call_reprG {X : Cx} (gd : X.A.guards = some []) (hu : X.A.units + 64 < cLine) : CallR X (.builtin "repr") (rRepr X.K) := by
  intro pins s σ H xs us Q I r h
  obtain ⟨x, d, rfl, sh, ⟨o1, o2, o3⟩, q⟩ := h
  cases r with
  | cons r1 r2 =>
    cases r2
    rename_i u
    have fin : ∀ h' t tk, (∀ b o, s.heap.get? b = some o → h'.get? b = some o) → EP X pins σ Q (.str d.shown t) { s with heap := h', toks := tk } := fun h' t tk k => ⟨.str d.shown, H, I.kept k, ⟨t, rfl⟩, q⟩
    have one : ∀ {as}, Reads s.heap u d as → (d.hasDict = true → sysModules ∉ as) → wpAny (model X.prog X.w) X.A (call (.builtin "repr") [u]) (EP X pins σ Q) X.xe s := by
      intro as rd hsm
      cases rd with
      | none => exact P.repr_of_none (fin s.heap _ _ fun _ _ z => z)
      | bool b => exact P.repr_of_bool (fin s.heap _ _ fun _ _ z => z)
      | int i t => exact P.repr_of_int (by simpa only [PyData.showable, decide_eq_true_eq] using o1) (fin s.heap _ _ fun _ _ z => z)
      | str z t => exact P.repr_of_str (fin s.heap _ _ fun _ _ z => z) (by simpa only [PyData.shown] using o3)
      | list h1 h2 h3 h4 => exact repr_of_reads' (.list h1 h2 h3 h4) o1 hsm gd (by omega) (fun _ _ z => z) fin o3
      | tuple h1 h2 h3 h4 => exact repr_of_reads' (.tuple h1 h2 h3 h4) o1 hsm gd (by omega) (fun _ _ z => z) fin o3
      | dict h1 h2 h3 h4 h5 => exact repr_of_reads' (.dict h1 h2 h3 h4 h5) o1 hsm gd (by omega) (fun _ _ z => z) fin o3
    rcases sh with sh | sh | ⟨a, xs, ds, rfl, sq, it, rfl⟩
    · obtain ⟨as, rd⟩ := Dp.reads I d x u sh r1
      exact one rd (PyData.noDict_hsm (Dp.noDict sh))
    · obtain ⟨as, rd, ns⟩ := sh.reads I r1
      exact one rd fun _ => ns
    · cases (show u = Value.ref a from r1)
      obtain ⟨its, rv, ⟨o, n, ho, hc, _, hd⟩, _⟩ := I.list sq
      obtain ⟨as, rd, ns⟩ := ItS.readsAll I it rv
      exact repr_items ho hc hd rd (by simpa only [PyData.showable] using o1) ns gd (by omega) (fun _ _ z => z) o3 fin
end Kit

namespace K30
open PySem PySem.Spec PyProof.Rows L2 Kit
local macro_rules | `(tactic| walk_at "ne") => `(tactic| first
  | assumption
  | (apply Ne.symm; assumption)
  | exact ne_of_none (by assumption) (by assumption)
  | exact (ne_of_none (by assumption) (by assumption)).symm
  | (refine ne_of_none (H := ?H0) (o := ?oo) ?hs ?hn; (case hn => assumption); (case hs => walk_at "hp"))
  | (refine (ne_of_none (H := ?H0) (o := ?oo) ?hs ?hn).symm; (case hn => assumption); (case hs => walk_at "hp"))
  | (refine Src.ne (H := ?H0) ?hs ?hn; (case hn => assumption); (case hs => walk_at "src"))
  | (refine (Src.ne (H := ?H0) ?hs ?hn).symm; (case hn => assumption); (case hs => walk_at "src"))
  | fail "no rule")
local macro_rules | `(tactic| walk_at "hp") => `(tactic| first
  | assumption
  | exact upd_same
  | (refine (upd_ne ?hne).trans ?hrest; (case hne => walk_at "ne"); (case hrest => walk_at "hp"))
  | (refine same_at (H := ?H0) ?hs ?hrest; (case hs => assumption); (case hrest => walk_at "hp"))
  | (refine dr_at (H := ?H0) (a := ?a0) ?hs ?hne ?hrest; (case hs => assumption); (case hne => walk_at "ne"); (case hrest => walk_at "hp"))
  | fail "no rule")
local macro_rules | `(tactic| walk_at "sq") => `(tactic| first
  | assumption
  | exact Or.inl (Or.inl (by walk_at "hp"))
  | (refine sq_upd ?hnn ?hss; (case hnn => assumption); (case hss => walk_at "sq"))
  | (refine Same.seq (H := ?H0) ?hs ?hrest; (case hs => assumption); (case hrest => walk_at "sq"))
  | (refine sq_dr (H := ?H0) (a := ?a0) ?hs ?hne ?hrest; (case hs => assumption); (case hne => walk_at "ne"); (case hrest => walk_at "sq"))
  | fail "no rule")
local macro_rules | `(tactic| walk_at "sm") => `(tactic| first
  | assumption
  | exact Same.refl _
  | (refine same_new ?hnn; (case hnn => assumption))
  | (refine same_push ?hs ?hnn; (case hnn => assumption); (case hs => walk_at "sm"))
  | (refine same_mut ?hs ?hnn; (case hs => walk_at "sm"); (case hnn => walk_at "fr"))
  | (refine Same.trans (H1 := ?H1) ?hs ?hq; (case hq => assumption); (case hs => walk_at "sm"))
  | fail "no rule")
local macro_rules | `(tactic| walk_at "fr") => `(tactic| first
  | assumption
  | (refine Same.free (H' := ?H1) ?hs ?hq; (case hq => assumption); (case hs => walk_at "sm"))
  | fail "no rule")
local macro_rules | `(tactic| walk_at "src") => `(tactic| first
  | assumption
  | exact Dr.src (by assumption)
  | (refine Src.same (H := ?H0) ?hs ?hm; (case hm => assumption); (case hs => walk_at "src"))
  | (refine Src.upd ?hs ?hn; (case hs => walk_at "src"); (case hn => walk_at "ne"))
  | fail "no rule")
local macro_rules | `(tactic| walk_at "fd") => `(tactic| first
  | assumption
  | (refine Same.free (H' := ?H1) ?hs ?hq; (case hq => assumption); (case hs => walk_at "sm"))
  | (refine Dr.free (H' := ?H1) ?h0 ?hs ?hq; (case hq => assumption); (case hs => walk_at "dr"); (case h0 => walk_at "src"))
  | fail "no rule")
local macro_rules | `(tactic| walk_at "dr") => `(tactic| first
  | assumption
  | (refine Dr.trans (H' := ?H1) ?hs ?hq; (case hq => assumption); (case hs => walk_at "dr"))
  | (refine Dr.mut ?hs ?h0 ?hn; (case hs => walk_at "dr"); (case h0 => walk_at "src"); (case hn => walk_at "fd"))
  | (refine Dr.trans (H' := ?H1) ?hs (Dr.same ?h0 ?hq); (case hq => assumption); (case h0 => walk_at "src"); (case hs => walk_at "dr"))
  | (refine Dr.refl ?hs; (case hs => walk_at "src"))
  | fail "no rule")
local macro_rules | `(tactic| walk_at "sz") => `(tactic| first
  | omega
  | (refine Nat.le_trans ?_ (show (1000 : Nat) ≤ sizeLine by decide); first | decide | omega | (simp; done) | (simp; omega) | fail)
  | fail "no rule")
local macro_rules | `(tactic| walk_at "v1") => `(tactic| first
  | with_reducible refine v_seq ?_
  | with_reducible refine v_asg ?_
  | with_reducible refine v_gname ?_
  | with_reducible refine v_c ?_
  | ((with_reducible refine v_var (v := ?vv) ?hv ?_); (case hv => exact rfl))
  | with_reducible refine v_op ?_
  | with_reducible refine v_un ?_
  | with_reducible refine v_I0 ?_
  | with_reducible refine v_U ?_
  | with_reducible refine v_addI ?_
  | with_reducible refine v_ltI ?_
  | with_reducible refine v_leI ?_
  | with_reducible refine v_gtI ?_
  | with_reducible refine v_geI ?_
  | with_reducible refine v_leS ?_
  | with_reducible refine v_ltS ?_
  | with_reducible refine v_eqI ?_
  | with_reducible refine v_neI ?_
  | with_reducible refine v_eqS ?_
  | with_reducible refine v_neS ?_
  | with_reducible refine v_eqB ?_
  | ((with_reducible refine v_eqTy ?h1 ?h2 ?_); (case h1 => walk_at "bt"); (case h2 => walk_at "bt"))
  | ((with_reducible refine v_neTy ?h1 ?h2 ?_); (case h1 => walk_at "bt"); (case h2 => walk_at "bt"))
  | with_reducible refine v_test ?_
  | with_reducible refine v_B ?_
  | with_reducible refine v_isbl ?_
  | with_reducible refine v_and ?_
  | with_reducible refine v_or ?_
  | with_reducible refine v_not ?_
  | with_reducible refine v_andV ?_
  | with_reducible refine v_orV ?_
  | with_reducible refine v_notV ?_
  | with_reducible refine v_if ?_
  | with_reducible refine v_chain ?_
  | with_reducible refine v_nil ?_
  | with_reducible refine v_cons ?_
  | with_reducible refine v_cb ?_
  | with_reducible refine v_call ?_
  | with_reducible refine v_max ?_
  | ((with_reducible refine v_draw ?hs ?hm ?_); (case hs => walk_at "src"); (case hm => omega))
  | with_reducible refine v_min ?_
  | with_reducible refine v_intI ?_
  | with_reducible refine v_intB ?_
  | with_reducible refine v_m1 ?_
  | with_reducible refine v_isstr ?_
  | with_reducible refine v_sl ?_
  | with_reducible refine v_ss ?_
  | with_reducible refine v_disp1 ?_
  | with_reducible refine v_s0 ?_
  | with_reducible refine v_nopart ?_
  | with_reducible refine v_part ?_
  | with_reducible refine v_partI ?_
  | with_reducible refine v_next ?_
  | with_reducible refine v_gsub ?_
  | with_reducible refine v_ifS ?_
  | with_reducible refine v_ret ?_
  | with_reducible refine v_drop ?_
  | ((with_reducible refine v_iteTrue ?hb ?_); (case hb => walk_at "bt"))
  | ((with_reducible refine v_iteFalse ?hb ?_); (case hb => walk_at "bt"))
  | with_reducible refine v_iteD ?_ ?_
  | with_reducible refine v_iteNot ?_
  | with_reducible refine v_lc ?_
  | with_reducible refine v_iStr ?_
  | with_reducible refine v_isS ?_
  | with_reducible refine v_iRng1 ?_
  | ((with_reducible refine v_rng1 ?hb ?_); (case hb => omega))
  | with_reducible refine v_iList ?_
  | with_reducible refine v_iSeq ?_
  | ((with_reducible refine v_isL (xs := ?xx) ?hsq ?_); (case hsq => walk_at "sq"))
  | with_reducible refine v_for ?_
  | with_reducible refine v_yes ?_
  | ((with_reducible refine v_nand ?hw ?_); (case hw => first | exact rfl | walk_at "sz" | fail))
  | ((with_reducible refine v_typ (T := ?TT) ?ht ?_); (case ht => walk_at "ty"))
  | ((with_reducible refine v_isiK (T := ?TT) ?ht ?h1 ?h2 ?_); (case ht => walk_at "ty"); (case h1 => walk_at "bt"); (case h2 => exact rfl))
  | with_reducible refine iteT ?_
  | with_reducible refine iteF ?_
  | with_reducible refine v_tup ?_
  | with_reducible refine v_lst ?_
  | ((with_reducible refine v_ixL (xs := ?xx) (v := ?vv) ?hsq ?hat ?_); (case hsq => walk_at "sq"); (case hat => exact rfl))
  | ((with_reducible refine v_lenL (xs := ?xx) ?hsq ?_); (case hsq => walk_at "sq"))
  | ((with_reducible refine v_setL (xs := ?xx) (j := ?jj) ?hh ?hj ?_); (case hh => walk_at "hp"); (case hj => exact rfl))
  | ((with_reducible refine v_I ?hc ?_); (case hc => walk_at "ic"))
  | ((with_reducible refine v_lenS ?hz ?_); (case hz => walk_at "sz"))
  | ((with_reducible refine v_slS ?hz ?_); (case hz => walk_at "sz"))
  | ((with_reducible refine v_addS ?hz ?_); (case hz => walk_at "sz"))
  | ((with_reducible refine v_ixS (c := ?cc) ?hz ?hat ?_); (case hz => walk_at "sz"); (case hat => exact rfl))
  | ((with_reducible refine v_addL (xs := ?xx) (ys := ?yy) ?h1 ?h2 ?hz ?_); (case h1 => walk_at "hp"); (case h2 => walk_at "hp"); (case hz => walk_at "sz"))
  | ((with_reducible refine v_ixT (xs := ?xx) (v := ?vv) ?hsq ?hat ?_); (case hsq => walk_at "sq"); (case hat => exact rfl))
  | ((with_reducible refine v_lenT (xs := ?xx) ?hsq ?_); (case hsq => walk_at "sq"))
  | ((with_reducible refine v_eq ?hs ?_); (case hs => exact rfl))
  | ((with_reducible refine v_ne ?hs ?_); (case hs => exact rfl))
  | (with_reducible intro _)
  | fail "no rule")
local macro_rules | `(tactic| walk_at "ic") => `(tactic| first
  | (show (0 : Int) < _; first | decide | omega | fail)
  | (show CMul _ _; unfold CMul; omega)
  | (show CDiv _ _; unfold CDiv; omega)
  | (show CPow _ _; unfold CPow; exact ⟨by decide, by decide, by decide⟩)
  | fail "no rule")
local macro_rules | `(tactic| walk_at "bt") => `(tactic| first
  | exact rfl
  | assumption
  | decide +kernel
  | (simp; done)
  | fail "no rule")
local macro_rules | `(tactic| walk_at "ty") => `(tactic| first
  | assumption
  | exact .non
  | exact .bl _
  | exact .int _
  | exact .str _
  | exact .lst (by walk_at "sq")
  | exact .tup (by walk_at "sq")
  | exact .dK (by walk_at "hp")
  | fail "no rule")
local macro_rules | `(tactic| walk_at "v") => `(tactic| try (walk_at "v1" <;> walk_at "v"))
local macro_rules | `(tactic| walk_at "start") => `(tactic| dsimp only [L2.start, cxOf, Cx.nox, Cx.wish, List.map, List.replicate, List.length, List.append, Nat.reduceSub, Nat.reduceAdd, List.cons_append, List.nil_append])

def topS (i : Nat) : Stmt := PySem.Challenge.pw_lateclasses_k30_exceptions.main.body.getD i (.Pass ⟨0, 0, 0, 0⟩)
abbrev s_InvalidName___init__ : Stmt := inClass (topS 2) 0
theorem sc_InvalidName___init__ : FnScope ["self", "given"] ["self", "given"] (defScope s_InvalidName___init__) := ⟨rfl, rfl, rfl, by decide +kernel, rfl, by decide +kernel, by decide +kernel⟩
abbrev s_InvalidMethod___init__ : Stmt := inClass (topS 3) 0
theorem sc_InvalidMethod___init__ : FnScope ["self", "given"] ["self", "given"] (defScope s_InvalidMethod___init__) := ⟨rfl, rfl, rfl, by decide +kernel, rfl, by decide +kernel, by decide +kernel⟩
abbrev s_InvalidClass___init__ : Stmt := inClass (topS 4) 0
theorem sc_InvalidClass___init__ : FnScope ["self", "given"] ["self", "given"] (defScope s_InvalidClass___init__) := ⟨rfl, rfl, rfl, by decide +kernel, rfl, by decide +kernel, by decide +kernel⟩
abbrev s_InvalidTable___init__ : Stmt := inClass (topS 5) 0
theorem sc_InvalidTable___init__ : FnScope ["self", "given"] ["self", "given"] (defScope s_InvalidTable___init__) := ⟨rfl, rfl, rfl, by decide +kernel, rfl, by decide +kernel, by decide +kernel⟩
abbrev s_NameTaken___init__ : Stmt := inClass (topS 6) 0
theorem sc_NameTaken___init__ : FnScope ["self", "given"] ["self", "given"] (defScope s_NameTaken___init__) := ⟨rfl, rfl, rfl, by decide +kernel, rfl, by decide +kernel, by decide +kernel⟩
abbrev s_UnknownLoader___init__ : Stmt := inClass (topS 7) 0
theorem sc_UnknownLoader___init__ : FnScope ["self", "given"] ["self", "given"] (defScope s_UnknownLoader___init__) := ⟨rfl, rfl, rfl, by decide +kernel, rfl, by decide +kernel, by decide +kernel⟩
abbrev s_UnknownClass___init__ : Stmt := inClass (topS 8) 0
theorem sc_UnknownClass___init__ : FnScope ["self", "loader", "word"] ["self", "loader", "word"] (defScope s_UnknownClass___init__) := ⟨rfl, rfl, rfl, by decide +kernel, rfl, by decide +kernel, by decide +kernel⟩
abbrev s_NameFixed___init__ : Stmt := inClass (topS 9) 0
theorem sc_NameFixed___init__ : FnScope ["self", "loader", "word"] ["self", "loader", "word"] (defScope s_NameFixed___init__) := ⟨rfl, rfl, rfl, by decide +kernel, rfl, by decide +kernel, by decide +kernel⟩
abbrev s_LimitExceeded___init__ : Stmt := inClass (topS 10) 0
theorem sc_LimitExceeded___init__ : FnScope ["self", "limit"] ["self", "limit"] (defScope s_LimitExceeded___init__) := ⟨rfl, rfl, rfl, by decide +kernel, rfl, by decide +kernel, by decide +kernel⟩
abbrev s_Failing___init__ : Stmt := inClass (topS 11) 0
theorem sc_Failing___init__ : FnScope ["self", "failure"] ["self", "failure"] (defScope s_Failing___init__) := ⟨rfl, rfl, rfl, by decide +kernel, rfl, by decide +kernel, by decide +kernel⟩
abbrev s_ParseError___init__ : Stmt := inClass (topS 12) 0
theorem sc_ParseError___init__ : FnScope ["self", "line"] ["self", "line"] (defScope s_ParseError___init__) := ⟨rfl, rfl, rfl, by decide +kernel, rfl, by decide +kernel, by decide +kernel⟩
abbrev s_InvalidValues___init__ : Stmt := inClass (topS 13) 0
theorem sc_InvalidValues___init__ : FnScope ["self", "given"] ["self", "given"] (defScope s_InvalidValues___init__) := ⟨rfl, rfl, rfl, by decide +kernel, rfl, by decide +kernel, by decide +kernel⟩
abbrev s_InvalidChoices___init__ : Stmt := inClass (topS 14) 0
theorem sc_InvalidChoices___init__ : FnScope ["self", "given"] ["self", "given"] (defScope s_InvalidChoices___init__) := ⟨rfl, rfl, rfl, by decide +kernel, rfl, by decide +kernel, by decide +kernel⟩
abbrev s_InvalidLimit___init__ : Stmt := inClass (topS 15) 0
theorem sc_InvalidLimit___init__ : FnScope ["self", "given"] ["self", "given"] (defScope s_InvalidLimit___init__) := ⟨rfl, rfl, rfl, by decide +kernel, rfl, by decide +kernel, by decide +kernel⟩
abbrev s_InvalidOperand___init__ : Stmt := inClass (topS 16) 0
theorem sc_InvalidOperand___init__ : FnScope ["self", "given"] ["self", "given"] (defScope s_InvalidOperand___init__) := ⟨rfl, rfl, rfl, by decide +kernel, rfl, by decide +kernel, by decide +kernel⟩
abbrev s_InvalidJournal___init__ : Stmt := inClass (topS 17) 0
theorem sc_InvalidJournal___init__ : FnScope ["self", "given"] ["self", "given"] (defScope s_InvalidJournal___init__) := ⟨rfl, rfl, rfl, by decide +kernel, rfl, by decide +kernel, by decide +kernel⟩
abbrev s_InvalidCommand___init__ : Stmt := inClass (topS 18) 0
theorem sc_InvalidCommand___init__ : FnScope ["self", "given"] ["self", "given"] (defScope s_InvalidCommand___init__) := ⟨rfl, rfl, rfl, by decide +kernel, rfl, by decide +kernel, by decide +kernel⟩
abbrev s_UnknownName___init__ : Stmt := inClass (topS 19) 0
theorem sc_UnknownName___init__ : FnScope ["self", "given"] ["self", "given"] (defScope s_UnknownName___init__) := ⟨rfl, rfl, rfl, by decide +kernel, rfl, by decide +kernel, by decide +kernel⟩
abbrev s_NotLoaded___init__ : Stmt := inClass (topS 20) 0
theorem sc_NotLoaded___init__ : FnScope ["self", "given"] ["self", "given"] (defScope s_NotLoaded___init__) := ⟨rfl, rfl, rfl, by decide +kernel, rfl, by decide +kernel, by decide +kernel⟩
abbrev s_law_source : Stmt := topS 22
theorem sc_law_source : FnScope ["_law_script", "_law_turn", "_law_cell", "_law_number", "_law_seed"] ["_law_script", "_law_turn"] (defScope s_law_source) := ⟨rfl, rfl, rfl, by decide +kernel, rfl, by decide +kernel, by decide +kernel⟩
abbrev s_law_draw : Stmt := topS 23
theorem sc_law_draw : FnScope ["_law_source_here", "_law_amount", "_law_digit"] ["_law_source_here", "_law_amount"] (defScope s_law_draw) := ⟨rfl, rfl, rfl, by decide +kernel, rfl, by decide +kernel, by decide +kernel⟩
abbrev s_law_all : Stmt := topS 24
theorem sc_law_all : FnScope ["_law_item", "_law_found"] ["_law_item"] (defScope s_law_all) := ⟨rfl, rfl, rfl, by decide +kernel, rfl, by decide +kernel, by decide +kernel⟩
abbrev s_law_held : Stmt := topS 25
theorem sc_law_held : FnScope ["_law_at", "_law_error"] ["_law_at", "_law_error"] (defScope s_law_held) := ⟨rfl, rfl, rfl, by decide +kernel, rfl, by decide +kernel, by decide +kernel⟩
abbrev s_law_others_right : Stmt := topS 26
theorem sc_law_others_right : FnScope ["_law_item", "_law_one", "_law_other"] ["_law_item"] (defScope s_law_others_right) := ⟨rfl, rfl, rfl, by decide +kernel, rfl, by decide +kernel, by decide +kernel⟩
abbrev s_law_kinds : Stmt := topS 27
theorem sc_law_kinds : FnScope ["_law_error", "_law_found"] ["_law_error"] (defScope s_law_kinds) := ⟨rfl, rfl, rfl, by decide +kernel, rfl, by decide +kernel, by decide +kernel⟩
abbrev s_law : Stmt := topS 28
theorem sc_law : FnScope ["_law_script", "_law_turn", "_law_source_here", "_law_number", "_law_item", "_law_made", "_law_at", "_law_spot"] ["_law_script"] (defScope s_law) := ⟨rfl, rfl, rfl, by decide +kernel, rfl, by decide +kernel, by decide +kernel⟩
variable {P : Program} {w : World} {K : PySem.W.Frag} {mg : Str → Option Value} {base : Heap}

theorem ok_source {f : Addr} {fd : FuncData} (F : Fun K "_law_source" "_law_source" s_law_source f fd) (T : Bi mg) : FnOk P w K mg base CX0 1 f fd ["_law_script", "_law_turn"] (spSource K) := by
  refine F.ok sc_law_source (fun vs H Q E h => ?_) (fun cdv A outer s H vs Q E hr h => ?_)
  · obtain ⟨a, ns, t, rfl, _⟩ := h
    rfl
  · obtain ⟨a, ns, t, rfl, hS, hl, ht0, ht, q⟩ := h
    have fin : ∀ (n z : Int) (p : Addr), 0 ≤ n → 0 ≤ z → z < 2147483648 → H p = none → Q (.ref p) (upd H p (.lst [.int n, .int z])) := fun n z p h1 h2 h3 hp =>
      q p _ hp (same_new hp) ⟨n, z, upd_same, h1, h2, h3⟩
    refine ⟨_, (pss_cons (ps_set (i := 2) sc_law_source.nd rfl (by first | exact .inl rfl | exact .inr rfl) pe_int)
      (pss_cons (ps_if (pt_cmpR opLtU (pv 1) (pe_callB (kLen (K := K) rfl) (by rfl) T.b_len (by decide +kernel) (pa_cons (pv 0) pa_nil)) (nomark _)) (pss_one (ps_set (i := 2) sc_law_source.nd rfl (by first | exact .inl rfl | exact .inr rfl) (pe_ix (kIx (K := K) rfl) (pv 0) (pv 1) (fun _ _ => rfl)))) pss_nil)
      (pss_cons (ps_set (i := 3) sc_law_source.nd rfl (by first | exact .inl rfl | exact .inr rfl) (pe_callB callMaxU (by rfl) T.b_max (by decide +kernel) (pa_cons (pv 2) (pa_cons (pe_op op_sub (pe_un un_neg pe_int) (pv 2)) pa_nil))))
      (pss_cons (ps_set (i := 4) sc_law_source.nd rfl (by first | exact .inl rfl | exact .inr rfl) (pe_op op_mod (pe_callTy callIntU (by rfl) T.b_int (by decide +kernel) (pa_cons (pe_op (kAdd (K := K) rfl) (pe_op (kAdd (K := K) rfl) (pe_op op_mul (pe_op op_mod (pe_callTy callIntU (by rfl) T.b_int (by decide +kernel) (pa_cons (pv 3) pa_nil)) pe_int) pe_int) (pe_op op_mul pe_int (pv 1))) pe_int) pa_nil)) pe_int))
      (pss_cons (ps_if (pt_cmpR opLtU (pv 3) (pe_op op_pow pe_int pe_int) (nomark _)) (pss_one (ps_set (i := 3) sc_law_source.nd rfl (by first | exact .inl rfl | exact .inr rfl) pe_int)) pss_nil)
      (pss_one (ps_ret (pe_lst (pa_cons (pv 3) (pa_cons (pv 4) pa_nil)))))))))), ?_⟩
    walk_at "start"
    walk_at "v"
    · rename_i hlt
      refine v_ixL hS (at_ints ht0 (by rw [List.length_map] at hlt; exact hlt)) ?_
      walk_at "v"
      all_goals exact fin _ _ _ (by omega) (by omega) (by omega) (by assumption)
    all_goals exact fin _ _ _ (by omega) (by omega) (by omega) (by assumption)

def spDrawB : Sp := fun vs H Q _ => ∃ (a : Addr) (m : Int), vs = [.ref a, .int m] ∧ Src a H ∧ 0 < m ∧ m ≤ 1000000000000000000 ∧
  ∀ (d : Int) H', 0 ≤ d → d < m → Dr a H H' → Q (.int d) H'
local macro_rules | `(tactic| walk_at "ic") => `(tactic| first
  | (refine wide_div (b := 60) ?h1 ?h2 ?h3 ?h4; (case h1 => omega); (case h2 => (show _ < 1152921504606846976; omega)); (case h3 => decide); (case h4 => decide))
  | fail "no rule")
theorem ok_drawB {f : Addr} {fd : FuncData} (F : Fun K "_law_draw" "_law_draw" s_law_draw f fd) (T : Bi mg) : FnOk P w K mg base CX0 1 f fd ["_law_source_here", "_law_amount"] spDrawB := by
  refine F.ok sc_law_draw (fun vs H Q E h => ?_) (fun cdv A outer s H vs Q E hr h => ?_)
  · obtain ⟨a, m, rfl, _⟩ := h
    rfl
  · obtain ⟨a, m, rfl, ⟨n, s, hS, hn, hs, hs2⟩, hm, hm2, q⟩ := h
    have fin : ∀ (d n z : Int), 0 ≤ d → d < m → 0 ≤ n → 0 ≤ z → z < 2147483648 → Q (.int d) (upd H a (.lst [.int n, .int z])) := fun d n z h1 h2 h3 h4 h5 =>
      q d _ h1 h2 ⟨fun b o e hb => by rw [upd_ne hb]; exact e, n, z, upd_same, h3, h4, h5⟩
    refine ⟨_, (pss_cons (ps_if (pt_cmpR opGtU (pe_ix (kIx (K := K) rfl) (pv 0) pe_int (fun _ _ => rfl)) pe_int (nomark _)) (pss_cons (ps_set (i := 2) sc_law_draw.nd rfl (by first | exact .inl rfl | exact .inr rfl) (pe_op op_mod (pe_callTy callIntU (by rfl) T.b_int (by decide +kernel) (pa_cons (pe_ix (kIx (K := K) rfl) (pv 0) pe_int (fun _ _ => rfl)) pa_nil)) (pv 1)))
      (pss_cons (ps_asg (pe_op op_fdivW (pe_ix (kIx (K := K) rfl) (pv 0) pe_int (fun _ _ => rfl)) (pv 1)) (pg_sub (pv 0) pe_int set_list))
      (pss_one (ps_ret (pv 2))))) pss_nil)
      (pss_cons (ps_asg (pe_op op_mod (pe_callTy callIntU (by rfl) T.b_int (by decide +kernel) (pa_cons (pe_op (kAdd (K := K) rfl) (pe_op op_mul (pe_ix (kIx (K := K) rfl) (pv 0) pe_int (fun _ _ => rfl)) pe_int) pe_int) pa_nil)) pe_int) (pg_sub (pv 0) pe_int set_list))
      (pss_one (ps_ret (pe_op op_mod (pe_callTy callIntU (by rfl) T.b_int (by decide +kernel) (pa_cons (pe_op op_fdiv (pe_op op_mod (pe_callTy callIntU (by rfl) T.b_int (by decide +kernel) (pa_cons (pe_op op_mul (pe_ix (kIx (K := K) rfl) (pv 0) pe_int (fun _ _ => rfl)) (pe_ix (kIx (K := K) rfl) (pv 0) pe_int (fun _ _ => rfl))) pa_nil)) pe_int) pe_int) pa_nil)) (pv 1)))))), ?_⟩
    walk_at "start"
    walk_at "v"
    · exact fin _ _ _ (Int.emod_nonneg _ (by omega)) (Int.emod_lt_of_pos _ hm) (Int.ediv_nonneg hn (by omega)) hs hs2
    · exact fin _ _ _ (Int.emod_nonneg _ (by omega)) (Int.emod_lt_of_pos _ hm) hn (by omega) (by omega)
/-! ### the errors -/
def nameAt (i : Nat) : Str := if i < 14 then "given" else if i = 14 then "limit" else if i = 15 then "failure" else if i = 16 then "line" else if i = 17 then "loader" else "word"
def fsAt (x : V) (i : Nat) : List (Str × V) := if i < 14 then [("given", x)] else if i = 14 then [("limit", x)] else if i = 15 then [("failure", x)] else if i = 16 then [("line", x)] else if i = 17 then [("word", .int 1), ("loader", x)] else [("word", x), ("loader", .int 2)]
theorem fs_at {x : V} {i : Nat} (h : i < 19) : (fsAt x i).lookup (nameAt i) = some x := by
  unfold fsAt nameAt
  repeat (first | (split <;> try rfl) | omega)
def five : List Value := [.type "ValueError", .type "LookupError", .type "RuntimeError", .type "OverflowError", .type "TypeError"]
/-- what is asked of the classes of the errors, in order -/
def errsB (K : PySem.W.Frag) (cs : List Addr) : Bool := cs.all (errB K)
def kitsB (K : PySem.W.Frag) (cs : List Addr) : Bool := (List.range 19).all fun i => (List.range 19).all fun j => decide (PySem.W.kitOne K (.ref (cs.getD i 0)) (.ref (cs.getD j 0)) = some (decide (i = j)))
def kitEB (K : PySem.W.Frag) (cE : Addr) (cs : List Addr) : Bool := cs.all fun c => decide (PySem.W.kitOne K (.ref c) (.ref cE) = some true) && decide (PySem.W.kitAny K (.ref c) five = some false)
def noB (K : PySem.W.Frag) (cs : List Addr) : Bool := (List.range 19).all fun i => decide (PySem.W.findIn K (.ref (cs.getD i 0)) (nameAt i) = some none) && (decide (i < 17) || (decide (PySem.W.findIn K (.ref (cs.getD i 0)) "loader" = some none) && decide (PySem.W.findIn K (.ref (cs.getD i 0)) "word" = some none)))
structure TxtE (K : PySem.W.Frag) (mg : Str → Option Value) (cE : Addr) (cs : List Addr) : Prop extends Bi mg where
  len : cs.length = 19
  er : errsB K cs = true
  kit : kitsB K cs = true
  kitE : kitEB K cE cs = true
  no : noB K cs = true
  g_InvalidName : GlobV mg "InvalidName" (.ref (cs.getD 0 0))
  g_InvalidMethod : GlobV mg "InvalidMethod" (.ref (cs.getD 1 0))
  g_InvalidClass : GlobV mg "InvalidClass" (.ref (cs.getD 2 0))
  g_InvalidTable : GlobV mg "InvalidTable" (.ref (cs.getD 3 0))
  g_NameTaken : GlobV mg "NameTaken" (.ref (cs.getD 4 0))
  g_UnknownLoader : GlobV mg "UnknownLoader" (.ref (cs.getD 5 0))
  g_InvalidValues : GlobV mg "InvalidValues" (.ref (cs.getD 6 0))
  g_InvalidChoices : GlobV mg "InvalidChoices" (.ref (cs.getD 7 0))
  g_InvalidLimit : GlobV mg "InvalidLimit" (.ref (cs.getD 8 0))
  g_InvalidOperand : GlobV mg "InvalidOperand" (.ref (cs.getD 9 0))
  g_InvalidJournal : GlobV mg "InvalidJournal" (.ref (cs.getD 10 0))
  g_InvalidCommand : GlobV mg "InvalidCommand" (.ref (cs.getD 11 0))
  g_UnknownName : GlobV mg "UnknownName" (.ref (cs.getD 12 0))
  g_NotLoaded : GlobV mg "NotLoaded" (.ref (cs.getD 13 0))
  g_LimitExceeded : GlobV mg "LimitExceeded" (.ref (cs.getD 14 0))
  g_Failing : GlobV mg "Failing" (.ref (cs.getD 15 0))
  g_ParseError : GlobV mg "ParseError" (.ref (cs.getD 16 0))
  g_UnknownClass : GlobV mg "UnknownClass" (.ref (cs.getD 17 0))
  g_NameFixed : GlobV mg "NameFixed" (.ref (cs.getD 18 0))
  g_ClassError : GlobV mg "ClassError" (.ref cE)
  b_ValueError : mg "ValueError" = none
  b_LookupError : mg "LookupError" = none
  b_RuntimeError : mg "RuntimeError" = none
  b_OverflowError : mg "OverflowError" = none
  b_TypeError : mg "TypeError" = none
section
variable {cE : Addr} {cs : List Addr} {i j : Nat}
theorem getD_mem (h : i < cs.length) : cs.getD i 0 ∈ cs := by
  rw [List.getD_eq_getElem?_getD, List.getElem?_eq_getElem h, Option.getD_some]
  exact List.getElem_mem h
theorem TxtE.e (T : TxtE K mg cE cs) (h : i < 19) : ErrC K (cs.getD i 0) := errB_ok (List.all_eq_true.mp T.er _ (getD_mem (by rw [T.len]; exact h)))
theorem TxtE.k (T : TxtE K mg cE cs) (h : i < 19) (h' : j < 19) : PySem.W.kitOne K (.ref (cs.getD i 0)) (.ref (cs.getD j 0)) = some (decide (i = j)) :=
  of_decide_eq_true (List.all_eq_true.mp (List.all_eq_true.mp T.kit i (List.mem_range.mpr h)) j (List.mem_range.mpr h'))
theorem TxtE.kE (T : TxtE K mg cE cs) (h : i < 19) : PySem.W.kitOne K (.ref (cs.getD i 0)) (.ref cE) = some true ∧ PySem.W.kitAny K (.ref (cs.getD i 0)) five = some false := by
  have q := List.all_eq_true.mp T.kitE _ (getD_mem (i := i) (by rw [T.len]; exact h))
  rw [Bool.and_eq_true, decide_eq_true_eq, decide_eq_true_eq] at q
  exact q
theorem TxtE.n (T : TxtE K mg cE cs) (h : i < 19) : PySem.W.findIn K (.ref (cs.getD i 0)) (nameAt i) = some none := by
  have q := List.all_eq_true.mp T.no i (List.mem_range.mpr h)
  rw [Bool.and_eq_true, decide_eq_true_eq] at q
  exact q.1
theorem TxtE.n2 (T : TxtE K mg cE cs) (h : i < 19) (h' : ¬ i < 17) : PySem.W.findIn K (.ref (cs.getD i 0)) "loader" = some none ∧ PySem.W.findIn K (.ref (cs.getD i 0)) "word" = some none := by
  have q := List.all_eq_true.mp T.no i (List.mem_range.mpr h)
  rw [Bool.and_eq_true, decide_eq_false h', Bool.false_or, Bool.and_eq_true, decide_eq_true_eq, decide_eq_true_eq, decide_eq_true_eq] at q
  exact q.2
end
/-- an error that is held -/
def HasEr (H : Hp) (C : Addr) (fs : List (Str × V)) (v : V) : Prop := ∃ a dx, v = .ref a ∧ H a = some (exo a C (some dx)) ∧ H dx = some (exd dx fs)
theorem HasEr.same {H H' : Hp} {C : Addr} {fs : List (Str × V)} {v : V} (s : Same H H') (h : HasEr H C fs v) : HasEr H' C fs v := by
  obtain ⟨a, dx, e, h1, h2⟩ := h
  exact ⟨a, dx, e, s _ _ h1, s _ _ h2⟩
def spEr1 (f : Str) (C : Addr) : Sp := fun vs H Q _ => ∃ x v, vs = [.ref x, v] ∧ H x = some (exo x C none) ∧ ∀ d, H d = none → d ≠ x → Q .non (upd (upd H d (exd d [(f, v)])) x (exo x C (some d)))
def spEr2 (f g : Str) (C : Addr) : Sp := fun vs H Q _ => ∃ x v u, vs = [.ref x, v, u] ∧ H x = some (exo x C none) ∧ ∀ d, H d = none → d ≠ x → Q .non (upd (upd (upd H d (exd d [(f, v)])) x (exo x C (some d))) d (exd d [(g, u), (f, v)]))
section
variable {σ : L2.St} {H : Hp} {Q : VK} {C : Addr} {f g : Str} {x y : V}
theorem v_erv {sp : Sp} {ta : TA} (k : ta σ H fun vs H1 => vs.length ≤ 1000 ∧ ∀ a, H1 a = none → sp (.ref a :: vs) (upd H1 a (exo a C none)) (fun v H2 => v = .non ∧ Q (.ref a) H2) E0) : tErV C sp ta σ H Q := k
theorem sm_new2 {a d : Addr} {o o1 o2 o3 : HO} (ha : H a = none) (hd : H d = none) (ne : d ≠ a) : Same H (upd (upd (upd H a o) d o1) a o2) ∧ Same H (upd (upd (upd (upd H a o) d o1) a o2) d o3) := by
  refine ⟨fun b u e => ?_, fun b u e => ?_⟩
  · rw [upd_ne (ne_of_none e ha), upd_ne (ne_of_none e hd), upd_ne (ne_of_none e ha)]
    exact e
  · rw [upd_ne (ne_of_none e hd), upd_ne (ne_of_none e ha), upd_ne (ne_of_none e hd), upd_ne (ne_of_none e ha)]
    exact e
theorem v_er1 (k : ∀ v H', Same H H' → HasEr H' C [(f, x)] v → Q v H') : [x].length ≤ 1000 ∧ ∀ a, H a = none → spEr1 f C (.ref a :: [x]) (upd H a (exo a C none)) (fun v H2 => v = .non ∧ Q (.ref a) H2) E0 := by
  refine ⟨by show 1 ≤ 1000; decide, fun a ha => ⟨a, x, rfl, upd_same, fun d hd ne => ⟨rfl, ?_⟩⟩⟩
  rw [upd_ne ne] at hd
  exact k _ _ (sm_new2 ha hd ne (o3 := exo a C none)).1 ⟨a, d, rfl, upd_same, by rw [upd_ne ne]; exact upd_same⟩
theorem v_er2 (k : ∀ v H', Same H H' → HasEr H' C [(g, y), (f, x)] v → Q v H') : [x, y].length ≤ 1000 ∧ ∀ a, H a = none → spEr2 f g C (.ref a :: [x, y]) (upd H a (exo a C none)) (fun v H2 => v = .non ∧ Q (.ref a) H2) E0 := by
  refine ⟨by show 2 ≤ 1000; decide, fun a ha => ⟨a, x, y, rfl, upd_same, fun d hd ne => ⟨rfl, ?_⟩⟩⟩
  rw [upd_ne ne] at hd
  exact k _ _ (sm_new2 ha hd ne).2 ⟨a, d, rfl, by rw [upd_ne ne.symm]; exact upd_same, upd_same⟩
end
/-! ### each __init__ -/
theorem ok_init_InvalidName {C f : Addr} {fd : FuncData} (F : Fun K "__init__" "InvalidName.__init__" s_InvalidName___init__ f fd) (T : ErrC K C) (hno : PySem.W.findIn K (.ref C) "given" = some none) : FnOk P w K mg base CX0 1 f fd ["self", "given"] (spEr1 "given" C) := by
  refine F.ok sc_InvalidName___init__ (fun vs H Q E h => ?_) (fun cdv A outer s H vs Q E hr h => ?_)
  · obtain ⟨x, v, rfl, _⟩ := h
    rfl
  · obtain ⟨x, v, rfl, hx, q⟩ := h
    refine ⟨_, (pss_one (ps_err (pv 0) (pv 1))), ?_⟩
    walk_at "start"
    exact ⟨_, rfl, _, rfl, x, C, rfl, T, hno, .inl ⟨hx, fun d n ne => q d n ne⟩⟩
theorem ok_init_InvalidMethod {C f : Addr} {fd : FuncData} (F : Fun K "__init__" "InvalidMethod.__init__" s_InvalidMethod___init__ f fd) (T : ErrC K C) (hno : PySem.W.findIn K (.ref C) "given" = some none) : FnOk P w K mg base CX0 1 f fd ["self", "given"] (spEr1 "given" C) := by
  refine F.ok sc_InvalidMethod___init__ (fun vs H Q E h => ?_) (fun cdv A outer s H vs Q E hr h => ?_)
  · obtain ⟨x, v, rfl, _⟩ := h
    rfl
  · obtain ⟨x, v, rfl, hx, q⟩ := h
    refine ⟨_, (pss_one (ps_err (pv 0) (pv 1))), ?_⟩
    walk_at "start"
    exact ⟨_, rfl, _, rfl, x, C, rfl, T, hno, .inl ⟨hx, fun d n ne => q d n ne⟩⟩
theorem ok_init_InvalidClass {C f : Addr} {fd : FuncData} (F : Fun K "__init__" "InvalidClass.__init__" s_InvalidClass___init__ f fd) (T : ErrC K C) (hno : PySem.W.findIn K (.ref C) "given" = some none) : FnOk P w K mg base CX0 1 f fd ["self", "given"] (spEr1 "given" C) := by
  refine F.ok sc_InvalidClass___init__ (fun vs H Q E h => ?_) (fun cdv A outer s H vs Q E hr h => ?_)
  · obtain ⟨x, v, rfl, _⟩ := h
    rfl
  · obtain ⟨x, v, rfl, hx, q⟩ := h
    refine ⟨_, (pss_one (ps_err (pv 0) (pv 1))), ?_⟩
    walk_at "start"
    exact ⟨_, rfl, _, rfl, x, C, rfl, T, hno, .inl ⟨hx, fun d n ne => q d n ne⟩⟩
theorem ok_init_InvalidTable {C f : Addr} {fd : FuncData} (F : Fun K "__init__" "InvalidTable.__init__" s_InvalidTable___init__ f fd) (T : ErrC K C) (hno : PySem.W.findIn K (.ref C) "given" = some none) : FnOk P w K mg base CX0 1 f fd ["self", "given"] (spEr1 "given" C) := by
  refine F.ok sc_InvalidTable___init__ (fun vs H Q E h => ?_) (fun cdv A outer s H vs Q E hr h => ?_)
  · obtain ⟨x, v, rfl, _⟩ := h
    rfl
  · obtain ⟨x, v, rfl, hx, q⟩ := h
    refine ⟨_, (pss_one (ps_err (pv 0) (pv 1))), ?_⟩
    walk_at "start"
    exact ⟨_, rfl, _, rfl, x, C, rfl, T, hno, .inl ⟨hx, fun d n ne => q d n ne⟩⟩
theorem ok_init_NameTaken {C f : Addr} {fd : FuncData} (F : Fun K "__init__" "NameTaken.__init__" s_NameTaken___init__ f fd) (T : ErrC K C) (hno : PySem.W.findIn K (.ref C) "given" = some none) : FnOk P w K mg base CX0 1 f fd ["self", "given"] (spEr1 "given" C) := by
  refine F.ok sc_NameTaken___init__ (fun vs H Q E h => ?_) (fun cdv A outer s H vs Q E hr h => ?_)
  · obtain ⟨x, v, rfl, _⟩ := h
    rfl
  · obtain ⟨x, v, rfl, hx, q⟩ := h
    refine ⟨_, (pss_one (ps_err (pv 0) (pv 1))), ?_⟩
    walk_at "start"
    exact ⟨_, rfl, _, rfl, x, C, rfl, T, hno, .inl ⟨hx, fun d n ne => q d n ne⟩⟩
theorem ok_init_UnknownLoader {C f : Addr} {fd : FuncData} (F : Fun K "__init__" "UnknownLoader.__init__" s_UnknownLoader___init__ f fd) (T : ErrC K C) (hno : PySem.W.findIn K (.ref C) "given" = some none) : FnOk P w K mg base CX0 1 f fd ["self", "given"] (spEr1 "given" C) := by
  refine F.ok sc_UnknownLoader___init__ (fun vs H Q E h => ?_) (fun cdv A outer s H vs Q E hr h => ?_)
  · obtain ⟨x, v, rfl, _⟩ := h
    rfl
  · obtain ⟨x, v, rfl, hx, q⟩ := h
    refine ⟨_, (pss_one (ps_err (pv 0) (pv 1))), ?_⟩
    walk_at "start"
    exact ⟨_, rfl, _, rfl, x, C, rfl, T, hno, .inl ⟨hx, fun d n ne => q d n ne⟩⟩
theorem ok_init_InvalidValues {C f : Addr} {fd : FuncData} (F : Fun K "__init__" "InvalidValues.__init__" s_InvalidValues___init__ f fd) (T : ErrC K C) (hno : PySem.W.findIn K (.ref C) "given" = some none) : FnOk P w K mg base CX0 1 f fd ["self", "given"] (spEr1 "given" C) := by
  refine F.ok sc_InvalidValues___init__ (fun vs H Q E h => ?_) (fun cdv A outer s H vs Q E hr h => ?_)
  · obtain ⟨x, v, rfl, _⟩ := h
    rfl
  · obtain ⟨x, v, rfl, hx, q⟩ := h
    refine ⟨_, (pss_one (ps_err (pv 0) (pv 1))), ?_⟩
    walk_at "start"
    exact ⟨_, rfl, _, rfl, x, C, rfl, T, hno, .inl ⟨hx, fun d n ne => q d n ne⟩⟩
theorem ok_init_InvalidChoices {C f : Addr} {fd : FuncData} (F : Fun K "__init__" "InvalidChoices.__init__" s_InvalidChoices___init__ f fd) (T : ErrC K C) (hno : PySem.W.findIn K (.ref C) "given" = some none) : FnOk P w K mg base CX0 1 f fd ["self", "given"] (spEr1 "given" C) := by
  refine F.ok sc_InvalidChoices___init__ (fun vs H Q E h => ?_) (fun cdv A outer s H vs Q E hr h => ?_)
  · obtain ⟨x, v, rfl, _⟩ := h
    rfl
  · obtain ⟨x, v, rfl, hx, q⟩ := h
    refine ⟨_, (pss_one (ps_err (pv 0) (pv 1))), ?_⟩
    walk_at "start"
    exact ⟨_, rfl, _, rfl, x, C, rfl, T, hno, .inl ⟨hx, fun d n ne => q d n ne⟩⟩
theorem ok_init_InvalidLimit {C f : Addr} {fd : FuncData} (F : Fun K "__init__" "InvalidLimit.__init__" s_InvalidLimit___init__ f fd) (T : ErrC K C) (hno : PySem.W.findIn K (.ref C) "given" = some none) : FnOk P w K mg base CX0 1 f fd ["self", "given"] (spEr1 "given" C) := by
  refine F.ok sc_InvalidLimit___init__ (fun vs H Q E h => ?_) (fun cdv A outer s H vs Q E hr h => ?_)
  · obtain ⟨x, v, rfl, _⟩ := h
    rfl
  · obtain ⟨x, v, rfl, hx, q⟩ := h
    refine ⟨_, (pss_one (ps_err (pv 0) (pv 1))), ?_⟩
    walk_at "start"
    exact ⟨_, rfl, _, rfl, x, C, rfl, T, hno, .inl ⟨hx, fun d n ne => q d n ne⟩⟩
theorem ok_init_InvalidOperand {C f : Addr} {fd : FuncData} (F : Fun K "__init__" "InvalidOperand.__init__" s_InvalidOperand___init__ f fd) (T : ErrC K C) (hno : PySem.W.findIn K (.ref C) "given" = some none) : FnOk P w K mg base CX0 1 f fd ["self", "given"] (spEr1 "given" C) := by
  refine F.ok sc_InvalidOperand___init__ (fun vs H Q E h => ?_) (fun cdv A outer s H vs Q E hr h => ?_)
  · obtain ⟨x, v, rfl, _⟩ := h
    rfl
  · obtain ⟨x, v, rfl, hx, q⟩ := h
    refine ⟨_, (pss_one (ps_err (pv 0) (pv 1))), ?_⟩
    walk_at "start"
    exact ⟨_, rfl, _, rfl, x, C, rfl, T, hno, .inl ⟨hx, fun d n ne => q d n ne⟩⟩
theorem ok_init_InvalidJournal {C f : Addr} {fd : FuncData} (F : Fun K "__init__" "InvalidJournal.__init__" s_InvalidJournal___init__ f fd) (T : ErrC K C) (hno : PySem.W.findIn K (.ref C) "given" = some none) : FnOk P w K mg base CX0 1 f fd ["self", "given"] (spEr1 "given" C) := by
  refine F.ok sc_InvalidJournal___init__ (fun vs H Q E h => ?_) (fun cdv A outer s H vs Q E hr h => ?_)
  · obtain ⟨x, v, rfl, _⟩ := h
    rfl
  · obtain ⟨x, v, rfl, hx, q⟩ := h
    refine ⟨_, (pss_one (ps_err (pv 0) (pv 1))), ?_⟩
    walk_at "start"
    exact ⟨_, rfl, _, rfl, x, C, rfl, T, hno, .inl ⟨hx, fun d n ne => q d n ne⟩⟩
theorem ok_init_InvalidCommand {C f : Addr} {fd : FuncData} (F : Fun K "__init__" "InvalidCommand.__init__" s_InvalidCommand___init__ f fd) (T : ErrC K C) (hno : PySem.W.findIn K (.ref C) "given" = some none) : FnOk P w K mg base CX0 1 f fd ["self", "given"] (spEr1 "given" C) := by
  refine F.ok sc_InvalidCommand___init__ (fun vs H Q E h => ?_) (fun cdv A outer s H vs Q E hr h => ?_)
  · obtain ⟨x, v, rfl, _⟩ := h
    rfl
  · obtain ⟨x, v, rfl, hx, q⟩ := h
    refine ⟨_, (pss_one (ps_err (pv 0) (pv 1))), ?_⟩
    walk_at "start"
    exact ⟨_, rfl, _, rfl, x, C, rfl, T, hno, .inl ⟨hx, fun d n ne => q d n ne⟩⟩
theorem ok_init_UnknownName {C f : Addr} {fd : FuncData} (F : Fun K "__init__" "UnknownName.__init__" s_UnknownName___init__ f fd) (T : ErrC K C) (hno : PySem.W.findIn K (.ref C) "given" = some none) : FnOk P w K mg base CX0 1 f fd ["self", "given"] (spEr1 "given" C) := by
  refine F.ok sc_UnknownName___init__ (fun vs H Q E h => ?_) (fun cdv A outer s H vs Q E hr h => ?_)
  · obtain ⟨x, v, rfl, _⟩ := h
    rfl
  · obtain ⟨x, v, rfl, hx, q⟩ := h
    refine ⟨_, (pss_one (ps_err (pv 0) (pv 1))), ?_⟩
    walk_at "start"
    exact ⟨_, rfl, _, rfl, x, C, rfl, T, hno, .inl ⟨hx, fun d n ne => q d n ne⟩⟩
theorem ok_init_NotLoaded {C f : Addr} {fd : FuncData} (F : Fun K "__init__" "NotLoaded.__init__" s_NotLoaded___init__ f fd) (T : ErrC K C) (hno : PySem.W.findIn K (.ref C) "given" = some none) : FnOk P w K mg base CX0 1 f fd ["self", "given"] (spEr1 "given" C) := by
  refine F.ok sc_NotLoaded___init__ (fun vs H Q E h => ?_) (fun cdv A outer s H vs Q E hr h => ?_)
  · obtain ⟨x, v, rfl, _⟩ := h
    rfl
  · obtain ⟨x, v, rfl, hx, q⟩ := h
    refine ⟨_, (pss_one (ps_err (pv 0) (pv 1))), ?_⟩
    walk_at "start"
    exact ⟨_, rfl, _, rfl, x, C, rfl, T, hno, .inl ⟨hx, fun d n ne => q d n ne⟩⟩
theorem ok_init_LimitExceeded {C f : Addr} {fd : FuncData} (F : Fun K "__init__" "LimitExceeded.__init__" s_LimitExceeded___init__ f fd) (T : ErrC K C) (hno : PySem.W.findIn K (.ref C) "limit" = some none) : FnOk P w K mg base CX0 1 f fd ["self", "limit"] (spEr1 "limit" C) := by
  refine F.ok sc_LimitExceeded___init__ (fun vs H Q E h => ?_) (fun cdv A outer s H vs Q E hr h => ?_)
  · obtain ⟨x, v, rfl, _⟩ := h
    rfl
  · obtain ⟨x, v, rfl, hx, q⟩ := h
    refine ⟨_, (pss_one (ps_err (pv 0) (pv 1))), ?_⟩
    walk_at "start"
    exact ⟨_, rfl, _, rfl, x, C, rfl, T, hno, .inl ⟨hx, fun d n ne => q d n ne⟩⟩
theorem ok_init_Failing {C f : Addr} {fd : FuncData} (F : Fun K "__init__" "Failing.__init__" s_Failing___init__ f fd) (T : ErrC K C) (hno : PySem.W.findIn K (.ref C) "failure" = some none) : FnOk P w K mg base CX0 1 f fd ["self", "failure"] (spEr1 "failure" C) := by
  refine F.ok sc_Failing___init__ (fun vs H Q E h => ?_) (fun cdv A outer s H vs Q E hr h => ?_)
  · obtain ⟨x, v, rfl, _⟩ := h
    rfl
  · obtain ⟨x, v, rfl, hx, q⟩ := h
    refine ⟨_, (pss_one (ps_err (pv 0) (pv 1))), ?_⟩
    walk_at "start"
    exact ⟨_, rfl, _, rfl, x, C, rfl, T, hno, .inl ⟨hx, fun d n ne => q d n ne⟩⟩
theorem ok_init_ParseError {C f : Addr} {fd : FuncData} (F : Fun K "__init__" "ParseError.__init__" s_ParseError___init__ f fd) (T : ErrC K C) (hno : PySem.W.findIn K (.ref C) "line" = some none) : FnOk P w K mg base CX0 1 f fd ["self", "line"] (spEr1 "line" C) := by
  refine F.ok sc_ParseError___init__ (fun vs H Q E h => ?_) (fun cdv A outer s H vs Q E hr h => ?_)
  · obtain ⟨x, v, rfl, _⟩ := h
    rfl
  · obtain ⟨x, v, rfl, hx, q⟩ := h
    refine ⟨_, (pss_one (ps_err (pv 0) (pv 1))), ?_⟩
    walk_at "start"
    exact ⟨_, rfl, _, rfl, x, C, rfl, T, hno, .inl ⟨hx, fun d n ne => q d n ne⟩⟩
theorem ok_init_UnknownClass {C f : Addr} {fd : FuncData} (F : Fun K "__init__" "UnknownClass.__init__" s_UnknownClass___init__ f fd) (T : ErrC K C) (h1 : PySem.W.findIn K (.ref C) "loader" = some none) (h2 : PySem.W.findIn K (.ref C) "word" = some none) : FnOk P w K mg base CX0 1 f fd ["self", "loader", "word"] (spEr2 "loader" "word" C) := by
  refine F.ok sc_UnknownClass___init__ (fun vs H Q E h => ?_) (fun cdv A outer s H vs Q E hr h => ?_)
  · obtain ⟨x, v, u, rfl, _⟩ := h
    rfl
  · obtain ⟨x, v, u, rfl, hx, q⟩ := h
    refine ⟨_, (pss_cons (ps_err (pv 0) (pv 1)) (pss_one (ps_err (pv 0) (pv 2)))), ?_⟩
    walk_at "start"
    walk_at "v"
    exact ⟨_, rfl, _, rfl, x, C, rfl, T, h1, .inl ⟨hx, fun d n ne => ⟨_, rfl, _, rfl, x, C, rfl, T, h2, .inr ⟨d, _, upd_same, by rw [upd_ne ne]; exact upd_same, by show 1 ≤ 900; decide, q d n ne⟩⟩⟩⟩
theorem ok_init_NameFixed {C f : Addr} {fd : FuncData} (F : Fun K "__init__" "NameFixed.__init__" s_NameFixed___init__ f fd) (T : ErrC K C) (h1 : PySem.W.findIn K (.ref C) "loader" = some none) (h2 : PySem.W.findIn K (.ref C) "word" = some none) : FnOk P w K mg base CX0 1 f fd ["self", "loader", "word"] (spEr2 "loader" "word" C) := by
  refine F.ok sc_NameFixed___init__ (fun vs H Q E h => ?_) (fun cdv A outer s H vs Q E hr h => ?_)
  · obtain ⟨x, v, u, rfl, _⟩ := h
    rfl
  · obtain ⟨x, v, u, rfl, hx, q⟩ := h
    refine ⟨_, (pss_cons (ps_err (pv 0) (pv 1)) (pss_one (ps_err (pv 0) (pv 2)))), ?_⟩
    walk_at "start"
    walk_at "v"
    exact ⟨_, rfl, _, rfl, x, C, rfl, T, h1, .inl ⟨hx, fun d n ne => ⟨_, rfl, _, rfl, x, C, rfl, T, h2, .inr ⟨d, _, upd_same, by rw [upd_ne ne]; exact upd_same, by show 1 ≤ 900; decide, q d n ne⟩⟩⟩⟩
end K30

open PySem PySem.Spec PyProof.Rows L2 Kit
namespace Kit
def rErU (K : PySem.W.Frag) : List V → Hp → VK → Prop := fun xs H Q => rErIs K xs H Q ∨ rErIsT K xs H Q
theorem call_erU {X : Cx} {K : PySem.W.Frag} (hK : X.K = K) : CallR X (.builtin "isinstance") (rErU K) := by subst hK; exact callOr call_erIs call_erIsT
theorem call_reprK {X : Cx} {K : PySem.W.Frag} (hK : X.K = K) (gd : X.A.guards = some []) (hu : X.A.units + 64 < cLine) : CallR X (.builtin "repr") (rRepr K) := by subst hK; exact call_reprG gd hu
end Kit
namespace K30
local macro_rules | `(tactic| walk_at "ne") => `(tactic| first
  | assumption
  | (apply Ne.symm; assumption)
  | exact ne_of_none (by assumption) (by assumption)
  | exact (ne_of_none (by assumption) (by assumption)).symm
  | (refine ne_of_none (H := ?H0) (o := ?oo) ?hs ?hn; (case hn => assumption); (case hs => walk_at "hp"))
  | (refine (ne_of_none (H := ?H0) (o := ?oo) ?hs ?hn).symm; (case hn => assumption); (case hs => walk_at "hp"))
  | (refine Src.ne (H := ?H0) ?hs ?hn; (case hn => assumption); (case hs => walk_at "src"))
  | (refine (Src.ne (H := ?H0) ?hs ?hn).symm; (case hn => assumption); (case hs => walk_at "src"))
  | fail "no rule")
local macro_rules | `(tactic| walk_at "hp") => `(tactic| first
  | assumption
  | exact upd_same
  | (refine (upd_ne ?hne).trans ?hrest; (case hne => walk_at "ne"); (case hrest => walk_at "hp"))
  | (refine same_at (H := ?H0) ?hs ?hrest; (case hs => assumption); (case hrest => walk_at "hp"))
  | (refine dr_at (H := ?H0) (a := ?a0) ?hs ?hne ?hrest; (case hs => assumption); (case hne => walk_at "ne"); (case hrest => walk_at "hp"))
  | fail "no rule")
local macro_rules | `(tactic| walk_at "sq") => `(tactic| first
  | assumption
  | exact Or.inl (Or.inl (by walk_at "hp"))
  | (refine sq_upd ?hnn ?hss; (case hnn => assumption); (case hss => walk_at "sq"))
  | (refine Same.seq (H := ?H0) ?hs ?hrest; (case hs => assumption); (case hrest => walk_at "sq"))
  | (refine sq_dr (H := ?H0) (a := ?a0) ?hs ?hne ?hrest; (case hs => assumption); (case hne => walk_at "ne"); (case hrest => walk_at "sq"))
  | fail "no rule")
local macro_rules | `(tactic| walk_at "sm") => `(tactic| first
  | assumption
  | exact Same.refl _
  | (refine same_new ?hnn; (case hnn => assumption))
  | (refine same_push ?hs ?hnn; (case hnn => assumption); (case hs => walk_at "sm"))
  | (refine same_mut ?hs ?hnn; (case hs => walk_at "sm"); (case hnn => walk_at "fr"))
  | (refine Same.trans (H1 := ?H1) ?hs ?hq; (case hq => assumption); (case hs => walk_at "sm"))
  | fail "no rule")
local macro_rules | `(tactic| walk_at "fr") => `(tactic| first
  | assumption
  | (refine Same.free (H' := ?H1) ?hs ?hq; (case hq => assumption); (case hs => walk_at "sm"))
  | fail "no rule")
local macro_rules | `(tactic| walk_at "src") => `(tactic| first
  | assumption
  | exact Dr.src (by assumption)
  | (refine Src.same (H := ?H0) ?hs ?hm; (case hm => assumption); (case hs => walk_at "src"))
  | (refine Src.upd ?hs ?hn; (case hs => walk_at "src"); (case hn => walk_at "ne"))
  | fail "no rule")
local macro_rules | `(tactic| walk_at "fd") => `(tactic| first
  | assumption
  | (refine Same.free (H' := ?H1) ?hs ?hq; (case hq => assumption); (case hs => walk_at "sm"))
  | (refine Dr.free (H' := ?H1) ?h0 ?hs ?hq; (case hq => assumption); (case hs => walk_at "dr"); (case h0 => walk_at "src"))
  | fail "no rule")
local macro_rules | `(tactic| walk_at "dr") => `(tactic| first
  | assumption
  | (refine Dr.trans (H' := ?H1) ?hs ?hq; (case hq => assumption); (case hs => walk_at "dr"))
  | (refine Dr.mut ?hs ?h0 ?hn; (case hs => walk_at "dr"); (case h0 => walk_at "src"); (case hn => walk_at "fd"))
  | (refine Dr.trans (H' := ?H1) ?hs (Dr.same ?h0 ?hq); (case hq => assumption); (case h0 => walk_at "src"); (case hs => walk_at "dr"))
  | (refine Dr.refl ?hs; (case hs => walk_at "src"))
  | fail "no rule")
local macro_rules | `(tactic| walk_at "sz") => `(tactic| first
  | omega
  | (refine Nat.le_trans ?_ (show (1000 : Nat) ≤ sizeLine by decide); first | decide | omega | (simp; done) | (simp; omega) | fail)
  | fail "no rule")
local macro_rules | `(tactic| walk_at "v1") => `(tactic| first
  | with_reducible refine v_seq ?_
  | with_reducible refine v_asg ?_
  | with_reducible refine v_gname ?_
  | with_reducible refine v_c ?_
  | ((with_reducible refine v_var (v := ?vv) ?hv ?_); (case hv => exact rfl))
  | with_reducible refine v_op ?_
  | with_reducible refine v_un ?_
  | with_reducible refine v_I0 ?_
  | with_reducible refine v_U ?_
  | with_reducible refine v_addI ?_
  | with_reducible refine v_ltI ?_
  | with_reducible refine v_leI ?_
  | with_reducible refine v_gtI ?_
  | with_reducible refine v_geI ?_
  | with_reducible refine v_leS ?_
  | with_reducible refine v_ltS ?_
  | with_reducible refine v_eqI ?_
  | with_reducible refine v_neI ?_
  | with_reducible refine v_eqS ?_
  | with_reducible refine v_neS ?_
  | with_reducible refine v_eqB ?_
  | ((with_reducible refine v_eqTy ?h1 ?h2 ?_); (case h1 => walk_at "bt"); (case h2 => walk_at "bt"))
  | ((with_reducible refine v_neTy ?h1 ?h2 ?_); (case h1 => walk_at "bt"); (case h2 => walk_at "bt"))
  | with_reducible refine v_test ?_
  | with_reducible refine v_B ?_
  | with_reducible refine v_isbl ?_
  | with_reducible refine v_and ?_
  | with_reducible refine v_or ?_
  | with_reducible refine v_not ?_
  | with_reducible refine v_andV ?_
  | with_reducible refine v_orV ?_
  | with_reducible refine v_notV ?_
  | with_reducible refine v_if ?_
  | with_reducible refine v_chain ?_
  | with_reducible refine v_nil ?_
  | with_reducible refine v_cons ?_
  | with_reducible refine v_cb ?_
  | with_reducible refine v_call ?_
  | with_reducible refine v_max ?_
  | ((with_reducible refine v_draw ?hs ?hm ?_); (case hs => walk_at "src"); (case hm => omega))
  | with_reducible refine v_min ?_
  | with_reducible refine v_intI ?_
  | with_reducible refine v_intB ?_
  | with_reducible refine v_m1 ?_
  | with_reducible refine v_isstr ?_
  | with_reducible refine v_sl ?_
  | with_reducible refine v_ss ?_
  | with_reducible refine v_disp1 ?_
  | with_reducible refine v_s0 ?_
  | with_reducible refine v_nopart ?_
  | with_reducible refine v_part ?_
  | with_reducible refine v_partI ?_
  | with_reducible refine v_next ?_
  | with_reducible refine v_gsub ?_
  | with_reducible refine v_ifS ?_
  | with_reducible refine v_ret ?_
  | with_reducible refine v_drop ?_
  | ((with_reducible refine v_iteTrue ?hb ?_); (case hb => walk_at "bt"))
  | ((with_reducible refine v_iteFalse ?hb ?_); (case hb => walk_at "bt"))
  | with_reducible refine v_iteD ?_ ?_
  | with_reducible refine v_iteNot ?_
  | with_reducible refine v_lc ?_
  | with_reducible refine v_iStr ?_
  | with_reducible refine v_isS ?_
  | with_reducible refine v_iRng1 ?_
  | ((with_reducible refine v_rng1 ?hb ?_); (case hb => omega))
  | with_reducible refine v_iList ?_
  | with_reducible refine v_iSeq ?_
  | ((with_reducible refine v_isL (xs := ?xx) ?hsq ?_); (case hsq => walk_at "sq"))
  | with_reducible refine v_for ?_
  | with_reducible refine v_yes ?_
  | ((with_reducible refine v_nand ?hw ?_); (case hw => first | exact rfl | walk_at "sz" | fail))
  | ((with_reducible refine v_typ (T := ?TT) ?ht ?_); (case ht => walk_at "ty"))
  | ((with_reducible refine v_isiK (T := ?TT) ?ht ?h1 ?h2 ?_); (case ht => walk_at "ty"); (case h1 => walk_at "bt"); (case h2 => exact rfl))
  | with_reducible refine iteT ?_
  | with_reducible refine iteF ?_
  | with_reducible refine v_tup ?_
  | with_reducible refine v_lst ?_
  | ((with_reducible refine v_ixL (xs := ?xx) (v := ?vv) ?hsq ?hat ?_); (case hsq => walk_at "sq"); (case hat => exact rfl))
  | ((with_reducible refine v_lenL (xs := ?xx) ?hsq ?_); (case hsq => walk_at "sq"))
  | ((with_reducible refine v_setL (xs := ?xx) (j := ?jj) ?hh ?hj ?_); (case hh => walk_at "hp"); (case hj => exact rfl))
  | ((with_reducible refine v_I ?hc ?_); (case hc => walk_at "ic"))
  | ((with_reducible refine v_lenS ?hz ?_); (case hz => walk_at "sz"))
  | ((with_reducible refine v_slS ?hz ?_); (case hz => walk_at "sz"))
  | ((with_reducible refine v_addS ?hz ?_); (case hz => walk_at "sz"))
  | ((with_reducible refine v_ixS (c := ?cc) ?hz ?hat ?_); (case hz => walk_at "sz"); (case hat => exact rfl))
  | ((with_reducible refine v_addL (xs := ?xx) (ys := ?yy) ?h1 ?h2 ?hz ?_); (case h1 => walk_at "hp"); (case h2 => walk_at "hp"); (case hz => walk_at "sz"))
  | ((with_reducible refine v_ixT (xs := ?xx) (v := ?vv) ?hsq ?hat ?_); (case hsq => walk_at "sq"); (case hat => exact rfl))
  | ((with_reducible refine v_lenT (xs := ?xx) ?hsq ?_); (case hsq => walk_at "sq"))
  | ((with_reducible refine v_eq ?hs ?_); (case hs => exact rfl))
  | ((with_reducible refine v_ne ?hs ?_); (case hs => exact rfl))
  | (with_reducible intro _)
  | fail "no rule")
local macro_rules | `(tactic| walk_at "ic") => `(tactic| first
  | (show (0 : Int) < _; first | decide | omega | fail)
  | (show CMul _ _; unfold CMul; omega)
  | (show CDiv _ _; unfold CDiv; omega)
  | (show CPow _ _; unfold CPow; exact ⟨by decide, by decide, by decide⟩)
  | fail "no rule")
local macro_rules | `(tactic| walk_at "bt") => `(tactic| first
  | exact rfl
  | assumption
  | decide +kernel
  | (simp; done)
  | fail "no rule")
local macro_rules | `(tactic| walk_at "ty") => `(tactic| first
  | assumption
  | exact .non
  | exact .bl _
  | exact .int _
  | exact .str _
  | exact .lst (by walk_at "sq")
  | exact .tup (by walk_at "sq")
  | exact .dK (by walk_at "hp")
  | fail "no rule")
local macro_rules | `(tactic| walk_at "v") => `(tactic| try (walk_at "v1" <;> walk_at "v"))
local macro_rules | `(tactic| walk_at "start") => `(tactic| dsimp only [L2.start, cxOf, Cx.nox, Cx.wish, List.map, List.replicate, List.length, List.append, Nat.reduceSub, Nat.reduceAdd, List.cons_append, List.nil_append])

variable {P : Program} {w : World} {K : PySem.W.Frag} {mg : Str → Option Value} {base : Heap}
variable {cE : Addr} {cs : List Addr}
section
variable {H : Hp} {Q : VK} {C D : Addr} {fs : List (Str × V)} {v x : V} {b : Bool} {f : Str} {σ : L2.St}
theorem v_erIs (h : HasEr H C fs v) (T : ErrC K C) (k : PySem.W.kitOne K (.ref C) (.ref D) = some b) (q : Q (.bl b) H) : rErU K [v, .ref D] H Q := by
  obtain ⟨a, dx, rfl, h1, h2⟩ := h
  exact .inl ⟨a, C, dx, fs, .ref D, .ref D, b, rfl, T, h1, h2, .own D, k, q⟩
theorem v_par {i j : Nat} {ta : TA} {D : Ends} (k : ta σ H fun vs H1 => ∃ v w, vs = [v, w] ∧ D.nx ((σ.set i (some v)).set j (some w)) H1) : tPar i j ta D σ H := k
theorem er_1 (hs : σ[0]? = some (some x)) (k : ∀ v H', Same H H' → HasEr H' C [(f, x)] v → Q v H') : tErV C (spEr1 f C) (tCons (tVar 0) tNil) σ H Q := ⟨x, hs, v_er1 k⟩
/-- the classes, seen from one of them -/
def KitsAt (K : PySem.W.Frag) (cs : List Addr) (i : Nat) : Prop := ∀ j, j < 19 → PySem.W.kitOne K (.ref (cs.getD i 0)) (.ref (cs.getD j 0)) = some (decide (i = j))
theorem KitsAt.at {cs : List Addr} {i j : Nat} (h : KitsAt K cs i) (hj : j < 19) : PySem.W.kitOne K (.ref (cs.getD i 0)) (.ref (cs.getD j 0)) = some (decide (i = j)) := h j hj
theorem er_2a {g : Str} {n : Int} (hs : σ[0]? = some (some x)) (k : ∀ v H', Same H H' → HasEr H' C [(g, x), (f, .int n)] v → Q v H') : tErV C (spEr2 f g C) (tCons (tC (.int n)) (tCons (tVar 0) tNil)) σ H Q := ⟨x, hs, v_er2 k⟩
theorem er_2b {g : Str} {n : Int} (hs : σ[0]? = some (some x)) (k : ∀ v H', Same H H' → HasEr H' C [(g, .int n), (f, x)] v → Q v H') : tErV C (spEr2 f g C) (tCons (tVar 0) (tCons (tC (.int n)) tNil)) σ H Q := ⟨x, hs, v_er2 k⟩
theorem v_erat {te : TE} (k : te σ H fun x H1 => ∃ (a C dx : Addr) (fs : List (Str × V)) (v : V), x = .ref a ∧ ErrC K C ∧ PySem.W.findIn K (.ref C) f = some none ∧ H1 a = some (exo a C (some dx)) ∧ H1 dx = some (exd dx fs) ∧ fs.lookup f = some v ∧ Q v H1) : tErAt K f te σ H Q := k
theorem v_erat2 (h : HasEr H C fs x) (T : ErrC K C) (no : PySem.W.findIn K (.ref C) f = some none) (l : fs.lookup f = some v) (q : Q v H) : ∃ (a C dx : Addr) (fs : List (Str × V)) (v : V), x = .ref a ∧ ErrC K C ∧ PySem.W.findIn K (.ref C) f = some none ∧ H a = some (exo a C (some dx)) ∧ H dx = some (exd dx fs) ∧ fs.lookup f = some v ∧ Q v H := by
  obtain ⟨a, dx, rfl, h1, h2⟩ := h
  exact ⟨a, C, dx, fs, v, rfl, T, no, h1, h2, l, q⟩
end
local macro_rules | `(tactic| walk_at "he") => `(tactic| first
  | assumption
  | (refine HasEr.same (H := ?H0) ?hs ?hh; (case hh => assumption); (case hs => walk_at "sm"))
  | fail "no rule")
local macro_rules | `(tactic| walk_at "v1") => `(tactic| first
  | ((with_reducible refine er_1 (x := ?xx) ?hs ?_); (case hs => exact rfl))
  | ((with_reducible refine er_2a (x := ?xx) ?hs ?_); (case hs => exact rfl))
  | ((with_reducible refine er_2b (x := ?xx) ?hs ?_); (case hs => exact rfl))
  | with_reducible refine v_erat ?_
  | ((with_reducible refine v_erIs (C := ?CC) (fs := ?ff) (b := ?bb) ?h ?T ?k ?_); (case h => walk_at "he"); (case T => assumption); (case k => (refine KitsAt.at ?hk ?hj; (case hk => assumption); (case hj => decide))))
  | fail "no rule")
/-! ### _law_all -/
def Ers (H : Hp) (cs : List Addr) (x : V) (xs : List V) : Prop := xs.length = 19 ∧ ∀ i v, xs[i]? = some v → HasEr H (cs.getD i 0) (fsAt x i) v
theorem ers_of {H : Hp} {x v0 v1 v2 v3 v4 v5 v6 v7 v8 v9 v10 v11 v12 v13 v14 v15 v16 v17 v18 : V}
    (h0 : HasEr H (cs.getD 0 0) [("given", x)] v0)
    (h1 : HasEr H (cs.getD 1 0) [("given", x)] v1)
    (h2 : HasEr H (cs.getD 2 0) [("given", x)] v2)
    (h3 : HasEr H (cs.getD 3 0) [("given", x)] v3)
    (h4 : HasEr H (cs.getD 4 0) [("given", x)] v4)
    (h5 : HasEr H (cs.getD 5 0) [("given", x)] v5)
    (h6 : HasEr H (cs.getD 6 0) [("given", x)] v6)
    (h7 : HasEr H (cs.getD 7 0) [("given", x)] v7)
    (h8 : HasEr H (cs.getD 8 0) [("given", x)] v8)
    (h9 : HasEr H (cs.getD 9 0) [("given", x)] v9)
    (h10 : HasEr H (cs.getD 10 0) [("given", x)] v10)
    (h11 : HasEr H (cs.getD 11 0) [("given", x)] v11)
    (h12 : HasEr H (cs.getD 12 0) [("given", x)] v12)
    (h13 : HasEr H (cs.getD 13 0) [("given", x)] v13)
    (h14 : HasEr H (cs.getD 14 0) [("limit", x)] v14)
    (h15 : HasEr H (cs.getD 15 0) [("failure", x)] v15)
    (h16 : HasEr H (cs.getD 16 0) [("line", x)] v16)
    (h17 : HasEr H (cs.getD 17 0) [("word", .int 1), ("loader", x)] v17)
    (h18 : HasEr H (cs.getD 18 0) [("word", x), ("loader", .int 2)] v18)
    : Ers H cs x [v0, v1, v2, v3, v4, v5, v6, v7, v8, v9, v10, v11, v12, v13, v14, v15, v16, v17, v18] := by
  refine ⟨rfl, fun i v e => ?_⟩
  match i, e with
  | 0, e => cases e; exact h0
  | 1, e => cases e; exact h1
  | 2, e => cases e; exact h2
  | 3, e => cases e; exact h3
  | 4, e => cases e; exact h4
  | 5, e => cases e; exact h5
  | 6, e => cases e; exact h6
  | 7, e => cases e; exact h7
  | 8, e => cases e; exact h8
  | 9, e => cases e; exact h9
  | 10, e => cases e; exact h10
  | 11, e => cases e; exact h11
  | 12, e => cases e; exact h12
  | 13, e => cases e; exact h13
  | 14, e => cases e; exact h14
  | 15, e => cases e; exact h15
  | 16, e => cases e; exact h16
  | 17, e => cases e; exact h17
  | 18, e => cases e; exact h18
  | n + 19, e => cases e
def spAll (cs : List Addr) : Sp := fun vs H Q _ => ∃ x, vs = [x] ∧ ∀ p xs H', Same H H' → H' p = some (.lst xs) → Ers H' cs x xs → Q (.ref p) H'
theorem ok_all {f : Addr} {fd : FuncData} (F : Fun K "_law_all" "_law_all" s_law_all f fd) (T : TxtE K mg cE cs)
    (C_InvalidName : ErCal P w K mg base 1 "InvalidName" (cs.getD 0 0) ["self", "given"] (spEr1 "given" (cs.getD 0 0)))
    (C_InvalidMethod : ErCal P w K mg base 1 "InvalidMethod" (cs.getD 1 0) ["self", "given"] (spEr1 "given" (cs.getD 1 0)))
    (C_InvalidClass : ErCal P w K mg base 1 "InvalidClass" (cs.getD 2 0) ["self", "given"] (spEr1 "given" (cs.getD 2 0)))
    (C_InvalidTable : ErCal P w K mg base 1 "InvalidTable" (cs.getD 3 0) ["self", "given"] (spEr1 "given" (cs.getD 3 0)))
    (C_NameTaken : ErCal P w K mg base 1 "NameTaken" (cs.getD 4 0) ["self", "given"] (spEr1 "given" (cs.getD 4 0)))
    (C_UnknownLoader : ErCal P w K mg base 1 "UnknownLoader" (cs.getD 5 0) ["self", "given"] (spEr1 "given" (cs.getD 5 0)))
    (C_InvalidValues : ErCal P w K mg base 1 "InvalidValues" (cs.getD 6 0) ["self", "given"] (spEr1 "given" (cs.getD 6 0)))
    (C_InvalidChoices : ErCal P w K mg base 1 "InvalidChoices" (cs.getD 7 0) ["self", "given"] (spEr1 "given" (cs.getD 7 0)))
    (C_InvalidLimit : ErCal P w K mg base 1 "InvalidLimit" (cs.getD 8 0) ["self", "given"] (spEr1 "given" (cs.getD 8 0)))
    (C_InvalidOperand : ErCal P w K mg base 1 "InvalidOperand" (cs.getD 9 0) ["self", "given"] (spEr1 "given" (cs.getD 9 0)))
    (C_InvalidJournal : ErCal P w K mg base 1 "InvalidJournal" (cs.getD 10 0) ["self", "given"] (spEr1 "given" (cs.getD 10 0)))
    (C_InvalidCommand : ErCal P w K mg base 1 "InvalidCommand" (cs.getD 11 0) ["self", "given"] (spEr1 "given" (cs.getD 11 0)))
    (C_UnknownName : ErCal P w K mg base 1 "UnknownName" (cs.getD 12 0) ["self", "given"] (spEr1 "given" (cs.getD 12 0)))
    (C_NotLoaded : ErCal P w K mg base 1 "NotLoaded" (cs.getD 13 0) ["self", "given"] (spEr1 "given" (cs.getD 13 0)))
    (C_LimitExceeded : ErCal P w K mg base 1 "LimitExceeded" (cs.getD 14 0) ["self", "limit"] (spEr1 "limit" (cs.getD 14 0)))
    (C_Failing : ErCal P w K mg base 1 "Failing" (cs.getD 15 0) ["self", "failure"] (spEr1 "failure" (cs.getD 15 0)))
    (C_ParseError : ErCal P w K mg base 1 "ParseError" (cs.getD 16 0) ["self", "line"] (spEr1 "line" (cs.getD 16 0)))
    (C_UnknownClass : ErCal P w K mg base 1 "UnknownClass" (cs.getD 17 0) ["self", "loader", "word"] (spEr2 "loader" "word" (cs.getD 17 0)))
    (C_NameFixed : ErCal P w K mg base 1 "NameFixed" (cs.getD 18 0) ["self", "loader", "word"] (spEr2 "loader" "word" (cs.getD 18 0)))
    : FnOk P w K mg base CX0 3 f fd ["_law_item"] (spAll cs) := by
  refine F.ok sc_law_all (fun vs H Q E h => ?_) (fun cdv A outer s H vs Q E hr h => ?_)
  · obtain ⟨x, rfl, _⟩ := h
    rfl
  · obtain ⟨x, rfl, q⟩ := h
    refine ⟨_, (pss_cons (ps_set (i := 1) sc_law_all.nd rfl (by first | exact .inl rfl | exact .inr rfl) (pe_lst (pa_cons (pe_err C_InvalidName hr (by omega) (by rfl) (pa_cons (pv 0) pa_nil)) (pa_cons (pe_err C_InvalidMethod hr (by omega) (by rfl) (pa_cons (pv 0) pa_nil)) (pa_cons (pe_err C_InvalidClass hr (by omega) (by rfl) (pa_cons (pv 0) pa_nil)) (pa_cons (pe_err C_InvalidTable hr (by omega) (by rfl) (pa_cons (pv 0) pa_nil)) (pa_cons (pe_err C_NameTaken hr (by omega) (by rfl) (pa_cons (pv 0) pa_nil)) pa_nil)))))))
      (pss_cons (ps_set (i := 1) sc_law_all.nd rfl (by first | exact .inl rfl | exact .inr rfl) (pe_op (kAdd (K := K) rfl) (pv 1) (pe_lst (pa_cons (pe_err C_UnknownLoader hr (by omega) (by rfl) (pa_cons (pv 0) pa_nil)) (pa_cons (pe_err C_InvalidValues hr (by omega) (by rfl) (pa_cons (pv 0) pa_nil)) (pa_cons (pe_err C_InvalidChoices hr (by omega) (by rfl) (pa_cons (pv 0) pa_nil)) (pa_cons (pe_err C_InvalidLimit hr (by omega) (by rfl) (pa_cons (pv 0) pa_nil)) pa_nil)))))))
      (pss_cons (ps_set (i := 1) sc_law_all.nd rfl (by first | exact .inl rfl | exact .inr rfl) (pe_op (kAdd (K := K) rfl) (pv 1) (pe_lst (pa_cons (pe_err C_InvalidOperand hr (by omega) (by rfl) (pa_cons (pv 0) pa_nil)) (pa_cons (pe_err C_InvalidJournal hr (by omega) (by rfl) (pa_cons (pv 0) pa_nil)) (pa_cons (pe_err C_InvalidCommand hr (by omega) (by rfl) (pa_cons (pv 0) pa_nil)) pa_nil))))))
      (pss_cons (ps_set (i := 1) sc_law_all.nd rfl (by first | exact .inl rfl | exact .inr rfl) (pe_op (kAdd (K := K) rfl) (pv 1) (pe_lst (pa_cons (pe_err C_UnknownName hr (by omega) (by rfl) (pa_cons (pv 0) pa_nil)) (pa_cons (pe_err C_NotLoaded hr (by omega) (by rfl) (pa_cons (pv 0) pa_nil)) pa_nil)))))
      (pss_one (ps_ret (pe_op (kAdd (K := K) rfl) (pv 1) (pe_lst (pa_cons (pe_err C_LimitExceeded hr (by omega) (by rfl) (pa_cons (pv 0) pa_nil)) (pa_cons (pe_err C_Failing hr (by omega) (by rfl) (pa_cons (pv 0) pa_nil)) (pa_cons (pe_err C_ParseError hr (by omega) (by rfl) (pa_cons (pv 0) pa_nil)) (pa_cons (pe_err C_UnknownClass hr (by omega) (by rfl) (pa_cons (pv 0) (pa_cons pe_int pa_nil))) (pa_cons (pe_err C_NameFixed hr (by omega) (by rfl) (pa_cons pe_int (pa_cons (pv 0) pa_nil))) pa_nil))))))))))))), ?_⟩
    walk_at "start"
    walk_at "v"
    refine q _ _ _ (by walk_at "sm") upd_same (ers_of ?_ ?_ ?_ ?_ ?_ ?_ ?_ ?_ ?_ ?_ ?_ ?_ ?_ ?_ ?_ ?_ ?_ ?_ ?_)
    all_goals walk_at "he"
/-! ### _law_held -/
def spHeld (cs : List Addr) : Sp := fun vs H Q _ => ∃ (i : Nat) (v x : V), vs = [.int i, v] ∧ i < 19 ∧ HasEr H (cs.getD i 0) (fsAt x i) v ∧ Q x H
theorem ok_held {f : Addr} {fd : FuncData} (F : Fun K "_law_held" "_law_held" s_law_held f fd) (T : TxtE K mg cE cs) : FnOk P w K mg base CX0 1 f fd ["_law_at", "_law_error"] (spHeld cs) := by
  refine F.ok sc_law_held (fun vs H Q E h => ?_) (fun cdv A outer s H vs Q E hr h => ?_)
  · obtain ⟨i, v, x, rfl, _⟩ := h
    rfl
  · obtain ⟨i, v, x, rfl, hi, he, q⟩ := h
    have hT := T.e hi
    have hn := T.n hi
    have hl := fs_at (x := x) hi
    refine ⟨_, (pss_cons (ps_if (pt_cmpR opLtU (pv 0) pe_int (nomark _)) (pss_one (ps_ret (pe_erAt (pv 1)))) pss_nil)
      (pss_cons (ps_if (pt_cmpR (kEq (K := K) rfl hr.units) (pv 0) pe_int (nomark _)) (pss_one (ps_ret (pe_erAt (pv 1)))) pss_nil)
      (pss_cons (ps_if (pt_cmpR (kEq (K := K) rfl hr.units) (pv 0) pe_int (nomark _)) (pss_one (ps_ret (pe_erAt (pv 1)))) pss_nil)
      (pss_cons (ps_if (pt_cmpR (kEq (K := K) rfl hr.units) (pv 0) pe_int (nomark _)) (pss_one (ps_ret (pe_erAt (pv 1)))) pss_nil)
      (pss_one (ps_ret (pe_ifExp (pt_cmpR (kEq (K := K) rfl hr.units) (pv 0) pe_int (nomark _)) (pe_erAt (pv 1)) (pe_erAt (pv 1))))))))), ?_⟩
    walk_at "start"
    have cs5 : i < 14 ∨ i = 14 ∨ i = 15 ∨ i = 16 ∨ i = 17 ∨ i = 18 := by omega
    rcases cs5 with h | rfl | rfl | rfl | rfl | rfl
    · have e : nameAt i = "given" := if_pos h
      rw [e] at hn hl
      have h' : (i : Int) < 14 := by omega
      walk_at "v"
      all_goals first | exact v_erat2 he hT hn hl q | omega
    all_goals
      walk_at "v"
      first | exact v_erat2 he hT hn hl q | omega
/-! ### _law_others_right -/
def ShI (K : PySem.W.Frag) (H : Hp) (x : V) (d : PyData) : Prop := Dp K H x d ∨ ItS H x d
theorem ShI.same {H H' : Hp} {x : V} {d : PyData} (s : Same H H') (h : ShI K H x d) : ShI K H' x d := h.imp (Dp.same s) (ItS.same s)
def okB (d : PyData) : Prop := d.showable = true ∧ d.depth ≤ 8 ∧ d.leavesShort 20 = true ∧ d.bulk ≤ 50
def four (d : PyData) : PyData := .list [.int 3, d, d, .int 4]
theorem okP_of {d : PyData} (h1 : d.showable = true) (h2 : d.depth ≤ 30) (h3 : d.leavesShort 20 = true) (h4 : d.bulk ≤ 1000) : okP d := by
  refine ⟨h1, h2, ?_⟩
  have e := PyData.shown_le_bulk 20 (by decide) d h3
  rw [sizeLine_eq]
  omega
theorem okB.p {d : PyData} (h : okB d) : okP d := okP_of h.1 (by have := h.2.1; omega) h.2.2.1 (by have := h.2.2.2; omega)
theorem okB.four {d : PyData} (h : okB d) : okP (four d) := by
  obtain ⟨h1, h2, h3, h4⟩ := h
  refine okP_of ?_ ?_ ?_ ?_
  · simp [K30.four, PyData.showable, PyData.showableAll, h1]
    exact ⟨by decide +kernel, by decide +kernel⟩
  · simp only [K30.four, PyData.depth, PyData.depthAll]
    omega
  · have a : decide ((PyData.shown (.int 3)).length ≤ 20) = true := by decide +kernel
    have b : decide ((PyData.shown (.int 4)).length ≤ 20) = true := by decide +kernel
    simp only [K30.four, PyData.leavesShort, PyData.leavesShortAll, h3, a, b, Bool.and_self]
  · simp only [K30.four, PyData.bulk, PyData.bulkAll]
    omega
theorem four_sh {H : Hp} {x : V} {d : PyData} {p : Addr} (h : ShI K H x d) (e : H p = some (.lst [.int 3, x, x, .int 4])) : ShV K H (.ref p) (four d) := by
  rcases h with h | h
  · exact .inl (.lst (sq_lst e) (.cons (.int 3) (.cons h (.cons h (.cons (.int 4) .nil)))))
  · exact .inr (.inr ⟨p, _, _, rfl, sq_lst e, .cons (.inl rfl) (.cons h (.cons h (.cons (.inl rfl) .nil))), rfl⟩)
def spOR (K : PySem.W.Frag) : Sp := fun vs H Q _ => ∃ x d, vs = [x] ∧ ShI K H x d ∧ okB d ∧ ∀ H', Same H H' → Q (.bl true) H'
theorem ok_others {f : Addr} {fd : FuncData} (F : Fun K "_law_others_right" "_law_others_right" s_law_others_right f fd) (T : TxtE K mg cE cs)
    (C_UnknownClass : ErCal P w K mg base 1 "UnknownClass" (cs.getD 17 0) ["self", "loader", "word"] (spEr2 "loader" "word" (cs.getD 17 0))) (C_NameFixed : ErCal P w K mg base 1 "NameFixed" (cs.getD 18 0) ["self", "loader", "word"] (spEr2 "loader" "word" (cs.getD 18 0))) :
    FnG P w K mg base CX0 3 f fd ["_law_item"] (spOR K) := by
  refine okG0 F sc_law_others_right (fun vs H Q E h => ?_) (fun cdv A outer s H vs Q E gd hr h => ?_)
  · obtain ⟨x, d, rfl, _⟩ := h
    rfl
  · obtain ⟨x, d, rfl, sh, ok, q⟩ := h
    have t1 := T.e (i := 17) (by decide)
    have t2 := T.e (i := 18) (by decide)
    have n1 := T.n2 (i := 17) (by decide) (by decide)
    have n2 := T.n2 (i := 18) (by decide) (by decide)
    refine ⟨_, (pss_cons (ps_par (i := 1) (j := 2) (by rfl) sc_law_others_right.nd rfl rfl (by decide) (by rfl) (by rfl) (pa_cons (pe_err C_UnknownClass hr (by omega) (by rfl) (pa_cons pe_int (pa_cons (pv 0) pa_nil))) (pa_cons (pe_err C_NameFixed hr (by omega) (by rfl) (pa_cons (pv 0) (pa_cons pe_int pa_nil))) pa_nil)) (by rfl))
      (pss_one (ps_ret (pe_cmpR (kEq (K := K) rfl hr.units) (pe_callB (call_reprK (K := K) rfl gd hr.units) (by rfl) T.b_repr (by decide +kernel) (pa_cons (pe_lst (pa_cons (pe_erAt (pv 1)) (pa_cons (pe_erAt (pv 1)) (pa_cons (pe_erAt (pv 2)) (pa_cons (pe_erAt (pv 2)) pa_nil))))) pa_nil)) (pe_callB (call_reprK (K := K) rfl gd hr.units) (by rfl) T.b_repr (by decide +kernel) (pa_cons (pe_lst (pa_cons pe_int (pa_cons (pv 0) (pa_cons (pv 0) (pa_cons pe_int pa_nil))))) pa_nil)) (nomark _))))), ?_⟩
    walk_at "start"
    walk_at "v"
    refine v_par ?_
    refine v_cons ?_
    refine er_2a rfl fun v1 H1 s1 e1 => ?_
    refine v_cons ?_
    refine er_2b rfl fun v2 H2 s2 e2 => ?_
    refine v_nil ?_
    refine ⟨v1, v2, rfl, ?_⟩
    walk_at "v"
    obtain ⟨a1, x1, rfl, h11, h12⟩ := e1.same s2
    obtain ⟨a2, x2, rfl, h21, h22⟩ := e2
    refine ⟨a1, _, x1, _, _, rfl, t1, n1.1, h11, h12, rfl, ?_⟩
    walk_at "v"
    refine ⟨a1, _, x1, _, _, rfl, t1, n1.2, h11, h12, rfl, ?_⟩
    walk_at "v"
    refine ⟨a2, _, x2, _, _, rfl, t2, n2.1, h21, h22, rfl, ?_⟩
    walk_at "v"
    refine ⟨a2, _, x2, _, _, rfl, t2, n2.2, h21, h22, rfl, ?_⟩
    walk_at "v"
    rename_i p hp
    have sA : Same H (upd H2 p (.lst [.int 3, x, x, .int 4])) := (s1.trans s2).trans (same_new hp)
    refine ⟨_, _, rfl, four_sh (sh.same sA) upd_same, ok.four, ?_⟩
    walk_at "v"
    rename_i p' hp'
    have sB := sA.trans (same_new (o := .lst [.int 3, x, x, .int 4]) hp')
    refine ⟨_, _, rfl, four_sh (sh.same sB) upd_same, ok.four, ?_⟩
    walk_at "v"
    rw [decide_eq_true rfl]
    exact q _ sB
end K30

namespace K30
open PySem PySem.Spec PyProof.Rows L2 Kit
local macro_rules | `(tactic| walk_at "ne") => `(tactic| first
  | assumption
  | (apply Ne.symm; assumption)
  | exact ne_of_none (by assumption) (by assumption)
  | exact (ne_of_none (by assumption) (by assumption)).symm
  | (refine ne_of_none (H := ?H0) (o := ?oo) ?hs ?hn; (case hn => assumption); (case hs => walk_at "hp"))
  | (refine (ne_of_none (H := ?H0) (o := ?oo) ?hs ?hn).symm; (case hn => assumption); (case hs => walk_at "hp"))
  | (refine Src.ne (H := ?H0) ?hs ?hn; (case hn => assumption); (case hs => walk_at "src"))
  | (refine (Src.ne (H := ?H0) ?hs ?hn).symm; (case hn => assumption); (case hs => walk_at "src"))
  | fail "no rule")
local macro_rules | `(tactic| walk_at "hp") => `(tactic| first
  | assumption
  | exact upd_same
  | (refine (upd_ne ?hne).trans ?hrest; (case hne => walk_at "ne"); (case hrest => walk_at "hp"))
  | (refine same_at (H := ?H0) ?hs ?hrest; (case hs => assumption); (case hrest => walk_at "hp"))
  | (refine dr_at (H := ?H0) (a := ?a0) ?hs ?hne ?hrest; (case hs => assumption); (case hne => walk_at "ne"); (case hrest => walk_at "hp"))
  | fail "no rule")
local macro_rules | `(tactic| walk_at "sq") => `(tactic| first
  | assumption
  | exact Or.inl (Or.inl (by walk_at "hp"))
  | (refine sq_upd ?hnn ?hss; (case hnn => assumption); (case hss => walk_at "sq"))
  | (refine Same.seq (H := ?H0) ?hs ?hrest; (case hs => assumption); (case hrest => walk_at "sq"))
  | (refine sq_dr (H := ?H0) (a := ?a0) ?hs ?hne ?hrest; (case hs => assumption); (case hne => walk_at "ne"); (case hrest => walk_at "sq"))
  | fail "no rule")
local macro_rules | `(tactic| walk_at "sm") => `(tactic| first
  | assumption
  | exact Same.refl _
  | (refine same_new ?hnn; (case hnn => assumption))
  | (refine same_push ?hs ?hnn; (case hnn => assumption); (case hs => walk_at "sm"))
  | (refine same_mut ?hs ?hnn; (case hs => walk_at "sm"); (case hnn => walk_at "fr"))
  | (refine Same.trans (H1 := ?H1) ?hs ?hq; (case hq => assumption); (case hs => walk_at "sm"))
  | fail "no rule")
local macro_rules | `(tactic| walk_at "fr") => `(tactic| first
  | assumption
  | (refine Same.free (H' := ?H1) ?hs ?hq; (case hq => assumption); (case hs => walk_at "sm"))
  | fail "no rule")
local macro_rules | `(tactic| walk_at "src") => `(tactic| first
  | assumption
  | exact Dr.src (by assumption)
  | (refine Src.same (H := ?H0) ?hs ?hm; (case hm => assumption); (case hs => walk_at "src"))
  | (refine Src.upd ?hs ?hn; (case hs => walk_at "src"); (case hn => walk_at "ne"))
  | fail "no rule")
local macro_rules | `(tactic| walk_at "fd") => `(tactic| first
  | assumption
  | (refine Same.free (H' := ?H1) ?hs ?hq; (case hq => assumption); (case hs => walk_at "sm"))
  | (refine Dr.free (H' := ?H1) ?h0 ?hs ?hq; (case hq => assumption); (case hs => walk_at "dr"); (case h0 => walk_at "src"))
  | fail "no rule")
local macro_rules | `(tactic| walk_at "dr") => `(tactic| first
  | assumption
  | (refine Dr.trans (H' := ?H1) ?hs ?hq; (case hq => assumption); (case hs => walk_at "dr"))
  | (refine Dr.mut ?hs ?h0 ?hn; (case hs => walk_at "dr"); (case h0 => walk_at "src"); (case hn => walk_at "fd"))
  | (refine Dr.trans (H' := ?H1) ?hs (Dr.same ?h0 ?hq); (case hq => assumption); (case h0 => walk_at "src"); (case hs => walk_at "dr"))
  | (refine Dr.refl ?hs; (case hs => walk_at "src"))
  | fail "no rule")
local macro_rules | `(tactic| walk_at "sz") => `(tactic| first
  | omega
  | (refine Nat.le_trans ?_ (show (1000 : Nat) ≤ sizeLine by decide); first | decide | omega | (simp; done) | (simp; omega) | fail)
  | fail "no rule")
local macro_rules | `(tactic| walk_at "v1") => `(tactic| first
  | with_reducible refine v_seq ?_
  | with_reducible refine v_asg ?_
  | with_reducible refine v_gname ?_
  | with_reducible refine v_c ?_
  | ((with_reducible refine v_var (v := ?vv) ?hv ?_); (case hv => exact rfl))
  | with_reducible refine v_op ?_
  | with_reducible refine v_un ?_
  | with_reducible refine v_I0 ?_
  | with_reducible refine v_U ?_
  | with_reducible refine v_addI ?_
  | with_reducible refine v_ltI ?_
  | with_reducible refine v_leI ?_
  | with_reducible refine v_gtI ?_
  | with_reducible refine v_geI ?_
  | with_reducible refine v_leS ?_
  | with_reducible refine v_ltS ?_
  | with_reducible refine v_eqI ?_
  | with_reducible refine v_neI ?_
  | with_reducible refine v_eqS ?_
  | with_reducible refine v_neS ?_
  | with_reducible refine v_eqB ?_
  | ((with_reducible refine v_eqTy ?h1 ?h2 ?_); (case h1 => walk_at "bt"); (case h2 => walk_at "bt"))
  | ((with_reducible refine v_neTy ?h1 ?h2 ?_); (case h1 => walk_at "bt"); (case h2 => walk_at "bt"))
  | with_reducible refine v_test ?_
  | with_reducible refine v_B ?_
  | with_reducible refine v_isbl ?_
  | with_reducible refine v_and ?_
  | with_reducible refine v_or ?_
  | with_reducible refine v_not ?_
  | with_reducible refine v_andV ?_
  | with_reducible refine v_orV ?_
  | with_reducible refine v_notV ?_
  | with_reducible refine v_if ?_
  | with_reducible refine v_chain ?_
  | with_reducible refine v_nil ?_
  | with_reducible refine v_cons ?_
  | with_reducible refine v_cb ?_
  | with_reducible refine v_call ?_
  | with_reducible refine v_max ?_
  | ((with_reducible refine v_draw ?hs ?hm ?_); (case hs => walk_at "src"); (case hm => omega))
  | with_reducible refine v_min ?_
  | with_reducible refine v_intI ?_
  | with_reducible refine v_intB ?_
  | with_reducible refine v_m1 ?_
  | with_reducible refine v_isstr ?_
  | with_reducible refine v_sl ?_
  | with_reducible refine v_ss ?_
  | with_reducible refine v_disp1 ?_
  | with_reducible refine v_s0 ?_
  | with_reducible refine v_nopart ?_
  | with_reducible refine v_part ?_
  | with_reducible refine v_partI ?_
  | with_reducible refine v_next ?_
  | with_reducible refine v_gsub ?_
  | with_reducible refine v_ifS ?_
  | with_reducible refine v_ret ?_
  | with_reducible refine v_drop ?_
  | ((with_reducible refine v_iteTrue ?hb ?_); (case hb => walk_at "bt"))
  | ((with_reducible refine v_iteFalse ?hb ?_); (case hb => walk_at "bt"))
  | with_reducible refine v_iteD ?_ ?_
  | with_reducible refine v_iteNot ?_
  | with_reducible refine v_lc ?_
  | with_reducible refine v_iStr ?_
  | with_reducible refine v_isS ?_
  | with_reducible refine v_iRng1 ?_
  | ((with_reducible refine v_rng1 ?hb ?_); (case hb => omega))
  | with_reducible refine v_iList ?_
  | with_reducible refine v_iSeq ?_
  | ((with_reducible refine v_isL (xs := ?xx) ?hsq ?_); (case hsq => walk_at "sq"))
  | with_reducible refine v_for ?_
  | with_reducible refine v_yes ?_
  | ((with_reducible refine v_nand ?hw ?_); (case hw => first | exact rfl | walk_at "sz" | fail))
  | ((with_reducible refine v_typ (T := ?TT) ?ht ?_); (case ht => walk_at "ty"))
  | ((with_reducible refine v_isiK (T := ?TT) ?ht ?h1 ?h2 ?_); (case ht => walk_at "ty"); (case h1 => walk_at "bt"); (case h2 => exact rfl))
  | with_reducible refine iteT ?_
  | with_reducible refine iteF ?_
  | with_reducible refine v_tup ?_
  | with_reducible refine v_lst ?_
  | ((with_reducible refine v_ixL (xs := ?xx) (v := ?vv) ?hsq ?hat ?_); (case hsq => walk_at "sq"); (case hat => exact rfl))
  | ((with_reducible refine v_lenL (xs := ?xx) ?hsq ?_); (case hsq => walk_at "sq"))
  | ((with_reducible refine v_setL (xs := ?xx) (j := ?jj) ?hh ?hj ?_); (case hh => walk_at "hp"); (case hj => exact rfl))
  | ((with_reducible refine v_I ?hc ?_); (case hc => walk_at "ic"))
  | ((with_reducible refine v_lenS ?hz ?_); (case hz => walk_at "sz"))
  | ((with_reducible refine v_slS ?hz ?_); (case hz => walk_at "sz"))
  | ((with_reducible refine v_addS ?hz ?_); (case hz => walk_at "sz"))
  | ((with_reducible refine v_ixS (c := ?cc) ?hz ?hat ?_); (case hz => walk_at "sz"); (case hat => exact rfl))
  | ((with_reducible refine v_addL (xs := ?xx) (ys := ?yy) ?h1 ?h2 ?hz ?_); (case h1 => walk_at "hp"); (case h2 => walk_at "hp"); (case hz => walk_at "sz"))
  | ((with_reducible refine v_ixT (xs := ?xx) (v := ?vv) ?hsq ?hat ?_); (case hsq => walk_at "sq"); (case hat => exact rfl))
  | ((with_reducible refine v_lenT (xs := ?xx) ?hsq ?_); (case hsq => walk_at "sq"))
  | ((with_reducible refine v_eq ?hs ?_); (case hs => exact rfl))
  | ((with_reducible refine v_ne ?hs ?_); (case hs => exact rfl))
  | (with_reducible intro _)
  | fail "no rule")
local macro_rules | `(tactic| walk_at "ic") => `(tactic| first
  | (show (0 : Int) < _; first | decide | omega | fail)
  | (show CMul _ _; unfold CMul; omega)
  | (show CDiv _ _; unfold CDiv; omega)
  | (show CPow _ _; unfold CPow; exact ⟨by decide, by decide, by decide⟩)
  | fail "no rule")
local macro_rules | `(tactic| walk_at "bt") => `(tactic| first
  | exact rfl
  | assumption
  | decide +kernel
  | (simp; done)
  | fail "no rule")
local macro_rules | `(tactic| walk_at "ty") => `(tactic| first
  | assumption
  | exact .non
  | exact .bl _
  | exact .int _
  | exact .str _
  | exact .lst (by walk_at "sq")
  | exact .tup (by walk_at "sq")
  | exact .dK (by walk_at "hp")
  | fail "no rule")
local macro_rules | `(tactic| walk_at "v") => `(tactic| try (walk_at "v1" <;> walk_at "v"))
local macro_rules | `(tactic| walk_at "start") => `(tactic| dsimp only [L2.start, cxOf, Cx.nox, Cx.wish, List.map, List.replicate, List.length, List.append, Nat.reduceSub, Nat.reduceAdd, List.cons_append, List.nil_append])

local macro_rules | `(tactic| walk_at "n1") => `(tactic| first
  | with_reducible refine v_seq ?_
  | with_reducible refine v_asg ?_
  | with_reducible refine v_gname ?_
  | with_reducible refine v_c ?_
  | ((with_reducible refine v_var (v := ?vv) ?hv ?_); (case hv => exact rfl))
  | with_reducible refine v_op ?_
  | with_reducible refine v_un ?_
  | with_reducible refine v_I0 ?_
  | with_reducible refine v_U ?_
  | with_reducible refine v_addI ?_
  | with_reducible refine v_ltI ?_
  | with_reducible refine v_leI ?_
  | with_reducible refine v_gtI ?_
  | with_reducible refine v_geI ?_
  | with_reducible refine v_leS ?_
  | with_reducible refine v_ltS ?_
  | with_reducible refine v_eqI ?_
  | with_reducible refine v_neI ?_
  | with_reducible refine v_eqS ?_
  | with_reducible refine v_neS ?_
  | with_reducible refine v_eqB ?_
  | ((with_reducible refine v_eqTy ?h1 ?h2 ?_); (case h1 => walk_at "bt"); (case h2 => walk_at "bt"))
  | ((with_reducible refine v_neTy ?h1 ?h2 ?_); (case h1 => walk_at "bt"); (case h2 => walk_at "bt"))
  | with_reducible refine v_test ?_
  | with_reducible refine v_B ?_
  | with_reducible refine v_isbl ?_
  | with_reducible refine v_and ?_
  | with_reducible refine v_or ?_
  | with_reducible refine v_not ?_
  | with_reducible refine v_andV ?_
  | with_reducible refine v_orV ?_
  | with_reducible refine v_notV ?_
  | with_reducible refine v_if ?_
  | with_reducible refine v_chain ?_
  | with_reducible refine v_nil ?_
  | with_reducible refine v_cons ?_
  | with_reducible refine v_cb ?_
  | with_reducible refine v_call ?_
  | with_reducible refine v_max ?_
  | ((with_reducible refine v_draw ?hs ?hm ?_); (case hs => walk_at "src"); (case hm => omega))
  | with_reducible refine v_min ?_
  | with_reducible refine v_intI ?_
  | with_reducible refine v_intB ?_
  | with_reducible refine v_m1 ?_
  | with_reducible refine v_isstr ?_
  | with_reducible refine v_sl ?_
  | with_reducible refine v_ss ?_
  | with_reducible refine v_disp1 ?_
  | with_reducible refine v_s0 ?_
  | with_reducible refine v_nopart ?_
  | with_reducible refine v_part ?_
  | with_reducible refine v_partI ?_
  | with_reducible refine v_next ?_
  | with_reducible refine v_gsub ?_
  | with_reducible refine v_ifS ?_
  | with_reducible refine v_ret ?_
  | with_reducible refine v_drop ?_
  | ((with_reducible refine v_iteTrue ?hb ?_); (case hb => walk_at "bt"))
  | ((with_reducible refine v_iteFalse ?hb ?_); (case hb => walk_at "bt"))
  | with_reducible refine v_iteD ?_ ?_
  | with_reducible refine v_iteNot ?_
  | with_reducible refine v_lc ?_
  | with_reducible refine v_iStr ?_
  | with_reducible refine v_isS ?_
  | with_reducible refine v_iRng1 ?_
  | ((with_reducible refine v_rng1 ?hb ?_); (case hb => omega))
  | with_reducible refine v_iList ?_
  | with_reducible refine v_iSeq ?_
  | ((with_reducible refine v_isL (xs := ?xx) ?hsq ?_); (case hsq => walk_at "sq"))
  | with_reducible refine v_for ?_
  | with_reducible refine v_yes ?_
  | ((with_reducible refine v_nand ?hw ?_); (case hw => first | exact rfl | walk_at "sz" | fail))
  | ((with_reducible refine v_typ (T := ?TT) ?ht ?_); (case ht => walk_at "ty"))
  | ((with_reducible refine v_isiK (T := ?TT) ?ht ?h1 ?h2 ?_); (case ht => walk_at "ty"); (case h1 => walk_at "bt"); (case h2 => exact rfl))
  | with_reducible refine iteT ?_
  | with_reducible refine iteF ?_
  | ((with_reducible refine v_lenL (xs := ?xx) ?hsq ?_); (case hsq => walk_at "sq"))
  | ((with_reducible refine v_setL (xs := ?xx) (j := ?jj) ?hh ?hj ?_); (case hh => walk_at "hp"); (case hj => exact rfl))
  | ((with_reducible refine v_I ?hc ?_); (case hc => walk_at "ic"))
  | ((with_reducible refine v_lenS ?hz ?_); (case hz => walk_at "sz"))
  | ((with_reducible refine v_slS ?hz ?_); (case hz => walk_at "sz"))
  | ((with_reducible refine v_addS ?hz ?_); (case hz => walk_at "sz"))
  | ((with_reducible refine v_ixS (c := ?cc) ?hz ?hat ?_); (case hz => walk_at "sz"); (case hat => exact rfl))
  | ((with_reducible refine v_ixT (xs := ?xx) (v := ?vv) ?hsq ?hat ?_); (case hsq => walk_at "sq"); (case hat => exact rfl))
  | ((with_reducible refine v_lenT (xs := ?xx) ?hsq ?_); (case hsq => walk_at "sq"))
  | ((with_reducible refine v_eq ?hs ?_); (case hs => exact rfl))
  | ((with_reducible refine v_ne ?hs ?_); (case hs => exact rfl))
  | (with_reducible intro _)
  | fail "no rule")
local macro_rules | `(tactic| walk_at "n") => `(tactic| try (walk_at "n1" <;> walk_at "n"))
local macro_rules | `(tactic| walk_at "he") => `(tactic| first
  | assumption
  | (refine HasEr.same (H := ?H0) ?hs ?hh; (case hh => assumption); (case hs => walk_at "sm"))
  | fail "no rule")
local macro_rules | `(tactic| walk_at "n1") => `(tactic| first
  | ((with_reducible refine er_1 (x := ?xx) ?hs ?_); (case hs => exact rfl))
  | ((with_reducible refine er_2a (x := ?xx) ?hs ?_); (case hs => exact rfl))
  | ((with_reducible refine er_2b (x := ?xx) ?hs ?_); (case hs => exact rfl))
  | with_reducible refine v_erat ?_
  | ((with_reducible refine v_erIs (C := ?CC) (fs := ?ff) (b := ?bb) ?h ?T ?k ?_); (case h => walk_at "he"); (case T => assumption); (case k => (refine KitsAt.at ?hk ?hj; (case hk => assumption); (case hj => decide))))
  | fail "no rule")
variable {P : Program} {w : World} {K : PySem.W.Frag} {mg : Str → Option Value} {base : Heap}
variable {cE : Addr} {cs : List Addr}
def spKinds (cs : List Addr) : Sp := fun vs H Q _ => ∃ v fs i, vs = [v] ∧ i < 19 ∧ HasEr H (cs.getD i 0) fs v ∧ ∀ p H', Same H H' → H' p = some (.lst ((List.range 19).map fun j => V.bl (decide (i = j)))) → Q (.ref p) H'
theorem ok_kinds {f : Addr} {fd : FuncData} (F : Fun K "_law_kinds" "_law_kinds" s_law_kinds f fd) (T : TxtE K mg cE cs) : FnOk P w K mg base CX0 1 f fd ["_law_error"] (spKinds cs) := by
  refine F.ok sc_law_kinds (fun vs H Q E h => ?_) (fun cdv A outer s H vs Q E hr h => ?_)
  · obtain ⟨v, fs, i, rfl, _⟩ := h
    rfl
  · obtain ⟨v, fs, i, rfl, hi, he, q⟩ := h
    have hk : KitsAt K cs i := fun j h => T.k hi h
    have hT := T.e hi
    refine ⟨_, (pss_cons (ps_set (i := 1) sc_law_kinds.nd rfl (by first | exact .inl rfl | exact .inr rfl) (pe_lst (pa_cons (pe_callB (call_erU (K := K) rfl) (by rfl) T.b_isinstance (by decide +kernel) (pa_cons (pv 0) (pa_cons (pglob (by rfl) T.g_InvalidName) pa_nil))) (pa_cons (pe_callB (call_erU (K := K) rfl) (by rfl) T.b_isinstance (by decide +kernel) (pa_cons (pv 0) (pa_cons (pglob (by rfl) T.g_InvalidMethod) pa_nil))) (pa_cons (pe_callB (call_erU (K := K) rfl) (by rfl) T.b_isinstance (by decide +kernel) (pa_cons (pv 0) (pa_cons (pglob (by rfl) T.g_InvalidClass) pa_nil))) pa_nil)))))
      (pss_cons (ps_set (i := 1) sc_law_kinds.nd rfl (by first | exact .inl rfl | exact .inr rfl) (pe_op (kAdd (K := K) rfl) (pv 1) (pe_lst (pa_cons (pe_callB (call_erU (K := K) rfl) (by rfl) T.b_isinstance (by decide +kernel) (pa_cons (pv 0) (pa_cons (pglob (by rfl) T.g_InvalidTable) pa_nil))) (pa_cons (pe_callB (call_erU (K := K) rfl) (by rfl) T.b_isinstance (by decide +kernel) (pa_cons (pv 0) (pa_cons (pglob (by rfl) T.g_NameTaken) pa_nil))) (pa_cons (pe_callB (call_erU (K := K) rfl) (by rfl) T.b_isinstance (by decide +kernel) (pa_cons (pv 0) (pa_cons (pglob (by rfl) T.g_UnknownLoader) pa_nil))) pa_nil))))))
      (pss_cons (ps_set (i := 1) sc_law_kinds.nd rfl (by first | exact .inl rfl | exact .inr rfl) (pe_op (kAdd (K := K) rfl) (pv 1) (pe_lst (pa_cons (pe_callB (call_erU (K := K) rfl) (by rfl) T.b_isinstance (by decide +kernel) (pa_cons (pv 0) (pa_cons (pglob (by rfl) T.g_InvalidValues) pa_nil))) (pa_cons (pe_callB (call_erU (K := K) rfl) (by rfl) T.b_isinstance (by decide +kernel) (pa_cons (pv 0) (pa_cons (pglob (by rfl) T.g_InvalidChoices) pa_nil))) pa_nil)))))
      (pss_cons (ps_set (i := 1) sc_law_kinds.nd rfl (by first | exact .inl rfl | exact .inr rfl) (pe_op (kAdd (K := K) rfl) (pv 1) (pe_lst (pa_cons (pe_callB (call_erU (K := K) rfl) (by rfl) T.b_isinstance (by decide +kernel) (pa_cons (pv 0) (pa_cons (pglob (by rfl) T.g_InvalidLimit) pa_nil))) (pa_cons (pe_callB (call_erU (K := K) rfl) (by rfl) T.b_isinstance (by decide +kernel) (pa_cons (pv 0) (pa_cons (pglob (by rfl) T.g_InvalidOperand) pa_nil))) pa_nil)))))
      (pss_cons (ps_set (i := 1) sc_law_kinds.nd rfl (by first | exact .inl rfl | exact .inr rfl) (pe_op (kAdd (K := K) rfl) (pv 1) (pe_lst (pa_cons (pe_callB (call_erU (K := K) rfl) (by rfl) T.b_isinstance (by decide +kernel) (pa_cons (pv 0) (pa_cons (pglob (by rfl) T.g_InvalidJournal) pa_nil))) (pa_cons (pe_callB (call_erU (K := K) rfl) (by rfl) T.b_isinstance (by decide +kernel) (pa_cons (pv 0) (pa_cons (pglob (by rfl) T.g_InvalidCommand) pa_nil))) pa_nil)))))
      (pss_cons (ps_set (i := 1) sc_law_kinds.nd rfl (by first | exact .inl rfl | exact .inr rfl) (pe_op (kAdd (K := K) rfl) (pv 1) (pe_lst (pa_cons (pe_callB (call_erU (K := K) rfl) (by rfl) T.b_isinstance (by decide +kernel) (pa_cons (pv 0) (pa_cons (pglob (by rfl) T.g_UnknownName) pa_nil))) (pa_cons (pe_callB (call_erU (K := K) rfl) (by rfl) T.b_isinstance (by decide +kernel) (pa_cons (pv 0) (pa_cons (pglob (by rfl) T.g_NotLoaded) pa_nil))) (pa_cons (pe_callB (call_erU (K := K) rfl) (by rfl) T.b_isinstance (by decide +kernel) (pa_cons (pv 0) (pa_cons (pglob (by rfl) T.g_LimitExceeded) pa_nil))) pa_nil))))))
      (pss_cons (ps_set (i := 1) sc_law_kinds.nd rfl (by first | exact .inl rfl | exact .inr rfl) (pe_op (kAdd (K := K) rfl) (pv 1) (pe_lst (pa_cons (pe_callB (call_erU (K := K) rfl) (by rfl) T.b_isinstance (by decide +kernel) (pa_cons (pv 0) (pa_cons (pglob (by rfl) T.g_Failing) pa_nil))) (pa_cons (pe_callB (call_erU (K := K) rfl) (by rfl) T.b_isinstance (by decide +kernel) (pa_cons (pv 0) (pa_cons (pglob (by rfl) T.g_ParseError) pa_nil))) (pa_cons (pe_callB (call_erU (K := K) rfl) (by rfl) T.b_isinstance (by decide +kernel) (pa_cons (pv 0) (pa_cons (pglob (by rfl) T.g_UnknownClass) pa_nil))) pa_nil))))))
      (pss_one (ps_ret (pe_op (kAdd (K := K) rfl) (pv 1) (pe_lst (pa_cons (pe_callB (call_erU (K := K) rfl) (by rfl) T.b_isinstance (by decide +kernel) (pa_cons (pv 0) (pa_cons (pglob (by rfl) T.g_NameFixed) pa_nil))) pa_nil)))))))))))), ?_⟩
    walk_at "start"
    walk_at "n"
    refine v_lst ?_
    walk_at "n"
    rename_i p0 hp0
    have S0 : Same H (upd H p0 (.lst [.bl (decide (i = 0)), .bl (decide (i = 1)), .bl (decide (i = 2))])) := same_new hp0
    have e0 : upd H p0 (.lst [.bl (decide (i = 0)), .bl (decide (i = 1)), .bl (decide (i = 2))]) p0 = some (.lst [.bl (decide (i = 0)), .bl (decide (i = 1)), .bl (decide (i = 2))]) := upd_same
    generalize upd H p0 (.lst [.bl (decide (i = 0)), .bl (decide (i = 1)), .bl (decide (i = 2))]) = H0 at *
    have he0 := he.same S0
    clear hp0 he
    refine v_lst ?_
    walk_at "n"
    rename_i q0 hq0
    have T0 : Same H0 (upd H0 q0 (.lst [V.bl (decide (i = 3)), V.bl (decide (i = 4)), V.bl (decide (i = 5))])) := same_new hq0
    have f0 : upd H0 q0 (.lst [V.bl (decide (i = 3)), V.bl (decide (i = 4)), V.bl (decide (i = 5))]) q0 = some (.lst [V.bl (decide (i = 3)), V.bl (decide (i = 4)), V.bl (decide (i = 5))]) := upd_same
    have e0' := T0 _ _ e0
    generalize upd H0 q0 (.lst [V.bl (decide (i = 3)), V.bl (decide (i = 4)), V.bl (decide (i = 5))]) = G0 at *
    refine v_addL e0' f0 (Nat.le_of_lt (small1000 (by simp))) fun p1 hp1 => ?_
    have U0 : Same G0 (upd G0 p1 (.lst [V.bl (decide (i = 0)), V.bl (decide (i = 1)), V.bl (decide (i = 2)), V.bl (decide (i = 3)), V.bl (decide (i = 4)), V.bl (decide (i = 5))])) := same_new hp1
    have e1 : upd G0 p1 (.lst [V.bl (decide (i = 0)), V.bl (decide (i = 1)), V.bl (decide (i = 2)), V.bl (decide (i = 3)), V.bl (decide (i = 4)), V.bl (decide (i = 5))]) p1 = some (.lst [V.bl (decide (i = 0)), V.bl (decide (i = 1)), V.bl (decide (i = 2)), V.bl (decide (i = 3)), V.bl (decide (i = 4)), V.bl (decide (i = 5))]) := upd_same
    have S1 := (S0.trans T0).trans U0
    have he1 := (he0.same T0).same U0
    change _
    generalize hc0 : upd G0 p1 (.lst ([V.bl (decide (i = 0)), V.bl (decide (i = 1)), V.bl (decide (i = 2))] ++ [V.bl (decide (i = 3)), V.bl (decide (i = 4)), V.bl (decide (i = 5))])) = H1 at *
    rw [show upd G0 p1 (.lst [V.bl (decide (i = 0)), V.bl (decide (i = 1)), V.bl (decide (i = 2)), V.bl (decide (i = 3)), V.bl (decide (i = 4)), V.bl (decide (i = 5))]) = H1 from hc0] at e1 S1 he1
    clear hq0 T0 f0 e0' e0 hp1 U0 S0 he0
    walk_at "n"
    refine v_lst ?_
    walk_at "n"
    rename_i q1 hq1
    have T1 : Same H1 (upd H1 q1 (.lst [V.bl (decide (i = 6)), V.bl (decide (i = 7))])) := same_new hq1
    have f1 : upd H1 q1 (.lst [V.bl (decide (i = 6)), V.bl (decide (i = 7))]) q1 = some (.lst [V.bl (decide (i = 6)), V.bl (decide (i = 7))]) := upd_same
    have e1' := T1 _ _ e1
    generalize upd H1 q1 (.lst [V.bl (decide (i = 6)), V.bl (decide (i = 7))]) = G1 at *
    refine v_addL e1' f1 (Nat.le_of_lt (small1000 (by simp))) fun p2 hp2 => ?_
    have U1 : Same G1 (upd G1 p2 (.lst [V.bl (decide (i = 0)), V.bl (decide (i = 1)), V.bl (decide (i = 2)), V.bl (decide (i = 3)), V.bl (decide (i = 4)), V.bl (decide (i = 5)), V.bl (decide (i = 6)), V.bl (decide (i = 7))])) := same_new hp2
    have e2 : upd G1 p2 (.lst [V.bl (decide (i = 0)), V.bl (decide (i = 1)), V.bl (decide (i = 2)), V.bl (decide (i = 3)), V.bl (decide (i = 4)), V.bl (decide (i = 5)), V.bl (decide (i = 6)), V.bl (decide (i = 7))]) p2 = some (.lst [V.bl (decide (i = 0)), V.bl (decide (i = 1)), V.bl (decide (i = 2)), V.bl (decide (i = 3)), V.bl (decide (i = 4)), V.bl (decide (i = 5)), V.bl (decide (i = 6)), V.bl (decide (i = 7))]) := upd_same
    have S2 := (S1.trans T1).trans U1
    have he2 := (he1.same T1).same U1
    change _
    generalize hc1 : upd G1 p2 (.lst ([V.bl (decide (i = 0)), V.bl (decide (i = 1)), V.bl (decide (i = 2)), V.bl (decide (i = 3)), V.bl (decide (i = 4)), V.bl (decide (i = 5))] ++ [V.bl (decide (i = 6)), V.bl (decide (i = 7))])) = H2 at *
    rw [show upd G1 p2 (.lst [V.bl (decide (i = 0)), V.bl (decide (i = 1)), V.bl (decide (i = 2)), V.bl (decide (i = 3)), V.bl (decide (i = 4)), V.bl (decide (i = 5)), V.bl (decide (i = 6)), V.bl (decide (i = 7))]) = H2 from hc1] at e2 S2 he2
    clear hq1 T1 f1 e1' e1 hp2 U1 S1 he1
    walk_at "n"
    refine v_lst ?_
    walk_at "n"
    rename_i q2 hq2
    have T2 : Same H2 (upd H2 q2 (.lst [V.bl (decide (i = 8)), V.bl (decide (i = 9))])) := same_new hq2
    have f2 : upd H2 q2 (.lst [V.bl (decide (i = 8)), V.bl (decide (i = 9))]) q2 = some (.lst [V.bl (decide (i = 8)), V.bl (decide (i = 9))]) := upd_same
    have e2' := T2 _ _ e2
    generalize upd H2 q2 (.lst [V.bl (decide (i = 8)), V.bl (decide (i = 9))]) = G2 at *
    refine v_addL e2' f2 (Nat.le_of_lt (small1000 (by simp))) fun p3 hp3 => ?_
    have U2 : Same G2 (upd G2 p3 (.lst [V.bl (decide (i = 0)), V.bl (decide (i = 1)), V.bl (decide (i = 2)), V.bl (decide (i = 3)), V.bl (decide (i = 4)), V.bl (decide (i = 5)), V.bl (decide (i = 6)), V.bl (decide (i = 7)), V.bl (decide (i = 8)), V.bl (decide (i = 9))])) := same_new hp3
    have e3 : upd G2 p3 (.lst [V.bl (decide (i = 0)), V.bl (decide (i = 1)), V.bl (decide (i = 2)), V.bl (decide (i = 3)), V.bl (decide (i = 4)), V.bl (decide (i = 5)), V.bl (decide (i = 6)), V.bl (decide (i = 7)), V.bl (decide (i = 8)), V.bl (decide (i = 9))]) p3 = some (.lst [V.bl (decide (i = 0)), V.bl (decide (i = 1)), V.bl (decide (i = 2)), V.bl (decide (i = 3)), V.bl (decide (i = 4)), V.bl (decide (i = 5)), V.bl (decide (i = 6)), V.bl (decide (i = 7)), V.bl (decide (i = 8)), V.bl (decide (i = 9))]) := upd_same
    have S3 := (S2.trans T2).trans U2
    have he3 := (he2.same T2).same U2
    change _
    generalize hc2 : upd G2 p3 (.lst ([V.bl (decide (i = 0)), V.bl (decide (i = 1)), V.bl (decide (i = 2)), V.bl (decide (i = 3)), V.bl (decide (i = 4)), V.bl (decide (i = 5)), V.bl (decide (i = 6)), V.bl (decide (i = 7))] ++ [V.bl (decide (i = 8)), V.bl (decide (i = 9))])) = H3 at *
    rw [show upd G2 p3 (.lst [V.bl (decide (i = 0)), V.bl (decide (i = 1)), V.bl (decide (i = 2)), V.bl (decide (i = 3)), V.bl (decide (i = 4)), V.bl (decide (i = 5)), V.bl (decide (i = 6)), V.bl (decide (i = 7)), V.bl (decide (i = 8)), V.bl (decide (i = 9))]) = H3 from hc2] at e3 S3 he3
    clear hq2 T2 f2 e2' e2 hp3 U2 S2 he2
    walk_at "n"
    refine v_lst ?_
    walk_at "n"
    rename_i q3 hq3
    have T3 : Same H3 (upd H3 q3 (.lst [V.bl (decide (i = 10)), V.bl (decide (i = 11))])) := same_new hq3
    have f3 : upd H3 q3 (.lst [V.bl (decide (i = 10)), V.bl (decide (i = 11))]) q3 = some (.lst [V.bl (decide (i = 10)), V.bl (decide (i = 11))]) := upd_same
    have e3' := T3 _ _ e3
    generalize upd H3 q3 (.lst [V.bl (decide (i = 10)), V.bl (decide (i = 11))]) = G3 at *
    refine v_addL e3' f3 (Nat.le_of_lt (small1000 (by simp))) fun p4 hp4 => ?_
    have U3 : Same G3 (upd G3 p4 (.lst [V.bl (decide (i = 0)), V.bl (decide (i = 1)), V.bl (decide (i = 2)), V.bl (decide (i = 3)), V.bl (decide (i = 4)), V.bl (decide (i = 5)), V.bl (decide (i = 6)), V.bl (decide (i = 7)), V.bl (decide (i = 8)), V.bl (decide (i = 9)), V.bl (decide (i = 10)), V.bl (decide (i = 11))])) := same_new hp4
    have e4 : upd G3 p4 (.lst [V.bl (decide (i = 0)), V.bl (decide (i = 1)), V.bl (decide (i = 2)), V.bl (decide (i = 3)), V.bl (decide (i = 4)), V.bl (decide (i = 5)), V.bl (decide (i = 6)), V.bl (decide (i = 7)), V.bl (decide (i = 8)), V.bl (decide (i = 9)), V.bl (decide (i = 10)), V.bl (decide (i = 11))]) p4 = some (.lst [V.bl (decide (i = 0)), V.bl (decide (i = 1)), V.bl (decide (i = 2)), V.bl (decide (i = 3)), V.bl (decide (i = 4)), V.bl (decide (i = 5)), V.bl (decide (i = 6)), V.bl (decide (i = 7)), V.bl (decide (i = 8)), V.bl (decide (i = 9)), V.bl (decide (i = 10)), V.bl (decide (i = 11))]) := upd_same
    have S4 := (S3.trans T3).trans U3
    have he4 := (he3.same T3).same U3
    change _
    generalize hc3 : upd G3 p4 (.lst ([V.bl (decide (i = 0)), V.bl (decide (i = 1)), V.bl (decide (i = 2)), V.bl (decide (i = 3)), V.bl (decide (i = 4)), V.bl (decide (i = 5)), V.bl (decide (i = 6)), V.bl (decide (i = 7)), V.bl (decide (i = 8)), V.bl (decide (i = 9))] ++ [V.bl (decide (i = 10)), V.bl (decide (i = 11))])) = H4 at *
    rw [show upd G3 p4 (.lst [V.bl (decide (i = 0)), V.bl (decide (i = 1)), V.bl (decide (i = 2)), V.bl (decide (i = 3)), V.bl (decide (i = 4)), V.bl (decide (i = 5)), V.bl (decide (i = 6)), V.bl (decide (i = 7)), V.bl (decide (i = 8)), V.bl (decide (i = 9)), V.bl (decide (i = 10)), V.bl (decide (i = 11))]) = H4 from hc3] at e4 S4 he4
    clear hq3 T3 f3 e3' e3 hp4 U3 S3 he3
    walk_at "n"
    refine v_lst ?_
    walk_at "n"
    rename_i q4 hq4
    have T4 : Same H4 (upd H4 q4 (.lst [V.bl (decide (i = 12)), V.bl (decide (i = 13)), V.bl (decide (i = 14))])) := same_new hq4
    have f4 : upd H4 q4 (.lst [V.bl (decide (i = 12)), V.bl (decide (i = 13)), V.bl (decide (i = 14))]) q4 = some (.lst [V.bl (decide (i = 12)), V.bl (decide (i = 13)), V.bl (decide (i = 14))]) := upd_same
    have e4' := T4 _ _ e4
    generalize upd H4 q4 (.lst [V.bl (decide (i = 12)), V.bl (decide (i = 13)), V.bl (decide (i = 14))]) = G4 at *
    refine v_addL e4' f4 (Nat.le_of_lt (small1000 (by simp))) fun p5 hp5 => ?_
    have U4 : Same G4 (upd G4 p5 (.lst [V.bl (decide (i = 0)), V.bl (decide (i = 1)), V.bl (decide (i = 2)), V.bl (decide (i = 3)), V.bl (decide (i = 4)), V.bl (decide (i = 5)), V.bl (decide (i = 6)), V.bl (decide (i = 7)), V.bl (decide (i = 8)), V.bl (decide (i = 9)), V.bl (decide (i = 10)), V.bl (decide (i = 11)), V.bl (decide (i = 12)), V.bl (decide (i = 13)), V.bl (decide (i = 14))])) := same_new hp5
    have e5 : upd G4 p5 (.lst [V.bl (decide (i = 0)), V.bl (decide (i = 1)), V.bl (decide (i = 2)), V.bl (decide (i = 3)), V.bl (decide (i = 4)), V.bl (decide (i = 5)), V.bl (decide (i = 6)), V.bl (decide (i = 7)), V.bl (decide (i = 8)), V.bl (decide (i = 9)), V.bl (decide (i = 10)), V.bl (decide (i = 11)), V.bl (decide (i = 12)), V.bl (decide (i = 13)), V.bl (decide (i = 14))]) p5 = some (.lst [V.bl (decide (i = 0)), V.bl (decide (i = 1)), V.bl (decide (i = 2)), V.bl (decide (i = 3)), V.bl (decide (i = 4)), V.bl (decide (i = 5)), V.bl (decide (i = 6)), V.bl (decide (i = 7)), V.bl (decide (i = 8)), V.bl (decide (i = 9)), V.bl (decide (i = 10)), V.bl (decide (i = 11)), V.bl (decide (i = 12)), V.bl (decide (i = 13)), V.bl (decide (i = 14))]) := upd_same
    have S5 := (S4.trans T4).trans U4
    have he5 := (he4.same T4).same U4
    change _
    generalize hc4 : upd G4 p5 (.lst ([V.bl (decide (i = 0)), V.bl (decide (i = 1)), V.bl (decide (i = 2)), V.bl (decide (i = 3)), V.bl (decide (i = 4)), V.bl (decide (i = 5)), V.bl (decide (i = 6)), V.bl (decide (i = 7)), V.bl (decide (i = 8)), V.bl (decide (i = 9)), V.bl (decide (i = 10)), V.bl (decide (i = 11))] ++ [V.bl (decide (i = 12)), V.bl (decide (i = 13)), V.bl (decide (i = 14))])) = H5 at *
    rw [show upd G4 p5 (.lst [V.bl (decide (i = 0)), V.bl (decide (i = 1)), V.bl (decide (i = 2)), V.bl (decide (i = 3)), V.bl (decide (i = 4)), V.bl (decide (i = 5)), V.bl (decide (i = 6)), V.bl (decide (i = 7)), V.bl (decide (i = 8)), V.bl (decide (i = 9)), V.bl (decide (i = 10)), V.bl (decide (i = 11)), V.bl (decide (i = 12)), V.bl (decide (i = 13)), V.bl (decide (i = 14))]) = H5 from hc4] at e5 S5 he5
    clear hq4 T4 f4 e4' e4 hp5 U4 S4 he4
    walk_at "n"
    refine v_lst ?_
    walk_at "n"
    rename_i q5 hq5
    have T5 : Same H5 (upd H5 q5 (.lst [V.bl (decide (i = 15)), V.bl (decide (i = 16)), V.bl (decide (i = 17))])) := same_new hq5
    have f5 : upd H5 q5 (.lst [V.bl (decide (i = 15)), V.bl (decide (i = 16)), V.bl (decide (i = 17))]) q5 = some (.lst [V.bl (decide (i = 15)), V.bl (decide (i = 16)), V.bl (decide (i = 17))]) := upd_same
    have e5' := T5 _ _ e5
    generalize upd H5 q5 (.lst [V.bl (decide (i = 15)), V.bl (decide (i = 16)), V.bl (decide (i = 17))]) = G5 at *
    refine v_addL e5' f5 (Nat.le_of_lt (small1000 (by simp))) fun p6 hp6 => ?_
    have U5 : Same G5 (upd G5 p6 (.lst [V.bl (decide (i = 0)), V.bl (decide (i = 1)), V.bl (decide (i = 2)), V.bl (decide (i = 3)), V.bl (decide (i = 4)), V.bl (decide (i = 5)), V.bl (decide (i = 6)), V.bl (decide (i = 7)), V.bl (decide (i = 8)), V.bl (decide (i = 9)), V.bl (decide (i = 10)), V.bl (decide (i = 11)), V.bl (decide (i = 12)), V.bl (decide (i = 13)), V.bl (decide (i = 14)), V.bl (decide (i = 15)), V.bl (decide (i = 16)), V.bl (decide (i = 17))])) := same_new hp6
    have e6 : upd G5 p6 (.lst [V.bl (decide (i = 0)), V.bl (decide (i = 1)), V.bl (decide (i = 2)), V.bl (decide (i = 3)), V.bl (decide (i = 4)), V.bl (decide (i = 5)), V.bl (decide (i = 6)), V.bl (decide (i = 7)), V.bl (decide (i = 8)), V.bl (decide (i = 9)), V.bl (decide (i = 10)), V.bl (decide (i = 11)), V.bl (decide (i = 12)), V.bl (decide (i = 13)), V.bl (decide (i = 14)), V.bl (decide (i = 15)), V.bl (decide (i = 16)), V.bl (decide (i = 17))]) p6 = some (.lst [V.bl (decide (i = 0)), V.bl (decide (i = 1)), V.bl (decide (i = 2)), V.bl (decide (i = 3)), V.bl (decide (i = 4)), V.bl (decide (i = 5)), V.bl (decide (i = 6)), V.bl (decide (i = 7)), V.bl (decide (i = 8)), V.bl (decide (i = 9)), V.bl (decide (i = 10)), V.bl (decide (i = 11)), V.bl (decide (i = 12)), V.bl (decide (i = 13)), V.bl (decide (i = 14)), V.bl (decide (i = 15)), V.bl (decide (i = 16)), V.bl (decide (i = 17))]) := upd_same
    have S6 := (S5.trans T5).trans U5
    have he6 := (he5.same T5).same U5
    change _
    generalize hc5 : upd G5 p6 (.lst ([V.bl (decide (i = 0)), V.bl (decide (i = 1)), V.bl (decide (i = 2)), V.bl (decide (i = 3)), V.bl (decide (i = 4)), V.bl (decide (i = 5)), V.bl (decide (i = 6)), V.bl (decide (i = 7)), V.bl (decide (i = 8)), V.bl (decide (i = 9)), V.bl (decide (i = 10)), V.bl (decide (i = 11)), V.bl (decide (i = 12)), V.bl (decide (i = 13)), V.bl (decide (i = 14))] ++ [V.bl (decide (i = 15)), V.bl (decide (i = 16)), V.bl (decide (i = 17))])) = H6 at *
    rw [show upd G5 p6 (.lst [V.bl (decide (i = 0)), V.bl (decide (i = 1)), V.bl (decide (i = 2)), V.bl (decide (i = 3)), V.bl (decide (i = 4)), V.bl (decide (i = 5)), V.bl (decide (i = 6)), V.bl (decide (i = 7)), V.bl (decide (i = 8)), V.bl (decide (i = 9)), V.bl (decide (i = 10)), V.bl (decide (i = 11)), V.bl (decide (i = 12)), V.bl (decide (i = 13)), V.bl (decide (i = 14)), V.bl (decide (i = 15)), V.bl (decide (i = 16)), V.bl (decide (i = 17))]) = H6 from hc5] at e6 S6 he6
    clear hq5 T5 f5 e5' e5 hp6 U5 S5 he5
    walk_at "n"
    refine v_lst ?_
    walk_at "n"
    rename_i q6 hq6
    have T6 : Same H6 (upd H6 q6 (.lst [V.bl (decide (i = 18))])) := same_new hq6
    have f6 : upd H6 q6 (.lst [V.bl (decide (i = 18))]) q6 = some (.lst [V.bl (decide (i = 18))]) := upd_same
    have e6' := T6 _ _ e6
    generalize upd H6 q6 (.lst [V.bl (decide (i = 18))]) = G6 at *
    refine v_addL e6' f6 (Nat.le_of_lt (small1000 (by simp))) fun p7 hp7 => ?_
    have U6 : Same G6 (upd G6 p7 (.lst [V.bl (decide (i = 0)), V.bl (decide (i = 1)), V.bl (decide (i = 2)), V.bl (decide (i = 3)), V.bl (decide (i = 4)), V.bl (decide (i = 5)), V.bl (decide (i = 6)), V.bl (decide (i = 7)), V.bl (decide (i = 8)), V.bl (decide (i = 9)), V.bl (decide (i = 10)), V.bl (decide (i = 11)), V.bl (decide (i = 12)), V.bl (decide (i = 13)), V.bl (decide (i = 14)), V.bl (decide (i = 15)), V.bl (decide (i = 16)), V.bl (decide (i = 17)), V.bl (decide (i = 18))])) := same_new hp7
    have e7 : upd G6 p7 (.lst [V.bl (decide (i = 0)), V.bl (decide (i = 1)), V.bl (decide (i = 2)), V.bl (decide (i = 3)), V.bl (decide (i = 4)), V.bl (decide (i = 5)), V.bl (decide (i = 6)), V.bl (decide (i = 7)), V.bl (decide (i = 8)), V.bl (decide (i = 9)), V.bl (decide (i = 10)), V.bl (decide (i = 11)), V.bl (decide (i = 12)), V.bl (decide (i = 13)), V.bl (decide (i = 14)), V.bl (decide (i = 15)), V.bl (decide (i = 16)), V.bl (decide (i = 17)), V.bl (decide (i = 18))]) p7 = some (.lst [V.bl (decide (i = 0)), V.bl (decide (i = 1)), V.bl (decide (i = 2)), V.bl (decide (i = 3)), V.bl (decide (i = 4)), V.bl (decide (i = 5)), V.bl (decide (i = 6)), V.bl (decide (i = 7)), V.bl (decide (i = 8)), V.bl (decide (i = 9)), V.bl (decide (i = 10)), V.bl (decide (i = 11)), V.bl (decide (i = 12)), V.bl (decide (i = 13)), V.bl (decide (i = 14)), V.bl (decide (i = 15)), V.bl (decide (i = 16)), V.bl (decide (i = 17)), V.bl (decide (i = 18))]) := upd_same
    have S7 := (S6.trans T6).trans U6
    have he7 := (he6.same T6).same U6
    change _
    generalize hc6 : upd G6 p7 (.lst ([V.bl (decide (i = 0)), V.bl (decide (i = 1)), V.bl (decide (i = 2)), V.bl (decide (i = 3)), V.bl (decide (i = 4)), V.bl (decide (i = 5)), V.bl (decide (i = 6)), V.bl (decide (i = 7)), V.bl (decide (i = 8)), V.bl (decide (i = 9)), V.bl (decide (i = 10)), V.bl (decide (i = 11)), V.bl (decide (i = 12)), V.bl (decide (i = 13)), V.bl (decide (i = 14)), V.bl (decide (i = 15)), V.bl (decide (i = 16)), V.bl (decide (i = 17))] ++ [V.bl (decide (i = 18))])) = H7 at *
    rw [show upd G6 p7 (.lst [V.bl (decide (i = 0)), V.bl (decide (i = 1)), V.bl (decide (i = 2)), V.bl (decide (i = 3)), V.bl (decide (i = 4)), V.bl (decide (i = 5)), V.bl (decide (i = 6)), V.bl (decide (i = 7)), V.bl (decide (i = 8)), V.bl (decide (i = 9)), V.bl (decide (i = 10)), V.bl (decide (i = 11)), V.bl (decide (i = 12)), V.bl (decide (i = 13)), V.bl (decide (i = 14)), V.bl (decide (i = 15)), V.bl (decide (i = 16)), V.bl (decide (i = 17)), V.bl (decide (i = 18))]) = H7 from hc6] at e7 S7 he7
    clear hq6 T6 f6 e6' e6 hp7 U6 S6 he6
    walk_at "n"
    exact q _ _ S7 e7
end K30

open PySem PySem.Spec PyProof.Rows L2 Kit
namespace K30
local macro_rules | `(tactic| walk_at "ne") => `(tactic| first
  | assumption
  | (apply Ne.symm; assumption)
  | exact ne_of_none (by assumption) (by assumption)
  | exact (ne_of_none (by assumption) (by assumption)).symm
  | (refine ne_of_none (H := ?H0) (o := ?oo) ?hs ?hn; (case hn => assumption); (case hs => walk_at "hp"))
  | (refine (ne_of_none (H := ?H0) (o := ?oo) ?hs ?hn).symm; (case hn => assumption); (case hs => walk_at "hp"))
  | (refine Src.ne (H := ?H0) ?hs ?hn; (case hn => assumption); (case hs => walk_at "src"))
  | (refine (Src.ne (H := ?H0) ?hs ?hn).symm; (case hn => assumption); (case hs => walk_at "src"))
  | fail "no rule")
local macro_rules | `(tactic| walk_at "hp") => `(tactic| first
  | assumption
  | exact upd_same
  | (refine (upd_ne ?hne).trans ?hrest; (case hne => walk_at "ne"); (case hrest => walk_at "hp"))
  | (refine same_at (H := ?H0) ?hs ?hrest; (case hs => assumption); (case hrest => walk_at "hp"))
  | (refine dr_at (H := ?H0) (a := ?a0) ?hs ?hne ?hrest; (case hs => assumption); (case hne => walk_at "ne"); (case hrest => walk_at "hp"))
  | fail "no rule")
local macro_rules | `(tactic| walk_at "sq") => `(tactic| first
  | assumption
  | exact Or.inl (Or.inl (by walk_at "hp"))
  | (refine sq_upd ?hnn ?hss; (case hnn => assumption); (case hss => walk_at "sq"))
  | (refine Same.seq (H := ?H0) ?hs ?hrest; (case hs => assumption); (case hrest => walk_at "sq"))
  | (refine sq_dr (H := ?H0) (a := ?a0) ?hs ?hne ?hrest; (case hs => assumption); (case hne => walk_at "ne"); (case hrest => walk_at "sq"))
  | fail "no rule")
local macro_rules | `(tactic| walk_at "sm") => `(tactic| first
  | assumption
  | exact Same.refl _
  | (refine same_new ?hnn; (case hnn => assumption))
  | (refine same_push ?hs ?hnn; (case hnn => assumption); (case hs => walk_at "sm"))
  | (refine same_mut ?hs ?hnn; (case hs => walk_at "sm"); (case hnn => walk_at "fr"))
  | (refine Same.trans (H1 := ?H1) ?hs ?hq; (case hq => assumption); (case hs => walk_at "sm"))
  | fail "no rule")
local macro_rules | `(tactic| walk_at "fr") => `(tactic| first
  | assumption
  | (refine Same.free (H' := ?H1) ?hs ?hq; (case hq => assumption); (case hs => walk_at "sm"))
  | fail "no rule")
local macro_rules | `(tactic| walk_at "src") => `(tactic| first
  | assumption
  | exact Dr.src (by assumption)
  | (refine Src.same (H := ?H0) ?hs ?hm; (case hm => assumption); (case hs => walk_at "src"))
  | (refine Src.upd ?hs ?hn; (case hs => walk_at "src"); (case hn => walk_at "ne"))
  | fail "no rule")
local macro_rules | `(tactic| walk_at "fd") => `(tactic| first
  | assumption
  | (refine Same.free (H' := ?H1) ?hs ?hq; (case hq => assumption); (case hs => walk_at "sm"))
  | (refine Dr.free (H' := ?H1) ?h0 ?hs ?hq; (case hq => assumption); (case hs => walk_at "dr"); (case h0 => walk_at "src"))
  | fail "no rule")
local macro_rules | `(tactic| walk_at "dr") => `(tactic| first
  | assumption
  | (refine Dr.trans (H' := ?H1) ?hs ?hq; (case hq => assumption); (case hs => walk_at "dr"))
  | (refine Dr.mut ?hs ?h0 ?hn; (case hs => walk_at "dr"); (case h0 => walk_at "src"); (case hn => walk_at "fd"))
  | (refine Dr.trans (H' := ?H1) ?hs (Dr.same ?h0 ?hq); (case hq => assumption); (case h0 => walk_at "src"); (case hs => walk_at "dr"))
  | (refine Dr.refl ?hs; (case hs => walk_at "src"))
  | fail "no rule")
local macro_rules | `(tactic| walk_at "sz") => `(tactic| first
  | omega
  | (refine Nat.le_trans ?_ (show (1000 : Nat) ≤ sizeLine by decide); first | decide | omega | (simp; done) | (simp; omega) | fail)
  | fail "no rule")
local macro_rules | `(tactic| walk_at "v1") => `(tactic| first
  | with_reducible refine v_seq ?_
  | with_reducible refine v_asg ?_
  | with_reducible refine v_gname ?_
  | with_reducible refine v_c ?_
  | ((with_reducible refine v_var (v := ?vv) ?hv ?_); (case hv => exact rfl))
  | with_reducible refine v_op ?_
  | with_reducible refine v_un ?_
  | with_reducible refine v_I0 ?_
  | with_reducible refine v_U ?_
  | with_reducible refine v_addI ?_
  | with_reducible refine v_ltI ?_
  | with_reducible refine v_leI ?_
  | with_reducible refine v_gtI ?_
  | with_reducible refine v_geI ?_
  | with_reducible refine v_leS ?_
  | with_reducible refine v_ltS ?_
  | with_reducible refine v_eqI ?_
  | with_reducible refine v_neI ?_
  | with_reducible refine v_eqS ?_
  | with_reducible refine v_neS ?_
  | with_reducible refine v_eqB ?_
  | ((with_reducible refine v_eqTy ?h1 ?h2 ?_); (case h1 => walk_at "bt"); (case h2 => walk_at "bt"))
  | ((with_reducible refine v_neTy ?h1 ?h2 ?_); (case h1 => walk_at "bt"); (case h2 => walk_at "bt"))
  | with_reducible refine v_test ?_
  | with_reducible refine v_B ?_
  | with_reducible refine v_isbl ?_
  | with_reducible refine v_and ?_
  | with_reducible refine v_or ?_
  | with_reducible refine v_not ?_
  | with_reducible refine v_andV ?_
  | with_reducible refine v_orV ?_
  | with_reducible refine v_notV ?_
  | with_reducible refine v_if ?_
  | with_reducible refine v_chain ?_
  | with_reducible refine v_nil ?_
  | with_reducible refine v_cons ?_
  | with_reducible refine v_cb ?_
  | with_reducible refine v_call ?_
  | with_reducible refine v_max ?_
  | ((with_reducible refine v_draw ?hs ?hm ?_); (case hs => walk_at "src"); (case hm => omega))
  | with_reducible refine v_min ?_
  | with_reducible refine v_intI ?_
  | with_reducible refine v_intB ?_
  | with_reducible refine v_m1 ?_
  | with_reducible refine v_isstr ?_
  | with_reducible refine v_sl ?_
  | with_reducible refine v_ss ?_
  | with_reducible refine v_disp1 ?_
  | with_reducible refine v_s0 ?_
  | with_reducible refine v_nopart ?_
  | with_reducible refine v_part ?_
  | with_reducible refine v_partI ?_
  | with_reducible refine v_next ?_
  | with_reducible refine v_gsub ?_
  | with_reducible refine v_ifS ?_
  | with_reducible refine v_ret ?_
  | with_reducible refine v_drop ?_
  | ((with_reducible refine v_iteTrue ?hb ?_); (case hb => walk_at "bt"))
  | ((with_reducible refine v_iteFalse ?hb ?_); (case hb => walk_at "bt"))
  | with_reducible refine v_iteD ?_ ?_
  | with_reducible refine v_iteNot ?_
  | with_reducible refine v_lc ?_
  | with_reducible refine v_iStr ?_
  | with_reducible refine v_isS ?_
  | with_reducible refine v_iRng1 ?_
  | ((with_reducible refine v_rng1 ?hb ?_); (case hb => omega))
  | with_reducible refine v_iList ?_
  | with_reducible refine v_iSeq ?_
  | ((with_reducible refine v_isL (xs := ?xx) ?hsq ?_); (case hsq => walk_at "sq"))
  | with_reducible refine v_for ?_
  | with_reducible refine v_yes ?_
  | ((with_reducible refine v_nand ?hw ?_); (case hw => first | exact rfl | walk_at "sz" | fail))
  | ((with_reducible refine v_typ (T := ?TT) ?ht ?_); (case ht => walk_at "ty"))
  | ((with_reducible refine v_isiK (T := ?TT) ?ht ?h1 ?h2 ?_); (case ht => walk_at "ty"); (case h1 => walk_at "bt"); (case h2 => exact rfl))
  | with_reducible refine iteT ?_
  | with_reducible refine iteF ?_
  | with_reducible refine v_tup ?_
  | with_reducible refine v_lst ?_
  | ((with_reducible refine v_ixL (xs := ?xx) (v := ?vv) ?hsq ?hat ?_); (case hsq => walk_at "sq"); (case hat => exact rfl))
  | ((with_reducible refine v_lenL (xs := ?xx) ?hsq ?_); (case hsq => walk_at "sq"))
  | ((with_reducible refine v_setL (xs := ?xx) (j := ?jj) ?hh ?hj ?_); (case hh => walk_at "hp"); (case hj => exact rfl))
  | ((with_reducible refine v_I ?hc ?_); (case hc => walk_at "ic"))
  | ((with_reducible refine v_lenS ?hz ?_); (case hz => walk_at "sz"))
  | ((with_reducible refine v_slS ?hz ?_); (case hz => walk_at "sz"))
  | ((with_reducible refine v_addS ?hz ?_); (case hz => walk_at "sz"))
  | ((with_reducible refine v_ixS (c := ?cc) ?hz ?hat ?_); (case hz => walk_at "sz"); (case hat => exact rfl))
  | ((with_reducible refine v_addL (xs := ?xx) (ys := ?yy) ?h1 ?h2 ?hz ?_); (case h1 => walk_at "hp"); (case h2 => walk_at "hp"); (case hz => walk_at "sz"))
  | ((with_reducible refine v_ixT (xs := ?xx) (v := ?vv) ?hsq ?hat ?_); (case hsq => walk_at "sq"); (case hat => exact rfl))
  | ((with_reducible refine v_lenT (xs := ?xx) ?hsq ?_); (case hsq => walk_at "sq"))
  | ((with_reducible refine v_eq ?hs ?_); (case hs => exact rfl))
  | ((with_reducible refine v_ne ?hs ?_); (case hs => exact rfl))
  | (with_reducible intro _)
  | fail "no rule")
local macro_rules | `(tactic| walk_at "ic") => `(tactic| first
  | (show (0 : Int) < _; first | decide | omega | fail)
  | (show CMul _ _; unfold CMul; omega)
  | (show CDiv _ _; unfold CDiv; omega)
  | (show CPow _ _; unfold CPow; exact ⟨by decide, by decide, by decide⟩)
  | fail "no rule")
local macro_rules | `(tactic| walk_at "bt") => `(tactic| first
  | exact rfl
  | assumption
  | decide +kernel
  | (simp; done)
  | fail "no rule")
local macro_rules | `(tactic| walk_at "ty") => `(tactic| first
  | assumption
  | exact .non
  | exact .bl _
  | exact .int _
  | exact .str _
  | exact .lst (by walk_at "sq")
  | exact .tup (by walk_at "sq")
  | exact .dK (by walk_at "hp")
  | fail "no rule")
local macro_rules | `(tactic| walk_at "v") => `(tactic| try (walk_at "v1" <;> walk_at "v"))
local macro_rules | `(tactic| walk_at "start") => `(tactic| dsimp only [L2.start, cxOf, Cx.nox, Cx.wish, List.map, List.replicate, List.length, List.append, Nat.reduceSub, Nat.reduceAdd, List.cons_append, List.nil_append])

local macro_rules | `(tactic| walk_at "he") => `(tactic| first
  | assumption
  | (refine HasEr.same (H := ?H0) ?hs ?hh; (case hh => assumption); (case hs => walk_at "sm"))
  | fail "no rule")
local macro_rules | `(tactic| walk_at "v1") => `(tactic| first
  | ((with_reducible refine er_1 (x := ?xx) ?hs ?_); (case hs => exact rfl))
  | ((with_reducible refine er_2a (x := ?xx) ?hs ?_); (case hs => exact rfl))
  | ((with_reducible refine er_2b (x := ?xx) ?hs ?_); (case hs => exact rfl))
  | with_reducible refine v_erat ?_
  | ((with_reducible refine v_erIs (C := ?CC) (fs := ?ff) (b := ?bb) ?h ?T ?k ?_); (case h => walk_at "he"); (case T => assumption); (case k => (refine KitsAt.at ?hk ?hj; (case hk => assumption); (case hj => decide))))
  | fail "no rule")
variable {P : Program} {w : World} {K : PySem.W.Frag} {mg : Str → Option Value} {base : Heap}
variable {cE : Addr} {cs : List Addr}
def spLaw (K : PySem.W.Frag) : Sp := fun vs H Q _ => ∃ (a : Addr) (ns : List Int), vs = [.ref a] ∧ SqL K H a (ns.map V.int) ∧ ns.length ≤ 63 ∧ ∀ H', Q (.bl true) H'
def kindsV (j : Nat) : List V := (List.range 19).map fun t => V.bl (decide (j = t))
def kindsD (j : Nat) : List PyData := (List.range 19).map fun t => PyData.bool (decide (j = t))
theorem kinds_dp {H : Hp} {p : Addr} {j : Nat} (e : H p = some (.lst (kindsV j))) : Dp K H (.ref p) (.list (kindsD j)) := by
  refine .lst (sq_lst e) ?_
  unfold kindsV kindsD
  have go : ∀ l : List Nat, DpAll K H (l.map fun t => V.bl (decide (j = t))) (l.map fun t => PyData.bool (decide (j = t))) := fun l => by
    induction l with
    | nil => exact .nil
    | cons t l ih => exact .cons (.bl _) ih
  exact go _
theorem kinds_ok : ∀ j, j < 19 → SeqAt.shaped (.list (kindsD j)) = true ∧ PyData.eqv (.list (kindsD j)) (.list (kindsD j)) = true := by decide +kernel
def fSpot (j : Nat) : V → Option V
  | .int z => some (.bl (decide (z = (j : Int))))
  | _ => none
theorem spots (j : Nat) (h : j < 19) : (upto 0 (19 : Int).toNat).filterMap (fSpot j) = kindsV j := by
  have all : ∀ j, j < 19 → (upto 0 19).filterMap (fSpot j) = kindsV j := by decide +kernel
  exact all j h
theorem upto_at {n : Nat} {i : Nat} {x : V} (h : (upto 0 n)[i]? = some x) : x = .int (i : Nat) ∧ i < n := by
  unfold upto at h
  rw [List.getElem?_map] at h
  have hi : i < n := by
    refine Nat.lt_of_not_le fun q => ?_
    rw [List.getElem?_eq_none (by rw [List.length_range]; exact q)] at h
    cases h
  rw [List.getElem?_range hi] at h
  have e := Option.some.inj h
  exact ⟨by rw [← e]; simp, hi⟩
theorem okB_int {n : Int} (h0 : 0 ≤ n) (h1 : n < 1000000000000000000) : (PyData.int n).leavesShort 20 = true ∧ n.natAbs.log2 < 1920 := by
  have hn : n.natAbs < 10 ^ 18 := by
    show n.natAbs < 1000000000000000000
    omega
  refine ⟨?_, ?_⟩
  · have e := int_text_length_le10 (k := 18) (by decide) hn
    show decide _ = true
    rw [decide_eq_true_iff]
    show (Str.ofString (toString n)).length ≤ 20
    rw [PySem.ofString_length]
    omega
  · by_cases h : n.natAbs = 0
    · rw [h]
      decide
    · refine (Nat.log2_lt h).mpr (Nat.lt_trans hn ?_)
      exact Nat.lt_of_lt_of_le (show (10 : Nat) ^ 18 < 2 ^ 60 by decide) (Nat.pow_le_pow_right (by decide) (by decide))
def items (n : Int) (t1 l1 dd : Addr) : List V := [.int n, .non, .bl true, .str "text", .ref t1, .ref l1, .ref dd]
theorem items_ok {H : Hp} {n : Int} {t1 l1 l2 dd : Addr} (h0 : 0 ≤ n) (h1 : n < 1000000000000000000) (e1 : H t1 = some (.tup [.str "a", .int n])) (e2 : H l2 = some (.lst [.int 2])) (e3 : H l1 = some (.lst [.int 1, .ref l2])) (e4 : H dd = some (.dK [(Sum.inr "a", .int 1)])) :
    ∀ x ∈ items n t1 l1 dd, ∃ d, ShI K H x d ∧ okB d := by
  obtain ⟨a, b⟩ := okB_int h0 h1
  intro x hx
  simp only [items, List.mem_cons, List.not_mem_nil, or_false] at hx
  rcases hx with rfl | rfl | rfl | rfl | rfl | rfl | rfl
  · exact ⟨.int n, .inl (.int n), by simpa only [PyData.showable, decide_eq_true_eq] using b, by simp [PyData.depth], a, by simp [PyData.bulk]⟩
  · exact ⟨.none, .inl .non, rfl, by decide, rfl, by decide⟩
  · exact ⟨.bool true, .inl (.bl true), rfl, by decide, rfl, by decide⟩
  · exact ⟨.str "text", .inl (.str _), rfl, by decide, by decide +kernel, by decide +kernel⟩
  · refine ⟨.tuple [.str "a", .int n], .inl (.tup (.inl (.inl e1)) (.cons (.str _) (.cons (.int n) .nil))), ?_, ?_, ?_, ?_⟩
    · simp [PyData.showable, PyData.showableAll, b]
    · simp [PyData.depth, PyData.depthAll]
    · have c : (PyData.str "a").leavesShort 20 = true := by decide +kernel
      simp only [PyData.leavesShort, PyData.leavesShortAll, Bool.and_true]
      simp only [PyData.leavesShort] at a c
      rw [a, c]
      rfl
    · have c : (PyData.str "a").bulk ≤ 5 := by decide +kernel
      simp only [PyData.bulk, PyData.bulkAll] at c ⊢
      omega
  · exact ⟨.list [.int 1, .list [.int 2]], .inl (.lst (sq_lst e3) (.cons (.int 1) (.cons (.lst (sq_lst e2) (.cons (.int 2) .nil)) .nil))), by decide +kernel, by decide +kernel, by decide +kernel, by decide +kernel⟩
  · exact ⟨.dict [(.str "a", .int 1)], .inr (.inr ⟨dd, _, _, rfl, e4, rfl, rfl⟩), by decide +kernel, by decide +kernel, by decide +kernel, by decide +kernel⟩
theorem ShI.v {H : Hp} {x : V} {d : PyData} (h : ShI K H x d) : ShV K H x d := h.elim .inl fun h => .inr (.inl h)
theorem ok_law {f : Addr} {fd : FuncData} (F : Fun K "law" "law" s_law f fd) (T : TxtE K mg cE cs) (C_law_source : Cal P w K mg base 1 "_law_source" ["_law_script", "_law_turn"] (spSource K)) (C_law_draw : Cal P w K mg base 1 "_law_draw" ["_law_source_here", "_law_amount"] spDrawB)
    (C_law_all : Cal P w K mg base 3 "_law_all" ["_law_item"] (spAll cs)) (C_law_held : Cal P w K mg base 1 "_law_held" ["_law_at", "_law_error"] (spHeld cs)) (C_law_kinds : Cal P w K mg base 1 "_law_kinds" ["_law_error"] (spKinds cs)) (C_law_others_right : CalG P w K mg base 3 "_law_others_right" ["_law_item"] (spOR K)) :
    FnG P w K mg base CX0 4 f fd ["_law_script"] (spLaw K) := by
  refine okG0 F sc_law (fun vs H Q E h => ?_) (fun cdv A outer s H vs Q E gd hr h => ?_)
  · obtain ⟨a, ns, rfl, _⟩ := h
    rfl
  · obtain ⟨a, ns, rfl, hS, hl, q⟩ := h
    refine ⟨_, (pss_cons (ps_for PassesOwn.never rfl (pi_range1 (by rfl) T.b_range (pa_cons (pe_callB callMaxU (by rfl) T.b_max (by decide +kernel) (pa_cons pe_int (pa_cons (pe_callB callMinU (by rfl) T.b_min (by decide +kernel) (pa_cons (pe_callB (kLen (K := K) rfl) (by rfl) T.b_len (by decide +kernel) (pa_cons (pv 0) pa_nil)) (pa_cons pe_int pa_nil))) pa_nil))) pa_nil)) (pg_name (i := 1) sc_law.nd rfl (by first | exact .inl rfl | exact .inr rfl))
      (pss_cons (ps_set (i := 2) sc_law.nd rfl (by first | exact .inl rfl | exact .inr rfl) (pcall C_law_source hr (by omega) (by rfl) (pa_cons (pv 0) (pa_cons (pv 1) pa_nil))))
      (pss_cons (ps_set (i := 3) sc_law.nd rfl (by first | exact .inl rfl | exact .inr rfl) (pcall C_law_draw hr (by omega) (by rfl) (pa_cons (pv 2) (pa_cons (pe_op op_pow pe_int pe_int) pa_nil))))
      (pss_one (ps_for PassesOwn.never rfl (kList (K := K) rfl (pe_lst (pa_cons (pv 3) (pa_cons pe_non (pa_cons pe_bl (pa_cons pe_str (pa_cons (pe_tup (pa_cons pe_str (pa_cons (pv 3) pa_nil))) (pa_cons (pe_lst (pa_cons pe_int (pa_cons (pe_lst (pa_cons pe_int pa_nil)) pa_nil))) (pa_cons (pe_disp (pps_cons pe_str pe_int pps_nil) (by rfl) (by rfl) (fun z => by cases z) (by decide)) pa_nil))))))))) (pg_name (i := 4) sc_law.nd rfl (by first | exact .inl rfl | exact .inr rfl))
      (pss_cons (ps_set (i := 5) sc_law.nd rfl (by first | exact .inl rfl | exact .inr rfl) (pcall C_law_all hr (by omega) (by rfl) (pa_cons (pv 4) pa_nil)))
      (pss_cons (ps_for PassesOwn.never rfl (pi_range1 (by rfl) T.b_range (pa_cons (pe_callB (kLen (K := K) rfl) (by rfl) T.b_len (by decide +kernel) (pa_cons (pv 5) pa_nil)) pa_nil)) (pg_name (i := 6) sc_law.nd rfl (by first | exact .inl rfl | exact .inr rfl))
      (pss_cons (ps_if (PW.pt (pw_or (pt_cmpR (kNe (K := K) rfl hr.units) (pe_callB (call_reprK (K := K) rfl gd hr.units) (by rfl) T.b_repr (by decide +kernel) (pa_cons (pcall C_law_held hr (by omega) (by rfl) (pa_cons (pv 6) (pa_cons (pe_ix (kIx (K := K) rfl) (pv 5) (pv 6) (fun _ _ => rfl)) pa_nil))) pa_nil)) (pe_callB (call_reprK (K := K) rfl gd hr.units) (by rfl) T.b_repr (by decide +kernel) (pa_cons (pv 4) pa_nil)) (nomark _)) (pw_or1 (pt_not (pt_val (pe_callB (call_erU (K := K) rfl) (by rfl) T.b_isinstance (by decide +kernel) (pa_cons (pe_ix (kIx (K := K) rfl) (pv 5) (pv 6) (fun _ _ => rfl)) (pa_cons (pglob (by rfl) T.g_ClassError) pa_nil)))))))) (pss_one (ps_ret pe_bl)) pss_nil)
      (pss_cons (ps_if (pt_cmpR (kNe (K := K) rfl hr.units) (pcall C_law_kinds hr (by omega) (by rfl) (pa_cons (pe_ix (kIx (K := K) rfl) (pv 5) (pv 6) (fun _ _ => rfl)) pa_nil)) (pe_lc (own := [("_law_spot", 7)]) (by rfl) sc_law.nd (pi_range1 (by rfl) T.b_range (pa_cons (pe_callB (kLen (K := K) rfl) (by rfl) T.b_len (by decide +kernel) (pa_cons (pv 5) pa_nil)) pa_nil)) (blkOk_by (N := ["_law_script", "_law_turn", "_law_source_here", "_law_number", "_law_item", "_law_made", "_law_at", "_law_spot"]) (sc := defScope s_law) (by decide +kernel)) (fun _ _ _ _ _ => (pg_name (i := 7) sc_law.nd rfl (by first | exact .inl rfl | exact .inr rfl))) (fun _ _ _ _ _ => pts_nil) (fun _ _ _ _ _ => (pe_cmpR (kEq (K := K) rfl hr.units) (pv 7) (pv 6) (nomark _)))) (nomark _)) (pss_one (ps_ret pe_bl)) pss_nil)
      (pss_one (ps_if (pt_val (pe_callB (call_erU (K := K) rfl) (by rfl) T.b_isinstance (by decide +kernel) (pa_cons (pe_ix (kIx (K := K) rfl) (pv 5) (pv 6) (fun _ _ => rfl)) (pa_cons (pe_tup (pa_cons (pbty (n := "ValueError") (by rfl) T.b_ValueError (by decide +kernel)) (pa_cons (pbty (n := "LookupError") (by rfl) T.b_LookupError (by decide +kernel)) (pa_cons (pbty (n := "RuntimeError") (by rfl) T.b_RuntimeError (by decide +kernel)) (pa_cons (pbty (n := "OverflowError") (by rfl) T.b_OverflowError (by decide +kernel)) (pa_cons (pbty (n := "TypeError") (by rfl) T.b_TypeError (by decide +kernel)) pa_nil)))))) pa_nil)))) (pss_one (ps_ret pe_bl)) pss_nil)))))
      (pss_one (ps_if (pt_not (pt_val (pcallG C_law_others_right gd hr (by omega) (by rfl) (pa_cons (pv 4) pa_nil)))) (pss_one (ps_ret pe_bl)) pss_nil)))))))))
      (pss_one (ps_ret pe_bl))), ?_⟩
    walk_at "start"
    have hnl : (ns.map V.int).length = ns.length := by simp
    walk_at "v"
    refine for_w walk_upto (fun i σ H' => ∃ v1 v2 v3 v4 v5 v6 v7, σ = [some (.ref a), v1, v2, v3, v4, v5, v6, v7] ∧ Same H H') ⟨_, _, _, _, _, _, _, rfl, Same.refl _⟩ (fun _ _ _ _ _ => trivial) ?_ ?_
    · rintro i x σ H2 H2' hi ⟨v1, v2, v3, v4, v5, v6, v7, rfl, s2⟩ ⟨rfl, hx⟩
      have hS2 := s2.seq hS
      obtain ⟨i', rfl, hi63⟩ : ∃ i' : Nat, x = .int i' ∧ i' < 64 := by
        rw [upto_len] at hi
        unfold upto at hx
        rw [List.getElem?_map, List.getElem?_range hi] at hx
        cases hx
        exact ⟨i, by simp, by omega⟩
      walk_at "v"
      refine ⟨a, ns, i', rfl, hS2, hl, by omega, by omega, fun ps H3 hps s3 hsrc => ?_⟩
      have s23 := s2.trans s3
      walk_at "v"
      refine (show ∀ R : VK, (∀ (n : Int) (H4 : Hp), 0 ≤ n → n < 1000000000000000000 → Dr ps H3 H4 → R (.int n) H4) → spDrawB ([V.ref ps, V.int (10 ^ Int.toNat 18)] ++ []) H3 R E0 from fun R k => ⟨ps, _, rfl, hsrc, by decide, by decide, fun d H4 h1 h2 h3 => k d H4 h1 h2 h3⟩) _ fun n H4 hn0 hn1 d4 => ?_
      walk_at "v"
      rename_i t1 h1 l2 h2 l1 h3 dd h4 L h5
      have s24 : Same H H4 := fun b o e => d4.keep b o (s23 b o e) (ne_of_none (s2 b o e) hps)
      have s2L : Same H (upd (upd (upd (upd (upd H4 t1 (.tup [.str "a", .int n])) l2 (.lst [.int 2])) l1 (.lst [.int 1, .ref l2])) dd (.dK [(Sum.inr "a", .int 1)])) L (.lst (items n t1 l1 dd))) := same_push (same_push (same_push (same_push (same_push s24 h1) h2) h3) h4) h5
      have th := items_ok (K := K) (H := upd (upd (upd (upd (upd H4 t1 (.tup [.str "a", .int n])) l2 (.lst [.int 2])) l1 (.lst [.int 1, .ref l2])) dd (.dK [(Sum.inr "a", .int 1)])) L (.lst (items n t1 l1 dd))) (n := n) (t1 := t1) (l1 := l1) (l2 := l2) (dd := dd) hn0 hn1 (by walk_at "hp") (by walk_at "hp") (by walk_at "hp") (by walk_at "hp")
      have eL : (upd (upd (upd (upd (upd H4 t1 (.tup [.str "a", .int n])) l2 (.lst [.int 2])) l1 (.lst [.int 1, .ref l2])) dd (.dK [(Sum.inr "a", .int 1)])) L (.lst (items n t1 l1 dd))) L = some (.lst (items n t1 l1 dd)) := upd_same
      show ForT _ _ _ _ _ (upd (upd (upd (upd (upd H4 t1 (.tup [.str "a", .int n])) l2 (.lst [.int 2])) l1 (.lst [.int 1, .ref l2])) dd (.dK [(Sum.inr "a", .int 1)])) L (.lst (items n t1 l1 dd)))
      generalize (upd (upd (upd (upd (upd H4 t1 (.tup [.str "a", .int n])) l2 (.lst [.int 2])) l1 (.lst [.int 1, .ref l2])) dd (.dK [(Sum.inr "a", .int 1)])) L (.lst (items n t1 l1 dd))) = HL at *
      clear h1 h2 h3 h4 h5 s24 d4 hsrc s3 hps s23
      refine for_w (walk_list (xs := items n t1 l1 dd)) (fun k σ H' => ∃ u4 u5 u6 u7, σ = [some (.ref a), some (.int i'), some (.ref ps), some (.int n), u4, u5, u6, u7] ∧ Same HL H') ⟨_, _, _, _, rfl, Same.refl _⟩ (fun _ _ _ _ p => by obtain ⟨_, _, _, _, _, s⟩ := p; exact sq_lst (s _ _ eL)) ?_ ?_
      · rintro k y σ HA HA' hk ⟨u4, u5, u6, u7, rfl, sA⟩ ⟨rfl, hy⟩
        obtain ⟨d, sh, ok⟩ := th y (List.mem_of_getElem? hy)
        have shA := sh.same sA
        walk_at "v"
        refine ⟨y, rfl, fun p xs HB sB eB ers => ?_⟩
        have shB := shA.same sB
        have hxl := ers.1
        walk_at "v"
        refine for_w walk_upto (fun j σ H' => ∃ w6 w7, σ = [some (.ref a), some (.int i'), some (.ref ps), some (.int n), some y, some (.ref p), w6, w7] ∧ Same HB H') ⟨_, _, rfl, Same.refl _⟩ (fun _ _ _ _ _ => trivial) ?_ ?_
        · rintro j z σ HC HC' hj ⟨w6, w7, rfl, sC⟩ ⟨rfl, hz⟩
          obtain ⟨rfl, hj19⟩ := upto_at hz
          have hj19 : j < 19 := by omega
          obtain ⟨v, hv⟩ : ∃ v, xs[j]? = some v := ⟨_, List.getElem?_eq_getElem (by omega)⟩
          have er := (ers.2 j v hv).same sC
          have eC := sC _ _ eB
          have shC := shB.same sC
          walk_at "v"
          refine v_ixL (sq_lst eC) (atI_nat hv) ?_
          walk_at "v"
          refine ⟨j, v, y, rfl, hj19, er, ?_⟩
          walk_at "v"
          refine ⟨y, d, rfl, shC.v, ok.p, ?_⟩
          walk_at "v"
          refine ⟨y, d, rfl, shC.v, ok.p, ?_⟩
          refine v_neS ?_
          rw [show (!decide (d.shown = d.shown)) = false by simp]
          walk_at "v"
          refine v_ixL (sq_lst eC) (atI_nat hv) ?_
          walk_at "v"
          refine v_erIs er (T.e hj19) (T.kE hj19).1 ?_
          walk_at "v"
          refine v_ixL (sq_lst eC) (atI_nat hv) ?_
          walk_at "v"
          refine ⟨v, _, j, rfl, hj19, er, fun qk HD sD eD => ?_⟩
          have eDp := sD _ _ eC
          walk_at "v"
          refine lc_f walk_upto hy_at (fun _ _ => trivial) (fSpot j) (by rw [upto_len]; exact small1000 (by omega)) (fun x H2 R Rn hx s2 hR hN => ?_) (fun D HE hD sE e => ?_)
          · obtain ⟨z, rfl⟩ : ∃ z : Int, x = .int z := by
              unfold upto at hx
              obtain ⟨t, _, rfl⟩ := List.mem_map.mp hx
              exact ⟨_, rfl⟩
            walk_at "v"
            exact hR _ _ (Same.refl _) rfl
          · rw [hxl, show ((19 : Nat) : Int).toNat = (19 : Int).toNat from rfl, spots j hj19] at e
            obtain ⟨k1, k2⟩ := kinds_ok j hj19
            have eK : HE qk = some (.lst (kindsV j)) := sE _ _ eD
            walk_at "v"
            refine v_neD (kinds_dp eK) (kinds_dp e) k1 k1 ?_
            rw [k2]
            walk_at "v"
            refine v_ixL (sq_lst (sE _ _ eDp)) (atI_nat hv) ?_
            walk_at "v"
            rename_i tp htp
            have sT := same_new (o := .tup [.ty "ValueError", .ty "LookupError", .ty "RuntimeError", .ty "OverflowError", .ty "TypeError"]) htp
            obtain ⟨ea, ex, rfl, g1, g2⟩ := (er.same (sD.trans sE)).same sT
            refine .inr ⟨ea, _, ex, _, tp, _, five, false, rfl, T.e hj19, g1, g2, upd_same, .cons (.ty _) (.cons (.ty _) (.cons (.ty _) (.cons (.ty _) (.cons (.ty _) .nil)))), (T.kE hj19).2, ?_⟩
            walk_at "v"
            exact ⟨_, _, rfl, ((sC.trans sD).trans sE).trans sT⟩
        · rintro σ HC ⟨w6, w7, rfl, sC⟩
          walk_at "v"
          refine ⟨y, d, rfl, shB.same sC, ok, fun HD sD => ?_⟩
          walk_at "v"
          exact ⟨_, _, _, _, rfl, ((sA.trans sB).trans sC).trans sD⟩
      · rintro σ HA ⟨u4, u5, u6, u7, rfl, sA⟩
        walk_at "v"
        exact ⟨_, _, _, _, _, _, _, rfl, s2L.trans sA⟩
    · rintro σ H2 ⟨v1, v2, v3, v4, v5, v6, v7, rfl, s2⟩
      walk_at "v"
      exact q _
end K30

namespace K30
open PySem PySem.Spec PyProof.Rows L2 Kit
theorem all_mk {l : PySem.W.OpenLaw} {w : World} {K : PySem.W.Frag} {h : Heap} {mg : Str → Option Value} {fa cE f0 f1 f2 f3 f4 f5 f6 fI0 fI1 fI2 fI3 fI4 fI5 fI6 fI7 fI8 fI9 fI10 fI11 fI12 fI13 fI14 fI15 fI16 fI17 fI18 c0 c1 c2 c3 c4 c5 c6 c7 c8 c9 c10 c11 c12 c13 c14 c15 c16 c17 c18 : Addr} (X : K.In h) (G : h.Ns mainGlobals mg) (hfa : mg "law" = some (.ref fa))
    {od0 an0 od1 an1 od2 an2 od3 an3 od4 an4 od5 an5 od6 an6 odI0 anI0 odI1 anI1 odI2 anI2 odI3 anI3 odI4 anI4 odI5 anI5 odI6 anI6 odI7 anI7 odI8 anI8 odI9 anI9 odI10 anI10 odI11 anI11 odI12 anI12 odI13 anI13 odI14 anI14 odI15 anI15 odI16 anI16 odI17 anI17 odI18 anI18 : Option Addr} {sl0 sl1 sl2 sl3 sl4 sl5 sl6 slI0 slI1 slI2 slI3 slI4 slI5 slI6 slI7 slI8 slI9 slI10 slI11 slI12 slI13 slI14 slI15 slI16 slI17 slI18 : Array (Option Value)} {oc0 kV0 dc0 pm0 cd0 ct0 oc1 kV1 dc1 pm1 cd1 ct1 oc2 kV2 dc2 pm2 cd2 ct2 oc3 kV3 dc3 pm3 cd3 ct3 oc4 kV4 dc4 pm4 cd4 ct4 oc5 kV5 dc5 pm5 cd5 ct5 oc6 kV6 dc6 pm6 cd6 ct6 ocI0 kVI0 dcI0 pmI0 cdI0 ctI0 ocI1 kVI1 dcI1 pmI1 cdI1 ctI1 ocI2 kVI2 dcI2 pmI2 cdI2 ctI2 ocI3 kVI3 dcI3 pmI3 cdI3 ctI3 ocI4 kVI4 dcI4 pmI4 cdI4 ctI4 ocI5 kVI5 dcI5 pmI5 cdI5 ctI5 ocI6 kVI6 dcI6 pmI6 cdI6 ctI6 ocI7 kVI7 dcI7 pmI7 cdI7 ctI7 ocI8 kVI8 dcI8 pmI8 cdI8 ctI8 ocI9 kVI9 dcI9 pmI9 cdI9 ctI9 ocI10 kVI10 dcI10 pmI10 cdI10 ctI10 ocI11 kVI11 dcI11 pmI11 cdI11 ctI11 ocI12 kVI12 dcI12 pmI12 cdI12 ctI12 ocI13 kVI13 dcI13 pmI13 cdI13 ctI13 ocI14 kVI14 dcI14 pmI14 cdI14 ctI14 ocI15 kVI15 dcI15 pmI15 cdI15 ctI15 ocI16 kVI16 dcI16 pmI16 cdI16 ctI16 ocI17 kVI17 dcI17 pmI17 cdI17 ctI17 ocI18 kVI18 dcI18 pmI18 cdI18 ctI18 : Value}
    (a0 : PySem.W.nsIn K mainGlobals "_law_source" = some (some (.ref f0))) (l0 : K.lookup f0 = some ⟨oc0, od0, .func (PySem.W.fnOf "_law_source" "_law_source" (defArgs s_law_source) (defBody s_law_source) (defScope s_law_source) .none kV0 dc0 pm0 an0 cd0 ct0), sl0⟩) (cc0 : PySem.W.codeIn K cd0 "_law_source" = true) (k0 : PySem.W.keepIn K (.ref f0) = true)
    (a1 : PySem.W.nsIn K mainGlobals "_law_draw" = some (some (.ref f1))) (l1 : K.lookup f1 = some ⟨oc1, od1, .func (PySem.W.fnOf "_law_draw" "_law_draw" (defArgs s_law_draw) (defBody s_law_draw) (defScope s_law_draw) .none kV1 dc1 pm1 an1 cd1 ct1), sl1⟩) (cc1 : PySem.W.codeIn K cd1 "_law_draw" = true) (k1 : PySem.W.keepIn K (.ref f1) = true)
    (a2 : PySem.W.nsIn K mainGlobals "_law_all" = some (some (.ref f2))) (l2 : K.lookup f2 = some ⟨oc2, od2, .func (PySem.W.fnOf "_law_all" "_law_all" (defArgs s_law_all) (defBody s_law_all) (defScope s_law_all) .none kV2 dc2 pm2 an2 cd2 ct2), sl2⟩) (cc2 : PySem.W.codeIn K cd2 "_law_all" = true) (k2 : PySem.W.keepIn K (.ref f2) = true)
    (a3 : PySem.W.nsIn K mainGlobals "_law_held" = some (some (.ref f3))) (l3 : K.lookup f3 = some ⟨oc3, od3, .func (PySem.W.fnOf "_law_held" "_law_held" (defArgs s_law_held) (defBody s_law_held) (defScope s_law_held) .none kV3 dc3 pm3 an3 cd3 ct3), sl3⟩) (cc3 : PySem.W.codeIn K cd3 "_law_held" = true) (k3 : PySem.W.keepIn K (.ref f3) = true)
    (a4 : PySem.W.nsIn K mainGlobals "_law_kinds" = some (some (.ref f4))) (l4 : K.lookup f4 = some ⟨oc4, od4, .func (PySem.W.fnOf "_law_kinds" "_law_kinds" (defArgs s_law_kinds) (defBody s_law_kinds) (defScope s_law_kinds) .none kV4 dc4 pm4 an4 cd4 ct4), sl4⟩) (cc4 : PySem.W.codeIn K cd4 "_law_kinds" = true) (k4 : PySem.W.keepIn K (.ref f4) = true)
    (a5 : PySem.W.nsIn K mainGlobals "_law_others_right" = some (some (.ref f5))) (l5 : K.lookup f5 = some ⟨oc5, od5, .func (PySem.W.fnOf "_law_others_right" "_law_others_right" (defArgs s_law_others_right) (defBody s_law_others_right) (defScope s_law_others_right) .none kV5 dc5 pm5 an5 cd5 ct5), sl5⟩) (cc5 : PySem.W.codeIn K cd5 "_law_others_right" = true) (k5 : PySem.W.keepIn K (.ref f5) = true)
    (a6 : PySem.W.nsIn K mainGlobals "law" = some (some (.ref f6))) (l6 : K.lookup f6 = some ⟨oc6, od6, .func (PySem.W.fnOf "law" "law" (defArgs s_law) (defBody s_law) (defScope s_law) .none kV6 dc6 pm6 an6 cd6 ct6), sl6⟩) (cc6 : PySem.W.codeIn K cd6 "law" = true) (k6 : PySem.W.keepIn K (.ref f6) = true)
    (aE : PySem.W.nsIn K mainGlobals "ClassError" = some (some (.ref cE)))
    (xa0 : PySem.W.nsIn K mainGlobals "InvalidName" = some (some (.ref c0))) (xi0 : PySem.W.findIn K (.ref c0) "__init__" = some (some (.ref fI0))) (xt0 : PySem.W.typeIn K (.ref fI0) = some (.type "function"))
     (lI0 : K.lookup fI0 = some ⟨ocI0, odI0, .func (PySem.W.fnOf "__init__" "InvalidName.__init__" (defArgs s_InvalidName___init__) (defBody s_InvalidName___init__) (defScope s_InvalidName___init__) .none kVI0 dcI0 pmI0 anI0 cdI0 ctI0), slI0⟩) (ccI0 : PySem.W.codeIn K cdI0 "InvalidName.__init__" = true) (kI0 : PySem.W.keepIn K (.ref fI0) = true)
    (xa1 : PySem.W.nsIn K mainGlobals "InvalidMethod" = some (some (.ref c1))) (xi1 : PySem.W.findIn K (.ref c1) "__init__" = some (some (.ref fI1))) (xt1 : PySem.W.typeIn K (.ref fI1) = some (.type "function"))
     (lI1 : K.lookup fI1 = some ⟨ocI1, odI1, .func (PySem.W.fnOf "__init__" "InvalidMethod.__init__" (defArgs s_InvalidMethod___init__) (defBody s_InvalidMethod___init__) (defScope s_InvalidMethod___init__) .none kVI1 dcI1 pmI1 anI1 cdI1 ctI1), slI1⟩) (ccI1 : PySem.W.codeIn K cdI1 "InvalidMethod.__init__" = true) (kI1 : PySem.W.keepIn K (.ref fI1) = true)
    (xa2 : PySem.W.nsIn K mainGlobals "InvalidClass" = some (some (.ref c2))) (xi2 : PySem.W.findIn K (.ref c2) "__init__" = some (some (.ref fI2))) (xt2 : PySem.W.typeIn K (.ref fI2) = some (.type "function"))
     (lI2 : K.lookup fI2 = some ⟨ocI2, odI2, .func (PySem.W.fnOf "__init__" "InvalidClass.__init__" (defArgs s_InvalidClass___init__) (defBody s_InvalidClass___init__) (defScope s_InvalidClass___init__) .none kVI2 dcI2 pmI2 anI2 cdI2 ctI2), slI2⟩) (ccI2 : PySem.W.codeIn K cdI2 "InvalidClass.__init__" = true) (kI2 : PySem.W.keepIn K (.ref fI2) = true)
    (xa3 : PySem.W.nsIn K mainGlobals "InvalidTable" = some (some (.ref c3))) (xi3 : PySem.W.findIn K (.ref c3) "__init__" = some (some (.ref fI3))) (xt3 : PySem.W.typeIn K (.ref fI3) = some (.type "function"))
     (lI3 : K.lookup fI3 = some ⟨ocI3, odI3, .func (PySem.W.fnOf "__init__" "InvalidTable.__init__" (defArgs s_InvalidTable___init__) (defBody s_InvalidTable___init__) (defScope s_InvalidTable___init__) .none kVI3 dcI3 pmI3 anI3 cdI3 ctI3), slI3⟩) (ccI3 : PySem.W.codeIn K cdI3 "InvalidTable.__init__" = true) (kI3 : PySem.W.keepIn K (.ref fI3) = true)
    (xa4 : PySem.W.nsIn K mainGlobals "NameTaken" = some (some (.ref c4))) (xi4 : PySem.W.findIn K (.ref c4) "__init__" = some (some (.ref fI4))) (xt4 : PySem.W.typeIn K (.ref fI4) = some (.type "function"))
     (lI4 : K.lookup fI4 = some ⟨ocI4, odI4, .func (PySem.W.fnOf "__init__" "NameTaken.__init__" (defArgs s_NameTaken___init__) (defBody s_NameTaken___init__) (defScope s_NameTaken___init__) .none kVI4 dcI4 pmI4 anI4 cdI4 ctI4), slI4⟩) (ccI4 : PySem.W.codeIn K cdI4 "NameTaken.__init__" = true) (kI4 : PySem.W.keepIn K (.ref fI4) = true)
    (xa5 : PySem.W.nsIn K mainGlobals "UnknownLoader" = some (some (.ref c5))) (xi5 : PySem.W.findIn K (.ref c5) "__init__" = some (some (.ref fI5))) (xt5 : PySem.W.typeIn K (.ref fI5) = some (.type "function"))
     (lI5 : K.lookup fI5 = some ⟨ocI5, odI5, .func (PySem.W.fnOf "__init__" "UnknownLoader.__init__" (defArgs s_UnknownLoader___init__) (defBody s_UnknownLoader___init__) (defScope s_UnknownLoader___init__) .none kVI5 dcI5 pmI5 anI5 cdI5 ctI5), slI5⟩) (ccI5 : PySem.W.codeIn K cdI5 "UnknownLoader.__init__" = true) (kI5 : PySem.W.keepIn K (.ref fI5) = true)
    (xa6 : PySem.W.nsIn K mainGlobals "InvalidValues" = some (some (.ref c6))) (xi6 : PySem.W.findIn K (.ref c6) "__init__" = some (some (.ref fI6))) (xt6 : PySem.W.typeIn K (.ref fI6) = some (.type "function"))
     (lI6 : K.lookup fI6 = some ⟨ocI6, odI6, .func (PySem.W.fnOf "__init__" "InvalidValues.__init__" (defArgs s_InvalidValues___init__) (defBody s_InvalidValues___init__) (defScope s_InvalidValues___init__) .none kVI6 dcI6 pmI6 anI6 cdI6 ctI6), slI6⟩) (ccI6 : PySem.W.codeIn K cdI6 "InvalidValues.__init__" = true) (kI6 : PySem.W.keepIn K (.ref fI6) = true)
    (xa7 : PySem.W.nsIn K mainGlobals "InvalidChoices" = some (some (.ref c7))) (xi7 : PySem.W.findIn K (.ref c7) "__init__" = some (some (.ref fI7))) (xt7 : PySem.W.typeIn K (.ref fI7) = some (.type "function"))
     (lI7 : K.lookup fI7 = some ⟨ocI7, odI7, .func (PySem.W.fnOf "__init__" "InvalidChoices.__init__" (defArgs s_InvalidChoices___init__) (defBody s_InvalidChoices___init__) (defScope s_InvalidChoices___init__) .none kVI7 dcI7 pmI7 anI7 cdI7 ctI7), slI7⟩) (ccI7 : PySem.W.codeIn K cdI7 "InvalidChoices.__init__" = true) (kI7 : PySem.W.keepIn K (.ref fI7) = true)
    (xa8 : PySem.W.nsIn K mainGlobals "InvalidLimit" = some (some (.ref c8))) (xi8 : PySem.W.findIn K (.ref c8) "__init__" = some (some (.ref fI8))) (xt8 : PySem.W.typeIn K (.ref fI8) = some (.type "function"))
     (lI8 : K.lookup fI8 = some ⟨ocI8, odI8, .func (PySem.W.fnOf "__init__" "InvalidLimit.__init__" (defArgs s_InvalidLimit___init__) (defBody s_InvalidLimit___init__) (defScope s_InvalidLimit___init__) .none kVI8 dcI8 pmI8 anI8 cdI8 ctI8), slI8⟩) (ccI8 : PySem.W.codeIn K cdI8 "InvalidLimit.__init__" = true) (kI8 : PySem.W.keepIn K (.ref fI8) = true)
    (xa9 : PySem.W.nsIn K mainGlobals "InvalidOperand" = some (some (.ref c9))) (xi9 : PySem.W.findIn K (.ref c9) "__init__" = some (some (.ref fI9))) (xt9 : PySem.W.typeIn K (.ref fI9) = some (.type "function"))
     (lI9 : K.lookup fI9 = some ⟨ocI9, odI9, .func (PySem.W.fnOf "__init__" "InvalidOperand.__init__" (defArgs s_InvalidOperand___init__) (defBody s_InvalidOperand___init__) (defScope s_InvalidOperand___init__) .none kVI9 dcI9 pmI9 anI9 cdI9 ctI9), slI9⟩) (ccI9 : PySem.W.codeIn K cdI9 "InvalidOperand.__init__" = true) (kI9 : PySem.W.keepIn K (.ref fI9) = true)
    (xa10 : PySem.W.nsIn K mainGlobals "InvalidJournal" = some (some (.ref c10))) (xi10 : PySem.W.findIn K (.ref c10) "__init__" = some (some (.ref fI10))) (xt10 : PySem.W.typeIn K (.ref fI10) = some (.type "function"))
     (lI10 : K.lookup fI10 = some ⟨ocI10, odI10, .func (PySem.W.fnOf "__init__" "InvalidJournal.__init__" (defArgs s_InvalidJournal___init__) (defBody s_InvalidJournal___init__) (defScope s_InvalidJournal___init__) .none kVI10 dcI10 pmI10 anI10 cdI10 ctI10), slI10⟩) (ccI10 : PySem.W.codeIn K cdI10 "InvalidJournal.__init__" = true) (kI10 : PySem.W.keepIn K (.ref fI10) = true)
    (xa11 : PySem.W.nsIn K mainGlobals "InvalidCommand" = some (some (.ref c11))) (xi11 : PySem.W.findIn K (.ref c11) "__init__" = some (some (.ref fI11))) (xt11 : PySem.W.typeIn K (.ref fI11) = some (.type "function"))
     (lI11 : K.lookup fI11 = some ⟨ocI11, odI11, .func (PySem.W.fnOf "__init__" "InvalidCommand.__init__" (defArgs s_InvalidCommand___init__) (defBody s_InvalidCommand___init__) (defScope s_InvalidCommand___init__) .none kVI11 dcI11 pmI11 anI11 cdI11 ctI11), slI11⟩) (ccI11 : PySem.W.codeIn K cdI11 "InvalidCommand.__init__" = true) (kI11 : PySem.W.keepIn K (.ref fI11) = true)
    (xa12 : PySem.W.nsIn K mainGlobals "UnknownName" = some (some (.ref c12))) (xi12 : PySem.W.findIn K (.ref c12) "__init__" = some (some (.ref fI12))) (xt12 : PySem.W.typeIn K (.ref fI12) = some (.type "function"))
     (lI12 : K.lookup fI12 = some ⟨ocI12, odI12, .func (PySem.W.fnOf "__init__" "UnknownName.__init__" (defArgs s_UnknownName___init__) (defBody s_UnknownName___init__) (defScope s_UnknownName___init__) .none kVI12 dcI12 pmI12 anI12 cdI12 ctI12), slI12⟩) (ccI12 : PySem.W.codeIn K cdI12 "UnknownName.__init__" = true) (kI12 : PySem.W.keepIn K (.ref fI12) = true)
    (xa13 : PySem.W.nsIn K mainGlobals "NotLoaded" = some (some (.ref c13))) (xi13 : PySem.W.findIn K (.ref c13) "__init__" = some (some (.ref fI13))) (xt13 : PySem.W.typeIn K (.ref fI13) = some (.type "function"))
     (lI13 : K.lookup fI13 = some ⟨ocI13, odI13, .func (PySem.W.fnOf "__init__" "NotLoaded.__init__" (defArgs s_NotLoaded___init__) (defBody s_NotLoaded___init__) (defScope s_NotLoaded___init__) .none kVI13 dcI13 pmI13 anI13 cdI13 ctI13), slI13⟩) (ccI13 : PySem.W.codeIn K cdI13 "NotLoaded.__init__" = true) (kI13 : PySem.W.keepIn K (.ref fI13) = true)
    (xa14 : PySem.W.nsIn K mainGlobals "LimitExceeded" = some (some (.ref c14))) (xi14 : PySem.W.findIn K (.ref c14) "__init__" = some (some (.ref fI14))) (xt14 : PySem.W.typeIn K (.ref fI14) = some (.type "function"))
     (lI14 : K.lookup fI14 = some ⟨ocI14, odI14, .func (PySem.W.fnOf "__init__" "LimitExceeded.__init__" (defArgs s_LimitExceeded___init__) (defBody s_LimitExceeded___init__) (defScope s_LimitExceeded___init__) .none kVI14 dcI14 pmI14 anI14 cdI14 ctI14), slI14⟩) (ccI14 : PySem.W.codeIn K cdI14 "LimitExceeded.__init__" = true) (kI14 : PySem.W.keepIn K (.ref fI14) = true)
    (xa15 : PySem.W.nsIn K mainGlobals "Failing" = some (some (.ref c15))) (xi15 : PySem.W.findIn K (.ref c15) "__init__" = some (some (.ref fI15))) (xt15 : PySem.W.typeIn K (.ref fI15) = some (.type "function"))
     (lI15 : K.lookup fI15 = some ⟨ocI15, odI15, .func (PySem.W.fnOf "__init__" "Failing.__init__" (defArgs s_Failing___init__) (defBody s_Failing___init__) (defScope s_Failing___init__) .none kVI15 dcI15 pmI15 anI15 cdI15 ctI15), slI15⟩) (ccI15 : PySem.W.codeIn K cdI15 "Failing.__init__" = true) (kI15 : PySem.W.keepIn K (.ref fI15) = true)
    (xa16 : PySem.W.nsIn K mainGlobals "ParseError" = some (some (.ref c16))) (xi16 : PySem.W.findIn K (.ref c16) "__init__" = some (some (.ref fI16))) (xt16 : PySem.W.typeIn K (.ref fI16) = some (.type "function"))
     (lI16 : K.lookup fI16 = some ⟨ocI16, odI16, .func (PySem.W.fnOf "__init__" "ParseError.__init__" (defArgs s_ParseError___init__) (defBody s_ParseError___init__) (defScope s_ParseError___init__) .none kVI16 dcI16 pmI16 anI16 cdI16 ctI16), slI16⟩) (ccI16 : PySem.W.codeIn K cdI16 "ParseError.__init__" = true) (kI16 : PySem.W.keepIn K (.ref fI16) = true)
    (xa17 : PySem.W.nsIn K mainGlobals "UnknownClass" = some (some (.ref c17))) (xi17 : PySem.W.findIn K (.ref c17) "__init__" = some (some (.ref fI17))) (xt17 : PySem.W.typeIn K (.ref fI17) = some (.type "function"))
     (lI17 : K.lookup fI17 = some ⟨ocI17, odI17, .func (PySem.W.fnOf "__init__" "UnknownClass.__init__" (defArgs s_UnknownClass___init__) (defBody s_UnknownClass___init__) (defScope s_UnknownClass___init__) .none kVI17 dcI17 pmI17 anI17 cdI17 ctI17), slI17⟩) (ccI17 : PySem.W.codeIn K cdI17 "UnknownClass.__init__" = true) (kI17 : PySem.W.keepIn K (.ref fI17) = true)
    (xa18 : PySem.W.nsIn K mainGlobals "NameFixed" = some (some (.ref c18))) (xi18 : PySem.W.findIn K (.ref c18) "__init__" = some (some (.ref fI18))) (xt18 : PySem.W.typeIn K (.ref fI18) = some (.type "function"))
     (lI18 : K.lookup fI18 = some ⟨ocI18, odI18, .func (PySem.W.fnOf "__init__" "NameFixed.__init__" (defArgs s_NameFixed___init__) (defBody s_NameFixed___init__) (defScope s_NameFixed___init__) .none kVI18 dcI18 pmI18 anI18 cdI18 ctI18), slI18⟩) (ccI18 : PySem.W.codeIn K cdI18 "NameFixed.__init__" = true) (kI18 : PySem.W.keepIn K (.ref fI18) = true)
    (e1 : errsB K [c0, c1, c2, c3, c4, c5, c6, c7, c8, c9, c10, c11, c12, c13, c14, c15, c16, c17, c18] = true) (e2 : kitsB K [c0, c1, c2, c3, c4, c5, c6, c7, c8, c9, c10, c11, c12, c13, c14, c15, c16, c17, c18] = true) (e3 : kitEB K cE [c0, c1, c2, c3, c4, c5, c6, c7, c8, c9, c10, c11, c12, c13, c14, c15, c16, c17, c18] = true) (e4 : noB K [c0, c1, c2, c3, c4, c5, c6, c7, c8, c9, c10, c11, c12, c13, c14, c15, c16, c17, c18] = true)
    (z_len : PySem.W.nsIn K mainGlobals "len" = some none)
    (z_max : PySem.W.nsIn K mainGlobals "max" = some none)
    (z_min : PySem.W.nsIn K mainGlobals "min" = some none)
    (z_int : PySem.W.nsIn K mainGlobals "int" = some none)
    (z_str : PySem.W.nsIn K mainGlobals "str" = some none)
    (z_bool : PySem.W.nsIn K mainGlobals "bool" = some none)
    (z_list : PySem.W.nsIn K mainGlobals "list" = some none)
    (z_tuple : PySem.W.nsIn K mainGlobals "tuple" = some none)
    (z_dict : PySem.W.nsIn K mainGlobals "dict" = some none)
    (z_type : PySem.W.nsIn K mainGlobals "type" = some none)
    (z_isinstance : PySem.W.nsIn K mainGlobals "isinstance" = some none)
    (z_all : PySem.W.nsIn K mainGlobals "all" = some none)
    (z_any : PySem.W.nsIn K mainGlobals "any" = some none)
    (z_range : PySem.W.nsIn K mainGlobals "range" = some none)
    (z_zip : PySem.W.nsIn K mainGlobals "zip" = some none)
    (z_repr : PySem.W.nsIn K mainGlobals "repr" = some none)
    (z_set : PySem.W.nsIn K mainGlobals "set" = some none)
    (z_ValueError : PySem.W.nsIn K mainGlobals "ValueError" = some none)
    (z_LookupError : PySem.W.nsIn K mainGlobals "LookupError" = some none)
    (z_RuntimeError : PySem.W.nsIn K mainGlobals "RuntimeError" = some none)
    (z_OverflowError : PySem.W.nsIn K mainGlobals "OverflowError" = some none)
    (z_TypeError : PySem.W.nsIn K mainGlobals "TypeError" = some none)
    : ∃ fd : FuncData, (∀ (s : Shared) (v : Value), BindsTo s fd ⟨[v], []⟩ [("_law_script", v)]) ∧ ∀ base : Heap, K.In base → base.Ns mainGlobals mg → FnG l.prog w K mg base CX0 4 fa fd ["_law_script"] (spLaw K) := by
  have e := hfa.symm.trans (PySem.W.mg_of X G a6)
  cases e
  have BB : Bi mg := ⟨PySem.W.mg_none_of X G z_len, PySem.W.mg_none_of X G z_max, PySem.W.mg_none_of X G z_min, PySem.W.mg_none_of X G z_int, PySem.W.mg_none_of X G z_str, PySem.W.mg_none_of X G z_bool, PySem.W.mg_none_of X G z_list, PySem.W.mg_none_of X G z_tuple, PySem.W.mg_none_of X G z_dict, PySem.W.mg_none_of X G z_type, PySem.W.mg_none_of X G z_isinstance, PySem.W.mg_none_of X G z_all, PySem.W.mg_none_of X G z_any, PySem.W.mg_none_of X G z_range, PySem.W.mg_none_of X G z_zip, PySem.W.mg_none_of X G z_repr, PySem.W.mg_none_of X G z_set⟩
  have T : TxtE K mg cE [c0, c1, c2, c3, c4, c5, c6, c7, c8, c9, c10, c11, c12, c13, c14, c15, c16, c17, c18] := { BB with
    len := rfl
    er := e1
    kit := e2
    kitE := e3
    no := e4
    g_InvalidName := ⟨_, PySem.W.mg_of X G xa0, rfl⟩
    g_InvalidMethod := ⟨_, PySem.W.mg_of X G xa1, rfl⟩
    g_InvalidClass := ⟨_, PySem.W.mg_of X G xa2, rfl⟩
    g_InvalidTable := ⟨_, PySem.W.mg_of X G xa3, rfl⟩
    g_NameTaken := ⟨_, PySem.W.mg_of X G xa4, rfl⟩
    g_UnknownLoader := ⟨_, PySem.W.mg_of X G xa5, rfl⟩
    g_InvalidValues := ⟨_, PySem.W.mg_of X G xa6, rfl⟩
    g_InvalidChoices := ⟨_, PySem.W.mg_of X G xa7, rfl⟩
    g_InvalidLimit := ⟨_, PySem.W.mg_of X G xa8, rfl⟩
    g_InvalidOperand := ⟨_, PySem.W.mg_of X G xa9, rfl⟩
    g_InvalidJournal := ⟨_, PySem.W.mg_of X G xa10, rfl⟩
    g_InvalidCommand := ⟨_, PySem.W.mg_of X G xa11, rfl⟩
    g_UnknownName := ⟨_, PySem.W.mg_of X G xa12, rfl⟩
    g_NotLoaded := ⟨_, PySem.W.mg_of X G xa13, rfl⟩
    g_LimitExceeded := ⟨_, PySem.W.mg_of X G xa14, rfl⟩
    g_Failing := ⟨_, PySem.W.mg_of X G xa15, rfl⟩
    g_ParseError := ⟨_, PySem.W.mg_of X G xa16, rfl⟩
    g_UnknownClass := ⟨_, PySem.W.mg_of X G xa17, rfl⟩
    g_NameFixed := ⟨_, PySem.W.mg_of X G xa18, rfl⟩
    g_ClassError := ⟨_, PySem.W.mg_of X G aE, rfl⟩
    b_ValueError := PySem.W.mg_none_of X G z_ValueError
    b_LookupError := PySem.W.mg_none_of X G z_LookupError
    b_RuntimeError := PySem.W.mg_none_of X G z_RuntimeError
    b_OverflowError := PySem.W.mg_none_of X G z_OverflowError
    b_TypeError := PySem.W.mg_none_of X G z_TypeError }
  have F0 := fun_mk (st := s_law_source) l0 cc0 k0
  have F1 := fun_mk (st := s_law_draw) l1 cc1 k1
  have F2 := fun_mk (st := s_law_all) l2 cc2 k2
  have F3 := fun_mk (st := s_law_held) l3 cc3 k3
  have F4 := fun_mk (st := s_law_kinds) l4 cc4 k4
  have F5 := fun_mk (st := s_law_others_right) l5 cc5 k5
  have F6 := fun_mk (st := s_law) l6 cc6 k6
  have FI0 := fun_mk (st := s_InvalidName___init__) lI0 ccI0 kI0
  have FI1 := fun_mk (st := s_InvalidMethod___init__) lI1 ccI1 kI1
  have FI2 := fun_mk (st := s_InvalidClass___init__) lI2 ccI2 kI2
  have FI3 := fun_mk (st := s_InvalidTable___init__) lI3 ccI3 kI3
  have FI4 := fun_mk (st := s_NameTaken___init__) lI4 ccI4 kI4
  have FI5 := fun_mk (st := s_UnknownLoader___init__) lI5 ccI5 kI5
  have FI6 := fun_mk (st := s_InvalidValues___init__) lI6 ccI6 kI6
  have FI7 := fun_mk (st := s_InvalidChoices___init__) lI7 ccI7 kI7
  have FI8 := fun_mk (st := s_InvalidLimit___init__) lI8 ccI8 kI8
  have FI9 := fun_mk (st := s_InvalidOperand___init__) lI9 ccI9 kI9
  have FI10 := fun_mk (st := s_InvalidJournal___init__) lI10 ccI10 kI10
  have FI11 := fun_mk (st := s_InvalidCommand___init__) lI11 ccI11 kI11
  have FI12 := fun_mk (st := s_UnknownName___init__) lI12 ccI12 kI12
  have FI13 := fun_mk (st := s_NotLoaded___init__) lI13 ccI13 kI13
  have FI14 := fun_mk (st := s_LimitExceeded___init__) lI14 ccI14 kI14
  have FI15 := fun_mk (st := s_Failing___init__) lI15 ccI15 kI15
  have FI16 := fun_mk (st := s_ParseError___init__) lI16 ccI16 kI16
  have FI17 := fun_mk (st := s_UnknownClass___init__) lI17 ccI17 kI17
  have FI18 := fun_mk (st := s_NameFixed___init__) lI18 ccI18 kI18
  have b0 := F0.binds (ps := ["_law_script", "_law_turn"]) fun _ _ _ _ _ _ us hl => match us, hl with | [_, _], _ => rfl
  have b1 := F1.binds (ps := ["_law_source_here", "_law_amount"]) fun _ _ _ _ _ _ us hl => match us, hl with | [_, _], _ => rfl
  have b2 := F2.binds (ps := ["_law_item"]) fun _ _ _ _ _ _ us hl => match us, hl with | [_], _ => rfl
  have b3 := F3.binds (ps := ["_law_at", "_law_error"]) fun _ _ _ _ _ _ us hl => match us, hl with | [_, _], _ => rfl
  have b4 := F4.binds (ps := ["_law_error"]) fun _ _ _ _ _ _ us hl => match us, hl with | [_], _ => rfl
  have b5 := F5.binds (ps := ["_law_item"]) fun _ _ _ _ _ _ us hl => match us, hl with | [_], _ => rfl
  have bI0 := FI0.binds (ps := ["self", "given"]) fun _ _ _ _ _ _ us hl => match us, hl with | [_, _], _ => rfl
  have bI1 := FI1.binds (ps := ["self", "given"]) fun _ _ _ _ _ _ us hl => match us, hl with | [_, _], _ => rfl
  have bI2 := FI2.binds (ps := ["self", "given"]) fun _ _ _ _ _ _ us hl => match us, hl with | [_, _], _ => rfl
  have bI3 := FI3.binds (ps := ["self", "given"]) fun _ _ _ _ _ _ us hl => match us, hl with | [_, _], _ => rfl
  have bI4 := FI4.binds (ps := ["self", "given"]) fun _ _ _ _ _ _ us hl => match us, hl with | [_, _], _ => rfl
  have bI5 := FI5.binds (ps := ["self", "given"]) fun _ _ _ _ _ _ us hl => match us, hl with | [_, _], _ => rfl
  have bI6 := FI6.binds (ps := ["self", "given"]) fun _ _ _ _ _ _ us hl => match us, hl with | [_, _], _ => rfl
  have bI7 := FI7.binds (ps := ["self", "given"]) fun _ _ _ _ _ _ us hl => match us, hl with | [_, _], _ => rfl
  have bI8 := FI8.binds (ps := ["self", "given"]) fun _ _ _ _ _ _ us hl => match us, hl with | [_, _], _ => rfl
  have bI9 := FI9.binds (ps := ["self", "given"]) fun _ _ _ _ _ _ us hl => match us, hl with | [_, _], _ => rfl
  have bI10 := FI10.binds (ps := ["self", "given"]) fun _ _ _ _ _ _ us hl => match us, hl with | [_, _], _ => rfl
  have bI11 := FI11.binds (ps := ["self", "given"]) fun _ _ _ _ _ _ us hl => match us, hl with | [_, _], _ => rfl
  have bI12 := FI12.binds (ps := ["self", "given"]) fun _ _ _ _ _ _ us hl => match us, hl with | [_, _], _ => rfl
  have bI13 := FI13.binds (ps := ["self", "given"]) fun _ _ _ _ _ _ us hl => match us, hl with | [_, _], _ => rfl
  have bI14 := FI14.binds (ps := ["self", "limit"]) fun _ _ _ _ _ _ us hl => match us, hl with | [_, _], _ => rfl
  have bI15 := FI15.binds (ps := ["self", "failure"]) fun _ _ _ _ _ _ us hl => match us, hl with | [_, _], _ => rfl
  have bI16 := FI16.binds (ps := ["self", "line"]) fun _ _ _ _ _ _ us hl => match us, hl with | [_, _], _ => rfl
  have bI17 := FI17.binds (ps := ["self", "loader", "word"]) fun _ _ _ _ _ _ us hl => match us, hl with | [_, _, _], _ => rfl
  have bI18 := FI18.binds (ps := ["self", "loader", "word"]) fun _ _ _ _ _ _ us hl => match us, hl with | [_, _, _], _ => rfl
  refine ⟨PySem.W.fnOf "law" "law" (defArgs s_law) (defBody s_law) (defScope s_law) .none kV6 dc6 pm6 an6 cd6 ct6, fun s v => .of_eq rfl, fun base _ _ => ?_⟩
  have C_InvalidName : ErCal l.prog w K mg base 1 "InvalidName" c0 ["self", "given"] (spEr1 "given" c0) := ⟨T.e (i := 0) (by decide), fI0, _, xi0, xt0, ok_init_InvalidName FI0 (T.e (i := 0) (by decide)) (T.n (i := 0) (by decide)), PySem.W.mg_of X G xa0, bI0⟩
  have C_InvalidMethod : ErCal l.prog w K mg base 1 "InvalidMethod" c1 ["self", "given"] (spEr1 "given" c1) := ⟨T.e (i := 1) (by decide), fI1, _, xi1, xt1, ok_init_InvalidMethod FI1 (T.e (i := 1) (by decide)) (T.n (i := 1) (by decide)), PySem.W.mg_of X G xa1, bI1⟩
  have C_InvalidClass : ErCal l.prog w K mg base 1 "InvalidClass" c2 ["self", "given"] (spEr1 "given" c2) := ⟨T.e (i := 2) (by decide), fI2, _, xi2, xt2, ok_init_InvalidClass FI2 (T.e (i := 2) (by decide)) (T.n (i := 2) (by decide)), PySem.W.mg_of X G xa2, bI2⟩
  have C_InvalidTable : ErCal l.prog w K mg base 1 "InvalidTable" c3 ["self", "given"] (spEr1 "given" c3) := ⟨T.e (i := 3) (by decide), fI3, _, xi3, xt3, ok_init_InvalidTable FI3 (T.e (i := 3) (by decide)) (T.n (i := 3) (by decide)), PySem.W.mg_of X G xa3, bI3⟩
  have C_NameTaken : ErCal l.prog w K mg base 1 "NameTaken" c4 ["self", "given"] (spEr1 "given" c4) := ⟨T.e (i := 4) (by decide), fI4, _, xi4, xt4, ok_init_NameTaken FI4 (T.e (i := 4) (by decide)) (T.n (i := 4) (by decide)), PySem.W.mg_of X G xa4, bI4⟩
  have C_UnknownLoader : ErCal l.prog w K mg base 1 "UnknownLoader" c5 ["self", "given"] (spEr1 "given" c5) := ⟨T.e (i := 5) (by decide), fI5, _, xi5, xt5, ok_init_UnknownLoader FI5 (T.e (i := 5) (by decide)) (T.n (i := 5) (by decide)), PySem.W.mg_of X G xa5, bI5⟩
  have C_InvalidValues : ErCal l.prog w K mg base 1 "InvalidValues" c6 ["self", "given"] (spEr1 "given" c6) := ⟨T.e (i := 6) (by decide), fI6, _, xi6, xt6, ok_init_InvalidValues FI6 (T.e (i := 6) (by decide)) (T.n (i := 6) (by decide)), PySem.W.mg_of X G xa6, bI6⟩
  have C_InvalidChoices : ErCal l.prog w K mg base 1 "InvalidChoices" c7 ["self", "given"] (spEr1 "given" c7) := ⟨T.e (i := 7) (by decide), fI7, _, xi7, xt7, ok_init_InvalidChoices FI7 (T.e (i := 7) (by decide)) (T.n (i := 7) (by decide)), PySem.W.mg_of X G xa7, bI7⟩
  have C_InvalidLimit : ErCal l.prog w K mg base 1 "InvalidLimit" c8 ["self", "given"] (spEr1 "given" c8) := ⟨T.e (i := 8) (by decide), fI8, _, xi8, xt8, ok_init_InvalidLimit FI8 (T.e (i := 8) (by decide)) (T.n (i := 8) (by decide)), PySem.W.mg_of X G xa8, bI8⟩
  have C_InvalidOperand : ErCal l.prog w K mg base 1 "InvalidOperand" c9 ["self", "given"] (spEr1 "given" c9) := ⟨T.e (i := 9) (by decide), fI9, _, xi9, xt9, ok_init_InvalidOperand FI9 (T.e (i := 9) (by decide)) (T.n (i := 9) (by decide)), PySem.W.mg_of X G xa9, bI9⟩
  have C_InvalidJournal : ErCal l.prog w K mg base 1 "InvalidJournal" c10 ["self", "given"] (spEr1 "given" c10) := ⟨T.e (i := 10) (by decide), fI10, _, xi10, xt10, ok_init_InvalidJournal FI10 (T.e (i := 10) (by decide)) (T.n (i := 10) (by decide)), PySem.W.mg_of X G xa10, bI10⟩
  have C_InvalidCommand : ErCal l.prog w K mg base 1 "InvalidCommand" c11 ["self", "given"] (spEr1 "given" c11) := ⟨T.e (i := 11) (by decide), fI11, _, xi11, xt11, ok_init_InvalidCommand FI11 (T.e (i := 11) (by decide)) (T.n (i := 11) (by decide)), PySem.W.mg_of X G xa11, bI11⟩
  have C_UnknownName : ErCal l.prog w K mg base 1 "UnknownName" c12 ["self", "given"] (spEr1 "given" c12) := ⟨T.e (i := 12) (by decide), fI12, _, xi12, xt12, ok_init_UnknownName FI12 (T.e (i := 12) (by decide)) (T.n (i := 12) (by decide)), PySem.W.mg_of X G xa12, bI12⟩
  have C_NotLoaded : ErCal l.prog w K mg base 1 "NotLoaded" c13 ["self", "given"] (spEr1 "given" c13) := ⟨T.e (i := 13) (by decide), fI13, _, xi13, xt13, ok_init_NotLoaded FI13 (T.e (i := 13) (by decide)) (T.n (i := 13) (by decide)), PySem.W.mg_of X G xa13, bI13⟩
  have C_LimitExceeded : ErCal l.prog w K mg base 1 "LimitExceeded" c14 ["self", "limit"] (spEr1 "limit" c14) := ⟨T.e (i := 14) (by decide), fI14, _, xi14, xt14, ok_init_LimitExceeded FI14 (T.e (i := 14) (by decide)) (T.n (i := 14) (by decide)), PySem.W.mg_of X G xa14, bI14⟩
  have C_Failing : ErCal l.prog w K mg base 1 "Failing" c15 ["self", "failure"] (spEr1 "failure" c15) := ⟨T.e (i := 15) (by decide), fI15, _, xi15, xt15, ok_init_Failing FI15 (T.e (i := 15) (by decide)) (T.n (i := 15) (by decide)), PySem.W.mg_of X G xa15, bI15⟩
  have C_ParseError : ErCal l.prog w K mg base 1 "ParseError" c16 ["self", "line"] (spEr1 "line" c16) := ⟨T.e (i := 16) (by decide), fI16, _, xi16, xt16, ok_init_ParseError FI16 (T.e (i := 16) (by decide)) (T.n (i := 16) (by decide)), PySem.W.mg_of X G xa16, bI16⟩
  have C_UnknownClass : ErCal l.prog w K mg base 1 "UnknownClass" c17 ["self", "loader", "word"] (spEr2 "loader" "word" c17) := ⟨T.e (i := 17) (by decide), fI17, _, xi17, xt17, ok_init_UnknownClass FI17 (T.e (i := 17) (by decide)) (T.n2 (i := 17) (by decide) (by decide)).1 (T.n2 (i := 17) (by decide) (by decide)).2, PySem.W.mg_of X G xa17, bI17⟩
  have C_NameFixed : ErCal l.prog w K mg base 1 "NameFixed" c18 ["self", "loader", "word"] (spEr2 "loader" "word" c18) := ⟨T.e (i := 18) (by decide), fI18, _, xi18, xt18, ok_init_NameFixed FI18 (T.e (i := 18) (by decide)) (T.n2 (i := 18) (by decide) (by decide)).1 (T.n2 (i := 18) (by decide) (by decide)).2, PySem.W.mg_of X G xa18, bI18⟩
  have C_law_source : Cal l.prog w K mg base 1 "_law_source" ["_law_script", "_law_turn"] (spSource K) := ⟨⟨f0, _, ok_source F0 BB, PySem.W.mg_of X G a0, k0, b0⟩⟩
  have C_law_draw : Cal l.prog w K mg base 1 "_law_draw" ["_law_source_here", "_law_amount"] spDrawB := ⟨⟨f1, _, ok_drawB F1 BB, PySem.W.mg_of X G a1, k1, b1⟩⟩
  have C_law_all : Cal l.prog w K mg base 3 "_law_all" ["_law_item"] (spAll [c0, c1, c2, c3, c4, c5, c6, c7, c8, c9, c10, c11, c12, c13, c14, c15, c16, c17, c18]) := ⟨⟨f2, _, ok_all F2 T C_InvalidName C_InvalidMethod C_InvalidClass C_InvalidTable C_NameTaken C_UnknownLoader C_InvalidValues C_InvalidChoices C_InvalidLimit C_InvalidOperand C_InvalidJournal C_InvalidCommand C_UnknownName C_NotLoaded C_LimitExceeded C_Failing C_ParseError C_UnknownClass C_NameFixed, PySem.W.mg_of X G a2, k2, b2⟩⟩
  have C_law_held : Cal l.prog w K mg base 1 "_law_held" ["_law_at", "_law_error"] (spHeld [c0, c1, c2, c3, c4, c5, c6, c7, c8, c9, c10, c11, c12, c13, c14, c15, c16, c17, c18]) := ⟨⟨f3, _, ok_held F3 T, PySem.W.mg_of X G a3, k3, b3⟩⟩
  have C_law_kinds : Cal l.prog w K mg base 1 "_law_kinds" ["_law_error"] (spKinds [c0, c1, c2, c3, c4, c5, c6, c7, c8, c9, c10, c11, c12, c13, c14, c15, c16, c17, c18]) := ⟨⟨f4, _, ok_kinds F4 T, PySem.W.mg_of X G a4, k4, b4⟩⟩
  have C_law_others_right : CalG l.prog w K mg base 3 "_law_others_right" ["_law_item"] (spOR K) := ⟨⟨f5, _, ok_others F5 T C_UnknownClass C_NameFixed, PySem.W.mg_of X G a5, k5, b5⟩⟩
  exact ok_law F6 T C_law_source C_law_draw C_law_all C_law_held C_law_kinds C_law_others_right
end K30
open PySem PySem.W PyProof.Rows
set_option maxRecDepth 100000 in
set_option maxHeartbeats 0 in
theorem PySem.Challenge.cw_lateclasses_k30_exceptions_holds : PySem.Challenge.rw_lateclasses_k30_exceptions.Holds := by
  w_on; o_law; k_head; (case hw => w_witness2)
  k_fill
  refine Kit.walkG (l := PySem.Challenge.rw_lateclasses_k30_exceptions) (n := 63) (k := 4) (x := "_law_script") (sp := fun w => K30.spLaw _) rfl (by decide) rfl ⟨rfl, by decide, by decide⟩ (fun w h Y => PySem.W.kIn_of Y) ?F (fun _ _ a ns hl _ hS => ⟨a, ns, rfl, hS, hl, fun _ => rfl⟩)
  case F =>
    intro w mg fa h KX G hmg
    refine' K30.all_mk KX G hmg ?a0 ?l0 ?cc0 ?k0 ?a1 ?l1 ?cc1 ?k1 ?a2 ?l2 ?cc2 ?k2 ?a3 ?l3 ?cc3 ?k3 ?a4 ?l4 ?cc4 ?k4 ?a5 ?l5 ?cc5 ?k5 ?a6 ?l6 ?cc6 ?k6 ?aE ?xa0 ?xi0 ?xt0 ?lI0 ?ccI0 ?kI0 ?xa1 ?xi1 ?xt1 ?lI1 ?ccI1 ?kI1 ?xa2 ?xi2 ?xt2 ?lI2 ?ccI2 ?kI2 ?xa3 ?xi3 ?xt3 ?lI3 ?ccI3 ?kI3 ?xa4 ?xi4 ?xt4 ?lI4 ?ccI4 ?kI4 ?xa5 ?xi5 ?xt5 ?lI5 ?ccI5 ?kI5 ?xa6 ?xi6 ?xt6 ?lI6 ?ccI6 ?kI6 ?xa7 ?xi7 ?xt7 ?lI7 ?ccI7 ?kI7 ?xa8 ?xi8 ?xt8 ?lI8 ?ccI8 ?kI8 ?xa9 ?xi9 ?xt9 ?lI9 ?ccI9 ?kI9 ?xa10 ?xi10 ?xt10 ?lI10 ?ccI10 ?kI10 ?xa11 ?xi11 ?xt11 ?lI11 ?ccI11 ?kI11 ?xa12 ?xi12 ?xt12 ?lI12 ?ccI12 ?kI12 ?xa13 ?xi13 ?xt13 ?lI13 ?ccI13 ?kI13 ?xa14 ?xi14 ?xt14 ?lI14 ?ccI14 ?kI14 ?xa15 ?xi15 ?xt15 ?lI15 ?ccI15 ?kI15 ?xa16 ?xi16 ?xt16 ?lI16 ?ccI16 ?kI16 ?xa17 ?xi17 ?xt17 ?lI17 ?ccI17 ?kI17 ?xa18 ?xi18 ?xt18 ?lI18 ?ccI18 ?kI18 ?e1 ?e2 ?e3 ?e4 ?z_len ?z_max ?z_min ?z_int ?z_str ?z_bool ?z_list ?z_tuple ?z_dict ?z_type ?z_isinstance ?z_all ?z_any ?z_range ?z_zip ?z_repr ?z_set ?z_ValueError ?z_LookupError ?z_RuntimeError ?z_OverflowError ?z_TypeError
    (case a0 => k_is); (case l0 => k_is); (case cc0 => k_is); (case k0 => k_is); (case a1 => k_is); (case l1 => k_is); (case cc1 => k_is); (case k1 => k_is); (case a2 => k_is); (case l2 => k_is); (case cc2 => k_is); (case k2 => k_is); (case a3 => k_is); (case l3 => k_is); (case cc3 => k_is); (case k3 => k_is); (case a4 => k_is); (case l4 => k_is); (case cc4 => k_is); (case k4 => k_is); (case a5 => k_is); (case l5 => k_is); (case cc5 => k_is); (case k5 => k_is); (case a6 => k_is); (case l6 => k_is); (case cc6 => k_is); (case k6 => k_is); (case aE => k_is); (case xa0 => k_is); (case xi0 => k_is); (case xt0 => k_is); (case lI0 => k_is); (case ccI0 => k_is); (case kI0 => k_is); (case xa1 => k_is); (case xi1 => k_is); (case xt1 => k_is); (case lI1 => k_is); (case ccI1 => k_is); (case kI1 => k_is); (case xa2 => k_is); (case xi2 => k_is); (case xt2 => k_is); (case lI2 => k_is); (case ccI2 => k_is); (case kI2 => k_is); (case xa3 => k_is); (case xi3 => k_is); (case xt3 => k_is); (case lI3 => k_is); (case ccI3 => k_is); (case kI3 => k_is); (case xa4 => k_is); (case xi4 => k_is); (case xt4 => k_is); (case lI4 => k_is); (case ccI4 => k_is); (case kI4 => k_is); (case xa5 => k_is); (case xi5 => k_is); (case xt5 => k_is); (case lI5 => k_is); (case ccI5 => k_is); (case kI5 => k_is); (case xa6 => k_is); (case xi6 => k_is); (case xt6 => k_is); (case lI6 => k_is); (case ccI6 => k_is); (case kI6 => k_is); (case xa7 => k_is); (case xi7 => k_is); (case xt7 => k_is); (case lI7 => k_is); (case ccI7 => k_is); (case kI7 => k_is); (case xa8 => k_is); (case xi8 => k_is); (case xt8 => k_is); (case lI8 => k_is); (case ccI8 => k_is); (case kI8 => k_is); (case xa9 => k_is); (case xi9 => k_is); (case xt9 => k_is); (case lI9 => k_is); (case ccI9 => k_is); (case kI9 => k_is); (case xa10 => k_is); (case xi10 => k_is); (case xt10 => k_is); (case lI10 => k_is); (case ccI10 => k_is); (case kI10 => k_is); (case xa11 => k_is); (case xi11 => k_is); (case xt11 => k_is); (case lI11 => k_is); (case ccI11 => k_is); (case kI11 => k_is); (case xa12 => k_is); (case xi12 => k_is); (case xt12 => k_is); (case lI12 => k_is); (case ccI12 => k_is); (case kI12 => k_is); (case xa13 => k_is); (case xi13 => k_is); (case xt13 => k_is); (case lI13 => k_is); (case ccI13 => k_is); (case kI13 => k_is); (case xa14 => k_is); (case xi14 => k_is); (case xt14 => k_is); (case lI14 => k_is); (case ccI14 => k_is); (case kI14 => k_is); (case xa15 => k_is); (case xi15 => k_is); (case xt15 => k_is); (case lI15 => k_is); (case ccI15 => k_is); (case kI15 => k_is); (case xa16 => k_is); (case xi16 => k_is); (case xt16 => k_is); (case lI16 => k_is); (case ccI16 => k_is); (case kI16 => k_is); (case xa17 => k_is); (case xi17 => k_is); (case xt17 => k_is); (case lI17 => k_is); (case ccI17 => k_is); (case kI17 => k_is); (case xa18 => k_is); (case xi18 => k_is); (case xt18 => k_is); (case lI18 => k_is); (case ccI18 => k_is); (case kI18 => k_is); (case e1 => kernel_rfl); (case e2 => kernel_rfl); (case e3 => kernel_rfl); (case e4 => kernel_rfl); (case z_len => k_is); (case z_max => k_is); (case z_min => k_is); (case z_int => k_is); (case z_str => k_is); (case z_bool => k_is); (case z_list => k_is); (case z_tuple => k_is); (case z_dict => k_is); (case z_type => k_is); (case z_isinstance => k_is); (case z_all => k_is); (case z_any => k_is); (case z_range => k_is); (case z_zip => k_is); (case z_repr => k_is); (case z_set => k_is); (case z_ValueError => k_is); (case z_LookupError => k_is); (case z_RuntimeError => k_is); (case z_OverflowError => k_is); (case z_TypeError => k_is)

