import PyProof.Rows.All
import Wide.All
import OpenK.AllK
import Wide.FinOn
import HandS.ForMost
import HandS.IsInst
import HandS.StrMore
import HandS.Flow
import HandS.TupAny
import HandS.More
import HandS.Walk
import HandS.Zip
import PyProof.TypeEq
import PySem.Challenge.RW_lateclasses_k01_names_and_types
set_option Elab.async false
set_option linter.all false
set_option maxRecDepth 100000
set_option maxHeartbeats 4000000
namespace Kit
open PySem PySem.Spec PyProof.Rows L2

/-! ### calls -/
/-- a def of the top that is ready to be called -/
structure Cal (P : Program) (w : World) (K : PySem.W.Frag) (mg : Str → Option Value) (base : Heap) (k : Nat) (x : Str) (ps : List Str) (sp : Sp) : Prop where
  ex : ∃ (f : Addr) (fd : FuncData), FnOk P w K mg base CX0 k f fd ps sp ∧ mg x = some (.ref f) ∧ PySem.W.keepIn K (.ref f) = true ∧ Binds K fd ps []
section
variable {X : Cx} {x : Str} {e : Expr} {es : List Expr} {t : TA} {p pos : Pos} {k j : Nat} {ps : List Str} {sp : Sp}
theorem pcall (C : Cal X.prog X.w X.K X.mg X.base k x ps sp) (hr : Room j X.A) (hk : k ≤ j) (hg : Gl X x) (ha : PA X (e :: es) t) (hdb : (x == ("__debug__" : Str)) = false := by decide)
    (he : starEach (e :: es) X.env = (false, eval e X.env) :: starEach es X.env := by rfl) (hpl : (backTo pos (starEach es X.env)).any (·.1) = false := by rfl) :
    PE X (.Call (.Name x p) (e :: es) [] pos) (tCall sp [] E0 t) := by
  obtain ⟨f, fd, F, hm, hkp, hb⟩ := C.ex
  exact pe_call F (hr.mono hk) hg hm hkp hb .nil pass0 ha hdb he hpl
theorem pcall0 (C : Cal X.prog X.w X.K X.mg X.base k x ps sp) (hr : Room j X.A) (hk : k ≤ j) (hg : Gl X x) (hdb : (x == ("__debug__" : Str)) = false := by decide) :
    PE X (.Call (.Name x p) [] [] pos) (tCall sp [] E0 tNil) := by
  obtain ⟨f, fd, F, hm, hkp, hb⟩ := C.ex
  exact pe_call0 F (hr.mono hk) hg hm hkp hb .nil pass0 hdb
theorem callOr {f : Value} {r r' : List V → Hp → VK → Prop} (h : CallR X f r) (h' : CallR X f r') : CallR X f (fun xs H Q => r xs H Q ∨ r' xs H Q) := fun pins s σ H xs us Q I rv q =>
  q.elim (h pins s σ H xs us Q I rv) (h' pins s σ H xs us Q I rv)
/-- a name of the top that holds a plain value -/
def GlobV (mg : Str → Option Value) (x : Str) (v : V) : Prop := ∃ u, mg x = some u ∧ RelV v u
theorem pglob {v : V} (hg : Gl X x) (h : GlobV X.mg x v) (hdb : (x == ("__debug__" : Str)) = false := by decide) : PE X (.Name x pos) (tC v) := by
  obtain ⟨u, hm, r⟩ := h
  exact pe_glob hg hm r hdb
theorem pbty {n : String} (hg : Gl X x) (hm : X.mg x = none) (hv : bootBuiltins x = some (.type n)) (hn : x ≠ "__name__" := by decide) (hdb : (x == ("__debug__" : Str)) = false := by decide) : PE X (.Name x pos) (tC (.ty n)) :=
  pe_bltn hg hm hv rfl hn hdb

/-! ### == of types -/
def tyK (a : String) : Bool := ["int", "str", "bool", "NoneType", "float", "list", "tuple", "dict"].contains a
theorem tyT (s : Shared) {a : String} (h : tyK a = true) : s.TypeIs (.type a) "type" := by
  have e : a = "int" ∨ a = "str" ∨ a = "bool" ∨ a = "NoneType" ∨ a = "float" ∨ a = "list" ∨ a = "tuple" ∨ a = "dict" := by
    simpa [tyK] using h
  rcases e with rfl | rfl | rfl | rfl | rfl | rfl | rfl | rfl
  · exact TypeEq.meta_int s
  · exact TypeEq.meta_str s
  · exact TypeEq.meta_bool s
  · exact TypeEq.meta_NoneType s
  · exact TypeEq.meta_float s
  · exact TypeEq.meta_list s
  · exact TypeEq.meta_tuple s
  · exact TypeEq.meta_dict s
def rTyEq (neg : Bool) : R2 := fun x y H Q => ∃ a b, x = .ty a ∧ y = .ty b ∧ tyK a = true ∧ tyK b = true ∧ Q (.bl (if neg then !decide (a = b) else decide (a = b))) H
theorem op_eqTy : OpR X (compareOp .Eq) (rTyEq false) := by
  intro pins s σ H x y v u Q I rx ry h
  obtain ⟨a, b, rfl, rfl, ha, hb, q⟩ := h
  cases (show v = Value.type a from rx)
  cases (show u = Value.type b from ry)
  by_cases e : a = b
  · subst e
    refine TypeEq.eq_type_same (fun s' => tyT s' ha) ⟨.bl true, H, I, rfl, ?_⟩
    simpa using q
  · refine TypeEq.eq_type_other (fun s' => tyT s' ha) (fun s' => tyT s' hb) ?_ ⟨.bl false, H, I, rfl, ?_⟩
    · rw [ty_beq]; exact decide_eq_false e
    · simpa [e] using q
end
theorem slot_type_ne : Slot "type" (cmpInfo .NotEq).2.1 "object.__ne__" :=
  .of (owner := "object") (n := "__ne__") (by rw [typeLookup_type, builtinLookup_eq_fast]; kernel_rfl) (by decide +kernel) (by decide +kernel) (by decide +kernel)
    (by first | exact .inl (by decide +kernel) | exact .inr (by decide +kernel)) (by rw [isSubtype_type]; kernel_rfl)
theorem slot_type_ne_refl : Slot "type" (cmpInfo .NotEq).2.2 "object.__ne__" :=
  .of (owner := "object") (n := "__ne__") (by rw [typeLookup_type, builtinLookup_eq_fast]; kernel_rfl) (by decide +kernel) (by decide +kernel) (by decide +kernel)
    (by first | exact .inl (by decide +kernel) | exact .inr (by decide +kernel)) (by rw [isSubtype_type]; kernel_rfl)
theorem slot_ty_eq : Slot "type" "__eq__" "object.__eq__" := TypeEq.slot_type_eq
theorem slot_ty_ne : Slot "type" "__ne__" "object.__ne__" := slot_type_ne
section
variable {prog : Program} {w : World} {A : Around} {E : Value → Shared → Prop} {s : Shared}
theorem objNe_type_same {a : String} (ha : tyK a = true) {Q : Fin → Shared → Prop} (hq : Q (.done (.ret (.bool false))) s) : wpAny (model prog w) A (Builtin.«object.__ne__» ⟨[.type a, .type a], []⟩) Q E s := by
  unfold Builtin.«object.__ne__»
  repeat (first
    | with_reducible refine wpAny_cRoomFor_or (.inl rfl) ?_
    | (with_reducible refine wpAny_callSpecialIfBound?_slot (tyT s ha) slot_ty_eq (call_gives slot_ty_eq (tyT s ha) F.entry_object_eq (F.args_object_eq_2 _ _) (TypeEq.object_eq_same rfl (by simp)) ?_))
    | wp_step)
  show wpAny _ _ (do let x ← truthy (.bool true); ret (Value.bool !x)) _ _ _
  exact wpAny_bind (wpAny_truthy_bool (wpAny_pure hq))
theorem objNe_type_other {a b : String} (ha : tyK a = true) (hne : (Value.type a == Value.type b) = false) {Q : Fin → Shared → Prop} (hq : Q (.done (.ret .notImplemented)) s) : wpAny (model prog w) A (Builtin.«object.__ne__» ⟨[.type a, .type b], []⟩) Q E s := by
  unfold Builtin.«object.__ne__»
  repeat (first
    | with_reducible refine wpAny_cRoomFor_or (.inl rfl) ?_
    | (with_reducible refine wpAny_callSpecialIfBound?_slot (tyT s ha) slot_ty_eq (call_gives slot_ty_eq (tyT s ha) F.entry_object_eq (F.args_object_eq_2 _ _) (TypeEq.object_eq_other rfl hne) ?_))
    | wp_step)
  exact wpAny_pure hq
theorem rc_ne_decline {a b : Value} {T id : String} {k : Bool} {Q : Value → Shared → Prop} (ha : ∀ s' : Shared, s'.TypeIs a T) (hb : ∀ s' : Shared, s'.TypeIs b T)
    (h1 : Slot T (cmpInfo .NotEq).2.1 id) (h2 : Slot T (cmpInfo .NotEq).2.2 id) (hv : [a, b].any Value.onHeap = false) (hk : isSame a b = pure k) {M : Model}
    (hc : wpAny M A (call (.builtin id) [a, b]) (fun v s₁ => v = .notImplemented ∧ wpAny M A (call (.builtin id) [b, a]) (fun v s₂ => v = .notImplemented ∧ Q (.bool (!k)) s₂) E s₁) E s) :
    wpAny M A (richCompare .NotEq a b) Q E s := by
  rcases hi : cmpInfo CmpOp.NotEq with ⟨sym, f, r⟩
  rw [hi] at h1 h2
  simp only [richCompare, hi, (ha s).oneThing_none]
  try with_reducible refine wpAny_holding ?_
  refine wpAny_bind (wpAny_cRoomFor_or (.inl hv) ?_)
  refine wpAny_bind (wpAny_typeOf (ha s) (wpAny_bind (wpAny_typeOf (hb s) ?_)))
  simp only [bne_self_eq_false, Bool.false_eq_true, if_false, pure_bind, Bool.not_false, if_true]
  refine wpAny_bind (m := tryCompare a _ b) (wpAny_tryCompare_declines (ha s) h1 (wpAny_mono hc (fun v s₁ h₁ => ⟨h₁.1, ?_⟩) fun _ _ x => x))
  refine wpAny_bind (m := tryCompare b _ a) (wpAny_tryCompare_declines (hb s₁) h2 (wpAny_mono h₁.2 (fun v s₂ h₂ => ⟨h₂.1, ?_⟩) fun _ _ x => x))
  refine wpAny_bind (wpAny_rule (wpAny_bind (wpAny_of_eq hk (wpAny_pure h₂.2))))
theorem args_ne (a b : Value) : argsOk "object.__ne__" ⟨[a, b], []⟩ := by unfold argsOk; kernel_rfl
theorem ne_type_same {a : String} (ha : tyK a = true) {Q : Value → Shared → Prop} (h : Q (.bool false) s) : wpAny (model prog w) A (compareOp .NotEq (.type a) (.type a)) Q E s := by
  show wpAny _ A (richCompare .NotEq _ _) Q E s
  exact wpAny_richCompare_same (T := "type") (tyT s ha) (tyT s ha) slot_type_ne
    (wpAny_call_entry slot_type_ne (tyT s ha) F.cmpEntry_ne (objNe_type_same ha ⟨_, rfl, (by intro e; cases e), h⟩) (args_ne _ _))
theorem ne_type_other {a b : String} (ha : tyK a = true) (hb : tyK b = true) (hne : (Value.type a == Value.type b) = false) {Q : Value → Shared → Prop} (h : Q (.bool true) s) : wpAny (model prog w) A (compareOp .NotEq (.type a) (.type b)) Q E s := by
  have hne' : (Value.type b == Value.type a) = false := by
    rw [Bool.eq_false_iff] at hne ⊢
    intro e
    exact hne (by rw [beq_iff_eq] at e ⊢; exact e.symm)
  show wpAny _ A (richCompare .NotEq _ _) Q E s
  exact rc_ne_decline (T := "type") (k := false) (fun s' => tyT s' ha) (fun s' => tyT s' hb) slot_type_ne slot_type_ne_refl rfl (by rw [isSame_plain rfl, hne])
    (wpAny_call_entry slot_type_ne (tyT s ha) F.cmpEntry_ne (objNe_type_other ha hne ⟨_, rfl, rfl,
      wpAny_call_entry slot_type_ne_refl (tyT s hb) F.cmpEntry_ne (objNe_type_other hb hne' ⟨_, rfl, rfl, h⟩) (args_ne _ _)⟩) (args_ne _ _))
end
section
variable {X : Cx}
theorem op_neTy : OpR X (compareOp .NotEq) (rTyEq true) := by
  intro pins s σ H x y v u Q I rx ry h
  obtain ⟨a, b, rfl, rfl, ha, hb, q⟩ := h
  cases (show v = Value.type a from rx)
  cases (show u = Value.type b from ry)
  by_cases e : a = b
  · subst e
    refine ne_type_same ha ⟨.bl false, H, I, rfl, ?_⟩
    simpa using q
  · refine ne_type_other ha hb ?_ ⟨.bl true, H, I, rfl, ?_⟩
    · rw [ty_beq]; exact decide_eq_false e
    · simpa [e] using q

/-! ### operators whatever the kinds -/
theorem opAdd : OpR X (binaryOp .Add) (fun x y H Q => rI0 (fun i j => .int (i + j)) x y H Q ∨ (∃ i j, x = .str i ∧ y = .str j ∧ i.length + j.length ≤ sizeLine ∧ Q (.str (i ++ j)) H) ∨ rCat x y H Q ∨ rCatA X.K x y H Q) :=
  op_add.or (op_add_str.or (op_cat.or op_catA))
variable {j : Nat}
theorem opEq (hr : X.A.units + 64 < cLine) : OpR X (compareOp .Eq) (fun x y H Q => rEq x y H Q ∨ rTyEq false x y H Q ∨ rEqD X.K x y H Q) := op_eq.or (op_eqTy.or (op_eqD hr))
theorem opNe (hr : X.A.units + 64 < cLine) : OpR X (compareOp .NotEq) (fun x y H Q => rNe x y H Q ∨ rTyEq true x y H Q ∨ rNeD X.K x y H Q) := op_ne.or (op_neTy.or (op_neD hr))
theorem opLt : OpR X (compareOp .Lt) (fun x y H Q => rI0 (fun i j => .bl (decide (i < j))) x y H Q ∨ (∃ i j, x = .str i ∧ y = .str j ∧ Q (.bl (decide (i.cps.toList < j.cps.toList))) H)) := op_lt.or op_lt_str
theorem opLe : OpR X (compareOp .LtE) (fun x y H Q => rI0 (fun i j => .bl (decide (i ≤ j))) x y H Q ∨ (∃ i j, x = .str i ∧ y = .str j ∧ Q (.bl (!decide (j.cps.toList < i.cps.toList))) H)) := op_le.or op_le_str
theorem opGt : OpR X (compareOp .Gt) (fun x y H Q => rI0 (fun i j => .bl (decide (j < i))) x y H Q ∨ (∃ i j, x = .str i ∧ y = .str j ∧ Q (.bl (decide (j.cps.toList < i.cps.toList))) H)) := op_gt.or op_gt_str
theorem opGe : OpR X (compareOp .GtE) (fun x y H Q => rI0 (fun i j => .bl (decide (j ≤ i))) x y H Q ∨ (∃ i j, x = .str i ∧ y = .str j ∧ Q (.bl (!decide (i.cps.toList < j.cps.toList))) H)) := op_ge.or op_ge_str
theorem callMax (hc : X.calm = true := by rfl) : CallR X (.builtin "max") (fun xs H Q => ∃ i j, xs = [.int i, .int j] ∧ Q (.int (if j > i then j else i)) H) := call_max2 hc
theorem callMin (hc : X.calm = true := by rfl) : CallR X (.builtin "min") (fun xs H Q => ∃ i j, xs = [.int i, .int j] ∧ Q (.int (if j < i then j else i)) H) := call_min2 hc
theorem callAll (hc : X.calm = true := by rfl) : CallR X (.builtin "all") (rAll X.K) := cr_all hc
theorem callAny (hc : X.calm = true := by rfl) : CallR X (.builtin "any") (rAny X.K) := cr_any hc
theorem callIsi : CallR X (.builtin "isinstance") (rIsi X.K) := call_isi
theorem ixU : IxR X (rIx X.K) := ix_seq
theorem slU : SlR X (fun x lo hi H Q => rSlL X.K x lo hi H Q ∨ rSlS x lo hi H Q ∨ rSlA X.K x lo hi H Q) := sl_list.or (sl_str.or sl_tupA)
def rLenU (K : PySem.W.Frag) : List V → Hp → VK → Prop := fun xs H Q => (∃ p ys, xs = [.ref p] ∧ (SqL K H p ys ∨ SqT K H p ys) ∧ Q (.int ys.length) H) ∨ (∃ z, xs = [.str z] ∧ z.length ≤ sizeLine ∧ Q (.int z.length) H)
theorem callLen : CallR X (.builtin "len") (rLenU X.K) := callOr call_len_seq call_len_str
end
/-- built-in names that the top leaves alone -/
structure Bi (mg : Str → Option Value) : Prop where
  b_len : mg "len" = none
  b_max : mg "max" = none
  b_min : mg "min" = none
  b_int : mg "int" = none
  b_str : mg "str" = none
  b_bool : mg "bool" = none
  b_list : mg "list" = none
  b_tuple : mg "tuple" = none
  b_dict : mg "dict" = none
  b_type : mg "type" = none
  b_isinstance : mg "isinstance" = none
  b_all : mg "all" = none
  b_any : mg "any" = none
  b_range : mg "range" = none
  b_zip : mg "zip" = none
  b_repr : mg "repr" = none
  b_set : mg "set" = none
end Kit

namespace Kit
open PySem PySem.Spec PyProof.Rows L2
/-! ### the reading, head first -/
section
variable {σ : L2.St} {H H' : Hp} {Q : VK} {K : PySem.W.Frag} {D : Ends} {a b p q : Addr} {o o' : HO}
theorem v_var {i : Nat} {v : V} (h : σ[i]? = some (some v)) (k : Q v H) : tVar i σ H Q := ⟨v, h, k⟩
theorem v_c {v : V} (k : Q v H) : tC v σ H Q := k
theorem v_op {r : R2} {ta tb : TE} (k : ta σ H fun x H1 => tb σ H1 fun y H2 => r x y H2 Q) : tOp r ta tb σ H Q := k
theorem v_un {r : V → Hp → VK → Prop} {ta : TE} (k : ta σ H fun x H1 => r x H1 Q) : tUn r ta σ H Q := k
theorem v_I0 {g : Int → Int → V} {i j : Int} (k : Q (g i j) H) : rI0 g (.int i) (.int j) H Q := ⟨i, j, rfl, rfl, k⟩
theorem v_I {C : Int → Int → Prop} {g : Int → Int → V} {i j : Int} (c : C i j) (k : Q (g i j) H) : rI C g (.int i) (.int j) H Q := ⟨i, j, rfl, rfl, c, k⟩
theorem v_U {g : Int → V} {i : Int} (k : Q (g i) H) : rU g (.int i) H Q := ⟨i, rfl, k⟩
/-- + -/
def rAddU (K : PySem.W.Frag) : R2 := fun x y H Q => rI0 (fun i j => .int (i + j)) x y H Q ∨ (∃ i j, x = .str i ∧ y = .str j ∧ i.length + j.length ≤ sizeLine ∧ Q (.str (i ++ j)) H) ∨ rCat x y H Q ∨ rCatA K x y H Q
theorem opAddU {X : Cx} : OpR X (binaryOp .Add) (rAddU X.K) := opAdd
theorem v_addI {i j : Int} (k : Q (.int (i + j)) H) : rAddU K (.int i) (.int j) H Q := .inl ⟨i, j, rfl, rfl, k⟩
theorem v_addS {i j : Str} (c : i.length + j.length ≤ sizeLine) (k : Q (.str (i ++ j)) H) : rAddU K (.str i) (.str j) H Q := .inr (.inl ⟨i, j, rfl, rfl, c, k⟩)
theorem v_addL {xs ys : List V} (h : H a = some (.lst xs)) (h' : H b = some (.lst ys)) (c : xs.length + ys.length ≤ sizeLine) (k : ∀ p, H p = none → Q (.ref p) (upd H p (.lst (xs ++ ys)))) : rAddU K (.ref a) (.ref b) H Q :=
  .inr (.inr (.inl ⟨a, b, xs, ys, rfl, rfl, h, h', c, k⟩))
theorem v_addT {xs ys : List V} (h : SqT K H a xs) (h' : SqT K H b ys) (c : xs.length + ys.length ≤ sizeLine) (k0 : xs = [] → Q (.ref b) H) (k1 : xs ≠ [] → ys = [] → Q (.ref a) H)
    (k : xs ≠ [] → ys ≠ [] → ∀ p, H p = none → Q (.ref p) (upd H p (.tup (xs ++ ys)))) : rAddU K (.ref a) (.ref b) H Q := .inr (.inr (.inr ⟨a, b, xs, ys, rfl, rfl, h, h', c, k0, k1, k⟩))
/-- ==, != -/
def rEqU (K : PySem.W.Frag) : R2 := fun x y H Q => rEq x y H Q ∨ rTyEq false x y H Q ∨ rEqD K x y H Q
def rNeU (K : PySem.W.Frag) : R2 := fun x y H Q => rNe x y H Q ∨ rTyEq true x y H Q ∨ rNeD K x y H Q
theorem opEqU {X : Cx} (hr : X.A.units + 64 < cLine) : OpR X (compareOp .Eq) (rEqU X.K) := opEq hr
theorem opNeU {X : Cx} (hr : X.A.units + 64 < cLine) : OpR X (compareOp .NotEq) (rNeU X.K) := opNe hr
theorem v_eq {x y : V} (c : scal x y = true) (k : Q (.bl (decide (x = y))) H) : rEqU K x y H Q := .inl ⟨c, k⟩
theorem v_ne {x y : V} (c : scal x y = true) (k : Q (.bl (!decide (x = y))) H) : rNeU K x y H Q := .inl ⟨c, k⟩
theorem v_eqI {i j : Int} (k : Q (.bl (decide (i = j))) H) : rEqU K (.int i) (.int j) H Q := .inl ⟨rfl, by rw [show decide (V.int i = V.int j) = decide (i = j) by simp]; exact k⟩
theorem v_neI {i j : Int} (k : Q (.bl (!decide (i = j))) H) : rNeU K (.int i) (.int j) H Q := .inl ⟨rfl, by rw [show decide (V.int i = V.int j) = decide (i = j) by simp]; exact k⟩
theorem v_eqS {i j : Str} (k : Q (.bl (decide (i = j))) H) : rEqU K (.str i) (.str j) H Q := .inl ⟨rfl, by rw [show decide (V.str i = V.str j) = decide (i = j) by simp]; exact k⟩
theorem v_neS {i j : Str} (k : Q (.bl (!decide (i = j))) H) : rNeU K (.str i) (.str j) H Q := .inl ⟨rfl, by rw [show decide (V.str i = V.str j) = decide (i = j) by simp]; exact k⟩
theorem v_eqB {i j : Bool} (k : Q (.bl (decide (i = j))) H) : rEqU K (.bl i) (.bl j) H Q := .inl ⟨rfl, by rw [show decide (V.bl i = V.bl j) = decide (i = j) by simp]; exact k⟩
theorem v_eqTy {m n : String} (h : tyK m = true) (h' : tyK n = true) (k : Q (.bl (decide (m = n))) H) : rEqU K (.ty m) (.ty n) H Q := .inr (.inl ⟨m, n, rfl, rfl, h, h', k⟩)
theorem v_neTy {m n : String} (h : tyK m = true) (h' : tyK n = true) (k : Q (.bl (!decide (m = n))) H) : rNeU K (.ty m) (.ty n) H Q := .inr (.inl ⟨m, n, rfl, rfl, h, h', k⟩)
theorem v_eqD {x y : V} {d e : PyData} (h : Dp K H x d) (h' : Dp K H y e) (s : SeqAt.shaped d = true) (s' : SeqAt.shaped e = true) (k : Q (.bl (PyData.eqv d e)) H) : rEqU K x y H Q := .inr (.inr ⟨d, e, h, h', s, s', k⟩)
theorem v_neD {x y : V} {d e : PyData} (h : Dp K H x d) (h' : Dp K H y e) (s : SeqAt.shaped d = true) (s' : SeqAt.shaped e = true) (k : Q (.bl (!PyData.eqv d e)) H) : rNeU K x y H Q := .inr (.inr ⟨d, e, h, h', s, s', k⟩)
/-- <, <=, >, >= -/
def rLtU : R2 := fun x y H Q => rI0 (fun i j => .bl (decide (i < j))) x y H Q ∨ (∃ i j, x = .str i ∧ y = .str j ∧ Q (.bl (decide (i.cps.toList < j.cps.toList))) H)
def rLeU : R2 := fun x y H Q => rI0 (fun i j => .bl (decide (i ≤ j))) x y H Q ∨ (∃ i j, x = .str i ∧ y = .str j ∧ Q (.bl (!decide (j.cps.toList < i.cps.toList))) H)
def rGtU : R2 := fun x y H Q => rI0 (fun i j => .bl (decide (j < i))) x y H Q ∨ (∃ i j, x = .str i ∧ y = .str j ∧ Q (.bl (decide (j.cps.toList < i.cps.toList))) H)
def rGeU : R2 := fun x y H Q => rI0 (fun i j => .bl (decide (j ≤ i))) x y H Q ∨ (∃ i j, x = .str i ∧ y = .str j ∧ Q (.bl (!decide (i.cps.toList < j.cps.toList))) H)
theorem opLtU {X : Cx} : OpR X (compareOp .Lt) rLtU := opLt
theorem opLeU {X : Cx} : OpR X (compareOp .LtE) rLeU := opLe
theorem opGtU {X : Cx} : OpR X (compareOp .Gt) rGtU := opGt
theorem opGeU {X : Cx} : OpR X (compareOp .GtE) rGeU := opGe
theorem v_ltI {i j : Int} (k : Q (.bl (decide (i < j))) H) : rLtU (.int i) (.int j) H Q := .inl ⟨i, j, rfl, rfl, k⟩
theorem v_leI {i j : Int} (k : Q (.bl (decide (i ≤ j))) H) : rLeU (.int i) (.int j) H Q := .inl ⟨i, j, rfl, rfl, k⟩
theorem v_gtI {i j : Int} (k : Q (.bl (decide (j < i))) H) : rGtU (.int i) (.int j) H Q := .inl ⟨i, j, rfl, rfl, k⟩
theorem v_geI {i j : Int} (k : Q (.bl (decide (j ≤ i))) H) : rGeU (.int i) (.int j) H Q := .inl ⟨i, j, rfl, rfl, k⟩
theorem v_leS {i j : Str} (k : Q (.bl (!decide (j.cps.toList < i.cps.toList))) H) : rLeU (.str i) (.str j) H Q := .inr ⟨i, j, rfl, rfl, k⟩
theorem v_ltS {i j : Str} (k : Q (.bl (decide (i.cps.toList < j.cps.toList))) H) : rLtU (.str i) (.str j) H Q := .inr ⟨i, j, rfl, rfl, k⟩
/-- xs[i] -/
theorem v_ixL {xs : List V} {i : Int} {v : V} (h : SqL K H a xs) (e : atI xs i = some v) (k : Q v H) : rIx K (.ref a) (.int i) H Q := .inl ⟨a, xs, i, v, rfl, rfl, h, e, k⟩
theorem v_ixT {xs : List V} {i : Int} {v : V} (h : SqT K H a xs) (e : atI xs i = some v) (k : Q v H) : rIx K (.ref a) (.int i) H Q := .inr (.inl ⟨a, xs, i, v, rfl, rfl, h, e, k⟩)
theorem v_ixS {z : Str} {i : Int} {c : Nat} (hz : z.length ≤ sizeLine) (e : atI z.cps.toList i = some c) (k : Q (.str ⟨#[c]⟩) H) : rIx K (.str z) (.int i) H Q := .inr (.inr ⟨z, i, c, rfl, rfl, hz, e, k⟩)
/-- slices -/
def rSlU (K : PySem.W.Frag) : V → Option Int → Option Int → Hp → VK → Prop := fun x lo hi H Q => rSlL K x lo hi H Q ∨ rSlS x lo hi H Q ∨ rSlA K x lo hi H Q
theorem slUU {X : Cx} : SlR X (rSlU X.K) := slU
theorem v_sl {r : V → Option Int → Option Int → Hp → VK → Prop} {te : TE} {tl th : TO} (k : te σ H fun x H1 => tl σ H1 fun l H2 => th σ H2 fun u H3 => r x l u H3 Q) : L2.tSl r te tl th σ H Q := k
theorem v_nopart {Q : Option Int → Hp → Prop} (k : Q none H) : tNoPart σ H Q := k
theorem v_part {t : TE} {Q : Option Int → Hp → Prop} (k : t σ H fun x H1 => ∃ i, x = .int i ∧ Q (some i) H1) : tPart t σ H Q := k
theorem v_partI {i : Int} {R : Int → Prop} (k : R i) : ∃ j, V.int i = .int j ∧ R j := ⟨i, rfl, k⟩
theorem v_slS {z : Str} {lo hi : Option Int} (hz : z.length ≤ sizeLine) (k : Q (.str (cutS z lo hi)) H) : rSlU K (.str z) lo hi H Q := .inr (.inl ⟨z, rfl, hz, k⟩)
theorem v_slL {xs : List V} {lo hi : Option Int} (h : SqL K H a xs) (k : ∀ p, H p = none → Q (.ref p) (upd H p (.lst (cutV xs lo hi)))) : rSlU K (.ref a) lo hi H Q := .inl ⟨a, xs, rfl, h, k⟩
/-- tests -/
theorem v_test {t : TE} {Q : Bool → Hp → Prop} (k : t σ H fun x H' => ∃ k, x = .bl k ∧ Q k H') : tTest t σ H Q := k
theorem v_B {t : TE} {Q : Bool → Hp → Prop} (k : t σ H fun x H' => ∃ k, x = .bl k ∧ Q k H') : tB t σ H Q := k
theorem v_isbl {b : Bool} {P : Bool → Prop} (k : P b) : ∃ c, V.bl b = .bl c ∧ P c := ⟨b, rfl, k⟩
theorem v_and {t u : TT} {Q : Bool → Hp → Prop} (k : t σ H fun c H1 => if c = true then u σ H1 Q else Q false H1) : tAnd t u σ H Q := k
theorem v_or {t u : TT} {Q : Bool → Hp → Prop} (k : t σ H fun c H1 => if c = true then Q true H1 else u σ H1 Q) : tOr t u σ H Q := k
theorem v_not {t : TT} {Q : Bool → Hp → Prop} (k : t σ H fun c H1 => Q (!c) H1) : tNot t σ H Q := k
theorem v_andV {ta tb : TE} (k : ta σ H fun x H1 => ∃ c, x = .bl c ∧ if c = true then tb σ H1 Q else Q (.bl false) H1) : tAndV ta tb σ H Q := k
theorem v_orV {ta tb : TE} (k : ta σ H fun x H1 => ∃ c, x = .bl c ∧ if c = true then Q (.bl true) H1 else tb σ H1 Q) : tOrV ta tb σ H Q := k
theorem v_notV {ta : TE} (k : ta σ H fun x H1 => ∃ c, x = .bl c ∧ Q (.bl (!c)) H1) : tNotV ta σ H Q := k
theorem v_if {t : TT} {ta tb : TE} (k : t σ H fun c H1 => if c = true then ta σ H1 Q else tb σ H1 Q) : tIf t ta tb σ H Q := k
theorem v_chain {r r' : R2} {ta tb tc : TE} (k : ta σ H fun x H1 => tb σ H1 fun y H2 => r x y H2 fun z H3 => ∃ k, z = .bl k ∧ (if k = true then tc σ H3 fun w' H4 => r' y w' H4 Q else Q (.bl false) H3)) : tChain r r' ta tb tc σ H Q := k
/-- calls, displays -/
theorem v_nil {Q : List V → Hp → Prop} (k : Q [] H) : tNil σ H Q := k
theorem v_cons {ta : TE} {tr : TA} {Q : List V → Hp → Prop} (k : ta σ H fun x H1 => tr σ H1 fun xs H2 => Q (x :: xs) H2) : tCons ta tr σ H Q := k
theorem v_cb {r : List V → Hp → VK → Prop} {t : TA} (k : t σ H fun vs H1 => r vs H1 Q) : tCB r t σ H Q := k
theorem v_call {sp : Sp} {dvs : List V} {E : XK} {t : TA} (k : t σ H fun vs H1 => sp (vs ++ dvs) H1 Q E) : tCall sp dvs E t σ H Q := k
theorem v_tup {t : TA} (k : t σ H fun xs H1 => xs.length ≤ sizeLine ∧ ∀ p, H1 p = none → Q (.ref p) (upd H1 p (.tup xs))) : tTup t σ H Q := k
theorem v_lst {t : TA} (k : t σ H fun xs H1 => xs.length ≤ sizeLine ∧ ∀ p, H1 p = none → Q (.ref p) (upd H1 p (.lst xs))) : tLst t σ H Q := k
theorem v_lenL {xs : List V} (h : SqL K H a xs) (k : Q (.int xs.length) H) : rLenU K [.ref a] H Q := .inl ⟨a, xs, rfl, .inl h, k⟩
theorem v_lenT {xs : List V} (h : SqT K H a xs) (k : Q (.int xs.length) H) : rLenU K [.ref a] H Q := .inl ⟨a, xs, rfl, .inr h, k⟩
theorem v_lenS {z : Str} (h : z.length ≤ sizeLine) (k : Q (.int z.length) H) : rLenU K [.str z] H Q := .inr ⟨z, rfl, h, k⟩
def rMax : List V → Hp → VK → Prop := fun xs H Q => ∃ i j, xs = [.int i, .int j] ∧ Q (.int (if j > i then j else i)) H
def rMin : List V → Hp → VK → Prop := fun xs H Q => ∃ i j, xs = [.int i, .int j] ∧ Q (.int (if j < i then j else i)) H
def rInt1 : List V → Hp → VK → Prop := fun xs H Q => (∃ i, xs = [.int i] ∧ Q (.int i) H) ∨ ∃ k, xs = [.bl k] ∧ Q (.int (if k then 1 else 0)) H
theorem callMaxU {X : Cx} (hc : X.calm = true := by rfl) : CallR X (.builtin "max") rMax := callMax hc
theorem callMinU {X : Cx} (hc : X.calm = true := by rfl) : CallR X (.builtin "min") rMin := callMin hc
theorem callIntU {X : Cx} : CallR X (.type "int") rInt1 := call_int1
theorem v_max {i j : Int} (k : Q (.int (max i j)) H) : rMax [.int i, .int j] H Q := ⟨i, j, rfl, by
  rw [show (if j > i then j else i) = max i j by rw [Int.max_def]; split <;> split <;> omega]; exact k⟩
theorem v_min {i j : Int} (k : Q (.int (min i j)) H) : rMin [.int i, .int j] H Q := ⟨i, j, rfl, by
  rw [show (if j < i then j else i) = min i j by rw [Int.min_def]; split <;> split <;> omega]; exact k⟩
theorem v_intI {i : Int} (k : Q (.int i) H) : rInt1 [.int i] H Q := .inl ⟨i, rfl, k⟩
theorem v_intB {b : Bool} (k : Q (.int (if b then 1 else 0)) H) : rInt1 [.bl b] H Q := .inr ⟨b, rfl, k⟩
theorem v_typ {x : V} {T : String} (t : TyB K H x T) (k : Q (.ty T) H) : rTyp K [x] H Q := ⟨x, T, rfl, t, k⟩
/-- methods of texts -/
theorem v_m1 {r : V → List V → Hp → VK → Prop} {to te : TE} (k : to σ H fun x H1 => (∃ a, x = .str a) ∧ te σ H1 fun y H2 => r x [y] H2 Q) : tM1 r to te σ H Q := k
theorem v_isstr {z : Str} {P : Prop} (k : P) : (∃ a, V.str z = .str a) ∧ P := ⟨⟨z, rfl⟩, k⟩
/-- statements -/
theorem v_seq {t u : TS} (k : t { D with nx := u D } σ H) : tSeq t u D σ H := k
theorem v_next (k : D.nx σ H) : tNext D σ H := k
theorem v_asg {te : TE} {g : TG} (k : te σ H fun x H1 => g x σ H1 D.nx) : tAsg te g D σ H := k
theorem v_gname {i : Nat} {v : V} {Q : L2.St → Hp → Prop} (k : Q (σ.set i (some v)) H) : gName i v σ H Q := k
theorem v_gsub {to ti : TE} {t : TSet} {v : V} {Q : L2.St → Hp → Prop} (k : to σ H fun o H1 => ti σ H1 fun i H2 => t o i v H2 fun H3 => Q σ H3) : gSub to ti t v σ H Q := k
theorem v_setL {xs : List V} {k : Int} {j : Nat} {v : V} {Q : Hp → Prop} (h : H a = some (.lst xs)) (e : ixN xs.length k = some j) (q : Q (upd H a (.lst (xs.set j v)))) : rSetL (.ref a) (.int k) v H Q := ⟨a, xs, k, j, rfl, rfl, h, e, q⟩
theorem v_ifS {c : TT} {t u : TS} (k : c σ H fun b H1 => if b = true then t D σ H1 else u D σ H1) : tIfS c t u D σ H := k
theorem v_ret {te : TE} (k : te σ H D.rt) : tRet te D σ H := k
theorem v_drop {te : TE} (k : te σ H fun _ H1 => D.nx σ H1) : tDrop te D σ H := k
theorem v_iteD {p : Prop} [Decidable p] {A B : Prop} (h1 : p → A) (h2 : ¬ p → B) : if decide p = true then A else B := by
  by_cases h : p
  · rw [decide_eq_true h]; exact iteT (h1 h)
  · rw [decide_eq_false h]; exact iteF (h2 h)
theorem v_iteB {b : Bool} {A B : Prop} (h1 : b = true → A) (h2 : b = false → B) : if b = true then A else B := by
  cases b
  · exact iteF (h2 rfl)
  · exact iteT (h1 rfl)
/-! ### the heap -/
theorem sq_upd {xs : List V} (hn : H p = none) (h : SqL K H a xs) : SqL K (upd H p o) a xs := by
  refine Same.seq (fun b u e => ?_) h
  rw [upd_ne (ne_of_none e hn)]; exact e
theorem same_new (hn : H p = none) : Same H (upd H p o) := fun b u e => by rw [upd_ne (ne_of_none e hn)]; exact e
theorem same_mut (s : Same H H') (hn : H p = none) : Same H (upd H' p o) := fun b u e => by rw [upd_ne (ne_of_none e hn)]; exact s b u e
theorem at_ints {ns : List Int} {t : Int} (h0 : 0 ≤ t) (h : t < ns.length) : atI (ns.map V.int) t = some (.int (ns.getD t.toNat 0)) := by
  obtain ⟨n, rfl⟩ : ∃ n : Nat, t = n := ⟨t.toNat, by omega⟩
  refine atI_nat ?_
  have hn : n < ns.length := by omega
  simp [List.getElem?_map, hn]
/-! ### frames -/
theorem same_at {v : HO} (s : Same H H') (e : H a = some v) : H' a = some v := s _ _ e
/-- the law's source of draws stands at a -/
def Src (a : Addr) (H : Hp) : Prop := ∃ n s : Int, H a = some (.lst [.int n, .int s]) ∧ 0 ≤ n ∧ 0 ≤ s ∧ s < 2147483648
/-- all but the source is as it was -/
structure Dr (a : Addr) (H H' : Hp) : Prop where
  keep : ∀ b o, H b = some o → b ≠ a → H' b = some o
  src : Src a H'
theorem Dr.refl (h : Src a H) : Dr a H H := ⟨fun _ _ e _ => e, h⟩
theorem Dr.trans {H2 : Hp} (x : Dr a H H') (y : Dr a H' H2) : Dr a H H2 := ⟨fun b o e n => y.keep b o (x.keep b o e n) n, y.src⟩
theorem Src.same (h : Src a H) (s : Same H H') : Src a H' := by
  obtain ⟨n, m, e, r⟩ := h
  exact ⟨n, m, s _ _ e, r⟩
theorem Dr.same (h : Src a H) (s : Same H H') : Dr a H H' := ⟨fun b o e _ => s b o e, h.same s⟩
theorem dr_at {v : HO} (d : Dr a H H') (n : b ≠ a) (e : H b = some v) : H' b = some v := d.keep _ _ e n
theorem Src.upd (h : Src a H) (n : a ≠ p) : Src a (upd H p o) := by
  obtain ⟨m, s, e, r⟩ := h
  exact ⟨m, s, by rw [upd_ne n]; exact e, r⟩
theorem Src.ne (h : Src a H) (n : H p = none) : a ≠ p := by
  obtain ⟨m, s, e, _⟩ := h
  exact ne_of_none e n
theorem Dr.new (h : Src a H) (n : H p = none) : Dr a H (L2.upd H p o) := ⟨fun b u e _ => by rw [upd_ne (ne_of_none e n)]; exact e, h.upd (h.ne n)⟩
theorem Dr.mut {H0 : Hp} (d : Dr a H0 H) (h : Src a H0) (n : H0 p = none) : Dr a H0 (L2.upd H p o) :=
  ⟨fun b u e k => by rw [upd_ne (ne_of_none e n)]; exact d.keep b u e k, d.src.upd (h.ne n)⟩
theorem sq_dr {xs : List V} (d : Dr a H H') (n : b ≠ a) (h : SqL K H b xs) : SqL K H' b xs := by
  rcases h with (h | ⟨o, h⟩) | h
  · exact .inl (.inl (d.keep _ _ h n))
  · exact .inl (.inr ⟨o, d.keep _ _ h n⟩)
  · exact .inr h
theorem sq_lst {xs : List V} (h : H b = some (.lst xs)) : SqL K H b xs := .inl (.inl h)
/-! ### comprehensions -/
/-- what is left of a comprehension once its source is known: the new list is to stand at L -/
def LcT (J : It) (g : TG) (tt : TT) (te : TE) (vs : List Nat) (σ : L2.St) (H1 : Hp) (Qd : Addr → Hp → Prop) : Prop :=
  ∀ L, H1 L = none → ∃ W : Nat → Nat → Hp → Prop, (∃ m, W 0 m (upd H1 L (.lst []))) ∧ ∀ i m H, W i m H →
      (J.stop i H ∧ Qd L H) ∨ (J.go i H ∧ ∃ Nx : Hp → Prop, (∀ H', Nx H' → ∃ m', m' < m ∧ W (i + 1) m' H') ∧ ∀ x H', J.yld i H x H' → g x (wipe σ vs) H' fun σ2 H2 => wipe σ2 vs = wipe σ vs ∧ tt σ2 H2 fun b H3 =>
        if b = true then te σ2 H3 fun y H4 => ∃ acc, H4 L = some (.lst acc) ∧ acc.length < sizeLine ∧ Nx (upd H4 L (.lst (acc ++ [y]))) else Nx H3)
/-- what is left of a for once its source is known -/
def ForT (J : It) (g : TG) (tb : TS) (D : Ends) (σ : L2.St) (H : Hp) : Prop :=
  ∃ W : Nat → Nat → L2.St → Hp → Prop, (∃ m, W 0 m σ H) ∧ ∀ i m σ H, W i m σ H →
  (J.stop i H ∧ D.nx σ H) ∨ (J.go i H ∧ ∃ N : L2.St → Hp → Prop, (∀ σ' H', N σ' H' → ∃ m', m' < m ∧ W (i + 1) m' σ' H') ∧ ∀ x H', J.yld i H x H' → g x σ H' fun σ2 H2 => tb { D with nx := N, ct := N, bk := D.nx } σ2 H2)
theorem lc_f {J : It} {G : Hp → Prop} {Y : Nat → Hp → V → Hp → Prop} {xs : List V} {g : TG} {tt : TT} {te : TE} {vs : List Nat} {H1 : Hp} {Qd : Addr → Hp → Prop} (w : Walk J xs.length G Y) (hy : ∀ i H x H', i < xs.length → Y i H x H' → H' = H ∧ xs[i]? = some x)
    (hG : ∀ H', Same H1 H' → G H') (f : V → Option V) (hl : xs.length < sizeLine)
    (turn : ∀ (x : V) (H2 : Hp) (R : V → Hp → Prop) (Rn : Hp → Prop), x ∈ xs → Same H1 H2 → (∀ y H5, Same H2 H5 → f x = some y → R y H5) → (∀ H5, Same H2 H5 → f x = none → Rn H5) →
      g x (wipe σ vs) H2 fun σ2 H3 => wipe σ2 vs = wipe σ vs ∧ tt σ2 H3 fun b H4 => if b = true then te σ2 H4 R else Rn H4)
    (fin : ∀ D H', H1 D = none → Same H1 H' → H' D = some (.lst (xs.filterMap f)) → Qd D H') :
    LcT J g tt te vs σ H1 Qd := by
  intro D hD
  refine lc_it w (fun i H => Same H1 H ∧ H D = some (.lst ((xs.take i).filterMap f))) ⟨same_new hD, upd_same⟩ (fun i H _ p => hG H p.1) ?_ (fun H p => fin D H hD p.1 (by have := p.2; rwa [List.take_length] at this))
  rintro i x H H' hi ⟨sm, hd⟩ y
  obtain ⟨rfl, hx⟩ := hy i H x H' hi y
  have ht : xs.take (i + 1) = xs.take i ++ [x] := by rw [List.take_add_one, hx]; rfl
  refine turn x H' _ _ (List.mem_of_getElem? hx) sm (fun y H5 s5 e => ⟨_, s5 _ _ hd, ?_, same_mut (sm.trans s5) hD, ?_⟩) (fun H5 s5 e => ⟨sm.trans s5, ?_⟩)
  · refine Nat.lt_of_le_of_lt (Nat.le_trans (List.length_filterMap_le _ _) ?_) hl
    rw [List.length_take]; exact Nat.min_le_right _ _
  · rw [upd_same, ht, List.filterMap_append]
    simp [e]
  · rw [s5 _ _ hd, ht, List.filterMap_append]
    simp [e]
theorem lc_dr {J : It} {G : Hp → Prop} {Y : Nat → Hp → V → Hp → Prop} {xs : List V} {g : TG} {tt : TT} {te : TE} {vs : List Nat} {H1 : Hp} {Qd : Addr → Hp → Prop} (hs : Src a H1) (w : Walk J xs.length G Y) (hy : ∀ i H x H', i < xs.length → Y i H x H' → H' = H ∧ xs[i]? = some x)
    (hG : ∀ H', Dr a H1 H' → G H') (E : V → Prop) (hl : xs.length < sizeLine)
    (turn : ∀ (x : V) (H2 : Hp) (R : V → Hp → Prop) (Rn : Hp → Prop), x ∈ xs → Dr a H1 H2 → (∀ y H5, Dr a H2 H5 → E y → R y H5) →
      g x (wipe σ vs) H2 fun σ2 H3 => wipe σ2 vs = wipe σ vs ∧ tt σ2 H3 fun b H4 => if b = true then te σ2 H4 R else Rn H4)
    (fin : ∀ D H' ys, H1 D = none → Dr a H1 H' → H' D = some (.lst ys) → ys.length = xs.length → (∀ y ∈ ys, E y) → Qd D H') :
    LcT J g tt te vs σ H1 Qd := by
  intro D hD
  have nD : D ≠ a := (hs.ne hD).symm
  refine lc_it w (fun i H => Dr a H1 H ∧ ∃ ys, H D = some (.lst ys) ∧ ys.length = i ∧ ∀ y ∈ ys, E y) ⟨Dr.new hs hD, [], upd_same, rfl, fun _ z => by cases z⟩ (fun i H _ p => hG H p.1)
    ?_ (fun H p => by obtain ⟨d, ys, e, l, q⟩ := p; exact fin D H ys hD d e l q)
  rintro i x H H' hi ⟨sm, ys, hd, hlen, hE⟩ y
  obtain ⟨rfl, hx⟩ := hy i H x H' hi y
  refine turn x H' _ _ (List.mem_of_getElem? hx) sm (fun y H5 s5 e => ⟨_, s5.keep _ _ hd nD, by omega, (sm.trans s5).mut hs hD, ys ++ [y], upd_same, by simp [hlen], fun z hz => ?_⟩)
  rcases List.mem_append.mp hz with hz | hz
  · exact hE z hz
  · have ez : z = y := by simpa using hz
    rw [ez]; exact e
theorem hy_at {xs : List V} : ∀ i H x H', i < xs.length → YAt xs i H x H' → H' = H ∧ xs[i]? = some x := fun _ _ _ _ _ y => y
/-- the sgns of a text -/
def sgns (z : Str) : List V := z.cps.toList.map fun c => .str ⟨#[c]⟩
theorem sgns_len {z : Str} : (sgns z).length = z.length := by simp [sgns, Str.length]
theorem walk_sgns {z : Str} : Walk (Its z) (sgns z).length (fun _ => True) (YAt (sgns z)) := by
  rw [sgns_len]
  refine walk_str.mono (fun _ h => h) fun i H x H' hi _ y => ?_
  obtain ⟨e, c, hc, rfl⟩ := y
  refine ⟨e, ?_⟩
  unfold sgns
  rw [List.getElem?_map, Array.getElem?_toList, hc]; rfl
def upto (lo : Int) (n : Nat) : List V := (List.range n).map fun (i : Nat) => .int (lo + i)
theorem upto_len {lo : Int} {n : Nat} : (upto lo n).length = n := by simp [upto]
theorem walk_upto {lo : Int} {n : Nat} : Walk (Itr lo n) (upto lo n).length (fun _ => True) (YAt (upto lo n)) := by
  rw [upto_len]
  refine walk_range.mono (fun _ h => h) fun i H x H' hi _ y => ?_
  obtain ⟨e, rfl⟩ := y
  refine ⟨e, ?_⟩
  simp [upto, hi]
theorem v_lc {wi : TI} {g : TG} {tt : TT} {te : TE} {vs : List Nat} (k : wi σ H fun J H1 => LcT J g tt te vs σ H1 fun L H' => Q (.ref L) H') : tLc wi g tt te vs σ H Q := k
theorem v_iStr {te : TE} {R : It → Hp → Prop} (k : te σ H fun v H1 => ∃ x, v = .str x ∧ R (Its x) H1) : iStr te σ H R := k
theorem v_isS {z : Str} {R : Str → Prop} (k : R z) : ∃ x, V.str z = .str x ∧ R x := ⟨z, rfl, k⟩
theorem v_iRng1 {ta : TA} {R : It → Hp → Prop} (k : ta σ H fun vs H1 => ∃ j : Int, vs = [.int j] ∧ -(2 ^ 62) ≤ j ∧ j < 2 ^ 62 ∧ R (Itr 0 j.toNat) H1) : iRng1 ta σ H R := k
theorem v_rng1 {j : Int} {R : Int → Prop} (h1 : -(2 ^ 62) ≤ j ∧ j < 2 ^ 62) (k : R j) : ∃ i : Int, [V.int j] = [.int i] ∧ -(2 ^ 62) ≤ i ∧ i < 2 ^ 62 ∧ R i := ⟨j, rfl, h1.1, h1.2, k⟩
theorem v_iList {tl : TE} {R : It → Hp → Prop} (k : tl σ H fun x H1 => ∃ a, x = .ref a ∧ (∃ xs, SqL K H1 a xs) ∧ R (Itl K a) H1) : iList K tl σ H R := k
theorem v_isL {xs : List V} {R : Addr → Prop} (h : SqL K H a xs) (k : R a) : ∃ b, V.ref a = .ref b ∧ (∃ xs, SqL K H b xs) ∧ R b := ⟨a, rfl, ⟨_, h⟩, k⟩
theorem v_for {wi : TI} {g : TG} {tb : TS} (k : wi σ H fun J H1 => ForT J g tb D σ H1) : tFor wi g tb D σ H := k
theorem for_w {J : It} {n : Nat} {G : Hp → Prop} {Y : Nat → Hp → V → Hp → Prop} (w : Walk J n G Y) {g : TG} {tb : TS} (Pv : Nat → L2.St → Hp → Prop) (h0 : Pv 0 σ H) (hG : ∀ i σ H, i ≤ n → Pv i σ H → G H)
    (hs : ∀ i x σ H H', i < n → Pv i σ H → Y i H x H' → g x σ H' fun σ2 H2 => tb { D with nx := Pv (i + 1), ct := Pv (i + 1), bk := D.nx } σ2 H2) (hd : ∀ σ H, Pv n σ H → D.nx σ H) : ForT J g tb D σ H := for_it w Pv h0 hG hs hd
theorem v_yes {Q : Bool → Hp → Prop} (k : Q true H) : tYes σ H Q := k
theorem v_nand {A : Prop} {P : Prop} (h : A) (k : P) : A ∧ P := ⟨h, k⟩
theorem v_all {bs : List Bool} (h : SqL K H a (bs.map V.bl)) (k : Q (.bl (bs.all id)) H) : rAll K [.ref a] H Q := ⟨a, bs, rfl, h, k⟩
theorem v_any {bs : List Bool} (h : SqL K H a (bs.map V.bl)) (k : Q (.bl (bs.any id)) H) : rAny K [.ref a] H Q := ⟨a, bs, rfl, h, k⟩
theorem v_iteN {p : Prop} [Decidable p] {A B : Prop} (h1 : ¬ p → A) (h2 : p → B) : if (!decide p) = true then A else B := by
  by_cases h : p
  · rw [decide_eq_true h]; exact iteF (h2 h)
  · rw [decide_eq_false h]; exact iteT (h1 h)
theorem v_iteNot {b : Bool} {A B : Prop} (h : if b = true then B else A) : if (!b) = true then A else B := by
  cases b
  · exact iteT (by simpa using h)
  · exact iteF (by simpa using h)
theorem v_iteNF {A B : Prop} (h : A) : if (!false) = true then A else B := iteT h
theorem v_iteNT {A B : Prop} (h : B) : if (!true) = true then A else B := iteF h
/-! ### isinstance -/
theorem tyx {x : V} {T : String} (t : TyB K H x T) : TyX K H x (.type T) := by
  cases t with
  | non => exact .base .non
  | bl b => exact .base (.bl b)
  | int i => exact .base (.int i)
  | str z => exact .base (.str z)
  | byt b => exact .byt b
  | lst h =>
    rcases h with (h | ⟨o, h⟩) | ⟨o, its, n, h, c, _⟩
    · exact .base (.lst h)
    · exact .base (.frz h)
    · exact .kList h c
  | tup h =>
    rcases h with (h | ⟨o, h⟩) | ⟨o, its, n, h, c, _⟩
    · exact .base (.tup h)
    · exact .fTuple h
    · exact .kTuple h c
  | dK h => exact .base (.dK h)
theorem v_isi {x : V} {T n : String} {r : Bool} (t : TyB K H x T) (e : kitB T n = some r) (k : Q (.bl r) H) : rIsi K [x, .ty n] H Q := ⟨x, .ty n, .type T, .type n, r, rfl, .ty n, tyx t, kit_ty e, k⟩
def isB (a b : String) : Bool := a == b || (a == "bool" && b == "int")
theorem kb {a b : String} (ha : tyK a = true) (hb : tyK b = true) : kitB a b = some (isB a b) := by
  have ea : a = "int" ∨ a = "str" ∨ a = "bool" ∨ a = "NoneType" ∨ a = "float" ∨ a = "list" ∨ a = "tuple" ∨ a = "dict" := by simpa [tyK] using ha
  have eb : b = "int" ∨ b = "str" ∨ b = "bool" ∨ b = "NoneType" ∨ b = "float" ∨ b = "list" ∨ b = "tuple" ∨ b = "dict" := by simpa [tyK] using hb
  rcases ea with rfl | rfl | rfl | rfl | rfl | rfl | rfl | rfl <;> rcases eb with rfl | rfl | rfl | rfl | rfl | rfl | rfl | rfl <;> decide +kernel
theorem v_isiK {x : V} {T n : String} (t : TyB K H x T) (hT : tyK T = true) (hn : tyK n = true) (k : Q (.bl (isB T n)) H) : rIsi K [x, .ty n] H Q := v_isi t (kb hT hn) k
theorem v_iteTrue {b : Bool} {A B : Prop} (h : b = true) (k : A) : if b = true then A else B := by subst h; exact iteT k
theorem v_iteFalse {b : Bool} {A B : Prop} (h : b = false) (k : B) : if b = true then A else B := by subst h; exact iteF k
theorem v_ss {x y : Str} {P : Str → Str → Prop} (k : P x y) : ∃ a b, V.str x = .str a ∧ [V.str y] = [V.str b] ∧ P a b := ⟨x, y, rfl, rfl, k⟩
theorem v_s0 {x : Str} {P : Str → Prop} (k : P x) : ∃ a, V.str x = .str a ∧ ([] : List V) = [] ∧ P a := ⟨x, rfl, rfl, k⟩
/-- what _law_source gives: a new list of two ints -/
def spSource (K : PySem.W.Frag) : Sp := fun vs H Q _ => ∃ (a : Addr) (ns : List Int) (t : Int), vs = [.ref a, .int t] ∧ SqL K H a (ns.map V.int) ∧ ns.length ≤ 63 ∧ 0 ≤ t ∧ t ≤ 100 ∧
  ∀ p H', H p = none → Same H H' → Src p H' → Q (.ref p) H'
/-- what _law_draw gives: some int below the amount; the source's list holds two others -/
def spDraw : Sp := fun vs H Q _ => ∃ (a : Addr) (m : Int), vs = [.ref a, .int m] ∧ Src a H ∧ 0 < m ∧ m ≤ 1000000 ∧
  ∀ (d : Int) H', 0 ≤ d → d < m → Dr a H H' → Q (.int d) H'
end

section
variable {H H' : Hp} {a p : Addr} {Q : VK} {E : XK} {m : Int}
theorem Dr.free (hs : Src a H) (d : Dr a H H') (n : H' p = none) : H p = none := by
  cases e : H p with
  | none => rfl
  | some o =>
    by_cases h : p = a
    · obtain ⟨_, _, e2, _⟩ := d.src
      rw [h, e2] at n; cases n
    · rw [d.keep _ _ e h] at n; cases n
theorem v_draw (hs : Src a H) (hm : 0 < m ∧ m ≤ 1000000) (k : ∀ (d : Int) H', 0 ≤ d → d < m → Dr a H H' → Q (.int d) H') : spDraw ([.ref a, .int m] ++ []) H Q E := ⟨a, m, rfl, hs, hm.1, hm.2, k⟩
theorem at_str {l : List Nat} {i : Int} (h0 : 0 ≤ i) (h : i < l.length) : atI l i = some (l.getD i.toNat 0) := by
  obtain ⟨n, rfl⟩ : ∃ n : Nat, i = n := ⟨i.toNat, by omega⟩
  refine atI_nat ?_
  have hn : n < l.length := by omega
  simp [hn]
theorem at_list {xs : List V} {i : Int} (h0 : 0 ≤ i) (h : i < xs.length) : ∃ v, atI xs i = some v ∧ v ∈ xs := by
  obtain ⟨n, rfl⟩ : ∃ n : Nat, i = n := ⟨i.toNat, by omega⟩
  have hn : n < xs.length := by omega
  exact ⟨xs[n], atI_nat (by simp [hn]), List.getElem_mem hn⟩
end
theorem v_disp {trs : List (TE × TE)} {σ : L2.St} {H : Hp} {Q : VK} (k : ∀ p, H p = none → tPairs trs σ (upd H p (.dK [])) fun ps H2 => H2 p = some (.dK []) ∧ ∃ kvs : List (Key × V), ps = kvs.map (fun kv => (kV kv.1, kv.2)) ∧ kvs.length ≤ 15 ∧ Q (.ref p) (upd H2 p (.dK (mergeK [] kvs)))) : tDisp trs σ H Q := k
theorem upd_upd' {H : Hp} {p : Addr} {o o' : HO} : upd (upd H p o) p o' = upd H p o' := upd_upd
/-- {'k': v} -/
theorem v_disp1 {k : Str} {v : V} {σ : L2.St} {H : Hp} {Q : VK} (q : ∀ p, H p = none → Q (.ref p) (upd H p (.dK [(Sum.inr k, v)]))) : tDisp [(tC (.str k), tC v)] σ H Q := by
  intro p hp
  refine ⟨upd_same, [(Sum.inr k, v)], rfl, by simp, ?_⟩
  rw [upd_upd]
  exact q p hp
theorem eqvBB (a b : Bool) : PyData.eqv (.list [.bool a, .bool b]) (.list [.bool a, .bool b]) = true := by cases a <;> cases b <;> rfl
theorem v_neBB {K : PySem.W.Frag} {H : Hp} {Q : VK} {p q : Addr} {a b : Bool} (h : H p = some (.lst [.bl a, .bl b])) (h' : H q = some (.lst [.bl a, .bl b])) (k : Q (.bl false) H) : rNeU K (.ref p) (.ref q) H Q := by
  refine v_neD (d := .list [.bool a, .bool b]) (e := .list [.bool a, .bool b]) (.lst (sq_lst h) (.cons (.bl a) (.cons (.bl b) .nil))) (.lst (sq_lst h') (.cons (.bl a) (.cons (.bl b) .nil))) rfl rfl ?_
  rw [eqvBB]
  exact k
/-! ### texts glued -/
theorem app_cps (x y : Str) : (x ++ y).cps.toList = x.cps.toList ++ y.cps.toList := by
  show (x.cps ++ y.cps).toList = _
  rw [Array.toList_append]
theorem empty_cps : ("" : Str).cps.toList = [] := by decide +kernel
theorem join0_cps : ∀ ys : List Str, (Str.join "" ys).cps.toList = (ys.map fun y => y.cps.toList).flatten
  | [] => by simp [Str.join, Str.empty]
  | [x] => by simp [Str.join]
  | x :: y :: r => by
    show (x ++ "" ++ Str.join "" (y :: r)).cps.toList = _
    rw [app_cps, app_cps, join0_cps (y :: r), empty_cps]
    simp
theorem txt_join0 (ys : List Str) : (Txt.join "" ys).cps.toList = (ys.map fun y => y.cps.toList).flatten := by
  rw [show Txt.join "" ys = Str.join "" ys by unfold Txt.join; exact StrLaws.glued_eq_join _ _, join0_cps]
theorem len_cps (z : Str) : z.length = z.cps.toList.length := by simp [Str.length]
def chS (c : Nat) : Str := ⟨#[c]⟩
theorem chars_of {E : Nat → Prop} : ∀ {ys : List V}, (∀ y ∈ ys, ∃ c : Nat, y = .str ⟨#[c]⟩ ∧ E c) → ∃ cs : List Nat, ys = (cs.map chS).map V.str ∧ ∀ c ∈ cs, E c
  | [], _ => ⟨[], rfl, fun _ h => by cases h⟩
  | y :: ys, h => by
    obtain ⟨c, rfl, hc⟩ := h y List.mem_cons_self
    obtain ⟨cs, rfl, h2⟩ := chars_of (ys := ys) fun y hy => h y (List.mem_cons_of_mem _ hy)
    exact ⟨c :: cs, rfl, fun d hd => (List.mem_cons.mp hd).elim (fun z => z ▸ hc) (h2 d)⟩
theorem join_chars (cs : List Nat) : (Txt.join "" (cs.map chS)).cps.toList = cs := by
  rw [txt_join0, List.map_map]
  induction cs with
  | nil => rfl
  | cons c cs ih => rw [List.map_cons, List.flatten_cons, ih]; rfl
theorem sum_chars : ∀ cs : List Nat, ((cs.map chS).map (·.length)).sum = cs.length
  | [] => rfl
  | c :: cs => by rw [List.map_cons, List.map_cons, List.sum_cons, sum_chars cs, List.length_cons]; show 1 + _ = _; omega
/-! ### the rules with the written part named: a block's context bears bound names -/
section
variable {X : Cx} {K : PySem.W.Frag}
theorem kLen (hK : X.K = K) : CallR X (.builtin "len") (rLenU K) := by subst hK; exact callLen
theorem kAll (hK : X.K = K) (hc : X.calm = true := by rfl) : CallR X (.builtin "all") (rAll K) := by subst hK; exact callAll hc
theorem kAny (hK : X.K = K) (hc : X.calm = true := by rfl) : CallR X (.builtin "any") (rAny K) := by subst hK; exact callAny hc
theorem kIsi (hK : X.K = K) : CallR X (.builtin "isinstance") (rIsi K) := by subst hK; exact callIsi
theorem kType (hK : X.K = K) : CallR X (.type "type") (rTyp K) := by subst hK; exact call_type1
theorem kIx (hK : X.K = K) : IxR X (rIx K) := by subst hK; exact ixU
theorem kSl (hK : X.K = K) : SlR X (rSlU K) := by subst hK; exact slUU
theorem kAdd (hK : X.K = K) : OpR X (binaryOp .Add) (rAddU K) := by subst hK; exact opAddU
theorem kEq (hK : X.K = K) (hr : X.A.units + 64 < cLine) : OpR X (compareOp .Eq) (rEqU K) := by subst hK; exact opEqU hr
theorem kNe (hK : X.K = K) (hr : X.A.units + 64 < cLine) : OpR X (compareOp .NotEq) (rNeU K) := by subst hK; exact opNeU hr
theorem kList {tg e : Expr} {te : TE} (hK : X.K = K) (he : PE X e te) : PI X tg e (iList K te) := by subst hK; exact pi_list he
end
end Kit

namespace K01
open PySem PySem.Spec PyProof.Rows L2 Kit
local macro_rules | `(tactic| walk_at "ne") => `(tactic| first
  | assumption
  | (apply Ne.symm; assumption)
  | exact ne_of_none (by assumption) (by assumption)
  | exact (ne_of_none (by assumption) (by assumption)).symm
  | (refine ne_of_none (H := ?H0) (o := ?oo) ?hs ?hn; (case hn => assumption); (case hs => walk_at "hp"))
  | (refine (ne_of_none (H := ?H0) (o := ?oo) ?hs ?hn).symm; (case hn => assumption); (case hs => walk_at "hp"))
  | (refine Src.ne (H := ?H0) ?hs ?hn; (case hn => assumption); (case hs => walk_at "src"))
  | (refine (Src.ne (H := ?H0) ?hs ?hn).symm; (case hn => assumption); (case hs => walk_at "src"))
  | fail "no rule")
local macro_rules | `(tactic| walk_at "hp") => `(tactic| first
  | assumption
  | exact upd_same
  | (refine (upd_ne ?hne).trans ?hrest; (case hne => walk_at "ne"); (case hrest => walk_at "hp"))
  | (refine same_at (H := ?H0) ?hs ?hrest; (case hs => assumption); (case hrest => walk_at "hp"))
  | (refine dr_at (H := ?H0) (a := ?a0) ?hs ?hne ?hrest; (case hs => assumption); (case hne => walk_at "ne"); (case hrest => walk_at "hp"))
  | fail "no rule")
local macro_rules | `(tactic| walk_at "sq") => `(tactic| first
  | assumption
  | exact Or.inl (Or.inl (by walk_at "hp"))
  | (refine sq_upd ?hnn ?hss; (case hnn => assumption); (case hss => walk_at "sq"))
  | (refine Same.seq (H := ?H0) ?hs ?hrest; (case hs => assumption); (case hrest => walk_at "sq"))
  | (refine sq_dr (H := ?H0) (a := ?a0) ?hs ?hne ?hrest; (case hs => assumption); (case hne => walk_at "ne"); (case hrest => walk_at "sq"))
  | fail "no rule")
local macro_rules | `(tactic| walk_at "sm") => `(tactic| first
  | assumption
  | exact Same.refl _
  | (refine same_new ?hnn; (case hnn => assumption))
  | (refine same_mut ?hs ?hnn; (case hs => walk_at "sm"); (case hnn => walk_at "fr"))
  | (refine Same.trans (H1 := ?H1) ?hs ?hq; (case hq => assumption); (case hs => walk_at "sm"))
  | fail "no rule")
local macro_rules | `(tactic| walk_at "fr") => `(tactic| first
  | assumption
  | (refine Same.free (H' := ?H1) ?hs ?hq; (case hq => assumption); (case hs => walk_at "sm"))
  | fail "no rule")
local macro_rules | `(tactic| walk_at "src") => `(tactic| first
  | assumption
  | exact Dr.src (by assumption)
  | (refine Src.same (H := ?H0) ?hs ?hm; (case hm => assumption); (case hs => walk_at "src"))
  | (refine Src.upd ?hs ?hn; (case hs => walk_at "src"); (case hn => walk_at "ne"))
  | fail "no rule")
local macro_rules | `(tactic| walk_at "fd") => `(tactic| first
  | assumption
  | (refine Same.free (H' := ?H1) ?hs ?hq; (case hq => assumption); (case hs => walk_at "sm"))
  | (refine Dr.free (H' := ?H1) ?h0 ?hs ?hq; (case hq => assumption); (case hs => walk_at "dr"); (case h0 => walk_at "src"))
  | fail "no rule")
local macro_rules | `(tactic| walk_at "dr") => `(tactic| first
  | assumption
  | (refine Dr.trans (H' := ?H1) ?hs ?hq; (case hq => assumption); (case hs => walk_at "dr"))
  | (refine Dr.mut ?hs ?h0 ?hn; (case hs => walk_at "dr"); (case h0 => walk_at "src"); (case hn => walk_at "fd"))
  | (refine Dr.trans (H' := ?H1) ?hs (Dr.same ?h0 ?hq); (case hq => assumption); (case h0 => walk_at "src"); (case hs => walk_at "dr"))
  | (refine Dr.refl ?hs; (case hs => walk_at "src"))
  | fail "no rule")
local macro_rules | `(tactic| walk_at "sz") => `(tactic| first
  | omega
  | (refine Nat.le_trans ?_ (show (1000 : Nat) ≤ sizeLine by decide); first | decide | omega | (simp; done) | (simp; omega) | fail)
  | fail "no rule")
local macro_rules | `(tactic| walk_at "v1") => `(tactic| first
  | with_reducible refine v_seq ?_
  | with_reducible refine v_asg ?_
  | with_reducible refine v_gname ?_
  | with_reducible refine v_c ?_
  | ((with_reducible refine v_var (v := ?vv) ?hv ?_); (case hv => exact rfl))
  | with_reducible refine v_op ?_
  | with_reducible refine v_un ?_
  | with_reducible refine v_I0 ?_
  | with_reducible refine v_U ?_
  | with_reducible refine v_addI ?_
  | with_reducible refine v_ltI ?_
  | with_reducible refine v_leI ?_
  | with_reducible refine v_gtI ?_
  | with_reducible refine v_geI ?_
  | with_reducible refine v_leS ?_
  | with_reducible refine v_ltS ?_
  | with_reducible refine v_eqI ?_
  | with_reducible refine v_neI ?_
  | with_reducible refine v_eqS ?_
  | with_reducible refine v_neS ?_
  | with_reducible refine v_eqB ?_
  | ((with_reducible refine v_eqTy ?h1 ?h2 ?_); (case h1 => walk_at "bt"); (case h2 => walk_at "bt"))
  | ((with_reducible refine v_neTy ?h1 ?h2 ?_); (case h1 => walk_at "bt"); (case h2 => walk_at "bt"))
  | with_reducible refine v_test ?_
  | with_reducible refine v_B ?_
  | with_reducible refine v_isbl ?_
  | with_reducible refine v_and ?_
  | with_reducible refine v_or ?_
  | with_reducible refine v_not ?_
  | with_reducible refine v_andV ?_
  | with_reducible refine v_orV ?_
  | with_reducible refine v_notV ?_
  | with_reducible refine v_if ?_
  | with_reducible refine v_chain ?_
  | with_reducible refine v_nil ?_
  | with_reducible refine v_cons ?_
  | with_reducible refine v_cb ?_
  | with_reducible refine v_call ?_
  | with_reducible refine v_max ?_
  | ((with_reducible refine v_draw ?hs ?hm ?_); (case hs => walk_at "src"); (case hm => omega))
  | with_reducible refine v_min ?_
  | with_reducible refine v_intI ?_
  | with_reducible refine v_intB ?_
  | with_reducible refine v_m1 ?_
  | with_reducible refine v_isstr ?_
  | with_reducible refine v_sl ?_
  | with_reducible refine v_ss ?_
  | with_reducible refine v_disp1 ?_
  | with_reducible refine v_s0 ?_
  | with_reducible refine v_nopart ?_
  | with_reducible refine v_part ?_
  | with_reducible refine v_partI ?_
  | with_reducible refine v_next ?_
  | with_reducible refine v_gsub ?_
  | with_reducible refine v_ifS ?_
  | with_reducible refine v_ret ?_
  | with_reducible refine v_drop ?_
  | ((with_reducible refine v_iteTrue ?hb ?_); (case hb => walk_at "bt"))
  | ((with_reducible refine v_iteFalse ?hb ?_); (case hb => walk_at "bt"))
  | with_reducible refine v_iteD ?_ ?_
  | with_reducible refine v_iteNot ?_
  | with_reducible refine v_lc ?_
  | with_reducible refine v_iStr ?_
  | with_reducible refine v_isS ?_
  | with_reducible refine v_iRng1 ?_
  | ((with_reducible refine v_rng1 ?hb ?_); (case hb => omega))
  | with_reducible refine v_iList ?_
  | ((with_reducible refine v_isL (xs := ?xx) ?hsq ?_); (case hsq => walk_at "sq"))
  | with_reducible refine v_for ?_
  | with_reducible refine v_yes ?_
  | ((with_reducible refine v_nand ?hw ?_); (case hw => first | exact rfl | walk_at "sz" | fail))
  | ((with_reducible refine v_typ (T := ?TT) ?ht ?_); (case ht => walk_at "ty"))
  | ((with_reducible refine v_isiK (T := ?TT) ?ht ?h1 ?h2 ?_); (case ht => walk_at "ty"); (case h1 => walk_at "bt"); (case h2 => exact rfl))
  | with_reducible refine iteT ?_
  | with_reducible refine iteF ?_
  | with_reducible refine v_tup ?_
  | with_reducible refine v_lst ?_
  | ((with_reducible refine v_ixL (xs := ?xx) (v := ?vv) ?hsq ?hat ?_); (case hsq => walk_at "sq"); (case hat => exact rfl))
  | ((with_reducible refine v_lenL (xs := ?xx) ?hsq ?_); (case hsq => walk_at "sq"))
  | ((with_reducible refine v_setL (xs := ?xx) (j := ?jj) ?hh ?hj ?_); (case hh => walk_at "hp"); (case hj => exact rfl))
  | ((with_reducible refine v_I ?hc ?_); (case hc => walk_at "ic"))
  | ((with_reducible refine v_lenS ?hz ?_); (case hz => walk_at "sz"))
  | ((with_reducible refine v_slS ?hz ?_); (case hz => walk_at "sz"))
  | ((with_reducible refine v_addS ?hz ?_); (case hz => walk_at "sz"))
  | ((with_reducible refine v_ixS (c := ?cc) ?hz ?hat ?_); (case hz => walk_at "sz"); (case hat => exact rfl))
  | ((with_reducible refine v_addL (xs := ?xx) (ys := ?yy) ?h1 ?h2 ?hz ?_); (case h1 => walk_at "hp"); (case h2 => walk_at "hp"); (case hz => walk_at "sz"))
  | ((with_reducible refine v_ixT (xs := ?xx) (v := ?vv) ?hsq ?hat ?_); (case hsq => walk_at "sq"); (case hat => exact rfl))
  | ((with_reducible refine v_lenT (xs := ?xx) ?hsq ?_); (case hsq => walk_at "sq"))
  | (with_reducible intro _)
  | fail "no rule")
local macro_rules | `(tactic| walk_at "ic") => `(tactic| first
  | (show (0 : Int) < _; first | decide | omega | fail)
  | (show CMul _ _; unfold CMul; omega)
  | (show CDiv _ _; unfold CDiv; omega)
  | (show CPow _ _; unfold CPow; exact ⟨by decide, by decide, by decide⟩)
  | fail "no rule")
local macro_rules | `(tactic| walk_at "bt") => `(tactic| first
  | exact rfl
  | assumption
  | decide +kernel
  | (simp; done)
  | fail "no rule")
local macro_rules | `(tactic| walk_at "ty") => `(tactic| first
  | assumption
  | exact .non
  | exact .bl _
  | exact .int _
  | exact .str _
  | exact .lst (by walk_at "sq")
  | exact .tup (by walk_at "sq")
  | exact .dK (by walk_at "hp")
  | fail "no rule")
local macro_rules | `(tactic| walk_at "v") => `(tactic| try (walk_at "v1" <;> walk_at "v"))
local macro_rules | `(tactic| walk_at "start") => `(tactic| dsimp only [L2.start, cxOf, Cx.nox, Cx.wish, List.map, List.replicate, List.length, List.append, Nat.reduceSub, Nat.reduceAdd, List.cons_append, List.nil_append])

def topS (i : Nat) : Stmt := PySem.Challenge.pw_lateclasses_k01_names_and_types.main.body.getD i (.Pass ⟨0, 0, 0, 0⟩)
abbrev s_is_name : Stmt := topS 4
theorem sc_is_name : FnScope ["value", "letter"] ["value"] (defScope s_is_name) := ⟨rfl, rfl, rfl, by decide +kernel, rfl, by decide +kernel, by decide +kernel⟩
abbrev s_is_type : Stmt := topS 5
theorem sc_is_type : FnScope ["value"] ["value"] (defScope s_is_type) := ⟨rfl, rfl, rfl, by decide +kernel, rfl, by decide +kernel, by decide +kernel⟩
abbrev s_element_of : Stmt := topS 6
theorem sc_element_of : FnScope ["value"] ["value"] (defScope s_element_of) := ⟨rfl, rfl, rfl, by decide +kernel, rfl, by decide +kernel, by decide +kernel⟩
abbrev s_law_source : Stmt := topS 8
theorem sc_law_source : FnScope ["_law_script", "_law_turn", "_law_cell", "_law_number", "_law_seed"] ["_law_script", "_law_turn"] (defScope s_law_source) := ⟨rfl, rfl, rfl, by decide +kernel, rfl, by decide +kernel, by decide +kernel⟩
abbrev s_law_draw : Stmt := topS 9
theorem sc_law_draw : FnScope ["_law_source_here", "_law_amount", "_law_digit"] ["_law_source_here", "_law_amount"] (defScope s_law_draw) := ⟨rfl, rfl, rfl, by decide +kernel, rfl, by decide +kernel, by decide +kernel⟩
abbrev s_law_is_name : Stmt := topS 10
theorem sc_law_is_name : FnScope ["_law_thing", "_law_sign"] ["_law_thing"] (defScope s_law_is_name) := ⟨rfl, rfl, rfl, by decide +kernel, rfl, by decide +kernel, by decide +kernel⟩
abbrev s_law_text : Stmt := topS 11
theorem sc_law_text : FnScope ["_law_source_here", "_law_signs", "_law_part"] ["_law_source_here"] (defScope s_law_text) := ⟨rfl, rfl, rfl, by decide +kernel, rfl, by decide +kernel, by decide +kernel⟩
abbrev s_law : Stmt := topS 12
theorem sc_law : FnScope ["_law_script", "_law_odd", "_law_turn", "_law_source_here", "_law_texts", "_law_thing", "_law_is_array", "_law_due", "_law_part", "_law_text_here"] ["_law_script"] (defScope s_law) := ⟨rfl, rfl, rfl, by decide +kernel, rfl, by decide +kernel, by decide +kernel⟩
/-! ### the mathematics -/
def lowC (c : Nat) : Bool := decide (97 ≤ c) && decide (c ≤ 122)
def nameS (z : Str) : Bool := decide (1 ≤ z.length) && decide (z.length ≤ 8) && z.cps.toList.all lowC
def nameV : V → Bool
  | .str z => nameS z
  | _ => false
theorem lt1 (c d : Nat) : ([c] : List Nat) < [d] ↔ c < d := by simp [List.cons_lt_cons_iff]
theorem cps_a : ("a" : Str).cps.toList = [97] := by decide +kernel
theorem cps_z : ("z" : Str).cps.toList = [122] := by decide +kernel
variable {P : Program} {w : World} {K : PySem.W.Frag} {mg : Str → Option Value} {base : Heap}
structure Txt (mg : Str → Option Value) : Prop extends Bi mg where
  g_MOST_LETTERS : GlobV mg "MOST_LETTERS" (.int 8)
  g_ARRAY_SIGN : GlobV mg "ARRAY_SIGN" (.str "[]")

theorem ok_source {f : Addr} {fd : FuncData} (F : Fun K "_law_source" "_law_source" s_law_source f fd) (T : Bi mg) : FnOk P w K mg base CX0 1 f fd ["_law_script", "_law_turn"] (spSource K) := by
  refine F.ok sc_law_source (fun vs H Q E h => ?_) (fun cdv A outer s H vs Q E hr h => ?_)
  · obtain ⟨a, ns, t, rfl, _⟩ := h
    rfl
  · obtain ⟨a, ns, t, rfl, hS, hl, ht0, ht, q⟩ := h
    have fin : ∀ (n z : Int) (p : Addr), 0 ≤ n → 0 ≤ z → z < 2147483648 → H p = none → Q (.ref p) (upd H p (.lst [.int n, .int z])) := fun n z p h1 h2 h3 hp =>
      q p _ hp (same_new hp) ⟨n, z, upd_same, h1, h2, h3⟩
    refine ⟨_, (pss_cons (ps_set (i := 2) sc_law_source.nd rfl (by first | exact .inl rfl | exact .inr rfl) pe_int)
      (pss_cons (ps_if (pt_cmpR opLtU (pv 1) (pe_callB (kLen (K := K) rfl) (by rfl) T.b_len (by decide +kernel) (pa_cons (pv 0) pa_nil)) (nomark _)) (pss_one (ps_set (i := 2) sc_law_source.nd rfl (by first | exact .inl rfl | exact .inr rfl) (pe_ix (kIx (K := K) rfl) (pv 0) (pv 1) (fun _ _ => rfl)))) pss_nil)
      (pss_cons (ps_set (i := 3) sc_law_source.nd rfl (by first | exact .inl rfl | exact .inr rfl) (pe_callB callMaxU (by rfl) T.b_max (by decide +kernel) (pa_cons (pv 2) (pa_cons (pe_op op_sub (pe_un un_neg pe_int) (pv 2)) pa_nil))))
      (pss_cons (ps_set (i := 4) sc_law_source.nd rfl (by first | exact .inl rfl | exact .inr rfl) (pe_op op_mod (pe_callTy callIntU (by rfl) T.b_int (by decide +kernel) (pa_cons (pe_op (kAdd (K := K) rfl) (pe_op (kAdd (K := K) rfl) (pe_op op_mul (pe_op op_mod (pe_callTy callIntU (by rfl) T.b_int (by decide +kernel) (pa_cons (pv 3) pa_nil)) pe_int) pe_int) (pe_op op_mul pe_int (pv 1))) pe_int) pa_nil)) pe_int))
      (pss_cons (ps_if (pt_cmpR opLtU (pv 3) (pe_op op_pow pe_int pe_int) (nomark _)) (pss_one (ps_set (i := 3) sc_law_source.nd rfl (by first | exact .inl rfl | exact .inr rfl) pe_int)) pss_nil)
      (pss_one (ps_ret (pe_lst (pa_cons (pv 3) (pa_cons (pv 4) pa_nil)))))))))), ?_⟩
    walk_at "start"
    walk_at "v"
    · rename_i hlt
      refine v_ixL hS (at_ints ht0 (by rw [List.length_map] at hlt; exact hlt)) ?_
      walk_at "v"
      all_goals exact fin _ _ _ (by omega) (by omega) (by omega) (by assumption)
    all_goals exact fin _ _ _ (by omega) (by omega) (by omega) (by assumption)
theorem ok_draw {f : Addr} {fd : FuncData} (F : Fun K "_law_draw" "_law_draw" s_law_draw f fd) (T : Bi mg) : FnOk P w K mg base CX0 1 f fd ["_law_source_here", "_law_amount"] spDraw := by
  refine F.ok sc_law_draw (fun vs H Q E h => ?_) (fun cdv A outer s H vs Q E hr h => ?_)
  · obtain ⟨a, m, rfl, _⟩ := h
    rfl
  · obtain ⟨a, m, rfl, ⟨n, s, hS, hn, hs, hs2⟩, hm, hm2, q⟩ := h
    have fin : ∀ (d n z : Int), 0 ≤ d → d < m → 0 ≤ n → 0 ≤ z → z < 2147483648 → Q (.int d) (upd H a (.lst [.int n, .int z])) := fun d n z h1 h2 h3 h4 h5 =>
      q d _ h1 h2 ⟨fun b o e hb => by rw [upd_ne hb]; exact e, n, z, upd_same, h3, h4, h5⟩
    refine ⟨_, (pss_cons (ps_if (pt_cmpR opGtU (pe_ix (kIx (K := K) rfl) (pv 0) pe_int (fun _ _ => rfl)) pe_int (nomark _)) (pss_cons (ps_set (i := 2) sc_law_draw.nd rfl (by first | exact .inl rfl | exact .inr rfl) (pe_op op_mod (pe_callTy callIntU (by rfl) T.b_int (by decide +kernel) (pa_cons (pe_ix (kIx (K := K) rfl) (pv 0) pe_int (fun _ _ => rfl)) pa_nil)) (pv 1)))
      (pss_cons (ps_asg (pe_op op_fdiv (pe_ix (kIx (K := K) rfl) (pv 0) pe_int (fun _ _ => rfl)) (pv 1)) (pg_sub (pv 0) pe_int set_list))
      (pss_one (ps_ret (pv 2))))) pss_nil)
      (pss_cons (ps_asg (pe_op op_mod (pe_callTy callIntU (by rfl) T.b_int (by decide +kernel) (pa_cons (pe_op (kAdd (K := K) rfl) (pe_op op_mul (pe_ix (kIx (K := K) rfl) (pv 0) pe_int (fun _ _ => rfl)) pe_int) pe_int) pa_nil)) pe_int) (pg_sub (pv 0) pe_int set_list))
      (pss_one (ps_ret (pe_op op_mod (pe_callTy callIntU (by rfl) T.b_int (by decide +kernel) (pa_cons (pe_op op_fdiv (pe_op op_mod (pe_callTy callIntU (by rfl) T.b_int (by decide +kernel) (pa_cons (pe_op op_mul (pe_ix (kIx (K := K) rfl) (pv 0) pe_int (fun _ _ => rfl)) (pe_ix (kIx (K := K) rfl) (pv 0) pe_int (fun _ _ => rfl))) pa_nil)) pe_int) pe_int) pa_nil)) (pv 1)))))), ?_⟩
    walk_at "start"
    walk_at "v"
    · exact fin _ _ _ (Int.emod_nonneg _ (by omega)) (Int.emod_lt_of_pos _ hm) (Int.ediv_nonneg hn (by omega)) hs hs2
    · exact fin _ _ _ (Int.emod_nonneg _ (by omega)) (Int.emod_lt_of_pos _ hm) hn (by omega) (by omega)

/-! ### is_name -/
def KnownV (K : PySem.W.Frag) (H : Hp) (x : V) : Prop := ∃ T, TyB K H x T ∧ tyK T = true
def okS (z : Str) : Prop := z.length ≤ 1000 ∧ ∀ c ∈ z.cps.toList, c < 0x110000
def ShortV (x : V) : Prop := ∀ z, x = .str z → okS z
def spIsName (K : PySem.W.Frag) : Sp := fun vs H Q _ => ∃ x : V, vs = [x] ∧ KnownV K H x ∧ ShortV x ∧ ∀ H', Same H H' → Q (.bl (nameV x)) H'
theorem str_ty {K : PySem.W.Frag} {H : Hp} {x : V} {T : String} (t : TyB K H x T) : (T = "str" ∧ ∃ z, x = .str z) ∨ (T ≠ "str" ∧ nameV x = false) := by
  cases t with
  | str z => exact .inl ⟨rfl, z, rfl⟩
  | _ => exact .inr ⟨by decide, rfl⟩
theorem nameS_of {z : Str} (h : (1 : Int) ≤ z.length) (h' : (z.length : Int) ≤ 8) : nameS z = z.cps.toList.all lowC := by
  unfold nameS
  rw [decide_eq_true (by omega), decide_eq_true (by omega)]
  rfl
theorem nameS_no {z : Str} (h : ¬ ((1 : Int) ≤ z.length ∧ (z.length : Int) ≤ 8)) : nameS z = false := by
  unfold nameS
  by_cases h1 : 1 ≤ z.length
  · rw [decide_eq_false (show ¬ z.length ≤ 8 by omega)]
    simp
  · rw [decide_eq_false h1]
    rfl
def fLow : V → Option V
  | .str z => some (.bl (z.cps.toList.all lowC))
  | _ => none
theorem fLow_eq (c : Nat) : fLow (.str ⟨#[c]⟩) = some (.bl (lowC c)) := by simp [fLow]
theorem fLow_hi {c : Nat} (h : ¬ c < 97) : fLow (.str ⟨#[c]⟩) = some (.bl (!decide (([122] : List Nat) < [c]))) := by
  rw [fLow_eq]
  unfold lowC
  rw [decide_eq_true (show 97 ≤ c by omega), Bool.true_and]
  by_cases h2 : c ≤ 122
  · rw [decide_eq_true h2, decide_eq_false (by rw [lt1]; omega)]; rfl
  · rw [decide_eq_false h2, decide_eq_true (by rw [lt1]; omega)]; rfl
theorem fLow_lo {c : Nat} (h : c < 97) : fLow (.str ⟨#[c]⟩) = some (.bl false) := by
  rw [fLow_eq]
  unfold lowC
  rw [decide_eq_false (show ¬ 97 ≤ c by omega)]; rfl
theorem low_list (z : Str) : (sgns z).filterMap fLow = (z.cps.toList.map lowC).map V.bl := by
  unfold sgns
  generalize z.cps.toList = l
  induction l with
  | nil => rfl
  | cons c l ih =>
    rw [List.map_cons, List.filterMap_cons]
    simp only [fLow]
    rw [ih]
    simp
theorem all_low (z : Str) : (z.cps.toList.map lowC).all id = z.cps.toList.all lowC := by
  rw [List.all_map]; rfl
theorem ok_is_name {f : Addr} {fd : FuncData} (F : Fun K "is_name" "is_name" s_is_name f fd) (T : Txt mg) : FnOk P w K mg base CX0 1 f fd ["value"] (spIsName K) := by
  refine F.ok sc_is_name (fun vs H Q E h => ?_) (fun cdv A outer s H vs Q E hr h => ?_)
  · obtain ⟨x, rfl, _⟩ := h
    rfl
  · obtain ⟨x, rfl, ⟨ty, ht, hk⟩, hsh, q⟩ := h
    refine ⟨_, (pss_cons (ps_if (PW.pt (pw_or (pt_cmpR (kNe (K := K) rfl hr.units) (pe_callTy (kType (K := K) rfl) (by rfl) T.b_type (by decide +kernel) (pa_cons (pv 0) pa_nil)) (pbty (n := "str") (by rfl) T.b_str (by decide +kernel)) (nomark _)) (pw_or1 (pt_not (pt_chain opLeU opLeU pe_int (pe_callB (kLen (K := K) rfl) (by rfl) T.b_len (by decide +kernel) (pa_cons (pv 0) pa_nil)) (pglob (by rfl) T.g_MOST_LETTERS)))))) (pss_one (ps_ret pe_bl)) pss_nil)
      (pss_one (ps_ret (pe_callB (kAll (K := K) rfl) (by rfl) T.b_all (by decide +kernel) (pa_cons (pe_lc (own := [("letter", 1)]) (by rfl) sc_is_name.nd (pi_str (pv 0)) (blkOk_by (N := ["value", "letter"]) (sc := defScope s_is_name) (by decide +kernel)) (fun _ _ _ _ _ => (pg_name (i := 1) sc_is_name.nd rfl (by first | exact .inl rfl | exact .inr rfl))) (fun _ _ _ _ _ => pts_nil) (fun _ _ _ _ _ => (pe_chain opLeU opLeU pe_str (pv 1) pe_str))) pa_nil))))), ?_⟩
    walk_at "start"
    rcases str_ty ht with ⟨rfl, z, rfl⟩ | ⟨hne, hno⟩
    · have hz : z.length ≤ 1000 := (hsh z rfl).1
      walk_at "v"
      · have e0 : nameV (.str z) = z.cps.toList.all lowC := nameS_of (by assumption) (by assumption)
        rw [e0] at q
        refine lc_f walk_sgns hy_at (fun _ _ => trivial) fLow (by rw [sgns_len]; exact small1000 hz) (fun x H2 R Rn hx s2 hR hN => ?_) (fun D H' hD s' e => ?_)
        · obtain ⟨c, _, rfl⟩ := List.mem_map.mp hx
          walk_at "v"
          all_goals first
            | (rename_i h1; rw [cps_a] at h1; rw [cps_z]; exact hR _ _ (Same.refl _) (fLow_hi (by rw [← lt1]; exact h1)))
            | (rename_i h1; rw [cps_a] at h1; exact hR _ _ (Same.refl _) (fLow_lo (by rw [← lt1]; exact h1)))
        · walk_at "v"
          refine v_all (bs := z.cps.toList.map lowC) (sq_lst (by rw [e, low_list])) ?_
          rw [all_low]
          exact q H' s'
      all_goals
        have e0 : nameV (.str z) = false := nameS_no fun h => by omega
        rw [e0] at q
        exact q H (Same.refl H)
    · rw [hno] at q
      walk_at "v"
      all_goals first
        | exact q _ (Same.refl _)
        | exact absurd (by assumption) hne

end K01

namespace K01
open PySem PySem.Spec PyProof.Rows L2 Kit
local macro_rules | `(tactic| walk_at "ne") => `(tactic| first
  | assumption
  | (apply Ne.symm; assumption)
  | exact ne_of_none (by assumption) (by assumption)
  | exact (ne_of_none (by assumption) (by assumption)).symm
  | (refine ne_of_none (H := ?H0) (o := ?oo) ?hs ?hn; (case hn => assumption); (case hs => walk_at "hp"))
  | (refine (ne_of_none (H := ?H0) (o := ?oo) ?hs ?hn).symm; (case hn => assumption); (case hs => walk_at "hp"))
  | (refine Src.ne (H := ?H0) ?hs ?hn; (case hn => assumption); (case hs => walk_at "src"))
  | (refine (Src.ne (H := ?H0) ?hs ?hn).symm; (case hn => assumption); (case hs => walk_at "src"))
  | fail "no rule")
local macro_rules | `(tactic| walk_at "hp") => `(tactic| first
  | assumption
  | exact upd_same
  | (refine (upd_ne ?hne).trans ?hrest; (case hne => walk_at "ne"); (case hrest => walk_at "hp"))
  | (refine same_at (H := ?H0) ?hs ?hrest; (case hs => assumption); (case hrest => walk_at "hp"))
  | (refine dr_at (H := ?H0) (a := ?a0) ?hs ?hne ?hrest; (case hs => assumption); (case hne => walk_at "ne"); (case hrest => walk_at "hp"))
  | fail "no rule")
local macro_rules | `(tactic| walk_at "sq") => `(tactic| first
  | assumption
  | exact Or.inl (Or.inl (by walk_at "hp"))
  | (refine sq_upd ?hnn ?hss; (case hnn => assumption); (case hss => walk_at "sq"))
  | (refine Same.seq (H := ?H0) ?hs ?hrest; (case hs => assumption); (case hrest => walk_at "sq"))
  | (refine sq_dr (H := ?H0) (a := ?a0) ?hs ?hne ?hrest; (case hs => assumption); (case hne => walk_at "ne"); (case hrest => walk_at "sq"))
  | fail "no rule")
local macro_rules | `(tactic| walk_at "sm") => `(tactic| first
  | assumption
  | exact Same.refl _
  | (refine same_new ?hnn; (case hnn => assumption))
  | (refine same_mut ?hs ?hnn; (case hs => walk_at "sm"); (case hnn => walk_at "fr"))
  | (refine Same.trans (H1 := ?H1) ?hs ?hq; (case hq => assumption); (case hs => walk_at "sm"))
  | fail "no rule")
local macro_rules | `(tactic| walk_at "fr") => `(tactic| first
  | assumption
  | (refine Same.free (H' := ?H1) ?hs ?hq; (case hq => assumption); (case hs => walk_at "sm"))
  | fail "no rule")
local macro_rules | `(tactic| walk_at "src") => `(tactic| first
  | assumption
  | exact Dr.src (by assumption)
  | (refine Src.same (H := ?H0) ?hs ?hm; (case hm => assumption); (case hs => walk_at "src"))
  | (refine Src.upd ?hs ?hn; (case hs => walk_at "src"); (case hn => walk_at "ne"))
  | fail "no rule")
local macro_rules | `(tactic| walk_at "fd") => `(tactic| first
  | assumption
  | (refine Same.free (H' := ?H1) ?hs ?hq; (case hq => assumption); (case hs => walk_at "sm"))
  | (refine Dr.free (H' := ?H1) ?h0 ?hs ?hq; (case hq => assumption); (case hs => walk_at "dr"); (case h0 => walk_at "src"))
  | fail "no rule")
local macro_rules | `(tactic| walk_at "dr") => `(tactic| first
  | assumption
  | (refine Dr.trans (H' := ?H1) ?hs ?hq; (case hq => assumption); (case hs => walk_at "dr"))
  | (refine Dr.mut ?hs ?h0 ?hn; (case hs => walk_at "dr"); (case h0 => walk_at "src"); (case hn => walk_at "fd"))
  | (refine Dr.trans (H' := ?H1) ?hs (Dr.same ?h0 ?hq); (case hq => assumption); (case h0 => walk_at "src"); (case hs => walk_at "dr"))
  | (refine Dr.refl ?hs; (case hs => walk_at "src"))
  | fail "no rule")
local macro_rules | `(tactic| walk_at "sz") => `(tactic| first
  | omega
  | (refine Nat.le_trans ?_ (show (1000 : Nat) ≤ sizeLine by decide); first | decide | omega | (simp; done) | (simp; omega) | fail)
  | fail "no rule")
local macro_rules | `(tactic| walk_at "v1") => `(tactic| first
  | with_reducible refine v_seq ?_
  | with_reducible refine v_asg ?_
  | with_reducible refine v_gname ?_
  | with_reducible refine v_c ?_
  | ((with_reducible refine v_var (v := ?vv) ?hv ?_); (case hv => exact rfl))
  | with_reducible refine v_op ?_
  | with_reducible refine v_un ?_
  | with_reducible refine v_I0 ?_
  | with_reducible refine v_U ?_
  | with_reducible refine v_addI ?_
  | with_reducible refine v_ltI ?_
  | with_reducible refine v_leI ?_
  | with_reducible refine v_gtI ?_
  | with_reducible refine v_geI ?_
  | with_reducible refine v_leS ?_
  | with_reducible refine v_ltS ?_
  | with_reducible refine v_eqI ?_
  | with_reducible refine v_neI ?_
  | with_reducible refine v_eqS ?_
  | with_reducible refine v_neS ?_
  | with_reducible refine v_eqB ?_
  | ((with_reducible refine v_eqTy ?h1 ?h2 ?_); (case h1 => walk_at "bt"); (case h2 => walk_at "bt"))
  | ((with_reducible refine v_neTy ?h1 ?h2 ?_); (case h1 => walk_at "bt"); (case h2 => walk_at "bt"))
  | with_reducible refine v_test ?_
  | with_reducible refine v_B ?_
  | with_reducible refine v_isbl ?_
  | with_reducible refine v_and ?_
  | with_reducible refine v_or ?_
  | with_reducible refine v_not ?_
  | with_reducible refine v_andV ?_
  | with_reducible refine v_orV ?_
  | with_reducible refine v_notV ?_
  | with_reducible refine v_if ?_
  | with_reducible refine v_chain ?_
  | with_reducible refine v_nil ?_
  | with_reducible refine v_cons ?_
  | with_reducible refine v_cb ?_
  | with_reducible refine v_call ?_
  | with_reducible refine v_max ?_
  | ((with_reducible refine v_draw ?hs ?hm ?_); (case hs => walk_at "src"); (case hm => omega))
  | with_reducible refine v_min ?_
  | with_reducible refine v_intI ?_
  | with_reducible refine v_intB ?_
  | with_reducible refine v_m1 ?_
  | with_reducible refine v_isstr ?_
  | with_reducible refine v_sl ?_
  | with_reducible refine v_ss ?_
  | with_reducible refine v_disp1 ?_
  | with_reducible refine v_s0 ?_
  | with_reducible refine v_nopart ?_
  | with_reducible refine v_part ?_
  | with_reducible refine v_partI ?_
  | with_reducible refine v_next ?_
  | with_reducible refine v_gsub ?_
  | with_reducible refine v_ifS ?_
  | with_reducible refine v_ret ?_
  | with_reducible refine v_drop ?_
  | ((with_reducible refine v_iteTrue ?hb ?_); (case hb => walk_at "bt"))
  | ((with_reducible refine v_iteFalse ?hb ?_); (case hb => walk_at "bt"))
  | with_reducible refine v_iteD ?_ ?_
  | with_reducible refine v_iteNot ?_
  | with_reducible refine v_lc ?_
  | with_reducible refine v_iStr ?_
  | with_reducible refine v_isS ?_
  | with_reducible refine v_iRng1 ?_
  | ((with_reducible refine v_rng1 ?hb ?_); (case hb => omega))
  | with_reducible refine v_iList ?_
  | ((with_reducible refine v_isL (xs := ?xx) ?hsq ?_); (case hsq => walk_at "sq"))
  | with_reducible refine v_for ?_
  | with_reducible refine v_yes ?_
  | ((with_reducible refine v_nand ?hw ?_); (case hw => first | exact rfl | walk_at "sz" | fail))
  | ((with_reducible refine v_typ (T := ?TT) ?ht ?_); (case ht => walk_at "ty"))
  | ((with_reducible refine v_isiK (T := ?TT) ?ht ?h1 ?h2 ?_); (case ht => walk_at "ty"); (case h1 => walk_at "bt"); (case h2 => exact rfl))
  | with_reducible refine iteT ?_
  | with_reducible refine iteF ?_
  | with_reducible refine v_tup ?_
  | with_reducible refine v_lst ?_
  | ((with_reducible refine v_ixL (xs := ?xx) (v := ?vv) ?hsq ?hat ?_); (case hsq => walk_at "sq"); (case hat => exact rfl))
  | ((with_reducible refine v_lenL (xs := ?xx) ?hsq ?_); (case hsq => walk_at "sq"))
  | ((with_reducible refine v_setL (xs := ?xx) (j := ?jj) ?hh ?hj ?_); (case hh => walk_at "hp"); (case hj => exact rfl))
  | ((with_reducible refine v_I ?hc ?_); (case hc => walk_at "ic"))
  | ((with_reducible refine v_lenS ?hz ?_); (case hz => walk_at "sz"))
  | ((with_reducible refine v_slS ?hz ?_); (case hz => walk_at "sz"))
  | ((with_reducible refine v_addS ?hz ?_); (case hz => walk_at "sz"))
  | ((with_reducible refine v_ixS (c := ?cc) ?hz ?hat ?_); (case hz => walk_at "sz"); (case hat => exact rfl))
  | ((with_reducible refine v_addL (xs := ?xx) (ys := ?yy) ?h1 ?h2 ?hz ?_); (case h1 => walk_at "hp"); (case h2 => walk_at "hp"); (case hz => walk_at "sz"))
  | ((with_reducible refine v_ixT (xs := ?xx) (v := ?vv) ?hsq ?hat ?_); (case hsq => walk_at "sq"); (case hat => exact rfl))
  | ((with_reducible refine v_lenT (xs := ?xx) ?hsq ?_); (case hsq => walk_at "sq"))
  | (with_reducible intro _)
  | fail "no rule")
local macro_rules | `(tactic| walk_at "ic") => `(tactic| first
  | (show (0 : Int) < _; first | decide | omega | fail)
  | (show CMul _ _; unfold CMul; omega)
  | (show CDiv _ _; unfold CDiv; omega)
  | (show CPow _ _; unfold CPow; exact ⟨by decide, by decide, by decide⟩)
  | fail "no rule")
local macro_rules | `(tactic| walk_at "bt") => `(tactic| first
  | exact rfl
  | assumption
  | decide +kernel
  | (simp; done)
  | fail "no rule")
local macro_rules | `(tactic| walk_at "ty") => `(tactic| first
  | assumption
  | exact .non
  | exact .bl _
  | exact .int _
  | exact .str _
  | exact .lst (by walk_at "sq")
  | exact .tup (by walk_at "sq")
  | exact .dK (by walk_at "hp")
  | fail "no rule")
local macro_rules | `(tactic| walk_at "v") => `(tactic| try (walk_at "v1" <;> walk_at "v"))
local macro_rules | `(tactic| walk_at "start") => `(tactic| dsimp only [L2.start, cxOf, Cx.nox, Cx.wish, List.map, List.replicate, List.length, List.append, Nat.reduceSub, Nat.reduceAdd, List.cons_append, List.nil_append])

variable {P : Program} {w : World} {K : PySem.W.Frag} {mg : Str → Option Value} {base : Heap}
/-! ### texts that end with [] -/
def arrS : Str := "[]"
def ends (z : Str) : Bool := Txt.endswith z arrS
theorem arr_len : arrS.length = 2 := by decide +kernel
theorem str_ext {x y : Str} (h : x.cps.toList = y.cps.toList) : x = y := by
  cases x; cases y
  simp at h
  rw [h]
theorem sub_iff (z : Str) (h : 2 ≤ z.length) : Builtin.Str.subAt z arrS (z.length - 2) = decide (z.cps.toList.drop (z.length - 2) = arrS.cps.toList) := by
  unfold Builtin.Str.subAt
  rw [arr_len, show z.length - 2 + 2 = z.length by omega]
  rw [Bool.eq_iff_iff, beq_iff_eq, decide_eq_true_iff]
  rw [← Array.toList_inj, Array.toList_extract]
  have e : List.take (z.length - (z.length - 2)) (List.drop (z.length - 2) z.cps.toList) = List.drop (z.length - 2) z.cps.toList := by
    refine List.take_of_length_le ?_
    rw [List.length_drop, Array.length_toList]; exact Nat.le_refl _
  rw [show z.cps.toList.extract (z.length - 2) z.length = List.take (z.length - (z.length - 2)) (List.drop (z.length - 2) z.cps.toList) from rfl, e]
theorem ends_eq (z : Str) : ends z = (decide (2 ≤ z.length) && decide (z.cps.toList.drop (z.length - 2) = arrS.cps.toList)) := by
  unfold ends Txt.endswith
  rw [arr_len, Nat.zero_add]
  by_cases h : 2 ≤ z.length
  · rw [sub_iff z h]
  · rw [decide_eq_false h]; rfl
theorem sIx_m2 (n d : Nat) : HT.sIx n d (some (-2)) = n - 2 := by
  show (if (-2 : Int) < 0 then ((-2 : Int) + (n : Int)).toNat else min (-2 : Int).toNat n) = _
  rw [if_pos (by decide)]; omega
theorem back_cps (z : Str) : (cutS z (some (-2)) none).cps.toList = z.cps.toList.drop (z.length - 2) := by
  unfold cutS
  rw [sIx_m2, HT.sIx_none]
  show (z.cps.toList.drop (z.length - 2)).take (z.length - (z.length - 2)) = _
  refine List.take_of_length_le ?_
  rw [List.length_drop, Array.length_toList]; exact Nat.le_refl _
theorem front_cps (z : Str) : (cutS z none (some (-2))).cps.toList = z.cps.toList.take (z.length - 2) := by
  unfold cutS
  rw [sIx_m2, HT.sIx_none]; rfl
theorem back_iff (z : Str) : (cutS z (some (-2)) none = arrS) ↔ ends z = true := by
  rw [ends_eq, Bool.and_eq_true, decide_eq_true_iff, decide_eq_true_iff]
  constructor
  · intro h
    have h1 := congrArg (fun x : Str => x.cps.toList) h
    simp only [back_cps] at h1
    refine ⟨?_, h1⟩
    have h2 := congrArg List.length h1
    rw [List.length_drop, Array.length_toList] at h2
    have h3 : arrS.cps.toList.length = 2 := by decide +kernel
    rw [h3] at h2
    show 2 ≤ z.cps.size
    have h4 : z.cps.size - (z.length - 2) = 2 := h2
    have h5 : z.length = z.cps.size := rfl
    omega
  · rintro ⟨_, h⟩
    refine str_ext ?_
    rw [back_cps, h]
theorem cut_ends {z : Str} (h : ends z = true) : Txt.removesuffix z arrS = cutS z none (some (-2)) := by
  rw [StrLaws.removesuffix_eq]
  have h2 : (decide (0 + arrS.length ≤ z.length) && Builtin.Str.subAt z arrS (z.length - arrS.length)) = true := h
  rw [if_pos h2]
  refine str_ext ?_
  rw [front_cps, arr_len]
  simp
theorem cut_not {z : Str} (h : ends z = false) : Txt.removesuffix z arrS = z := by
  rw [StrLaws.removesuffix_eq]
  have h2 : (decide (0 + arrS.length ≤ z.length) && Builtin.Str.subAt z arrS (z.length - arrS.length)) = false := h
  rw [if_neg (by rw [h2]; decide)]
theorem front_len (z : Str) : (cutS z none (some (-2))).length ≤ z.length := by
  show (cutS z none (some (-2))).cps.size ≤ z.cps.size
  rw [← Array.length_toList, ← Array.length_toList, front_cps, List.length_take]
  exact Nat.min_le_right _ _
theorem front_ok {z : Str} (h : okS z) : okS (cutS z none (some (-2))) := by
  refine ⟨Nat.le_trans (front_len z) h.1, fun c hc => h.2 c ?_⟩
  rw [front_cps] at hc
  exact List.mem_of_mem_take hc
theorem cut_ok {z : Str} (h : okS z) : okS (Txt.removesuffix z arrS) := by
  cases e : ends z with
  | true => rw [cut_ends e]; exact front_ok h
  | false => rw [cut_not e]; exact h
theorem cut_len (z : Str) : (Txt.removesuffix z arrS).length ≤ z.length := by
  cases h : ends z with
  | true => rw [cut_ends h]; exact front_len z
  | false => rw [cut_not h]; exact Nat.le_refl _
/-! ### is_type, element_of -/
def typeV : V → Bool
  | .str z => nameS (Txt.removesuffix z arrS)
  | _ => false
def spIsType (K : PySem.W.Frag) : Sp := fun vs H Q _ => ∃ x : V, vs = [x] ∧ KnownV K H x ∧ ShortV x ∧ ∀ H', Same H H' → Q (.bl (typeV x)) H'
theorem typeV_no {x : V} (h : ∀ z, x ≠ .str z) : typeV x = false := by
  cases x <;> first | rfl | exact absurd rfl (h _)
theorem ty_cases {x : V} {H : Hp} {T : String} (t : TyB K H x T) : (T = "str" ∧ ∃ z, x = .str z) ∨ (T ≠ "str" ∧ ∀ z, x ≠ .str z) := by
  cases t with
  | str z => exact .inl ⟨rfl, z, rfl⟩
  | _ => exact .inr ⟨by decide, fun z e => by cases e⟩
theorem v_rmsuffix {x y : Str} {H : Hp} {Q : VK} (h : x.length ≤ sizeLine) (k : Q (.str (Txt.removesuffix x y)) H) : (fun (x : V) (xs : List V) (H : Hp) (Q : VK) => ∃ a b, x = .str a ∧ xs = [.str b] ∧ a.length ≤ sizeLine ∧ Q (.str (Txt.removesuffix a b)) H) (.str x) [.str y] H Q :=
  ⟨x, y, rfl, rfl, h, k⟩
theorem v_endswith {x y : Str} {H : Hp} {Q : VK} (k : Q (.bl (Txt.endswith x y)) H) : (fun (x : V) (xs : List V) (H : Hp) (Q : VK) => ∃ a b, x = .str a ∧ xs = [.str b] ∧ Q (.bl (Txt.endswith a b)) H) (.str x) [.str y] H Q :=
  ⟨x, y, rfl, rfl, k⟩
theorem ok_is_type {f : Addr} {fd : FuncData} (F : Fun K "is_type" "is_type" s_is_type f fd) (T : Txt mg) (C_is_name : Cal P w K mg base 1 "is_name" ["value"] (spIsName K)) : FnOk P w K mg base CX0 2 f fd ["value"] (spIsType K) := by
  refine F.ok sc_is_type (fun vs H Q E h => ?_) (fun cdv A outer s H vs Q E hr h => ?_)
  · obtain ⟨x, rfl, _⟩ := h
    rfl
  · obtain ⟨x, rfl, ⟨ty, ht, hk⟩, hsh, q⟩ := h
    refine ⟨_, (pss_one (ps_ret (pe_and (pe_cmpR (kEq (K := K) rfl hr.units) (pe_callTy (kType (K := K) rfl) (by rfl) T.b_type (by decide +kernel) (pa_cons (pv 0) pa_nil)) (pbty (n := "str") (by rfl) T.b_str (by decide +kernel)) (nomark _)) (pe_one (pcall C_is_name hr (by omega) (by rfl) (pa_cons (pe_m1 PySem.F.slot_str_removesuffix PySem.F.type_str_removesuffix mt_removesuffix (pv 0) (pglob (by rfl) T.g_ARRAY_SIGN)) pa_nil)))))), ?_⟩
    walk_at "start"
    rcases ty_cases ht with ⟨rfl, z, rfl⟩ | ⟨hne, hno⟩
    · have hz : z.length ≤ 1000 := (hsh z rfl).1
      walk_at "v"
      refine ⟨_, rfl, ⟨_, .str _, rfl⟩, fun w hw => ?_, q⟩
      cases hw
      exact cut_ok (hsh z rfl)
    · rw [typeV_no hno] at q
      walk_at "v"
      all_goals first
        | exact q _ (Same.refl _)
        | exact absurd (by assumption) hne
def spElem : Sp := fun vs H Q _ => ∃ z : Str, vs = [.str z] ∧ z.length ≤ 1000 ∧ Q (if ends z then .str (cutS z none (some (-2))) else .non) H
theorem ok_element_of {f : Addr} {fd : FuncData} (F : Fun K "element_of" "element_of" s_element_of f fd) (T : Txt mg) : FnOk P w K mg base CX0 1 f fd ["value"] spElem := by
  refine F.ok sc_element_of (fun vs H Q E h => ?_) (fun cdv A outer s H vs Q E hr h => ?_)
  · obtain ⟨x, rfl, _⟩ := h
    rfl
  · obtain ⟨z, rfl, hz, q⟩ := h
    refine ⟨_, (pss_cons (ps_if (pt_val (pe_m1 PySem.F.slot_str_endswith PySem.F.type_str_endswith mt_endswith (pv 0) (pglob (by rfl) T.g_ARRAY_SIGN))) (pss_one (ps_ret (pe_m1 PySem.F.slot_str_removesuffix PySem.F.type_str_removesuffix mt_removesuffix (pv 0) (pglob (by rfl) T.g_ARRAY_SIGN)))) pss_nil)
      (pss_one (ps_ret pe_non))), ?_⟩
    walk_at "start"
    walk_at "v"
    refine v_iteB (fun h => ?_) (fun h => ?_)
    · walk_at "v"
      rw [if_pos (show ends z = true from h), ← cut_ends h] at q
      exact q
    · walk_at "v"
      rw [if_neg (by rw [show ends z = false from h]; decide)] at q
      exact q
end K01

namespace K01
open PySem PySem.Spec PyProof.Rows L2 Kit
local macro_rules | `(tactic| walk_at "ne") => `(tactic| first
  | assumption
  | (apply Ne.symm; assumption)
  | exact ne_of_none (by assumption) (by assumption)
  | exact (ne_of_none (by assumption) (by assumption)).symm
  | (refine ne_of_none (H := ?H0) (o := ?oo) ?hs ?hn; (case hn => assumption); (case hs => walk_at "hp"))
  | (refine (ne_of_none (H := ?H0) (o := ?oo) ?hs ?hn).symm; (case hn => assumption); (case hs => walk_at "hp"))
  | (refine Src.ne (H := ?H0) ?hs ?hn; (case hn => assumption); (case hs => walk_at "src"))
  | (refine (Src.ne (H := ?H0) ?hs ?hn).symm; (case hn => assumption); (case hs => walk_at "src"))
  | fail "no rule")
local macro_rules | `(tactic| walk_at "hp") => `(tactic| first
  | assumption
  | exact upd_same
  | (refine (upd_ne ?hne).trans ?hrest; (case hne => walk_at "ne"); (case hrest => walk_at "hp"))
  | (refine same_at (H := ?H0) ?hs ?hrest; (case hs => assumption); (case hrest => walk_at "hp"))
  | (refine dr_at (H := ?H0) (a := ?a0) ?hs ?hne ?hrest; (case hs => assumption); (case hne => walk_at "ne"); (case hrest => walk_at "hp"))
  | fail "no rule")
local macro_rules | `(tactic| walk_at "sq") => `(tactic| first
  | assumption
  | exact Or.inl (Or.inl (by walk_at "hp"))
  | (refine sq_upd ?hnn ?hss; (case hnn => assumption); (case hss => walk_at "sq"))
  | (refine Same.seq (H := ?H0) ?hs ?hrest; (case hs => assumption); (case hrest => walk_at "sq"))
  | (refine sq_dr (H := ?H0) (a := ?a0) ?hs ?hne ?hrest; (case hs => assumption); (case hne => walk_at "ne"); (case hrest => walk_at "sq"))
  | fail "no rule")
local macro_rules | `(tactic| walk_at "sm") => `(tactic| first
  | assumption
  | exact Same.refl _
  | (refine same_new ?hnn; (case hnn => assumption))
  | (refine same_mut ?hs ?hnn; (case hs => walk_at "sm"); (case hnn => walk_at "fr"))
  | (refine Same.trans (H1 := ?H1) ?hs ?hq; (case hq => assumption); (case hs => walk_at "sm"))
  | fail "no rule")
local macro_rules | `(tactic| walk_at "fr") => `(tactic| first
  | assumption
  | (refine Same.free (H' := ?H1) ?hs ?hq; (case hq => assumption); (case hs => walk_at "sm"))
  | fail "no rule")
local macro_rules | `(tactic| walk_at "src") => `(tactic| first
  | assumption
  | exact Dr.src (by assumption)
  | (refine Src.same (H := ?H0) ?hs ?hm; (case hm => assumption); (case hs => walk_at "src"))
  | (refine Src.upd ?hs ?hn; (case hs => walk_at "src"); (case hn => walk_at "ne"))
  | fail "no rule")
local macro_rules | `(tactic| walk_at "fd") => `(tactic| first
  | assumption
  | (refine Same.free (H' := ?H1) ?hs ?hq; (case hq => assumption); (case hs => walk_at "sm"))
  | (refine Dr.free (H' := ?H1) ?h0 ?hs ?hq; (case hq => assumption); (case hs => walk_at "dr"); (case h0 => walk_at "src"))
  | fail "no rule")
local macro_rules | `(tactic| walk_at "dr") => `(tactic| first
  | assumption
  | (refine Dr.trans (H' := ?H1) ?hs ?hq; (case hq => assumption); (case hs => walk_at "dr"))
  | (refine Dr.mut ?hs ?h0 ?hn; (case hs => walk_at "dr"); (case h0 => walk_at "src"); (case hn => walk_at "fd"))
  | (refine Dr.trans (H' := ?H1) ?hs (Dr.same ?h0 ?hq); (case hq => assumption); (case h0 => walk_at "src"); (case hs => walk_at "dr"))
  | (refine Dr.refl ?hs; (case hs => walk_at "src"))
  | fail "no rule")
local macro_rules | `(tactic| walk_at "sz") => `(tactic| first
  | omega
  | (refine Nat.le_trans ?_ (show (1000 : Nat) ≤ sizeLine by decide); first | decide | omega | (simp; done) | (simp; omega) | fail)
  | fail "no rule")
local macro_rules | `(tactic| walk_at "v1") => `(tactic| first
  | with_reducible refine v_seq ?_
  | with_reducible refine v_asg ?_
  | with_reducible refine v_gname ?_
  | with_reducible refine v_c ?_
  | ((with_reducible refine v_var (v := ?vv) ?hv ?_); (case hv => exact rfl))
  | with_reducible refine v_op ?_
  | with_reducible refine v_un ?_
  | with_reducible refine v_I0 ?_
  | with_reducible refine v_U ?_
  | with_reducible refine v_addI ?_
  | with_reducible refine v_ltI ?_
  | with_reducible refine v_leI ?_
  | with_reducible refine v_gtI ?_
  | with_reducible refine v_geI ?_
  | with_reducible refine v_leS ?_
  | with_reducible refine v_ltS ?_
  | with_reducible refine v_eqI ?_
  | with_reducible refine v_neI ?_
  | with_reducible refine v_eqS ?_
  | with_reducible refine v_neS ?_
  | with_reducible refine v_eqB ?_
  | ((with_reducible refine v_eqTy ?h1 ?h2 ?_); (case h1 => walk_at "bt"); (case h2 => walk_at "bt"))
  | ((with_reducible refine v_neTy ?h1 ?h2 ?_); (case h1 => walk_at "bt"); (case h2 => walk_at "bt"))
  | with_reducible refine v_test ?_
  | with_reducible refine v_B ?_
  | with_reducible refine v_isbl ?_
  | with_reducible refine v_and ?_
  | with_reducible refine v_or ?_
  | with_reducible refine v_not ?_
  | with_reducible refine v_andV ?_
  | with_reducible refine v_orV ?_
  | with_reducible refine v_notV ?_
  | with_reducible refine v_if ?_
  | with_reducible refine v_chain ?_
  | with_reducible refine v_nil ?_
  | with_reducible refine v_cons ?_
  | with_reducible refine v_cb ?_
  | with_reducible refine v_call ?_
  | with_reducible refine v_max ?_
  | ((with_reducible refine v_draw ?hs ?hm ?_); (case hs => walk_at "src"); (case hm => omega))
  | with_reducible refine v_min ?_
  | with_reducible refine v_intI ?_
  | with_reducible refine v_intB ?_
  | with_reducible refine v_m1 ?_
  | with_reducible refine v_isstr ?_
  | with_reducible refine v_sl ?_
  | with_reducible refine v_ss ?_
  | with_reducible refine v_disp1 ?_
  | with_reducible refine v_s0 ?_
  | with_reducible refine v_nopart ?_
  | with_reducible refine v_part ?_
  | with_reducible refine v_partI ?_
  | with_reducible refine v_next ?_
  | with_reducible refine v_gsub ?_
  | with_reducible refine v_ifS ?_
  | with_reducible refine v_ret ?_
  | with_reducible refine v_drop ?_
  | ((with_reducible refine v_iteTrue ?hb ?_); (case hb => walk_at "bt"))
  | ((with_reducible refine v_iteFalse ?hb ?_); (case hb => walk_at "bt"))
  | with_reducible refine v_iteD ?_ ?_
  | with_reducible refine v_iteNot ?_
  | with_reducible refine v_lc ?_
  | with_reducible refine v_iStr ?_
  | with_reducible refine v_isS ?_
  | with_reducible refine v_iRng1 ?_
  | ((with_reducible refine v_rng1 ?hb ?_); (case hb => omega))
  | with_reducible refine v_iList ?_
  | ((with_reducible refine v_isL (xs := ?xx) ?hsq ?_); (case hsq => walk_at "sq"))
  | with_reducible refine v_for ?_
  | with_reducible refine v_yes ?_
  | ((with_reducible refine v_nand ?hw ?_); (case hw => first | exact rfl | walk_at "sz" | fail))
  | ((with_reducible refine v_typ (T := ?TT) ?ht ?_); (case ht => walk_at "ty"))
  | ((with_reducible refine v_isiK (T := ?TT) ?ht ?h1 ?h2 ?_); (case ht => walk_at "ty"); (case h1 => walk_at "bt"); (case h2 => exact rfl))
  | with_reducible refine iteT ?_
  | with_reducible refine iteF ?_
  | with_reducible refine v_tup ?_
  | with_reducible refine v_lst ?_
  | ((with_reducible refine v_ixL (xs := ?xx) (v := ?vv) ?hsq ?hat ?_); (case hsq => walk_at "sq"); (case hat => exact rfl))
  | ((with_reducible refine v_lenL (xs := ?xx) ?hsq ?_); (case hsq => walk_at "sq"))
  | ((with_reducible refine v_setL (xs := ?xx) (j := ?jj) ?hh ?hj ?_); (case hh => walk_at "hp"); (case hj => exact rfl))
  | ((with_reducible refine v_I ?hc ?_); (case hc => walk_at "ic"))
  | ((with_reducible refine v_lenS ?hz ?_); (case hz => walk_at "sz"))
  | ((with_reducible refine v_slS ?hz ?_); (case hz => walk_at "sz"))
  | ((with_reducible refine v_addS ?hz ?_); (case hz => walk_at "sz"))
  | ((with_reducible refine v_ixS (c := ?cc) ?hz ?hat ?_); (case hz => walk_at "sz"); (case hat => exact rfl))
  | ((with_reducible refine v_addL (xs := ?xx) (ys := ?yy) ?h1 ?h2 ?hz ?_); (case h1 => walk_at "hp"); (case h2 => walk_at "hp"); (case hz => walk_at "sz"))
  | ((with_reducible refine v_ixT (xs := ?xx) (v := ?vv) ?hsq ?hat ?_); (case hsq => walk_at "sq"); (case hat => exact rfl))
  | ((with_reducible refine v_lenT (xs := ?xx) ?hsq ?_); (case hsq => walk_at "sq"))
  | (with_reducible intro _)
  | fail "no rule")
local macro_rules | `(tactic| walk_at "ic") => `(tactic| first
  | (show (0 : Int) < _; first | decide | omega | fail)
  | (show CMul _ _; unfold CMul; omega)
  | (show CDiv _ _; unfold CDiv; omega)
  | (show CPow _ _; unfold CPow; exact ⟨by decide, by decide, by decide⟩)
  | fail "no rule")
local macro_rules | `(tactic| walk_at "bt") => `(tactic| first
  | exact rfl
  | assumption
  | decide +kernel
  | (simp; done)
  | fail "no rule")
local macro_rules | `(tactic| walk_at "ty") => `(tactic| first
  | assumption
  | exact .non
  | exact .bl _
  | exact .int _
  | exact .str _
  | exact .lst (by walk_at "sq")
  | exact .tup (by walk_at "sq")
  | exact .dK (by walk_at "hp")
  | fail "no rule")
local macro_rules | `(tactic| walk_at "v") => `(tactic| try (walk_at "v1" <;> walk_at "v"))
local macro_rules | `(tactic| walk_at "start") => `(tactic| dsimp only [L2.start, cxOf, Cx.nox, Cx.wish, List.map, List.replicate, List.length, List.append, Nat.reduceSub, Nat.reduceAdd, List.cons_append, List.nil_append])

variable {P : Program} {w : World} {K : PySem.W.Frag} {mg : Str → Option Value} {base : Heap}
/-! ### _law_is_name -/
def fBad : V → Option V
  | .str z => if z.cps.toList.all lowC then none else some (.str z)
  | _ => none
theorem bad_eq (c : Nat) : fBad (.str ⟨#[c]⟩) = if lowC c then none else some (.str ⟨#[c]⟩) := by simp [fBad]
theorem bad_hi {c : Nat} (h : ¬ c < 97) (h2 : 122 < c) : fBad (.str ⟨#[c]⟩) = some (.str ⟨#[c]⟩) := by
  rw [bad_eq, if_neg]
  unfold lowC
  rw [decide_eq_false (show ¬ c ≤ 122 by omega)]; simp
theorem bad_lo {c : Nat} (h : c < 97) : fBad (.str ⟨#[c]⟩) = some (.str ⟨#[c]⟩) := by
  rw [bad_eq, if_neg]
  unfold lowC
  rw [decide_eq_false (show ¬ 97 ≤ c by omega)]; simp
theorem bad_ok {c : Nat} (h : ¬ c < 97) (h2 : ¬ 122 < c) : fBad (.str ⟨#[c]⟩) = none := by
  rw [bad_eq, if_pos]
  unfold lowC
  rw [decide_eq_true (show 97 ≤ c by omega), decide_eq_true (show c ≤ 122 by omega)]; rfl
def badD (z : Str) : List PyData := (z.cps.toList.filter fun c => !lowC c).map fun c => .str ⟨#[c]⟩
theorem bad_list (z : Str) : (sgns z).filterMap fBad = (z.cps.toList.filter fun c => !lowC c).map fun c => V.str ⟨#[c]⟩ := by
  unfold sgns
  generalize z.cps.toList = l
  induction l with
  | nil => rfl
  | cons c l ih =>
    rw [List.map_cons, List.filterMap_cons, bad_eq]
    cases h : lowC c with
    | true => simp [h, ih]
    | false => simp [h, ih]
theorem dpAll_strs {H : Hp} : ∀ l : List Nat, DpAll K H (l.map fun c => V.str ⟨#[c]⟩) (l.map fun c => PyData.str ⟨#[c]⟩)
  | [] => .nil
  | c :: l => .cons (.str _) (dpAll_strs l)
theorem bad_empty (z : Str) : PyData.eqv (.list (badD z)) (.list []) = z.cps.toList.all lowC := by
  unfold badD
  generalize z.cps.toList = l
  induction l with
  | nil => rfl
  | cons c l ih =>
    cases h : lowC c with
    | true =>
      rw [List.filter_cons_of_neg (by rw [h]; decide), ih, List.all_cons, h, Bool.true_and]
    | false =>
      rw [List.filter_cons_of_pos (by rw [h]; decide), List.all_cons, h]; rfl
theorem chars_lay : ∀ l : List Nat, (∀ c ∈ l, c < 0x110000) → PyData.canLayAll0 (l.map fun c => PyData.str ⟨#[c]⟩) = true
  | [], _ => rfl
  | c :: l, h => by
    have h1 : c < 0x110000 := h c List.mem_cons_self
    show (PyData.canLay0 (.str ⟨#[c]⟩) && PyData.canLayAll0 (l.map fun c => PyData.str ⟨#[c]⟩)) = true
    rw [chars_lay l fun c hc => h c (List.mem_cons_of_mem _ hc), Bool.and_true]
    simp [PyData.canLay0, PyData.strOk]
    exact h1
theorem chars_depth : ∀ l : List Nat, PyData.depthAll (l.map fun c => PyData.str ⟨#[c]⟩) = 0
  | [] => rfl
  | c :: l => by
    show max (PyData.depth (.str ⟨#[c]⟩)) (PyData.depthAll (l.map fun c => PyData.str ⟨#[c]⟩)) = 0
    rw [chars_depth l]; rfl
theorem bad_shaped {z : Str} (h : okS z) : SeqAt.shaped (.list (badD z)) = true := by
  unfold SeqAt.shaped
  rw [Bool.and_eq_true, decide_eq_true_iff]
  refine ⟨chars_lay _ fun c hc => h.2 c ((List.mem_filter.mp hc).1), ?_⟩
  show PyData.depthAll (badD z) + 1 ≤ 64
  unfold badD
  rw [chars_depth]
  decide
theorem ok_law_is_name {f : Addr} {fd : FuncData} (F : Fun K "_law_is_name" "_law_is_name" s_law_is_name f fd) (T : Txt mg) : FnOk P w K mg base CX0 1 f fd ["_law_thing"] (spIsName K) := by
  refine F.ok sc_law_is_name (fun vs H Q E h => ?_) (fun cdv A outer s H vs Q E hr h => ?_)
  · obtain ⟨x, rfl, _⟩ := h
    rfl
  · obtain ⟨x, rfl, ⟨ty, ht, hk⟩, hsh, q⟩ := h
    refine ⟨_, (pss_cons (ps_if (PW.pt (pw_or (pt_not (pt_val (pe_callB (kIsi (K := K) rfl) (by rfl) T.b_isinstance (by decide +kernel) (pa_cons (pv 0) (pa_cons (pbty (n := "str") (by rfl) T.b_str (by decide +kernel)) pa_nil))))) (pw_or1 (pt_not (pt_chain opLeU opLeU pe_int (pe_callB (kLen (K := K) rfl) (by rfl) T.b_len (by decide +kernel) (pa_cons (pv 0) pa_nil)) pe_int))))) (pss_one (ps_ret pe_bl)) pss_nil)
      (pss_one (ps_ret (pe_cmpR (kEq (K := K) rfl hr.units) (pe_lc (own := [("_law_sign", 1)]) (by rfl) sc_law_is_name.nd (pi_str (pv 0)) (blkOk_by (N := ["_law_thing", "_law_sign"]) (sc := defScope s_law_is_name) (by decide +kernel)) (fun _ _ _ _ _ => (pg_name (i := 1) sc_law_is_name.nd rfl (by first | exact .inl rfl | exact .inr rfl))) (fun _ _ _ _ _ => (pts_one (pt_not (pt_chain opLeU opLeU pe_str (pv 1) pe_str)))) (fun _ _ _ _ _ => (pv 1))) (pe_lst pa_nil) (nomark _))))), ?_⟩
    walk_at "start"
    rcases str_ty ht with ⟨rfl, z, rfl⟩ | ⟨hne, hno⟩
    · have hz : z.length ≤ 1000 := (hsh z rfl).1
      walk_at "v"
      · have e0 : nameV (.str z) = z.cps.toList.all lowC := nameS_of (by assumption) (by assumption)
        rw [e0] at q
        refine lc_f walk_sgns hy_at (fun _ _ => trivial) fBad (by rw [sgns_len]; exact small1000 hz) (fun x H2 R Rn hx s2 hR hN => ?_) (fun D H' hD s' e => ?_)
        · obtain ⟨c, _, rfl⟩ := List.mem_map.mp hx
          walk_at "v"
          all_goals first
            | (rename_i h1 h2; rw [cps_a] at h1; rw [cps_z] at h2; exact hR _ _ (Same.refl _) (bad_hi (by rw [← lt1]; exact h1) (by rw [← lt1]; exact h2)))
            | (rename_i h1 h2; rw [cps_a] at h1; rw [cps_z] at h2; exact hN _ (Same.refl _) (bad_ok (by rw [← lt1]; exact h1) (by rw [← lt1]; exact h2)))
            | (rename_i h1; rw [cps_a] at h1; exact hR _ _ (Same.refl _) (bad_lo (by rw [← lt1]; exact h1)))
        · rw [bad_list] at e
          walk_at "v"
          refine v_eqD (d := .list (badD z)) (e := .list []) (.lst (sq_lst (by walk_at "hp")) (dpAll_strs _)) (.lst (sq_lst upd_same) .nil) (bad_shaped (hsh z rfl)) (by decide +kernel) ?_
          rw [bad_empty]
          exact q _ (by walk_at "sm")
      all_goals
        have e0 : nameV (.str z) = false := nameS_no fun h => by omega
        rw [e0] at q
        exact q H (Same.refl H)
    · rw [hno] at q
      have hb : isB ty "str" = false := by
        unfold isB
        rw [beq_eq_false_iff_ne.mpr hne]
        simp
      walk_at "v"
      all_goals first
        | exact q _ (Same.refl _)
        | exact absurd (by assumption) hne
end K01

namespace K01
open PySem PySem.Spec PyProof.Rows L2 Kit
local macro_rules | `(tactic| walk_at "ne") => `(tactic| first
  | assumption
  | (apply Ne.symm; assumption)
  | exact ne_of_none (by assumption) (by assumption)
  | exact (ne_of_none (by assumption) (by assumption)).symm
  | (refine ne_of_none (H := ?H0) (o := ?oo) ?hs ?hn; (case hn => assumption); (case hs => walk_at "hp"))
  | (refine (ne_of_none (H := ?H0) (o := ?oo) ?hs ?hn).symm; (case hn => assumption); (case hs => walk_at "hp"))
  | (refine Src.ne (H := ?H0) ?hs ?hn; (case hn => assumption); (case hs => walk_at "src"))
  | (refine (Src.ne (H := ?H0) ?hs ?hn).symm; (case hn => assumption); (case hs => walk_at "src"))
  | fail "no rule")
local macro_rules | `(tactic| walk_at "hp") => `(tactic| first
  | assumption
  | exact upd_same
  | (refine (upd_ne ?hne).trans ?hrest; (case hne => walk_at "ne"); (case hrest => walk_at "hp"))
  | (refine same_at (H := ?H0) ?hs ?hrest; (case hs => assumption); (case hrest => walk_at "hp"))
  | (refine dr_at (H := ?H0) (a := ?a0) ?hs ?hne ?hrest; (case hs => assumption); (case hne => walk_at "ne"); (case hrest => walk_at "hp"))
  | fail "no rule")
local macro_rules | `(tactic| walk_at "sq") => `(tactic| first
  | assumption
  | exact Or.inl (Or.inl (by walk_at "hp"))
  | (refine sq_upd ?hnn ?hss; (case hnn => assumption); (case hss => walk_at "sq"))
  | (refine Same.seq (H := ?H0) ?hs ?hrest; (case hs => assumption); (case hrest => walk_at "sq"))
  | (refine sq_dr (H := ?H0) (a := ?a0) ?hs ?hne ?hrest; (case hs => assumption); (case hne => walk_at "ne"); (case hrest => walk_at "sq"))
  | fail "no rule")
local macro_rules | `(tactic| walk_at "sm") => `(tactic| first
  | assumption
  | exact Same.refl _
  | (refine same_new ?hnn; (case hnn => assumption))
  | (refine same_mut ?hs ?hnn; (case hs => walk_at "sm"); (case hnn => walk_at "fr"))
  | (refine Same.trans (H1 := ?H1) ?hs ?hq; (case hq => assumption); (case hs => walk_at "sm"))
  | fail "no rule")
local macro_rules | `(tactic| walk_at "fr") => `(tactic| first
  | assumption
  | (refine Same.free (H' := ?H1) ?hs ?hq; (case hq => assumption); (case hs => walk_at "sm"))
  | fail "no rule")
local macro_rules | `(tactic| walk_at "src") => `(tactic| first
  | assumption
  | exact Dr.src (by assumption)
  | (refine Src.same (H := ?H0) ?hs ?hm; (case hm => assumption); (case hs => walk_at "src"))
  | (refine Src.upd ?hs ?hn; (case hs => walk_at "src"); (case hn => walk_at "ne"))
  | fail "no rule")
local macro_rules | `(tactic| walk_at "fd") => `(tactic| first
  | assumption
  | (refine Same.free (H' := ?H1) ?hs ?hq; (case hq => assumption); (case hs => walk_at "sm"))
  | (refine Dr.free (H' := ?H1) ?h0 ?hs ?hq; (case hq => assumption); (case hs => walk_at "dr"); (case h0 => walk_at "src"))
  | fail "no rule")
local macro_rules | `(tactic| walk_at "dr") => `(tactic| first
  | assumption
  | (refine Dr.trans (H' := ?H1) ?hs ?hq; (case hq => assumption); (case hs => walk_at "dr"))
  | (refine Dr.mut ?hs ?h0 ?hn; (case hs => walk_at "dr"); (case h0 => walk_at "src"); (case hn => walk_at "fd"))
  | (refine Dr.trans (H' := ?H1) ?hs (Dr.same ?h0 ?hq); (case hq => assumption); (case h0 => walk_at "src"); (case hs => walk_at "dr"))
  | (refine Dr.refl ?hs; (case hs => walk_at "src"))
  | fail "no rule")
local macro_rules | `(tactic| walk_at "sz") => `(tactic| first
  | omega
  | (refine Nat.le_trans ?_ (show (1000 : Nat) ≤ sizeLine by decide); first | decide | omega | (simp; done) | (simp; omega) | fail)
  | fail "no rule")
local macro_rules | `(tactic| walk_at "v1") => `(tactic| first
  | with_reducible refine v_seq ?_
  | with_reducible refine v_asg ?_
  | with_reducible refine v_gname ?_
  | with_reducible refine v_c ?_
  | ((with_reducible refine v_var (v := ?vv) ?hv ?_); (case hv => exact rfl))
  | with_reducible refine v_op ?_
  | with_reducible refine v_un ?_
  | with_reducible refine v_I0 ?_
  | with_reducible refine v_U ?_
  | with_reducible refine v_addI ?_
  | with_reducible refine v_ltI ?_
  | with_reducible refine v_leI ?_
  | with_reducible refine v_gtI ?_
  | with_reducible refine v_geI ?_
  | with_reducible refine v_leS ?_
  | with_reducible refine v_ltS ?_
  | with_reducible refine v_eqI ?_
  | with_reducible refine v_neI ?_
  | with_reducible refine v_eqS ?_
  | with_reducible refine v_neS ?_
  | with_reducible refine v_eqB ?_
  | ((with_reducible refine v_eqTy ?h1 ?h2 ?_); (case h1 => walk_at "bt"); (case h2 => walk_at "bt"))
  | ((with_reducible refine v_neTy ?h1 ?h2 ?_); (case h1 => walk_at "bt"); (case h2 => walk_at "bt"))
  | with_reducible refine v_test ?_
  | with_reducible refine v_B ?_
  | with_reducible refine v_isbl ?_
  | with_reducible refine v_and ?_
  | with_reducible refine v_or ?_
  | with_reducible refine v_not ?_
  | with_reducible refine v_andV ?_
  | with_reducible refine v_orV ?_
  | with_reducible refine v_notV ?_
  | with_reducible refine v_if ?_
  | with_reducible refine v_chain ?_
  | with_reducible refine v_nil ?_
  | with_reducible refine v_cons ?_
  | with_reducible refine v_cb ?_
  | with_reducible refine v_call ?_
  | with_reducible refine v_max ?_
  | ((with_reducible refine v_draw ?hs ?hm ?_); (case hs => walk_at "src"); (case hm => omega))
  | with_reducible refine v_min ?_
  | with_reducible refine v_intI ?_
  | with_reducible refine v_intB ?_
  | with_reducible refine v_m1 ?_
  | with_reducible refine v_isstr ?_
  | with_reducible refine v_sl ?_
  | with_reducible refine v_ss ?_
  | with_reducible refine v_disp1 ?_
  | with_reducible refine v_s0 ?_
  | with_reducible refine v_nopart ?_
  | with_reducible refine v_part ?_
  | with_reducible refine v_partI ?_
  | with_reducible refine v_next ?_
  | with_reducible refine v_gsub ?_
  | with_reducible refine v_ifS ?_
  | with_reducible refine v_ret ?_
  | with_reducible refine v_drop ?_
  | ((with_reducible refine v_iteTrue ?hb ?_); (case hb => walk_at "bt"))
  | ((with_reducible refine v_iteFalse ?hb ?_); (case hb => walk_at "bt"))
  | with_reducible refine v_iteD ?_ ?_
  | with_reducible refine v_iteNot ?_
  | with_reducible refine v_lc ?_
  | with_reducible refine v_iStr ?_
  | with_reducible refine v_isS ?_
  | with_reducible refine v_iRng1 ?_
  | ((with_reducible refine v_rng1 ?hb ?_); (case hb => omega))
  | with_reducible refine v_iList ?_
  | ((with_reducible refine v_isL (xs := ?xx) ?hsq ?_); (case hsq => walk_at "sq"))
  | with_reducible refine v_for ?_
  | with_reducible refine v_yes ?_
  | ((with_reducible refine v_nand ?hw ?_); (case hw => first | exact rfl | walk_at "sz" | fail))
  | ((with_reducible refine v_typ (T := ?TT) ?ht ?_); (case ht => walk_at "ty"))
  | ((with_reducible refine v_isiK (T := ?TT) ?ht ?h1 ?h2 ?_); (case ht => walk_at "ty"); (case h1 => walk_at "bt"); (case h2 => exact rfl))
  | with_reducible refine iteT ?_
  | with_reducible refine iteF ?_
  | with_reducible refine v_tup ?_
  | with_reducible refine v_lst ?_
  | ((with_reducible refine v_ixL (xs := ?xx) (v := ?vv) ?hsq ?hat ?_); (case hsq => walk_at "sq"); (case hat => exact rfl))
  | ((with_reducible refine v_lenL (xs := ?xx) ?hsq ?_); (case hsq => walk_at "sq"))
  | ((with_reducible refine v_setL (xs := ?xx) (j := ?jj) ?hh ?hj ?_); (case hh => walk_at "hp"); (case hj => exact rfl))
  | ((with_reducible refine v_I ?hc ?_); (case hc => walk_at "ic"))
  | ((with_reducible refine v_lenS ?hz ?_); (case hz => walk_at "sz"))
  | ((with_reducible refine v_slS ?hz ?_); (case hz => walk_at "sz"))
  | ((with_reducible refine v_addS ?hz ?_); (case hz => walk_at "sz"))
  | ((with_reducible refine v_ixS (c := ?cc) ?hz ?hat ?_); (case hz => walk_at "sz"); (case hat => exact rfl))
  | ((with_reducible refine v_addL (xs := ?xx) (ys := ?yy) ?h1 ?h2 ?hz ?_); (case h1 => walk_at "hp"); (case h2 => walk_at "hp"); (case hz => walk_at "sz"))
  | ((with_reducible refine v_ixT (xs := ?xx) (v := ?vv) ?hsq ?hat ?_); (case hsq => walk_at "sq"); (case hat => exact rfl))
  | ((with_reducible refine v_lenT (xs := ?xx) ?hsq ?_); (case hsq => walk_at "sq"))
  | (with_reducible intro _)
  | fail "no rule")
local macro_rules | `(tactic| walk_at "ic") => `(tactic| first
  | (show (0 : Int) < _; first | decide | omega | fail)
  | (show CMul _ _; unfold CMul; omega)
  | (show CDiv _ _; unfold CDiv; omega)
  | (show CPow _ _; unfold CPow; exact ⟨by decide, by decide, by decide⟩)
  | fail "no rule")
local macro_rules | `(tactic| walk_at "bt") => `(tactic| first
  | exact rfl
  | assumption
  | decide +kernel
  | (simp; done)
  | fail "no rule")
local macro_rules | `(tactic| walk_at "ty") => `(tactic| first
  | assumption
  | exact .non
  | exact .bl _
  | exact .int _
  | exact .str _
  | exact .lst (by walk_at "sq")
  | exact .tup (by walk_at "sq")
  | exact .dK (by walk_at "hp")
  | fail "no rule")
local macro_rules | `(tactic| walk_at "v") => `(tactic| try (walk_at "v1" <;> walk_at "v"))
local macro_rules | `(tactic| walk_at "start") => `(tactic| dsimp only [L2.start, cxOf, Cx.nox, Cx.wish, List.map, List.replicate, List.length, List.append, Nat.reduceSub, Nat.reduceAdd, List.cons_append, List.nil_append])

variable {P : Program} {w : World} {K : PySem.W.Frag} {mg : Str → Option Value} {base : Heap}
/-! ### _law_text -/
def spText : Sp := fun vs H Q _ => ∃ a : Addr, vs = [.ref a] ∧ Src a H ∧ ∀ z H', Dr a H H' → z.length ≤ 100 → (∀ c ∈ z.cps.toList, c < 128) → Q (.str z) H'
def asc (z : Str) : Prop := ∀ c ∈ z.cps.toList, c < 128
def ends6 : List V := [.str "", .str "A", .str "[]", .str "[] ", .str "_0", .str "\n"]
theorem pick6 {d : Int} (h0 : 0 ≤ d) (h : d < 6) : ∃ y : Str, atI ends6 d = some (.str y) ∧ y.length ≤ 3 ∧ y.cps.toList.all (· < 128) = true := by
  have e : d = 0 ∨ d = 1 ∨ d = 2 ∨ d = 3 ∨ d = 4 ∨ d = 5 := by omega
  rcases e with rfl | rfl | rfl | rfl | rfl | rfl
  · exact ⟨"", rfl, by decide +kernel, by decide +kernel⟩
  · exact ⟨"A", rfl, by decide +kernel, by decide +kernel⟩
  · exact ⟨"[]", rfl, by decide +kernel, by decide +kernel⟩
  · exact ⟨"[] ", rfl, by decide +kernel, by decide +kernel⟩
  · exact ⟨"_0", rfl, by decide +kernel, by decide +kernel⟩
  · exact ⟨"\n", rfl, by decide +kernel, by decide +kernel⟩
theorem ok_law_text {f : Addr} {fd : FuncData} (F : Fun K "_law_text" "_law_text" s_law_text f fd) (T : Txt mg) (C_law_draw : Cal P w K mg base 1 "_law_draw" ["_law_source_here", "_law_amount"] spDraw) : FnOk P w K mg base CX0 2 f fd ["_law_source_here"] spText := by
  refine F.ok sc_law_text (fun vs H Q E h => ?_) (fun cdv A outer s H vs Q E hr h => ?_)
  · obtain ⟨a, rfl, _⟩ := h
    rfl
  · obtain ⟨a, rfl, hs, q⟩ := h
    refine ⟨_, (pss_cons (ps_set (i := 1) sc_law_text.nd rfl (by first | exact .inl rfl | exact .inr rfl) (pe_op (kAdd (K := K) rfl) pe_str (pe_ix (kIx (K := K) rfl) (pe_lst (pa_cons pe_str (pa_cons pe_str (pa_cons pe_str (pa_cons pe_str (pa_cons pe_str (pa_cons pe_str pa_nil))))))) (pcall C_law_draw hr (by omega) (by rfl) (pa_cons (pv 0) (pa_cons pe_int pa_nil))) (fun _ _ => rfl))))
      (pss_one (ps_ret (pe_join pe_str (pe_lc (own := [("_law_part", 2)]) (by rfl) sc_law_text.nd (pi_range1 (by rfl) T.b_range (pa_cons (pcall C_law_draw hr (by omega) (by rfl) (pa_cons (pv 0) (pa_cons pe_int pa_nil))) pa_nil)) (blkOk_by (N := ["_law_source_here", "_law_signs", "_law_part"]) (sc := defScope s_law_text) (by decide +kernel)) (fun _ _ _ _ _ => (pg_name (i := 2) sc_law_text.nd rfl (by first | exact .inl rfl | exact .inr rfl))) (fun _ _ _ _ _ => pts_nil) (fun _ _ _ _ _ => (pe_ix (kIx (K := K) rfl) (pv 1) (pcall C_law_draw hr (by omega) (by rfl) (pa_cons (pv 0) (pa_cons (pe_callB (kLen (K := K) rfl) (by rfl) T.b_len (by decide +kernel) (pa_cons (pv 1) pa_nil)) pa_nil))) (fun _ _ => rfl)))))))), ?_⟩
    walk_at "start"
    walk_at "v"
    rename_i p hp d H1 hd0 hd1 dr
    obtain ⟨y, hy, hyl, hya⟩ := pick6 hd0 hd1
    refine v_ixL (xs := ends6) (sq_lst (by walk_at "hp")) hy ?_
    have hl6 : ("abcxyz" : Str).length = 6 := by decide +kernel
    refine v_addS (Nat.le_of_lt (small1000 (by omega))) ?_
    have hz : ("abcxyz" ++ y : Str).length = 6 + y.length := by rw [len_cps, app_cps, List.length_append, ← len_cps, ← len_cps, hl6]
    have hall : ∀ c ∈ ("abcxyz" ++ y : Str).cps.toList, c < 128 := by
      intro c hc
      rw [app_cps] at hc
      rcases List.mem_append.mp hc with h | h
      · have : ("abcxyz" : Str).cps.toList.all (· < 128) = true := by decide +kernel
        exact of_decide_eq_true (List.all_eq_true.mp this c h)
      · exact of_decide_eq_true (List.all_eq_true.mp hya c h)
    generalize ("abcxyz" ++ y : Str) = z at hz hall ⊢
    walk_at "v"
    rename_i n H2 hn0 hn1 dr2
    refine lc_dr (a := a) (by walk_at "src") (walk_upto (lo := 0) (n := n.toNat)) hy_at (fun _ _ => trivial) (fun y => ∃ c : Nat, y = .str ⟨#[c]⟩ ∧ c < 128) (by rw [upto_len]; exact small1000 (by omega)) (fun x H3 R Rn hx d3 hR => ?_) (fun D H3 ys hD d3 e hlen hE => ?_)
    · walk_at "v"
      rename_i j H4 hj0 hj1 d4
      refine v_ixS (show z.length ≤ sizeLine from Nat.le_of_lt (small1000 (by omega))) (at_str hj0 (by rw [← len_cps]; exact hj1)) ?_
      refine hR _ _ d4 ⟨_, rfl, hall _ ?_⟩
      have hj : j.toNat < z.cps.toList.length := by rw [← len_cps]; omega
      simp only [List.getD_eq_getElem?_getD, List.getElem?_eq_getElem hj, Option.getD_some]
      exact List.getElem_mem hj
    · rw [upto_len] at hlen
      obtain ⟨cs, rfl, hcs⟩ := chars_of hE
      rw [List.length_map, List.length_map] at hlen
      refine ⟨"", D, cs.map chS, rfl, rfl, .inl (sq_lst e), ?_, ?_⟩
      · rw [sum_chars, show ("" : Str).length = 0 by decide +kernel, hlen]
        omega
      · refine q _ _ (by walk_at "dr") ?_ ?_
        · rw [len_cps, join_chars, hlen]; omega
        · rw [join_chars]; exact hcs
end K01

namespace K01
open PySem PySem.Spec PyProof.Rows L2 Kit
local macro_rules | `(tactic| walk_at "ne") => `(tactic| first
  | assumption
  | (apply Ne.symm; assumption)
  | exact ne_of_none (by assumption) (by assumption)
  | exact (ne_of_none (by assumption) (by assumption)).symm
  | (refine ne_of_none (H := ?H0) (o := ?oo) ?hs ?hn; (case hn => assumption); (case hs => walk_at "hp"))
  | (refine (ne_of_none (H := ?H0) (o := ?oo) ?hs ?hn).symm; (case hn => assumption); (case hs => walk_at "hp"))
  | (refine Src.ne (H := ?H0) ?hs ?hn; (case hn => assumption); (case hs => walk_at "src"))
  | (refine (Src.ne (H := ?H0) ?hs ?hn).symm; (case hn => assumption); (case hs => walk_at "src"))
  | fail "no rule")
local macro_rules | `(tactic| walk_at "hp") => `(tactic| first
  | assumption
  | exact upd_same
  | (refine (upd_ne ?hne).trans ?hrest; (case hne => walk_at "ne"); (case hrest => walk_at "hp"))
  | (refine same_at (H := ?H0) ?hs ?hrest; (case hs => assumption); (case hrest => walk_at "hp"))
  | (refine dr_at (H := ?H0) (a := ?a0) ?hs ?hne ?hrest; (case hs => assumption); (case hne => walk_at "ne"); (case hrest => walk_at "hp"))
  | fail "no rule")
local macro_rules | `(tactic| walk_at "sq") => `(tactic| first
  | assumption
  | exact Or.inl (Or.inl (by walk_at "hp"))
  | (refine sq_upd ?hnn ?hss; (case hnn => assumption); (case hss => walk_at "sq"))
  | (refine Same.seq (H := ?H0) ?hs ?hrest; (case hs => assumption); (case hrest => walk_at "sq"))
  | (refine sq_dr (H := ?H0) (a := ?a0) ?hs ?hne ?hrest; (case hs => assumption); (case hne => walk_at "ne"); (case hrest => walk_at "sq"))
  | fail "no rule")
local macro_rules | `(tactic| walk_at "sm") => `(tactic| first
  | assumption
  | exact Same.refl _
  | (refine same_new ?hnn; (case hnn => assumption))
  | (refine same_mut ?hs ?hnn; (case hs => walk_at "sm"); (case hnn => walk_at "fr"))
  | (refine Same.trans (H1 := ?H1) ?hs ?hq; (case hq => assumption); (case hs => walk_at "sm"))
  | fail "no rule")
local macro_rules | `(tactic| walk_at "fr") => `(tactic| first
  | assumption
  | (refine Same.free (H' := ?H1) ?hs ?hq; (case hq => assumption); (case hs => walk_at "sm"))
  | fail "no rule")
local macro_rules | `(tactic| walk_at "src") => `(tactic| first
  | assumption
  | exact Dr.src (by assumption)
  | (refine Src.same (H := ?H0) ?hs ?hm; (case hm => assumption); (case hs => walk_at "src"))
  | (refine Src.upd ?hs ?hn; (case hs => walk_at "src"); (case hn => walk_at "ne"))
  | fail "no rule")
local macro_rules | `(tactic| walk_at "fd") => `(tactic| first
  | assumption
  | (refine Same.free (H' := ?H1) ?hs ?hq; (case hq => assumption); (case hs => walk_at "sm"))
  | (refine Dr.free (H' := ?H1) ?h0 ?hs ?hq; (case hq => assumption); (case hs => walk_at "dr"); (case h0 => walk_at "src"))
  | fail "no rule")
local macro_rules | `(tactic| walk_at "dr") => `(tactic| first
  | assumption
  | (refine Dr.trans (H' := ?H1) ?hs ?hq; (case hq => assumption); (case hs => walk_at "dr"))
  | (refine Dr.mut ?hs ?h0 ?hn; (case hs => walk_at "dr"); (case h0 => walk_at "src"); (case hn => walk_at "fd"))
  | (refine Dr.trans (H' := ?H1) ?hs (Dr.same ?h0 ?hq); (case hq => assumption); (case h0 => walk_at "src"); (case hs => walk_at "dr"))
  | (refine Dr.refl ?hs; (case hs => walk_at "src"))
  | fail "no rule")
local macro_rules | `(tactic| walk_at "sz") => `(tactic| first
  | omega
  | (refine Nat.le_trans ?_ (show (1000 : Nat) ≤ sizeLine by decide); first | decide | omega | (simp; done) | (simp; omega) | fail)
  | fail "no rule")
local macro_rules | `(tactic| walk_at "v1") => `(tactic| first
  | with_reducible refine v_seq ?_
  | with_reducible refine v_asg ?_
  | with_reducible refine v_gname ?_
  | with_reducible refine v_c ?_
  | ((with_reducible refine v_var (v := ?vv) ?hv ?_); (case hv => exact rfl))
  | with_reducible refine v_op ?_
  | with_reducible refine v_un ?_
  | with_reducible refine v_I0 ?_
  | with_reducible refine v_U ?_
  | with_reducible refine v_addI ?_
  | with_reducible refine v_ltI ?_
  | with_reducible refine v_leI ?_
  | with_reducible refine v_gtI ?_
  | with_reducible refine v_geI ?_
  | with_reducible refine v_leS ?_
  | with_reducible refine v_ltS ?_
  | with_reducible refine v_eqI ?_
  | with_reducible refine v_neI ?_
  | with_reducible refine v_eqS ?_
  | with_reducible refine v_neS ?_
  | with_reducible refine v_eqB ?_
  | ((with_reducible refine v_eqTy ?h1 ?h2 ?_); (case h1 => walk_at "bt"); (case h2 => walk_at "bt"))
  | ((with_reducible refine v_neTy ?h1 ?h2 ?_); (case h1 => walk_at "bt"); (case h2 => walk_at "bt"))
  | with_reducible refine v_test ?_
  | with_reducible refine v_B ?_
  | with_reducible refine v_isbl ?_
  | with_reducible refine v_and ?_
  | with_reducible refine v_or ?_
  | with_reducible refine v_not ?_
  | with_reducible refine v_andV ?_
  | with_reducible refine v_orV ?_
  | with_reducible refine v_notV ?_
  | with_reducible refine v_if ?_
  | with_reducible refine v_chain ?_
  | with_reducible refine v_nil ?_
  | with_reducible refine v_cons ?_
  | with_reducible refine v_cb ?_
  | with_reducible refine v_call ?_
  | with_reducible refine v_max ?_
  | ((with_reducible refine v_draw ?hs ?hm ?_); (case hs => walk_at "src"); (case hm => omega))
  | with_reducible refine v_min ?_
  | with_reducible refine v_intI ?_
  | with_reducible refine v_intB ?_
  | with_reducible refine v_m1 ?_
  | with_reducible refine v_isstr ?_
  | with_reducible refine v_sl ?_
  | with_reducible refine v_ss ?_
  | with_reducible refine v_disp1 ?_
  | with_reducible refine v_s0 ?_
  | with_reducible refine v_nopart ?_
  | with_reducible refine v_part ?_
  | with_reducible refine v_partI ?_
  | with_reducible refine v_next ?_
  | with_reducible refine v_gsub ?_
  | with_reducible refine v_ifS ?_
  | with_reducible refine v_ret ?_
  | with_reducible refine v_drop ?_
  | ((with_reducible refine v_iteTrue ?hb ?_); (case hb => walk_at "bt"))
  | ((with_reducible refine v_iteFalse ?hb ?_); (case hb => walk_at "bt"))
  | with_reducible refine v_iteD ?_ ?_
  | with_reducible refine v_iteNot ?_
  | with_reducible refine v_lc ?_
  | with_reducible refine v_iStr ?_
  | with_reducible refine v_isS ?_
  | with_reducible refine v_iRng1 ?_
  | ((with_reducible refine v_rng1 ?hb ?_); (case hb => omega))
  | with_reducible refine v_iList ?_
  | ((with_reducible refine v_isL (xs := ?xx) ?hsq ?_); (case hsq => walk_at "sq"))
  | with_reducible refine v_for ?_
  | with_reducible refine v_yes ?_
  | ((with_reducible refine v_nand ?hw ?_); (case hw => first | exact rfl | walk_at "sz" | fail))
  | ((with_reducible refine v_typ (T := ?TT) ?ht ?_); (case ht => walk_at "ty"))
  | ((with_reducible refine v_isiK (T := ?TT) ?ht ?h1 ?h2 ?_); (case ht => walk_at "ty"); (case h1 => walk_at "bt"); (case h2 => exact rfl))
  | with_reducible refine iteT ?_
  | with_reducible refine iteF ?_
  | with_reducible refine v_tup ?_
  | with_reducible refine v_lst ?_
  | ((with_reducible refine v_ixL (xs := ?xx) (v := ?vv) ?hsq ?hat ?_); (case hsq => walk_at "sq"); (case hat => exact rfl))
  | ((with_reducible refine v_lenL (xs := ?xx) ?hsq ?_); (case hsq => walk_at "sq"))
  | ((with_reducible refine v_setL (xs := ?xx) (j := ?jj) ?hh ?hj ?_); (case hh => walk_at "hp"); (case hj => exact rfl))
  | ((with_reducible refine v_I ?hc ?_); (case hc => walk_at "ic"))
  | ((with_reducible refine v_lenS ?hz ?_); (case hz => walk_at "sz"))
  | ((with_reducible refine v_slS ?hz ?_); (case hz => walk_at "sz"))
  | ((with_reducible refine v_addS ?hz ?_); (case hz => walk_at "sz"))
  | ((with_reducible refine v_ixS (c := ?cc) ?hz ?hat ?_); (case hz => walk_at "sz"); (case hat => exact rfl))
  | ((with_reducible refine v_addL (xs := ?xx) (ys := ?yy) ?h1 ?h2 ?hz ?_); (case h1 => walk_at "hp"); (case h2 => walk_at "hp"); (case hz => walk_at "sz"))
  | ((with_reducible refine v_ixT (xs := ?xx) (v := ?vv) ?hsq ?hat ?_); (case hsq => walk_at "sq"); (case hat => exact rfl))
  | ((with_reducible refine v_lenT (xs := ?xx) ?hsq ?_); (case hsq => walk_at "sq"))
  | ((with_reducible refine v_eq ?hs ?_); (case hs => exact rfl))
  | ((with_reducible refine v_ne ?hs ?_); (case hs => exact rfl))
  | (with_reducible intro _)
  | fail "no rule")
local macro_rules | `(tactic| walk_at "ic") => `(tactic| first
  | (show (0 : Int) < _; first | decide | omega | fail)
  | (show CMul _ _; unfold CMul; omega)
  | (show CDiv _ _; unfold CDiv; omega)
  | (show CPow _ _; unfold CPow; exact ⟨by decide, by decide, by decide⟩)
  | fail "no rule")
local macro_rules | `(tactic| walk_at "bt") => `(tactic| first
  | exact rfl
  | assumption
  | decide +kernel
  | (simp; done)
  | fail "no rule")
local macro_rules | `(tactic| walk_at "ty") => `(tactic| first
  | assumption
  | exact .non
  | exact .bl _
  | exact .int _
  | exact .str _
  | exact .lst (by walk_at "sq")
  | exact .tup (by walk_at "sq")
  | exact .dK (by walk_at "hp")
  | fail "no rule")
local macro_rules | `(tactic| walk_at "v") => `(tactic| try (walk_at "v1" <;> walk_at "v"))
local macro_rules | `(tactic| walk_at "start") => `(tactic| dsimp only [L2.start, cxOf, Cx.nox, Cx.wish, List.map, List.replicate, List.length, List.append, Nat.reduceSub, Nat.reduceAdd, List.cons_append, List.nil_append])

variable {P : Program} {w : World} {K : PySem.W.Frag} {mg : Str → Option Value} {base : Heap}
/-! ### law -/
def spLaw (K : PySem.W.Frag) : Sp := fun vs H Q _ => ∃ (a : Addr) (ns : List Int), vs = [.ref a] ∧ SqL K H a (ns.map V.int) ∧ ns.length ≤ 63 ∧ ∀ H', Q (.bl true) H'
structure TxtL (K : PySem.W.Frag) (mg : Str → Option Value) (aT : Addr) : Prop extends Txt mg where
  g_TOP : GlobV mg "TOP" (.ref aT)
  t_TOP : ∀ H, SqT K H aT [.str "", .str "top"]
def ThingV (K : PySem.W.Frag) (H : Hp) (x : V) : Prop := KnownV K H x ∧ ShortV x
def odds (p0 p1 p2 : Addr) : List V := [.non, .int 5, .bl true, .ref p0, .ref p1, .ref p2, .str "", .str "[]", .str "a[]", .str "a[][]", .str "a []", .str "abcdefgh", .str "abcdefghi", .str "abcdefgh[]"]
def okB (z : Str) : Bool := decide (z.length ≤ 100) && z.cps.toList.all (· < 128)
theorem okB_ok {z : Str} (h : okB z = true) : okS z := by
  unfold okB at h
  rw [Bool.and_eq_true, decide_eq_true_iff, List.all_eq_true] at h
  exact ⟨by omega, fun c hc => by have := of_decide_eq_true (h.2 c hc); omega⟩
theorem thing_str {H : Hp} {z : Str} (h : okS z) : ThingV K H (.str z) := ⟨⟨_, .str z, rfl⟩, fun w e => by cases e; exact h⟩
theorem thing_of {H : Hp} {x : V} {T : String} (t : TyB K H x T) (h : tyK T = true) (n : ∀ z, x ≠ .str z) : ThingV K H x := ⟨⟨T, t, h⟩, fun w e => absurd e (n w)⟩
theorem odds_things {H : Hp} {p0 p1 p2 : Addr} (h0 : H p0 = some (.tup [])) (h1 : H p1 = some (.lst [.str "a"])) (h2 : H p2 = some (.dK [(Sum.inr "a", .int 1)])) : ∀ x ∈ odds p0 p1 p2, ThingV K H x := by
  intro x hx
  simp only [odds, List.mem_cons, List.not_mem_nil, or_false] at hx
  rcases hx with rfl | rfl | rfl | rfl | rfl | rfl | rfl | rfl | rfl | rfl | rfl | rfl | rfl | rfl
  · exact thing_of .non rfl fun z e => by cases e
  · exact thing_of (.int 5) rfl fun z e => by cases e
  · exact thing_of (.bl true) rfl fun z e => by cases e
  · exact thing_of (.tup (.inl (.inl h0))) rfl fun z e => by cases e
  · exact thing_of (.lst (sq_lst h1)) rfl fun z e => by cases e
  · exact thing_of (.dK h2) rfl fun z e => by cases e
  all_goals exact thing_str (okB_ok (by decide +kernel))
theorem tyB_same {H H' : Hp} {x : V} {T : String} (s : Same H H') (t : TyB K H x T) : TyB K H' x T := by
  cases t with
  | non => exact .non
  | bl b => exact .bl b
  | int i => exact .int i
  | str z => exact .str z
  | byt b => exact .byt b
  | lst h => exact .lst (s.seq h)
  | @tup b xs h =>
    refine TyB.tup (xs := xs) ?_
    rcases h with (h | ⟨o, h⟩) | h
    · exact .inl (.inl (s _ _ h))
    · exact .inl (.inr ⟨o, s _ _ h⟩)
    · exact .inr h
  | dK h => exact .dK (s _ _ h)
theorem ThingV.same {H H' : Hp} {x : V} (s : Same H H') (t : ThingV K H x) : ThingV K H' x := by
  obtain ⟨⟨T, a, b⟩, c⟩ := t
  exact ⟨⟨T, tyB_same s a, b⟩, c⟩
theorem upto_at {n : Nat} {i : Nat} {x : V} {m : Nat} (h : (upto 0 n)[i]? = some x) (hn : n ≤ m) : x = .int (i : Nat) ∧ i < m := by
  unfold upto at h
  rw [List.getElem?_map] at h
  have hi : i < n := by
    refine Nat.lt_of_not_le fun q => ?_
    rw [List.getElem?_eq_none (by rw [List.length_range]; exact q)] at h
    cases h
  rw [List.getElem?_range hi] at h
  have e := Option.some.inj h
  exact ⟨by rw [← e]; simp, by omega⟩
def fArr : V → Option V
  | .str z => some (.str (z ++ "[]"))
  | _ => none
def things (p0 p1 p2 : Addr) (ys : List V) : List V := odds p0 p1 p2 ++ [.str "abcdefghi[]", .str "top", .str "top[]", .str "a["] ++ ys ++ ys.filterMap fArr
theorem asc_ok {z : Str} (h : z.length ≤ 100) (h2 : asc z) : okS z := ⟨by omega, fun c hc => by have := h2 c hc; omega⟩
theorem things_ok {H : Hp} {p0 p1 p2 : Addr} {ys : List V} (h : ∀ x ∈ odds p0 p1 p2, ThingV K H x) (hE : ∀ y ∈ ys, ∃ z : Str, y = .str z ∧ z.length ≤ 100 ∧ asc z) : ∀ x ∈ things p0 p1 p2 ys, ThingV K H x := by
  intro x hx
  unfold things at hx
  rcases List.mem_append.mp hx with hx | hx
  · rcases List.mem_append.mp hx with hx | hx
    · rcases List.mem_append.mp hx with hx | hx
      · exact h x hx
      · simp only [List.mem_cons, List.not_mem_nil, or_false] at hx
        rcases hx with rfl | rfl | rfl | rfl
        all_goals exact thing_str (okB_ok (by decide +kernel))
    · obtain ⟨z, rfl, h1, h2⟩ := hE x hx
      exact thing_str (asc_ok h1 h2)
  · obtain ⟨y, hy, e⟩ := List.mem_filterMap.mp hx
    obtain ⟨z, rfl, h1, h2⟩ := hE y hy
    cases e
    have ha : (arrS.cps.toList.all (· < 128)) = true := by decide +kernel
    refine thing_str ⟨?_, fun c hc => ?_⟩
    · rw [len_cps, app_cps, List.length_append, ← len_cps, ← len_cps]
      have := arr_len
      unfold arrS at this
      omega
    · rw [app_cps] at hc
      rcases List.mem_append.mp hc with hc | hc
      · have := h2 c hc; omega
      · have := of_decide_eq_true (List.all_eq_true.mp ha c hc); omega
section
variable {H : Hp} {Q : VK} {E : XK} {z : Str} {x : V}
theorem v_nameS (hz : okS z) (k : ∀ H', Same H H' → Q (.bl (nameS z)) H') : spIsName K ([.str z] ++ []) H Q E := ⟨_, rfl, ⟨_, .str z, rfl⟩, fun w e => by cases e; exact hz, k⟩
theorem v_typeS {y : Str} (hz : okS z) (hr : Txt.removesuffix z arrS = y) (k : ∀ H', Same H H' → Q (.bl (nameS y)) H') : spIsType K ([.str z] ++ []) H Q E := ⟨_, rfl, ⟨_, .str z, rfl⟩, fun w e => by cases e; exact hz, by subst hr; exact k⟩
theorem v_elemT (hz : z.length ≤ 1000) (h : ends z = true) (k : Q (.str (cutS z none (some (-2)))) H) : spElem ([.str z] ++ []) H Q E := ⟨z, rfl, hz, by rw [if_pos h]; exact k⟩
theorem v_elemF (hz : z.length ≤ 1000) (h : ends z = false) (k : Q .non H) : spElem ([.str z] ++ []) H Q E := ⟨z, rfl, hz, by rw [if_neg (by rw [h]; decide)]; exact k⟩
theorem v_nameN {T : String} (t : TyB K H x T) (hT : tyK T = true) (n : ∀ z, x ≠ .str z) (k : ∀ H', Same H H' → Q (.bl false) H') : spIsName K ([x] ++ []) H Q E :=
  ⟨_, rfl, ⟨_, t, hT⟩, fun w e => absurd e (n w), fun H' s => by rw [show nameV x = false by cases x <;> first | rfl | exact absurd rfl (n _)]; exact k H' s⟩
theorem v_typeN {T : String} (t : TyB K H x T) (hT : tyK T = true) (n : ∀ z, x ≠ .str z) (k : ∀ H', Same H H' → Q (.bl false) H') : spIsType K ([x] ++ []) H Q E :=
  ⟨_, rfl, ⟨_, t, hT⟩, fun w e => absurd e (n w), fun H' s => by rw [typeV_no n]; exact k H' s⟩
end
local macro_rules | `(tactic| walk_at "v1") => `(tactic| first
  | ((with_reducible refine v_nameS ?hz ?_); (case hz => assumption))
  | ((with_reducible refine v_typeS (y := ?yy) ?hz ?hr ?_); (case hz => assumption); (case hr => assumption))
  | ((with_reducible refine v_elemT ?hz ?he ?_); (case hz => assumption); (case he => assumption))
  | ((with_reducible refine v_elemF ?hz ?he ?_); (case hz => assumption); (case he => assumption))
  | ((with_reducible refine v_nameN (T := ?TT) ?ht ?hT ?hn ?_); (case hn => assumption); (case ht => walk_at "tm"); (case hT => assumption))
  | ((with_reducible refine v_typeN (T := ?TT) ?ht ?hT ?hn ?_); (case hn => assumption); (case ht => walk_at "tm"); (case hT => assumption))
  | ((with_reducible refine v_neBB (a := ?aa) (b := ?bb) ?h1 ?h2 ?_); (case h1 => walk_at "hp"); (case h2 => walk_at "hp"))
  | fail "no rule")
local macro_rules | `(tactic| walk_at "tm") => `(tactic| first
  | assumption
  | (refine tyB_same (H := ?H0) ?hs ?ht; (case hs => assumption); (case ht => walk_at "tm"))
  | (refine tyB_same (same_new ?hn) ?ht; (case hn => assumption); (case ht => walk_at "tm"))
  | fail "no rule")
theorem ok_law {f aT : Addr} {fd : FuncData} (F : Fun K "law" "law" s_law f fd) (T : TxtL K mg aT) (C_law_source : Cal P w K mg base 1 "_law_source" ["_law_script", "_law_turn"] (spSource K))
    (C_law_text : Cal P w K mg base 2 "_law_text" ["_law_source_here"] spText) (C_law_is_name : Cal P w K mg base 1 "_law_is_name" ["_law_thing"] (spIsName K)) (C_is_name : Cal P w K mg base 1 "is_name" ["value"] (spIsName K))
    (C_is_type : Cal P w K mg base 2 "is_type" ["value"] (spIsType K)) (C_element_of : Cal P w K mg base 1 "element_of" ["value"] spElem) : FnOk P w K mg base CX0 3 f fd ["_law_script"] (spLaw K) := by
  refine F.ok sc_law (fun vs H Q E h => ?_) (fun cdv A outer s H vs Q E hr h => ?_)
  · obtain ⟨a, ns, rfl, _⟩ := h
    rfl
  · obtain ⟨a, ns, rfl, hS, hl, q⟩ := h
    refine ⟨_, (pss_cons (ps_set (i := 1) sc_law.nd rfl (by first | exact .inl rfl | exact .inr rfl) (pe_lst (pa_cons pe_non (pa_cons pe_int (pa_cons pe_bl (pa_cons (pe_tup pa_nil) (pa_cons (pe_lst (pa_cons pe_str pa_nil)) (pa_cons (pe_disp (pps_cons pe_str pe_int pps_nil) (by rfl) (by rfl) (fun z => by cases z) (by decide)) (pa_cons pe_str (pa_cons pe_str (pa_cons pe_str (pa_cons pe_str (pa_cons pe_str (pa_cons pe_str (pa_cons pe_str (pa_cons pe_str pa_nil))))))))))))))))
      (pss_cons (ps_for PassesOwn.never rfl (pi_range1 (by rfl) T.b_range (pa_cons (pe_callB callMaxU (by rfl) T.b_max (by decide +kernel) (pa_cons pe_int (pa_cons (pe_callB callMinU (by rfl) T.b_min (by decide +kernel) (pa_cons (pe_callB (kLen (K := K) rfl) (by rfl) T.b_len (by decide +kernel) (pa_cons (pv 0) pa_nil)) (pa_cons pe_int pa_nil))) pa_nil))) pa_nil)) (pg_name (i := 2) sc_law.nd rfl (by first | exact .inl rfl | exact .inr rfl))
      (pss_cons (ps_set (i := 3) sc_law.nd rfl (by first | exact .inl rfl | exact .inr rfl) (pcall C_law_source hr (by omega) (by rfl) (pa_cons (pv 0) (pa_cons (pv 2) pa_nil))))
      (pss_cons (ps_setLc (i := 4) (own := [("_law_part", 8)]) (by rfl) sc_law.nd rfl rfl (sw_true rfl rfl rfl (by decide +kernel)) (pi_range1 (by rfl) T.b_range (pa_cons pe_int pa_nil)) (blkOk_by (N := ["_law_script", "_law_odd", "_law_turn", "_law_source_here", "_law_texts", "_law_thing", "_law_is_array", "_law_due", "_law_part", "_law_text_here"]) (sc := defScope s_law) (by decide +kernel)) (fun _ _ _ _ _ => (pg_name (i := 8) sc_law.nd rfl (by first | exact .inl rfl | exact .inr rfl))) (fun _ _ _ _ _ => pts_nil) (fun _ _ _ _ _ => (pcall C_law_text hr (by omega) (by rfl) (pa_cons (pv 3) pa_nil))))
      (pss_one (ps_for PassesOwn.never rfl (kList (K := K) rfl (pe_op (kAdd (K := K) rfl) (pe_op (kAdd (K := K) rfl) (pe_op (kAdd (K := K) rfl) (pv 1) (pe_lst (pa_cons pe_str (pa_cons pe_str (pa_cons pe_str (pa_cons pe_str pa_nil)))))) (pv 4)) (pe_lc (own := [("_law_text_here", 9)]) (by rfl) sc_law.nd (kList (K := K) rfl (pv 4)) (blkOk_by (N := ["_law_script", "_law_odd", "_law_turn", "_law_source_here", "_law_texts", "_law_thing", "_law_is_array", "_law_due", "_law_part", "_law_text_here"]) (sc := defScope s_law) (by decide +kernel)) (fun _ _ _ _ _ => (pg_name (i := 9) sc_law.nd rfl (by first | exact .inl rfl | exact .inr rfl))) (fun _ _ _ _ _ => pts_nil) (fun _ _ _ _ _ => (pe_op (kAdd (K := K) rfl) (pv 9) pe_str))))) (pg_name (i := 5) sc_law.nd rfl (by first | exact .inl rfl | exact .inr rfl))
      (pss_cons (ps_set (i := 6) sc_law.nd rfl (by first | exact .inl rfl | exact .inr rfl) (pe_and (pe_callB (kIsi (K := K) rfl) (by rfl) T.b_isinstance (by decide +kernel) (pa_cons (pv 5) (pa_cons (pbty (n := "str") (by rfl) T.b_str (by decide +kernel)) pa_nil))) (pe_one (pe_cmpR (kEq (K := K) rfl hr.units) (pe_slice (kSl (K := K) rfl) (pv 5) (po_some (pe_un un_neg pe_int)) po_none) pe_str (nomark _)))))
      (pss_cons (ps_set (i := 7) sc_law.nd rfl (by first | exact .inl rfl | exact .inr rfl) (pe_lst (pa_cons (pcall C_law_is_name hr (by omega) (by rfl) (pa_cons (pv 5) pa_nil)) (pa_cons (pcall C_law_is_name hr (by omega) (by rfl) (pa_cons (pe_ifExp (pt_val (pv 6)) (pe_slice (kSl (K := K) rfl) (pv 5) po_none (po_some (pe_un un_neg pe_int))) (pv 5)) pa_nil)) pa_nil))))
      (pss_cons (ps_if (pt_cmpR (kNe (K := K) rfl hr.units) (pe_lst (pa_cons (pcall C_is_name hr (by omega) (by rfl) (pa_cons (pv 5) pa_nil)) (pa_cons (pcall C_is_type hr (by omega) (by rfl) (pa_cons (pv 5) pa_nil)) pa_nil))) (pv 7) (nomark _)) (pss_one (ps_ret pe_bl)) pss_nil)
      (pss_one (ps_if (PW.pt (pw_and (pt_val (pe_ix (kIx (K := K) rfl) (pv 7) pe_int (fun _ _ => rfl))) (pw_and1 (pt_cmpR (kNe (K := K) rfl hr.units) (pcall C_element_of hr (by omega) (by rfl) (pa_cons (pv 5) pa_nil)) (pe_ifExp (pt_val (pv 6)) (pe_slice (kSl (K := K) rfl) (pv 5) po_none (po_some (pe_un un_neg pe_int))) pe_non) (nomark _))))) (pss_one (ps_ret pe_bl)) pss_nil))))))))))
      (pss_one (ps_ret (pe_and (pe_cmpR (kEq (K := K) rfl hr.units) (pglob (by rfl) T.g_TOP) (pe_tup (pa_cons pe_str (pa_cons pe_str pa_nil))) (nomark _)) (pe_one (pe_callB (kIsi (K := K) rfl) (by rfl) T.b_isinstance (by decide +kernel) (pa_cons (pglob (by rfl) T.g_TOP) (pa_cons (pbty (n := "tuple") (by rfl) T.b_tuple (by decide +kernel)) pa_nil))))))))), ?_⟩
    walk_at "start"
    walk_at "v"
    rename_i p0 h0 p1 h1 p2 h2 po ho
    have sm : Same H (upd (upd (upd (upd H p0 (.tup [])) p1 (.lst [.str "a"])) p2 (.dK [(Sum.inr "a", .int 1)])) po (.lst (odds p0 p1 p2))) :=
      same_mut (same_mut (same_mut (same_new h0) (by walk_at "fr")) (by walk_at "fr")) (by walk_at "fr")
    have eo : (upd (upd (upd (upd H p0 (.tup [])) p1 (.lst [.str "a"])) p2 (.dK [(Sum.inr "a", .int 1)])) po (.lst (odds p0 p1 p2))) po = some (.lst (odds p0 p1 p2)) := upd_same
    have th : ∀ x ∈ odds p0 p1 p2, ThingV K (upd (upd (upd (upd H p0 (.tup [])) p1 (.lst [.str "a"])) p2 (.dK [(Sum.inr "a", .int 1)])) po (.lst (odds p0 p1 p2))) x :=
      odds_things (by walk_at "hp") (by walk_at "hp") (by walk_at "hp")
    have hS1 := sm.seq hS
    rw [show (HO.lst [V.non, .int 5, .bl true, .ref p0, .ref p1, .ref p2, .str "", .str "[]", .str "a[]", .str "a[][]", .str "a []", .str "abcdefgh", .str "abcdefghi", .str "abcdefgh[]"]) = .lst (odds p0 p1 p2) from rfl]
    clear ho
    generalize (upd (upd (upd (upd H p0 (.tup [])) p1 (.lst [.str "a"])) p2 (.dK [(Sum.inr "a", .int 1)])) po (.lst (odds p0 p1 p2))) = H1 at *
    refine for_w walk_upto (fun i σ H' => ∃ v2 v3 v4 v5 v6 v7 v8 v9, σ = [some (.ref a), some (.ref po), v2, v3, v4, v5, v6, v7, v8, v9] ∧ Same H1 H') ⟨_, _, _, _, _, _, _, _, rfl, Same.refl _⟩ (fun _ _ _ _ _ => trivial) ?_ ?_
    · rintro i x σ H2 H2' hi ⟨v2, v3, v4, v5, v6, v7, v8, v9, rfl, s2⟩ ⟨rfl, hx⟩
      have hS2 := s2.seq hS1
      obtain ⟨rfl, hi63⟩ := upto_at (m := 63) hx (by omega)
      walk_at "v"
      refine ⟨a, ns, i, rfl, hS2, hl, by omega, by omega, fun ps H3 hps s3 hsrc => ?_⟩
      have eo2 := s2 _ _ eo
      have eo3 := s3 _ _ eo2
      walk_at "v"
      refine lc_dr (a := ps) hsrc (walk_upto (lo := 0) (n := 6)) hy_at (fun _ _ => trivial) (fun y => ∃ z : Str, y = .str z ∧ z.length ≤ 100 ∧ asc z) (by decide) (fun x H4 R Rn hx d4 hR => ?_) (fun D H4 ys hD d4 e hlen hE => ?_)
      · walk_at "v"
        exact ⟨ps, rfl, d4.src, fun z H5 d5 hz ha => hR _ _ d5 ⟨z, rfl, hz, ha⟩⟩
      · have npo : po ≠ ps := ne_of_none eo2 hps
        have eo4 := d4.keep _ _ eo3 npo
        have s4 : Same H2' H4 := fun b o eb => d4.keep _ _ (s3 _ _ eb) (ne_of_none eb hps)
        rw [upto_len] at hlen
        have lod : (odds p0 p1 p2).length = 14 := rfl
        walk_at "v"
        refine lc_f walk_list hy_at (fun H' s' => s'.seq (sq_lst (by walk_at "hp"))) fArr (by rw [hlen]; exact small1000 (by decide)) (fun x H5 R Rn hx s5 hR hN => ?_) (fun D2 H5 hD2 s5 e5 => ?_)
        · obtain ⟨z, rfl, hz, ha⟩ := hE x hx
          walk_at "v"
          refine v_addS (Nat.le_of_lt (small1000 (by have := arr_len; unfold arrS at this; omega))) ?_
          exact hR _ _ (Same.refl _) rfl
        · have hf : (ys.filterMap fArr).length ≤ 6 := by rw [← hlen]; exact List.length_filterMap_le _ _
          walk_at "v"
          rename_i pl hpl
          have s05 : Same H1 H5 := by
            refine Same.trans (s2.trans s4) ?_
            walk_at "sm"
          have eL : (upd H5 pl (.lst (things p0 p1 p2 ys))) pl = some (.lst (things p0 p1 p2 ys)) := upd_same
          have s0L : Same H1 (upd H5 pl (.lst (things p0 p1 p2 ys))) := by walk_at "sm"
          have th2 : ∀ x ∈ things p0 p1 p2 ys, ThingV K (upd H5 pl (.lst (things p0 p1 p2 ys))) x := things_ok (fun x hx => (th x hx).same s0L) hE
          show ForT _ _ _ _ _ (upd H5 pl (.lst (things p0 p1 p2 ys)))
          generalize (upd H5 pl (.lst (things p0 p1 p2 ys))) = HL at *
          refine for_w (walk_list (xs := things p0 p1 p2 ys)) (fun j σ H' => ∃ v5 v6 v7 v8 v9, σ = [some (.ref a), some (.ref po), some (.int i), some (.ref ps), some (.ref D), v5, v6, v7, v8, v9] ∧ Same HL H') ⟨_, _, _, _, _, rfl, Same.refl _⟩ (fun _ _ _ _ p => by obtain ⟨_, _, _, _, _, _, s⟩ := p; exact sq_lst (s _ _ eL)) ?_ ?_
          · rintro j x σ H6 H6' hj ⟨w5, w6, w7, w8, w9, rfl, s6⟩ ⟨rfl, hx⟩
            obtain ⟨⟨ty, ht, hk⟩, hsh⟩ := (th2 x (List.mem_of_getElem? hx)).same s6
            rcases ty_cases ht with ⟨rfl, z, rfl⟩ | ⟨hne, hno⟩
            · have hz := hsh z rfl
              have hz1 := hz.1
              cases he : ends z with
              | true =>
                have hb : decide (cutS z (some (-2)) none = "[]") = true := decide_eq_true ((back_iff z).mpr he)
                have hf2 := front_ok hz
                have hr2 : Txt.removesuffix z arrS = cutS z none (some (-2)) := cut_ends he
                walk_at "v"
                refine v_iteB (fun _ => ?_) (fun _ => ?_)
                · walk_at "v"
                  exact ⟨_, _, _, _, _, rfl, by walk_at "sm"⟩
                · walk_at "v"
                  exact ⟨_, _, _, _, _, rfl, by walk_at "sm"⟩
              | false =>
                have hb : decide (cutS z (some (-2)) none = "[]") = false := decide_eq_false fun h => by rw [(back_iff z).mp h] at he; cases he
                have hr2 : Txt.removesuffix z arrS = z := cut_not he
                walk_at "v"
                refine v_iteB (fun _ => ?_) (fun _ => ?_)
                · walk_at "v"
                  exact ⟨_, _, _, _, _, rfl, by walk_at "sm"⟩
                · walk_at "v"
                  exact ⟨_, _, _, _, _, rfl, by walk_at "sm"⟩
            · have hb : isB ty "str" = false := by
                unfold isB
                rw [beq_eq_false_iff_ne.mpr hne]
                simp
              walk_at "v"
              exact ⟨_, _, _, _, _, rfl, by walk_at "sm"⟩
          · rintro σ H6 ⟨w5, w6, w7, w8, w9, rfl, s6⟩
            exact ⟨_, _, _, _, _, _, _, _, rfl, s0L.trans s6⟩
    · rintro σ H2 ⟨v2, v3, v4, v5, v6, v7, v8, v9, rfl, s2⟩
      walk_at "v"
      rename_i pt hpt
      refine v_eqD (d := .tuple [.str "", .str "top"]) (e := .tuple [.str "", .str "top"]) (.tup (T.t_TOP _) (.cons (.str _) (.cons (.str _) .nil))) (.tup (.inl (.inl upd_same)) (.cons (.str _) (.cons (.str _) .nil))) (by decide +kernel) (by decide +kernel) ?_
      rw [show PyData.eqv (.tuple [.str "", .str "top"]) (.tuple [.str "", .str "top"]) = true by decide +kernel]
      walk_at "v"
      refine v_isiK (.tup (T.t_TOP _)) rfl rfl ?_
      exact q _
end K01

namespace K01
open PySem PySem.Spec PyProof.Rows L2 Kit
theorem all_mk {l : PySem.W.OpenLaw} {w : World} {K : PySem.W.Frag} {h : Heap} {mg : Str → Option Value} {fa f0 f1 f2 f3 f4 f5 f6 f7 : Addr} (X : K.In h) (G : h.Ns mainGlobals mg) (hfa : mg "law" = some (.ref fa))
    {od0 an0 od1 an1 od2 an2 od3 an3 od4 an4 od5 an5 od6 an6 od7 an7 : Option Addr} {sl0 sl1 sl2 sl3 sl4 sl5 sl6 sl7 : Array (Option Value)} {oc0 kV0 dc0 pm0 cd0 ct0 oc1 kV1 dc1 pm1 cd1 ct1 oc2 kV2 dc2 pm2 cd2 ct2 oc3 kV3 dc3 pm3 cd3 ct3 oc4 kV4 dc4 pm4 cd4 ct4 oc5 kV5 dc5 pm5 cd5 ct5 oc6 kV6 dc6 pm6 cd6 ct6 oc7 kV7 dc7 pm7 cd7 ct7 : Value} {aT : Addr} {t1 t2 t3 t4 : Tok} {ddT : Option Addr} {nT : Nat} {slT : Array (Option Value)}
    (a0 : PySem.W.nsIn K mainGlobals "is_name" = some (some (.ref f0))) (l0 : K.lookup f0 = some ⟨oc0, od0, .func (PySem.W.fnOf "is_name" "is_name" (defArgs s_is_name) (defBody s_is_name) (defScope s_is_name) .none kV0 dc0 pm0 an0 cd0 ct0), sl0⟩) (c0 : PySem.W.codeIn K cd0 "is_name" = true) (k0 : PySem.W.keepIn K (.ref f0) = true)
    (a1 : PySem.W.nsIn K mainGlobals "is_type" = some (some (.ref f1))) (l1 : K.lookup f1 = some ⟨oc1, od1, .func (PySem.W.fnOf "is_type" "is_type" (defArgs s_is_type) (defBody s_is_type) (defScope s_is_type) .none kV1 dc1 pm1 an1 cd1 ct1), sl1⟩) (c1 : PySem.W.codeIn K cd1 "is_type" = true) (k1 : PySem.W.keepIn K (.ref f1) = true)
    (a2 : PySem.W.nsIn K mainGlobals "element_of" = some (some (.ref f2))) (l2 : K.lookup f2 = some ⟨oc2, od2, .func (PySem.W.fnOf "element_of" "element_of" (defArgs s_element_of) (defBody s_element_of) (defScope s_element_of) .none kV2 dc2 pm2 an2 cd2 ct2), sl2⟩) (c2 : PySem.W.codeIn K cd2 "element_of" = true) (k2 : PySem.W.keepIn K (.ref f2) = true)
    (a3 : PySem.W.nsIn K mainGlobals "_law_source" = some (some (.ref f3))) (l3 : K.lookup f3 = some ⟨oc3, od3, .func (PySem.W.fnOf "_law_source" "_law_source" (defArgs s_law_source) (defBody s_law_source) (defScope s_law_source) .none kV3 dc3 pm3 an3 cd3 ct3), sl3⟩) (c3 : PySem.W.codeIn K cd3 "_law_source" = true) (k3 : PySem.W.keepIn K (.ref f3) = true)
    (a4 : PySem.W.nsIn K mainGlobals "_law_draw" = some (some (.ref f4))) (l4 : K.lookup f4 = some ⟨oc4, od4, .func (PySem.W.fnOf "_law_draw" "_law_draw" (defArgs s_law_draw) (defBody s_law_draw) (defScope s_law_draw) .none kV4 dc4 pm4 an4 cd4 ct4), sl4⟩) (c4 : PySem.W.codeIn K cd4 "_law_draw" = true) (k4 : PySem.W.keepIn K (.ref f4) = true)
    (a5 : PySem.W.nsIn K mainGlobals "_law_is_name" = some (some (.ref f5))) (l5 : K.lookup f5 = some ⟨oc5, od5, .func (PySem.W.fnOf "_law_is_name" "_law_is_name" (defArgs s_law_is_name) (defBody s_law_is_name) (defScope s_law_is_name) .none kV5 dc5 pm5 an5 cd5 ct5), sl5⟩) (c5 : PySem.W.codeIn K cd5 "_law_is_name" = true) (k5 : PySem.W.keepIn K (.ref f5) = true)
    (a6 : PySem.W.nsIn K mainGlobals "_law_text" = some (some (.ref f6))) (l6 : K.lookup f6 = some ⟨oc6, od6, .func (PySem.W.fnOf "_law_text" "_law_text" (defArgs s_law_text) (defBody s_law_text) (defScope s_law_text) .none kV6 dc6 pm6 an6 cd6 ct6), sl6⟩) (c6 : PySem.W.codeIn K cd6 "_law_text" = true) (k6 : PySem.W.keepIn K (.ref f6) = true)
    (a7 : PySem.W.nsIn K mainGlobals "law" = some (some (.ref f7))) (l7 : K.lookup f7 = some ⟨oc7, od7, .func (PySem.W.fnOf "law" "law" (defArgs s_law) (defBody s_law) (defScope s_law) .none kV7 dc7 pm7 an7 cd7 ct7), sl7⟩) (c7 : PySem.W.codeIn K cd7 "law" = true) (k7 : PySem.W.keepIn K (.ref f7) = true)
    (z_len : PySem.W.nsIn K mainGlobals "len" = some none)
    (z_max : PySem.W.nsIn K mainGlobals "max" = some none)
    (z_min : PySem.W.nsIn K mainGlobals "min" = some none)
    (z_int : PySem.W.nsIn K mainGlobals "int" = some none)
    (z_str : PySem.W.nsIn K mainGlobals "str" = some none)
    (z_bool : PySem.W.nsIn K mainGlobals "bool" = some none)
    (z_list : PySem.W.nsIn K mainGlobals "list" = some none)
    (z_tuple : PySem.W.nsIn K mainGlobals "tuple" = some none)
    (z_dict : PySem.W.nsIn K mainGlobals "dict" = some none)
    (z_type : PySem.W.nsIn K mainGlobals "type" = some none)
    (z_isinstance : PySem.W.nsIn K mainGlobals "isinstance" = some none)
    (z_all : PySem.W.nsIn K mainGlobals "all" = some none)
    (z_any : PySem.W.nsIn K mainGlobals "any" = some none)
    (z_range : PySem.W.nsIn K mainGlobals "range" = some none)
    (z_zip : PySem.W.nsIn K mainGlobals "zip" = some none)
    (z_repr : PySem.W.nsIn K mainGlobals "repr" = some none)
    (z_set : PySem.W.nsIn K mainGlobals "set" = some none)
    (g1 : PySem.W.nsIn K mainGlobals "MOST_LETTERS" = some (some (.int 8 t1)))
    (g2 : PySem.W.nsIn K mainGlobals "ARRAY_SIGN" = some (some (.str "[]" t2)))
    (g3 : PySem.W.nsIn K mainGlobals "TOP" = some (some (.ref aT)))
    (g4 : K.lookup aT = some ⟨.type "tuple", ddT, .seq #[.str "" t3, .str "top" t4] nT, slT⟩)
    : ∃ fd : FuncData, (∀ (s : Shared) (v : Value), BindsTo s fd ⟨[v], []⟩ [("_law_script", v)]) ∧ ∀ base : Heap, K.In base → base.Ns mainGlobals mg → FnOk l.prog w K mg base CX0 3 fa fd ["_law_script"] (spLaw K) := by
  have e := hfa.symm.trans (PySem.W.mg_of X G a7)
  cases e
  have BB : Bi mg := ⟨PySem.W.mg_none_of X G z_len, PySem.W.mg_none_of X G z_max, PySem.W.mg_none_of X G z_min, PySem.W.mg_none_of X G z_int, PySem.W.mg_none_of X G z_str, PySem.W.mg_none_of X G z_bool, PySem.W.mg_none_of X G z_list, PySem.W.mg_none_of X G z_tuple, PySem.W.mg_none_of X G z_dict, PySem.W.mg_none_of X G z_type, PySem.W.mg_none_of X G z_isinstance, PySem.W.mg_none_of X G z_all, PySem.W.mg_none_of X G z_any, PySem.W.mg_none_of X G z_range, PySem.W.mg_none_of X G z_zip, PySem.W.mg_none_of X G z_repr, PySem.W.mg_none_of X G z_set⟩
  have T : TxtL K mg aT := { BB with
    g_MOST_LETTERS := ⟨_, PySem.W.mg_of X G g1, _, rfl⟩
    g_ARRAY_SIGN := ⟨_, PySem.W.mg_of X G g2, _, rfl⟩
    g_TOP := ⟨_, PySem.W.mg_of X G g3, rfl⟩
    t_TOP := fun H => .inr ⟨_, _, _, g4, rfl, rfl, by simp; decide, .cons ⟨_, rfl⟩ (.cons ⟨_, rfl⟩ .nil)⟩ }
  have F0 := fun_mk (st := s_is_name) l0 c0 k0
  have F1 := fun_mk (st := s_is_type) l1 c1 k1
  have F2 := fun_mk (st := s_element_of) l2 c2 k2
  have F3 := fun_mk (st := s_law_source) l3 c3 k3
  have F4 := fun_mk (st := s_law_draw) l4 c4 k4
  have F5 := fun_mk (st := s_law_is_name) l5 c5 k5
  have F6 := fun_mk (st := s_law_text) l6 c6 k6
  have F7 := fun_mk (st := s_law) l7 c7 k7
  have b0 := F0.binds (ps := ["value"]) fun _ _ _ _ _ _ us hl => match us, hl with | [_], _ => rfl
  have b1 := F1.binds (ps := ["value"]) fun _ _ _ _ _ _ us hl => match us, hl with | [_], _ => rfl
  have b2 := F2.binds (ps := ["value"]) fun _ _ _ _ _ _ us hl => match us, hl with | [_], _ => rfl
  have b3 := F3.binds (ps := ["_law_script", "_law_turn"]) fun _ _ _ _ _ _ us hl => match us, hl with | [_, _], _ => rfl
  have b4 := F4.binds (ps := ["_law_source_here", "_law_amount"]) fun _ _ _ _ _ _ us hl => match us, hl with | [_, _], _ => rfl
  have b5 := F5.binds (ps := ["_law_thing"]) fun _ _ _ _ _ _ us hl => match us, hl with | [_], _ => rfl
  have b6 := F6.binds (ps := ["_law_source_here"]) fun _ _ _ _ _ _ us hl => match us, hl with | [_], _ => rfl
  refine ⟨PySem.W.fnOf "law" "law" (defArgs s_law) (defBody s_law) (defScope s_law) .none kV7 dc7 pm7 an7 cd7 ct7, fun s v => .of_eq rfl, fun base _ _ => ?_⟩
  have C_is_name : Cal l.prog w K mg base 1 "is_name" ["value"] (spIsName K) := ⟨⟨f0, _, ok_is_name F0 T.toTxt, PySem.W.mg_of X G a0, k0, b0⟩⟩
  have C_is_type : Cal l.prog w K mg base 2 "is_type" ["value"] (spIsType K) := ⟨⟨f1, _, ok_is_type F1 T.toTxt C_is_name, PySem.W.mg_of X G a1, k1, b1⟩⟩
  have C_element_of : Cal l.prog w K mg base 1 "element_of" ["value"] spElem := ⟨⟨f2, _, ok_element_of F2 T.toTxt, PySem.W.mg_of X G a2, k2, b2⟩⟩
  have C_law_source : Cal l.prog w K mg base 1 "_law_source" ["_law_script", "_law_turn"] (spSource K) := ⟨⟨f3, _, ok_source F3 T.toTxt.toBi, PySem.W.mg_of X G a3, k3, b3⟩⟩
  have C_law_draw : Cal l.prog w K mg base 1 "_law_draw" ["_law_source_here", "_law_amount"] spDraw := ⟨⟨f4, _, ok_draw F4 T.toTxt.toBi, PySem.W.mg_of X G a4, k4, b4⟩⟩
  have C_law_is_name : Cal l.prog w K mg base 1 "_law_is_name" ["_law_thing"] (spIsName K) := ⟨⟨f5, _, ok_law_is_name F5 T.toTxt, PySem.W.mg_of X G a5, k5, b5⟩⟩
  have C_law_text : Cal l.prog w K mg base 2 "_law_text" ["_law_source_here"] spText := ⟨⟨f6, _, ok_law_text F6 T.toTxt C_law_draw, PySem.W.mg_of X G a6, k6, b6⟩⟩
  exact ok_law F7 T C_law_source C_law_text C_law_is_name C_is_name C_is_type C_element_of
end K01
open PySem PySem.W PyProof.Rows
set_option maxRecDepth 100000 in
set_option maxHeartbeats 0 in
theorem PySem.Challenge.cw_lateclasses_k01_names_and_types_holds : PySem.Challenge.rw_lateclasses_k01_names_and_types.Holds := by
  w_on; o_law; k_head; (case hw => w_witness2)
  k_fill
  refine L2.walk_of (l := PySem.Challenge.rw_lateclasses_k01_names_and_types) (n := 63) (k := 3) (x := "_law_script") (CX := fun _ => L2.CX0) (sp := fun w => K01.spLaw _) rfl (by decide) rfl ⟨rfl, by decide, by decide⟩ (fun w h Y => PySem.W.kIn_of Y) ?F (fun _ _ a ns hl _ hS => ⟨a, ns, rfl, hS, hl, fun _ => rfl⟩) (fun _ _ _ _ _ h => h)
  case F =>
    intro w mg fa h KX G hmg
    refine' K01.all_mk KX G hmg ?a0 ?l0 ?c0 ?k0 ?a1 ?l1 ?c1 ?k1 ?a2 ?l2 ?c2 ?k2 ?a3 ?l3 ?c3 ?k3 ?a4 ?l4 ?c4 ?k4 ?a5 ?l5 ?c5 ?k5 ?a6 ?l6 ?c6 ?k6 ?a7 ?l7 ?c7 ?k7 ?z_len ?z_max ?z_min ?z_int ?z_str ?z_bool ?z_list ?z_tuple ?z_dict ?z_type ?z_isinstance ?z_all ?z_any ?z_range ?z_zip ?z_repr ?z_set ?g1 ?g2 ?g3 ?g4
    (case a0 => k_is); (case l0 => k_is); (case c0 => k_is); (case k0 => k_is); (case a1 => k_is); (case l1 => k_is); (case c1 => k_is); (case k1 => k_is); (case a2 => k_is); (case l2 => k_is); (case c2 => k_is); (case k2 => k_is); (case a3 => k_is); (case l3 => k_is); (case c3 => k_is); (case k3 => k_is); (case a4 => k_is); (case l4 => k_is); (case c4 => k_is); (case k4 => k_is); (case a5 => k_is); (case l5 => k_is); (case c5 => k_is); (case k5 => k_is); (case a6 => k_is); (case l6 => k_is); (case c6 => k_is); (case k6 => k_is); (case a7 => k_is); (case l7 => k_is); (case c7 => k_is); (case k7 => k_is); (case z_len => k_is); (case z_max => k_is); (case z_min => k_is); (case z_int => k_is); (case z_str => k_is); (case z_bool => k_is); (case z_list => k_is); (case z_tuple => k_is); (case z_dict => k_is); (case z_type => k_is); (case z_isinstance => k_is); (case z_all => k_is); (case z_any => k_is); (case z_range => k_is); (case z_zip => k_is); (case z_repr => k_is); (case z_set => k_is); (case g1 => k_is); (case g2 => k_is); (case g3 => k_is); (case g4 => k_is)

