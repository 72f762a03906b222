import PyProof.Rows.All
import Wide.All
import OpenK.AllK
import Wide.FinOn
import HandS.ForMost
import HandS.IsInst
import HandS.StrMore
import HandS.Flow
import HandS.TupAny
import HandS.More
import HandS.Walk
import HandS.Zip
import PyProof.TypeEq
import KE.GoesMore
import HandS.NoneIn
import HandS.Property
import KE.KExcInit
import HandS.ExcInit
import HandS.ExcField
import KE.KExcIs
import PyProof.ReprRoads
import KE.KDictDisplayH
import HandS.WordsExc
import HandS.ExcIs
import PySem.Challenge.RW_lateclasses_k03_methods_made
set_option Elab.async false
set_option linter.all false
set_option maxRecDepth 100000
set_option maxHeartbeats 4000000
namespace Kit
open PySem PySem.Spec PyProof.Rows L2

/-! ### calls -/
/-- a def of the top that is ready to be called -/
structure Cal (P : Program) (w : World) (K : PySem.W.Frag) (mg : Str → Option Value) (base : Heap) (k : Nat) (x : Str) (ps : List Str) (sp : Sp) : Prop where
  ex : ∃ (f : Addr) (fd : FuncData), FnOk P w K mg base CX0 k f fd ps sp ∧ mg x = some (.ref f) ∧ PySem.W.keepIn K (.ref f) = true ∧ Binds K fd ps []
section
variable {X : Cx} {x : Str} {e : Expr} {es : List Expr} {t : TA} {p pos : Pos} {k j : Nat} {ps : List Str} {sp : Sp}
theorem pcall (C : Cal X.prog X.w X.K X.mg X.base k x ps sp) (hr : Room j X.A) (hk : k ≤ j) (hg : Gl X x) (ha : PA X (e :: es) t) (hdb : (x == ("__debug__" : Str)) = false := by decide)
    (he : starEach (e :: es) X.env = (false, eval e X.env) :: starEach es X.env := by rfl) (hpl : (backTo pos (starEach es X.env)).any (·.1) = false := by rfl) :
    PE X (.Call (.Name x p) (e :: es) [] pos) (tCall sp [] E0 t) := by
  obtain ⟨f, fd, F, hm, hkp, hb⟩ := C.ex
  exact pe_call F (hr.mono hk) hg hm hkp hb .nil pass0 ha hdb he hpl
theorem pcall0 (C : Cal X.prog X.w X.K X.mg X.base k x ps sp) (hr : Room j X.A) (hk : k ≤ j) (hg : Gl X x) (hdb : (x == ("__debug__" : Str)) = false := by decide) :
    PE X (.Call (.Name x p) [] [] pos) (tCall sp [] E0 tNil) := by
  obtain ⟨f, fd, F, hm, hkp, hb⟩ := C.ex
  exact pe_call0 F (hr.mono hk) hg hm hkp hb .nil pass0 hdb
theorem callOr {f : Value} {r r' : List V → Hp → VK → Prop} (h : CallR X f r) (h' : CallR X f r') : CallR X f (fun xs H Q => r xs H Q ∨ r' xs H Q) := fun pins s σ H xs us Q I rv q =>
  q.elim (h pins s σ H xs us Q I rv) (h' pins s σ H xs us Q I rv)
/-- a name of the top that holds a plain value -/
def GlobV (mg : Str → Option Value) (x : Str) (v : V) : Prop := ∃ u, mg x = some u ∧ RelV v u
theorem pglob {v : V} (hg : Gl X x) (h : GlobV X.mg x v) (hdb : (x == ("__debug__" : Str)) = false := by decide) : PE X (.Name x pos) (tC v) := by
  obtain ⟨u, hm, r⟩ := h
  exact pe_glob hg hm r hdb
theorem pbty {n : String} (hg : Gl X x) (hm : X.mg x = none) (hv : bootBuiltins x = some (.type n)) (hn : x ≠ "__name__" := by decide) (hdb : (x == ("__debug__" : Str)) = false := by decide) : PE X (.Name x pos) (tC (.ty n)) :=
  pe_bltn hg hm hv rfl hn hdb

/-! ### == of types -/
def tyK (a : String) : Bool := ["int", "str", "bool", "NoneType", "float", "list", "tuple", "dict"].contains a
theorem tyT (s : Shared) {a : String} (h : tyK a = true) : s.TypeIs (.type a) "type" := by
  have e : a = "int" ∨ a = "str" ∨ a = "bool" ∨ a = "NoneType" ∨ a = "float" ∨ a = "list" ∨ a = "tuple" ∨ a = "dict" := by
    simpa [tyK] using h
  rcases e with rfl | rfl | rfl | rfl | rfl | rfl | rfl | rfl
  · exact TypeEq.meta_int s
  · exact TypeEq.meta_str s
  · exact TypeEq.meta_bool s
  · exact TypeEq.meta_NoneType s
  · exact TypeEq.meta_float s
  · exact TypeEq.meta_list s
  · exact TypeEq.meta_tuple s
  · exact TypeEq.meta_dict s
def rTyEq (neg : Bool) : R2 := fun x y H Q => ∃ a b, x = .ty a ∧ y = .ty b ∧ tyK a = true ∧ tyK b = true ∧ Q (.bl (if neg then !decide (a = b) else decide (a = b))) H
theorem op_eqTy : OpR X (compareOp .Eq) (rTyEq false) := by
  intro pins s σ H x y v u Q I rx ry h
  obtain ⟨a, b, rfl, rfl, ha, hb, q⟩ := h
  cases (show v = Value.type a from rx)
  cases (show u = Value.type b from ry)
  by_cases e : a = b
  · subst e
    refine TypeEq.eq_type_same (fun s' => tyT s' ha) ⟨.bl true, H, I, rfl, ?_⟩
    simpa using q
  · refine TypeEq.eq_type_other (fun s' => tyT s' ha) (fun s' => tyT s' hb) ?_ ⟨.bl false, H, I, rfl, ?_⟩
    · rw [ty_beq]; exact decide_eq_false e
    · simpa [e] using q
end
theorem slot_type_ne : Slot "type" (cmpInfo .NotEq).2.1 "object.__ne__" :=
  .of (owner := "object") (n := "__ne__") (by rw [typeLookup_type, builtinLookup_eq_fast]; kernel_rfl) (by decide +kernel) (by decide +kernel) (by decide +kernel)
    (by first | exact .inl (by decide +kernel) | exact .inr (by decide +kernel)) (by rw [isSubtype_type]; kernel_rfl)
theorem slot_type_ne_refl : Slot "type" (cmpInfo .NotEq).2.2 "object.__ne__" :=
  .of (owner := "object") (n := "__ne__") (by rw [typeLookup_type, builtinLookup_eq_fast]; kernel_rfl) (by decide +kernel) (by decide +kernel) (by decide +kernel)
    (by first | exact .inl (by decide +kernel) | exact .inr (by decide +kernel)) (by rw [isSubtype_type]; kernel_rfl)
theorem slot_ty_eq : Slot "type" "__eq__" "object.__eq__" := TypeEq.slot_type_eq
theorem slot_ty_ne : Slot "type" "__ne__" "object.__ne__" := slot_type_ne
section
variable {prog : Program} {w : World} {A : Around} {E : Value → Shared → Prop} {s : Shared}
theorem objNe_type_same {a : String} (ha : tyK a = true) {Q : Fin → Shared → Prop} (hq : Q (.done (.ret (.bool false))) s) : wpAny (model prog w) A (Builtin.«object.__ne__» ⟨[.type a, .type a], []⟩) Q E s := by
  unfold Builtin.«object.__ne__»
  repeat (first
    | with_reducible refine wpAny_cRoomFor_or (.inl rfl) ?_
    | (with_reducible refine wpAny_callSpecialIfBound?_slot (tyT s ha) slot_ty_eq (call_gives slot_ty_eq (tyT s ha) F.entry_object_eq (F.args_object_eq_2 _ _) (TypeEq.object_eq_same rfl (by simp)) ?_))
    | wp_step)
  show wpAny _ _ (do let x ← truthy (.bool true); ret (Value.bool !x)) _ _ _
  exact wpAny_bind (wpAny_truthy_bool (wpAny_pure hq))
theorem objNe_type_other {a b : String} (ha : tyK a = true) (hne : (Value.type a == Value.type b) = false) {Q : Fin → Shared → Prop} (hq : Q (.done (.ret .notImplemented)) s) : wpAny (model prog w) A (Builtin.«object.__ne__» ⟨[.type a, .type b], []⟩) Q E s := by
  unfold Builtin.«object.__ne__»
  repeat (first
    | with_reducible refine wpAny_cRoomFor_or (.inl rfl) ?_
    | (with_reducible refine wpAny_callSpecialIfBound?_slot (tyT s ha) slot_ty_eq (call_gives slot_ty_eq (tyT s ha) F.entry_object_eq (F.args_object_eq_2 _ _) (TypeEq.object_eq_other rfl hne) ?_))
    | wp_step)
  exact wpAny_pure hq
theorem rc_ne_decline {a b : Value} {T id : String} {k : Bool} {Q : Value → Shared → Prop} (ha : ∀ s' : Shared, s'.TypeIs a T) (hb : ∀ s' : Shared, s'.TypeIs b T)
    (h1 : Slot T (cmpInfo .NotEq).2.1 id) (h2 : Slot T (cmpInfo .NotEq).2.2 id) (hv : [a, b].any Value.onHeap = false) (hk : isSame a b = pure k) {M : Model}
    (hc : wpAny M A (call (.builtin id) [a, b]) (fun v s₁ => v = .notImplemented ∧ wpAny M A (call (.builtin id) [b, a]) (fun v s₂ => v = .notImplemented ∧ Q (.bool (!k)) s₂) E s₁) E s) :
    wpAny M A (richCompare .NotEq a b) Q E s := by
  rcases hi : cmpInfo CmpOp.NotEq with ⟨sym, f, r⟩
  rw [hi] at h1 h2
  simp only [richCompare, hi, (ha s).oneThing_none]
  try with_reducible refine wpAny_holding ?_
  refine wpAny_bind (wpAny_cRoomFor_or (.inl hv) ?_)
  refine wpAny_bind (wpAny_typeOf (ha s) (wpAny_bind (wpAny_typeOf (hb s) ?_)))
  simp only [bne_self_eq_false, Bool.false_eq_true, if_false, pure_bind, Bool.not_false, if_true]
  refine wpAny_bind (m := tryCompare a _ b) (wpAny_tryCompare_declines (ha s) h1 (wpAny_mono hc (fun v s₁ h₁ => ⟨h₁.1, ?_⟩) fun _ _ x => x))
  refine wpAny_bind (m := tryCompare b _ a) (wpAny_tryCompare_declines (hb s₁) h2 (wpAny_mono h₁.2 (fun v s₂ h₂ => ⟨h₂.1, ?_⟩) fun _ _ x => x))
  refine wpAny_bind (wpAny_rule (wpAny_bind (wpAny_of_eq hk (wpAny_pure h₂.2))))
theorem args_ne (a b : Value) : argsOk "object.__ne__" ⟨[a, b], []⟩ := by unfold argsOk; kernel_rfl
theorem ne_type_same {a : String} (ha : tyK a = true) {Q : Value → Shared → Prop} (h : Q (.bool false) s) : wpAny (model prog w) A (compareOp .NotEq (.type a) (.type a)) Q E s := by
  show wpAny _ A (richCompare .NotEq _ _) Q E s
  exact wpAny_richCompare_same (T := "type") (tyT s ha) (tyT s ha) slot_type_ne
    (wpAny_call_entry slot_type_ne (tyT s ha) F.cmpEntry_ne (objNe_type_same ha ⟨_, rfl, (by intro e; cases e), h⟩) (args_ne _ _))
theorem ne_type_other {a b : String} (ha : tyK a = true) (hb : tyK b = true) (hne : (Value.type a == Value.type b) = false) {Q : Value → Shared → Prop} (h : Q (.bool true) s) : wpAny (model prog w) A (compareOp .NotEq (.type a) (.type b)) Q E s := by
  have hne' : (Value.type b == Value.type a) = false := by
    rw [Bool.eq_false_iff] at hne ⊢
    intro e
    exact hne (by rw [beq_iff_eq] at e ⊢; exact e.symm)
  show wpAny _ A (richCompare .NotEq _ _) Q E s
  exact rc_ne_decline (T := "type") (k := false) (fun s' => tyT s' ha) (fun s' => tyT s' hb) slot_type_ne slot_type_ne_refl rfl (by rw [isSame_plain rfl, hne])
    (wpAny_call_entry slot_type_ne (tyT s ha) F.cmpEntry_ne (objNe_type_other ha hne ⟨_, rfl, rfl,
      wpAny_call_entry slot_type_ne_refl (tyT s hb) F.cmpEntry_ne (objNe_type_other hb hne' ⟨_, rfl, rfl, h⟩) (args_ne _ _)⟩) (args_ne _ _))
end
section
variable {X : Cx}
theorem op_neTy : OpR X (compareOp .NotEq) (rTyEq true) := by
  intro pins s σ H x y v u Q I rx ry h
  obtain ⟨a, b, rfl, rfl, ha, hb, q⟩ := h
  cases (show v = Value.type a from rx)
  cases (show u = Value.type b from ry)
  by_cases e : a = b
  · subst e
    refine ne_type_same ha ⟨.bl false, H, I, rfl, ?_⟩
    simpa using q
  · refine ne_type_other ha hb ?_ ⟨.bl true, H, I, rfl, ?_⟩
    · rw [ty_beq]; exact decide_eq_false e
    · simpa [e] using q

/-! ### operators whatever the kinds -/
theorem opAdd : OpR X (binaryOp .Add) (fun x y H Q => rI0 (fun i j => .int (i + j)) x y H Q ∨ (∃ i j, x = .str i ∧ y = .str j ∧ i.length + j.length ≤ sizeLine ∧ Q (.str (i ++ j)) H) ∨ rCat x y H Q ∨ rCatA X.K x y H Q) :=
  op_add.or (op_add_str.or (op_cat.or op_catA))
variable {j : Nat}
theorem opEq (hr : X.A.units + 64 < cLine) : OpR X (compareOp .Eq) (fun x y H Q => rEq x y H Q ∨ rTyEq false x y H Q ∨ rEqD X.K x y H Q) := op_eq.or (op_eqTy.or (op_eqD hr))
theorem opNe (hr : X.A.units + 64 < cLine) : OpR X (compareOp .NotEq) (fun x y H Q => rNe x y H Q ∨ rTyEq true x y H Q ∨ rNeD X.K x y H Q) := op_ne.or (op_neTy.or (op_neD hr))
theorem opLt : OpR X (compareOp .Lt) (fun x y H Q => rI0 (fun i j => .bl (decide (i < j))) x y H Q ∨ (∃ i j, x = .str i ∧ y = .str j ∧ Q (.bl (decide (i.cps.toList < j.cps.toList))) H)) := op_lt.or op_lt_str
theorem opLe : OpR X (compareOp .LtE) (fun x y H Q => rI0 (fun i j => .bl (decide (i ≤ j))) x y H Q ∨ (∃ i j, x = .str i ∧ y = .str j ∧ Q (.bl (!decide (j.cps.toList < i.cps.toList))) H)) := op_le.or op_le_str
theorem opGt : OpR X (compareOp .Gt) (fun x y H Q => rI0 (fun i j => .bl (decide (j < i))) x y H Q ∨ (∃ i j, x = .str i ∧ y = .str j ∧ Q (.bl (decide (j.cps.toList < i.cps.toList))) H)) := op_gt.or op_gt_str
theorem opGe : OpR X (compareOp .GtE) (fun x y H Q => rI0 (fun i j => .bl (decide (j ≤ i))) x y H Q ∨ (∃ i j, x = .str i ∧ y = .str j ∧ Q (.bl (!decide (i.cps.toList < j.cps.toList))) H)) := op_ge.or op_ge_str
theorem callMax (hc : X.calm = true := by rfl) : CallR X (.builtin "max") (fun xs H Q => ∃ i j, xs = [.int i, .int j] ∧ Q (.int (if j > i then j else i)) H) := call_max2 hc
theorem callMin (hc : X.calm = true := by rfl) : CallR X (.builtin "min") (fun xs H Q => ∃ i j, xs = [.int i, .int j] ∧ Q (.int (if j < i then j else i)) H) := call_min2 hc
theorem callAll (hc : X.calm = true := by rfl) : CallR X (.builtin "all") (rAll X.K) := cr_all hc
theorem callAny (hc : X.calm = true := by rfl) : CallR X (.builtin "any") (rAny X.K) := cr_any hc
theorem callIsi : CallR X (.builtin "isinstance") (rIsi X.K) := call_isi
theorem ixU : IxR X (rIx X.K) := ix_seq
theorem slU : SlR X (fun x lo hi H Q => rSlL X.K x lo hi H Q ∨ rSlS x lo hi H Q ∨ rSlA X.K x lo hi H Q) := sl_list.or (sl_str.or sl_tupA)
def rLenU (K : PySem.W.Frag) : List V → Hp → VK → Prop := fun xs H Q => (∃ p ys, xs = [.ref p] ∧ (SqL K H p ys ∨ SqT K H p ys) ∧ Q (.int ys.length) H) ∨ (∃ z, xs = [.str z] ∧ z.length ≤ sizeLine ∧ Q (.int z.length) H)
theorem callLen : CallR X (.builtin "len") (rLenU X.K) := callOr call_len_seq call_len_str
end
/-- built-in names that the top leaves alone -/
structure Bi (mg : Str → Option Value) : Prop where
  b_len : mg "len" = none
  b_max : mg "max" = none
  b_min : mg "min" = none
  b_int : mg "int" = none
  b_str : mg "str" = none
  b_bool : mg "bool" = none
  b_list : mg "list" = none
  b_tuple : mg "tuple" = none
  b_dict : mg "dict" = none
  b_type : mg "type" = none
  b_isinstance : mg "isinstance" = none
  b_all : mg "all" = none
  b_any : mg "any" = none
  b_range : mg "range" = none
  b_zip : mg "zip" = none
  b_repr : mg "repr" = none
  b_set : mg "set" = none
end Kit

namespace Kit
open PySem PySem.Spec PyProof.Rows L2
/-! ### the reading, head first -/
section
variable {σ : L2.St} {H H' : Hp} {Q : VK} {K : PySem.W.Frag} {D : Ends} {a b p q : Addr} {o o' : HO}
theorem v_var {i : Nat} {v : V} (h : σ[i]? = some (some v)) (k : Q v H) : tVar i σ H Q := ⟨v, h, k⟩
theorem v_c {v : V} (k : Q v H) : tC v σ H Q := k
theorem v_op {r : R2} {ta tb : TE} (k : ta σ H fun x H1 => tb σ H1 fun y H2 => r x y H2 Q) : tOp r ta tb σ H Q := k
theorem v_un {r : V → Hp → VK → Prop} {ta : TE} (k : ta σ H fun x H1 => r x H1 Q) : tUn r ta σ H Q := k
theorem v_I0 {g : Int → Int → V} {i j : Int} (k : Q (g i j) H) : rI0 g (.int i) (.int j) H Q := ⟨i, j, rfl, rfl, k⟩
theorem v_I {C : Int → Int → Prop} {g : Int → Int → V} {i j : Int} (c : C i j) (k : Q (g i j) H) : rI C g (.int i) (.int j) H Q := ⟨i, j, rfl, rfl, c, k⟩
theorem v_U {g : Int → V} {i : Int} (k : Q (g i) H) : rU g (.int i) H Q := ⟨i, rfl, k⟩
/-- + -/
def rAddU (K : PySem.W.Frag) : R2 := fun x y H Q => rI0 (fun i j => .int (i + j)) x y H Q ∨ (∃ i j, x = .str i ∧ y = .str j ∧ i.length + j.length ≤ sizeLine ∧ Q (.str (i ++ j)) H) ∨ rCat x y H Q ∨ rCatA K x y H Q
theorem opAddU {X : Cx} : OpR X (binaryOp .Add) (rAddU X.K) := opAdd
theorem v_addI {i j : Int} (k : Q (.int (i + j)) H) : rAddU K (.int i) (.int j) H Q := .inl ⟨i, j, rfl, rfl, k⟩
theorem v_addS {i j : Str} (c : i.length + j.length ≤ sizeLine) (k : Q (.str (i ++ j)) H) : rAddU K (.str i) (.str j) H Q := .inr (.inl ⟨i, j, rfl, rfl, c, k⟩)
theorem v_addL {xs ys : List V} (h : H a = some (.lst xs)) (h' : H b = some (.lst ys)) (c : xs.length + ys.length ≤ sizeLine) (k : ∀ p, H p = none → Q (.ref p) (upd H p (.lst (xs ++ ys)))) : rAddU K (.ref a) (.ref b) H Q :=
  .inr (.inr (.inl ⟨a, b, xs, ys, rfl, rfl, h, h', c, k⟩))
theorem v_addT {xs ys : List V} (h : SqT K H a xs) (h' : SqT K H b ys) (c : xs.length + ys.length ≤ sizeLine) (k0 : xs = [] → Q (.ref b) H) (k1 : xs ≠ [] → ys = [] → Q (.ref a) H)
    (k : xs ≠ [] → ys ≠ [] → ∀ p, H p = none → Q (.ref p) (upd H p (.tup (xs ++ ys)))) : rAddU K (.ref a) (.ref b) H Q := .inr (.inr (.inr ⟨a, b, xs, ys, rfl, rfl, h, h', c, k0, k1, k⟩))
/-- ==, != -/
def rEqU (K : PySem.W.Frag) : R2 := fun x y H Q => rEq x y H Q ∨ rTyEq false x y H Q ∨ rEqD K x y H Q
def rNeU (K : PySem.W.Frag) : R2 := fun x y H Q => rNe x y H Q ∨ rTyEq true x y H Q ∨ rNeD K x y H Q
theorem opEqU {X : Cx} (hr : X.A.units + 64 < cLine) : OpR X (compareOp .Eq) (rEqU X.K) := opEq hr
theorem opNeU {X : Cx} (hr : X.A.units + 64 < cLine) : OpR X (compareOp .NotEq) (rNeU X.K) := opNe hr
theorem v_eq {x y : V} (c : scal x y = true) (k : Q (.bl (decide (x = y))) H) : rEqU K x y H Q := .inl ⟨c, k⟩
theorem v_ne {x y : V} (c : scal x y = true) (k : Q (.bl (!decide (x = y))) H) : rNeU K x y H Q := .inl ⟨c, k⟩
theorem v_eqI {i j : Int} (k : Q (.bl (decide (i = j))) H) : rEqU K (.int i) (.int j) H Q := .inl ⟨rfl, by rw [show decide (V.int i = V.int j) = decide (i = j) by simp]; exact k⟩
theorem v_neI {i j : Int} (k : Q (.bl (!decide (i = j))) H) : rNeU K (.int i) (.int j) H Q := .inl ⟨rfl, by rw [show decide (V.int i = V.int j) = decide (i = j) by simp]; exact k⟩
theorem v_eqS {i j : Str} (k : Q (.bl (decide (i = j))) H) : rEqU K (.str i) (.str j) H Q := .inl ⟨rfl, by rw [show decide (V.str i = V.str j) = decide (i = j) by simp]; exact k⟩
theorem v_neS {i j : Str} (k : Q (.bl (!decide (i = j))) H) : rNeU K (.str i) (.str j) H Q := .inl ⟨rfl, by rw [show decide (V.str i = V.str j) = decide (i = j) by simp]; exact k⟩
theorem v_eqB {i j : Bool} (k : Q (.bl (decide (i = j))) H) : rEqU K (.bl i) (.bl j) H Q := .inl ⟨rfl, by rw [show decide (V.bl i = V.bl j) = decide (i = j) by simp]; exact k⟩
theorem v_eqTy {m n : String} (h : tyK m = true) (h' : tyK n = true) (k : Q (.bl (decide (m = n))) H) : rEqU K (.ty m) (.ty n) H Q := .inr (.inl ⟨m, n, rfl, rfl, h, h', k⟩)
theorem v_neTy {m n : String} (h : tyK m = true) (h' : tyK n = true) (k : Q (.bl (!decide (m = n))) H) : rNeU K (.ty m) (.ty n) H Q := .inr (.inl ⟨m, n, rfl, rfl, h, h', k⟩)
theorem v_eqD {x y : V} {d e : PyData} (h : Dp K H x d) (h' : Dp K H y e) (s : SeqAt.shaped d = true) (s' : SeqAt.shaped e = true) (k : Q (.bl (PyData.eqv d e)) H) : rEqU K x y H Q := .inr (.inr ⟨d, e, h, h', s, s', k⟩)
theorem v_neD {x y : V} {d e : PyData} (h : Dp K H x d) (h' : Dp K H y e) (s : SeqAt.shaped d = true) (s' : SeqAt.shaped e = true) (k : Q (.bl (!PyData.eqv d e)) H) : rNeU K x y H Q := .inr (.inr ⟨d, e, h, h', s, s', k⟩)
/-- <, <=, >, >= -/
def rLtU : R2 := fun x y H Q => rI0 (fun i j => .bl (decide (i < j))) x y H Q ∨ (∃ i j, x = .str i ∧ y = .str j ∧ Q (.bl (decide (i.cps.toList < j.cps.toList))) H)
def rLeU : R2 := fun x y H Q => rI0 (fun i j => .bl (decide (i ≤ j))) x y H Q ∨ (∃ i j, x = .str i ∧ y = .str j ∧ Q (.bl (!decide (j.cps.toList < i.cps.toList))) H)
def rGtU : R2 := fun x y H Q => rI0 (fun i j => .bl (decide (j < i))) x y H Q ∨ (∃ i j, x = .str i ∧ y = .str j ∧ Q (.bl (decide (j.cps.toList < i.cps.toList))) H)
def rGeU : R2 := fun x y H Q => rI0 (fun i j => .bl (decide (j ≤ i))) x y H Q ∨ (∃ i j, x = .str i ∧ y = .str j ∧ Q (.bl (!decide (i.cps.toList < j.cps.toList))) H)
theorem opLtU {X : Cx} : OpR X (compareOp .Lt) rLtU := opLt
theorem opLeU {X : Cx} : OpR X (compareOp .LtE) rLeU := opLe
theorem opGtU {X : Cx} : OpR X (compareOp .Gt) rGtU := opGt
theorem opGeU {X : Cx} : OpR X (compareOp .GtE) rGeU := opGe
theorem v_ltI {i j : Int} (k : Q (.bl (decide (i < j))) H) : rLtU (.int i) (.int j) H Q := .inl ⟨i, j, rfl, rfl, k⟩
theorem v_leI {i j : Int} (k : Q (.bl (decide (i ≤ j))) H) : rLeU (.int i) (.int j) H Q := .inl ⟨i, j, rfl, rfl, k⟩
theorem v_gtI {i j : Int} (k : Q (.bl (decide (j < i))) H) : rGtU (.int i) (.int j) H Q := .inl ⟨i, j, rfl, rfl, k⟩
theorem v_geI {i j : Int} (k : Q (.bl (decide (j ≤ i))) H) : rGeU (.int i) (.int j) H Q := .inl ⟨i, j, rfl, rfl, k⟩
theorem v_leS {i j : Str} (k : Q (.bl (!decide (j.cps.toList < i.cps.toList))) H) : rLeU (.str i) (.str j) H Q := .inr ⟨i, j, rfl, rfl, k⟩
theorem v_ltS {i j : Str} (k : Q (.bl (decide (i.cps.toList < j.cps.toList))) H) : rLtU (.str i) (.str j) H Q := .inr ⟨i, j, rfl, rfl, k⟩
/-- xs[i] -/
theorem v_ixL {xs : List V} {i : Int} {v : V} (h : SqL K H a xs) (e : atI xs i = some v) (k : Q v H) : rIx K (.ref a) (.int i) H Q := .inl ⟨a, xs, i, v, rfl, rfl, h, e, k⟩
theorem v_ixT {xs : List V} {i : Int} {v : V} (h : SqT K H a xs) (e : atI xs i = some v) (k : Q v H) : rIx K (.ref a) (.int i) H Q := .inr (.inl ⟨a, xs, i, v, rfl, rfl, h, e, k⟩)
theorem v_ixS {z : Str} {i : Int} {c : Nat} (hz : z.length ≤ sizeLine) (e : atI z.cps.toList i = some c) (k : Q (.str ⟨#[c]⟩) H) : rIx K (.str z) (.int i) H Q := .inr (.inr ⟨z, i, c, rfl, rfl, hz, e, k⟩)
/-- slices -/
def rSlU (K : PySem.W.Frag) : V → Option Int → Option Int → Hp → VK → Prop := fun x lo hi H Q => rSlL K x lo hi H Q ∨ rSlS x lo hi H Q ∨ rSlA K x lo hi H Q
theorem slUU {X : Cx} : SlR X (rSlU X.K) := slU
theorem v_sl {r : V → Option Int → Option Int → Hp → VK → Prop} {te : TE} {tl th : TO} (k : te σ H fun x H1 => tl σ H1 fun l H2 => th σ H2 fun u H3 => r x l u H3 Q) : L2.tSl r te tl th σ H Q := k
theorem v_nopart {Q : Option Int → Hp → Prop} (k : Q none H) : tNoPart σ H Q := k
theorem v_part {t : TE} {Q : Option Int → Hp → Prop} (k : t σ H fun x H1 => ∃ i, x = .int i ∧ Q (some i) H1) : tPart t σ H Q := k
theorem v_partI {i : Int} {R : Int → Prop} (k : R i) : ∃ j, V.int i = .int j ∧ R j := ⟨i, rfl, k⟩
theorem v_slS {z : Str} {lo hi : Option Int} (hz : z.length ≤ sizeLine) (k : Q (.str (cutS z lo hi)) H) : rSlU K (.str z) lo hi H Q := .inr (.inl ⟨z, rfl, hz, k⟩)
theorem v_slL {xs : List V} {lo hi : Option Int} (h : SqL K H a xs) (k : ∀ p, H p = none → Q (.ref p) (upd H p (.lst (cutV xs lo hi)))) : rSlU K (.ref a) lo hi H Q := .inl ⟨a, xs, rfl, h, k⟩
/-- tests -/
theorem v_test {t : TE} {Q : Bool → Hp → Prop} (k : t σ H fun x H' => ∃ k, x = .bl k ∧ Q k H') : tTest t σ H Q := k
theorem v_B {t : TE} {Q : Bool → Hp → Prop} (k : t σ H fun x H' => ∃ k, x = .bl k ∧ Q k H') : tB t σ H Q := k
theorem v_isbl {b : Bool} {P : Bool → Prop} (k : P b) : ∃ c, V.bl b = .bl c ∧ P c := ⟨b, rfl, k⟩
theorem v_and {t u : TT} {Q : Bool → Hp → Prop} (k : t σ H fun c H1 => if c = true then u σ H1 Q else Q false H1) : tAnd t u σ H Q := k
theorem v_or {t u : TT} {Q : Bool → Hp → Prop} (k : t σ H fun c H1 => if c = true then Q true H1 else u σ H1 Q) : tOr t u σ H Q := k
theorem v_not {t : TT} {Q : Bool → Hp → Prop} (k : t σ H fun c H1 => Q (!c) H1) : tNot t σ H Q := k
theorem v_andV {ta tb : TE} (k : ta σ H fun x H1 => ∃ c, x = .bl c ∧ if c = true then tb σ H1 Q else Q (.bl false) H1) : tAndV ta tb σ H Q := k
theorem v_orV {ta tb : TE} (k : ta σ H fun x H1 => ∃ c, x = .bl c ∧ if c = true then Q (.bl true) H1 else tb σ H1 Q) : tOrV ta tb σ H Q := k
theorem v_notV {ta : TE} (k : ta σ H fun x H1 => ∃ c, x = .bl c ∧ Q (.bl (!c)) H1) : tNotV ta σ H Q := k
theorem v_if {t : TT} {ta tb : TE} (k : t σ H fun c H1 => if c = true then ta σ H1 Q else tb σ H1 Q) : tIf t ta tb σ H Q := k
theorem v_chain {r r' : R2} {ta tb tc : TE} (k : ta σ H fun x H1 => tb σ H1 fun y H2 => r x y H2 fun z H3 => ∃ k, z = .bl k ∧ (if k = true then tc σ H3 fun w' H4 => r' y w' H4 Q else Q (.bl false) H3)) : tChain r r' ta tb tc σ H Q := k
/-- calls, displays -/
theorem v_nil {Q : List V → Hp → Prop} (k : Q [] H) : tNil σ H Q := k
theorem v_cons {ta : TE} {tr : TA} {Q : List V → Hp → Prop} (k : ta σ H fun x H1 => tr σ H1 fun xs H2 => Q (x :: xs) H2) : tCons ta tr σ H Q := k
theorem v_cb {r : List V → Hp → VK → Prop} {t : TA} (k : t σ H fun vs H1 => r vs H1 Q) : tCB r t σ H Q := k
theorem v_call {sp : Sp} {dvs : List V} {E : XK} {t : TA} (k : t σ H fun vs H1 => sp (vs ++ dvs) H1 Q E) : tCall sp dvs E t σ H Q := k
theorem v_tup {t : TA} (k : t σ H fun xs H1 => xs.length ≤ sizeLine ∧ ∀ p, H1 p = none → Q (.ref p) (upd H1 p (.tup xs))) : tTup t σ H Q := k
theorem v_lst {t : TA} (k : t σ H fun xs H1 => xs.length ≤ sizeLine ∧ ∀ p, H1 p = none → Q (.ref p) (upd H1 p (.lst xs))) : tLst t σ H Q := k
theorem v_lenL {xs : List V} (h : SqL K H a xs) (k : Q (.int xs.length) H) : rLenU K [.ref a] H Q := .inl ⟨a, xs, rfl, .inl h, k⟩
theorem v_lenT {xs : List V} (h : SqT K H a xs) (k : Q (.int xs.length) H) : rLenU K [.ref a] H Q := .inl ⟨a, xs, rfl, .inr h, k⟩
theorem v_lenS {z : Str} (h : z.length ≤ sizeLine) (k : Q (.int z.length) H) : rLenU K [.str z] H Q := .inr ⟨z, rfl, h, k⟩
def rMax : List V → Hp → VK → Prop := fun xs H Q => ∃ i j, xs = [.int i, .int j] ∧ Q (.int (if j > i then j else i)) H
def rMin : List V → Hp → VK → Prop := fun xs H Q => ∃ i j, xs = [.int i, .int j] ∧ Q (.int (if j < i then j else i)) H
def rInt1 : List V → Hp → VK → Prop := fun xs H Q => (∃ i, xs = [.int i] ∧ Q (.int i) H) ∨ ∃ k, xs = [.bl k] ∧ Q (.int (if k then 1 else 0)) H
theorem callMaxU {X : Cx} (hc : X.calm = true := by rfl) : CallR X (.builtin "max") rMax := callMax hc
theorem callMinU {X : Cx} (hc : X.calm = true := by rfl) : CallR X (.builtin "min") rMin := callMin hc
theorem callIntU {X : Cx} : CallR X (.type "int") rInt1 := call_int1
theorem v_max {i j : Int} (k : Q (.int (max i j)) H) : rMax [.int i, .int j] H Q := ⟨i, j, rfl, by
  rw [show (if j > i then j else i) = max i j by rw [Int.max_def]; split <;> split <;> omega]; exact k⟩
theorem v_min {i j : Int} (k : Q (.int (min i j)) H) : rMin [.int i, .int j] H Q := ⟨i, j, rfl, by
  rw [show (if j < i then j else i) = min i j by rw [Int.min_def]; split <;> split <;> omega]; exact k⟩
theorem v_intI {i : Int} (k : Q (.int i) H) : rInt1 [.int i] H Q := .inl ⟨i, rfl, k⟩
theorem v_intB {b : Bool} (k : Q (.int (if b then 1 else 0)) H) : rInt1 [.bl b] H Q := .inr ⟨b, rfl, k⟩
theorem v_typ {x : V} {T : String} (t : TyB K H x T) (k : Q (.ty T) H) : rTyp K [x] H Q := ⟨x, T, rfl, t, k⟩
/-- methods of texts -/
theorem v_m1 {r : V → List V → Hp → VK → Prop} {to te : TE} (k : to σ H fun x H1 => (∃ a, x = .str a) ∧ te σ H1 fun y H2 => r x [y] H2 Q) : tM1 r to te σ H Q := k
theorem v_isstr {z : Str} {P : Prop} (k : P) : (∃ a, V.str z = .str a) ∧ P := ⟨⟨z, rfl⟩, k⟩
/-- statements -/
theorem v_seq {t u : TS} (k : t { D with nx := u D } σ H) : tSeq t u D σ H := k
theorem v_next (k : D.nx σ H) : tNext D σ H := k
theorem v_asg {te : TE} {g : TG} (k : te σ H fun x H1 => g x σ H1 D.nx) : tAsg te g D σ H := k
theorem v_gname {i : Nat} {v : V} {Q : L2.St → Hp → Prop} (k : Q (σ.set i (some v)) H) : gName i v σ H Q := k
theorem v_gsub {to ti : TE} {t : TSet} {v : V} {Q : L2.St → Hp → Prop} (k : to σ H fun o H1 => ti σ H1 fun i H2 => t o i v H2 fun H3 => Q σ H3) : gSub to ti t v σ H Q := k
theorem v_setL {xs : List V} {k : Int} {j : Nat} {v : V} {Q : Hp → Prop} (h : H a = some (.lst xs)) (e : ixN xs.length k = some j) (q : Q (upd H a (.lst (xs.set j v)))) : rSetL (.ref a) (.int k) v H Q := ⟨a, xs, k, j, rfl, rfl, h, e, q⟩
theorem v_ifS {c : TT} {t u : TS} (k : c σ H fun b H1 => if b = true then t D σ H1 else u D σ H1) : tIfS c t u D σ H := k
theorem v_ret {te : TE} (k : te σ H D.rt) : tRet te D σ H := k
theorem v_drop {te : TE} (k : te σ H fun _ H1 => D.nx σ H1) : tDrop te D σ H := k
theorem v_iteD {p : Prop} [Decidable p] {A B : Prop} (h1 : p → A) (h2 : ¬ p → B) : if decide p = true then A else B := by
  by_cases h : p
  · rw [decide_eq_true h]; exact iteT (h1 h)
  · rw [decide_eq_false h]; exact iteF (h2 h)
theorem v_iteB {b : Bool} {A B : Prop} (h1 : b = true → A) (h2 : b = false → B) : if b = true then A else B := by
  cases b
  · exact iteF (h2 rfl)
  · exact iteT (h1 rfl)
/-! ### the heap -/
theorem sq_upd {xs : List V} (hn : H p = none) (h : SqL K H a xs) : SqL K (upd H p o) a xs := by
  refine Same.seq (fun b u e => ?_) h
  rw [upd_ne (ne_of_none e hn)]; exact e
theorem same_new (hn : H p = none) : Same H (upd H p o) := fun b u e => by rw [upd_ne (ne_of_none e hn)]; exact e
theorem same_mut (s : Same H H') (hn : H p = none) : Same H (upd H' p o) := fun b u e => by rw [upd_ne (ne_of_none e hn)]; exact s b u e
theorem at_ints {ns : List Int} {t : Int} (h0 : 0 ≤ t) (h : t < ns.length) : atI (ns.map V.int) t = some (.int (ns.getD t.toNat 0)) := by
  obtain ⟨n, rfl⟩ : ∃ n : Nat, t = n := ⟨t.toNat, by omega⟩
  refine atI_nat ?_
  have hn : n < ns.length := by omega
  simp [List.getElem?_map, hn]
/-! ### frames -/
theorem same_at {v : HO} (s : Same H H') (e : H a = some v) : H' a = some v := s _ _ e
/-- the law's source of draws stands at a -/
def Src (a : Addr) (H : Hp) : Prop := ∃ n s : Int, H a = some (.lst [.int n, .int s]) ∧ 0 ≤ n ∧ 0 ≤ s ∧ s < 2147483648
/-- all but the source is as it was -/
structure Dr (a : Addr) (H H' : Hp) : Prop where
  keep : ∀ b o, H b = some o → b ≠ a → H' b = some o
  src : Src a H'
theorem Dr.refl (h : Src a H) : Dr a H H := ⟨fun _ _ e _ => e, h⟩
theorem Dr.trans {H2 : Hp} (x : Dr a H H') (y : Dr a H' H2) : Dr a H H2 := ⟨fun b o e n => y.keep b o (x.keep b o e n) n, y.src⟩
theorem Src.same (h : Src a H) (s : Same H H') : Src a H' := by
  obtain ⟨n, m, e, r⟩ := h
  exact ⟨n, m, s _ _ e, r⟩
theorem Dr.same (h : Src a H) (s : Same H H') : Dr a H H' := ⟨fun b o e _ => s b o e, h.same s⟩
theorem dr_at {v : HO} (d : Dr a H H') (n : b ≠ a) (e : H b = some v) : H' b = some v := d.keep _ _ e n
theorem Src.upd (h : Src a H) (n : a ≠ p) : Src a (upd H p o) := by
  obtain ⟨m, s, e, r⟩ := h
  exact ⟨m, s, by rw [upd_ne n]; exact e, r⟩
theorem Src.ne (h : Src a H) (n : H p = none) : a ≠ p := by
  obtain ⟨m, s, e, _⟩ := h
  exact ne_of_none e n
theorem Dr.new (h : Src a H) (n : H p = none) : Dr a H (L2.upd H p o) := ⟨fun b u e _ => by rw [upd_ne (ne_of_none e n)]; exact e, h.upd (h.ne n)⟩
theorem Dr.mut {H0 : Hp} (d : Dr a H0 H) (h : Src a H0) (n : H0 p = none) : Dr a H0 (L2.upd H p o) :=
  ⟨fun b u e k => by rw [upd_ne (ne_of_none e n)]; exact d.keep b u e k, d.src.upd (h.ne n)⟩
theorem sq_dr {xs : List V} (d : Dr a H H') (n : b ≠ a) (h : SqL K H b xs) : SqL K H' b xs := by
  rcases h with (h | ⟨o, h⟩) | h
  · exact .inl (.inl (d.keep _ _ h n))
  · exact .inl (.inr ⟨o, d.keep _ _ h n⟩)
  · exact .inr h
theorem sq_lst {xs : List V} (h : H b = some (.lst xs)) : SqL K H b xs := .inl (.inl h)
/-! ### comprehensions -/
/-- what is left of a comprehension once its source is known: the new list is to stand at L -/
def LcT (J : It) (g : TG) (tt : TT) (te : TE) (vs : List Nat) (σ : L2.St) (H1 : Hp) (Qd : Addr → Hp → Prop) : Prop :=
  ∀ L, H1 L = none → ∃ W : Nat → Nat → Hp → Prop, (∃ m, W 0 m (upd H1 L (.lst []))) ∧ ∀ i m H, W i m H →
      (J.stop i H ∧ Qd L H) ∨ (J.go i H ∧ ∃ Nx : Hp → Prop, (∀ H', Nx H' → ∃ m', m' < m ∧ W (i + 1) m' H') ∧ ∀ x H', J.yld i H x H' → g x (wipe σ vs) H' fun σ2 H2 => wipe σ2 vs = wipe σ vs ∧ tt σ2 H2 fun b H3 =>
        if b = true then te σ2 H3 fun y H4 => ∃ acc, H4 L = some (.lst acc) ∧ acc.length < sizeLine ∧ Nx (upd H4 L (.lst (acc ++ [y]))) else Nx H3)
/-- what is left of a for once its source is known -/
def ForT (J : It) (g : TG) (tb : TS) (D : Ends) (σ : L2.St) (H : Hp) : Prop :=
  ∃ W : Nat → Nat → L2.St → Hp → Prop, (∃ m, W 0 m σ H) ∧ ∀ i m σ H, W i m σ H →
  (J.stop i H ∧ D.nx σ H) ∨ (J.go i H ∧ ∃ N : L2.St → Hp → Prop, (∀ σ' H', N σ' H' → ∃ m', m' < m ∧ W (i + 1) m' σ' H') ∧ ∀ x H', J.yld i H x H' → g x σ H' fun σ2 H2 => tb { D with nx := N, ct := N, bk := D.nx } σ2 H2)
theorem lc_f {J : It} {G : Hp → Prop} {Y : Nat → Hp → V → Hp → Prop} {xs : List V} {g : TG} {tt : TT} {te : TE} {vs : List Nat} {H1 : Hp} {Qd : Addr → Hp → Prop} (w : Walk J xs.length G Y) (hy : ∀ i H x H', i < xs.length → Y i H x H' → H' = H ∧ xs[i]? = some x)
    (hG : ∀ H', Same H1 H' → G H') (f : V → Option V) (hl : xs.length < sizeLine)
    (turn : ∀ (x : V) (H2 : Hp) (R : V → Hp → Prop) (Rn : Hp → Prop), x ∈ xs → Same H1 H2 → (∀ y H5, Same H2 H5 → f x = some y → R y H5) → (∀ H5, Same H2 H5 → f x = none → Rn H5) →
      g x (wipe σ vs) H2 fun σ2 H3 => wipe σ2 vs = wipe σ vs ∧ tt σ2 H3 fun b H4 => if b = true then te σ2 H4 R else Rn H4)
    (fin : ∀ D H', H1 D = none → Same H1 H' → H' D = some (.lst (xs.filterMap f)) → Qd D H') :
    LcT J g tt te vs σ H1 Qd := by
  intro D hD
  refine lc_it w (fun i H => Same H1 H ∧ H D = some (.lst ((xs.take i).filterMap f))) ⟨same_new hD, upd_same⟩ (fun i H _ p => hG H p.1) ?_ (fun H p => fin D H hD p.1 (by have := p.2; rwa [List.take_length] at this))
  rintro i x H H' hi ⟨sm, hd⟩ y
  obtain ⟨rfl, hx⟩ := hy i H x H' hi y
  have ht : xs.take (i + 1) = xs.take i ++ [x] := by rw [List.take_add_one, hx]; rfl
  refine turn x H' _ _ (List.mem_of_getElem? hx) sm (fun y H5 s5 e => ⟨_, s5 _ _ hd, ?_, same_mut (sm.trans s5) hD, ?_⟩) (fun H5 s5 e => ⟨sm.trans s5, ?_⟩)
  · refine Nat.lt_of_le_of_lt (Nat.le_trans (List.length_filterMap_le _ _) ?_) hl
    rw [List.length_take]; exact Nat.min_le_right _ _
  · rw [upd_same, ht, List.filterMap_append]
    simp [e]
  · rw [s5 _ _ hd, ht, List.filterMap_append]
    simp [e]
theorem lc_dr {J : It} {G : Hp → Prop} {Y : Nat → Hp → V → Hp → Prop} {xs : List V} {g : TG} {tt : TT} {te : TE} {vs : List Nat} {H1 : Hp} {Qd : Addr → Hp → Prop} (hs : Src a H1) (w : Walk J xs.length G Y) (hy : ∀ i H x H', i < xs.length → Y i H x H' → H' = H ∧ xs[i]? = some x)
    (hG : ∀ H', Dr a H1 H' → G H') (E : V → Prop) (hl : xs.length < sizeLine)
    (turn : ∀ (x : V) (H2 : Hp) (R : V → Hp → Prop) (Rn : Hp → Prop), x ∈ xs → Dr a H1 H2 → (∀ y H5, Dr a H2 H5 → E y → R y H5) →
      g x (wipe σ vs) H2 fun σ2 H3 => wipe σ2 vs = wipe σ vs ∧ tt σ2 H3 fun b H4 => if b = true then te σ2 H4 R else Rn H4)
    (fin : ∀ D H' ys, H1 D = none → Dr a H1 H' → H' D = some (.lst ys) → ys.length = xs.length → (∀ y ∈ ys, E y) → Qd D H') :
    LcT J g tt te vs σ H1 Qd := by
  intro D hD
  have nD : D ≠ a := (hs.ne hD).symm
  refine lc_it w (fun i H => Dr a H1 H ∧ ∃ ys, H D = some (.lst ys) ∧ ys.length = i ∧ ∀ y ∈ ys, E y) ⟨Dr.new hs hD, [], upd_same, rfl, fun _ z => by cases z⟩ (fun i H _ p => hG H p.1)
    ?_ (fun H p => by obtain ⟨d, ys, e, l, q⟩ := p; exact fin D H ys hD d e l q)
  rintro i x H H' hi ⟨sm, ys, hd, hlen, hE⟩ y
  obtain ⟨rfl, hx⟩ := hy i H x H' hi y
  refine turn x H' _ _ (List.mem_of_getElem? hx) sm (fun y H5 s5 e => ⟨_, s5.keep _ _ hd nD, by omega, (sm.trans s5).mut hs hD, ys ++ [y], upd_same, by simp [hlen], fun z hz => ?_⟩)
  rcases List.mem_append.mp hz with hz | hz
  · exact hE z hz
  · have ez : z = y := by simpa using hz
    rw [ez]; exact e
theorem hy_at {xs : List V} : ∀ i H x H', i < xs.length → YAt xs i H x H' → H' = H ∧ xs[i]? = some x := fun _ _ _ _ _ y => y
/-- the sgns of a text -/
def sgns (z : Str) : List V := z.cps.toList.map fun c => .str ⟨#[c]⟩
theorem sgns_len {z : Str} : (sgns z).length = z.length := by simp [sgns, Str.length]
theorem walk_sgns {z : Str} : Walk (Its z) (sgns z).length (fun _ => True) (YAt (sgns z)) := by
  rw [sgns_len]
  refine walk_str.mono (fun _ h => h) fun i H x H' hi _ y => ?_
  obtain ⟨e, c, hc, rfl⟩ := y
  refine ⟨e, ?_⟩
  unfold sgns
  rw [List.getElem?_map, Array.getElem?_toList, hc]; rfl
def upto (lo : Int) (n : Nat) : List V := (List.range n).map fun (i : Nat) => .int (lo + i)
theorem upto_len {lo : Int} {n : Nat} : (upto lo n).length = n := by simp [upto]
theorem walk_upto {lo : Int} {n : Nat} : Walk (Itr lo n) (upto lo n).length (fun _ => True) (YAt (upto lo n)) := by
  rw [upto_len]
  refine walk_range.mono (fun _ h => h) fun i H x H' hi _ y => ?_
  obtain ⟨e, rfl⟩ := y
  refine ⟨e, ?_⟩
  simp [upto, hi]
theorem v_lc {wi : TI} {g : TG} {tt : TT} {te : TE} {vs : List Nat} (k : wi σ H fun J H1 => LcT J g tt te vs σ H1 fun L H' => Q (.ref L) H') : tLc wi g tt te vs σ H Q := k
theorem v_iStr {te : TE} {R : It → Hp → Prop} (k : te σ H fun v H1 => ∃ x, v = .str x ∧ R (Its x) H1) : iStr te σ H R := k
theorem v_isS {z : Str} {R : Str → Prop} (k : R z) : ∃ x, V.str z = .str x ∧ R x := ⟨z, rfl, k⟩
theorem v_iRng1 {ta : TA} {R : It → Hp → Prop} (k : ta σ H fun vs H1 => ∃ j : Int, vs = [.int j] ∧ -(2 ^ 62) ≤ j ∧ j < 2 ^ 62 ∧ R (Itr 0 j.toNat) H1) : iRng1 ta σ H R := k
theorem v_rng1 {j : Int} {R : Int → Prop} (h1 : -(2 ^ 62) ≤ j ∧ j < 2 ^ 62) (k : R j) : ∃ i : Int, [V.int j] = [.int i] ∧ -(2 ^ 62) ≤ i ∧ i < 2 ^ 62 ∧ R i := ⟨j, rfl, h1.1, h1.2, k⟩
theorem v_iList {tl : TE} {R : It → Hp → Prop} (k : tl σ H fun x H1 => ∃ a, x = .ref a ∧ (∃ xs, SqL K H1 a xs) ∧ R (Itl K a) H1) : iList K tl σ H R := k
theorem v_isL {xs : List V} {R : Addr → Prop} (h : SqL K H a xs) (k : R a) : ∃ b, V.ref a = .ref b ∧ (∃ xs, SqL K H b xs) ∧ R b := ⟨a, rfl, ⟨_, h⟩, k⟩
theorem v_for {wi : TI} {g : TG} {tb : TS} (k : wi σ H fun J H1 => ForT J g tb D σ H1) : tFor wi g tb D σ H := k
theorem for_w {J : It} {n : Nat} {G : Hp → Prop} {Y : Nat → Hp → V → Hp → Prop} (w : Walk J n G Y) {g : TG} {tb : TS} (Pv : Nat → L2.St → Hp → Prop) (h0 : Pv 0 σ H) (hG : ∀ i σ H, i ≤ n → Pv i σ H → G H)
    (hs : ∀ i x σ H H', i < n → Pv i σ H → Y i H x H' → g x σ H' fun σ2 H2 => tb { D with nx := Pv (i + 1), ct := Pv (i + 1), bk := D.nx } σ2 H2) (hd : ∀ σ H, Pv n σ H → D.nx σ H) : ForT J g tb D σ H := for_it w Pv h0 hG hs hd
theorem v_yes {Q : Bool → Hp → Prop} (k : Q true H) : tYes σ H Q := k
theorem v_nand {A : Prop} {P : Prop} (h : A) (k : P) : A ∧ P := ⟨h, k⟩
theorem v_all {bs : List Bool} (h : SqL K H a (bs.map V.bl)) (k : Q (.bl (bs.all id)) H) : rAll K [.ref a] H Q := ⟨a, bs, rfl, h, k⟩
theorem v_any {bs : List Bool} (h : SqL K H a (bs.map V.bl)) (k : Q (.bl (bs.any id)) H) : rAny K [.ref a] H Q := ⟨a, bs, rfl, h, k⟩
theorem v_iteN {p : Prop} [Decidable p] {A B : Prop} (h1 : ¬ p → A) (h2 : p → B) : if (!decide p) = true then A else B := by
  by_cases h : p
  · rw [decide_eq_true h]; exact iteF (h2 h)
  · rw [decide_eq_false h]; exact iteT (h1 h)
theorem v_iteNot {b : Bool} {A B : Prop} (h : if b = true then B else A) : if (!b) = true then A else B := by
  cases b
  · exact iteT (by simpa using h)
  · exact iteF (by simpa using h)
theorem v_iteNF {A B : Prop} (h : A) : if (!false) = true then A else B := iteT h
theorem v_iteNT {A B : Prop} (h : B) : if (!true) = true then A else B := iteF h
/-! ### isinstance -/
theorem tyx {x : V} {T : String} (t : TyB K H x T) : TyX K H x (.type T) := by
  cases t with
  | non => exact .base .non
  | bl b => exact .base (.bl b)
  | int i => exact .base (.int i)
  | str z => exact .base (.str z)
  | byt b => exact .byt b
  | lst h =>
    rcases h with (h | ⟨o, h⟩) | ⟨o, its, n, h, c, _⟩
    · exact .base (.lst h)
    · exact .base (.frz h)
    · exact .kList h c
  | tup h =>
    rcases h with (h | ⟨o, h⟩) | ⟨o, its, n, h, c, _⟩
    · exact .base (.tup h)
    · exact .fTuple h
    · exact .kTuple h c
  | dK h => exact .base (.dK h)
theorem v_isi {x : V} {T n : String} {r : Bool} (t : TyB K H x T) (e : kitB T n = some r) (k : Q (.bl r) H) : rIsi K [x, .ty n] H Q := ⟨x, .ty n, .type T, .type n, r, rfl, .ty n, tyx t, kit_ty e, k⟩
def isB (a b : String) : Bool := a == b || (a == "bool" && b == "int")
theorem kb {a b : String} (ha : tyK a = true) (hb : tyK b = true) : kitB a b = some (isB a b) := by
  have ea : a = "int" ∨ a = "str" ∨ a = "bool" ∨ a = "NoneType" ∨ a = "float" ∨ a = "list" ∨ a = "tuple" ∨ a = "dict" := by simpa [tyK] using ha
  have eb : b = "int" ∨ b = "str" ∨ b = "bool" ∨ b = "NoneType" ∨ b = "float" ∨ b = "list" ∨ b = "tuple" ∨ b = "dict" := by simpa [tyK] using hb
  rcases ea with rfl | rfl | rfl | rfl | rfl | rfl | rfl | rfl <;> rcases eb with rfl | rfl | rfl | rfl | rfl | rfl | rfl | rfl <;> decide +kernel
theorem v_isiK {x : V} {T n : String} (t : TyB K H x T) (hT : tyK T = true) (hn : tyK n = true) (k : Q (.bl (isB T n)) H) : rIsi K [x, .ty n] H Q := v_isi t (kb hT hn) k
theorem v_iteTrue {b : Bool} {A B : Prop} (h : b = true) (k : A) : if b = true then A else B := by subst h; exact iteT k
theorem v_iteFalse {b : Bool} {A B : Prop} (h : b = false) (k : B) : if b = true then A else B := by subst h; exact iteF k
theorem v_ss {x y : Str} {P : Str → Str → Prop} (k : P x y) : ∃ a b, V.str x = .str a ∧ [V.str y] = [V.str b] ∧ P a b := ⟨x, y, rfl, rfl, k⟩
theorem v_s0 {x : Str} {P : Str → Prop} (k : P x) : ∃ a, V.str x = .str a ∧ ([] : List V) = [] ∧ P a := ⟨x, rfl, rfl, k⟩
/-- what _law_source gives: a new list of two ints -/
def spSource (K : PySem.W.Frag) : Sp := fun vs H Q _ => ∃ (a : Addr) (ns : List Int) (t : Int), vs = [.ref a, .int t] ∧ SqL K H a (ns.map V.int) ∧ ns.length ≤ 63 ∧ 0 ≤ t ∧ t ≤ 100 ∧
  ∀ p H', H p = none → Same H H' → Src p H' → Q (.ref p) H'
/-- what _law_draw gives: some int below the amount; the source's list holds two others -/
def spDraw : Sp := fun vs H Q _ => ∃ (a : Addr) (m : Int), vs = [.ref a, .int m] ∧ Src a H ∧ 0 < m ∧ m ≤ 1000000 ∧
  ∀ (d : Int) H', 0 ≤ d → d < m → Dr a H H' → Q (.int d) H'
end

section
variable {H H' : Hp} {a p : Addr} {Q : VK} {E : XK} {m : Int}
theorem Dr.free (hs : Src a H) (d : Dr a H H') (n : H' p = none) : H p = none := by
  cases e : H p with
  | none => rfl
  | some o =>
    by_cases h : p = a
    · obtain ⟨_, _, e2, _⟩ := d.src
      rw [h, e2] at n; cases n
    · rw [d.keep _ _ e h] at n; cases n
theorem v_draw (hs : Src a H) (hm : 0 < m ∧ m ≤ 1000000) (k : ∀ (d : Int) H', 0 ≤ d → d < m → Dr a H H' → Q (.int d) H') : spDraw ([.ref a, .int m] ++ []) H Q E := ⟨a, m, rfl, hs, hm.1, hm.2, k⟩
theorem at_str {l : List Nat} {i : Int} (h0 : 0 ≤ i) (h : i < l.length) : atI l i = some (l.getD i.toNat 0) := by
  obtain ⟨n, rfl⟩ : ∃ n : Nat, i = n := ⟨i.toNat, by omega⟩
  refine atI_nat ?_
  have hn : n < l.length := by omega
  simp [hn]
theorem at_list {xs : List V} {i : Int} (h0 : 0 ≤ i) (h : i < xs.length) : ∃ v, atI xs i = some v ∧ v ∈ xs := by
  obtain ⟨n, rfl⟩ : ∃ n : Nat, i = n := ⟨i.toNat, by omega⟩
  have hn : n < xs.length := by omega
  exact ⟨xs[n], atI_nat (by simp [hn]), List.getElem_mem hn⟩
end
theorem v_disp {trs : List (TE × TE)} {σ : L2.St} {H : Hp} {Q : VK} (k : ∀ p, H p = none → tPairs trs σ (upd H p (.dK [])) fun ps H2 => H2 p = some (.dK []) ∧ ∃ kvs : List (Key × V), ps = kvs.map (fun kv => (kV kv.1, kv.2)) ∧ kvs.length ≤ 15 ∧ Q (.ref p) (upd H2 p (.dK (mergeK [] kvs)))) : tDisp trs σ H Q := k
theorem upd_upd' {H : Hp} {p : Addr} {o o' : HO} : upd (upd H p o) p o' = upd H p o' := upd_upd
/-- {'k': v} -/
theorem v_disp1 {k : Str} {v : V} {σ : L2.St} {H : Hp} {Q : VK} (q : ∀ p, H p = none → Q (.ref p) (upd H p (.dK [(Sum.inr k, v)]))) : tDisp [(tC (.str k), tC v)] σ H Q := by
  intro p hp
  refine ⟨upd_same, [(Sum.inr k, v)], rfl, by simp, ?_⟩
  rw [upd_upd]
  exact q p hp
theorem eqvBB (a b : Bool) : PyData.eqv (.list [.bool a, .bool b]) (.list [.bool a, .bool b]) = true := by cases a <;> cases b <;> rfl
theorem v_neBB {K : PySem.W.Frag} {H : Hp} {Q : VK} {p q : Addr} {a b : Bool} (h : H p = some (.lst [.bl a, .bl b])) (h' : H q = some (.lst [.bl a, .bl b])) (k : Q (.bl false) H) : rNeU K (.ref p) (.ref q) H Q := by
  refine v_neD (d := .list [.bool a, .bool b]) (e := .list [.bool a, .bool b]) (.lst (sq_lst h) (.cons (.bl a) (.cons (.bl b) .nil))) (.lst (sq_lst h') (.cons (.bl a) (.cons (.bl b) .nil))) rfl rfl ?_
  rw [eqvBB]
  exact k
/-! ### texts glued -/
theorem app_cps (x y : Str) : (x ++ y).cps.toList = x.cps.toList ++ y.cps.toList := by
  show (x.cps ++ y.cps).toList = _
  rw [Array.toList_append]
theorem empty_cps : ("" : Str).cps.toList = [] := by decide +kernel
theorem join0_cps : ∀ ys : List Str, (Str.join "" ys).cps.toList = (ys.map fun y => y.cps.toList).flatten
  | [] => by simp [Str.join, Str.empty]
  | [x] => by simp [Str.join]
  | x :: y :: r => by
    show (x ++ "" ++ Str.join "" (y :: r)).cps.toList = _
    rw [app_cps, app_cps, join0_cps (y :: r), empty_cps]
    simp
theorem txt_join0 (ys : List Str) : (Txt.join "" ys).cps.toList = (ys.map fun y => y.cps.toList).flatten := by
  rw [show Txt.join "" ys = Str.join "" ys by unfold Txt.join; exact StrLaws.glued_eq_join _ _, join0_cps]
theorem len_cps (z : Str) : z.length = z.cps.toList.length := by simp [Str.length]
def chS (c : Nat) : Str := ⟨#[c]⟩
theorem chars_of {E : Nat → Prop} : ∀ {ys : List V}, (∀ y ∈ ys, ∃ c : Nat, y = .str ⟨#[c]⟩ ∧ E c) → ∃ cs : List Nat, ys = (cs.map chS).map V.str ∧ ∀ c ∈ cs, E c
  | [], _ => ⟨[], rfl, fun _ h => by cases h⟩
  | y :: ys, h => by
    obtain ⟨c, rfl, hc⟩ := h y List.mem_cons_self
    obtain ⟨cs, rfl, h2⟩ := chars_of (ys := ys) fun y hy => h y (List.mem_cons_of_mem _ hy)
    exact ⟨c :: cs, rfl, fun d hd => (List.mem_cons.mp hd).elim (fun z => z ▸ hc) (h2 d)⟩
theorem join_chars (cs : List Nat) : (Txt.join "" (cs.map chS)).cps.toList = cs := by
  rw [txt_join0, List.map_map]
  induction cs with
  | nil => rfl
  | cons c cs ih => rw [List.map_cons, List.flatten_cons, ih]; rfl
theorem sum_chars : ∀ cs : List Nat, ((cs.map chS).map (·.length)).sum = cs.length
  | [] => rfl
  | c :: cs => by rw [List.map_cons, List.map_cons, List.sum_cons, sum_chars cs, List.length_cons]; show 1 + _ = _; omega
/-! ### the rules with the written part named: a block's context bears bound names -/
section
variable {X : Cx} {K : PySem.W.Frag}
theorem kLen (hK : X.K = K) : CallR X (.builtin "len") (rLenU K) := by subst hK; exact callLen
theorem kAll (hK : X.K = K) (hc : X.calm = true := by rfl) : CallR X (.builtin "all") (rAll K) := by subst hK; exact callAll hc
theorem kAny (hK : X.K = K) (hc : X.calm = true := by rfl) : CallR X (.builtin "any") (rAny K) := by subst hK; exact callAny hc
theorem kIsi (hK : X.K = K) : CallR X (.builtin "isinstance") (rIsi K) := by subst hK; exact callIsi
theorem kType (hK : X.K = K) : CallR X (.type "type") (rTyp K) := by subst hK; exact call_type1
theorem kIx (hK : X.K = K) : IxR X (rIx K) := by subst hK; exact ixU
theorem kSl (hK : X.K = K) : SlR X (rSlU K) := by subst hK; exact slUU
theorem kAdd (hK : X.K = K) : OpR X (binaryOp .Add) (rAddU K) := by subst hK; exact opAddU
theorem kEq (hK : X.K = K) (hr : X.A.units + 64 < cLine) : OpR X (compareOp .Eq) (rEqU K) := by subst hK; exact opEqU hr
theorem kNe (hK : X.K = K) (hr : X.A.units + 64 < cLine) : OpR X (compareOp .NotEq) (rNeU K) := by subst hK; exact opNeU hr
theorem kList {tg e : Expr} {te : TE} (hK : X.K = K) (he : PE X e te) : PI X tg e (iList K te) := by subst hK; exact pi_list he
end
end Kit

/-! zip of a text and a tuple; in over a tuple of types; dict.update; a walk over a list, a tuple or a text -/
namespace Kit
open PySem PySem.Spec PyProof.Rows L2
/-! ### zip(text, tuple) -/
def ItzS (K : PySem.W.Frag) (z : Str) (b : Addr) (ys : List V) : It :=
  ⟨fun i H => SqT K H b ys ∧ i < z.cps.size ∧ i < ys.length,
    fun i H v H' => ∃ (T : Addr) (c : Nat) (y : V), v = .ref T ∧ H T = none ∧ H' = upd H T (.tup [.str ⟨#[c]⟩, y]) ∧ z.cps[i]? = some c ∧ ys[i]? = some y,
    fun i H => SqT K H b ys ∧ (z.cps.size ≤ i ∨ ys.length ≤ i)⟩
structure ZApart (Z TI TO i1 i2 b : Addr) : Prop where
  sep : ZipSep2 Z TI TO i1 i2 [i1] [i2, b]
  bI : b ≠ i2
def ZSt (z : Str) (t : Tok) (b Z TI TO i1 i2 : Addr) (n : Nat) (i : Nat) (h : Heap) : Prop :=
  IsZip h Z TI TO .none ∧ IsTupOf2 h TI (.ref i1) (.ref i2) ∧ (∃ x y, IsTupOf2 h TO x y) ∧ h.IsStrIter i1 (strIterType z) z t i ∧ h.IsTupleIter i2 b i ∧ i ≤ z.cps.size ∧ i ≤ n
theorem ZSt.lt {z : Str} {t : Tok} {b Z TI TO i1 i2 : Addr} {n i : Nat} {h : Heap} (st : ZSt z t b Z TI TO i1 i2 n i h) {c : Addr} (hc : c ∈ [Z, TI, TO, i1, i2]) : c < h.objs.size := by
  obtain ⟨hz, hTI, ⟨x, y, hTO⟩, ⟨o1, e1, _, d1⟩, ⟨o2, e2, _, d2⟩, _⟩ := st
  simp only [List.mem_cons, List.not_mem_nil, or_false] at hc
  rcases hc with rfl | rfl | rfl | rfl | rfl
  · exact Heap.lt_size hz
  · exact Heap.lt_size hTI
  · exact Heap.lt_size hTO
  · exact Heap.lt_size e1
  · exact Heap.lt_size e2
theorem turn_zipST {P : Program} {w : World} {K : PySem.W.Frag} {elts : List Expr} {kk : Nat} {tpos : Pos} {z : Str} {t : Tok} {ys : List V} {b Z TI TO i1 i2 : Addr} (D : ZApart Z TI TO i1 i2 b) :
    Turn P w K (.Tuple elts kk tpos) (ItzS K z b ys) [Z, TI, TO, i1, i2] Z (ZSt z t b Z TI TO i1 i2 ys.length) where
  mem := by simp
  obj := fun i h st c hc => by
    obtain ⟨hz, hTI, ⟨x, y, hTO⟩, ⟨o1, e1, _, d1⟩, ⟨o2, e2, _, d2⟩, _⟩ := st
    simp only [List.mem_cons, List.not_mem_nil, or_false] at hc
    rcases hc with rfl | rfl | rfl | rfl | rfl
    · exact ⟨_, hz, fun v q => nomatch q⟩
    · exact ⟨_, hTI, fun v q => nomatch q⟩
    · exact ⟨_, hTO, fun v q => nomatch q⟩
    · exact ⟨o1, e1, fun v q => by rw [d1] at q; cases q⟩
    · exact ⟨o2, e2, fun v q => by rw [d2] at q; cases q⟩
  keep := fun i h h' st k => by
    obtain ⟨hz, hTI, ⟨x, y, hTO⟩, ⟨o1, e1, r1⟩, h2, l1, l2⟩ := st
    exact ⟨k Z (by simp) _ hz, k TI (by simp) _ hTI, ⟨x, y, k TO (by simp) _ hTO⟩, ⟨o1, k i1 (by simp) _ e1, r1⟩, h2.at fun o q => k i2 (by simp) o q, l1, l2⟩
  item := by
    intro X hP hw hK hc i pins s σ H E I hf st hg
    subst hP hw hK
    have hlt := fun {c : Addr} (h : c ∈ [Z, TI, TO, i1, i2]) => st.lt h
    obtain ⟨hz, hTI, ⟨x0, y0, hTO⟩, h1, h2, l1, l2⟩ := st
    obtain ⟨hq, g1, g2⟩ := hg
    obtain ⟨its, rv, p, _⟩ := I.tuple hq
    have hlen := rv.length
    have D1 := Draws.text (prog := X.prog) (w := X.w) (A := X.A.in1) (I.ok.hd hc) i1 z t
    have D2 := Draws.tuple (prog := X.prog) (w := X.w) (A := X.A.in1) (I.ok.hd hc) i2 b D.bI its.toArray
    refine wpAny_pyNext_zipD2_item D.sep D1 D2 hz hTI hTO h1 ⟨h2, p⟩ g1 (by simp; omega) fun x1 x2 h' tk y1 y2 z' TO' s1' s2' hT hsz hk => ?_
    obtain ⟨c, u, hcz, rfl⟩ := y1
    refine ⟨_, rfl, wpAny_letOwnedTupleGo_zip (s := { s with heap := h', toks := tk }) z' fun h'' z'' sb => ?_⟩
    obtain ⟨y, hy, ry⟩ : ∃ y, ys[i]? = some y ∧ RelV y x2 := by
      have hi : i < ys.length := g2
      obtain ⟨u2, hu2, r2⟩ := rv.get (List.getElem?_eq_getElem hi)
      have e2 : its[i]? = some x2 := by simpa using y2
      rw [hu2] at e2
      cases e2
      exact ⟨_, List.getElem?_eq_getElem hi, r2⟩
    have hZl : Z < s.heap.objs.size := hlt (by simp)
    have hT2 : h''.get? s.heap.objs.size = some { cls := .type "tuple", data := .seq #[.str ⟨#[c]⟩ u, x2] } := (sb.2 _ (Nat.ne_of_gt hZl)).trans hT
    have new : ObjOk X.prog X.w (upd H s.heap.objs.size (.tup [.str ⟨#[c]⟩, y])) h'' s.heap.objs.size (.tup [.str ⟨#[c]⟩, y]) :=
      ⟨by show 2 ≤ sizeLine; decide, [.str ⟨#[c]⟩ u, x2], .cons ⟨u, rfl⟩ (.cons ry .nil), ⟨_, hT2, rfl, _, rfl⟩⟩
    have I1 : Inv X pins σ (upd H s.heap.objs.size (.tup [.str ⟨#[c]⟩, y])) { s with heap := h'', toks := tk } :=
      I.turnedNew (t' := tk) (ch := [Z, TI, TO, i1, i2]) (fun d o hb q => by
        have n : d ≠ Z ∧ d ≠ TI ∧ d ≠ TO ∧ d ≠ i1 ∧ d ≠ i2 := by simpa using hb
        exact (sb.2 d n.1).trans (hk d o n.1 n.2.2.1 n.2.2.2.1 n.2.2.2.2 q)) hf (Nat.le_refl _) new
    refine ⟨.ref s.heap.objs.size, _, I1, rfl, ⟨_, c, y, rfl, I.hok.fresh (Nat.le_refl _), rfl, hcz, hy⟩, ⟨z'', ?_, ⟨.str ⟨#[c]⟩ u, x2, ?_⟩, ?_, ?_, g1, g2⟩, fun d hd => ?_⟩
    · exact (sb.2 _ D.sep.TIz).trans (hk _ _ D.sep.TIz D.sep.TITO D.sep.TIi1 D.sep.TIi2 hTI)
    · exact (sb.2 _ D.sep.TOz).trans TO'
    · obtain ⟨o, ho, r⟩ := s1'
      exact ⟨o, (sb.2 _ D.sep.zi1.symm).trans ho, r⟩
    · exact s2'.1.at fun o q => (sb.2 _ D.sep.zi2.symm).trans q
    · rw [upd_ne (Nat.ne_of_lt (hlt hd))]
      exact (hf d hd).1
  done := by
    intro X hP hw hK hc i pins s σ H E I hf st hg
    subst hP hw hK
    obtain ⟨hz, hTI, ⟨x0, y0, hTO⟩, h1, h2, l1, l2⟩ := st
    obtain ⟨hq, g1⟩ := hg
    obtain ⟨its, rv, p, _⟩ := I.tuple hq
    have hlen := rv.length
    have D1 := Draws.text (prog := X.prog) (w := X.w) (A := X.A.in1) (I.ok.hd hc) i1 z t
    have D2 := Draws.tuple (prog := X.prog) (w := X.w) (A := X.A.in1) (I.ok.hd hc) i2 b D.bI its.toArray
    refine wpAny_pyNext_zipD2_end D.sep D1 D2 hz hTI hTO h1 ⟨h2, p⟩ l1 (by simp; omega) (by simp; omega) fun h' tk hk => ⟨rfl, I.turnedL (t' := tk) (ch := [Z, TI, TO, i1, i2]) (fun d o hb q => ?_) hf⟩
    have n : d ≠ Z ∧ d ≠ TI ∧ d ≠ TO ∧ d ≠ i1 ∧ d ≠ i2 := by simpa using hb
    exact hk d o n.1 n.2.2.1 n.2.2.2.1 n.2.2.2.2 q
  self := fun A i s Q E st h => wpAny_pyIter_zip st.1 h
/-- zip of two tuples, of a text and a tuple -/
def iZipU (K : PySem.W.Frag) (ta : TA) : TI := fun σ H R => ta σ H fun vs H1 => (∃ (z : Str) (b : Addr) (ys : List V), vs = [.str z, .ref b] ∧ SqT K H1 b ys ∧ R (ItzS K z b ys) H1)
theorem kZipS {X : Cx} {K : PySem.W.Frag} {e e2 : Expr} {ta : TA} {p pos tpos : Pos} {elts : List Expr} {kk : Nat} (hK : X.K = K) (hg : Gl X "zip") (hm : X.mg "zip" = none) (ha : PA X [e, e2] ta)
    (hs : starEach [e, e2] X.env = (false, eval e X.env) :: starEach [e2] X.env := by rfl) (hpl : (backTo pos (starEach [e2] X.env)).any (·.1) = false := by rfl) :
    PI X (.Tuple elts kk tpos) (.Call (.Name "zip" p) [e, e2] [] pos) (iZipU K ta) := by
  subst hK
  refine ⟨fun pins s σ H R I h => ?_⟩
  refine Call_ (ld_blt I hg hm PyProof.Rows.boot_zip (PyProof.Rows.callWith_type1 (thn (ha.run pos pins s σ H _ I h) fun us s1 ⟨vs, H1, I1, r1, q1⟩ => ?_) hs hpl))
  obtain ⟨z, b, ys, rfl, hq, q⟩ := q1
  cases r1 with
  | cons r rr =>
    cases rr with
    | cons r' rr =>
      cases rr
      obtain ⟨t, rfl⟩ := r
      cases r'
      obtain ⟨its, rv, p2, _⟩ := I1.tuple hq
      obtain ⟨ob, hob, _⟩ := id p2
      have hbl : b < s1.heap.objs.size := Heap.lt_size hob
      refine zip_begins2 (begins_text z t) (begins_tuple b its.toArray) trivial (show s1.heap.IsTuple b its.toArray from p2) fun h' hz hTI hTO h1 h2 hsz hk => wpAny_pyIter_zip hz ?_
      have I2 : Inv X pins σ H1 { s1 with heap := h' } := I1.kept (t' := s1.toks) hk
      have ap : ZApart (s1.heap.objs.size + 4) (s1.heap.objs.size + 2) (s1.heap.objs.size + 3) s1.heap.objs.size (s1.heap.objs.size + 1) b := by
        have nb : ∀ k : Nat, s1.heap.objs.size + k ≠ b := fun k e => by
          rw [← e] at hbl
          exact absurd hbl (Nat.not_lt.mpr (Nat.le_add_right _ _))
        have nb0 : s1.heap.objs.size ≠ b := nb 0
        have n4 := nb 4
        have n3 := nb 3
        have n2 := nb 2
        have n1 := nb 1
        have n1' := (nb 1).symm
        refine ⟨⟨?_, ?_, ?_, ?_, ?_, ?_, ?_, ?_, ?_, ?_, ?_, ?_, ?_⟩, ?_⟩ <;> first | assumption | (simp; done) | (simp; assumption) | (simp; omega)
      refine ⟨s1.heap.objs.size + 4, [s1.heap.objs.size + 4, s1.heap.objs.size + 2, s1.heap.objs.size + 3, s1.heap.objs.size, s1.heap.objs.size + 1], _, _, H1, rfl, I2, turn_zipST (t := t) ap, ⟨hz, hTI, ⟨_, _, hTO⟩, ⟨_, h1, rfl, rfl⟩, ⟨_, h2, rfl, rfl⟩, Nat.zero_le _, Nat.zero_le _⟩, fun c hcm => ?_, q⟩
      have hle : s1.heap.objs.size ≤ c := by
        simp only [List.mem_cons, List.not_mem_nil, or_false] at hcm
        rcases hcm with rfl | rfl | rfl | rfl | rfl
        · exact Nat.le_add_right _ _
        · exact Nat.le_add_right _ _
        · exact Nat.le_add_right _ _
        · exact Nat.le_refl _
        · exact Nat.le_add_right _ _
      exact I1.fpOk hle (I1.hok.fresh hle)
theorem kZipT {X : Cx} {K : PySem.W.Frag} {e e2 : Expr} {ta : TA} {p pos tpos : Pos} {elts : List Expr} {kk : Nat} (hK : X.K = K) (hg : Gl X "zip") (hm : X.mg "zip" = none) (ha : PA X [e, e2] ta)
    (hs : starEach [e, e2] X.env = (false, eval e X.env) :: starEach [e2] X.env := by rfl) (hpl : (backTo pos (starEach [e2] X.env)).any (·.1) = false := by rfl) :
    PI X (.Tuple elts kk tpos) (.Call (.Name "zip" p) [e, e2] [] pos) (RZ.iZipA K ta) := by
  subst hK; exact RZ.pi_zipA hg hm ha hs hpl
/-! ### walks of two things at once -/
theorem walk_zipS {K : PySem.W.Frag} {z : Str} {b : Addr} {ys : List V} {n : Nat} (hn : n = min z.length ys.length) : Walk (ItzS K z b ys) n (fun H => SqT K H b ys) (fun i H v H' => ∃ (T : Addr) (c : Nat) (y : V), v = .ref T ∧ H T = none ∧ H' = upd H T (.tup [.str ⟨#[c]⟩, y]) ∧ z.cps[i]? = some c ∧ ys[i]? = some y) := by
  subst hn
  refine ⟨fun i H hi q => ⟨q, ?_, ?_⟩, fun H q => ⟨q, ?_⟩, fun _ _ _ _ _ _ y => y⟩
  · show i < z.length; omega
  · omega
  · show z.length ≤ _ ∨ _; omega
theorem walk_zipT {K : PySem.W.Frag} {a b : Addr} {xs ys : List V} {n : Nat} (hn : n = min xs.length ys.length) : Walk (RZ.ItzT K a b) n (fun H => SqT K H a xs ∧ SqT K H b ys) (YPair (fun i => xs[i]?) (fun i => ys[i]?)) := by
  subst hn
  refine ⟨fun i H hi q => ?_, fun H q => ⟨xs, ys, q.1, q.2, by omega⟩, fun i H v H' _ q y => ?_⟩
  · have h1 : i < xs.length := by omega
    have h2 : i < ys.length := by omega
    exact ⟨xs, ys, xs[i], ys[i], q.1, q.2, by simp [h1], by simp [h2]⟩
  · obtain ⟨T, x, y, h1, h2, h3, h4, h5⟩ := y
    exact ⟨T, x, y, h1, h2, h3, h4 xs q.1, h5 ys q.2⟩
/-! ### type(x) in (list, tuple) -/
theorem eqAt_ty {A : Around} {s : Shared} {m n : String} (hm : tyK m = true) (hn : tyK n = true) : SeqAt.EqAt A s (.type m) (.type n) (decide (m = n)) := by
  by_cases e : m = n
  · subst e
    rw [decide_eq_true rfl]
    exact SeqAt.EqAt.same _
  · rw [decide_eq_false e]
    intro prog w E Q h
    unfold eqBool
    refine wpAny_holding ?_
    refine wpAny_ite_split (fun hab => ?_) (fun _ => ?_)
    · rw [ty_beq] at hab
      exact absurd (of_decide_eq_true hab) e
    · refine wpAny_bind ?_
      have hne : (Value.type m == Value.type n) = false := by rw [ty_beq]; exact decide_eq_false e
      have := TypeEq.eq_type_other (prog := prog) (w := w) (A := A) (E := E) (s := s) (Q := fun v s' => wpAny (model prog w) A (truthOfDropped v) Q E s') (fun s' => tyT s' hm) (fun s' => tyT s' hn) hne (wpAny_truthy_bool h)
      exact this
def rInTy (K : PySem.W.Frag) : R2 := fun x y H Q => ∃ (n : String) (p : Addr) (ts : List String), x = .ty n ∧ y = .ref p ∧ SqT K H p (ts.map V.ty) ∧ tyK n = true ∧ (∀ t ∈ ts, tyK t = true) ∧ Q (.bl (ts.contains n)) H
theorem ty_items {ts : List String} {its : List Value} (r : Vals (ts.map V.ty) its) : its = ts.map Value.type := by
  induction ts generalizing its with
  | nil => cases r; rfl
  | cons t ts ih =>
    cases r with
    | cons r1 r2 =>
      cases (show _ = Value.type t from r1)
      rw [ih r2]; rfl
theorem op_inTy {X : Cx} : OpR X (compareOp .In) (rInTy X.K) := by
  intro pins s σ H x y v u Q I rx ry h
  obtain ⟨n, p, ts, rfl, rfl, hq, hn, hts, q⟩ := h
  cases (show v = Value.type n from rx)
  cases ry
  obtain ⟨its, r, pl, hz⟩ := I.tuple hq
  have e := ty_items r
  subst e
  refine SeqAt.in_tupleAt (fun w => match w with | .type m => decide (m = n) | _ => false) pl (fun w hw => ?_) ⟨.bl _, H, I, rfl, ?_⟩
  · have hw' : w ∈ ts.map Value.type := by simpa using hw
    obtain ⟨m, hm, rfl⟩ := List.mem_map.mp hw'
    exact eqAt_ty (hts m hm) hn
  · have e : ((ts.map Value.type).toArray.any fun w => match w with | .type m => decide (m = n) | _ => false) = ts.contains n := by
      rw [List.any_toArray, List.any_map, List.contains_eq_any_beq]
      congr 1
      funext m
      show decide (m = n) = (n == m)
      by_cases h : m = n
      · subst h; simp
      · have : ¬ n = m := fun z => h z.symm
        simp [h, this]
    rw [e]
    exact q
/-! ### d.update(e) -/
theorem putK_len (kvs : List (Key × V)) (k : Key) (v : V) : (putK kvs k v).length ≤ kvs.length + 1 := by
  unfold putK
  split
  · rw [List.length_map]; exact Nat.le_succ _
  · rw [List.length_append]; exact Nat.le_refl _
theorem mergeK_len : ∀ (more kvs : List (Key × V)), (mergeK kvs more).length ≤ kvs.length + more.length
  | [], kvs => Nat.le_refl _
  | p :: more, kvs => by
    have h := mergeK_len more (putK kvs p.1 p.2)
    have h2 := putK_len kvs p.1 p.2
    show (mergeK (putK kvs p.1 p.2) more).length ≤ _
    rw [List.length_cons]; omega
def rUpdate : V → List V → Hp → VK → Prop := fun x xs H Q => ∃ (a b : Addr) (kvs more : List (Key × V)), x = .ref a ∧ xs = [.ref b] ∧ a ≠ b ∧ H a = some (.dK kvs) ∧ H b = some (.dK more) ∧ kvs.length + more.length ≤ sizeLine ∧ Q .non (upd H a (.dK (mergeK kvs more)))
theorem mt_update {X : Cx} : MtR X "dict.update" rUpdate := by
  intro pins s σ H x xs v us Q I rx rs h
  obtain ⟨a, b, kvs, more, rfl, rfl, hne, ea, eb, hz, q⟩ := h
  cases rx
  cases rs with
  | cons r1 r2 =>
    cases r2
    cases r1
    obtain ⟨z, hd, vs, rel, dd⟩ := dk_of I.hok ea
    obtain ⟨z2, hd2, vs2, rel2, dd2⟩ := dk_of I.hok eb
    refine call_meetsIn PySem.F.slot_dict_update dd.typeIs PySem.F.entry_dict_update (PySem.F.args_dict_update_2 _ _) (meets_dict_update (mixKind X.prog X.w) a b hne hd2)
      ⟨vs, vs2, dd, dd2, by rw [← rel.length, ← rel2.length]; exact hz, fun h' dd' _ hs => ⟨.non, _, ?_, rfl, q⟩⟩
    have he : ∃ q, h'.get? a = some q := let ⟨q, _, _, hq, _⟩ := dd'; ⟨q, hq⟩
    exact d_write (t' := s.toks) I (by rw [ea]; exact True.intro) hs he (dk_new (Nat.le_trans (mergeK_len _ _) hz) hd (KV.merge rel2 rel) dd')
/-! ### a walk over a list, a tuple or a text -/
def SeqC (K : PySem.W.Frag) (H : Hp) (x : V) (R : It → Hp → Prop) : Prop := (∃ a xs, x = .ref a ∧ SqL K H a xs ∧ R (Itl K a) H) ∨ (∃ a xs, x = .ref a ∧ SqT K H a xs ∧ R (Itt K a) H) ∨ ∃ z, x = .str z ∧ R (Its z) H
def iSeq (K : PySem.W.Frag) (te : TE) : TI := fun σ H R => te σ H fun x H1 => SeqC K H1 x R
theorem kSeq {X : Cx} {K : PySem.W.Frag} {tg e : Expr} {te : TE} (hK : X.K = K) (he : PE X e te) : PI X tg e (iSeq K te) := by
  subst hK
  refine ⟨fun pins s σ H R I h => ?_⟩
  refine thn (he.run pins s σ H _ I h) fun v s1 ⟨x, H1, I1, r1, q1⟩ => ?_
  rcases q1 with ⟨a, xs, rfl, hq, q⟩ | ⟨a, xs, rfl, hq, q⟩ | ⟨z, rfl, q⟩
  · cases r1
    obtain ⟨its, rv, p, hz⟩ := I1.list hq
    exact wpAny_pyIter_list p.isList (pi_one (tk := s1.toks) I1 _ (turn_list a _) ⟨_, Heap.get?_push_size _ rfl, rfl, rfl⟩ q)
  · cases r1
    obtain ⟨its, rv, p, hz⟩ := I1.tuple hq
    exact wpAny_pyIter_tuple (show s1.heap.IsTuple a its.toArray from p) (pi_one (tk := s1.toks) I1 _ (turn_tuple a _) ⟨_, Heap.get?_push_size _ rfl, rfl, rfl⟩ q)
  · obtain ⟨t, rfl⟩ := r1
    cases ha : z.cps.all (· < 128)
    · exact wpAny_pyIter_wide ha (pi_one (tk := s1.toks) I1 _ (turn_str _ z t "str_iterator" (.inr rfl)) ⟨_, Heap.get?_push_size _ rfl, rfl, rfl⟩ q)
    · exact wpAny_pyIter_ascii ha (pi_one (tk := s1.toks) I1 _ (turn_str _ z t "str_ascii_iterator" (.inl rfl)) ⟨_, Heap.get?_push_size _ rfl, rfl, rfl⟩ q)
section
variable {K : PySem.W.Frag} {σ : L2.St} {H : Hp} {a : Addr} {xs : List V} {R : It → Hp → Prop} {te : TE}
theorem v_iSeqL (h : SqL K H a xs) (k : R (Itl K a) H) : SeqC K H (.ref a) R := .inl ⟨a, xs, rfl, h, k⟩
theorem v_iSeqT (h : SqT K H a xs) (k : R (Itt K a) H) : SeqC K H (.ref a) R := .inr (.inl ⟨a, xs, rfl, h, k⟩)
theorem v_iSeqS {z : Str} (k : R (Its z) H) : SeqC K H (.str z) R := .inr (.inr ⟨z, rfl, k⟩)
theorem v_iSeq (k : te σ H fun x H1 => SeqC K H1 x R) : iSeq K te σ H R := k
theorem kInTy {X : Cx} {K : PySem.W.Frag} (hK : X.K = K) : OpR X (compareOp .In) (rInTy K) := by subst hK; exact op_inTy
end
end Kit

/-! names and types of the language, as functions of texts -/
namespace Kit
open PySem PySem.Spec PyProof.Rows L2
def lowC (c : Nat) : Bool := decide (97 ≤ c) && decide (c ≤ 122)
def nameS (z : Str) : Bool := decide (1 ≤ z.length) && decide (z.length ≤ 8) && z.cps.toList.all lowC
def nameV : V → Bool
  | .str z => nameS z
  | _ => false
theorem lt1 (c d : Nat) : ([c] : List Nat) < [d] ↔ c < d := by simp [List.cons_lt_cons_iff]
theorem cps_a : ("a" : Str).cps.toList = [97] := by decide +kernel
theorem cps_z : ("z" : Str).cps.toList = [122] := by decide +kernel
variable {K : PySem.W.Frag}
def KnownV (K : PySem.W.Frag) (H : Hp) (x : V) : Prop := ∃ T, TyB K H x T ∧ tyK T = true
def okS (z : Str) : Prop := z.length ≤ 1000 ∧ ∀ c ∈ z.cps.toList, c < 0x110000
def ShortV (x : V) : Prop := ∀ z, x = .str z → okS z
def spIsName (K : PySem.W.Frag) : Sp := fun vs H Q _ => ∃ x : V, vs = [x] ∧ KnownV K H x ∧ ShortV x ∧ ∀ H', Same H H' → Q (.bl (nameV x)) H'
theorem str_ty {K : PySem.W.Frag} {H : Hp} {x : V} {T : String} (t : TyB K H x T) : (T = "str" ∧ ∃ z, x = .str z) ∨ (T ≠ "str" ∧ nameV x = false) := by
  cases t with
  | str z => exact .inl ⟨rfl, z, rfl⟩
  | _ => exact .inr ⟨by decide, rfl⟩
theorem nameS_of {z : Str} (h : (1 : Int) ≤ z.length) (h' : (z.length : Int) ≤ 8) : nameS z = z.cps.toList.all lowC := by
  unfold nameS
  rw [decide_eq_true (by omega), decide_eq_true (by omega)]
  rfl
theorem nameS_no {z : Str} (h : ¬ ((1 : Int) ≤ z.length ∧ (z.length : Int) ≤ 8)) : nameS z = false := by
  unfold nameS
  by_cases h1 : 1 ≤ z.length
  · rw [decide_eq_false (show ¬ z.length ≤ 8 by omega)]
    simp
  · rw [decide_eq_false h1]
    rfl
def fLow : V → Option V
  | .str z => some (.bl (z.cps.toList.all lowC))
  | _ => none
theorem fLow_eq (c : Nat) : fLow (.str ⟨#[c]⟩) = some (.bl (lowC c)) := by simp [fLow]
theorem fLow_hi {c : Nat} (h : ¬ c < 97) : fLow (.str ⟨#[c]⟩) = some (.bl (!decide (([122] : List Nat) < [c]))) := by
  rw [fLow_eq]
  unfold lowC
  rw [decide_eq_true (show 97 ≤ c by omega), Bool.true_and]
  by_cases h2 : c ≤ 122
  · rw [decide_eq_true h2, decide_eq_false (by rw [lt1]; omega)]; rfl
  · rw [decide_eq_false h2, decide_eq_true (by rw [lt1]; omega)]; rfl
theorem fLow_lo {c : Nat} (h : c < 97) : fLow (.str ⟨#[c]⟩) = some (.bl false) := by
  rw [fLow_eq]
  unfold lowC
  rw [decide_eq_false (show ¬ 97 ≤ c by omega)]; rfl
theorem low_list (z : Str) : (sgns z).filterMap fLow = (z.cps.toList.map lowC).map V.bl := by
  unfold sgns
  generalize z.cps.toList = l
  induction l with
  | nil => rfl
  | cons c l ih =>
    rw [List.map_cons, List.filterMap_cons]
    simp only [fLow]
    rw [ih]
    simp
theorem all_low (z : Str) : (z.cps.toList.map lowC).all id = z.cps.toList.all lowC := by
  rw [List.all_map]; rfl
def arrS : Str := "[]"
def ends (z : Str) : Bool := Txt.endswith z arrS
theorem arr_len : arrS.length = 2 := by decide +kernel
theorem str_ext {x y : Str} (h : x.cps.toList = y.cps.toList) : x = y := by
  cases x; cases y
  simp at h
  rw [h]
theorem sub_iff (z : Str) (h : 2 ≤ z.length) : Builtin.Str.subAt z arrS (z.length - 2) = decide (z.cps.toList.drop (z.length - 2) = arrS.cps.toList) := by
  unfold Builtin.Str.subAt
  rw [arr_len, show z.length - 2 + 2 = z.length by omega]
  rw [Bool.eq_iff_iff, beq_iff_eq, decide_eq_true_iff]
  rw [← Array.toList_inj, Array.toList_extract]
  have e : List.take (z.length - (z.length - 2)) (List.drop (z.length - 2) z.cps.toList) = List.drop (z.length - 2) z.cps.toList := by
    refine List.take_of_length_le ?_
    rw [List.length_drop, Array.length_toList]; exact Nat.le_refl _
  rw [show z.cps.toList.extract (z.length - 2) z.length = List.take (z.length - (z.length - 2)) (List.drop (z.length - 2) z.cps.toList) from rfl, e]
theorem ends_eq (z : Str) : ends z = (decide (2 ≤ z.length) && decide (z.cps.toList.drop (z.length - 2) = arrS.cps.toList)) := by
  unfold ends Txt.endswith
  rw [arr_len, Nat.zero_add]
  by_cases h : 2 ≤ z.length
  · rw [sub_iff z h]
  · rw [decide_eq_false h]; rfl
theorem sIx_m2 (n d : Nat) : HT.sIx n d (some (-2)) = n - 2 := by
  show (if (-2 : Int) < 0 then ((-2 : Int) + (n : Int)).toNat else min (-2 : Int).toNat n) = _
  rw [if_pos (by decide)]; omega
theorem back_cps (z : Str) : (cutS z (some (-2)) none).cps.toList = z.cps.toList.drop (z.length - 2) := by
  unfold cutS
  rw [sIx_m2, HT.sIx_none]
  show (z.cps.toList.drop (z.length - 2)).take (z.length - (z.length - 2)) = _
  refine List.take_of_length_le ?_
  rw [List.length_drop, Array.length_toList]; exact Nat.le_refl _
theorem front_cps (z : Str) : (cutS z none (some (-2))).cps.toList = z.cps.toList.take (z.length - 2) := by
  unfold cutS
  rw [sIx_m2, HT.sIx_none]; rfl
theorem back_iff (z : Str) : (cutS z (some (-2)) none = arrS) ↔ ends z = true := by
  rw [ends_eq, Bool.and_eq_true, decide_eq_true_iff, decide_eq_true_iff]
  constructor
  · intro h
    have h1 := congrArg (fun x : Str => x.cps.toList) h
    simp only [back_cps] at h1
    refine ⟨?_, h1⟩
    have h2 := congrArg List.length h1
    rw [List.length_drop, Array.length_toList] at h2
    have h3 : arrS.cps.toList.length = 2 := by decide +kernel
    rw [h3] at h2
    show 2 ≤ z.cps.size
    have h4 : z.cps.size - (z.length - 2) = 2 := h2
    have h5 : z.length = z.cps.size := rfl
    omega
  · rintro ⟨_, h⟩
    refine str_ext ?_
    rw [back_cps, h]
theorem cut_ends {z : Str} (h : ends z = true) : Txt.removesuffix z arrS = cutS z none (some (-2)) := by
  rw [StrLaws.removesuffix_eq]
  have h2 : (decide (0 + arrS.length ≤ z.length) && Builtin.Str.subAt z arrS (z.length - arrS.length)) = true := h
  rw [if_pos h2]
  refine str_ext ?_
  rw [front_cps, arr_len]
  simp
theorem cut_not {z : Str} (h : ends z = false) : Txt.removesuffix z arrS = z := by
  rw [StrLaws.removesuffix_eq]
  have h2 : (decide (0 + arrS.length ≤ z.length) && Builtin.Str.subAt z arrS (z.length - arrS.length)) = false := h
  rw [if_neg (by rw [h2]; decide)]
theorem front_len (z : Str) : (cutS z none (some (-2))).length ≤ z.length := by
  show (cutS z none (some (-2))).cps.size ≤ z.cps.size
  rw [← Array.length_toList, ← Array.length_toList, front_cps, List.length_take]
  exact Nat.min_le_right _ _
theorem front_ok {z : Str} (h : okS z) : okS (cutS z none (some (-2))) := by
  refine ⟨Nat.le_trans (front_len z) h.1, fun c hc => h.2 c ?_⟩
  rw [front_cps] at hc
  exact List.mem_of_mem_take hc
theorem cut_ok {z : Str} (h : okS z) : okS (Txt.removesuffix z arrS) := by
  cases e : ends z with
  | true => rw [cut_ends e]; exact front_ok h
  | false => rw [cut_not e]; exact h
theorem cut_len (z : Str) : (Txt.removesuffix z arrS).length ≤ z.length := by
  cases h : ends z with
  | true => rw [cut_ends h]; exact front_len z
  | false => rw [cut_not h]; exact Nat.le_refl _
def typeV : V → Bool
  | .str z => nameS (Txt.removesuffix z arrS)
  | _ => false
def spIsType (K : PySem.W.Frag) : Sp := fun vs H Q _ => ∃ x : V, vs = [x] ∧ KnownV K H x ∧ ShortV x ∧ ∀ H', Same H H' → Q (.bl (typeV x)) H'
theorem typeV_no {x : V} (h : ∀ z, x ≠ .str z) : typeV x = false := by
  cases x <;> first | rfl | exact absurd rfl (h _)
theorem ty_cases {x : V} {H : Hp} {T : String} (t : TyB K H x T) : (T = "str" ∧ ∃ z, x = .str z) ∨ (T ≠ "str" ∧ ∀ z, x ≠ .str z) := by
  cases t with
  | str z => exact .inl ⟨rfl, z, rfl⟩
  | _ => exact .inr ⟨by decide, fun z e => by cases e⟩
def fBad : V → Option V
  | .str z => if z.cps.toList.all lowC then none else some (.str z)
  | _ => none
theorem bad_eq (c : Nat) : fBad (.str ⟨#[c]⟩) = if lowC c then none else some (.str ⟨#[c]⟩) := by simp [fBad]
theorem bad_hi {c : Nat} (h : ¬ c < 97) (h2 : 122 < c) : fBad (.str ⟨#[c]⟩) = some (.str ⟨#[c]⟩) := by
  rw [bad_eq, if_neg]
  unfold lowC
  rw [decide_eq_false (show ¬ c ≤ 122 by omega)]; simp
theorem bad_lo {c : Nat} (h : c < 97) : fBad (.str ⟨#[c]⟩) = some (.str ⟨#[c]⟩) := by
  rw [bad_eq, if_neg]
  unfold lowC
  rw [decide_eq_false (show ¬ 97 ≤ c by omega)]; simp
theorem bad_ok {c : Nat} (h : ¬ c < 97) (h2 : ¬ 122 < c) : fBad (.str ⟨#[c]⟩) = none := by
  rw [bad_eq, if_pos]
  unfold lowC
  rw [decide_eq_true (show 97 ≤ c by omega), decide_eq_true (show c ≤ 122 by omega)]; rfl
def badD (z : Str) : List PyData := (z.cps.toList.filter fun c => !lowC c).map fun c => .str ⟨#[c]⟩
theorem bad_list (z : Str) : (sgns z).filterMap fBad = (z.cps.toList.filter fun c => !lowC c).map fun c => V.str ⟨#[c]⟩ := by
  unfold sgns
  generalize z.cps.toList = l
  induction l with
  | nil => rfl
  | cons c l ih =>
    rw [List.map_cons, List.filterMap_cons, bad_eq]
    cases h : lowC c with
    | true => simp [h, ih]
    | false => simp [h, ih]
theorem dpAll_strs {H : Hp} : ∀ l : List Nat, DpAll K H (l.map fun c => V.str ⟨#[c]⟩) (l.map fun c => PyData.str ⟨#[c]⟩)
  | [] => .nil
  | c :: l => .cons (.str _) (dpAll_strs l)
theorem bad_empty (z : Str) : PyData.eqv (.list (badD z)) (.list []) = z.cps.toList.all lowC := by
  unfold badD
  generalize z.cps.toList = l
  induction l with
  | nil => rfl
  | cons c l ih =>
    cases h : lowC c with
    | true =>
      rw [List.filter_cons_of_neg (by rw [h]; decide), ih, List.all_cons, h, Bool.true_and]
    | false =>
      rw [List.filter_cons_of_pos (by rw [h]; decide), List.all_cons, h]; rfl
theorem chars_lay : ∀ l : List Nat, (∀ c ∈ l, c < 0x110000) → PyData.canLayAll0 (l.map fun c => PyData.str ⟨#[c]⟩) = true
  | [], _ => rfl
  | c :: l, h => by
    have h1 : c < 0x110000 := h c List.mem_cons_self
    show (PyData.canLay0 (.str ⟨#[c]⟩) && PyData.canLayAll0 (l.map fun c => PyData.str ⟨#[c]⟩)) = true
    rw [chars_lay l fun c hc => h c (List.mem_cons_of_mem _ hc), Bool.and_true]
    simp [PyData.canLay0, PyData.strOk]
    exact h1
theorem chars_depth : ∀ l : List Nat, PyData.depthAll (l.map fun c => PyData.str ⟨#[c]⟩) = 0
  | [] => rfl
  | c :: l => by
    show max (PyData.depth (.str ⟨#[c]⟩)) (PyData.depthAll (l.map fun c => PyData.str ⟨#[c]⟩)) = 0
    rw [chars_depth l]; rfl
theorem bad_shaped {z : Str} (h : okS z) : SeqAt.shaped (.list (badD z)) = true := by
  unfold SeqAt.shaped
  rw [Bool.and_eq_true, decide_eq_true_iff]
  refine ⟨chars_lay _ fun c hc => h.2 c ((List.mem_filter.mp hc).1), ?_⟩
  show PyData.depthAll (badD z) + 1 ≤ 64
  unfold badD
  rw [chars_depth]
  decide

end Kit

/-! plain data as a tree, and where it stands -/
namespace Kit
open PySem PySem.Spec PyProof.Rows L2
inductive Dat where
  | non | bl (b : Bool) | int (i : Int) | str (z : Str) | tup (l : List Dat) | lst (l : List Dat) | dct
def tyD : Dat → String
  | .non => "NoneType" | .bl _ => "bool" | .int _ => "int" | .str _ => "str" | .tup _ => "tuple" | .lst _ => "list" | .dct => "dict"
mutual
def Rep (K : PySem.W.Frag) (H : Hp) : Dat → V → Prop
  | .non, v => v = .non
  | .bl b, v => v = .bl b
  | .int i, v => v = .int i
  | .str z, v => v = .str z
  | .tup l, v => ∃ a xs, v = .ref a ∧ SqT K H a xs ∧ RepL K H l xs
  | .lst l, v => ∃ a xs, v = .ref a ∧ SqL K H a xs ∧ RepL K H l xs
  | .dct, v => ∃ a kvs, v = .ref a ∧ H a = some (.dK kvs)
def RepL (K : PySem.W.Frag) (H : Hp) : List Dat → List V → Prop
  | [], xs => xs = []
  | d :: l, xs => ∃ x r, xs = x :: r ∧ Rep K H d x ∧ RepL K H l r
end
theorem sqT_same {K : PySem.W.Frag} {H H' : Hp} {a : Addr} {xs : List V} (s : Same H H') (h : SqT K H a xs) : SqT K H' a xs := by
  rcases h with (h | ⟨o, h⟩) | h
  · exact .inl (.inl (s _ _ h))
  · exact .inl (.inr ⟨o, s _ _ h⟩)
  · exact .inr h
mutual
theorem Rep.same {K : PySem.W.Frag} {H H' : Hp} (s : Same H H') : ∀ {d : Dat} {v : V}, Rep K H d v → Rep K H' d v
  | .non, _, h => h
  | .bl _, _, h => h
  | .int _, _, h => h
  | .str _, _, h => h
  | .tup l, _, h => by obtain ⟨a, xs, e, q, r⟩ := h; exact ⟨a, xs, e, sqT_same s q, RepL.same s r⟩
  | .lst l, _, h => by obtain ⟨a, xs, e, q, r⟩ := h; exact ⟨a, xs, e, s.seq q, RepL.same s r⟩
  | .dct, _, h => by obtain ⟨a, kvs, e, q⟩ := h; exact ⟨a, kvs, e, s _ _ q⟩
theorem RepL.same {K : PySem.W.Frag} {H H' : Hp} (s : Same H H') : ∀ {l : List Dat} {xs : List V}, RepL K H l xs → RepL K H' l xs
  | [], _, h => h
  | d :: l, _, h => by obtain ⟨x, r, e, q, t⟩ := h; exact ⟨x, r, e, Rep.same s q, RepL.same s t⟩
end
theorem RepL.length {K : PySem.W.Frag} {H : Hp} : ∀ {l : List Dat} {xs : List V}, RepL K H l xs → xs.length = l.length
  | [], _, h => by cases h; rfl
  | d :: l, _, h => by obtain ⟨x, r, rfl, _, t⟩ := h; rw [List.length_cons, List.length_cons, RepL.length t]
theorem RepL.get {K : PySem.W.Frag} {H : Hp} : ∀ {l : List Dat} {xs : List V} {i : Nat} {d : Dat}, RepL K H l xs → l[i]? = some d → ∃ x, xs[i]? = some x ∧ Rep K H d x
  | [], _, _, _, _, e => by simp at e
  | c :: l, _, 0, d, h, e => by obtain ⟨x, r, rfl, q, t⟩ := h; cases e; exact ⟨x, rfl, q⟩
  | c :: l, _, i + 1, d, h, e => by obtain ⟨x, r, rfl, q, t⟩ := h; exact RepL.get (l := l) (xs := r) (i := i) t e
theorem RepL.at {K : PySem.W.Frag} {H : Hp} : ∀ {l : List Dat} {xs : List V} {i : Nat} {x : V}, RepL K H l xs → xs[i]? = some x → ∃ d, l[i]? = some d ∧ Rep K H d x
  | [], _, _, _, h, e => by cases h; simp at e
  | c :: l, _, 0, x, h, e => by obtain ⟨y, r, rfl, q, t⟩ := h; cases e; exact ⟨c, rfl, q⟩
  | c :: l, _, i + 1, x, h, e => by obtain ⟨y, r, rfl, q, t⟩ := h; exact RepL.at (l := l) (xs := r) (i := i) t e
theorem RepL.mem {K : PySem.W.Frag} {H : Hp} : ∀ {l : List Dat} {xs : List V} {x : V}, RepL K H l xs → x ∈ xs → ∃ d ∈ l, Rep K H d x
  | [], _, _, h, e => by cases h; cases e
  | c :: l, _, x, h, e => by
    obtain ⟨y, r, rfl, q, t⟩ := h
    rcases List.mem_cons.mp e with rfl | e
    · exact ⟨c, List.mem_cons_self, q⟩
    · obtain ⟨d, hd, hr⟩ := RepL.mem t e; exact ⟨d, List.mem_cons_of_mem _ hd, hr⟩
theorem RepL.drop {K : PySem.W.Frag} {H : Hp} : ∀ {l : List Dat} {xs : List V} (n : Nat), RepL K H l xs → RepL K H (l.drop n) (xs.drop n)
  | _, _, 0, h => h
  | [], _, n + 1, h => by cases h; exact rfl
  | d :: l, _, n + 1, h => by obtain ⟨x, r, rfl, q, t⟩ := h; exact RepL.drop n t
theorem RepL.append {K : PySem.W.Frag} {H : Hp} : ∀ {l m : List Dat} {xs ys : List V}, RepL K H l xs → RepL K H m ys → RepL K H (l ++ m) (xs ++ ys)
  | [], _, _, _, h, h' => by cases h; exact h'
  | d :: l, _, _, _, h, h' => by obtain ⟨x, r, rfl, q, t⟩ := h; exact ⟨x, r ++ _, rfl, q, RepL.append t h'⟩
theorem RepL.take {K : PySem.W.Frag} {H : Hp} : ∀ {l : List Dat} {xs : List V} (n : Nat), RepL K H l xs → RepL K H (l.take n) (xs.take n)
  | _, _, 0, _ => rfl
  | [], _, n + 1, h => by cases h; exact rfl
  | d :: l, _, n + 1, h => by obtain ⟨x, r, rfl, q, t⟩ := h; exact ⟨x, r.take n, rfl, q, RepL.take n t⟩
theorem Rep.ty {K : PySem.W.Frag} {H : Hp} : ∀ {d : Dat} {v : V}, Rep K H d v → TyB K H v (tyD d)
  | .non, _, h => by cases h; exact .non
  | .bl b, _, h => by cases h; exact .bl b
  | .int i, _, h => by cases h; exact .int i
  | .str z, _, h => by cases h; exact .str z
  | .tup l, _, h => by obtain ⟨a, xs, rfl, q, r⟩ := h; exact .tup q
  | .lst l, _, h => by obtain ⟨a, xs, rfl, q, r⟩ := h; exact .lst q
  | .dct, _, h => by obtain ⟨a, kvs, rfl, q⟩ := h; exact .dK q
theorem tyD_known : ∀ d : Dat, tyK (tyD d) = true
  | .non => rfl | .bl _ => rfl | .int _ => rfl | .str _ => rfl | .tup _ => rfl | .lst _ => rfl | .dct => rfl
mutual
def okD : Dat → Prop
  | .str z => okS z
  | .tup l => l.length ≤ 1000 ∧ okL l
  | .lst l => l.length ≤ 1000 ∧ okL l
  | _ => True
def okL : List Dat → Prop
  | [] => True
  | d :: l => okD d ∧ okL l
end
theorem okL.mem : ∀ {l : List Dat} {d : Dat}, okL l → d ∈ l → okD d
  | [], _, _, e => by cases e
  | c :: l, d, h, e => by
    rcases List.mem_cons.mp e with rfl | e
    · exact h.1
    · exact okL.mem h.2 e
theorem okL.drop : ∀ {l : List Dat} (n : Nat), okL l → okL (l.drop n)
  | _, 0, h => h
  | [], n + 1, h => h
  | _ :: l, n + 1, h => okL.drop n h.2
theorem Rep.short {K : PySem.W.Frag} {H : Hp} {d : Dat} {v : V} (r : Rep K H d v) (h : okD d) : ShortV v := by
  cases d with
  | str z => cases r; intro w e; cases e; exact h
  | non => cases r; intro w e; cases e
  | bl b => cases r; intro w e; cases e
  | int i => cases r; intro w e; cases e
  | tup l => obtain ⟨a, xs, rfl, _⟩ := r; intro w e; cases e
  | lst l => obtain ⟨a, xs, rfl, _⟩ := r; intro w e; cases e
  | dct => obtain ⟨a, xs, rfl, _⟩ := r; intro w e; cases e
theorem Rep.known {K : PySem.W.Frag} {H : Hp} {d : Dat} {v : V} (r : Rep K H d v) : KnownV K H v := ⟨_, r.ty, tyD_known d⟩
/-! ### what the program asks of data -/
def nmD : Dat → Bool
  | .str z => nameS z
  | _ => false
def tpD : Dat → Bool
  | .str z => nameS (Txt.removesuffix z arrS)
  | _ => false
def numD (lo hi : Int) : Dat → Bool
  | .int i => decide (lo ≤ i) && decide (i ≤ hi)
  | _ => false
theorem Rep.nm {K : PySem.W.Frag} {H : Hp} {d : Dat} {v : V} (r : Rep K H d v) : nameV v = nmD d := by
  cases d with
  | str z => cases r; rfl
  | non => cases r; rfl
  | bl b => cases r; rfl
  | int i => cases r; rfl
  | tup l => obtain ⟨a, xs, rfl, _⟩ := r; rfl
  | lst l => obtain ⟨a, xs, rfl, _⟩ := r; rfl
  | dct => obtain ⟨a, xs, rfl, _⟩ := r; rfl
theorem Rep.tp {K : PySem.W.Frag} {H : Hp} {d : Dat} {v : V} (r : Rep K H d v) : typeV v = tpD d := by
  cases d with
  | str z => cases r; rfl
  | non => cases r; rfl
  | bl b => cases r; rfl
  | int i => cases r; rfl
  | tup l => obtain ⟨a, xs, rfl, _⟩ := r; rfl
  | lst l => obtain ⟨a, xs, rfl, _⟩ := r; rfl
  | dct => obtain ⟨a, xs, rfl, _⟩ := r; rfl
/-! ### a written dict with text keys, asked by any text -/
def EntryIs (e : DictEntry) (p : Str × Value) : Prop := (∃ t, e.key = .str p.1 t) ∧ e.val = p.2
theorem nsIn_lit {K : PySem.W.Frag} {d : Addr} {oc : Value} {od : Option Addr} {es : Array DictEntry} {n : Nat} {sl : Array (Option Value)} {kvs : List (Str × Value)} (h : K.lookup d = some ⟨oc, od, .dict es n, sl⟩) (he : Paired EntryIs es.toList kvs) (z : Str) :
    PySem.W.nsIn K d z = some (kvs.lookup z) := by
  unfold PySem.W.nsIn
  rw [h]
  dsimp only
  generalize es.toList = l at he
  have nr : l.any (fun e => e.refKey) = false := by
    induction he with
    | nil => rfl
    | cons hp ht ih =>
      obtain ⟨⟨t, hk⟩, hv⟩ := hp
      rw [List.any_cons, ih]
      unfold DictEntry.refKey
      rw [hk]; rfl
  have key : (l.find? (fun e => e.key.isStr z)).map (·.val) = kvs.lookup z := by
    clear nr h
    induction he with
    | nil => rfl
    | @cons e p l kvs hp ht ih =>
      obtain ⟨⟨t, hk⟩, hv⟩ := hp
      obtain ⟨k, v⟩ := p
      rw [List.find?_cons, List.lookup_cons]
      have e1 : e.key.isStr z = (k == z) := by rw [hk]; rfl
      rw [e1]
      by_cases hz : z = k
      · subst hz
        simp at hv ⊢
        exact hv
      · have h1 : (k == z) = false := by simpa using fun q : k = z => hz q.symm
        have h2 : (z == k) = false := by simpa using hz
        rw [h1, h2]
        exact ih
  rw [nr, ← key]
  cases l.find? (fun e => e.key.isStr z) with
  | none => rfl
  | some e => rfl
/-! ### a written dict, asked and read -/
def rKd (K : PySem.W.Frag) (d : Addr) : R2 := fun x y H Q => ∃ (z : Str) (u0 : Value) (v0 : V), x = .ref d ∧ y = .str z ∧ PySem.W.nsIn K d z = some (some u0) ∧ RelV v0 u0 ∧ Q v0 H
def rKdIn (K : PySem.W.Frag) (d : Addr) : R2 := fun x y H Q => ∃ (z : Str) (r : Option Value), x = .str z ∧ y = .ref d ∧ PySem.W.nsIn K d z = some r ∧ Q (.bl r.isSome) H
theorem ix_kd {X : Cx} {d : Addr} {es : Array DictEntry} {n : Nat} (D : KDict X.K X.w d es n) : IxR X (rKd X.K d) := by
  intro value slice pins s σ H x y v u Q I rx ry h hs
  obtain ⟨z, u0, v0, rfl, rfl, e, r, q⟩ := h
  cases rx
  obtain ⟨t, rfl⟩ := ry
  exact tail_any (kd_type D I) slot_dict_getitem.lookup (wpAny_getItem_of (PySem.strKind_is X.prog X.w z t) (PySem.W.mapOf_K (prog := X.prog) I.kIn D.at_ D.lit) (PySem.W.find_K D.at_ e) ⟨v0, H, I.tok _, r, q⟩) hs
theorem in_kd {X : Cx} {d : Addr} {es : Array DictEntry} {n : Nat} (D : KDict X.K X.w d es n) : OpR X (compareOp .In) (rKdIn X.K d) := op_in_kd D
theorem v_kd {K : PySem.W.Frag} {d : Addr} {z : Str} {u0 : Value} {v0 : V} {H : Hp} {Q : VK} (e : PySem.W.nsIn K d z = some (some u0)) (r : RelV v0 u0) (k : Q v0 H) : rKd K d (.ref d) (.str z) H Q := ⟨z, u0, v0, rfl, rfl, e, r, k⟩
theorem v_kdIn {K : PySem.W.Frag} {d : Addr} {z : Str} {r : Option Value} {H : Hp} {Q : VK} (e : PySem.W.nsIn K d z = some r) (k : Q (.bl r.isSome) H) : rKdIn K d (.str z) (.ref d) H Q := ⟨z, r, rfl, rfl, e, k⟩
end Kit

/-! comprehensions by place; instructions as functions of data -/
namespace Kit
open PySem PySem.Spec PyProof.Rows L2
section
variable {σ : L2.St} {H H' : Hp} {K : PySem.W.Frag} {a b : Addr}
theorem range_succ' (f : Nat → Option V) (i : Nat) : (List.range (i + 1)).filterMap f = (List.range i).filterMap f ++ (f i).toList := by
  rw [List.range_succ, List.filterMap_append]
  cases h : f i <;> simp [h]
theorem lc_i {J : It} {G : Hp → Prop} {Y : Nat → Hp → V → Hp → Prop} {xs : List V} {g : TG} {tt : TT} {te : TE} {vs : List Nat} {H1 : Hp} {Qd : Addr → Hp → Prop} (w : Walk J xs.length G Y) (hy : ∀ i H x H', i < xs.length → Y i H x H' → H' = H ∧ xs[i]? = some x)
    (hG : ∀ H', Same H1 H' → G H') (f : Nat → Option V) (hl : xs.length < sizeLine)
    (turn : ∀ (i : Nat) (x : V) (H2 : Hp) (R : V → Hp → Prop) (Rn : Hp → Prop), xs[i]? = some x → Same H1 H2 → (∀ y H5, Same H2 H5 → f i = some y → R y H5) → (∀ H5, Same H2 H5 → f i = none → Rn H5) →
      g x (wipe σ vs) H2 fun σ2 H3 => wipe σ2 vs = wipe σ vs ∧ tt σ2 H3 fun b H4 => if b = true then te σ2 H4 R else Rn H4)
    (fin : ∀ D H', H1 D = none → Same H1 H' → H' D = some (.lst ((List.range xs.length).filterMap f)) → Qd D H') : LcT J g tt te vs σ H1 Qd := by
  intro D hD
  refine lc_it w (fun i H => Same H1 H ∧ H D = some (.lst ((List.range i).filterMap f))) ⟨same_new hD, upd_same⟩ (fun i H _ p => hG H p.1) ?_ (fun H p => fin D H hD p.1 p.2)
  rintro i x H H' hi ⟨sm, hd⟩ y
  obtain ⟨rfl, hx⟩ := hy i H x H' hi y
  refine turn i x H' _ _ hx sm (fun y H5 s5 e => ⟨_, s5 _ _ hd, ?_, same_mut (sm.trans s5) hD, ?_⟩) (fun H5 s5 e => ⟨sm.trans s5, ?_⟩)
  · refine Nat.lt_of_le_of_lt (Nat.le_trans (List.length_filterMap_le _ _) ?_) hl
    rw [List.length_range]; exact Nat.le_of_lt hi
  · rw [upd_same, range_succ', e]; rfl
  · rw [s5 _ _ hd, range_succ', e]; simp
/-- over pairs that are made anew -/
theorem lc_zip {J : It} {n : Nat} {G : Hp → Prop} {Y : Nat → Hp → V → Hp → Prop} {xs ys : List V} {g : TG} {tt : TT} {te : TE} {vs : List Nat} {H1 : Hp} {Qd : Addr → Hp → Prop} (w : Walk J n G Y)
    (hy : ∀ i H v H', i < n → Y i H v H' → ∃ (T : Addr) (x y : V), v = .ref T ∧ H T = none ∧ H' = upd H T (.tup [x, y]) ∧ xs[i]? = some x ∧ ys[i]? = some y)
    (hG : ∀ H', Same H1 H' → G H') (f : Nat → Option V) (hl : n < sizeLine)
    (turn : ∀ (i : Nat) (T : Addr) (x y : V) (H2 : Hp) (R : V → Hp → Prop) (Rn : Hp → Prop), i < n → xs[i]? = some x → ys[i]? = some y → Same H1 H2 → H2 T = some (.tup [x, y]) → (∀ z H5, Same H2 H5 → f i = some z → R z H5) → (∀ H5, Same H2 H5 → f i = none → Rn H5) →
      g (.ref T) (wipe σ vs) H2 fun σ2 H3 => wipe σ2 vs = wipe σ vs ∧ tt σ2 H3 fun b H4 => if b = true then te σ2 H4 R else Rn H4)
    (fin : ∀ D H', H1 D = none → Same H1 H' → H' D = some (.lst ((List.range n).filterMap f)) → Qd D H') : LcT J g tt te vs σ H1 Qd := by
  intro D hD
  refine lc_it w (fun i H => Same H1 H ∧ H D = some (.lst ((List.range i).filterMap f))) ⟨same_new hD, upd_same⟩ (fun i H _ p => hG H p.1) ?_ (fun H p => fin D H hD p.1 p.2)
  rintro i v H H' hi ⟨sm, hd⟩ yy
  obtain ⟨T, x, y, rfl, hT, rfl, hx, hyy⟩ := hy i H v H' hi yy
  have sT : Same H (upd H T (.tup [x, y])) := same_new hT
  refine turn i T x y _ _ _ hi hx hyy (sm.trans sT) upd_same (fun z H5 s5 e => ⟨_, s5 _ _ (sT _ _ hd), ?_, same_mut (sm.trans (sT.trans s5)) hD, ?_⟩) (fun H5 s5 e => ⟨sm.trans (sT.trans s5), ?_⟩)
  · refine Nat.lt_of_le_of_lt (Nat.le_trans (List.length_filterMap_le _ _) ?_) hl
    rw [List.length_range]; exact Nat.le_of_lt hi
  · rw [upd_same, range_succ', e]; rfl
  · rw [s5 _ _ (sT _ _ hd), range_succ', e]; simp
theorem hy_pair {xs ys : List V} {n : Nat} : ∀ i H v H', i < n → YPair (fun i => xs[i]?) (fun i => ys[i]?) i H v H' → ∃ (T : Addr) (x y : V), v = .ref T ∧ H T = none ∧ H' = upd H T (.tup [x, y]) ∧ xs[i]? = some x ∧ ys[i]? = some y := fun _ _ _ _ _ y => y
/-- a target of several, in a comprehension too -/
theorem kTup {X : Cx} {K : PySem.W.Frag} {pos : Pos} {es : List Expr} {k : Nat} {t : TGs} {n : Nat} (hK : X.K = K) (hc : X.calm = true) (ht : PGs X es t) (hn : (assignEach es X.env).length = n := by rfl)
    (hp : (assignEach es X.env).findIdx? (fun x => x.1) = none := by rfl) : PG X (.Tuple es k pos) (gTup K n t) := by
  subst hK; exact pg_tup hc ht hn hp
/-- a, b = pair -/
theorem v_gtup {t : TGs} {x y : V} {Q : L2.St → Hp → Prop} (h : H a = some (.tup [x, y])) (k : t [x, y] σ H Q) : gTup K 2 t (.ref a) σ H Q := ⟨a, _, rfl, .inl (.inl h), rfl, k⟩
theorem v_gcons {t : TG} {u : TGs} {v : V} {r : List V} {Q : L2.St → Hp → Prop} (k : t v σ H fun σ' H' => u r σ' H' Q) : gCons t u (v :: r) σ H Q := ⟨v, r, rfl, k⟩
theorem v_gnil {Q : L2.St → Hp → Prop} (k : Q σ H) : gNil [] σ H Q := ⟨rfl, k⟩
end
/-! ### in, not in over flat items -/
section
variable {X : Cx} {K : PySem.W.Frag} {H : Hp} {Q : VK} {x : V} {a : Addr} {xs : List V}
def rInU (K : PySem.W.Frag) : R2 := fun x y H Q => rIn K false x y H Q ∨ rInTy K x y H Q
theorem kIn (hK : X.K = K) : OpR X (compareOp .In) (rInU K) := by subst hK; exact op_in_seq.or op_inTy
theorem kNotIn (hK : X.K = K) : OpR X (compareOp .NotIn) (rIn K true) := by subst hK; exact op_notIn_seq
theorem v_inL (h : SqL K H a xs) (hx : flatV x = true) (hs : xs.all flatV = true) (k : Q (.bl (inV x xs)) H) : rInU K x (.ref a) H Q := .inl ⟨a, xs, rfl, .inl h, hx, hs, k⟩
theorem v_inT (h : SqT K H a xs) (hx : flatV x = true) (hs : xs.all flatV = true) (k : Q (.bl (inV x xs)) H) : rInU K x (.ref a) H Q := .inl ⟨a, xs, rfl, .inr h, hx, hs, k⟩
theorem v_inTy {n : String} {ts : List String} (h : SqT K H a (ts.map V.ty)) (hn : tyK n = true) (hs : ∀ t ∈ ts, tyK t = true) (k : Q (.bl (ts.contains n)) H) : rInU K (.ty n) (.ref a) H Q := .inr ⟨n, a, ts, rfl, rfl, h, hn, hs, k⟩
theorem v_ninL (h : SqL K H a xs) (hx : flatV x = true) (hs : xs.all flatV = true) (k : Q (.bl (!inV x xs)) H) : rIn K true x (.ref a) H Q := ⟨a, xs, rfl, .inl h, hx, hs, k⟩
theorem v_ninT (h : SqT K H a xs) (hx : flatV x = true) (hs : xs.all flatV = true) (k : Q (.bl (!inV x xs)) H) : rIn K true x (.ref a) H Q := ⟨a, xs, rfl, .inr h, hx, hs, k⟩
end
/-! ### instructions -/
def formsL : List (Str × List Str) := [("new", ["r", "C"]), ("array", ["r", "C", "i"]), ("null", ["r"]), ("move", ["r", "r"]), ("get", ["r", "r", "C", "f", "T"]), ("put", ["r", "C", "f", "T", "r"]),
  ("call", ["r", "r", "C", "f", "types", "T", "args"]), ("ask", ["r", "r", "C", "f", "types", "T", "args"]), ("cast", ["r", "r", "C"]), ("load", ["r", "r", "i"]), ("store", ["r", "i", "r"]), ("jump", ["t"]), ("ifnull", ["r", "t"]),
  ("ifis", ["r", "C", "t"]), ("choose", ["t"]), ("tell", ["r"]), ("return", ["r"])]
def typesD : Dat → Bool
  | .tup l => decide ((l.length : Int) ≤ 4) && l.all tpD
  | _ => false
def argsD (size : Int) : Dat → Bool
  | .tup l => l.all (numD 0 (size - 1))
  | _ => false
def fitsD (k : Str) (d : Dat) (size len : Int) : Bool :=
  if k = "r" then numD 0 (size - 1) d else if k = "t" then numD 0 (len - 1) d else if k = "i" then numD 0 9 d else if k = "T" then tpD d else if k = "types" then typesD d else if k = "args" then argsD size d else nmD d
def lenD : Dat → Nat
  | .tup l => l.length
  | _ => 0
def fitAll (size len : Int) : List Str → List Dat → Bool
  | k :: ks, d :: ds => fitsD k d size len && fitAll size len ks ds
  | _, _ => true
def instrD (size len : Int) : Dat → Bool
  | .tup (.str w :: rest) => match formsL.lookup w with
    | none => false
    | some form => decide (rest.length = form.length) && fitAll size len form rest && (!form.contains "args" || decide (lenD (rest.getD 4 .non) = lenD (rest.getD 6 .non)))
  | _ => false
def wordD : Dat → Bool
  | .tup (.str w :: _) => (formsL.lookup w).isSome
  | _ => false
end Kit

namespace K02
open PySem PySem.Spec PyProof.Rows L2 Kit
local macro_rules | `(tactic| walk_at "ne") => `(tactic| first
  | assumption
  | (apply Ne.symm; assumption)
  | exact ne_of_none (by assumption) (by assumption)
  | exact (ne_of_none (by assumption) (by assumption)).symm
  | (refine ne_of_none (H := ?H0) (o := ?oo) ?hs ?hn; (case hn => assumption); (case hs => walk_at "hp"))
  | (refine (ne_of_none (H := ?H0) (o := ?oo) ?hs ?hn).symm; (case hn => assumption); (case hs => walk_at "hp"))
  | (refine Src.ne (H := ?H0) ?hs ?hn; (case hn => assumption); (case hs => walk_at "src"))
  | (refine (Src.ne (H := ?H0) ?hs ?hn).symm; (case hn => assumption); (case hs => walk_at "src"))
  | fail "no rule")
local macro_rules | `(tactic| walk_at "hp") => `(tactic| first
  | assumption
  | exact upd_same
  | (refine (upd_ne ?hne).trans ?hrest; (case hne => walk_at "ne"); (case hrest => walk_at "hp"))
  | (refine same_at (H := ?H0) ?hs ?hrest; (case hs => assumption); (case hrest => walk_at "hp"))
  | (refine dr_at (H := ?H0) (a := ?a0) ?hs ?hne ?hrest; (case hs => assumption); (case hne => walk_at "ne"); (case hrest => walk_at "hp"))
  | fail "no rule")
local macro_rules | `(tactic| walk_at "sq") => `(tactic| first
  | assumption
  | exact Or.inl (Or.inl (by walk_at "hp"))
  | (refine sq_upd ?hnn ?hss; (case hnn => assumption); (case hss => walk_at "sq"))
  | (refine Same.seq (H := ?H0) ?hs ?hrest; (case hs => assumption); (case hrest => walk_at "sq"))
  | (refine sq_dr (H := ?H0) (a := ?a0) ?hs ?hne ?hrest; (case hs => assumption); (case hne => walk_at "ne"); (case hrest => walk_at "sq"))
  | fail "no rule")
local macro_rules | `(tactic| walk_at "sm") => `(tactic| first
  | assumption
  | exact Same.refl _
  | (refine same_new ?hnn; (case hnn => assumption))
  | (refine same_mut ?hs ?hnn; (case hs => walk_at "sm"); (case hnn => walk_at "fr"))
  | (refine Same.trans (H1 := ?H1) ?hs ?hq; (case hq => assumption); (case hs => walk_at "sm"))
  | fail "no rule")
local macro_rules | `(tactic| walk_at "fr") => `(tactic| first
  | assumption
  | (refine Same.free (H' := ?H1) ?hs ?hq; (case hq => assumption); (case hs => walk_at "sm"))
  | fail "no rule")
local macro_rules | `(tactic| walk_at "src") => `(tactic| first
  | assumption
  | exact Dr.src (by assumption)
  | (refine Src.same (H := ?H0) ?hs ?hm; (case hm => assumption); (case hs => walk_at "src"))
  | (refine Src.upd ?hs ?hn; (case hs => walk_at "src"); (case hn => walk_at "ne"))
  | fail "no rule")
local macro_rules | `(tactic| walk_at "fd") => `(tactic| first
  | assumption
  | (refine Same.free (H' := ?H1) ?hs ?hq; (case hq => assumption); (case hs => walk_at "sm"))
  | (refine Dr.free (H' := ?H1) ?h0 ?hs ?hq; (case hq => assumption); (case hs => walk_at "dr"); (case h0 => walk_at "src"))
  | fail "no rule")
local macro_rules | `(tactic| walk_at "dr") => `(tactic| first
  | assumption
  | (refine Dr.trans (H' := ?H1) ?hs ?hq; (case hq => assumption); (case hs => walk_at "dr"))
  | (refine Dr.mut ?hs ?h0 ?hn; (case hs => walk_at "dr"); (case h0 => walk_at "src"); (case hn => walk_at "fd"))
  | (refine Dr.trans (H' := ?H1) ?hs (Dr.same ?h0 ?hq); (case hq => assumption); (case h0 => walk_at "src"); (case hs => walk_at "dr"))
  | (refine Dr.refl ?hs; (case hs => walk_at "src"))
  | fail "no rule")
local macro_rules | `(tactic| walk_at "sz") => `(tactic| first
  | omega
  | (refine Nat.le_trans ?_ (show (1000 : Nat) ≤ sizeLine by decide); first | decide | omega | (simp; done) | (simp; omega) | fail)
  | fail "no rule")
local macro_rules | `(tactic| walk_at "v1") => `(tactic| first
  | with_reducible refine v_seq ?_
  | with_reducible refine v_asg ?_
  | with_reducible refine v_gname ?_
  | with_reducible refine v_c ?_
  | ((with_reducible refine v_var (v := ?vv) ?hv ?_); (case hv => exact rfl))
  | with_reducible refine v_op ?_
  | with_reducible refine v_un ?_
  | with_reducible refine v_I0 ?_
  | with_reducible refine v_U ?_
  | with_reducible refine v_addI ?_
  | with_reducible refine v_ltI ?_
  | with_reducible refine v_leI ?_
  | with_reducible refine v_gtI ?_
  | with_reducible refine v_geI ?_
  | with_reducible refine v_leS ?_
  | with_reducible refine v_ltS ?_
  | with_reducible refine v_eqI ?_
  | with_reducible refine v_neI ?_
  | with_reducible refine v_eqS ?_
  | with_reducible refine v_neS ?_
  | with_reducible refine v_eqB ?_
  | ((with_reducible refine v_eqTy ?h1 ?h2 ?_); (case h1 => walk_at "bt"); (case h2 => walk_at "bt"))
  | ((with_reducible refine v_neTy ?h1 ?h2 ?_); (case h1 => walk_at "bt"); (case h2 => walk_at "bt"))
  | with_reducible refine v_test ?_
  | with_reducible refine v_B ?_
  | with_reducible refine v_isbl ?_
  | with_reducible refine v_and ?_
  | with_reducible refine v_or ?_
  | with_reducible refine v_not ?_
  | with_reducible refine v_andV ?_
  | with_reducible refine v_orV ?_
  | with_reducible refine v_notV ?_
  | with_reducible refine v_if ?_
  | with_reducible refine v_chain ?_
  | with_reducible refine v_nil ?_
  | with_reducible refine v_cons ?_
  | with_reducible refine v_cb ?_
  | with_reducible refine v_call ?_
  | with_reducible refine v_max ?_
  | ((with_reducible refine v_draw ?hs ?hm ?_); (case hs => walk_at "src"); (case hm => omega))
  | with_reducible refine v_min ?_
  | with_reducible refine v_intI ?_
  | with_reducible refine v_intB ?_
  | with_reducible refine v_m1 ?_
  | with_reducible refine v_isstr ?_
  | with_reducible refine v_sl ?_
  | with_reducible refine v_ss ?_
  | with_reducible refine v_disp1 ?_
  | with_reducible refine v_s0 ?_
  | with_reducible refine v_nopart ?_
  | with_reducible refine v_part ?_
  | with_reducible refine v_partI ?_
  | with_reducible refine v_next ?_
  | with_reducible refine v_gsub ?_
  | with_reducible refine v_ifS ?_
  | with_reducible refine v_ret ?_
  | with_reducible refine v_drop ?_
  | ((with_reducible refine v_iteTrue ?hb ?_); (case hb => walk_at "bt"))
  | ((with_reducible refine v_iteFalse ?hb ?_); (case hb => walk_at "bt"))
  | with_reducible refine v_iteD ?_ ?_
  | with_reducible refine v_iteNot ?_
  | with_reducible refine v_lc ?_
  | with_reducible refine v_iStr ?_
  | with_reducible refine v_isS ?_
  | with_reducible refine v_iRng1 ?_
  | ((with_reducible refine v_rng1 ?hb ?_); (case hb => omega))
  | with_reducible refine v_iList ?_
  | with_reducible refine v_iSeq ?_
  | ((with_reducible refine v_isL (xs := ?xx) ?hsq ?_); (case hsq => walk_at "sq"))
  | with_reducible refine v_for ?_
  | with_reducible refine v_yes ?_
  | ((with_reducible refine v_nand ?hw ?_); (case hw => first | exact rfl | walk_at "sz" | fail))
  | ((with_reducible refine v_typ (T := ?TT) ?ht ?_); (case ht => walk_at "ty"))
  | ((with_reducible refine v_isiK (T := ?TT) ?ht ?h1 ?h2 ?_); (case ht => walk_at "ty"); (case h1 => walk_at "bt"); (case h2 => exact rfl))
  | with_reducible refine iteT ?_
  | with_reducible refine iteF ?_
  | with_reducible refine v_tup ?_
  | with_reducible refine v_lst ?_
  | ((with_reducible refine v_ixL (xs := ?xx) (v := ?vv) ?hsq ?hat ?_); (case hsq => walk_at "sq"); (case hat => exact rfl))
  | ((with_reducible refine v_lenL (xs := ?xx) ?hsq ?_); (case hsq => walk_at "sq"))
  | ((with_reducible refine v_setL (xs := ?xx) (j := ?jj) ?hh ?hj ?_); (case hh => walk_at "hp"); (case hj => exact rfl))
  | ((with_reducible refine v_I ?hc ?_); (case hc => walk_at "ic"))
  | ((with_reducible refine v_lenS ?hz ?_); (case hz => walk_at "sz"))
  | ((with_reducible refine v_slS ?hz ?_); (case hz => walk_at "sz"))
  | ((with_reducible refine v_addS ?hz ?_); (case hz => walk_at "sz"))
  | ((with_reducible refine v_ixS (c := ?cc) ?hz ?hat ?_); (case hz => walk_at "sz"); (case hat => exact rfl))
  | ((with_reducible refine v_addL (xs := ?xx) (ys := ?yy) ?h1 ?h2 ?hz ?_); (case h1 => walk_at "hp"); (case h2 => walk_at "hp"); (case hz => walk_at "sz"))
  | ((with_reducible refine v_ixT (xs := ?xx) (v := ?vv) ?hsq ?hat ?_); (case hsq => walk_at "sq"); (case hat => exact rfl))
  | ((with_reducible refine v_lenT (xs := ?xx) ?hsq ?_); (case hsq => walk_at "sq"))
  | ((with_reducible refine v_eq ?hs ?_); (case hs => exact rfl))
  | ((with_reducible refine v_ne ?hs ?_); (case hs => exact rfl))
  | (with_reducible intro _)
  | fail "no rule")
local macro_rules | `(tactic| walk_at "ic") => `(tactic| first
  | (show (0 : Int) < _; first | decide | omega | fail)
  | (show CMul _ _; unfold CMul; omega)
  | (show CDiv _ _; unfold CDiv; omega)
  | (show CPow _ _; unfold CPow; exact ⟨by decide, by decide, by decide⟩)
  | fail "no rule")
local macro_rules | `(tactic| walk_at "bt") => `(tactic| first
  | exact rfl
  | assumption
  | decide +kernel
  | (simp; done)
  | fail "no rule")
local macro_rules | `(tactic| walk_at "ty") => `(tactic| first
  | assumption
  | exact .non
  | exact .bl _
  | exact .int _
  | exact .str _
  | exact .lst (by walk_at "sq")
  | exact .tup (by walk_at "sq")
  | exact .dK (by walk_at "hp")
  | fail "no rule")
local macro_rules | `(tactic| walk_at "v") => `(tactic| try (walk_at "v1" <;> walk_at "v"))
local macro_rules | `(tactic| walk_at "start") => `(tactic| dsimp only [L2.start, cxOf, Cx.nox, Cx.wish, List.map, List.replicate, List.length, List.append, Nat.reduceSub, Nat.reduceAdd, List.cons_append, List.nil_append])

def topS (i : Nat) : Stmt := PySem.Challenge.pw_lateclasses_k03_methods_made.main.body.getD i (.Pass ⟨0, 0, 0, 0⟩)
abbrev s_InvalidMethod___init__ : Stmt := inClass (topS 2) 0
theorem sc_InvalidMethod___init__ : FnScope ["self", "given"] ["self", "given"] (defScope s_InvalidMethod___init__) := ⟨rfl, rfl, rfl, by decide +kernel, rfl, by decide +kernel, by decide +kernel⟩
abbrev s_is_name : Stmt := topS 6
theorem sc_is_name : FnScope ["value", "letter"] ["value"] (defScope s_is_name) := ⟨rfl, rfl, rfl, by decide +kernel, rfl, by decide +kernel, by decide +kernel⟩
abbrev s_is_type : Stmt := topS 7
theorem sc_is_type : FnScope ["value"] ["value"] (defScope s_is_type) := ⟨rfl, rfl, rfl, by decide +kernel, rfl, by decide +kernel, by decide +kernel⟩
abbrev s_is_number : Stmt := topS 8
theorem sc_is_number : FnScope ["value", "low", "high"] ["value", "low", "high"] (defScope s_is_number) := ⟨rfl, rfl, rfl, by decide +kernel, rfl, by decide +kernel, by decide +kernel⟩
abbrev s_is_series : Stmt := topS 9
theorem sc_is_series : FnScope ["value", "most"] ["value", "most"] (defScope s_is_series) := ⟨rfl, rfl, rfl, by decide +kernel, rfl, by decide +kernel, by decide +kernel⟩
abbrev s_are_types : Stmt := topS 18
theorem sc_are_types : FnScope ["items", "item"] ["items"] (defScope s_are_types) := ⟨rfl, rfl, rfl, by decide +kernel, rfl, by decide +kernel, by decide +kernel⟩
abbrev s_are_args : Stmt := topS 19
theorem sc_are_args : FnScope ["items", "size", "item"] ["items", "size"] (defScope s_are_args) := ⟨rfl, rfl, rfl, by decide +kernel, rfl, by decide +kernel, by decide +kernel⟩
abbrev s_fits : Stmt := topS 20
theorem sc_fits : FnScope ["kind", "item", "size", "length"] ["kind", "item", "size", "length"] (defScope s_fits) := ⟨rfl, rfl, rfl, by decide +kernel, rfl, by decide +kernel, by decide +kernel⟩
abbrev s_has_word : Stmt := topS 21
theorem sc_has_word : FnScope ["value"] ["value"] (defScope s_has_word) := ⟨rfl, rfl, rfl, by decide +kernel, rfl, by decide +kernel, by decide +kernel⟩
abbrev s_is_instruction_within : Stmt := topS 22
theorem sc_is_instruction_within : FnScope ["value", "size", "length", "form", "kind", "item"] ["value", "size", "length"] (defScope s_is_instruction_within) := ⟨rfl, rfl, rfl, by decide +kernel, rfl, by decide +kernel, by decide +kernel⟩
abbrev s_is_code : Stmt := topS 23
theorem sc_is_code : FnScope ["value", "size", "item"] ["value", "size"] (defScope s_is_code) := ⟨rfl, rfl, rfl, by decide +kernel, rfl, by decide +kernel, by decide +kernel⟩
abbrev s_require : Stmt := topS 24
theorem sc_require : FnScope ["right", "given"] ["right", "given"] (defScope s_require) := ⟨rfl, rfl, rfl, by decide +kernel, rfl, by decide +kernel, by decide +kernel⟩
abbrev s_Method___init__ : Stmt := inClass (topS 25) 0
theorem sc_Method___init__ : FnScope ["self", "name", "params", "result", "size", "code"] ["self", "name", "params", "result", "size", "code"] (defScope s_Method___init__) := ⟨rfl, rfl, rfl, by decide +kernel, rfl, by decide +kernel, by decide +kernel⟩
abbrev s_Method_name : Stmt := inClass (topS 25) 1
theorem sc_Method_name : FnScope ["self"] ["self"] (defScope s_Method_name) := ⟨rfl, rfl, rfl, by decide +kernel, rfl, by decide +kernel, by decide +kernel⟩
abbrev s_Method_params : Stmt := inClass (topS 25) 2
theorem sc_Method_params : FnScope ["self"] ["self"] (defScope s_Method_params) := ⟨rfl, rfl, rfl, by decide +kernel, rfl, by decide +kernel, by decide +kernel⟩
abbrev s_Method_result : Stmt := inClass (topS 25) 3
theorem sc_Method_result : FnScope ["self"] ["self"] (defScope s_Method_result) := ⟨rfl, rfl, rfl, by decide +kernel, rfl, by decide +kernel, by decide +kernel⟩
abbrev s_Method_size : Stmt := inClass (topS 25) 4
theorem sc_Method_size : FnScope ["self"] ["self"] (defScope s_Method_size) := ⟨rfl, rfl, rfl, by decide +kernel, rfl, by decide +kernel, by decide +kernel⟩
abbrev s_Method_code : Stmt := inClass (topS 25) 5
theorem sc_Method_code : FnScope ["self"] ["self"] (defScope s_Method_code) := ⟨rfl, rfl, rfl, by decide +kernel, rfl, by decide +kernel, by decide +kernel⟩
abbrev s_Method___eq__ : Stmt := inClass (topS 25) 6
theorem sc_Method___eq__ : FnScope ["self", "other"] ["self", "other"] (defScope s_Method___eq__) := ⟨rfl, rfl, rfl, by decide +kernel, rfl, by decide +kernel, by decide +kernel⟩
abbrev s_law_source : Stmt := topS 27
theorem sc_law_source : FnScope ["_law_script", "_law_turn", "_law_cell", "_law_number", "_law_seed"] ["_law_script", "_law_turn"] (defScope s_law_source) := ⟨rfl, rfl, rfl, by decide +kernel, rfl, by decide +kernel, by decide +kernel⟩
abbrev s_law_draw : Stmt := topS 28
theorem sc_law_draw : FnScope ["_law_source_here", "_law_amount", "_law_digit"] ["_law_source_here", "_law_amount"] (defScope s_law_draw) := ⟨rfl, rfl, rfl, by decide +kernel, rfl, by decide +kernel, by decide +kernel⟩
abbrev s_law_pick : Stmt := topS 29
theorem sc_law_pick : FnScope ["_law_source_here", "_law_items"] ["_law_source_here", "_law_items"] (defScope s_law_pick) := ⟨rfl, rfl, rfl, by decide +kernel, rfl, by decide +kernel, by decide +kernel⟩
abbrev s_law_type : Stmt := topS 30
theorem sc_law_type : FnScope ["_law_source_here"] ["_law_source_here"] (defScope s_law_type) := ⟨rfl, rfl, rfl, by decide +kernel, rfl, by decide +kernel, by decide +kernel⟩
abbrev s_law_call : Stmt := topS 31
theorem sc_law_call : FnScope ["_law_source_here", "_law_size", "_law_many", "_law_kinds", "_law_args", "_law_part"] ["_law_source_here", "_law_size"] (defScope s_law_call) := ⟨rfl, rfl, rfl, by decide +kernel, rfl, by decide +kernel, by decide +kernel⟩
abbrev s_law_made : Stmt := topS 32
theorem sc_law_made : FnScope ["_law_source_here", "_law_size", "_law_length", "_law_way", "_law_first", "_law_second", "_law_third", "_law_name", "_law_target", "_law_some", "_law_part"] ["_law_source_here", "_law_size", "_law_length"] (defScope s_law_made) := ⟨rfl, rfl, rfl, by decide +kernel, rfl, by decide +kernel, by decide +kernel⟩
abbrev s_law_ready : Stmt := topS 33
theorem sc_law_ready : FnScope ["_law_source_here", "_law_size", "_law_given", "_law_found", "_law_drawer", "_law_name"] ["_law_source_here", "_law_size", "_law_given"] (defScope s_law_ready) := ⟨rfl, rfl, rfl, by decide +kernel, rfl, by decide +kernel, by decide +kernel⟩
abbrev s_law_method : Stmt := topS 34
theorem sc_law_method : FnScope ["_law_source_here", "_law_is_ready", "_law_params", "_law_size", "_law_first", "_law_length", "_law_code", "_law_part"] ["_law_source_here", "_law_is_ready"] (defScope s_law_method) := ⟨rfl, rfl, rfl, by decide +kernel, rfl, by decide +kernel, by decide +kernel⟩
abbrev s_law_refused : Stmt := topS 35
theorem sc_law_refused : FnScope ["_law_parts", "e"] ["_law_parts"] (defScope s_law_refused) := ⟨rfl, rfl, rfl, by decide +kernel, rfl, by decide +kernel, by decide +kernel⟩
abbrev s_law_codes : Stmt := topS 36
theorem sc_law_codes : FnScope ["_law_size", "_law_far", "_law_last", "_law_found"] ["_law_size"] (defScope s_law_codes) := ⟨rfl, rfl, rfl, by decide +kernel, rfl, by decide +kernel, by decide +kernel⟩
abbrev s_law_wrongs : Stmt := topS 37
theorem sc_law_wrongs : FnScope ["_law_source_here", "_law_method_here", "_law_found"] ["_law_source_here", "_law_method_here"] (defScope s_law_wrongs) := ⟨rfl, rfl, rfl, by decide +kernel, rfl, by decide +kernel, by decide +kernel⟩
abbrev s_law_others_right : Stmt := topS 38
theorem sc_law_others_right : FnScope ["_law_method_here", "_law_right", "_law_others", "_law_at", "_law_parts"] ["_law_method_here", "_law_right"] (defScope s_law_others_right) := ⟨rfl, rfl, rfl, by decide +kernel, rfl, by decide +kernel, by decide +kernel⟩
abbrev s_law : Stmt := topS 39
theorem sc_law : FnScope ["_law_script", "_law_turn", "_law_source_here", "_law_method_here", "_law_right", "_law_twin", "_law_kept", "_law_wrongs_here", "_law_at", "_law_due"] ["_law_script"] (defScope s_law) := ⟨rfl, rfl, rfl, by decide +kernel, rfl, by decide +kernel, by decide +kernel⟩
variable {P : Program} {w : World} {K : PySem.W.Frag} {mg : Str → Option Value} {base : Heap}
structure Txt (K : PySem.W.Frag) (w : World) (mg : Str → Option Value) (aF : Addr) (es : Array DictEntry) (nF : Nat) : Prop extends Bi mg where
  g_MOST_LETTERS : GlobV mg "MOST_LETTERS" (.int 8)
  g_ARRAY_SIGN : GlobV mg "ARRAY_SIGN" (.str "[]")
  g_MOST_TYPES : GlobV mg "MOST_TYPES" (.int 4)
  g_MOST_SIZE : GlobV mg "MOST_SIZE" (.int 10)
  g_MOST_CODE : GlobV mg "MOST_CODE" (.int 40)
  g_MOST_DIGIT : GlobV mg "MOST_DIGIT" (.int 9)
  g_TYPES_AT : GlobV mg "TYPES_AT" (.int 5)
  g_ARGS_AT : GlobV mg "ARGS_AT" (.int 7)
  g_FORMS : GlobV mg "FORMS" (.ref aF)
  kd : KDict K w aF es nF
  forms : ∀ z, ∃ r, PySem.W.nsIn K aF z = some r ∧ match formsL.lookup z with
    | none => r = none
    | some ks => ∃ a, r = some (.ref a) ∧ ∀ H, SqT K H a (ks.map V.str)
variable {aF : Addr} {es : Array DictEntry} {nF : Nat}

theorem ok_source {f : Addr} {fd : FuncData} (F : Fun K "_law_source" "_law_source" s_law_source f fd) (T : Bi mg) : FnOk P w K mg base CX0 1 f fd ["_law_script", "_law_turn"] (spSource K) := by
  refine F.ok sc_law_source (fun vs H Q E h => ?_) (fun cdv A outer s H vs Q E hr h => ?_)
  · obtain ⟨a, ns, t, rfl, _⟩ := h
    rfl
  · obtain ⟨a, ns, t, rfl, hS, hl, ht0, ht, q⟩ := h
    have fin : ∀ (n z : Int) (p : Addr), 0 ≤ n → 0 ≤ z → z < 2147483648 → H p = none → Q (.ref p) (upd H p (.lst [.int n, .int z])) := fun n z p h1 h2 h3 hp =>
      q p _ hp (same_new hp) ⟨n, z, upd_same, h1, h2, h3⟩
    refine ⟨_, (pss_cons (ps_set (i := 2) sc_law_source.nd rfl (by first | exact .inl rfl | exact .inr rfl) pe_int)
      (pss_cons (ps_if (pt_cmpR opLtU (pv 1) (pe_callB (kLen (K := K) rfl) (by rfl) T.b_len (by decide +kernel) (pa_cons (pv 0) pa_nil)) (nomark _)) (pss_one (ps_set (i := 2) sc_law_source.nd rfl (by first | exact .inl rfl | exact .inr rfl) (pe_ix (kIx (K := K) rfl) (pv 0) (pv 1) (fun _ _ => rfl)))) pss_nil)
      (pss_cons (ps_set (i := 3) sc_law_source.nd rfl (by first | exact .inl rfl | exact .inr rfl) (pe_callB callMaxU (by rfl) T.b_max (by decide +kernel) (pa_cons (pv 2) (pa_cons (pe_op op_sub (pe_un un_neg pe_int) (pv 2)) pa_nil))))
      (pss_cons (ps_set (i := 4) sc_law_source.nd rfl (by first | exact .inl rfl | exact .inr rfl) (pe_op op_mod (pe_callTy callIntU (by rfl) T.b_int (by decide +kernel) (pa_cons (pe_op (kAdd (K := K) rfl) (pe_op (kAdd (K := K) rfl) (pe_op op_mul (pe_op op_mod (pe_callTy callIntU (by rfl) T.b_int (by decide +kernel) (pa_cons (pv 3) pa_nil)) pe_int) pe_int) (pe_op op_mul pe_int (pv 1))) pe_int) pa_nil)) pe_int))
      (pss_cons (ps_if (pt_cmpR opLtU (pv 3) (pe_op op_pow pe_int pe_int) (nomark _)) (pss_one (ps_set (i := 3) sc_law_source.nd rfl (by first | exact .inl rfl | exact .inr rfl) pe_int)) pss_nil)
      (pss_one (ps_ret (pe_lst (pa_cons (pv 3) (pa_cons (pv 4) pa_nil)))))))))), ?_⟩
    walk_at "start"
    walk_at "v"
    · rename_i hlt
      refine v_ixL hS (at_ints ht0 (by rw [List.length_map] at hlt; exact hlt)) ?_
      walk_at "v"
      all_goals exact fin _ _ _ (by omega) (by omega) (by omega) (by assumption)
    all_goals exact fin _ _ _ (by omega) (by omega) (by omega) (by assumption)
theorem ok_draw {f : Addr} {fd : FuncData} (F : Fun K "_law_draw" "_law_draw" s_law_draw f fd) (T : Bi mg) : FnOk P w K mg base CX0 1 f fd ["_law_source_here", "_law_amount"] spDraw := by
  refine F.ok sc_law_draw (fun vs H Q E h => ?_) (fun cdv A outer s H vs Q E hr h => ?_)
  · obtain ⟨a, m, rfl, _⟩ := h
    rfl
  · obtain ⟨a, m, rfl, ⟨n, s, hS, hn, hs, hs2⟩, hm, hm2, q⟩ := h
    have fin : ∀ (d n z : Int), 0 ≤ d → d < m → 0 ≤ n → 0 ≤ z → z < 2147483648 → Q (.int d) (upd H a (.lst [.int n, .int z])) := fun d n z h1 h2 h3 h4 h5 =>
      q d _ h1 h2 ⟨fun b o e hb => by rw [upd_ne hb]; exact e, n, z, upd_same, h3, h4, h5⟩
    refine ⟨_, (pss_cons (ps_if (pt_cmpR opGtU (pe_ix (kIx (K := K) rfl) (pv 0) pe_int (fun _ _ => rfl)) pe_int (nomark _)) (pss_cons (ps_set (i := 2) sc_law_draw.nd rfl (by first | exact .inl rfl | exact .inr rfl) (pe_op op_mod (pe_callTy callIntU (by rfl) T.b_int (by decide +kernel) (pa_cons (pe_ix (kIx (K := K) rfl) (pv 0) pe_int (fun _ _ => rfl)) pa_nil)) (pv 1)))
      (pss_cons (ps_asg (pe_op op_fdiv (pe_ix (kIx (K := K) rfl) (pv 0) pe_int (fun _ _ => rfl)) (pv 1)) (pg_sub (pv 0) pe_int set_list))
      (pss_one (ps_ret (pv 2))))) pss_nil)
      (pss_cons (ps_asg (pe_op op_mod (pe_callTy callIntU (by rfl) T.b_int (by decide +kernel) (pa_cons (pe_op (kAdd (K := K) rfl) (pe_op op_mul (pe_ix (kIx (K := K) rfl) (pv 0) pe_int (fun _ _ => rfl)) pe_int) pe_int) pa_nil)) pe_int) (pg_sub (pv 0) pe_int set_list))
      (pss_one (ps_ret (pe_op op_mod (pe_callTy callIntU (by rfl) T.b_int (by decide +kernel) (pa_cons (pe_op op_fdiv (pe_op op_mod (pe_callTy callIntU (by rfl) T.b_int (by decide +kernel) (pa_cons (pe_op op_mul (pe_ix (kIx (K := K) rfl) (pv 0) pe_int (fun _ _ => rfl)) (pe_ix (kIx (K := K) rfl) (pv 0) pe_int (fun _ _ => rfl))) pa_nil)) pe_int) pe_int) pa_nil)) (pv 1)))))), ?_⟩
    walk_at "start"
    walk_at "v"
    · exact fin _ _ _ (Int.emod_nonneg _ (by omega)) (Int.emod_lt_of_pos _ hm) (Int.ediv_nonneg hn (by omega)) hs hs2
    · exact fin _ _ _ (Int.emod_nonneg _ (by omega)) (Int.emod_lt_of_pos _ hm) hn (by omega) (by omega)

theorem ok_is_name {f : Addr} {fd : FuncData} (F : Fun K "is_name" "is_name" s_is_name f fd) (T : Txt K w mg aF es nF) : FnOk P w K mg base CX0 1 f fd ["value"] (spIsName K) := by
  refine F.ok sc_is_name (fun vs H Q E h => ?_) (fun cdv A outer s H vs Q E hr h => ?_)
  · obtain ⟨x, rfl, _⟩ := h
    rfl
  · obtain ⟨x, rfl, ⟨ty, ht, hk⟩, hsh, q⟩ := h
    refine ⟨_, (pss_cons (ps_if (PW.pt (pw_or (pt_cmpR (kNe (K := K) rfl hr.units) (pe_callTy (kType (K := K) rfl) (by rfl) T.b_type (by decide +kernel) (pa_cons (pv 0) pa_nil)) (pbty (n := "str") (by rfl) T.b_str (by decide +kernel)) (nomark _)) (pw_or1 (pt_not (pt_chain opLeU opLeU pe_int (pe_callB (kLen (K := K) rfl) (by rfl) T.b_len (by decide +kernel) (pa_cons (pv 0) pa_nil)) (pglob (by rfl) T.g_MOST_LETTERS)))))) (pss_one (ps_ret pe_bl)) pss_nil)
      (pss_one (ps_ret (pe_callB (kAll (K := K) rfl) (by rfl) T.b_all (by decide +kernel) (pa_cons (pe_lc (own := [("letter", 1)]) (by rfl) sc_is_name.nd (pi_str (pv 0)) (blkOk_by (N := ["value", "letter"]) (sc := defScope s_is_name) (by decide +kernel)) (fun _ _ _ _ _ => (pg_name (i := 1) sc_is_name.nd rfl (by first | exact .inl rfl | exact .inr rfl))) (fun _ _ _ _ _ => pts_nil) (fun _ _ _ _ _ => (pe_chain opLeU opLeU pe_str (pv 1) pe_str))) pa_nil))))), ?_⟩
    walk_at "start"
    rcases str_ty ht with ⟨rfl, z, rfl⟩ | ⟨hne, hno⟩
    · have hz : z.length ≤ 1000 := (hsh z rfl).1
      walk_at "v"
      · have e0 : nameV (.str z) = z.cps.toList.all lowC := nameS_of (by assumption) (by assumption)
        rw [e0] at q
        refine lc_f walk_sgns hy_at (fun _ _ => trivial) fLow (by rw [sgns_len]; exact small1000 hz) (fun x H2 R Rn hx s2 hR hN => ?_) (fun D H' hD s' e => ?_)
        · obtain ⟨c, _, rfl⟩ := List.mem_map.mp hx
          walk_at "v"
          all_goals first
            | (rename_i h1; rw [cps_a] at h1; rw [cps_z]; exact hR _ _ (Same.refl _) (fLow_hi (by rw [← lt1]; exact h1)))
            | (rename_i h1; rw [cps_a] at h1; exact hR _ _ (Same.refl _) (fLow_lo (by rw [← lt1]; exact h1)))
        · walk_at "v"
          refine v_all (bs := z.cps.toList.map lowC) (sq_lst (by rw [e, low_list])) ?_
          rw [all_low]
          exact q H' s'
      all_goals
        have e0 : nameV (.str z) = false := nameS_no fun h => by omega
        rw [e0] at q
        exact q H (Same.refl H)
    · rw [hno] at q
      walk_at "v"
      all_goals first
        | exact q _ (Same.refl _)
        | exact absurd (by assumption) hne

theorem ok_is_type {f : Addr} {fd : FuncData} (F : Fun K "is_type" "is_type" s_is_type f fd) (T : Txt K w mg aF es nF) (C_is_name : Cal P w K mg base 1 "is_name" ["value"] (spIsName K)) : FnOk P w K mg base CX0 2 f fd ["value"] (spIsType K) := by
  refine F.ok sc_is_type (fun vs H Q E h => ?_) (fun cdv A outer s H vs Q E hr h => ?_)
  · obtain ⟨x, rfl, _⟩ := h
    rfl
  · obtain ⟨x, rfl, ⟨ty, ht, hk⟩, hsh, q⟩ := h
    refine ⟨_, (pss_one (ps_ret (pe_and (pe_cmpR (kEq (K := K) rfl hr.units) (pe_callTy (kType (K := K) rfl) (by rfl) T.b_type (by decide +kernel) (pa_cons (pv 0) pa_nil)) (pbty (n := "str") (by rfl) T.b_str (by decide +kernel)) (nomark _)) (pe_one (pcall C_is_name hr (by omega) (by rfl) (pa_cons (pe_m1 PySem.F.slot_str_removesuffix PySem.F.type_str_removesuffix mt_removesuffix (pv 0) (pglob (by rfl) T.g_ARRAY_SIGN)) pa_nil)))))), ?_⟩
    walk_at "start"
    rcases ty_cases ht with ⟨rfl, z, rfl⟩ | ⟨hne, hno⟩
    · have hz : z.length ≤ 1000 := (hsh z rfl).1
      walk_at "v"
      refine ⟨_, rfl, ⟨_, .str _, rfl⟩, fun w hw => ?_, q⟩
      cases hw
      exact cut_ok (hsh z rfl)
    · rw [typeV_no hno] at q
      walk_at "v"
      all_goals first
        | exact q _ (Same.refl _)
        | exact absurd (by assumption) hne

/-! ### numbers, series -/
def spNum (K : PySem.W.Frag) : Sp := fun vs H Q _ => ∃ (x : V) (d : Dat) (lo hi : Int), vs = [x, .int lo, .int hi] ∧ Rep K H d x ∧ Q (.bl (numD lo hi d)) H
theorem ok_is_number {f : Addr} {fd : FuncData} (F : Fun K "is_number" "is_number" s_is_number f fd) (T : Txt K w mg aF es nF) : FnOk P w K mg base CX0 1 f fd ["value", "low", "high"] (spNum K) := by
  refine F.ok sc_is_number (fun vs H Q E h => ?_) (fun cdv A outer s H vs Q E hr h => ?_)
  · obtain ⟨x, d, lo, hi, rfl, _⟩ := h
    rfl
  · obtain ⟨x, d, lo, hi, rfl, hd, q⟩ := h
    refine ⟨_, (pss_one (ps_ret (pe_and (pe_cmpR (kEq (K := K) rfl hr.units) (pe_callTy (kType (K := K) rfl) (by rfl) T.b_type (by decide +kernel) (pa_cons (pv 0) pa_nil)) (pbty (n := "int") (by rfl) T.b_int (by decide +kernel)) (nomark _)) (pe_one (pe_chain opLeU opLeU (pv 1) (pv 0) (pv 2)))))), ?_⟩
    walk_at "start"
    have ht := hd.ty
    have hk := tyD_known d
    cases d with
    | int i =>
      cases hd
      walk_at "v"
      · rename_i h1
        rw [show numD lo hi (.int i) = decide (i ≤ hi) by simp [numD, h1]] at q
        exact q
      · rename_i h1
        rw [show numD lo hi (.int i) = false by simp [numD, h1]] at q
        exact q
    | _ =>
      walk_at "v"
      exact q
end K02

namespace K02
open PySem PySem.Spec PyProof.Rows L2 Kit
local macro_rules | `(tactic| walk_at "ne") => `(tactic| first
  | assumption
  | (apply Ne.symm; assumption)
  | exact ne_of_none (by assumption) (by assumption)
  | exact (ne_of_none (by assumption) (by assumption)).symm
  | (refine ne_of_none (H := ?H0) (o := ?oo) ?hs ?hn; (case hn => assumption); (case hs => walk_at "hp"))
  | (refine (ne_of_none (H := ?H0) (o := ?oo) ?hs ?hn).symm; (case hn => assumption); (case hs => walk_at "hp"))
  | (refine Src.ne (H := ?H0) ?hs ?hn; (case hn => assumption); (case hs => walk_at "src"))
  | (refine (Src.ne (H := ?H0) ?hs ?hn).symm; (case hn => assumption); (case hs => walk_at "src"))
  | fail "no rule")
local macro_rules | `(tactic| walk_at "hp") => `(tactic| first
  | assumption
  | exact upd_same
  | (refine (upd_ne ?hne).trans ?hrest; (case hne => walk_at "ne"); (case hrest => walk_at "hp"))
  | (refine same_at (H := ?H0) ?hs ?hrest; (case hs => assumption); (case hrest => walk_at "hp"))
  | (refine dr_at (H := ?H0) (a := ?a0) ?hs ?hne ?hrest; (case hs => assumption); (case hne => walk_at "ne"); (case hrest => walk_at "hp"))
  | fail "no rule")
local macro_rules | `(tactic| walk_at "sq") => `(tactic| first
  | assumption
  | exact Or.inl (Or.inl (by walk_at "hp"))
  | (refine sq_upd ?hnn ?hss; (case hnn => assumption); (case hss => walk_at "sq"))
  | (refine Same.seq (H := ?H0) ?hs ?hrest; (case hs => assumption); (case hrest => walk_at "sq"))
  | (refine sq_dr (H := ?H0) (a := ?a0) ?hs ?hne ?hrest; (case hs => assumption); (case hne => walk_at "ne"); (case hrest => walk_at "sq"))
  | fail "no rule")
local macro_rules | `(tactic| walk_at "sm") => `(tactic| first
  | assumption
  | exact Same.refl _
  | (refine same_new ?hnn; (case hnn => assumption))
  | (refine same_mut ?hs ?hnn; (case hs => walk_at "sm"); (case hnn => walk_at "fr"))
  | (refine Same.trans (H1 := ?H1) ?hs ?hq; (case hq => assumption); (case hs => walk_at "sm"))
  | fail "no rule")
local macro_rules | `(tactic| walk_at "fr") => `(tactic| first
  | assumption
  | (refine Same.free (H' := ?H1) ?hs ?hq; (case hq => assumption); (case hs => walk_at "sm"))
  | fail "no rule")
local macro_rules | `(tactic| walk_at "src") => `(tactic| first
  | assumption
  | exact Dr.src (by assumption)
  | (refine Src.same (H := ?H0) ?hs ?hm; (case hm => assumption); (case hs => walk_at "src"))
  | (refine Src.upd ?hs ?hn; (case hs => walk_at "src"); (case hn => walk_at "ne"))
  | fail "no rule")
local macro_rules | `(tactic| walk_at "fd") => `(tactic| first
  | assumption
  | (refine Same.free (H' := ?H1) ?hs ?hq; (case hq => assumption); (case hs => walk_at "sm"))
  | (refine Dr.free (H' := ?H1) ?h0 ?hs ?hq; (case hq => assumption); (case hs => walk_at "dr"); (case h0 => walk_at "src"))
  | fail "no rule")
local macro_rules | `(tactic| walk_at "dr") => `(tactic| first
  | assumption
  | (refine Dr.trans (H' := ?H1) ?hs ?hq; (case hq => assumption); (case hs => walk_at "dr"))
  | (refine Dr.mut ?hs ?h0 ?hn; (case hs => walk_at "dr"); (case h0 => walk_at "src"); (case hn => walk_at "fd"))
  | (refine Dr.trans (H' := ?H1) ?hs (Dr.same ?h0 ?hq); (case hq => assumption); (case h0 => walk_at "src"); (case hs => walk_at "dr"))
  | (refine Dr.refl ?hs; (case hs => walk_at "src"))
  | fail "no rule")
local macro_rules | `(tactic| walk_at "sz") => `(tactic| first
  | omega
  | (refine Nat.le_trans ?_ (show (1000 : Nat) ≤ sizeLine by decide); first | decide | omega | (simp; done) | (simp; omega) | fail)
  | fail "no rule")
local macro_rules | `(tactic| walk_at "v1") => `(tactic| first
  | with_reducible refine v_seq ?_
  | with_reducible refine v_asg ?_
  | with_reducible refine v_gname ?_
  | with_reducible refine v_c ?_
  | ((with_reducible refine v_var (v := ?vv) ?hv ?_); (case hv => exact rfl))
  | with_reducible refine v_op ?_
  | with_reducible refine v_un ?_
  | with_reducible refine v_I0 ?_
  | with_reducible refine v_U ?_
  | with_reducible refine v_addI ?_
  | with_reducible refine v_ltI ?_
  | with_reducible refine v_leI ?_
  | with_reducible refine v_gtI ?_
  | with_reducible refine v_geI ?_
  | with_reducible refine v_leS ?_
  | with_reducible refine v_ltS ?_
  | with_reducible refine v_eqI ?_
  | with_reducible refine v_neI ?_
  | with_reducible refine v_eqS ?_
  | with_reducible refine v_neS ?_
  | with_reducible refine v_eqB ?_
  | ((with_reducible refine v_eqTy ?h1 ?h2 ?_); (case h1 => walk_at "bt"); (case h2 => walk_at "bt"))
  | ((with_reducible refine v_neTy ?h1 ?h2 ?_); (case h1 => walk_at "bt"); (case h2 => walk_at "bt"))
  | with_reducible refine v_test ?_
  | with_reducible refine v_B ?_
  | with_reducible refine v_isbl ?_
  | with_reducible refine v_and ?_
  | with_reducible refine v_or ?_
  | with_reducible refine v_not ?_
  | with_reducible refine v_andV ?_
  | with_reducible refine v_orV ?_
  | with_reducible refine v_notV ?_
  | with_reducible refine v_if ?_
  | with_reducible refine v_chain ?_
  | with_reducible refine v_nil ?_
  | with_reducible refine v_cons ?_
  | with_reducible refine v_cb ?_
  | with_reducible refine v_call ?_
  | with_reducible refine v_max ?_
  | ((with_reducible refine v_draw ?hs ?hm ?_); (case hs => walk_at "src"); (case hm => omega))
  | with_reducible refine v_min ?_
  | with_reducible refine v_intI ?_
  | with_reducible refine v_intB ?_
  | with_reducible refine v_m1 ?_
  | with_reducible refine v_isstr ?_
  | with_reducible refine v_sl ?_
  | with_reducible refine v_ss ?_
  | with_reducible refine v_disp1 ?_
  | with_reducible refine v_s0 ?_
  | with_reducible refine v_nopart ?_
  | with_reducible refine v_part ?_
  | with_reducible refine v_partI ?_
  | with_reducible refine v_next ?_
  | with_reducible refine v_gsub ?_
  | with_reducible refine v_ifS ?_
  | with_reducible refine v_ret ?_
  | with_reducible refine v_drop ?_
  | ((with_reducible refine v_iteTrue ?hb ?_); (case hb => walk_at "bt"))
  | ((with_reducible refine v_iteFalse ?hb ?_); (case hb => walk_at "bt"))
  | with_reducible refine v_iteD ?_ ?_
  | with_reducible refine v_iteNot ?_
  | with_reducible refine v_lc ?_
  | with_reducible refine v_iStr ?_
  | with_reducible refine v_isS ?_
  | with_reducible refine v_iRng1 ?_
  | ((with_reducible refine v_rng1 ?hb ?_); (case hb => omega))
  | with_reducible refine v_iList ?_
  | with_reducible refine v_iSeq ?_
  | ((with_reducible refine v_isL (xs := ?xx) ?hsq ?_); (case hsq => walk_at "sq"))
  | with_reducible refine v_for ?_
  | with_reducible refine v_yes ?_
  | ((with_reducible refine v_nand ?hw ?_); (case hw => first | exact rfl | walk_at "sz" | fail))
  | ((with_reducible refine v_typ (T := ?TT) ?ht ?_); (case ht => walk_at "ty"))
  | ((with_reducible refine v_isiK (T := ?TT) ?ht ?h1 ?h2 ?_); (case ht => walk_at "ty"); (case h1 => walk_at "bt"); (case h2 => exact rfl))
  | with_reducible refine iteT ?_
  | with_reducible refine iteF ?_
  | with_reducible refine v_tup ?_
  | with_reducible refine v_lst ?_
  | ((with_reducible refine v_ixL (xs := ?xx) (v := ?vv) ?hsq ?hat ?_); (case hsq => walk_at "sq"); (case hat => exact rfl))
  | ((with_reducible refine v_lenL (xs := ?xx) ?hsq ?_); (case hsq => walk_at "sq"))
  | ((with_reducible refine v_setL (xs := ?xx) (j := ?jj) ?hh ?hj ?_); (case hh => walk_at "hp"); (case hj => exact rfl))
  | ((with_reducible refine v_I ?hc ?_); (case hc => walk_at "ic"))
  | ((with_reducible refine v_lenS ?hz ?_); (case hz => walk_at "sz"))
  | ((with_reducible refine v_slS ?hz ?_); (case hz => walk_at "sz"))
  | ((with_reducible refine v_addS ?hz ?_); (case hz => walk_at "sz"))
  | ((with_reducible refine v_ixS (c := ?cc) ?hz ?hat ?_); (case hz => walk_at "sz"); (case hat => exact rfl))
  | ((with_reducible refine v_addL (xs := ?xx) (ys := ?yy) ?h1 ?h2 ?hz ?_); (case h1 => walk_at "hp"); (case h2 => walk_at "hp"); (case hz => walk_at "sz"))
  | ((with_reducible refine v_ixT (xs := ?xx) (v := ?vv) ?hsq ?hat ?_); (case hsq => walk_at "sq"); (case hat => exact rfl))
  | ((with_reducible refine v_lenT (xs := ?xx) ?hsq ?_); (case hsq => walk_at "sq"))
  | ((with_reducible refine v_eq ?hs ?_); (case hs => exact rfl))
  | ((with_reducible refine v_ne ?hs ?_); (case hs => exact rfl))
  | (with_reducible intro _)
  | fail "no rule")
local macro_rules | `(tactic| walk_at "ic") => `(tactic| first
  | (show (0 : Int) < _; first | decide | omega | fail)
  | (show CMul _ _; unfold CMul; omega)
  | (show CDiv _ _; unfold CDiv; omega)
  | (show CPow _ _; unfold CPow; exact ⟨by decide, by decide, by decide⟩)
  | fail "no rule")
local macro_rules | `(tactic| walk_at "bt") => `(tactic| first
  | exact rfl
  | assumption
  | decide +kernel
  | (simp; done)
  | fail "no rule")
local macro_rules | `(tactic| walk_at "ty") => `(tactic| first
  | assumption
  | exact .non
  | exact .bl _
  | exact .int _
  | exact .str _
  | exact .lst (by walk_at "sq")
  | exact .tup (by walk_at "sq")
  | exact .dK (by walk_at "hp")
  | fail "no rule")
local macro_rules | `(tactic| walk_at "v") => `(tactic| try (walk_at "v1" <;> walk_at "v"))
local macro_rules | `(tactic| walk_at "start") => `(tactic| dsimp only [L2.start, cxOf, Cx.nox, Cx.wish, List.map, List.replicate, List.length, List.append, Nat.reduceSub, Nat.reduceAdd, List.cons_append, List.nil_append])

variable {P : Program} {w : World} {K : PySem.W.Frag} {mg : Str → Option Value} {base : Heap}
variable {aF : Addr} {es : Array DictEntry} {nF : Nat}
/-! ### lists of types, of registers -/
def SeqAt2 (K : PySem.W.Frag) (H : Hp) (x : V) (l : List Dat) : Prop := Rep K H (.tup l) x ∨ Rep K H (.lst l) x
def spTypes (K : PySem.W.Frag) : Sp := fun vs H Q _ => ∃ (x : V) (l : List Dat), vs = [x] ∧ SeqAt2 K H x l ∧ okL l ∧ l.length ≤ 1000 ∧ ∀ H', Same H H' → Q (.bl (l.all tpD)) H'
def spArgs (K : PySem.W.Frag) : Sp := fun vs H Q _ => ∃ (x : V) (l : List Dat) (size : Int), vs = [x, .int size] ∧ SeqAt2 K H x l ∧ l.length ≤ 1000 ∧ ∀ H', Same H H' → Q (.bl (l.all (numD 0 (size - 1)))) H'
theorem seq_cases {H : Hp} {x : V} {l : List Dat} (h : SeqAt2 K H x l) : ∃ a xs, x = .ref a ∧ RepL K H l xs ∧ (SqT K H a xs ∨ SqL K H a xs) := by
  rcases h with ⟨a, xs, rfl, q, r⟩ | ⟨a, xs, rfl, q, r⟩
  · exact ⟨a, xs, rfl, r, .inl q⟩
  · exact ⟨a, xs, rfl, r, .inr q⟩
theorem bl_list {n : Nat} (g : Nat → Bool) : (List.range n).filterMap (fun i => some (V.bl (g i))) = ((List.range n).map g).map V.bl := by
  rw [List.map_map, show (fun i => some (V.bl (g i))) = fun i => some ((V.bl ∘ g) i) from rfl, List.filterMap_eq_map']
theorem all_range {l : List Dat} (p : Dat → Bool) : ((List.range l.length).map (fun i => p (l.getD i .non))).all id = l.all p := by
  rw [List.all_map]
  induction l with
  | nil => rfl
  | cons d l ih =>
    rw [List.length_cons, List.range_succ_eq_map, List.all_cons, List.all_cons, List.all_map]
    congr 1
theorem ok_are_types {f : Addr} {fd : FuncData} (F : Fun K "are_types" "are_types" s_are_types f fd) (T : Txt K w mg aF es nF) (C_is_type : Cal P w K mg base 2 "is_type" ["value"] (spIsType K)) : FnOk P w K mg base CX0 3 f fd ["items"] (spTypes K) := by
  refine F.ok sc_are_types (fun vs H Q E h => ?_) (fun cdv A outer s H vs Q E hr h => ?_)
  · obtain ⟨x, l, rfl, _⟩ := h
    rfl
  · obtain ⟨x, l, rfl, hx, hok, hlen, q⟩ := h
    refine ⟨_, (pss_one (ps_ret (pe_callB (kAll (K := K) rfl) (by rfl) T.b_all (by decide +kernel) (pa_cons (pe_lc (own := [("item", 1)]) (by rfl) sc_are_types.nd (kSeq (K := K) rfl (pv 0)) (blkOk_by (N := ["items", "item"]) (sc := defScope s_are_types) (by decide +kernel)) (fun _ _ _ _ _ => (pg_name (i := 1) sc_are_types.nd rfl (by first | exact .inl rfl | exact .inr rfl))) (fun _ _ _ _ _ => pts_nil) (fun _ _ _ _ _ => (pcall C_is_type hr (by omega) (by rfl) (pa_cons (pv 1) pa_nil)))) pa_nil)))), ?_⟩
    walk_at "start"
    obtain ⟨a, xs, rfl, hr2, hseq⟩ := seq_cases hx
    have hl := hr2.length
    have turn : ∀ (i : Nat) (y : V) (H2 : Hp) (R : V → Hp → Prop), xs[i]? = some y → Same H H2 → (∀ z H5, Same H2 H5 → some (V.bl (tpD (l.getD i .non))) = some z → R z H5) → spIsType K ([y] ++ []) H2 R E0 := by
      intro i y H2 R hi s2 hR
      obtain ⟨d, hd, hrd⟩ := hr2.at hi
      have e : l.getD i .non = d := by simp [List.getD_eq_getElem?_getD, hd]
      have hm := List.mem_of_getElem? hd
      refine ⟨y, rfl, (hrd.same s2).known, hrd.short (hok.mem hm), fun H' s' => hR _ _ s' ?_⟩
      rw [e, hrd.tp]
    have fin : ∀ D H', H D = none → Same H H' → H' D = some (.lst ((List.range xs.length).filterMap fun i => some (V.bl (tpD (l.getD i .non))))) → rAll K [.ref D] H' Q := by
      intro D H' hD s' e
      refine v_all (bs := (List.range l.length).map fun i => tpD (l.getD i .non)) (sq_lst (by rw [e, hl, bl_list])) ?_
      rw [all_range]
      exact q H' s'
    walk_at "v"
    rcases hseq with hq | hq
    · refine v_iSeqT hq ?_
      refine lc_i walk_tup hy_at (fun _ s' => sqT_same s' hq) (fun i => some (V.bl (tpD (l.getD i .non)))) (by rw [hl]; exact small1000 hlen) (fun i y H2 R Rn hi s2 hR _ => ?_) (fun D H' hD s' e => ?_)
      · walk_at "v"
        exact turn i y H2 R hi s2 hR
      · walk_at "v"
        exact fin D H' hD s' e
    · refine v_iSeqL hq ?_
      refine lc_i walk_list hy_at (fun _ s' => s'.seq hq) (fun i => some (V.bl (tpD (l.getD i .non)))) (by rw [hl]; exact small1000 hlen) (fun i y H2 R Rn hi s2 hR _ => ?_) (fun D H' hD s' e => ?_)
      · walk_at "v"
        exact turn i y H2 R hi s2 hR
      · walk_at "v"
        exact fin D H' hD s' e
end K02

namespace K02
open PySem PySem.Spec PyProof.Rows L2 Kit
local macro_rules | `(tactic| walk_at "ne") => `(tactic| first
  | assumption
  | (apply Ne.symm; assumption)
  | exact ne_of_none (by assumption) (by assumption)
  | exact (ne_of_none (by assumption) (by assumption)).symm
  | (refine ne_of_none (H := ?H0) (o := ?oo) ?hs ?hn; (case hn => assumption); (case hs => walk_at "hp"))
  | (refine (ne_of_none (H := ?H0) (o := ?oo) ?hs ?hn).symm; (case hn => assumption); (case hs => walk_at "hp"))
  | (refine Src.ne (H := ?H0) ?hs ?hn; (case hn => assumption); (case hs => walk_at "src"))
  | (refine (Src.ne (H := ?H0) ?hs ?hn).symm; (case hn => assumption); (case hs => walk_at "src"))
  | fail "no rule")
local macro_rules | `(tactic| walk_at "hp") => `(tactic| first
  | assumption
  | exact upd_same
  | (refine (upd_ne ?hne).trans ?hrest; (case hne => walk_at "ne"); (case hrest => walk_at "hp"))
  | (refine same_at (H := ?H0) ?hs ?hrest; (case hs => assumption); (case hrest => walk_at "hp"))
  | (refine dr_at (H := ?H0) (a := ?a0) ?hs ?hne ?hrest; (case hs => assumption); (case hne => walk_at "ne"); (case hrest => walk_at "hp"))
  | fail "no rule")
local macro_rules | `(tactic| walk_at "sq") => `(tactic| first
  | assumption
  | exact Or.inl (Or.inl (by walk_at "hp"))
  | (refine sq_upd ?hnn ?hss; (case hnn => assumption); (case hss => walk_at "sq"))
  | (refine Same.seq (H := ?H0) ?hs ?hrest; (case hs => assumption); (case hrest => walk_at "sq"))
  | (refine sq_dr (H := ?H0) (a := ?a0) ?hs ?hne ?hrest; (case hs => assumption); (case hne => walk_at "ne"); (case hrest => walk_at "sq"))
  | fail "no rule")
local macro_rules | `(tactic| walk_at "sm") => `(tactic| first
  | assumption
  | exact Same.refl _
  | (refine same_new ?hnn; (case hnn => assumption))
  | (refine same_mut ?hs ?hnn; (case hs => walk_at "sm"); (case hnn => walk_at "fr"))
  | (refine Same.trans (H1 := ?H1) ?hs ?hq; (case hq => assumption); (case hs => walk_at "sm"))
  | fail "no rule")
local macro_rules | `(tactic| walk_at "fr") => `(tactic| first
  | assumption
  | (refine Same.free (H' := ?H1) ?hs ?hq; (case hq => assumption); (case hs => walk_at "sm"))
  | fail "no rule")
local macro_rules | `(tactic| walk_at "src") => `(tactic| first
  | assumption
  | exact Dr.src (by assumption)
  | (refine Src.same (H := ?H0) ?hs ?hm; (case hm => assumption); (case hs => walk_at "src"))
  | (refine Src.upd ?hs ?hn; (case hs => walk_at "src"); (case hn => walk_at "ne"))
  | fail "no rule")
local macro_rules | `(tactic| walk_at "fd") => `(tactic| first
  | assumption
  | (refine Same.free (H' := ?H1) ?hs ?hq; (case hq => assumption); (case hs => walk_at "sm"))
  | (refine Dr.free (H' := ?H1) ?h0 ?hs ?hq; (case hq => assumption); (case hs => walk_at "dr"); (case h0 => walk_at "src"))
  | fail "no rule")
local macro_rules | `(tactic| walk_at "dr") => `(tactic| first
  | assumption
  | (refine Dr.trans (H' := ?H1) ?hs ?hq; (case hq => assumption); (case hs => walk_at "dr"))
  | (refine Dr.mut ?hs ?h0 ?hn; (case hs => walk_at "dr"); (case h0 => walk_at "src"); (case hn => walk_at "fd"))
  | (refine Dr.trans (H' := ?H1) ?hs (Dr.same ?h0 ?hq); (case hq => assumption); (case h0 => walk_at "src"); (case hs => walk_at "dr"))
  | (refine Dr.refl ?hs; (case hs => walk_at "src"))
  | fail "no rule")
local macro_rules | `(tactic| walk_at "sz") => `(tactic| first
  | omega
  | (refine Nat.le_trans ?_ (show (1000 : Nat) ≤ sizeLine by decide); first | decide | omega | (simp; done) | (simp; omega) | fail)
  | fail "no rule")
local macro_rules | `(tactic| walk_at "v1") => `(tactic| first
  | with_reducible refine v_seq ?_
  | with_reducible refine v_asg ?_
  | with_reducible refine v_gname ?_
  | with_reducible refine v_c ?_
  | ((with_reducible refine v_var (v := ?vv) ?hv ?_); (case hv => exact rfl))
  | with_reducible refine v_op ?_
  | with_reducible refine v_un ?_
  | with_reducible refine v_I0 ?_
  | with_reducible refine v_U ?_
  | with_reducible refine v_addI ?_
  | with_reducible refine v_ltI ?_
  | with_reducible refine v_leI ?_
  | with_reducible refine v_gtI ?_
  | with_reducible refine v_geI ?_
  | with_reducible refine v_leS ?_
  | with_reducible refine v_ltS ?_
  | with_reducible refine v_eqI ?_
  | with_reducible refine v_neI ?_
  | with_reducible refine v_eqS ?_
  | with_reducible refine v_neS ?_
  | with_reducible refine v_eqB ?_
  | ((with_reducible refine v_eqTy ?h1 ?h2 ?_); (case h1 => walk_at "bt"); (case h2 => walk_at "bt"))
  | ((with_reducible refine v_neTy ?h1 ?h2 ?_); (case h1 => walk_at "bt"); (case h2 => walk_at "bt"))
  | with_reducible refine v_test ?_
  | with_reducible refine v_B ?_
  | with_reducible refine v_isbl ?_
  | with_reducible refine v_and ?_
  | with_reducible refine v_or ?_
  | with_reducible refine v_not ?_
  | with_reducible refine v_andV ?_
  | with_reducible refine v_orV ?_
  | with_reducible refine v_notV ?_
  | with_reducible refine v_if ?_
  | with_reducible refine v_chain ?_
  | with_reducible refine v_nil ?_
  | with_reducible refine v_cons ?_
  | with_reducible refine v_cb ?_
  | with_reducible refine v_call ?_
  | with_reducible refine v_max ?_
  | ((with_reducible refine v_draw ?hs ?hm ?_); (case hs => walk_at "src"); (case hm => omega))
  | with_reducible refine v_min ?_
  | with_reducible refine v_intI ?_
  | with_reducible refine v_intB ?_
  | with_reducible refine v_m1 ?_
  | with_reducible refine v_isstr ?_
  | with_reducible refine v_sl ?_
  | with_reducible refine v_ss ?_
  | with_reducible refine v_disp1 ?_
  | with_reducible refine v_s0 ?_
  | with_reducible refine v_nopart ?_
  | with_reducible refine v_part ?_
  | with_reducible refine v_partI ?_
  | with_reducible refine v_next ?_
  | with_reducible refine v_gsub ?_
  | with_reducible refine v_ifS ?_
  | with_reducible refine v_ret ?_
  | with_reducible refine v_drop ?_
  | ((with_reducible refine v_iteTrue ?hb ?_); (case hb => walk_at "bt"))
  | ((with_reducible refine v_iteFalse ?hb ?_); (case hb => walk_at "bt"))
  | with_reducible refine v_iteD ?_ ?_
  | with_reducible refine v_iteNot ?_
  | with_reducible refine v_lc ?_
  | with_reducible refine v_iStr ?_
  | with_reducible refine v_isS ?_
  | with_reducible refine v_iRng1 ?_
  | ((with_reducible refine v_rng1 ?hb ?_); (case hb => omega))
  | with_reducible refine v_iList ?_
  | with_reducible refine v_iSeq ?_
  | ((with_reducible refine v_isL (xs := ?xx) ?hsq ?_); (case hsq => walk_at "sq"))
  | with_reducible refine v_for ?_
  | with_reducible refine v_yes ?_
  | ((with_reducible refine v_nand ?hw ?_); (case hw => first | exact rfl | walk_at "sz" | fail))
  | ((with_reducible refine v_typ (T := ?TT) ?ht ?_); (case ht => walk_at "ty"))
  | ((with_reducible refine v_isiK (T := ?TT) ?ht ?h1 ?h2 ?_); (case ht => walk_at "ty"); (case h1 => walk_at "bt"); (case h2 => exact rfl))
  | with_reducible refine iteT ?_
  | with_reducible refine iteF ?_
  | with_reducible refine v_tup ?_
  | with_reducible refine v_lst ?_
  | ((with_reducible refine v_ixL (xs := ?xx) (v := ?vv) ?hsq ?hat ?_); (case hsq => walk_at "sq"); (case hat => exact rfl))
  | ((with_reducible refine v_lenL (xs := ?xx) ?hsq ?_); (case hsq => walk_at "sq"))
  | ((with_reducible refine v_setL (xs := ?xx) (j := ?jj) ?hh ?hj ?_); (case hh => walk_at "hp"); (case hj => exact rfl))
  | ((with_reducible refine v_I ?hc ?_); (case hc => walk_at "ic"))
  | ((with_reducible refine v_lenS ?hz ?_); (case hz => walk_at "sz"))
  | ((with_reducible refine v_slS ?hz ?_); (case hz => walk_at "sz"))
  | ((with_reducible refine v_addS ?hz ?_); (case hz => walk_at "sz"))
  | ((with_reducible refine v_ixS (c := ?cc) ?hz ?hat ?_); (case hz => walk_at "sz"); (case hat => exact rfl))
  | ((with_reducible refine v_addL (xs := ?xx) (ys := ?yy) ?h1 ?h2 ?hz ?_); (case h1 => walk_at "hp"); (case h2 => walk_at "hp"); (case hz => walk_at "sz"))
  | ((with_reducible refine v_ixT (xs := ?xx) (v := ?vv) ?hsq ?hat ?_); (case hsq => walk_at "sq"); (case hat => exact rfl))
  | ((with_reducible refine v_lenT (xs := ?xx) ?hsq ?_); (case hsq => walk_at "sq"))
  | ((with_reducible refine v_eq ?hs ?_); (case hs => exact rfl))
  | ((with_reducible refine v_ne ?hs ?_); (case hs => exact rfl))
  | (with_reducible intro _)
  | fail "no rule")
local macro_rules | `(tactic| walk_at "ic") => `(tactic| first
  | (show (0 : Int) < _; first | decide | omega | fail)
  | (show CMul _ _; unfold CMul; omega)
  | (show CDiv _ _; unfold CDiv; omega)
  | (show CPow _ _; unfold CPow; exact ⟨by decide, by decide, by decide⟩)
  | fail "no rule")
local macro_rules | `(tactic| walk_at "bt") => `(tactic| first
  | exact rfl
  | assumption
  | decide +kernel
  | (simp; done)
  | fail "no rule")
local macro_rules | `(tactic| walk_at "ty") => `(tactic| first
  | assumption
  | exact .non
  | exact .bl _
  | exact .int _
  | exact .str _
  | exact .lst (by walk_at "sq")
  | exact .tup (by walk_at "sq")
  | exact .dK (by walk_at "hp")
  | fail "no rule")
local macro_rules | `(tactic| walk_at "v") => `(tactic| try (walk_at "v1" <;> walk_at "v"))
local macro_rules | `(tactic| walk_at "start") => `(tactic| dsimp only [L2.start, cxOf, Cx.nox, Cx.wish, List.map, List.replicate, List.length, List.append, Nat.reduceSub, Nat.reduceAdd, List.cons_append, List.nil_append])

variable {P : Program} {w : World} {K : PySem.W.Frag} {mg : Str → Option Value} {base : Heap}
variable {aF : Addr} {es : Array DictEntry} {nF : Nat}
theorem ok_are_args {f : Addr} {fd : FuncData} (F : Fun K "are_args" "are_args" s_are_args f fd) (T : Txt K w mg aF es nF) (C_is_number : Cal P w K mg base 1 "is_number" ["value", "low", "high"] (spNum K)) : FnOk P w K mg base CX0 2 f fd ["items", "size"] (spArgs K) := by
  refine F.ok sc_are_args (fun vs H Q E h => ?_) (fun cdv A outer s H vs Q E hr h => ?_)
  · obtain ⟨x, l, size, rfl, _⟩ := h
    rfl
  · obtain ⟨x, l, size, rfl, hx, hlen, q⟩ := h
    refine ⟨_, (pss_one (ps_ret (pe_callB (kAll (K := K) rfl) (by rfl) T.b_all (by decide +kernel) (pa_cons (pe_lc (own := [("item", 2)]) (by rfl) sc_are_args.nd (kSeq (K := K) rfl (pv 0)) (blkOk_by (N := ["items", "size", "item"]) (sc := defScope s_are_args) (by decide +kernel)) (fun _ _ _ _ _ => (pg_name (i := 2) sc_are_args.nd rfl (by first | exact .inl rfl | exact .inr rfl))) (fun _ _ _ _ _ => pts_nil) (fun _ _ _ _ _ => (pcall C_is_number hr (by omega) (by rfl) (pa_cons (pv 2) (pa_cons pe_int (pa_cons (pe_op op_sub (pv 1) pe_int) pa_nil)))))) pa_nil)))), ?_⟩
    walk_at "start"
    obtain ⟨a, xs, rfl, hr2, hseq⟩ := seq_cases hx
    have hl := hr2.length
    have turn : ∀ (i : Nat) (y : V) (H2 : Hp) (R : V → Hp → Prop), xs[i]? = some y → Same H H2 → (∀ z H5, Same H2 H5 → some (V.bl (numD 0 (size - 1) (l.getD i .non))) = some z → R z H5) → spNum K ([y, .int 0, .int (size - 1)] ++ []) H2 R E0 := by
      intro i y H2 R hi s2 hR
      obtain ⟨d, hd, hrd⟩ := hr2.at hi
      have e : l.getD i .non = d := by simp [List.getD_eq_getElem?_getD, hd]
      refine ⟨y, d, 0, size - 1, rfl, hrd.same s2, hR _ _ (Same.refl _) ?_⟩
      rw [e]
    have fin : ∀ D H', H D = none → Same H H' → H' D = some (.lst ((List.range xs.length).filterMap fun i => some (V.bl (numD 0 (size - 1) (l.getD i .non))))) → rAll K [.ref D] H' Q := by
      intro D H' hD s' e
      refine v_all (bs := (List.range l.length).map fun i => numD 0 (size - 1) (l.getD i .non)) (sq_lst (by rw [e, hl, bl_list])) ?_
      rw [all_range]
      exact q H' s'
    walk_at "v"
    rcases hseq with hq | hq
    · refine v_iSeqT hq ?_
      refine lc_i walk_tup hy_at (fun _ s' => sqT_same s' hq) (fun i => some (V.bl (numD 0 (size - 1) (l.getD i .non)))) (by rw [hl]; exact small1000 hlen) (fun i y H2 R Rn hi s2 hR _ => ?_) (fun D H' hD s' e => ?_)
      · walk_at "v"
        exact turn i y H2 R hi s2 hR
      · walk_at "v"
        exact fin D H' hD s' e
    · refine v_iSeqL hq ?_
      refine lc_i walk_list hy_at (fun _ s' => s'.seq hq) (fun i => some (V.bl (numD 0 (size - 1) (l.getD i .non)))) (by rw [hl]; exact small1000 hlen) (fun i y H2 R Rn hi s2 hR _ => ?_) (fun D H' hD s' e => ?_)
      · walk_at "v"
        exact turn i y H2 R hi s2 hR
      · walk_at "v"
        exact fin D H' hD s' e
end K02

namespace K02
open PySem PySem.Spec PyProof.Rows L2 Kit
local macro_rules | `(tactic| walk_at "ne") => `(tactic| first
  | assumption
  | (apply Ne.symm; assumption)
  | exact ne_of_none (by assumption) (by assumption)
  | exact (ne_of_none (by assumption) (by assumption)).symm
  | (refine ne_of_none (H := ?H0) (o := ?oo) ?hs ?hn; (case hn => assumption); (case hs => walk_at "hp"))
  | (refine (ne_of_none (H := ?H0) (o := ?oo) ?hs ?hn).symm; (case hn => assumption); (case hs => walk_at "hp"))
  | (refine Src.ne (H := ?H0) ?hs ?hn; (case hn => assumption); (case hs => walk_at "src"))
  | (refine (Src.ne (H := ?H0) ?hs ?hn).symm; (case hn => assumption); (case hs => walk_at "src"))
  | fail "no rule")
local macro_rules | `(tactic| walk_at "hp") => `(tactic| first
  | assumption
  | exact upd_same
  | (refine (upd_ne ?hne).trans ?hrest; (case hne => walk_at "ne"); (case hrest => walk_at "hp"))
  | (refine same_at (H := ?H0) ?hs ?hrest; (case hs => assumption); (case hrest => walk_at "hp"))
  | (refine dr_at (H := ?H0) (a := ?a0) ?hs ?hne ?hrest; (case hs => assumption); (case hne => walk_at "ne"); (case hrest => walk_at "hp"))
  | fail "no rule")
local macro_rules | `(tactic| walk_at "sq") => `(tactic| first
  | assumption
  | exact Or.inl (Or.inl (by walk_at "hp"))
  | (refine sq_upd ?hnn ?hss; (case hnn => assumption); (case hss => walk_at "sq"))
  | (refine Same.seq (H := ?H0) ?hs ?hrest; (case hs => assumption); (case hrest => walk_at "sq"))
  | (refine sq_dr (H := ?H0) (a := ?a0) ?hs ?hne ?hrest; (case hs => assumption); (case hne => walk_at "ne"); (case hrest => walk_at "sq"))
  | fail "no rule")
local macro_rules | `(tactic| walk_at "sm") => `(tactic| first
  | assumption
  | exact Same.refl _
  | (refine same_new ?hnn; (case hnn => assumption))
  | (refine same_mut ?hs ?hnn; (case hs => walk_at "sm"); (case hnn => walk_at "fr"))
  | (refine Same.trans (H1 := ?H1) ?hs ?hq; (case hq => assumption); (case hs => walk_at "sm"))
  | fail "no rule")
local macro_rules | `(tactic| walk_at "fr") => `(tactic| first
  | assumption
  | (refine Same.free (H' := ?H1) ?hs ?hq; (case hq => assumption); (case hs => walk_at "sm"))
  | fail "no rule")
local macro_rules | `(tactic| walk_at "src") => `(tactic| first
  | assumption
  | exact Dr.src (by assumption)
  | (refine Src.same (H := ?H0) ?hs ?hm; (case hm => assumption); (case hs => walk_at "src"))
  | (refine Src.upd ?hs ?hn; (case hs => walk_at "src"); (case hn => walk_at "ne"))
  | fail "no rule")
local macro_rules | `(tactic| walk_at "fd") => `(tactic| first
  | assumption
  | (refine Same.free (H' := ?H1) ?hs ?hq; (case hq => assumption); (case hs => walk_at "sm"))
  | (refine Dr.free (H' := ?H1) ?h0 ?hs ?hq; (case hq => assumption); (case hs => walk_at "dr"); (case h0 => walk_at "src"))
  | fail "no rule")
local macro_rules | `(tactic| walk_at "dr") => `(tactic| first
  | assumption
  | (refine Dr.trans (H' := ?H1) ?hs ?hq; (case hq => assumption); (case hs => walk_at "dr"))
  | (refine Dr.mut ?hs ?h0 ?hn; (case hs => walk_at "dr"); (case h0 => walk_at "src"); (case hn => walk_at "fd"))
  | (refine Dr.trans (H' := ?H1) ?hs (Dr.same ?h0 ?hq); (case hq => assumption); (case h0 => walk_at "src"); (case hs => walk_at "dr"))
  | (refine Dr.refl ?hs; (case hs => walk_at "src"))
  | fail "no rule")
local macro_rules | `(tactic| walk_at "sz") => `(tactic| first
  | omega
  | (refine Nat.le_trans ?_ (show (1000 : Nat) ≤ sizeLine by decide); first | decide | omega | (simp; done) | (simp; omega) | fail)
  | fail "no rule")
local macro_rules | `(tactic| walk_at "v1") => `(tactic| first
  | with_reducible refine v_seq ?_
  | with_reducible refine v_asg ?_
  | with_reducible refine v_gname ?_
  | with_reducible refine v_c ?_
  | ((with_reducible refine v_var (v := ?vv) ?hv ?_); (case hv => exact rfl))
  | with_reducible refine v_op ?_
  | with_reducible refine v_un ?_
  | with_reducible refine v_I0 ?_
  | with_reducible refine v_U ?_
  | with_reducible refine v_addI ?_
  | with_reducible refine v_ltI ?_
  | with_reducible refine v_leI ?_
  | with_reducible refine v_gtI ?_
  | with_reducible refine v_geI ?_
  | with_reducible refine v_leS ?_
  | with_reducible refine v_ltS ?_
  | with_reducible refine v_eqI ?_
  | with_reducible refine v_neI ?_
  | with_reducible refine v_eqS ?_
  | with_reducible refine v_neS ?_
  | with_reducible refine v_eqB ?_
  | ((with_reducible refine v_eqTy ?h1 ?h2 ?_); (case h1 => walk_at "bt"); (case h2 => walk_at "bt"))
  | ((with_reducible refine v_neTy ?h1 ?h2 ?_); (case h1 => walk_at "bt"); (case h2 => walk_at "bt"))
  | with_reducible refine v_test ?_
  | with_reducible refine v_B ?_
  | with_reducible refine v_isbl ?_
  | with_reducible refine v_and ?_
  | with_reducible refine v_or ?_
  | with_reducible refine v_not ?_
  | with_reducible refine v_andV ?_
  | with_reducible refine v_orV ?_
  | with_reducible refine v_notV ?_
  | with_reducible refine v_if ?_
  | with_reducible refine v_chain ?_
  | with_reducible refine v_nil ?_
  | with_reducible refine v_cons ?_
  | with_reducible refine v_cb ?_
  | with_reducible refine v_call ?_
  | with_reducible refine v_max ?_
  | ((with_reducible refine v_draw ?hs ?hm ?_); (case hs => walk_at "src"); (case hm => omega))
  | with_reducible refine v_min ?_
  | with_reducible refine v_intI ?_
  | with_reducible refine v_intB ?_
  | with_reducible refine v_m1 ?_
  | with_reducible refine v_isstr ?_
  | with_reducible refine v_sl ?_
  | with_reducible refine v_ss ?_
  | with_reducible refine v_disp1 ?_
  | with_reducible refine v_s0 ?_
  | with_reducible refine v_nopart ?_
  | with_reducible refine v_part ?_
  | with_reducible refine v_partI ?_
  | with_reducible refine v_next ?_
  | with_reducible refine v_gsub ?_
  | with_reducible refine v_ifS ?_
  | with_reducible refine v_ret ?_
  | with_reducible refine v_drop ?_
  | ((with_reducible refine v_iteTrue ?hb ?_); (case hb => walk_at "bt"))
  | ((with_reducible refine v_iteFalse ?hb ?_); (case hb => walk_at "bt"))
  | with_reducible refine v_iteD ?_ ?_
  | with_reducible refine v_iteNot ?_
  | with_reducible refine v_lc ?_
  | with_reducible refine v_iStr ?_
  | with_reducible refine v_isS ?_
  | with_reducible refine v_iRng1 ?_
  | ((with_reducible refine v_rng1 ?hb ?_); (case hb => omega))
  | with_reducible refine v_iList ?_
  | with_reducible refine v_iSeq ?_
  | ((with_reducible refine v_isL (xs := ?xx) ?hsq ?_); (case hsq => walk_at "sq"))
  | with_reducible refine v_for ?_
  | with_reducible refine v_yes ?_
  | ((with_reducible refine v_nand ?hw ?_); (case hw => first | exact rfl | walk_at "sz" | fail))
  | ((with_reducible refine v_typ (T := ?TT) ?ht ?_); (case ht => walk_at "ty"))
  | ((with_reducible refine v_isiK (T := ?TT) ?ht ?h1 ?h2 ?_); (case ht => walk_at "ty"); (case h1 => walk_at "bt"); (case h2 => exact rfl))
  | with_reducible refine iteT ?_
  | with_reducible refine iteF ?_
  | with_reducible refine v_tup ?_
  | with_reducible refine v_lst ?_
  | ((with_reducible refine v_ixL (xs := ?xx) (v := ?vv) ?hsq ?hat ?_); (case hsq => walk_at "sq"); (case hat => exact rfl))
  | ((with_reducible refine v_lenL (xs := ?xx) ?hsq ?_); (case hsq => walk_at "sq"))
  | ((with_reducible refine v_setL (xs := ?xx) (j := ?jj) ?hh ?hj ?_); (case hh => walk_at "hp"); (case hj => exact rfl))
  | ((with_reducible refine v_I ?hc ?_); (case hc => walk_at "ic"))
  | ((with_reducible refine v_lenS ?hz ?_); (case hz => walk_at "sz"))
  | ((with_reducible refine v_slS ?hz ?_); (case hz => walk_at "sz"))
  | ((with_reducible refine v_addS ?hz ?_); (case hz => walk_at "sz"))
  | ((with_reducible refine v_ixS (c := ?cc) ?hz ?hat ?_); (case hz => walk_at "sz"); (case hat => exact rfl))
  | ((with_reducible refine v_addL (xs := ?xx) (ys := ?yy) ?h1 ?h2 ?hz ?_); (case h1 => walk_at "hp"); (case h2 => walk_at "hp"); (case hz => walk_at "sz"))
  | ((with_reducible refine v_ixT (xs := ?xx) (v := ?vv) ?hsq ?hat ?_); (case hsq => walk_at "sq"); (case hat => exact rfl))
  | ((with_reducible refine v_lenT (xs := ?xx) ?hsq ?_); (case hsq => walk_at "sq"))
  | ((with_reducible refine v_eq ?hs ?_); (case hs => exact rfl))
  | ((with_reducible refine v_ne ?hs ?_); (case hs => exact rfl))
  | (with_reducible intro _)
  | fail "no rule")
local macro_rules | `(tactic| walk_at "ic") => `(tactic| first
  | (show (0 : Int) < _; first | decide | omega | fail)
  | (show CMul _ _; unfold CMul; omega)
  | (show CDiv _ _; unfold CDiv; omega)
  | (show CPow _ _; unfold CPow; exact ⟨by decide, by decide, by decide⟩)
  | fail "no rule")
local macro_rules | `(tactic| walk_at "bt") => `(tactic| first
  | exact rfl
  | assumption
  | decide +kernel
  | (simp; done)
  | fail "no rule")
local macro_rules | `(tactic| walk_at "ty") => `(tactic| first
  | assumption
  | exact .non
  | exact .bl _
  | exact .int _
  | exact .str _
  | exact .lst (by walk_at "sq")
  | exact .tup (by walk_at "sq")
  | exact .dK (by walk_at "hp")
  | fail "no rule")
local macro_rules | `(tactic| walk_at "v") => `(tactic| try (walk_at "v1" <;> walk_at "v"))
local macro_rules | `(tactic| walk_at "start") => `(tactic| dsimp only [L2.start, cxOf, Cx.nox, Cx.wish, List.map, List.replicate, List.length, List.append, Nat.reduceSub, Nat.reduceAdd, List.cons_append, List.nil_append])

variable {P : Program} {w : World} {K : PySem.W.Frag} {mg : Str → Option Value} {base : Heap}
variable {aF : Addr} {es : Array DictEntry} {nF : Nat}
/-! ### one item -/
def spFits (K : PySem.W.Frag) : Sp := fun vs H Q _ => ∃ (k : Str) (x : V) (d : Dat) (size len : Int), vs = [.str k, x, .int size, .int len] ∧ Rep K H d x ∧ okD d ∧ ∀ H', Same H H' → Q (.bl (fitsD k d size len)) H'
theorem ty_tup {d : Dat} (h : tyD d = "tuple") : ∃ l, d = .tup l := by
  cases d <;> first | exact ⟨_, rfl⟩ | (simp [tyD] at h)
theorem ok_fits {f : Addr} {fd : FuncData} (F : Fun K "fits" "fits" s_fits f fd) (T : Txt K w mg aF es nF) (C_is_number : Cal P w K mg base 1 "is_number" ["value", "low", "high"] (spNum K)) (C_is_name : Cal P w K mg base 1 "is_name" ["value"] (spIsName K))
    (C_is_type : Cal P w K mg base 2 "is_type" ["value"] (spIsType K)) (C_are_types : Cal P w K mg base 3 "are_types" ["items"] (spTypes K)) (C_are_args : Cal P w K mg base 2 "are_args" ["items", "size"] (spArgs K)) : FnOk P w K mg base CX0 4 f fd ["kind", "item", "size", "length"] (spFits K) := by
  refine F.ok sc_fits (fun vs H Q E h => ?_) (fun cdv A outer s H vs Q E hr h => ?_)
  · obtain ⟨k, x, d, size, len, rfl, _⟩ := h
    rfl
  · obtain ⟨k, x, d, size, len, rfl, hd, hok, q⟩ := h
    refine ⟨_, (pss_cons (ps_if (pt_cmpR (kEq (K := K) rfl hr.units) (pv 0) pe_str (nomark _)) (pss_one (ps_ret (pcall C_is_number hr (by omega) (by rfl) (pa_cons (pv 1) (pa_cons pe_int (pa_cons (pe_op op_sub (pv 2) pe_int) pa_nil)))))) pss_nil)
      (pss_cons (ps_if (pt_cmpR (kEq (K := K) rfl hr.units) (pv 0) pe_str (nomark _)) (pss_one (ps_ret (pcall C_is_number hr (by omega) (by rfl) (pa_cons (pv 1) (pa_cons pe_int (pa_cons (pe_op op_sub (pv 3) pe_int) pa_nil)))))) pss_nil)
      (pss_cons (ps_if (pt_cmpR (kEq (K := K) rfl hr.units) (pv 0) pe_str (nomark _)) (pss_one (ps_ret (pcall C_is_number hr (by omega) (by rfl) (pa_cons (pv 1) (pa_cons pe_int (pa_cons (pglob (by rfl) T.g_MOST_DIGIT) pa_nil)))))) pss_nil)
      (pss_cons (ps_if (pt_cmpR (kEq (K := K) rfl hr.units) (pv 0) pe_str (nomark _)) (pss_one (ps_ret (pcall C_is_type hr (by omega) (by rfl) (pa_cons (pv 1) pa_nil)))) pss_nil)
      (pss_cons (ps_if (pt_cmpR (kEq (K := K) rfl hr.units) (pv 0) pe_str (nomark _)) (pss_one (ps_ret (pe_and (pe_cmpR (kEq (K := K) rfl hr.units) (pe_callTy (kType (K := K) rfl) (by rfl) T.b_type (by decide +kernel) (pa_cons (pv 1) pa_nil)) (pbty (n := "tuple") (by rfl) T.b_tuple (by decide +kernel)) (nomark _)) (pe_and (pe_cmpR opLeU (pe_callB (kLen (K := K) rfl) (by rfl) T.b_len (by decide +kernel) (pa_cons (pv 1) pa_nil)) (pglob (by rfl) T.g_MOST_TYPES) (nomark _)) (pe_one (pcall C_are_types hr (by omega) (by rfl) (pa_cons (pv 1) pa_nil))))))) pss_nil)
      (pss_cons (ps_if (pt_cmpR (kEq (K := K) rfl hr.units) (pv 0) pe_str (nomark _)) (pss_one (ps_ret (pe_and (pe_cmpR (kEq (K := K) rfl hr.units) (pe_callTy (kType (K := K) rfl) (by rfl) T.b_type (by decide +kernel) (pa_cons (pv 1) pa_nil)) (pbty (n := "tuple") (by rfl) T.b_tuple (by decide +kernel)) (nomark _)) (pe_one (pcall C_are_args hr (by omega) (by rfl) (pa_cons (pv 1) (pa_cons (pv 2) pa_nil))))))) pss_nil)
      (pss_one (ps_ret (pcall C_is_name hr (by omega) (by rfl) (pa_cons (pv 1) pa_nil)))))))))), ?_⟩
    walk_at "start"
    have ht := hd.ty
    have hk := tyD_known d
    walk_at "v"
    · rename_i h; subst h
      exact ⟨x, d, 0, _, rfl, hd, q H (Same.refl H)⟩
    · rename_i h; subst h
      exact ⟨x, d, 0, _, rfl, hd, q H (Same.refl H)⟩
    · rename_i h; subst h
      exact ⟨x, d, 0, _, rfl, hd, q H (Same.refl H)⟩
    · rename_i h; subst h
      exact ⟨x, rfl, hd.known, hd.short hok, fun H' s' => by rw [hd.tp]; exact q H' s'⟩
    · rename_i h ht2; subst h
      obtain ⟨l, rfl⟩ := ty_tup ht2
      obtain ⟨a, xs, rfl, hq, hr2⟩ := hd
      have hl := hr2.length
      refine v_lenT hq ?_
      walk_at "v"
      · rename_i h4
        refine ⟨.ref a, l, rfl, .inl ⟨a, xs, rfl, hq, hr2⟩, hok.2, hok.1, fun H' s' => ?_⟩
        rw [show l.all tpD = fitsD "types" (.tup l) size len by
          show _ = (decide ((l.length : Int) ≤ 4) && l.all tpD)
          rw [decide_eq_true (by rw [← hl]; exact h4)]; rfl]
        exact q H' s'
      · rename_i h4
        have e : fitsD "types" (.tup l) size len = false := by
          show (decide ((l.length : Int) ≤ 4) && l.all tpD) = false
          rw [decide_eq_false (by rw [← hl]; exact h4)]; rfl
        rw [e] at q
        exact q H (Same.refl H)
    · rename_i h ht2; subst h
      have e : fitsD "types" d size len = false := by
        cases d <;> first | rfl | exact absurd rfl ht2
      rw [e] at q
      exact q H (Same.refl H)
    · rename_i h ht2; subst h
      obtain ⟨l, rfl⟩ := ty_tup ht2
      exact ⟨x, l, size, rfl, .inl hd, hok.1, q⟩
    · rename_i h ht2; subst h
      have e : fitsD "args" d size len = false := by
        cases d <;> first | rfl | exact absurd rfl ht2
      rw [e] at q
      exact q H (Same.refl H)
    · rename_i h1 h2 h3 h4 h5 h6
      have e : fitsD k d size len = nmD d := by simp [fitsD, h1, h2, h3, h4, h5, h6]
      rw [e] at q
      exact ⟨x, rfl, hd.known, hd.short hok, fun H' s' => by rw [hd.nm]; exact q H' s'⟩
end K02

open PySem PySem.Spec PyProof.Rows L2 Kit
namespace Kit
theorem same_sq {K : PySem.W.Frag} {H : Hp} {p : Addr} {xs : List V} (hp : H p = none) : SqT K (upd H p (.tup xs)) p xs := .inl (.inl upd_same)
theorem v_slT {K : PySem.W.Frag} {H : Hp} {a : Addr} {xs : List V} {lo hi : Option Int} {Q : VK} (h : SqT K H a xs) (k : ∀ p H', Same H H' → SqT K H' p (cutV xs lo hi) → Q (.ref p) H') : rSlU K (.ref a) lo hi H Q := by
  refine .inr (.inr ⟨a, xs, rfl, h, fun e => k a H (Same.refl H) ?_, fun _ p hp => k p _ (same_new hp) (same_sq hp)⟩)
  unfold cutV
  rw [e.1, e.2]
  simpa using h
theorem cut_1 {xs : List V} : cutV xs (some 1) none = xs.drop 1 := by
  unfold cutV
  have e : HT.sIx xs.length 0 (some 1) = min 1 xs.length := by simp [HT.sIx]
  have e2 : HT.sIx xs.length xs.length none = xs.length := rfl
  rw [e, e2]
  cases xs with
  | nil => rfl
  | cons x r =>
    have : min 1 (x :: r).length = 1 := by simp
    rw [this]
    simp
theorem at_n {xs : List V} {i : Nat} {x : V} (h : xs[i]? = some x) : atI xs (i : Int) = some x := atI_nat h
theorem at_0 {x : V} {r : List V} : atI (x :: r) 0 = some x := at_n (i := 0) rfl
end Kit
namespace K02
local macro_rules | `(tactic| walk_at "ne") => `(tactic| first
  | assumption
  | (apply Ne.symm; assumption)
  | exact ne_of_none (by assumption) (by assumption)
  | exact (ne_of_none (by assumption) (by assumption)).symm
  | (refine ne_of_none (H := ?H0) (o := ?oo) ?hs ?hn; (case hn => assumption); (case hs => walk_at "hp"))
  | (refine (ne_of_none (H := ?H0) (o := ?oo) ?hs ?hn).symm; (case hn => assumption); (case hs => walk_at "hp"))
  | (refine Src.ne (H := ?H0) ?hs ?hn; (case hn => assumption); (case hs => walk_at "src"))
  | (refine (Src.ne (H := ?H0) ?hs ?hn).symm; (case hn => assumption); (case hs => walk_at "src"))
  | fail "no rule")
local macro_rules | `(tactic| walk_at "hp") => `(tactic| first
  | assumption
  | exact upd_same
  | (refine (upd_ne ?hne).trans ?hrest; (case hne => walk_at "ne"); (case hrest => walk_at "hp"))
  | (refine same_at (H := ?H0) ?hs ?hrest; (case hs => assumption); (case hrest => walk_at "hp"))
  | (refine dr_at (H := ?H0) (a := ?a0) ?hs ?hne ?hrest; (case hs => assumption); (case hne => walk_at "ne"); (case hrest => walk_at "hp"))
  | fail "no rule")
local macro_rules | `(tactic| walk_at "sq") => `(tactic| first
  | assumption
  | exact Or.inl (Or.inl (by walk_at "hp"))
  | (refine sq_upd ?hnn ?hss; (case hnn => assumption); (case hss => walk_at "sq"))
  | (refine Same.seq (H := ?H0) ?hs ?hrest; (case hs => assumption); (case hrest => walk_at "sq"))
  | (refine sq_dr (H := ?H0) (a := ?a0) ?hs ?hne ?hrest; (case hs => assumption); (case hne => walk_at "ne"); (case hrest => walk_at "sq"))
  | fail "no rule")
local macro_rules | `(tactic| walk_at "sm") => `(tactic| first
  | assumption
  | exact Same.refl _
  | (refine same_new ?hnn; (case hnn => assumption))
  | (refine same_mut ?hs ?hnn; (case hs => walk_at "sm"); (case hnn => walk_at "fr"))
  | (refine Same.trans (H1 := ?H1) ?hs ?hq; (case hq => assumption); (case hs => walk_at "sm"))
  | fail "no rule")
local macro_rules | `(tactic| walk_at "fr") => `(tactic| first
  | assumption
  | (refine Same.free (H' := ?H1) ?hs ?hq; (case hq => assumption); (case hs => walk_at "sm"))
  | fail "no rule")
local macro_rules | `(tactic| walk_at "src") => `(tactic| first
  | assumption
  | exact Dr.src (by assumption)
  | (refine Src.same (H := ?H0) ?hs ?hm; (case hm => assumption); (case hs => walk_at "src"))
  | (refine Src.upd ?hs ?hn; (case hs => walk_at "src"); (case hn => walk_at "ne"))
  | fail "no rule")
local macro_rules | `(tactic| walk_at "fd") => `(tactic| first
  | assumption
  | (refine Same.free (H' := ?H1) ?hs ?hq; (case hq => assumption); (case hs => walk_at "sm"))
  | (refine Dr.free (H' := ?H1) ?h0 ?hs ?hq; (case hq => assumption); (case hs => walk_at "dr"); (case h0 => walk_at "src"))
  | fail "no rule")
local macro_rules | `(tactic| walk_at "dr") => `(tactic| first
  | assumption
  | (refine Dr.trans (H' := ?H1) ?hs ?hq; (case hq => assumption); (case hs => walk_at "dr"))
  | (refine Dr.mut ?hs ?h0 ?hn; (case hs => walk_at "dr"); (case h0 => walk_at "src"); (case hn => walk_at "fd"))
  | (refine Dr.trans (H' := ?H1) ?hs (Dr.same ?h0 ?hq); (case hq => assumption); (case h0 => walk_at "src"); (case hs => walk_at "dr"))
  | (refine Dr.refl ?hs; (case hs => walk_at "src"))
  | fail "no rule")
local macro_rules | `(tactic| walk_at "sz") => `(tactic| first
  | omega
  | (refine Nat.le_trans ?_ (show (1000 : Nat) ≤ sizeLine by decide); first | decide | omega | (simp; done) | (simp; omega) | fail)
  | fail "no rule")
local macro_rules | `(tactic| walk_at "v1") => `(tactic| first
  | with_reducible refine v_seq ?_
  | with_reducible refine v_asg ?_
  | with_reducible refine v_gname ?_
  | with_reducible refine v_c ?_
  | ((with_reducible refine v_var (v := ?vv) ?hv ?_); (case hv => exact rfl))
  | with_reducible refine v_op ?_
  | with_reducible refine v_un ?_
  | with_reducible refine v_I0 ?_
  | with_reducible refine v_U ?_
  | with_reducible refine v_addI ?_
  | with_reducible refine v_ltI ?_
  | with_reducible refine v_leI ?_
  | with_reducible refine v_gtI ?_
  | with_reducible refine v_geI ?_
  | with_reducible refine v_leS ?_
  | with_reducible refine v_ltS ?_
  | with_reducible refine v_eqI ?_
  | with_reducible refine v_neI ?_
  | with_reducible refine v_eqS ?_
  | with_reducible refine v_neS ?_
  | with_reducible refine v_eqB ?_
  | ((with_reducible refine v_eqTy ?h1 ?h2 ?_); (case h1 => walk_at "bt"); (case h2 => walk_at "bt"))
  | ((with_reducible refine v_neTy ?h1 ?h2 ?_); (case h1 => walk_at "bt"); (case h2 => walk_at "bt"))
  | with_reducible refine v_test ?_
  | with_reducible refine v_B ?_
  | with_reducible refine v_isbl ?_
  | with_reducible refine v_and ?_
  | with_reducible refine v_or ?_
  | with_reducible refine v_not ?_
  | with_reducible refine v_andV ?_
  | with_reducible refine v_orV ?_
  | with_reducible refine v_notV ?_
  | with_reducible refine v_if ?_
  | with_reducible refine v_chain ?_
  | with_reducible refine v_nil ?_
  | with_reducible refine v_cons ?_
  | with_reducible refine v_cb ?_
  | with_reducible refine v_call ?_
  | with_reducible refine v_max ?_
  | ((with_reducible refine v_draw ?hs ?hm ?_); (case hs => walk_at "src"); (case hm => omega))
  | with_reducible refine v_min ?_
  | with_reducible refine v_intI ?_
  | with_reducible refine v_intB ?_
  | with_reducible refine v_m1 ?_
  | with_reducible refine v_isstr ?_
  | with_reducible refine v_sl ?_
  | with_reducible refine v_ss ?_
  | with_reducible refine v_disp1 ?_
  | with_reducible refine v_s0 ?_
  | with_reducible refine v_nopart ?_
  | with_reducible refine v_part ?_
  | with_reducible refine v_partI ?_
  | with_reducible refine v_next ?_
  | with_reducible refine v_gsub ?_
  | with_reducible refine v_ifS ?_
  | with_reducible refine v_ret ?_
  | with_reducible refine v_drop ?_
  | ((with_reducible refine v_iteTrue ?hb ?_); (case hb => walk_at "bt"))
  | ((with_reducible refine v_iteFalse ?hb ?_); (case hb => walk_at "bt"))
  | with_reducible refine v_iteD ?_ ?_
  | with_reducible refine v_iteNot ?_
  | with_reducible refine v_lc ?_
  | with_reducible refine v_iStr ?_
  | with_reducible refine v_isS ?_
  | with_reducible refine v_iRng1 ?_
  | ((with_reducible refine v_rng1 ?hb ?_); (case hb => omega))
  | with_reducible refine v_iList ?_
  | with_reducible refine v_iSeq ?_
  | ((with_reducible refine v_isL (xs := ?xx) ?hsq ?_); (case hsq => walk_at "sq"))
  | with_reducible refine v_for ?_
  | with_reducible refine v_yes ?_
  | ((with_reducible refine v_nand ?hw ?_); (case hw => first | exact rfl | walk_at "sz" | fail))
  | ((with_reducible refine v_typ (T := ?TT) ?ht ?_); (case ht => walk_at "ty"))
  | ((with_reducible refine v_isiK (T := ?TT) ?ht ?h1 ?h2 ?_); (case ht => walk_at "ty"); (case h1 => walk_at "bt"); (case h2 => exact rfl))
  | with_reducible refine iteT ?_
  | with_reducible refine iteF ?_
  | with_reducible refine v_tup ?_
  | with_reducible refine v_lst ?_
  | ((with_reducible refine v_ixL (xs := ?xx) (v := ?vv) ?hsq ?hat ?_); (case hsq => walk_at "sq"); (case hat => exact rfl))
  | ((with_reducible refine v_lenL (xs := ?xx) ?hsq ?_); (case hsq => walk_at "sq"))
  | ((with_reducible refine v_setL (xs := ?xx) (j := ?jj) ?hh ?hj ?_); (case hh => walk_at "hp"); (case hj => exact rfl))
  | ((with_reducible refine v_I ?hc ?_); (case hc => walk_at "ic"))
  | ((with_reducible refine v_lenS ?hz ?_); (case hz => walk_at "sz"))
  | ((with_reducible refine v_slS ?hz ?_); (case hz => walk_at "sz"))
  | ((with_reducible refine v_addS ?hz ?_); (case hz => walk_at "sz"))
  | ((with_reducible refine v_ixS (c := ?cc) ?hz ?hat ?_); (case hz => walk_at "sz"); (case hat => exact rfl))
  | ((with_reducible refine v_addL (xs := ?xx) (ys := ?yy) ?h1 ?h2 ?hz ?_); (case h1 => walk_at "hp"); (case h2 => walk_at "hp"); (case hz => walk_at "sz"))
  | ((with_reducible refine v_ixT (xs := ?xx) (v := ?vv) ?hsq ?hat ?_); (case hsq => walk_at "sq"); (case hat => exact rfl))
  | ((with_reducible refine v_lenT (xs := ?xx) ?hsq ?_); (case hsq => walk_at "sq"))
  | ((with_reducible refine v_eq ?hs ?_); (case hs => exact rfl))
  | ((with_reducible refine v_ne ?hs ?_); (case hs => exact rfl))
  | (with_reducible intro _)
  | fail "no rule")
local macro_rules | `(tactic| walk_at "ic") => `(tactic| first
  | (show (0 : Int) < _; first | decide | omega | fail)
  | (show CMul _ _; unfold CMul; omega)
  | (show CDiv _ _; unfold CDiv; omega)
  | (show CPow _ _; unfold CPow; exact ⟨by decide, by decide, by decide⟩)
  | fail "no rule")
local macro_rules | `(tactic| walk_at "bt") => `(tactic| first
  | exact rfl
  | assumption
  | decide +kernel
  | (simp; done)
  | fail "no rule")
local macro_rules | `(tactic| walk_at "ty") => `(tactic| first
  | assumption
  | exact .non
  | exact .bl _
  | exact .int _
  | exact .str _
  | exact .lst (by walk_at "sq")
  | exact .tup (by walk_at "sq")
  | exact .dK (by walk_at "hp")
  | fail "no rule")
local macro_rules | `(tactic| walk_at "v") => `(tactic| try (walk_at "v1" <;> walk_at "v"))
local macro_rules | `(tactic| walk_at "start") => `(tactic| dsimp only [L2.start, cxOf, Cx.nox, Cx.wish, List.map, List.replicate, List.length, List.append, Nat.reduceSub, Nat.reduceAdd, List.cons_append, List.nil_append])

variable {P : Program} {w : World} {K : PySem.W.Frag} {mg : Str → Option Value} {base : Heap}
variable {aF : Addr} {es : Array DictEntry} {nF : Nat}
/-! ### the word, the instruction -/
def spWord (K : PySem.W.Frag) : Sp := fun vs H Q _ => ∃ (x : V) (d : Dat), vs = [x] ∧ Rep K H d x ∧ okD d ∧ ∀ H', Same H H' → Q (.bl (wordD d)) H'
theorem wordD_no {d : Dat} (h : ∀ l, d ≠ .tup l) : wordD d = false := by
  cases d <;> first | rfl | exact absurd rfl (h _)
theorem ok_has_word {f : Addr} {fd : FuncData} (F : Fun K "has_word" "has_word" s_has_word f fd) (T : Txt K w mg aF es nF) : FnOk P w K mg base CX0 1 f fd ["value"] (spWord K) := by
  refine F.ok sc_has_word (fun vs H Q E h => ?_) (fun cdv A outer s H vs Q E hr h => ?_)
  · obtain ⟨x, d, rfl, _⟩ := h
    rfl
  · obtain ⟨x, d, rfl, hd, hok, q⟩ := h
    refine ⟨_, (pss_one (ps_ret (pe_and (pe_cmpR (kEq (K := K) rfl hr.units) (pe_callTy (kType (K := K) rfl) (by rfl) T.b_type (by decide +kernel) (pa_cons (pv 0) pa_nil)) (pbty (n := "tuple") (by rfl) T.b_tuple (by decide +kernel)) (nomark _)) (pe_and (pe_cmpR opGtU (pe_callB (kLen (K := K) rfl) (by rfl) T.b_len (by decide +kernel) (pa_cons (pv 0) pa_nil)) pe_int (nomark _)) (pe_and (pe_cmpR (kEq (K := K) rfl hr.units) (pe_callTy (kType (K := K) rfl) (by rfl) T.b_type (by decide +kernel) (pa_cons (pe_ix (kIx (K := K) rfl) (pv 0) pe_int (fun _ _ => rfl)) pa_nil)) (pbty (n := "str") (by rfl) T.b_str (by decide +kernel)) (nomark _)) (pe_one (pe_cmpR (in_kd T.kd) (pe_ix (kIx (K := K) rfl) (pv 0) pe_int (fun _ _ => rfl)) (pglob (by rfl) T.g_FORMS) (by rfl)))))))), ?_⟩
    walk_at "start"
    have ht := hd.ty
    have hk := tyD_known d
    walk_at "v"
    · rename_i ht2
      obtain ⟨l, rfl⟩ := ty_tup ht2
      obtain ⟨a, xs, rfl, hq, hr2⟩ := hd
      refine v_lenT hq ?_
      walk_at "v"
      · rename_i h0
        cases l with
        | nil => cases hr2; exact absurd h0 (by decide)
        | cons d0 l =>
          obtain ⟨x0, r, rfl, hd0, hr3⟩ := hr2
          have ht0 := hd0.ty
          have hk0 := tyD_known d0
          refine v_ixT hq at_0 ?_
          walk_at "v"
          · rename_i hs
            cases d0 with
            | str z =>
              cases hd0
              refine v_ixT hq at_0 ?_
              walk_at "v"
              obtain ⟨o, e, m⟩ := T.forms z
              refine v_kdIn e ?_
              have e2 : wordD (.tup (.str z :: l)) = o.isSome := by
                show (formsL.lookup z).isSome = _
                cases hl : formsL.lookup z with
                | none => rw [hl] at m; rw [m]; rfl
                | some ks => rw [hl] at m; obtain ⟨a2, rfl, _⟩ := m; rfl
              rw [← e2]
              exact q H (Same.refl H)
            | _ => exact absurd hs (by simp [tyD])
          · rename_i hs
            have e : wordD (.tup (d0 :: l)) = false := by
              cases d0 <;> first | rfl | exact absurd rfl hs
            rw [e] at q
            exact q H (Same.refl H)
      · rename_i h0
        have e : wordD (.tup l) = false := by
          cases l with
          | nil => rfl
          | cons d0 l =>
            obtain ⟨x0, r, rfl, hd0, hr3⟩ := hr2
            exact absurd (by simp) h0
        rw [e] at q
        exact q H (Same.refl H)
    · rename_i ht2
      have e : wordD d = false := wordD_no fun l e => by subst e; exact ht2 rfl
      rw [e] at q
      exact q H (Same.refl H)
end K02

namespace K02
open PySem PySem.Spec PyProof.Rows L2 Kit
local macro_rules | `(tactic| walk_at "ne") => `(tactic| first
  | assumption
  | (apply Ne.symm; assumption)
  | exact ne_of_none (by assumption) (by assumption)
  | exact (ne_of_none (by assumption) (by assumption)).symm
  | (refine ne_of_none (H := ?H0) (o := ?oo) ?hs ?hn; (case hn => assumption); (case hs => walk_at "hp"))
  | (refine (ne_of_none (H := ?H0) (o := ?oo) ?hs ?hn).symm; (case hn => assumption); (case hs => walk_at "hp"))
  | (refine Src.ne (H := ?H0) ?hs ?hn; (case hn => assumption); (case hs => walk_at "src"))
  | (refine (Src.ne (H := ?H0) ?hs ?hn).symm; (case hn => assumption); (case hs => walk_at "src"))
  | fail "no rule")
local macro_rules | `(tactic| walk_at "hp") => `(tactic| first
  | assumption
  | exact upd_same
  | (refine (upd_ne ?hne).trans ?hrest; (case hne => walk_at "ne"); (case hrest => walk_at "hp"))
  | (refine same_at (H := ?H0) ?hs ?hrest; (case hs => assumption); (case hrest => walk_at "hp"))
  | (refine dr_at (H := ?H0) (a := ?a0) ?hs ?hne ?hrest; (case hs => assumption); (case hne => walk_at "ne"); (case hrest => walk_at "hp"))
  | fail "no rule")
local macro_rules | `(tactic| walk_at "sq") => `(tactic| first
  | assumption
  | exact Or.inl (Or.inl (by walk_at "hp"))
  | (refine sq_upd ?hnn ?hss; (case hnn => assumption); (case hss => walk_at "sq"))
  | (refine Same.seq (H := ?H0) ?hs ?hrest; (case hs => assumption); (case hrest => walk_at "sq"))
  | (refine sq_dr (H := ?H0) (a := ?a0) ?hs ?hne ?hrest; (case hs => assumption); (case hne => walk_at "ne"); (case hrest => walk_at "sq"))
  | fail "no rule")
local macro_rules | `(tactic| walk_at "sm") => `(tactic| first
  | assumption
  | exact Same.refl _
  | (refine same_new ?hnn; (case hnn => assumption))
  | (refine same_mut ?hs ?hnn; (case hs => walk_at "sm"); (case hnn => walk_at "fr"))
  | (refine Same.trans (H1 := ?H1) ?hs ?hq; (case hq => assumption); (case hs => walk_at "sm"))
  | fail "no rule")
local macro_rules | `(tactic| walk_at "fr") => `(tactic| first
  | assumption
  | (refine Same.free (H' := ?H1) ?hs ?hq; (case hq => assumption); (case hs => walk_at "sm"))
  | fail "no rule")
local macro_rules | `(tactic| walk_at "src") => `(tactic| first
  | assumption
  | exact Dr.src (by assumption)
  | (refine Src.same (H := ?H0) ?hs ?hm; (case hm => assumption); (case hs => walk_at "src"))
  | (refine Src.upd ?hs ?hn; (case hs => walk_at "src"); (case hn => walk_at "ne"))
  | fail "no rule")
local macro_rules | `(tactic| walk_at "fd") => `(tactic| first
  | assumption
  | (refine Same.free (H' := ?H1) ?hs ?hq; (case hq => assumption); (case hs => walk_at "sm"))
  | (refine Dr.free (H' := ?H1) ?h0 ?hs ?hq; (case hq => assumption); (case hs => walk_at "dr"); (case h0 => walk_at "src"))
  | fail "no rule")
local macro_rules | `(tactic| walk_at "dr") => `(tactic| first
  | assumption
  | (refine Dr.trans (H' := ?H1) ?hs ?hq; (case hq => assumption); (case hs => walk_at "dr"))
  | (refine Dr.mut ?hs ?h0 ?hn; (case hs => walk_at "dr"); (case h0 => walk_at "src"); (case hn => walk_at "fd"))
  | (refine Dr.trans (H' := ?H1) ?hs (Dr.same ?h0 ?hq); (case hq => assumption); (case h0 => walk_at "src"); (case hs => walk_at "dr"))
  | (refine Dr.refl ?hs; (case hs => walk_at "src"))
  | fail "no rule")
local macro_rules | `(tactic| walk_at "sz") => `(tactic| first
  | omega
  | (refine Nat.le_trans ?_ (show (1000 : Nat) ≤ sizeLine by decide); first | decide | omega | (simp; done) | (simp; omega) | fail)
  | fail "no rule")
local macro_rules | `(tactic| walk_at "v1") => `(tactic| first
  | with_reducible refine v_seq ?_
  | with_reducible refine v_asg ?_
  | with_reducible refine v_gname ?_
  | with_reducible refine v_c ?_
  | ((with_reducible refine v_var (v := ?vv) ?hv ?_); (case hv => exact rfl))
  | with_reducible refine v_op ?_
  | with_reducible refine v_un ?_
  | with_reducible refine v_I0 ?_
  | with_reducible refine v_U ?_
  | with_reducible refine v_addI ?_
  | with_reducible refine v_ltI ?_
  | with_reducible refine v_leI ?_
  | with_reducible refine v_gtI ?_
  | with_reducible refine v_geI ?_
  | with_reducible refine v_leS ?_
  | with_reducible refine v_ltS ?_
  | with_reducible refine v_eqI ?_
  | with_reducible refine v_neI ?_
  | with_reducible refine v_eqS ?_
  | with_reducible refine v_neS ?_
  | with_reducible refine v_eqB ?_
  | ((with_reducible refine v_eqTy ?h1 ?h2 ?_); (case h1 => walk_at "bt"); (case h2 => walk_at "bt"))
  | ((with_reducible refine v_neTy ?h1 ?h2 ?_); (case h1 => walk_at "bt"); (case h2 => walk_at "bt"))
  | with_reducible refine v_test ?_
  | with_reducible refine v_B ?_
  | with_reducible refine v_isbl ?_
  | with_reducible refine v_and ?_
  | with_reducible refine v_or ?_
  | with_reducible refine v_not ?_
  | with_reducible refine v_andV ?_
  | with_reducible refine v_orV ?_
  | with_reducible refine v_notV ?_
  | with_reducible refine v_if ?_
  | with_reducible refine v_chain ?_
  | with_reducible refine v_nil ?_
  | with_reducible refine v_cons ?_
  | with_reducible refine v_cb ?_
  | with_reducible refine v_call ?_
  | with_reducible refine v_max ?_
  | ((with_reducible refine v_draw ?hs ?hm ?_); (case hs => walk_at "src"); (case hm => omega))
  | with_reducible refine v_min ?_
  | with_reducible refine v_intI ?_
  | with_reducible refine v_intB ?_
  | with_reducible refine v_m1 ?_
  | with_reducible refine v_isstr ?_
  | with_reducible refine v_sl ?_
  | with_reducible refine v_ss ?_
  | with_reducible refine v_disp1 ?_
  | with_reducible refine v_s0 ?_
  | with_reducible refine v_nopart ?_
  | with_reducible refine v_part ?_
  | with_reducible refine v_partI ?_
  | with_reducible refine v_next ?_
  | with_reducible refine v_gsub ?_
  | with_reducible refine v_ifS ?_
  | with_reducible refine v_ret ?_
  | with_reducible refine v_drop ?_
  | ((with_reducible refine v_iteTrue ?hb ?_); (case hb => walk_at "bt"))
  | ((with_reducible refine v_iteFalse ?hb ?_); (case hb => walk_at "bt"))
  | with_reducible refine v_iteD ?_ ?_
  | with_reducible refine v_iteNot ?_
  | with_reducible refine v_lc ?_
  | with_reducible refine v_iStr ?_
  | with_reducible refine v_isS ?_
  | with_reducible refine v_iRng1 ?_
  | ((with_reducible refine v_rng1 ?hb ?_); (case hb => omega))
  | with_reducible refine v_iList ?_
  | with_reducible refine v_iSeq ?_
  | ((with_reducible refine v_isL (xs := ?xx) ?hsq ?_); (case hsq => walk_at "sq"))
  | with_reducible refine v_for ?_
  | with_reducible refine v_yes ?_
  | ((with_reducible refine v_nand ?hw ?_); (case hw => first | exact rfl | walk_at "sz" | fail))
  | ((with_reducible refine v_typ (T := ?TT) ?ht ?_); (case ht => walk_at "ty"))
  | ((with_reducible refine v_isiK (T := ?TT) ?ht ?h1 ?h2 ?_); (case ht => walk_at "ty"); (case h1 => walk_at "bt"); (case h2 => exact rfl))
  | with_reducible refine iteT ?_
  | with_reducible refine iteF ?_
  | with_reducible refine v_tup ?_
  | with_reducible refine v_lst ?_
  | ((with_reducible refine v_ixL (xs := ?xx) (v := ?vv) ?hsq ?hat ?_); (case hsq => walk_at "sq"); (case hat => exact rfl))
  | ((with_reducible refine v_lenL (xs := ?xx) ?hsq ?_); (case hsq => walk_at "sq"))
  | ((with_reducible refine v_setL (xs := ?xx) (j := ?jj) ?hh ?hj ?_); (case hh => walk_at "hp"); (case hj => exact rfl))
  | ((with_reducible refine v_I ?hc ?_); (case hc => walk_at "ic"))
  | ((with_reducible refine v_lenS ?hz ?_); (case hz => walk_at "sz"))
  | ((with_reducible refine v_slS ?hz ?_); (case hz => walk_at "sz"))
  | ((with_reducible refine v_addS ?hz ?_); (case hz => walk_at "sz"))
  | ((with_reducible refine v_ixS (c := ?cc) ?hz ?hat ?_); (case hz => walk_at "sz"); (case hat => exact rfl))
  | ((with_reducible refine v_addL (xs := ?xx) (ys := ?yy) ?h1 ?h2 ?hz ?_); (case h1 => walk_at "hp"); (case h2 => walk_at "hp"); (case hz => walk_at "sz"))
  | ((with_reducible refine v_ixT (xs := ?xx) (v := ?vv) ?hsq ?hat ?_); (case hsq => walk_at "sq"); (case hat => exact rfl))
  | ((with_reducible refine v_lenT (xs := ?xx) ?hsq ?_); (case hsq => walk_at "sq"))
  | ((with_reducible refine v_eq ?hs ?_); (case hs => exact rfl))
  | ((with_reducible refine v_ne ?hs ?_); (case hs => exact rfl))
  | (with_reducible intro _)
  | fail "no rule")
local macro_rules | `(tactic| walk_at "ic") => `(tactic| first
  | (show (0 : Int) < _; first | decide | omega | fail)
  | (show CMul _ _; unfold CMul; omega)
  | (show CDiv _ _; unfold CDiv; omega)
  | (show CPow _ _; unfold CPow; exact ⟨by decide, by decide, by decide⟩)
  | fail "no rule")
local macro_rules | `(tactic| walk_at "bt") => `(tactic| first
  | exact rfl
  | assumption
  | decide +kernel
  | (simp; done)
  | fail "no rule")
local macro_rules | `(tactic| walk_at "ty") => `(tactic| first
  | assumption
  | exact .non
  | exact .bl _
  | exact .int _
  | exact .str _
  | exact .lst (by walk_at "sq")
  | exact .tup (by walk_at "sq")
  | exact .dK (by walk_at "hp")
  | fail "no rule")
local macro_rules | `(tactic| walk_at "v") => `(tactic| try (walk_at "v1" <;> walk_at "v"))
local macro_rules | `(tactic| walk_at "start") => `(tactic| dsimp only [L2.start, cxOf, Cx.nox, Cx.wish, List.map, List.replicate, List.length, List.append, Nat.reduceSub, Nat.reduceAdd, List.cons_append, List.nil_append])

variable {P : Program} {w : World} {K : PySem.W.Frag} {mg : Str → Option Value} {base : Heap}
variable {aF : Addr} {es : Array DictEntry} {nF : Nat}
theorem word_form {d : Dat} (h : wordD d = true) : ∃ z rest ks, d = .tup (.str z :: rest) ∧ formsL.lookup z = some ks := by
  cases d with
  | tup l =>
    cases l with
    | nil => exact absurd h (by decide)
    | cons d0 rest =>
      cases d0 with
      | str z =>
        have h2 : (formsL.lookup z).isSome = true := h
        cases hl : formsL.lookup z with
        | none => rw [hl] at h2; exact absurd h2 (by decide)
        | some ks => exact ⟨z, rest, ks, rfl, hl⟩
      | _ => exact absurd h (by simp [wordD])
  | _ => exact absurd h (by simp [wordD])
theorem lookup_mem' {α : Type} {z : Str} {v : α} : ∀ {l : List (Str × α)}, l.lookup z = some v → ∃ k, (k, v) ∈ l
  | [], h => by simp at h
  | (k, u) :: l, h => by
    rw [List.lookup_cons] at h
    split at h
    · cases h; exact ⟨k, List.mem_cons_self⟩
    · obtain ⟨k', hk⟩ := lookup_mem' h; exact ⟨k', List.mem_cons_of_mem _ hk⟩
theorem form_args {z : Str} {ks : List Str} (h : formsL.lookup z = some ks) (hc : ks.contains "args" = true) : ks = (["r", "r", "C", "f", "types", "T", "args"] : List Str) := by
  obtain ⟨k, hk⟩ := lookup_mem' h
  have all : ∀ p ∈ formsL, p.2.contains "args" = true → p.2 = (["r", "r", "C", "f", "types", "T", "args"] : List Str) := by decide +kernel
  exact all _ hk hc
theorem form_len {z : Str} {ks : List Str} (h : formsL.lookup z = some ks) : ks.length ≤ 7 := by
  obtain ⟨k, hk⟩ := lookup_mem' h
  have all : ∀ p ∈ formsL, p.2.length ≤ 7 := by decide +kernel
  exact all _ hk
theorem fit_range {size len : Int} : ∀ {ks : List Str} {l : List Dat}, l.length = ks.length → ((List.range ks.length).map (fun i => fitsD (ks.getD i "") (l.getD i .non) size len)).all id = fitAll size len ks l
  | [], l, h => by cases l <;> first | rfl | simp at h
  | k :: ks, [], h => by simp at h
  | k :: ks, d :: l, h => by
    have ih := fit_range (size := size) (len := len) (ks := ks) (l := l) (by simpa using h)
    rw [List.length_cons, List.range_succ_eq_map, List.map_cons, List.map_map, List.all_cons]
    show (_ && _) = (_ && _)
    rw [← ih]
    rfl
theorem ninstr {size len : Int} {z : Str} {rest : List Dat} {ks : List Str} (h : formsL.lookup z = some ks) : instrD size len (.tup (.str z :: rest)) = (decide (rest.length = ks.length) && fitAll size len ks rest && (!ks.contains "args" || decide (lenD (rest.getD 4 .non) = lenD (rest.getD 6 .non)))) := by
  show (match formsL.lookup z with | none => false | some form => _) = _
  rw [h]
theorem instr_word {size len : Int} {d : Dat} (h : wordD d = false) : instrD size len d = false := by
  cases d with
  | tup l =>
    cases l with
    | nil => rfl
    | cons d0 rest =>
      cases d0 with
      | str z =>
        have h2 : (formsL.lookup z).isSome = false := h
        show (match formsL.lookup z with | none => false | some form => _) = _
        cases hl : formsL.lookup z with
        | none => rfl
        | some ks => rw [hl] at h2; exact absurd h2 (by simp)
      | _ => rfl
  | _ => rfl
theorem inV_strs {z : Str} {ks : List Str} : inV (.str z) (ks.map V.str) = ks.contains z := by
  unfold inV
  rw [List.any_map, List.contains_eq_any_beq]
  congr 1
  funext k
  show (k == z) = (z == k)
  by_cases h : k = z
  · subst h; rfl
  · have h2 : ¬ z = k := fun e => h e.symm
    have h1 : (k == z) = false := by simpa using h
    have h3 : (z == k) = false := by simpa using h2
    exact h1.trans h3.symm
theorem flat_strs {ks : List Str} : (ks.map V.str).all flatV = true := by
  rw [List.all_map, List.all_eq_true]
  intro k _
  rfl
theorem fits_types {d : Dat} {size len : Int} (h : fitsD "types" d size len = true) : ∃ l, d = .tup l := by
  have h2 : typesD d = true := h
  cases d <;> first | exact ⟨_, rfl⟩ | (simp [typesD] at h2)
theorem fits_args {d : Dat} {size len : Int} (h : fitsD "args" d size len = true) : ∃ l, d = .tup l := by
  have h2 : argsD size d = true := h
  cases d <;> first | exact ⟨_, rfl⟩ | (simp [argsD] at h2)
theorem fit7 {size len : Int} : ∀ {l : List Dat}, l.length = 7 → fitAll size len ["r", "r", "C", "f", "types", "T", "args"] l = true → ∃ a b, l[4]? = some (.tup a) ∧ l[6]? = some (.tup b)
  | [_, _, _, _, d5, _, d7], _, h => by
    simp only [fitAll, Bool.and_eq_true] at h
    obtain ⟨a, rfl⟩ := fits_types h.2.2.2.2.1
    obtain ⟨b, rfl⟩ := fits_args h.2.2.2.2.2.2.1
    exact ⟨a, b, rfl, rfl⟩
def ZipC (K : PySem.W.Frag) (H1 : Hp) (vs : List V) (R : It → Hp → Prop) : Prop := ∃ a b xs ys, vs = [.ref a, .ref b] ∧ ((SqL K H1 a xs ∧ SqL K H1 b ys ∧ R (Itz K a b) H1) ∨ (SqT K H1 a xs ∧ SqT K H1 b ys ∧ R (RZ.ItzT K a b) H1))
theorem v_iZip {σ : L2.St} {H : Hp} {ta : TA} {R : It → Hp → Prop} (k : ta σ H fun vs H1 => ZipC K H1 vs R) : RZ.iZipA K ta σ H R := k
theorem v_zipT {a b : Addr} {xs ys : List V} {H : Hp} {R : It → Hp → Prop} (h1 : SqT K H a xs) (h2 : SqT K H b ys) (k : R (RZ.ItzT K a b) H) : ZipC K H [.ref a, .ref b] R := ⟨a, b, xs, ys, rfl, .inr ⟨h1, h2, k⟩⟩
/-! ### the whole instruction -/
def spWithin (K : PySem.W.Frag) : Sp := fun vs H Q _ => ∃ (x : V) (d : Dat) (size len : Int), vs = [x, .int size, .int len] ∧ Rep K H d x ∧ okD d ∧ ∀ H', Same H H' → Q (.bl (instrD size len d)) H'
theorem ok_within {f : Addr} {fd : FuncData} (F : Fun K "is_instruction_within" "is_instruction_within" s_is_instruction_within f fd) (T : Txt K w mg aF es nF) (C_has_word : Cal P w K mg base 1 "has_word" ["value"] (spWord K)) (C_fits : Cal P w K mg base 4 "fits" ["kind", "item", "size", "length"] (spFits K)) :
    FnOk P w K mg base CX0 5 f fd ["value", "size", "length"] (spWithin K) := by
  refine F.ok sc_is_instruction_within (fun vs H Q E h => ?_) (fun cdv A outer s H vs Q E hr h => ?_)
  · obtain ⟨x, d, size, len, rfl, _⟩ := h
    rfl
  · obtain ⟨x, d, size, len, rfl, hd, hok, q⟩ := h
    refine ⟨_, (pss_cons (ps_if (pt_not (pt_val (pcall C_has_word hr (by omega) (by rfl) (pa_cons (pv 0) pa_nil)))) (pss_one (ps_ret pe_bl)) pss_nil)
      (pss_cons (ps_set (i := 3) sc_is_instruction_within.nd rfl (by first | exact .inl rfl | exact .inr rfl) (pe_ix (ix_kd T.kd) (pglob (by rfl) T.g_FORMS) (pe_ix (kIx (K := K) rfl) (pv 0) pe_int (fun _ _ => rfl)) (fun _ _ => rfl)))
      (pss_cons (ps_if (pt_cmpR (kNe (K := K) rfl hr.units) (pe_callB (kLen (K := K) rfl) (by rfl) T.b_len (by decide +kernel) (pa_cons (pv 0) pa_nil)) (pe_op (kAdd (K := K) rfl) pe_int (pe_callB (kLen (K := K) rfl) (by rfl) T.b_len (by decide +kernel) (pa_cons (pv 3) pa_nil))) (nomark _)) (pss_one (ps_ret pe_bl)) pss_nil)
      (pss_cons (ps_if (pt_not (pt_val (pe_callB (kAll (K := K) rfl) (by rfl) T.b_all (by decide +kernel) (pa_cons (pe_lc (own := [("kind", 4), ("item", 5)]) (by rfl) sc_is_instruction_within.nd (kZipT (K := K) rfl (by rfl) T.b_zip (pa_cons (pv 3) (pa_cons (pe_slice (kSl (K := K) rfl) (pv 0) (po_some pe_int) po_none) pa_nil))) (blkOk_by (N := ["value", "size", "length", "form", "kind", "item"]) (sc := defScope s_is_instruction_within) (by decide +kernel)) (fun _ _ _ _ _ => (kTup (K := K) (n := 2) rfl (by rfl) (pgs_cons (pg_name (i := 4) sc_is_instruction_within.nd rfl (by first | exact .inl rfl | exact .inr rfl)) (pgs_cons (pg_name (i := 5) sc_is_instruction_within.nd rfl (by first | exact .inl rfl | exact .inr rfl)) pgs_nil)))) (fun _ _ _ _ _ => pts_nil) (fun _ _ _ _ _ => (pcall C_fits hr (by omega) (by rfl) (pa_cons (pv 4) (pa_cons (pv 5) (pa_cons (pv 1) (pa_cons (pv 2) pa_nil))))))) pa_nil)))) (pss_one (ps_ret pe_bl)) pss_nil)
      (pss_one (ps_ret (pe_or (pe_cmpR (kNotIn (K := K) rfl) pe_str (pv 3) (by rfl)) (pe_one (pe_cmpR (kEq (K := K) rfl hr.units) (pe_callB (kLen (K := K) rfl) (by rfl) T.b_len (by decide +kernel) (pa_cons (pe_ix (kIx (K := K) rfl) (pv 0) (pglob (by rfl) T.g_TYPES_AT) (fun _ _ => rfl)) pa_nil)) (pe_callB (kLen (K := K) rfl) (by rfl) T.b_len (by decide +kernel) (pa_cons (pe_ix (kIx (K := K) rfl) (pv 0) (pglob (by rfl) T.g_ARGS_AT) (fun _ _ => rfl)) pa_nil)) (nomark _)))))))))), ?_⟩
    walk_at "start"
    walk_at "v"
    refine ⟨x, d, rfl, hd, hok, fun H1 s1 => ?_⟩
    cases hw : wordD d with
    | false =>
      walk_at "v"
      rw [instr_word hw] at q
      exact q H1 s1
    | true =>
      obtain ⟨z, rest, ks, rfl, hl⟩ := word_form hw
      obtain ⟨a, xs, rfl, hq, hr2⟩ := hd
      obtain ⟨x0, r, rfl, hd0, hr3⟩ := hr2
      cases hd0
      obtain ⟨o, e, m⟩ := T.forms z
      rw [hl] at m
      obtain ⟨fa, rfl, hf⟩ := m
      rw [ninstr hl] at q
      have hlen := hr3.length
      have hks := form_len hl
      walk_at "v"
      refine v_ixT (sqT_same s1 hq) at_0 ?_
      refine v_kd (v0 := .ref fa) e rfl ?_
      walk_at "v"
      refine v_lenT (sqT_same s1 hq) ?_
      walk_at "v"
      refine v_lenT (hf _) ?_
      walk_at "v"
      · rename_i heq
        have hle : rest.length = ks.length := by simp at heq; omega
        refine v_iZip ?_
        walk_at "v"
        refine v_slT (sqT_same s1 hq) fun p H2 s2 hp => ?_
        rw [cut_1] at hp
        walk_at "v"
        refine v_zipT (hf _) hp ?_
        have s12 := s1.trans s2
        refine lc_zip (xs := ks.map V.str) (ys := r) (n := ks.length) (walk_zipT (by simp; omega)) hy_pair (fun H' s' => ⟨hf _, sqT_same s' hp⟩) (fun i => some (V.bl (fitsD (ks.getD i "") (rest.getD i .non) size len))) (by exact small1000 (by omega)) (fun i TT x y H3 R Rn hi hx hy s3 ht hR _ => ?_) (fun D H' hD s' e => ?_)
        · refine v_gtup ht ?_
          walk_at "v"
          refine v_gcons ?_
          walk_at "v"
          refine v_gcons ?_
          walk_at "v"
          refine v_gnil ?_
          refine ⟨rfl, ?_⟩
          walk_at "v"
          obtain ⟨k, hk, rfl⟩ : ∃ k, ks[i]? = some k ∧ x = .str k := by
            rw [List.getElem?_map, Option.map_eq_some_iff] at hx
            obtain ⟨k, hk, rfl⟩ := hx
            exact ⟨k, hk, rfl⟩
          obtain ⟨d1, hd1, hr1⟩ := hr3.at hy
          have e1 : ks.getD i "" = k := by simp [List.getD_eq_getElem?_getD, hk]
          have e2 : rest.getD i .non = d1 := by simp [List.getD_eq_getElem?_getD, hd1]
          refine ⟨k, y, d1, size, len, rfl, hr1.same (s12.trans s3), hok.2.2.mem (List.mem_of_getElem? hd1), fun H5 s5 => hR _ _ s5 ?_⟩
          rw [e1, e2]
        · walk_at "v"
          refine v_all (bs := (List.range ks.length).map fun i => fitsD (ks.getD i "") (rest.getD i .non) size len) (sq_lst (by rw [e, bl_list])) ?_
          rw [fit_range hle]
          have s3 := s12.trans s'
          cases hfa : fitAll size len ks rest with
          | false =>
            walk_at "v"
            rw [hfa, Bool.and_false, Bool.false_and] at q
            exact q _ s3
          | true =>
            rw [hfa, decide_eq_true hle, Bool.true_and, Bool.true_and] at q
            walk_at "v"
            refine v_ninT (hf _) rfl flat_strs ?_
            rw [inV_strs]
            cases hc : ks.contains "args" with
            | false =>
              rw [hc] at q
              walk_at "v"
              exact q _ s3
            | true =>
              rw [hc, Bool.not_true, Bool.false_or] at q
              have e7 := form_args hl hc
              subst e7
              walk_at "v"
              obtain ⟨l5, l7, h5, h7⟩ := fit7 hle hfa
              obtain ⟨x5, hx5, a5, xs5, rfl, hs5, hr5⟩ := hr3.get h5
              obtain ⟨x7, hx7, a7, xs7, rfl, hs7, hr7⟩ := hr3.get h7
              refine v_ixT (sqT_same s3 hq) (at_n (i := 5) hx5) ?_
              walk_at "v"
              refine v_lenT (sqT_same s3 hs5) ?_
              walk_at "v"
              refine v_ixT (sqT_same s3 hq) (at_n (i := 7) hx7) ?_
              walk_at "v"
              refine v_lenT (sqT_same s3 hs7) ?_
              walk_at "v"
              have e4 : rest.getD 4 .non = .tup l5 := by simp [List.getD_eq_getElem?_getD, h5]
              have e6 : rest.getD 6 .non = .tup l7 := by simp [List.getD_eq_getElem?_getD, h7]
              have e8 : decide ((xs5.length : Int) = xs7.length) = decide (lenD (rest.getD 4 .non) = lenD (rest.getD 6 .non)) := by
                rw [e4, e6, hr5.length, hr7.length]
                show _ = decide (l5.length = l7.length)
                by_cases h : l5.length = l7.length
                · rw [h]; simp
                · rw [decide_eq_false h, decide_eq_false (by omega)]
              rw [e8]
              exact q _ s3
      · rename_i hne
        have hle : ¬ rest.length = ks.length := fun h => hne (by simp; omega)
        rw [decide_eq_false hle] at q
        exact q H1 s1
/-! ### within the greatest sizes -/
def spInstr (K : PySem.W.Frag) : Sp := fun vs H Q _ => ∃ (x : V) (d : Dat), vs = [x] ∧ Rep K H d x ∧ okD d ∧ ∀ H', Same H H' → Q (.bl (instrD 10 40 d)) H'
end K02

namespace K02
open PySem PySem.Spec PyProof.Rows L2 Kit
local macro_rules | `(tactic| walk_at "ne") => `(tactic| first
  | assumption
  | (apply Ne.symm; assumption)
  | exact ne_of_none (by assumption) (by assumption)
  | exact (ne_of_none (by assumption) (by assumption)).symm
  | (refine ne_of_none (H := ?H0) (o := ?oo) ?hs ?hn; (case hn => assumption); (case hs => walk_at "hp"))
  | (refine (ne_of_none (H := ?H0) (o := ?oo) ?hs ?hn).symm; (case hn => assumption); (case hs => walk_at "hp"))
  | (refine Src.ne (H := ?H0) ?hs ?hn; (case hn => assumption); (case hs => walk_at "src"))
  | (refine (Src.ne (H := ?H0) ?hs ?hn).symm; (case hn => assumption); (case hs => walk_at "src"))
  | fail "no rule")
local macro_rules | `(tactic| walk_at "hp") => `(tactic| first
  | assumption
  | exact upd_same
  | (refine (upd_ne ?hne).trans ?hrest; (case hne => walk_at "ne"); (case hrest => walk_at "hp"))
  | (refine same_at (H := ?H0) ?hs ?hrest; (case hs => assumption); (case hrest => walk_at "hp"))
  | (refine dr_at (H := ?H0) (a := ?a0) ?hs ?hne ?hrest; (case hs => assumption); (case hne => walk_at "ne"); (case hrest => walk_at "hp"))
  | fail "no rule")
local macro_rules | `(tactic| walk_at "sq") => `(tactic| first
  | assumption
  | exact Or.inl (Or.inl (by walk_at "hp"))
  | (refine sq_upd ?hnn ?hss; (case hnn => assumption); (case hss => walk_at "sq"))
  | (refine Same.seq (H := ?H0) ?hs ?hrest; (case hs => assumption); (case hrest => walk_at "sq"))
  | (refine sq_dr (H := ?H0) (a := ?a0) ?hs ?hne ?hrest; (case hs => assumption); (case hne => walk_at "ne"); (case hrest => walk_at "sq"))
  | fail "no rule")
local macro_rules | `(tactic| walk_at "sm") => `(tactic| first
  | assumption
  | exact Same.refl _
  | (refine same_new ?hnn; (case hnn => assumption))
  | (refine same_mut ?hs ?hnn; (case hs => walk_at "sm"); (case hnn => walk_at "fr"))
  | (refine Same.trans (H1 := ?H1) ?hs ?hq; (case hq => assumption); (case hs => walk_at "sm"))
  | fail "no rule")
local macro_rules | `(tactic| walk_at "fr") => `(tactic| first
  | assumption
  | (refine Same.free (H' := ?H1) ?hs ?hq; (case hq => assumption); (case hs => walk_at "sm"))
  | fail "no rule")
local macro_rules | `(tactic| walk_at "src") => `(tactic| first
  | assumption
  | exact Dr.src (by assumption)
  | (refine Src.same (H := ?H0) ?hs ?hm; (case hm => assumption); (case hs => walk_at "src"))
  | (refine Src.upd ?hs ?hn; (case hs => walk_at "src"); (case hn => walk_at "ne"))
  | fail "no rule")
local macro_rules | `(tactic| walk_at "fd") => `(tactic| first
  | assumption
  | (refine Same.free (H' := ?H1) ?hs ?hq; (case hq => assumption); (case hs => walk_at "sm"))
  | (refine Dr.free (H' := ?H1) ?h0 ?hs ?hq; (case hq => assumption); (case hs => walk_at "dr"); (case h0 => walk_at "src"))
  | fail "no rule")
local macro_rules | `(tactic| walk_at "dr") => `(tactic| first
  | assumption
  | (refine Dr.trans (H' := ?H1) ?hs ?hq; (case hq => assumption); (case hs => walk_at "dr"))
  | (refine Dr.mut ?hs ?h0 ?hn; (case hs => walk_at "dr"); (case h0 => walk_at "src"); (case hn => walk_at "fd"))
  | (refine Dr.trans (H' := ?H1) ?hs (Dr.same ?h0 ?hq); (case hq => assumption); (case h0 => walk_at "src"); (case hs => walk_at "dr"))
  | (refine Dr.refl ?hs; (case hs => walk_at "src"))
  | fail "no rule")
local macro_rules | `(tactic| walk_at "sz") => `(tactic| first
  | omega
  | (refine Nat.le_trans ?_ (show (1000 : Nat) ≤ sizeLine by decide); first | decide | omega | (simp; done) | (simp; omega) | fail)
  | fail "no rule")
local macro_rules | `(tactic| walk_at "v1") => `(tactic| first
  | with_reducible refine v_seq ?_
  | with_reducible refine v_asg ?_
  | with_reducible refine v_gname ?_
  | with_reducible refine v_c ?_
  | ((with_reducible refine v_var (v := ?vv) ?hv ?_); (case hv => exact rfl))
  | with_reducible refine v_op ?_
  | with_reducible refine v_un ?_
  | with_reducible refine v_I0 ?_
  | with_reducible refine v_U ?_
  | with_reducible refine v_addI ?_
  | with_reducible refine v_ltI ?_
  | with_reducible refine v_leI ?_
  | with_reducible refine v_gtI ?_
  | with_reducible refine v_geI ?_
  | with_reducible refine v_leS ?_
  | with_reducible refine v_ltS ?_
  | with_reducible refine v_eqI ?_
  | with_reducible refine v_neI ?_
  | with_reducible refine v_eqS ?_
  | with_reducible refine v_neS ?_
  | with_reducible refine v_eqB ?_
  | ((with_reducible refine v_eqTy ?h1 ?h2 ?_); (case h1 => walk_at "bt"); (case h2 => walk_at "bt"))
  | ((with_reducible refine v_neTy ?h1 ?h2 ?_); (case h1 => walk_at "bt"); (case h2 => walk_at "bt"))
  | with_reducible refine v_test ?_
  | with_reducible refine v_B ?_
  | with_reducible refine v_isbl ?_
  | with_reducible refine v_and ?_
  | with_reducible refine v_or ?_
  | with_reducible refine v_not ?_
  | with_reducible refine v_andV ?_
  | with_reducible refine v_orV ?_
  | with_reducible refine v_notV ?_
  | with_reducible refine v_if ?_
  | with_reducible refine v_chain ?_
  | with_reducible refine v_nil ?_
  | with_reducible refine v_cons ?_
  | with_reducible refine v_cb ?_
  | with_reducible refine v_call ?_
  | with_reducible refine v_max ?_
  | ((with_reducible refine v_draw ?hs ?hm ?_); (case hs => walk_at "src"); (case hm => omega))
  | with_reducible refine v_min ?_
  | with_reducible refine v_intI ?_
  | with_reducible refine v_intB ?_
  | with_reducible refine v_m1 ?_
  | with_reducible refine v_isstr ?_
  | with_reducible refine v_sl ?_
  | with_reducible refine v_ss ?_
  | with_reducible refine v_disp1 ?_
  | with_reducible refine v_s0 ?_
  | with_reducible refine v_nopart ?_
  | with_reducible refine v_part ?_
  | with_reducible refine v_partI ?_
  | with_reducible refine v_next ?_
  | with_reducible refine v_gsub ?_
  | with_reducible refine v_ifS ?_
  | with_reducible refine v_ret ?_
  | with_reducible refine v_drop ?_
  | ((with_reducible refine v_iteTrue ?hb ?_); (case hb => walk_at "bt"))
  | ((with_reducible refine v_iteFalse ?hb ?_); (case hb => walk_at "bt"))
  | with_reducible refine v_iteD ?_ ?_
  | with_reducible refine v_iteNot ?_
  | with_reducible refine v_lc ?_
  | with_reducible refine v_iStr ?_
  | with_reducible refine v_isS ?_
  | with_reducible refine v_iRng1 ?_
  | ((with_reducible refine v_rng1 ?hb ?_); (case hb => omega))
  | with_reducible refine v_iList ?_
  | with_reducible refine v_iSeq ?_
  | ((with_reducible refine v_isL (xs := ?xx) ?hsq ?_); (case hsq => walk_at "sq"))
  | with_reducible refine v_for ?_
  | with_reducible refine v_yes ?_
  | ((with_reducible refine v_nand ?hw ?_); (case hw => first | exact rfl | walk_at "sz" | fail))
  | ((with_reducible refine v_typ (T := ?TT) ?ht ?_); (case ht => walk_at "ty"))
  | ((with_reducible refine v_isiK (T := ?TT) ?ht ?h1 ?h2 ?_); (case ht => walk_at "ty"); (case h1 => walk_at "bt"); (case h2 => exact rfl))
  | with_reducible refine iteT ?_
  | with_reducible refine iteF ?_
  | with_reducible refine v_tup ?_
  | with_reducible refine v_lst ?_
  | ((with_reducible refine v_ixL (xs := ?xx) (v := ?vv) ?hsq ?hat ?_); (case hsq => walk_at "sq"); (case hat => exact rfl))
  | ((with_reducible refine v_lenL (xs := ?xx) ?hsq ?_); (case hsq => walk_at "sq"))
  | ((with_reducible refine v_setL (xs := ?xx) (j := ?jj) ?hh ?hj ?_); (case hh => walk_at "hp"); (case hj => exact rfl))
  | ((with_reducible refine v_I ?hc ?_); (case hc => walk_at "ic"))
  | ((with_reducible refine v_lenS ?hz ?_); (case hz => walk_at "sz"))
  | ((with_reducible refine v_slS ?hz ?_); (case hz => walk_at "sz"))
  | ((with_reducible refine v_addS ?hz ?_); (case hz => walk_at "sz"))
  | ((with_reducible refine v_ixS (c := ?cc) ?hz ?hat ?_); (case hz => walk_at "sz"); (case hat => exact rfl))
  | ((with_reducible refine v_addL (xs := ?xx) (ys := ?yy) ?h1 ?h2 ?hz ?_); (case h1 => walk_at "hp"); (case h2 => walk_at "hp"); (case hz => walk_at "sz"))
  | ((with_reducible refine v_ixT (xs := ?xx) (v := ?vv) ?hsq ?hat ?_); (case hsq => walk_at "sq"); (case hat => exact rfl))
  | ((with_reducible refine v_lenT (xs := ?xx) ?hsq ?_); (case hsq => walk_at "sq"))
  | ((with_reducible refine v_eq ?hs ?_); (case hs => exact rfl))
  | ((with_reducible refine v_ne ?hs ?_); (case hs => exact rfl))
  | (with_reducible intro _)
  | fail "no rule")
local macro_rules | `(tactic| walk_at "ic") => `(tactic| first
  | (show (0 : Int) < _; first | decide | omega | fail)
  | (show CMul _ _; unfold CMul; omega)
  | (show CDiv _ _; unfold CDiv; omega)
  | (show CPow _ _; unfold CPow; exact ⟨by decide, by decide, by decide⟩)
  | fail "no rule")
local macro_rules | `(tactic| walk_at "bt") => `(tactic| first
  | exact rfl
  | assumption
  | decide +kernel
  | (simp; done)
  | fail "no rule")
local macro_rules | `(tactic| walk_at "ty") => `(tactic| first
  | assumption
  | exact .non
  | exact .bl _
  | exact .int _
  | exact .str _
  | exact .lst (by walk_at "sq")
  | exact .tup (by walk_at "sq")
  | exact .dK (by walk_at "hp")
  | fail "no rule")
local macro_rules | `(tactic| walk_at "v") => `(tactic| try (walk_at "v1" <;> walk_at "v"))
local macro_rules | `(tactic| walk_at "start") => `(tactic| dsimp only [L2.start, cxOf, Cx.nox, Cx.wish, List.map, List.replicate, List.length, List.append, Nat.reduceSub, Nat.reduceAdd, List.cons_append, List.nil_append])

variable {P : Program} {w : World} {K : PySem.W.Frag} {mg : Str → Option Value} {base : Heap}
variable {aF : Addr} {es : Array DictEntry} {nF : Nat}
/-! ### _law_is_name -/
/-! ### _law_fits -/
def lf1 (s : Str) (d : Dat) : Bool := if s = "r" then numD 0 9 d else if s = "t" then numD 0 39 d else if s = "n" then nmD d else tpD d
def lfD (s : Str) (d : Dat) : Bool := if s = "K" ∨ s = "R" then (match d with
    | .tup l => decide ((l.length : Int) ≤ 4) && l.all (lf1 (if s = "R" then "r" else "k"))
    | _ => false) else lf1 s d
def spNone : Sp := fun _ _ _ _ => False
def spLf1 (K : PySem.W.Frag) : Sp := fun vs H Q _ => ∃ (s : Str) (x : V) (d : Dat), vs = [.str s, x] ∧ (s = "r" ∨ s = "t" ∨ s = "n" ∨ s = "k") ∧ Rep K H d x ∧ okD d ∧ ∀ H', Same H H' → Q (.bl (lf1 s d)) H'
theorem no_law_fits {f : Addr} {fd : FuncData} : FnOk P w K mg base CX0 1 f fd ["_law_sign", "_law_thing"] spNone := ⟨fun _ _ _ _ h => False.elim h, fun _ _ _ _ _ _ _ _ _ _ _ _ _ h => False.elim h⟩
end K02

namespace K02
open PySem PySem.Spec PyProof.Rows L2 Kit
local macro_rules | `(tactic| walk_at "ne") => `(tactic| first
  | assumption
  | (apply Ne.symm; assumption)
  | exact ne_of_none (by assumption) (by assumption)
  | exact (ne_of_none (by assumption) (by assumption)).symm
  | (refine ne_of_none (H := ?H0) (o := ?oo) ?hs ?hn; (case hn => assumption); (case hs => walk_at "hp"))
  | (refine (ne_of_none (H := ?H0) (o := ?oo) ?hs ?hn).symm; (case hn => assumption); (case hs => walk_at "hp"))
  | (refine Src.ne (H := ?H0) ?hs ?hn; (case hn => assumption); (case hs => walk_at "src"))
  | (refine (Src.ne (H := ?H0) ?hs ?hn).symm; (case hn => assumption); (case hs => walk_at "src"))
  | fail "no rule")
local macro_rules | `(tactic| walk_at "hp") => `(tactic| first
  | assumption
  | exact upd_same
  | (refine (upd_ne ?hne).trans ?hrest; (case hne => walk_at "ne"); (case hrest => walk_at "hp"))
  | (refine same_at (H := ?H0) ?hs ?hrest; (case hs => assumption); (case hrest => walk_at "hp"))
  | (refine dr_at (H := ?H0) (a := ?a0) ?hs ?hne ?hrest; (case hs => assumption); (case hne => walk_at "ne"); (case hrest => walk_at "hp"))
  | fail "no rule")
local macro_rules | `(tactic| walk_at "sq") => `(tactic| first
  | assumption
  | exact Or.inl (Or.inl (by walk_at "hp"))
  | (refine sq_upd ?hnn ?hss; (case hnn => assumption); (case hss => walk_at "sq"))
  | (refine Same.seq (H := ?H0) ?hs ?hrest; (case hs => assumption); (case hrest => walk_at "sq"))
  | (refine sq_dr (H := ?H0) (a := ?a0) ?hs ?hne ?hrest; (case hs => assumption); (case hne => walk_at "ne"); (case hrest => walk_at "sq"))
  | fail "no rule")
local macro_rules | `(tactic| walk_at "sm") => `(tactic| first
  | assumption
  | exact Same.refl _
  | (refine same_new ?hnn; (case hnn => assumption))
  | (refine same_mut ?hs ?hnn; (case hs => walk_at "sm"); (case hnn => walk_at "fr"))
  | (refine Same.trans (H1 := ?H1) ?hs ?hq; (case hq => assumption); (case hs => walk_at "sm"))
  | fail "no rule")
local macro_rules | `(tactic| walk_at "fr") => `(tactic| first
  | assumption
  | (refine Same.free (H' := ?H1) ?hs ?hq; (case hq => assumption); (case hs => walk_at "sm"))
  | fail "no rule")
local macro_rules | `(tactic| walk_at "src") => `(tactic| first
  | assumption
  | exact Dr.src (by assumption)
  | (refine Src.same (H := ?H0) ?hs ?hm; (case hm => assumption); (case hs => walk_at "src"))
  | (refine Src.upd ?hs ?hn; (case hs => walk_at "src"); (case hn => walk_at "ne"))
  | fail "no rule")
local macro_rules | `(tactic| walk_at "fd") => `(tactic| first
  | assumption
  | (refine Same.free (H' := ?H1) ?hs ?hq; (case hq => assumption); (case hs => walk_at "sm"))
  | (refine Dr.free (H' := ?H1) ?h0 ?hs ?hq; (case hq => assumption); (case hs => walk_at "dr"); (case h0 => walk_at "src"))
  | fail "no rule")
local macro_rules | `(tactic| walk_at "dr") => `(tactic| first
  | assumption
  | (refine Dr.trans (H' := ?H1) ?hs ?hq; (case hq => assumption); (case hs => walk_at "dr"))
  | (refine Dr.mut ?hs ?h0 ?hn; (case hs => walk_at "dr"); (case h0 => walk_at "src"); (case hn => walk_at "fd"))
  | (refine Dr.trans (H' := ?H1) ?hs (Dr.same ?h0 ?hq); (case hq => assumption); (case h0 => walk_at "src"); (case hs => walk_at "dr"))
  | (refine Dr.refl ?hs; (case hs => walk_at "src"))
  | fail "no rule")
local macro_rules | `(tactic| walk_at "sz") => `(tactic| first
  | omega
  | (refine Nat.le_trans ?_ (show (1000 : Nat) ≤ sizeLine by decide); first | decide | omega | (simp; done) | (simp; omega) | fail)
  | fail "no rule")
local macro_rules | `(tactic| walk_at "v1") => `(tactic| first
  | with_reducible refine v_seq ?_
  | with_reducible refine v_asg ?_
  | with_reducible refine v_gname ?_
  | with_reducible refine v_c ?_
  | ((with_reducible refine v_var (v := ?vv) ?hv ?_); (case hv => exact rfl))
  | with_reducible refine v_op ?_
  | with_reducible refine v_un ?_
  | with_reducible refine v_I0 ?_
  | with_reducible refine v_U ?_
  | with_reducible refine v_addI ?_
  | with_reducible refine v_ltI ?_
  | with_reducible refine v_leI ?_
  | with_reducible refine v_gtI ?_
  | with_reducible refine v_geI ?_
  | with_reducible refine v_leS ?_
  | with_reducible refine v_ltS ?_
  | with_reducible refine v_eqI ?_
  | with_reducible refine v_neI ?_
  | with_reducible refine v_eqS ?_
  | with_reducible refine v_neS ?_
  | with_reducible refine v_eqB ?_
  | ((with_reducible refine v_eqTy ?h1 ?h2 ?_); (case h1 => walk_at "bt"); (case h2 => walk_at "bt"))
  | ((with_reducible refine v_neTy ?h1 ?h2 ?_); (case h1 => walk_at "bt"); (case h2 => walk_at "bt"))
  | with_reducible refine v_test ?_
  | with_reducible refine v_B ?_
  | with_reducible refine v_isbl ?_
  | with_reducible refine v_and ?_
  | with_reducible refine v_or ?_
  | with_reducible refine v_not ?_
  | with_reducible refine v_andV ?_
  | with_reducible refine v_orV ?_
  | with_reducible refine v_notV ?_
  | with_reducible refine v_if ?_
  | with_reducible refine v_chain ?_
  | with_reducible refine v_nil ?_
  | with_reducible refine v_cons ?_
  | with_reducible refine v_cb ?_
  | with_reducible refine v_call ?_
  | with_reducible refine v_max ?_
  | ((with_reducible refine v_draw ?hs ?hm ?_); (case hs => walk_at "src"); (case hm => omega))
  | with_reducible refine v_min ?_
  | with_reducible refine v_intI ?_
  | with_reducible refine v_intB ?_
  | with_reducible refine v_m1 ?_
  | with_reducible refine v_isstr ?_
  | with_reducible refine v_sl ?_
  | with_reducible refine v_ss ?_
  | with_reducible refine v_disp1 ?_
  | with_reducible refine v_s0 ?_
  | with_reducible refine v_nopart ?_
  | with_reducible refine v_part ?_
  | with_reducible refine v_partI ?_
  | with_reducible refine v_next ?_
  | with_reducible refine v_gsub ?_
  | with_reducible refine v_ifS ?_
  | with_reducible refine v_ret ?_
  | with_reducible refine v_drop ?_
  | ((with_reducible refine v_iteTrue ?hb ?_); (case hb => walk_at "bt"))
  | ((with_reducible refine v_iteFalse ?hb ?_); (case hb => walk_at "bt"))
  | with_reducible refine v_iteD ?_ ?_
  | with_reducible refine v_iteNot ?_
  | with_reducible refine v_lc ?_
  | with_reducible refine v_iStr ?_
  | with_reducible refine v_isS ?_
  | with_reducible refine v_iRng1 ?_
  | ((with_reducible refine v_rng1 ?hb ?_); (case hb => omega))
  | with_reducible refine v_iList ?_
  | with_reducible refine v_iSeq ?_
  | ((with_reducible refine v_isL (xs := ?xx) ?hsq ?_); (case hsq => walk_at "sq"))
  | with_reducible refine v_for ?_
  | with_reducible refine v_yes ?_
  | ((with_reducible refine v_nand ?hw ?_); (case hw => first | exact rfl | walk_at "sz" | fail))
  | ((with_reducible refine v_typ (T := ?TT) ?ht ?_); (case ht => walk_at "ty"))
  | ((with_reducible refine v_isiK (T := ?TT) ?ht ?h1 ?h2 ?_); (case ht => walk_at "ty"); (case h1 => walk_at "bt"); (case h2 => exact rfl))
  | with_reducible refine iteT ?_
  | with_reducible refine iteF ?_
  | with_reducible refine v_tup ?_
  | with_reducible refine v_lst ?_
  | ((with_reducible refine v_ixL (xs := ?xx) (v := ?vv) ?hsq ?hat ?_); (case hsq => walk_at "sq"); (case hat => exact rfl))
  | ((with_reducible refine v_lenL (xs := ?xx) ?hsq ?_); (case hsq => walk_at "sq"))
  | ((with_reducible refine v_setL (xs := ?xx) (j := ?jj) ?hh ?hj ?_); (case hh => walk_at "hp"); (case hj => exact rfl))
  | ((with_reducible refine v_I ?hc ?_); (case hc => walk_at "ic"))
  | ((with_reducible refine v_lenS ?hz ?_); (case hz => walk_at "sz"))
  | ((with_reducible refine v_slS ?hz ?_); (case hz => walk_at "sz"))
  | ((with_reducible refine v_addS ?hz ?_); (case hz => walk_at "sz"))
  | ((with_reducible refine v_ixS (c := ?cc) ?hz ?hat ?_); (case hz => walk_at "sz"); (case hat => exact rfl))
  | ((with_reducible refine v_addL (xs := ?xx) (ys := ?yy) ?h1 ?h2 ?hz ?_); (case h1 => walk_at "hp"); (case h2 => walk_at "hp"); (case hz => walk_at "sz"))
  | ((with_reducible refine v_ixT (xs := ?xx) (v := ?vv) ?hsq ?hat ?_); (case hsq => walk_at "sq"); (case hat => exact rfl))
  | ((with_reducible refine v_lenT (xs := ?xx) ?hsq ?_); (case hsq => walk_at "sq"))
  | ((with_reducible refine v_eq ?hs ?_); (case hs => exact rfl))
  | ((with_reducible refine v_ne ?hs ?_); (case hs => exact rfl))
  | (with_reducible intro _)
  | fail "no rule")
local macro_rules | `(tactic| walk_at "ic") => `(tactic| first
  | (show (0 : Int) < _; first | decide | omega | fail)
  | (show CMul _ _; unfold CMul; omega)
  | (show CDiv _ _; unfold CDiv; omega)
  | (show CPow _ _; unfold CPow; exact ⟨by decide, by decide, by decide⟩)
  | fail "no rule")
local macro_rules | `(tactic| walk_at "bt") => `(tactic| first
  | exact rfl
  | assumption
  | decide +kernel
  | (simp; done)
  | fail "no rule")
local macro_rules | `(tactic| walk_at "ty") => `(tactic| first
  | assumption
  | exact .non
  | exact .bl _
  | exact .int _
  | exact .str _
  | exact .lst (by walk_at "sq")
  | exact .tup (by walk_at "sq")
  | exact .dK (by walk_at "hp")
  | fail "no rule")
local macro_rules | `(tactic| walk_at "v") => `(tactic| try (walk_at "v1" <;> walk_at "v"))
local macro_rules | `(tactic| walk_at "start") => `(tactic| dsimp only [L2.start, cxOf, Cx.nox, Cx.wish, List.map, List.replicate, List.length, List.append, Nat.reduceSub, Nat.reduceAdd, List.cons_append, List.nil_append])

variable {P : Program} {w : World} {K : PySem.W.Frag} {mg : Str → Option Value} {base : Heap}
variable {aF : Addr} {es : Array DictEntry} {nF : Nat}
/-! ### _law_fits of several -/
def flatD : Dat → Bool
  | .non => true | .bl _ => true | .int _ => true | .str _ => true | _ => false
def flatP : Dat → PyData
  | .non => .none | .bl b => .bool b | .int i => .int i | .str z => .str z | _ => .none
theorem flat_dp {H : Hp} {d : Dat} {x : V} (h : Rep K H d x) (hf : flatD d = true) : Dp K H x (flatP d) := by
  cases d with
  | non => cases h; exact .non
  | bl b => cases h; exact .bl b
  | int i => cases h; exact .int i
  | str z => cases h; exact .str z
  | _ => exact absurd hf (by simp [flatD])
theorem flat_lay {d : Dat} (h : okD d) : PyData.canLay0 (flatP d) = true := by
  cases d with
  | str z => 
    simp [flatP, PyData.canLay0, PyData.strOk]
    intro i hi
    exact h.2 _ (by simp)
  | _ => rfl
theorem flat_depth {d : Dat} : PyData.depth (flatP d) = 0 := by
  cases d <;> rfl
theorem flats_dp {H : Hp} : ∀ {vs : List V}, (∀ v ∈ vs, ∃ d, Rep K H d v ∧ okD d ∧ flatD d = true) → ∃ ds, DpAll K H vs ds ∧ ds.length = vs.length ∧ PyData.canLayAll0 ds = true ∧ PyData.depthAll ds = 0
  | [], _ => ⟨[], .nil, rfl, rfl, rfl⟩
  | v :: vs, h => by
    obtain ⟨ds, h1, h2, h3, h4⟩ := flats_dp (vs := vs) fun w hw => h w (List.mem_cons_of_mem _ hw)
    obtain ⟨d, hr, ho, hf⟩ := h v List.mem_cons_self
    refine ⟨flatP d :: ds, .cons (flat_dp hr hf) h1, by simp [h2], ?_, ?_⟩
    · show (PyData.canLay0 _ && PyData.canLayAll0 _) = true
      rw [flat_lay ho, h3]; rfl
    · show max _ _ = 0
      rw [flat_depth, h4]; rfl
theorem eqv_nil (ds : List PyData) : PyData.eqv (.list ds) (.list []) = ds.isEmpty := by
  cases ds <;> rfl
theorem v_eqNil {H : Hp} {Q : VK} {a b : Addr} {vs : List V} (h : SqL K H a vs) (h2 : SqL K H b []) (hf : ∀ v ∈ vs, ∃ d, Rep K H d v ∧ okD d ∧ flatD d = true) (k : Q (.bl vs.isEmpty) H) : rEqU K (.ref a) (.ref b) H Q := by
  obtain ⟨ds, h3, h4, h5, h6⟩ := flats_dp hf
  refine v_eqD (d := .list ds) (e := .list []) (.lst h h3) (.lst h2 .nil) ?_ (by decide +kernel) ?_
  · unfold SeqAt.shaped
    rw [Bool.and_eq_true, decide_eq_true_iff]
    refine ⟨h5, ?_⟩
    show PyData.depthAll ds + 1 ≤ 64
    rw [h6]; decide
  · rw [eqv_nil]
    have : ds.isEmpty = vs.isEmpty := by
      cases ds <;> cases vs <;> first | rfl | simp at h4
    rw [this]
    exact k
theorem bad_all {xs : List V} {l : List Dat} (p : Dat → Bool) (h : xs.length = l.length) : ((List.range xs.length).filterMap fun i => if p (l.getD i .non) = true then none else xs[i]?).isEmpty = l.all p := by
  rw [Bool.eq_iff_iff, List.isEmpty_iff, List.filterMap_eq_nil_iff, List.all_eq_true]
  constructor
  · intro g d hd
    obtain ⟨i, hi, rfl⟩ := List.mem_iff_getElem.mp hd
    have g2 := g i (List.mem_range.mpr (by omega))
    have e : l.getD i .non = l[i] := by simp [List.getD_eq_getElem?_getD, hi]
    rw [e] at g2
    by_cases hp : p l[i] = true
    · exact hp
    · rw [if_neg hp, List.getElem?_eq_getElem (by omega)] at g2
      cases g2
  · intro g i hi
    have hi := List.mem_range.mp hi
    have e : l.getD i .non = l[i] := by simp [List.getD_eq_getElem?_getD, show i < l.length by omega]
    rw [e, if_pos (g _ (List.getElem_mem _))]
def spLf2 (K : PySem.W.Frag) : Sp := fun vs H Q _ => ∃ (s : Str) (x : V) (d : Dat), vs = [.str s, x] ∧ (s = "K" ∨ s = "R") ∧ Rep K H d x ∧ okD d ∧ (∀ l, d = .tup l → ∀ e ∈ l, flatD e = true) ∧ ∀ H', Same H H' → Q (.bl (lfD s d)) H'
/-! ### all signs -/
theorem fn_or {k : Nat} {f : Addr} {fd : FuncData} {ps : List Str} {sp sp' : Sp} (a : FnOk P w K mg base CX0 k f fd ps sp) (b : FnOk P w K mg base CX0 k f fd ps sp') : FnOk P w K mg base CX0 k f fd ps (fun vs H Q E => sp vs H Q E ∨ sp' vs H Q E) :=
  ⟨fun vs H Q E h => h.elim (a.len vs H Q E) (b.len vs H Q E), fun A outer s H args us vs Q E hr he hb hv h => h.elim (a.run A outer s H args us vs Q E hr he hb hv) (b.run A outer s H args us vs Q E hr he hb hv)⟩
def spLf (K : PySem.W.Frag) : Sp := fun vs H Q _ => ∃ (s : Str) (x : V) (d : Dat), vs = [.str s, x] ∧ s ∈ (["r", "t", "n", "k", "K", "R"] : List Str) ∧ Rep K H d x ∧ okD d ∧ (∀ l, d = .tup l → ∀ e ∈ l, flatD e = true) ∧ ∀ H', Same H H' → Q (.bl (lfD s d)) H'
theorem ok_law_fits {f : Addr} {fd : FuncData} (a : FnOk P w K mg base CX0 2 f fd ["_law_sign", "_law_thing"] (spLf1 K)) (b : FnOk P w K mg base CX0 3 f fd ["_law_sign", "_law_thing"] (spLf2 K)) : FnOk P w K mg base CX0 3 f fd ["_law_sign", "_law_thing"] (spLf K) := by
  refine (fn_or (a.mono (by decide)) b).imp fun vs H Q E h => ?_
  obtain ⟨s, x, d, rfl, hs, hd, hok, hfl, q⟩ := h
  have hs2 : s = "r" ∨ s = "t" ∨ s = "n" ∨ s = "k" ∨ s = "K" ∨ s = "R" := by simpa using hs
  have q1 : (s = "r" ∨ s = "t" ∨ s = "n" ∨ s = "k") → lfD s d = lf1 s d := by
    rintro (rfl | rfl | rfl | rfl) <;> rfl
  rcases hs2 with h | h | h | h | h | h
  · exact .inl ⟨s, x, d, rfl, .inl h, hd, hok, by rw [← q1 (.inl h)]; exact q⟩
  · exact .inl ⟨s, x, d, rfl, .inr (.inl h), hd, hok, by rw [← q1 (.inr (.inl h))]; exact q⟩
  · exact .inl ⟨s, x, d, rfl, .inr (.inr (.inl h)), hd, hok, by rw [← q1 (.inr (.inr (.inl h)))]; exact q⟩
  · exact .inl ⟨s, x, d, rfl, .inr (.inr (.inr h)), hd, hok, by rw [← q1 (.inr (.inr (.inr h)))]; exact q⟩
  · exact .inr ⟨s, x, d, rfl, .inl h, hd, hok, hfl, q⟩
  · exact .inr ⟨s, x, d, rfl, .inr h, hd, hok, hfl, q⟩
end K02

namespace K02
open PySem PySem.Spec PyProof.Rows L2 Kit
local macro_rules | `(tactic| walk_at "ne") => `(tactic| first
  | assumption
  | (apply Ne.symm; assumption)
  | exact ne_of_none (by assumption) (by assumption)
  | exact (ne_of_none (by assumption) (by assumption)).symm
  | (refine ne_of_none (H := ?H0) (o := ?oo) ?hs ?hn; (case hn => assumption); (case hs => walk_at "hp"))
  | (refine (ne_of_none (H := ?H0) (o := ?oo) ?hs ?hn).symm; (case hn => assumption); (case hs => walk_at "hp"))
  | (refine Src.ne (H := ?H0) ?hs ?hn; (case hn => assumption); (case hs => walk_at "src"))
  | (refine (Src.ne (H := ?H0) ?hs ?hn).symm; (case hn => assumption); (case hs => walk_at "src"))
  | fail "no rule")
local macro_rules | `(tactic| walk_at "hp") => `(tactic| first
  | assumption
  | exact upd_same
  | (refine (upd_ne ?hne).trans ?hrest; (case hne => walk_at "ne"); (case hrest => walk_at "hp"))
  | (refine same_at (H := ?H0) ?hs ?hrest; (case hs => assumption); (case hrest => walk_at "hp"))
  | (refine dr_at (H := ?H0) (a := ?a0) ?hs ?hne ?hrest; (case hs => assumption); (case hne => walk_at "ne"); (case hrest => walk_at "hp"))
  | fail "no rule")
local macro_rules | `(tactic| walk_at "sq") => `(tactic| first
  | assumption
  | exact Or.inl (Or.inl (by walk_at "hp"))
  | (refine sq_upd ?hnn ?hss; (case hnn => assumption); (case hss => walk_at "sq"))
  | (refine Same.seq (H := ?H0) ?hs ?hrest; (case hs => assumption); (case hrest => walk_at "sq"))
  | (refine sq_dr (H := ?H0) (a := ?a0) ?hs ?hne ?hrest; (case hs => assumption); (case hne => walk_at "ne"); (case hrest => walk_at "sq"))
  | fail "no rule")
local macro_rules | `(tactic| walk_at "sm") => `(tactic| first
  | assumption
  | exact Same.refl _
  | (refine same_new ?hnn; (case hnn => assumption))
  | (refine same_mut ?hs ?hnn; (case hs => walk_at "sm"); (case hnn => walk_at "fr"))
  | (refine Same.trans (H1 := ?H1) ?hs ?hq; (case hq => assumption); (case hs => walk_at "sm"))
  | fail "no rule")
local macro_rules | `(tactic| walk_at "fr") => `(tactic| first
  | assumption
  | (refine Same.free (H' := ?H1) ?hs ?hq; (case hq => assumption); (case hs => walk_at "sm"))
  | fail "no rule")
local macro_rules | `(tactic| walk_at "src") => `(tactic| first
  | assumption
  | exact Dr.src (by assumption)
  | (refine Src.same (H := ?H0) ?hs ?hm; (case hm => assumption); (case hs => walk_at "src"))
  | (refine Src.upd ?hs ?hn; (case hs => walk_at "src"); (case hn => walk_at "ne"))
  | fail "no rule")
local macro_rules | `(tactic| walk_at "fd") => `(tactic| first
  | assumption
  | (refine Same.free (H' := ?H1) ?hs ?hq; (case hq => assumption); (case hs => walk_at "sm"))
  | (refine Dr.free (H' := ?H1) ?h0 ?hs ?hq; (case hq => assumption); (case hs => walk_at "dr"); (case h0 => walk_at "src"))
  | fail "no rule")
local macro_rules | `(tactic| walk_at "dr") => `(tactic| first
  | assumption
  | (refine Dr.trans (H' := ?H1) ?hs ?hq; (case hq => assumption); (case hs => walk_at "dr"))
  | (refine Dr.mut ?hs ?h0 ?hn; (case hs => walk_at "dr"); (case h0 => walk_at "src"); (case hn => walk_at "fd"))
  | (refine Dr.trans (H' := ?H1) ?hs (Dr.same ?h0 ?hq); (case hq => assumption); (case h0 => walk_at "src"); (case hs => walk_at "dr"))
  | (refine Dr.refl ?hs; (case hs => walk_at "src"))
  | fail "no rule")
local macro_rules | `(tactic| walk_at "sz") => `(tactic| first
  | omega
  | (refine Nat.le_trans ?_ (show (1000 : Nat) ≤ sizeLine by decide); first | decide | omega | (simp; done) | (simp; omega) | fail)
  | fail "no rule")
local macro_rules | `(tactic| walk_at "v1") => `(tactic| first
  | with_reducible refine v_seq ?_
  | with_reducible refine v_asg ?_
  | with_reducible refine v_gname ?_
  | with_reducible refine v_c ?_
  | ((with_reducible refine v_var (v := ?vv) ?hv ?_); (case hv => exact rfl))
  | with_reducible refine v_op ?_
  | with_reducible refine v_un ?_
  | with_reducible refine v_I0 ?_
  | with_reducible refine v_U ?_
  | with_reducible refine v_addI ?_
  | with_reducible refine v_ltI ?_
  | with_reducible refine v_leI ?_
  | with_reducible refine v_gtI ?_
  | with_reducible refine v_geI ?_
  | with_reducible refine v_leS ?_
  | with_reducible refine v_ltS ?_
  | with_reducible refine v_eqI ?_
  | with_reducible refine v_neI ?_
  | with_reducible refine v_eqS ?_
  | with_reducible refine v_neS ?_
  | with_reducible refine v_eqB ?_
  | ((with_reducible refine v_eqTy ?h1 ?h2 ?_); (case h1 => walk_at "bt"); (case h2 => walk_at "bt"))
  | ((with_reducible refine v_neTy ?h1 ?h2 ?_); (case h1 => walk_at "bt"); (case h2 => walk_at "bt"))
  | with_reducible refine v_test ?_
  | with_reducible refine v_B ?_
  | with_reducible refine v_isbl ?_
  | with_reducible refine v_and ?_
  | with_reducible refine v_or ?_
  | with_reducible refine v_not ?_
  | with_reducible refine v_andV ?_
  | with_reducible refine v_orV ?_
  | with_reducible refine v_notV ?_
  | with_reducible refine v_if ?_
  | with_reducible refine v_chain ?_
  | with_reducible refine v_nil ?_
  | with_reducible refine v_cons ?_
  | with_reducible refine v_cb ?_
  | with_reducible refine v_call ?_
  | with_reducible refine v_max ?_
  | ((with_reducible refine v_draw ?hs ?hm ?_); (case hs => walk_at "src"); (case hm => omega))
  | with_reducible refine v_min ?_
  | with_reducible refine v_intI ?_
  | with_reducible refine v_intB ?_
  | with_reducible refine v_m1 ?_
  | with_reducible refine v_isstr ?_
  | with_reducible refine v_sl ?_
  | with_reducible refine v_ss ?_
  | with_reducible refine v_disp1 ?_
  | with_reducible refine v_s0 ?_
  | with_reducible refine v_nopart ?_
  | with_reducible refine v_part ?_
  | with_reducible refine v_partI ?_
  | with_reducible refine v_next ?_
  | with_reducible refine v_gsub ?_
  | with_reducible refine v_ifS ?_
  | with_reducible refine v_ret ?_
  | with_reducible refine v_drop ?_
  | ((with_reducible refine v_iteTrue ?hb ?_); (case hb => walk_at "bt"))
  | ((with_reducible refine v_iteFalse ?hb ?_); (case hb => walk_at "bt"))
  | with_reducible refine v_iteD ?_ ?_
  | with_reducible refine v_iteNot ?_
  | with_reducible refine v_lc ?_
  | with_reducible refine v_iStr ?_
  | with_reducible refine v_isS ?_
  | with_reducible refine v_iRng1 ?_
  | ((with_reducible refine v_rng1 ?hb ?_); (case hb => omega))
  | with_reducible refine v_iList ?_
  | with_reducible refine v_iSeq ?_
  | ((with_reducible refine v_isL (xs := ?xx) ?hsq ?_); (case hsq => walk_at "sq"))
  | with_reducible refine v_for ?_
  | with_reducible refine v_yes ?_
  | ((with_reducible refine v_nand ?hw ?_); (case hw => first | exact rfl | walk_at "sz" | fail))
  | ((with_reducible refine v_typ (T := ?TT) ?ht ?_); (case ht => walk_at "ty"))
  | ((with_reducible refine v_isiK (T := ?TT) ?ht ?h1 ?h2 ?_); (case ht => walk_at "ty"); (case h1 => walk_at "bt"); (case h2 => exact rfl))
  | with_reducible refine iteT ?_
  | with_reducible refine iteF ?_
  | with_reducible refine v_tup ?_
  | with_reducible refine v_lst ?_
  | ((with_reducible refine v_ixL (xs := ?xx) (v := ?vv) ?hsq ?hat ?_); (case hsq => walk_at "sq"); (case hat => exact rfl))
  | ((with_reducible refine v_lenL (xs := ?xx) ?hsq ?_); (case hsq => walk_at "sq"))
  | ((with_reducible refine v_setL (xs := ?xx) (j := ?jj) ?hh ?hj ?_); (case hh => walk_at "hp"); (case hj => exact rfl))
  | ((with_reducible refine v_I ?hc ?_); (case hc => walk_at "ic"))
  | ((with_reducible refine v_lenS ?hz ?_); (case hz => walk_at "sz"))
  | ((with_reducible refine v_slS ?hz ?_); (case hz => walk_at "sz"))
  | ((with_reducible refine v_addS ?hz ?_); (case hz => walk_at "sz"))
  | ((with_reducible refine v_ixS (c := ?cc) ?hz ?hat ?_); (case hz => walk_at "sz"); (case hat => exact rfl))
  | ((with_reducible refine v_addL (xs := ?xx) (ys := ?yy) ?h1 ?h2 ?hz ?_); (case h1 => walk_at "hp"); (case h2 => walk_at "hp"); (case hz => walk_at "sz"))
  | ((with_reducible refine v_ixT (xs := ?xx) (v := ?vv) ?hsq ?hat ?_); (case hsq => walk_at "sq"); (case hat => exact rfl))
  | ((with_reducible refine v_lenT (xs := ?xx) ?hsq ?_); (case hsq => walk_at "sq"))
  | ((with_reducible refine v_eq ?hs ?_); (case hs => exact rfl))
  | ((with_reducible refine v_ne ?hs ?_); (case hs => exact rfl))
  | (with_reducible intro _)
  | fail "no rule")
local macro_rules | `(tactic| walk_at "ic") => `(tactic| first
  | (show (0 : Int) < _; first | decide | omega | fail)
  | (show CMul _ _; unfold CMul; omega)
  | (show CDiv _ _; unfold CDiv; omega)
  | (show CPow _ _; unfold CPow; exact ⟨by decide, by decide, by decide⟩)
  | fail "no rule")
local macro_rules | `(tactic| walk_at "bt") => `(tactic| first
  | exact rfl
  | assumption
  | decide +kernel
  | (simp; done)
  | fail "no rule")
local macro_rules | `(tactic| walk_at "ty") => `(tactic| first
  | assumption
  | exact .non
  | exact .bl _
  | exact .int _
  | exact .str _
  | exact .lst (by walk_at "sq")
  | exact .tup (by walk_at "sq")
  | exact .dK (by walk_at "hp")
  | fail "no rule")
local macro_rules | `(tactic| walk_at "v") => `(tactic| try (walk_at "v1" <;> walk_at "v"))
local macro_rules | `(tactic| walk_at "start") => `(tactic| dsimp only [L2.start, cxOf, Cx.nox, Cx.wish, List.map, List.replicate, List.length, List.append, Nat.reduceSub, Nat.reduceAdd, List.cons_append, List.nil_append])

variable {P : Program} {w : World} {K : PySem.W.Frag} {mg : Str → Option Value} {base : Heap}
variable {aF : Addr} {es : Array DictEntry} {nF : Nat}
/-! ### the law's reading of an instruction -/
def f1 : List (Str × Str) := [("new", "rn"), ("array", "rnr"), ("null", "r"), ("move", "rr"), ("get", "rrnnk"), ("put", "rnnkr"), ("cast", "rrn")]
def f2 : List (Str × Str) := [("call", "rrnnKkR"), ("ask", "rrnnKkR"), ("load", "rrr"), ("store", "rrr"), ("jump", "t"), ("ifnull", "rt")]
def f3 : List (Str × Str) := [("ifis", "rnt"), ("choose", "t"), ("tell", "r"), ("return", "r")]
def forms2 : List (Str × Str) := f1 ++ f2 ++ f3
def kvS (l : List (Str × Str)) : List (Key × V) := l.map fun kv => (Sum.inr kv.1, V.str kv.2)
theorem merged : mergeK (mergeK (mergeK [] (kvS f1)) (kvS f2)) (kvS f3) = kvS forms2 := by decide +kernel
theorem val_kvS {z : Str} : ∀ {l : List (Str × Str)}, valV (kvS l) (Sum.inr z : Key) = (l.lookup z).map V.str
  | [] => rfl
  | (k, v) :: l => by
    have ih := val_kvS (z := z) (l := l)
    unfold valV kvS at *
    rw [List.map_cons, List.find?_cons, List.lookup_cons]
    by_cases h : z = k
    · subst h; simp
    · have h1 : (z == k) = false := by simpa using h
      have h2 : decide ((Sum.inr k : Key) = Sum.inr z) = false := decide_eq_false fun e => h (Sum.inr.inj e).symm
      rw [h1]
      simp only [h2]
      exact ih
def sg (c : Nat) : Str := ⟨#[c]⟩
def fitS : List Nat → List Dat → Bool
  | c :: cs, d :: ds => lfD (sg c) d && fitS cs ds
  | _, _ => true
def lawD : Dat → Bool
  | .tup (.str w :: rest) => match forms2.lookup w with
    | none => false
    | some form => decide (rest.length = form.length) && fitS form.cps.toList rest && (!(["call", "ask"] : List Str).contains w || decide (lenD (rest.getD 4 .non) = lenD (rest.getD 6 .non)))
  | _ => false
theorem k_r (d : Dat) : fitsD "r" d 10 40 = lfD (sg 114) d := rfl
theorem k_t (d : Dat) : fitsD "t" d 10 40 = lfD (sg 116) d := rfl
theorem k_i (d : Dat) : fitsD "i" d 10 40 = lfD (sg 114) d := rfl
theorem k_C (d : Dat) : fitsD "C" d 10 40 = lfD (sg 110) d := rfl
theorem k_f (d : Dat) : fitsD "f" d 10 40 = lfD (sg 110) d := rfl
theorem k_T (d : Dat) : fitsD "T" d 10 40 = lfD (sg 107) d := rfl
theorem k_types (d : Dat) : fitsD "types" d 10 40 = lfD (sg 75) d := by
  cases d <;> rfl
theorem call_same {rest : List Dat} : (decide (rest.length = 7) && fitAll 10 40 ["r", "r", "C", "f", "types", "T", "args"] rest && decide (lenD (rest.getD 4 .non) = lenD (rest.getD 6 .non))) = (decide (rest.length = 7) && fitS [114, 114, 110, 110, 75, 107, 82] rest && decide (lenD (rest.getD 4 .non) = lenD (rest.getD 6 .non))) := by
  by_cases h7 : rest.length = 7
  · match rest, h7 with
    | [d1, d2, d3, d4, d5, d6, d7], _ =>
      show (_ && (fitsD "r" d1 10 40 && (fitsD "r" d2 10 40 && (fitsD "C" d3 10 40 && (fitsD "f" d4 10 40 && (fitsD "types" d5 10 40 && (fitsD "T" d6 10 40 && (fitsD "args" d7 10 40 && true))))))) && decide (lenD d5 = lenD d7))
        = (_ && (lfD (sg 114) d1 && (lfD (sg 114) d2 && (lfD (sg 110) d3 && (lfD (sg 110) d4 && (lfD (sg 75) d5 && (lfD (sg 107) d6 && (lfD (sg 82) d7 && true))))))) && decide (lenD d5 = lenD d7))
      rw [k_r, k_r, k_C, k_f, k_types, k_T]
      cases h5 : lfD (sg 75) d5 with
      | false => simp
      | true =>
        by_cases hl : lenD d5 = lenD d7
        · have e : fitsD "args" d7 10 40 = lfD (sg 82) d7 := by
            cases d7 with
            | tup l =>
              have h4 : (l.length : Int) ≤ 4 := by
                cases d5 with
                | tup m =>
                  have h5' : (decide ((m.length : Int) ≤ 4) && m.all (lf1 "k")) = true := h5
                  rw [Bool.and_eq_true, decide_eq_true_iff] at h5'
                  have hl' : m.length = l.length := hl
                  omega
                | _ =>
                  have h5' : false = true := h5
                  cases h5'
              show l.all (numD 0 9) = (decide ((l.length : Int) ≤ 4) && l.all (lf1 "r"))
              rw [decide_eq_true h4, Bool.true_and]
              rfl
            | _ => rfl
          rw [e]
        · rw [decide_eq_false hl]; simp
  · rw [decide_eq_false h7]; simp
theorem plain_same (n : Nat) (ks : List Str) (cs : List Nat) (rest : List Dat) (h : ∀ l : List Dat, l.length = n → fitAll 10 40 ks l = fitS cs l) :
    (decide (rest.length = n) && fitAll 10 40 ks rest && (!false || decide (lenD (rest.getD 4 .non) = lenD (rest.getD 6 .non)))) = (decide (rest.length = n) && fitS cs rest && (!false || decide (lenD (rest.getD 4 .non) = lenD (rest.getD 6 .non)))) := by
  by_cases h7 : rest.length = n
  · rw [h rest h7]
  · rw [decide_eq_false h7]; simp
theorem instr_law (d : Dat) : instrD 10 40 d = lawD d := by
  cases d with
  | tup l =>
    cases l with
    | nil => rfl
    | cons d0 rest =>
      cases d0 with
      | str w =>
        show (match formsL.lookup w with | none => false | some form => _) = (match forms2.lookup w with | none => false | some form => _)
        by_cases h0 : w = "new"
        · subst h0
          exact plain_same 2 _ _ rest (fun l hl => match l, hl with
            | [d1, d2], _ => rfl)
        by_cases h1 : w = "array"
        · subst h1
          exact plain_same 3 _ _ rest (fun l hl => match l, hl with
            | [d1, d2, d3], _ => rfl)
        by_cases h2 : w = "null"
        · subst h2
          exact plain_same 1 _ _ rest (fun l hl => match l, hl with
            | [d1], _ => rfl)
        by_cases h3 : w = "move"
        · subst h3
          exact plain_same 2 _ _ rest (fun l hl => match l, hl with
            | [d1, d2], _ => rfl)
        by_cases h4 : w = "get"
        · subst h4
          exact plain_same 5 _ _ rest (fun l hl => match l, hl with
            | [d1, d2, d3, d4, d5], _ => rfl)
        by_cases h5 : w = "put"
        · subst h5
          exact plain_same 5 _ _ rest (fun l hl => match l, hl with
            | [d1, d2, d3, d4, d5], _ => rfl)
        by_cases h6 : w = "cast"
        · subst h6
          exact plain_same 3 _ _ rest (fun l hl => match l, hl with
            | [d1, d2, d3], _ => rfl)
        by_cases h7 : w = "call"
        · subst h7
          exact call_same
        by_cases h8 : w = "ask"
        · subst h8
          exact call_same
        by_cases h9 : w = "load"
        · subst h9
          exact plain_same 3 _ _ rest (fun l hl => match l, hl with
            | [d1, d2, d3], _ => rfl)
        by_cases h10 : w = "store"
        · subst h10
          exact plain_same 3 _ _ rest (fun l hl => match l, hl with
            | [d1, d2, d3], _ => rfl)
        by_cases h11 : w = "jump"
        · subst h11
          exact plain_same 1 _ _ rest (fun l hl => match l, hl with
            | [d1], _ => rfl)
        by_cases h12 : w = "ifnull"
        · subst h12
          exact plain_same 2 _ _ rest (fun l hl => match l, hl with
            | [d1, d2], _ => rfl)
        by_cases h13 : w = "ifis"
        · subst h13
          exact plain_same 3 _ _ rest (fun l hl => match l, hl with
            | [d1, d2, d3], _ => rfl)
        by_cases h14 : w = "choose"
        · subst h14
          exact plain_same 1 _ _ rest (fun l hl => match l, hl with
            | [d1], _ => rfl)
        by_cases h15 : w = "tell"
        · subst h15
          exact plain_same 1 _ _ rest (fun l hl => match l, hl with
            | [d1], _ => rfl)
        by_cases h16 : w = "return"
        · subst h16
          exact plain_same 1 _ _ rest (fun l hl => match l, hl with
            | [d1], _ => rfl)
        have e1 : formsL.lookup w = none := by
          simp [formsL, List.lookup, beq_eq_false_iff_ne.mpr h0, beq_eq_false_iff_ne.mpr h1, beq_eq_false_iff_ne.mpr h2, beq_eq_false_iff_ne.mpr h3, beq_eq_false_iff_ne.mpr h4, beq_eq_false_iff_ne.mpr h5, beq_eq_false_iff_ne.mpr h6, beq_eq_false_iff_ne.mpr h7, beq_eq_false_iff_ne.mpr h8, beq_eq_false_iff_ne.mpr h9, beq_eq_false_iff_ne.mpr h10, beq_eq_false_iff_ne.mpr h11, beq_eq_false_iff_ne.mpr h12, beq_eq_false_iff_ne.mpr h13, beq_eq_false_iff_ne.mpr h14, beq_eq_false_iff_ne.mpr h15, beq_eq_false_iff_ne.mpr h16]
        have e2 : forms2.lookup w = none := by
          simp [forms2, f1, f2, f3, List.lookup, beq_eq_false_iff_ne.mpr h0, beq_eq_false_iff_ne.mpr h1, beq_eq_false_iff_ne.mpr h2, beq_eq_false_iff_ne.mpr h3, beq_eq_false_iff_ne.mpr h4, beq_eq_false_iff_ne.mpr h5, beq_eq_false_iff_ne.mpr h6, beq_eq_false_iff_ne.mpr h7, beq_eq_false_iff_ne.mpr h8, beq_eq_false_iff_ne.mpr h9, beq_eq_false_iff_ne.mpr h10, beq_eq_false_iff_ne.mpr h11, beq_eq_false_iff_ne.mpr h12, beq_eq_false_iff_ne.mpr h13, beq_eq_false_iff_ne.mpr h14, beq_eq_false_iff_ne.mpr h15, beq_eq_false_iff_ne.mpr h16]
        rw [e1, e2]
      | _ => rfl
  | _ => rfl
end K02

namespace K02
open PySem PySem.Spec PyProof.Rows L2 Kit
local macro_rules | `(tactic| walk_at "ne") => `(tactic| first
  | assumption
  | (apply Ne.symm; assumption)
  | exact ne_of_none (by assumption) (by assumption)
  | exact (ne_of_none (by assumption) (by assumption)).symm
  | (refine ne_of_none (H := ?H0) (o := ?oo) ?hs ?hn; (case hn => assumption); (case hs => walk_at "hp"))
  | (refine (ne_of_none (H := ?H0) (o := ?oo) ?hs ?hn).symm; (case hn => assumption); (case hs => walk_at "hp"))
  | (refine Src.ne (H := ?H0) ?hs ?hn; (case hn => assumption); (case hs => walk_at "src"))
  | (refine (Src.ne (H := ?H0) ?hs ?hn).symm; (case hn => assumption); (case hs => walk_at "src"))
  | fail "no rule")
local macro_rules | `(tactic| walk_at "hp") => `(tactic| first
  | assumption
  | exact upd_same
  | (refine (upd_ne ?hne).trans ?hrest; (case hne => walk_at "ne"); (case hrest => walk_at "hp"))
  | (refine same_at (H := ?H0) ?hs ?hrest; (case hs => assumption); (case hrest => walk_at "hp"))
  | (refine dr_at (H := ?H0) (a := ?a0) ?hs ?hne ?hrest; (case hs => assumption); (case hne => walk_at "ne"); (case hrest => walk_at "hp"))
  | fail "no rule")
local macro_rules | `(tactic| walk_at "sq") => `(tactic| first
  | assumption
  | exact Or.inl (Or.inl (by walk_at "hp"))
  | (refine sq_upd ?hnn ?hss; (case hnn => assumption); (case hss => walk_at "sq"))
  | (refine Same.seq (H := ?H0) ?hs ?hrest; (case hs => assumption); (case hrest => walk_at "sq"))
  | (refine sq_dr (H := ?H0) (a := ?a0) ?hs ?hne ?hrest; (case hs => assumption); (case hne => walk_at "ne"); (case hrest => walk_at "sq"))
  | fail "no rule")
local macro_rules | `(tactic| walk_at "sm") => `(tactic| first
  | assumption
  | exact Same.refl _
  | (refine same_new ?hnn; (case hnn => assumption))
  | (refine same_mut ?hs ?hnn; (case hs => walk_at "sm"); (case hnn => walk_at "fr"))
  | (refine Same.trans (H1 := ?H1) ?hs ?hq; (case hq => assumption); (case hs => walk_at "sm"))
  | fail "no rule")
local macro_rules | `(tactic| walk_at "fr") => `(tactic| first
  | assumption
  | (refine Same.free (H' := ?H1) ?hs ?hq; (case hq => assumption); (case hs => walk_at "sm"))
  | fail "no rule")
local macro_rules | `(tactic| walk_at "src") => `(tactic| first
  | assumption
  | exact Dr.src (by assumption)
  | (refine Src.same (H := ?H0) ?hs ?hm; (case hm => assumption); (case hs => walk_at "src"))
  | (refine Src.upd ?hs ?hn; (case hs => walk_at "src"); (case hn => walk_at "ne"))
  | fail "no rule")
local macro_rules | `(tactic| walk_at "fd") => `(tactic| first
  | assumption
  | (refine Same.free (H' := ?H1) ?hs ?hq; (case hq => assumption); (case hs => walk_at "sm"))
  | (refine Dr.free (H' := ?H1) ?h0 ?hs ?hq; (case hq => assumption); (case hs => walk_at "dr"); (case h0 => walk_at "src"))
  | fail "no rule")
local macro_rules | `(tactic| walk_at "dr") => `(tactic| first
  | assumption
  | (refine Dr.trans (H' := ?H1) ?hs ?hq; (case hq => assumption); (case hs => walk_at "dr"))
  | (refine Dr.mut ?hs ?h0 ?hn; (case hs => walk_at "dr"); (case h0 => walk_at "src"); (case hn => walk_at "fd"))
  | (refine Dr.trans (H' := ?H1) ?hs (Dr.same ?h0 ?hq); (case hq => assumption); (case h0 => walk_at "src"); (case hs => walk_at "dr"))
  | (refine Dr.refl ?hs; (case hs => walk_at "src"))
  | fail "no rule")
local macro_rules | `(tactic| walk_at "sz") => `(tactic| first
  | omega
  | (refine Nat.le_trans ?_ (show (1000 : Nat) ≤ sizeLine by decide); first | decide | omega | (simp; done) | (simp; omega) | fail)
  | fail "no rule")
local macro_rules | `(tactic| walk_at "v1") => `(tactic| first
  | with_reducible refine v_seq ?_
  | with_reducible refine v_asg ?_
  | with_reducible refine v_gname ?_
  | with_reducible refine v_c ?_
  | ((with_reducible refine v_var (v := ?vv) ?hv ?_); (case hv => exact rfl))
  | with_reducible refine v_op ?_
  | with_reducible refine v_un ?_
  | with_reducible refine v_I0 ?_
  | with_reducible refine v_U ?_
  | with_reducible refine v_addI ?_
  | with_reducible refine v_ltI ?_
  | with_reducible refine v_leI ?_
  | with_reducible refine v_gtI ?_
  | with_reducible refine v_geI ?_
  | with_reducible refine v_leS ?_
  | with_reducible refine v_ltS ?_
  | with_reducible refine v_eqI ?_
  | with_reducible refine v_neI ?_
  | with_reducible refine v_eqS ?_
  | with_reducible refine v_neS ?_
  | with_reducible refine v_eqB ?_
  | ((with_reducible refine v_eqTy ?h1 ?h2 ?_); (case h1 => walk_at "bt"); (case h2 => walk_at "bt"))
  | ((with_reducible refine v_neTy ?h1 ?h2 ?_); (case h1 => walk_at "bt"); (case h2 => walk_at "bt"))
  | with_reducible refine v_test ?_
  | with_reducible refine v_B ?_
  | with_reducible refine v_isbl ?_
  | with_reducible refine v_and ?_
  | with_reducible refine v_or ?_
  | with_reducible refine v_not ?_
  | with_reducible refine v_andV ?_
  | with_reducible refine v_orV ?_
  | with_reducible refine v_notV ?_
  | with_reducible refine v_if ?_
  | with_reducible refine v_chain ?_
  | with_reducible refine v_nil ?_
  | with_reducible refine v_cons ?_
  | with_reducible refine v_cb ?_
  | with_reducible refine v_call ?_
  | with_reducible refine v_max ?_
  | ((with_reducible refine v_draw ?hs ?hm ?_); (case hs => walk_at "src"); (case hm => omega))
  | with_reducible refine v_min ?_
  | with_reducible refine v_intI ?_
  | with_reducible refine v_intB ?_
  | with_reducible refine v_m1 ?_
  | with_reducible refine v_isstr ?_
  | with_reducible refine v_sl ?_
  | with_reducible refine v_ss ?_
  | with_reducible refine v_disp1 ?_
  | with_reducible refine v_s0 ?_
  | with_reducible refine v_nopart ?_
  | with_reducible refine v_part ?_
  | with_reducible refine v_partI ?_
  | with_reducible refine v_next ?_
  | with_reducible refine v_gsub ?_
  | with_reducible refine v_ifS ?_
  | with_reducible refine v_ret ?_
  | with_reducible refine v_drop ?_
  | ((with_reducible refine v_iteTrue ?hb ?_); (case hb => walk_at "bt"))
  | ((with_reducible refine v_iteFalse ?hb ?_); (case hb => walk_at "bt"))
  | with_reducible refine v_iteD ?_ ?_
  | with_reducible refine v_iteNot ?_
  | with_reducible refine v_lc ?_
  | with_reducible refine v_iStr ?_
  | with_reducible refine v_isS ?_
  | with_reducible refine v_iRng1 ?_
  | ((with_reducible refine v_rng1 ?hb ?_); (case hb => omega))
  | with_reducible refine v_iList ?_
  | with_reducible refine v_iSeq ?_
  | ((with_reducible refine v_isL (xs := ?xx) ?hsq ?_); (case hsq => walk_at "sq"))
  | with_reducible refine v_for ?_
  | with_reducible refine v_yes ?_
  | ((with_reducible refine v_nand ?hw ?_); (case hw => first | exact rfl | walk_at "sz" | fail))
  | ((with_reducible refine v_typ (T := ?TT) ?ht ?_); (case ht => walk_at "ty"))
  | ((with_reducible refine v_isiK (T := ?TT) ?ht ?h1 ?h2 ?_); (case ht => walk_at "ty"); (case h1 => walk_at "bt"); (case h2 => exact rfl))
  | with_reducible refine iteT ?_
  | with_reducible refine iteF ?_
  | with_reducible refine v_tup ?_
  | with_reducible refine v_lst ?_
  | ((with_reducible refine v_ixL (xs := ?xx) (v := ?vv) ?hsq ?hat ?_); (case hsq => walk_at "sq"); (case hat => exact rfl))
  | ((with_reducible refine v_lenL (xs := ?xx) ?hsq ?_); (case hsq => walk_at "sq"))
  | ((with_reducible refine v_setL (xs := ?xx) (j := ?jj) ?hh ?hj ?_); (case hh => walk_at "hp"); (case hj => exact rfl))
  | ((with_reducible refine v_I ?hc ?_); (case hc => walk_at "ic"))
  | ((with_reducible refine v_lenS ?hz ?_); (case hz => walk_at "sz"))
  | ((with_reducible refine v_slS ?hz ?_); (case hz => walk_at "sz"))
  | ((with_reducible refine v_addS ?hz ?_); (case hz => walk_at "sz"))
  | ((with_reducible refine v_ixS (c := ?cc) ?hz ?hat ?_); (case hz => walk_at "sz"); (case hat => exact rfl))
  | ((with_reducible refine v_addL (xs := ?xx) (ys := ?yy) ?h1 ?h2 ?hz ?_); (case h1 => walk_at "hp"); (case h2 => walk_at "hp"); (case hz => walk_at "sz"))
  | ((with_reducible refine v_ixT (xs := ?xx) (v := ?vv) ?hsq ?hat ?_); (case hsq => walk_at "sq"); (case hat => exact rfl))
  | ((with_reducible refine v_lenT (xs := ?xx) ?hsq ?_); (case hsq => walk_at "sq"))
  | ((with_reducible refine v_eq ?hs ?_); (case hs => exact rfl))
  | ((with_reducible refine v_ne ?hs ?_); (case hs => exact rfl))
  | (with_reducible intro _)
  | fail "no rule")
local macro_rules | `(tactic| walk_at "ic") => `(tactic| first
  | (show (0 : Int) < _; first | decide | omega | fail)
  | (show CMul _ _; unfold CMul; omega)
  | (show CDiv _ _; unfold CDiv; omega)
  | (show CPow _ _; unfold CPow; exact ⟨by decide, by decide, by decide⟩)
  | fail "no rule")
local macro_rules | `(tactic| walk_at "bt") => `(tactic| first
  | exact rfl
  | assumption
  | decide +kernel
  | (simp; done)
  | fail "no rule")
local macro_rules | `(tactic| walk_at "ty") => `(tactic| first
  | assumption
  | exact .non
  | exact .bl _
  | exact .int _
  | exact .str _
  | exact .lst (by walk_at "sq")
  | exact .tup (by walk_at "sq")
  | exact .dK (by walk_at "hp")
  | fail "no rule")
local macro_rules | `(tactic| walk_at "v") => `(tactic| try (walk_at "v1" <;> walk_at "v"))
local macro_rules | `(tactic| walk_at "start") => `(tactic| dsimp only [L2.start, cxOf, Cx.nox, Cx.wish, List.map, List.replicate, List.length, List.append, Nat.reduceSub, Nat.reduceAdd, List.cons_append, List.nil_append])

variable {P : Program} {w : World} {K : PySem.W.Frag} {mg : Str → Option Value} {base : Heap}
variable {aF : Addr} {es : Array DictEntry} {nF : Nat}
theorem v_tNin {σ : L2.St} {H : Hp} {Q : VK} {ty td : TE} (k : ty σ H fun y H1 => td σ H1 fun x H2 => ∃ a o, x = .ref a ∧ DGet H2 a y o ∧ Q (.bl (!o.isSome)) H2) : tDNotIn ty td σ H Q := k
theorem v_tGet {σ : L2.St} {H : Hp} {Q : VK} {ty td : TE} (k : td σ H fun x H1 => ty σ H1 fun y H2 => ∃ a v, x = .ref a ∧ DGet H2 a y (some v) ∧ Q v H2) : tDGet td ty σ H Q := k
theorem v_iZipS {σ : L2.St} {H : Hp} {ta : TA} {R : It → Hp → Prop} (k : ta σ H fun vs H1 => ∃ (z : Str) (b : Addr) (ys : List V), vs = [.str z, .ref b] ∧ SqT K H1 b ys ∧ R (ItzS K z b ys) H1) : iZipU K ta σ H R := k
theorem sg_at {z : Str} {i c : Nat} (h : z.cps[i]? = some c) : (sgns z)[i]? = some (.str (sg c)) := by
  unfold sgns
  rw [List.getElem?_map, Array.getElem?_toList, h]
  rfl
theorem hy_zipS {z : Str} {ys : List V} {n : Nat} : ∀ (i : Nat) (H : Hp) (v : V) (H' : Hp), i < n → (∃ (T : Addr) (c : Nat) (y : V), v = .ref T ∧ H T = none ∧ H' = upd H T (.tup [.str ⟨#[c]⟩, y]) ∧ z.cps[i]? = some c ∧ ys[i]? = some y) → ∃ (T : Addr) (x y : V), v = .ref T ∧ H T = none ∧ H' = upd H T (.tup [x, y]) ∧ (sgns z)[i]? = some x ∧ ys[i]? = some y := by
  rintro i H v H' _ ⟨T, c, y, rfl, h1, rfl, h2, h3⟩
  exact ⟨T, _, y, rfl, h1, rfl, sg_at h2, h3⟩
theorem bad_allS {z : Str} {l : List Dat} (h : l.length = z.length) : ((List.range z.length).filterMap fun i => if lfD (sg (z.cps.toList.getD i 0)) (l.getD i .non) = true then none else (sgns z)[i]?).isEmpty = fitS z.cps.toList l := by
  unfold sgns
  have hz : z.length = z.cps.toList.length := by rw [Array.length_toList]; rfl
  rw [hz] at h ⊢
  generalize z.cps.toList = cs at *
  clear hz
  induction cs generalizing l with
  | nil => cases l <;> first | rfl | simp at h
  | cons c cs ih =>
    cases l with
    | nil => simp at h
    | cons d l =>
      have ih2 := ih (l := l) (by simpa using h)
      show _ = (lfD (sg c) d && fitS cs l)
      rw [← ih2, List.length_cons, List.range_succ_eq_map, List.filterMap_cons, List.filterMap_map]
      have e0 : (List.getD (c :: cs) 0 0) = c := rfl
      have e1 : (List.getD (d :: l) 0 Dat.non) = d := rfl
      rw [e0, e1]
      cases hb : lfD (sg c) d with
      | true => rw [if_pos rfl, Bool.true_and]; rfl
      | false => rw [if_neg (by decide)]; rfl
theorem ne_nil (ds : List PyData) : (!PyData.eqv (.list ds) (.list [])) = !ds.isEmpty := by rw [eqv_nil]
theorem v_neNil {H : Hp} {Q : VK} {a b : Addr} {vs : List V} (h : SqL K H a vs) (h2 : SqL K H b []) (hf : ∀ v ∈ vs, ∃ d, Rep K H d v ∧ okD d ∧ flatD d = true) (k : Q (.bl (!vs.isEmpty)) H) : rNeU K (.ref a) (.ref b) H Q := by
  obtain ⟨ds, h3, h4, h5, h6⟩ := flats_dp hf
  refine v_neD (d := .list ds) (e := .list []) (.lst h h3) (.lst h2 .nil) ?_ (by decide +kernel) ?_
  · unfold SeqAt.shaped
    rw [Bool.and_eq_true, decide_eq_true_iff]
    refine ⟨h5, ?_⟩
    show PyData.depthAll ds + 1 ≤ 64
    rw [h6]; decide
  · rw [ne_nil]
    have : ds.isEmpty = vs.isEmpty := by
      cases ds <;> cases vs <;> first | rfl | simp at h4
    rw [this]
    exact k
theorem forms2_ok {z form : Str} (h : forms2.lookup z = some form) : form.length ≤ 7 ∧ (∀ c ∈ form.cps.toList, sg c ∈ (["r", "t", "n", "k", "K", "R"] : List Str)) ∧ ((["call", "ask"] : List Str).contains z = true → form = "rrnnKkR") := by
  obtain ⟨k, hk⟩ := lookup_mem' h
  have all : ∀ p ∈ forms2, p.2.length ≤ 7 ∧ (∀ c ∈ p.2.cps.toList, sg c ∈ (["r", "t", "n", "k", "K", "R"] : List Str)) := by decide +kernel
  refine ⟨(all _ hk).1, (all _ hk).2, fun hc => ?_⟩
  have hz : z = "call" ∨ z = "ask" := by simpa using hc
  rcases hz with rfl | rfl
  · exact (Option.some.inj h).symm
  · exact (Option.some.inj h).symm
theorem lf_tup {s : Str} {d : Dat} (hs : s = "K" ∨ s = "R") (h : lfD s d = true) : ∃ l, d = .tup l := by
  cases d with
  | tup l => exact ⟨l, rfl⟩
  | _ =>
    have h2 : false = true := by
      rcases hs with rfl | rfl
      · exact h
      · exact h
    cases h2
theorem fitS7 : ∀ {l : List Dat}, l.length = ("rrnnKkR" : Str).length → fitS ("rrnnKkR" : Str).cps.toList l = true → ∃ a b, l[4]? = some (.tup a) ∧ l[6]? = some (.tup b)
  | l, hl, h => by
    have e : ("rrnnKkR" : Str).cps.toList = [114, 114, 110, 110, 75, 107, 82] := by decide +kernel
    have e7 : ("rrnnKkR" : Str).length = 7 := by decide +kernel
    rw [e] at h
    rw [e7] at hl
    match l, hl with
    | [_, _, _, _, d5, _, d7], _ =>
      simp only [fitS, Bool.and_eq_true] at h
      obtain ⟨a, rfl⟩ := lf_tup (.inl rfl) h.2.2.2.2.1
      obtain ⟨b, rfl⟩ := lf_tup (.inr rfl) h.2.2.2.2.2.2.1
      exact ⟨a, b, rfl, rfl⟩
theorem lawD_no {z : Str} {rest : List Dat} (h : forms2.lookup z = none) : lawD (.tup (.str z :: rest)) = false := by
  show (match forms2.lookup z with | none => false | some form => _) = _
  rw [h]
theorem lawD_yes {z form : Str} {rest : List Dat} (h : forms2.lookup z = some form) : lawD (.tup (.str z :: rest)) = (decide (rest.length = form.length) && fitS form.cps.toList rest && (!(["call", "ask"] : List Str).contains z || decide (lenD (rest.getD 4 .non) = lenD (rest.getD 6 .non)))) := by
  show (match forms2.lookup z with | none => false | some form => _) = _
  rw [h]
/-! ### _law_is_instruction -/
theorem tPairs_S {σ : L2.St} {Q : List (V × V) → Hp → Prop} : ∀ (l : List (Str × Str)) (H : Hp) (Q : List (V × V) → Hp → Prop), Q (l.map fun kv => (V.str kv.1, V.str kv.2)) H → tPairs (l.map fun kv => (tC (.str kv.1), tC (.str kv.2))) σ H Q
  | [], H, Q, h => h
  | (k, v) :: l, H, Q, h => tPairs_S (Q := Q) l H (fun ps H3 => Q ((.str k, .str v) :: ps) H3) h
theorem v_dispS {σ : L2.St} {H : Hp} {Q : VK} {l : List (Str × Str)} (hl : l.length ≤ 15) (hm : mergeK [] (kvS l) = kvS l) (q : ∀ p, H p = none → Q (.ref p) (upd H p (.dK (kvS l)))) : tDisp (l.map fun kv => (tC (.str kv.1), tC (.str kv.2))) σ H Q := by
  intro p hp
  refine tPairs_S (Q := fun _ _ => True) l _ _ ?_
  refine ⟨upd_same, kvS l, ?_, by unfold kvS; rw [List.length_map]; exact hl, ?_⟩
  · unfold kvS
    rw [List.map_map]
    rfl
  · rw [upd_upd]
    rw [hm]
    exact q p hp
theorem v_tBM {σ : L2.St} {H : Hp} {Q : VK} {T : String} {r : V → List V → Hp → VK → Prop} {to : TE} {t : TA} (k : to σ H fun x H1 => tyV K T x H1 ∧ t σ H1 fun xs H2 => r x xs H2 Q) : tBM K T r to t σ H Q := k
theorem v_tyD {H : Hp} {a : Addr} {kvs : List (Key × V)} {R : Prop} (e : H a = some (.dK kvs)) (k : R) : tyV K "dict" (.ref a) H ∧ R := ⟨.inr (.inr (.inl ⟨rfl, .inl ⟨_, e⟩⟩)), k⟩
def shapeD (d : Dat) : Prop := ∀ l, d = .tup l → ∀ e ∈ l, ∀ m, e = .tup m → ∀ g ∈ m, flatD g = true
def spLawI (K : PySem.W.Frag) : Sp := fun vs H Q _ => ∃ (x : V) (d : Dat), vs = [x] ∧ Rep K H d x ∧ okD d ∧ shapeD d ∧ ∀ H', Same H H' → Q (.bl (lawD d)) H'
end K02

open PySem PySem.Spec PyProof.Rows L2 Kit
namespace Kit
/-! ### the heap without the source -/
def off (a : Addr) (H : Hp) : Hp := fun b => if b = a then none else H b
section
variable {a p : Addr} {H H' : Hp} {K : PySem.W.Frag}
theorem off_ne {b : Addr} (n : b ≠ a) : off a H b = H b := if_neg n
theorem off_at {b : Addr} {o : HO} (h : off a H b = some o) : b ≠ a ∧ H b = some o := by
  unfold off at h
  split at h
  · cases h
  · exact ⟨by assumption, h⟩
theorem off_same : Same (off a H) H := fun b o e => (off_at e).2
theorem Dr.off (d : Dr a H H') : Same (off a H) (off a H') := fun b o e => by
  have := off_at e
  rw [off_ne this.1]
  exact d.keep _ _ this.2 this.1
theorem same_off (s : Same H H') : Same (off a H) (off a H') := fun b o e => by
  have := off_at e
  rw [off_ne this.1]
  exact s _ _ this.2
theorem off_new {o : HO} (n : p ≠ a) : off a (upd H p o) p = some o := by rw [off_ne n]; exact upd_same
theorem Rep.on {d : Dat} {x : V} (h : Rep K (off a H) d x) : Rep K H d x := h.same off_same
theorem Rep.dr {d : Dat} {x : V} (h : Rep K (off a H) d x) (s : Dr a H H') : Rep K (off a H') d x := h.same s.off
theorem rep_tup {l : List Dat} {xs : List V} (n : p ≠ a) (h : H p = some (.tup xs)) (r : RepL K (off a H) l xs) : Rep K (off a H) (.tup l) (.ref p) := ⟨p, xs, rfl, .inl (.inl (by rw [off_ne n]; exact h)), r⟩
theorem rep_lst {l : List Dat} {xs : List V} (n : p ≠ a) (h : H p = some (.lst xs)) (r : RepL K (off a H) l xs) : Rep K (off a H) (.lst l) (.ref p) := ⟨p, xs, rfl, .inl (.inl (by rw [off_ne n]; exact h)), r⟩
end
end Kit
namespace K02
local macro_rules | `(tactic| walk_at "ne") => `(tactic| first
  | assumption
  | (apply Ne.symm; assumption)
  | exact ne_of_none (by assumption) (by assumption)
  | exact (ne_of_none (by assumption) (by assumption)).symm
  | (refine ne_of_none (H := ?H0) (o := ?oo) ?hs ?hn; (case hn => assumption); (case hs => walk_at "hp"))
  | (refine (ne_of_none (H := ?H0) (o := ?oo) ?hs ?hn).symm; (case hn => assumption); (case hs => walk_at "hp"))
  | (refine Src.ne (H := ?H0) ?hs ?hn; (case hn => assumption); (case hs => walk_at "src"))
  | (refine (Src.ne (H := ?H0) ?hs ?hn).symm; (case hn => assumption); (case hs => walk_at "src"))
  | fail "no rule")
local macro_rules | `(tactic| walk_at "hp") => `(tactic| first
  | assumption
  | exact upd_same
  | (refine (upd_ne ?hne).trans ?hrest; (case hne => walk_at "ne"); (case hrest => walk_at "hp"))
  | (refine same_at (H := ?H0) ?hs ?hrest; (case hs => assumption); (case hrest => walk_at "hp"))
  | (refine dr_at (H := ?H0) (a := ?a0) ?hs ?hne ?hrest; (case hs => assumption); (case hne => walk_at "ne"); (case hrest => walk_at "hp"))
  | fail "no rule")
local macro_rules | `(tactic| walk_at "sq") => `(tactic| first
  | assumption
  | exact Or.inl (Or.inl (by walk_at "hp"))
  | (refine sq_upd ?hnn ?hss; (case hnn => assumption); (case hss => walk_at "sq"))
  | (refine Same.seq (H := ?H0) ?hs ?hrest; (case hs => assumption); (case hrest => walk_at "sq"))
  | (refine sq_dr (H := ?H0) (a := ?a0) ?hs ?hne ?hrest; (case hs => assumption); (case hne => walk_at "ne"); (case hrest => walk_at "sq"))
  | fail "no rule")
local macro_rules | `(tactic| walk_at "sm") => `(tactic| first
  | assumption
  | exact Same.refl _
  | (refine same_new ?hnn; (case hnn => assumption))
  | (refine same_mut ?hs ?hnn; (case hs => walk_at "sm"); (case hnn => walk_at "fr"))
  | (refine Same.trans (H1 := ?H1) ?hs ?hq; (case hq => assumption); (case hs => walk_at "sm"))
  | fail "no rule")
local macro_rules | `(tactic| walk_at "fr") => `(tactic| first
  | assumption
  | (refine Same.free (H' := ?H1) ?hs ?hq; (case hq => assumption); (case hs => walk_at "sm"))
  | fail "no rule")
local macro_rules | `(tactic| walk_at "src") => `(tactic| first
  | assumption
  | exact Dr.src (by assumption)
  | (refine Src.same (H := ?H0) ?hs ?hm; (case hm => assumption); (case hs => walk_at "src"))
  | (refine Src.upd ?hs ?hn; (case hs => walk_at "src"); (case hn => walk_at "ne"))
  | fail "no rule")
local macro_rules | `(tactic| walk_at "fd") => `(tactic| first
  | assumption
  | (refine Same.free (H' := ?H1) ?hs ?hq; (case hq => assumption); (case hs => walk_at "sm"))
  | (refine Dr.free (H' := ?H1) ?h0 ?hs ?hq; (case hq => assumption); (case hs => walk_at "dr"); (case h0 => walk_at "src"))
  | fail "no rule")
local macro_rules | `(tactic| walk_at "dr") => `(tactic| first
  | assumption
  | (refine Dr.trans (H' := ?H1) ?hs ?hq; (case hq => assumption); (case hs => walk_at "dr"))
  | (refine Dr.mut ?hs ?h0 ?hn; (case hs => walk_at "dr"); (case h0 => walk_at "src"); (case hn => walk_at "fd"))
  | (refine Dr.trans (H' := ?H1) ?hs (Dr.same ?h0 ?hq); (case hq => assumption); (case h0 => walk_at "src"); (case hs => walk_at "dr"))
  | (refine Dr.refl ?hs; (case hs => walk_at "src"))
  | fail "no rule")
local macro_rules | `(tactic| walk_at "sz") => `(tactic| first
  | omega
  | (refine Nat.le_trans ?_ (show (1000 : Nat) ≤ sizeLine by decide); first | decide | omega | (simp; done) | (simp; omega) | fail)
  | fail "no rule")
local macro_rules | `(tactic| walk_at "v1") => `(tactic| first
  | with_reducible refine v_seq ?_
  | with_reducible refine v_asg ?_
  | with_reducible refine v_gname ?_
  | with_reducible refine v_c ?_
  | ((with_reducible refine v_var (v := ?vv) ?hv ?_); (case hv => exact rfl))
  | with_reducible refine v_op ?_
  | with_reducible refine v_un ?_
  | with_reducible refine v_I0 ?_
  | with_reducible refine v_U ?_
  | with_reducible refine v_addI ?_
  | with_reducible refine v_ltI ?_
  | with_reducible refine v_leI ?_
  | with_reducible refine v_gtI ?_
  | with_reducible refine v_geI ?_
  | with_reducible refine v_leS ?_
  | with_reducible refine v_ltS ?_
  | with_reducible refine v_eqI ?_
  | with_reducible refine v_neI ?_
  | with_reducible refine v_eqS ?_
  | with_reducible refine v_neS ?_
  | with_reducible refine v_eqB ?_
  | ((with_reducible refine v_eqTy ?h1 ?h2 ?_); (case h1 => walk_at "bt"); (case h2 => walk_at "bt"))
  | ((with_reducible refine v_neTy ?h1 ?h2 ?_); (case h1 => walk_at "bt"); (case h2 => walk_at "bt"))
  | with_reducible refine v_test ?_
  | with_reducible refine v_B ?_
  | with_reducible refine v_isbl ?_
  | with_reducible refine v_and ?_
  | with_reducible refine v_or ?_
  | with_reducible refine v_not ?_
  | with_reducible refine v_andV ?_
  | with_reducible refine v_orV ?_
  | with_reducible refine v_notV ?_
  | with_reducible refine v_if ?_
  | with_reducible refine v_chain ?_
  | with_reducible refine v_nil ?_
  | with_reducible refine v_cons ?_
  | with_reducible refine v_cb ?_
  | with_reducible refine v_call ?_
  | with_reducible refine v_max ?_
  | ((with_reducible refine v_draw ?hs ?hm ?_); (case hs => walk_at "src"); (case hm => omega))
  | with_reducible refine v_min ?_
  | with_reducible refine v_intI ?_
  | with_reducible refine v_intB ?_
  | with_reducible refine v_m1 ?_
  | with_reducible refine v_isstr ?_
  | with_reducible refine v_sl ?_
  | with_reducible refine v_ss ?_
  | with_reducible refine v_disp1 ?_
  | with_reducible refine v_s0 ?_
  | with_reducible refine v_nopart ?_
  | with_reducible refine v_part ?_
  | with_reducible refine v_partI ?_
  | with_reducible refine v_next ?_
  | with_reducible refine v_gsub ?_
  | with_reducible refine v_ifS ?_
  | with_reducible refine v_ret ?_
  | with_reducible refine v_drop ?_
  | ((with_reducible refine v_iteTrue ?hb ?_); (case hb => walk_at "bt"))
  | ((with_reducible refine v_iteFalse ?hb ?_); (case hb => walk_at "bt"))
  | with_reducible refine v_iteD ?_ ?_
  | with_reducible refine v_iteNot ?_
  | with_reducible refine v_lc ?_
  | with_reducible refine v_iStr ?_
  | with_reducible refine v_isS ?_
  | with_reducible refine v_iRng1 ?_
  | ((with_reducible refine v_rng1 ?hb ?_); (case hb => omega))
  | with_reducible refine v_iList ?_
  | with_reducible refine v_iSeq ?_
  | ((with_reducible refine v_isL (xs := ?xx) ?hsq ?_); (case hsq => walk_at "sq"))
  | with_reducible refine v_for ?_
  | with_reducible refine v_yes ?_
  | ((with_reducible refine v_nand ?hw ?_); (case hw => first | exact rfl | walk_at "sz" | fail))
  | ((with_reducible refine v_typ (T := ?TT) ?ht ?_); (case ht => walk_at "ty"))
  | ((with_reducible refine v_isiK (T := ?TT) ?ht ?h1 ?h2 ?_); (case ht => walk_at "ty"); (case h1 => walk_at "bt"); (case h2 => exact rfl))
  | with_reducible refine iteT ?_
  | with_reducible refine iteF ?_
  | with_reducible refine v_tup ?_
  | with_reducible refine v_lst ?_
  | ((with_reducible refine v_ixL (xs := ?xx) (v := ?vv) ?hsq ?hat ?_); (case hsq => walk_at "sq"); (case hat => exact rfl))
  | ((with_reducible refine v_lenL (xs := ?xx) ?hsq ?_); (case hsq => walk_at "sq"))
  | ((with_reducible refine v_setL (xs := ?xx) (j := ?jj) ?hh ?hj ?_); (case hh => walk_at "hp"); (case hj => exact rfl))
  | ((with_reducible refine v_I ?hc ?_); (case hc => walk_at "ic"))
  | ((with_reducible refine v_lenS ?hz ?_); (case hz => walk_at "sz"))
  | ((with_reducible refine v_slS ?hz ?_); (case hz => walk_at "sz"))
  | ((with_reducible refine v_addS ?hz ?_); (case hz => walk_at "sz"))
  | ((with_reducible refine v_ixS (c := ?cc) ?hz ?hat ?_); (case hz => walk_at "sz"); (case hat => exact rfl))
  | ((with_reducible refine v_addL (xs := ?xx) (ys := ?yy) ?h1 ?h2 ?hz ?_); (case h1 => walk_at "hp"); (case h2 => walk_at "hp"); (case hz => walk_at "sz"))
  | ((with_reducible refine v_ixT (xs := ?xx) (v := ?vv) ?hsq ?hat ?_); (case hsq => walk_at "sq"); (case hat => exact rfl))
  | ((with_reducible refine v_lenT (xs := ?xx) ?hsq ?_); (case hsq => walk_at "sq"))
  | ((with_reducible refine v_eq ?hs ?_); (case hs => exact rfl))
  | ((with_reducible refine v_ne ?hs ?_); (case hs => exact rfl))
  | (with_reducible intro _)
  | fail "no rule")
local macro_rules | `(tactic| walk_at "ic") => `(tactic| first
  | (show (0 : Int) < _; first | decide | omega | fail)
  | (show CMul _ _; unfold CMul; omega)
  | (show CDiv _ _; unfold CDiv; omega)
  | (show CPow _ _; unfold CPow; exact ⟨by decide, by decide, by decide⟩)
  | fail "no rule")
local macro_rules | `(tactic| walk_at "bt") => `(tactic| first
  | exact rfl
  | assumption
  | decide +kernel
  | (simp; done)
  | fail "no rule")
local macro_rules | `(tactic| walk_at "ty") => `(tactic| first
  | assumption
  | exact .non
  | exact .bl _
  | exact .int _
  | exact .str _
  | exact .lst (by walk_at "sq")
  | exact .tup (by walk_at "sq")
  | exact .dK (by walk_at "hp")
  | fail "no rule")
local macro_rules | `(tactic| walk_at "v") => `(tactic| try (walk_at "v1" <;> walk_at "v"))
local macro_rules | `(tactic| walk_at "start") => `(tactic| dsimp only [L2.start, cxOf, Cx.nox, Cx.wish, List.map, List.replicate, List.length, List.append, Nat.reduceSub, Nat.reduceAdd, List.cons_append, List.nil_append])

variable {P : Program} {w : World} {K : PySem.W.Frag} {mg : Str → Option Value} {base : Heap}
variable {aF : Addr} {es : Array DictEntry} {nF : Nat}
/-! ### picks -/
def spPick (K : PySem.W.Frag) : Sp := fun vs H Q _ => ∃ (a b : Addr) (xs : List V), vs = [.ref a, .ref b] ∧ Src a H ∧ b ≠ a ∧ SqL K H b xs ∧ 0 < xs.length ∧ xs.length ≤ 1000 ∧ ∀ y H', y ∈ xs → Dr a H H' → Q y H'
theorem ok_pick {f : Addr} {fd : FuncData} (F : Fun K "_law_pick" "_law_pick" s_law_pick f fd) (T : Txt K w mg aF es nF) (C_law_draw : Cal P w K mg base 1 "_law_draw" ["_law_source_here", "_law_amount"] spDraw) : FnOk P w K mg base CX0 2 f fd ["_law_source_here", "_law_items"] (spPick K) := by
  refine F.ok sc_law_pick (fun vs H Q E h => ?_) (fun cdv A outer s H vs Q E hr h => ?_)
  · obtain ⟨a, b, xs, rfl, _⟩ := h
    rfl
  · obtain ⟨a, b, xs, rfl, hs, hn, hq, h0, h1, q⟩ := h
    refine ⟨_, (pss_one (ps_ret (pe_ix (kIx (K := K) rfl) (pv 1) (pcall C_law_draw hr (by omega) (by rfl) (pa_cons (pv 0) (pa_cons (pe_callB (kLen (K := K) rfl) (by rfl) T.b_len (by decide +kernel) (pa_cons (pv 1) pa_nil)) pa_nil))) (fun _ _ => rfl)))), ?_⟩
    walk_at "start"
    walk_at "v"
    rename_i d H1 hd0 hd1 dr
    obtain ⟨v, hv, hm⟩ := at_list hd0 hd1
    refine v_ixL (sq_dr dr hn hq) hv ?_
    exact q v H1 hm dr
/-! ### types -/
def typs : List Str := ["a", "b", "c", "top", "a[]", "b[]", "c[]", "top[]"]
def spTyp (K : PySem.W.Frag) : Sp := fun vs H Q _ => ∃ a : Addr, vs = [.ref a] ∧ Src a H ∧ ∀ z H', z ∈ typs → Dr a H H' → Q (.str z) H'
theorem typs_app {x y : Str} (hx : x ∈ (["a", "b", "c", "top"] : List Str)) (hy : y ∈ (["", "", "", "[]"] : List Str)) : x ++ y ∈ typs := by
  have all : ∀ x ∈ (["a", "b", "c", "top"] : List Str), ∀ y ∈ (["", "", "", "[]"] : List Str), x ++ y ∈ typs := by decide +kernel
  exact all x hx y hy
theorem mem_strs {y : V} {l : List Str} (h : y ∈ l.map V.str) : ∃ z ∈ l, y = .str z := by
  obtain ⟨z, hz, rfl⟩ := List.mem_map.mp h
  exact ⟨z, hz, rfl⟩
theorem ok_type {f : Addr} {fd : FuncData} (F : Fun K "_law_type" "_law_type" s_law_type f fd) (T : Txt K w mg aF es nF) (C_law_pick : Cal P w K mg base 2 "_law_pick" ["_law_source_here", "_law_items"] (spPick K)) : FnOk P w K mg base CX0 3 f fd ["_law_source_here"] (spTyp K) := by
  refine F.ok sc_law_type (fun vs H Q E h => ?_) (fun cdv A outer s H vs Q E hr h => ?_)
  · obtain ⟨a, rfl, _⟩ := h
    rfl
  · obtain ⟨a, rfl, hs, q⟩ := h
    refine ⟨_, (pss_one (ps_ret (pe_op (kAdd (K := K) rfl) (pcall C_law_pick hr (by omega) (by rfl) (pa_cons (pv 0) (pa_cons (pe_lst (pa_cons pe_str (pa_cons pe_str (pa_cons pe_str (pa_cons pe_str pa_nil))))) pa_nil))) (pcall C_law_pick hr (by omega) (by rfl) (pa_cons (pv 0) (pa_cons (pe_lst (pa_cons pe_str (pa_cons pe_str (pa_cons pe_str (pa_cons pe_str pa_nil))))) pa_nil)))))), ?_⟩
    walk_at "start"
    walk_at "v"
    rename_i p hp
    refine ⟨a, p, (["a", "b", "c", "top"] : List Str).map V.str, rfl, hs.upd (hs.ne hp), (hs.ne hp).symm, sq_lst upd_same, by decide, by decide, fun y H1 hy dr => ?_⟩
    obtain ⟨x, hx, rfl⟩ := mem_strs hy
    have d1 : Dr a H H1 := (Dr.new hs hp).trans dr
    walk_at "v"
    rename_i p2 hp2
    refine ⟨a, p2, (["", "", "", "[]"] : List Str).map V.str, rfl, d1.src.upd (d1.src.ne hp2), (d1.src.ne hp2).symm, sq_lst upd_same, by decide, by decide, fun y2 H2 hy2 dr2 => ?_⟩
    obtain ⟨x2, hx2, rfl⟩ := mem_strs hy2
    have d2 : Dr a H H2 := d1.trans ((Dr.new d1.src hp2).trans dr2)
    have hm := typs_app hx hx2
    have hz : x.length + x2.length ≤ 1000 := by
      have all : ∀ z ∈ (["a", "b", "c", "top"] : List Str), z.length ≤ 10 := by decide +kernel
      have all2 : ∀ z ∈ (["", "", "", "[]"] : List Str), z.length ≤ 10 := by decide +kernel
      have h1 := all _ hx
      have h2 := all2 _ hx2
      omega
    have hz2 : x2.length ≤ 1000 := by omega
    have hz1 : x.length ≤ 1000 := by omega
    walk_at "v"
    exact q _ _ hm d2
end K02

open PySem PySem.Spec PyProof.Rows L2 Kit
namespace Kit
/-! ### tuple(..), list(..), sums of tuples -/
def rTup1 (K : PySem.W.Frag) : List V → Hp → VK → Prop := fun xs H Q => ∃ p ys, xs = [.ref p] ∧ ((SqL K H p ys ∧ ∀ l, H l = none → Q (.ref l) (upd H l (.tup ys))) ∨ (SqT K H p ys ∧ Q (.ref p) H))
def rLst1 (K : PySem.W.Frag) : List V → Hp → VK → Prop := fun xs H Q => ∃ p ys, xs = [.ref p] ∧ (SqL K H p ys ∨ SqT K H p ys) ∧ ∀ l, H l = none → Q (.ref l) (upd H l (.lst ys))
section
variable {X : Cx} {K : PySem.W.Frag} {H H' : Hp} {Q : VK} {p a b c : Addr} {xs ys : List V}
theorem kTup1 (hK : X.K = K) : CallR X (.type "tuple") (rTup1 K) := by subst hK; exact call_tuple_of
theorem kLst1 (hK : X.K = K) : CallR X (.type "list") (rLst1 K) := by subst hK; exact call_list_of
theorem v_tup1L (h : SqL K H p ys) (k : ∀ l, H l = none → Q (.ref l) (upd H l (.tup ys))) : rTup1 K [.ref p] H Q := ⟨p, ys, rfl, .inl ⟨h, k⟩⟩
theorem v_tup1T (h : SqT K H p ys) (k : Q (.ref p) H) : rTup1 K [.ref p] H Q := ⟨p, ys, rfl, .inr ⟨h, k⟩⟩
theorem v_lst1T (h : SqT K H p ys) (k : ∀ l, H l = none → Q (.ref l) (upd H l (.lst ys))) : rLst1 K [.ref p] H Q := ⟨p, ys, rfl, .inr h, k⟩
theorem v_lst1L (h : SqL K H p ys) (k : ∀ l, H l = none → Q (.ref l) (upd H l (.lst ys))) : rLst1 K [.ref p] H Q := ⟨p, ys, rfl, .inl h, k⟩
/-- off the source -/
theorem sqT_off (n : b ≠ a) (h : H b = some (.tup xs)) : SqT K (off a H) b xs := .inl (.inl (by rw [off_ne n]; exact h))
theorem sqT_on (h : SqT K (off a H) b xs) : SqT K H b xs := sqT_same off_same h
theorem v_addTO (hs : Src a H) (h : SqT K (off a H) b xs) (h' : SqT K (off a H) c ys) (z : xs.length + ys.length ≤ sizeLine) (k : ∀ p H', Dr a H H' → SqT K (off a H') p (xs ++ ys) → Q (.ref p) H') : rAddU K (.ref b) (.ref c) H Q := by
  refine v_addT (sqT_on h) (sqT_on h') z (fun e => ?_) (fun _ e => ?_) (fun _ _ p hp => ?_)
  · subst e; exact k c H (.refl hs) h'
  · subst e; exact k b H (.refl hs) (by simpa using h)
  · exact k p _ (Dr.new hs hp) (sqT_off (hs.ne hp).symm upd_same)
theorem v_slTO {lo hi : Option Int} (hs : Src a H) (h : SqT K (off a H) b xs) (k : ∀ p H', Dr a H H' → SqT K (off a H') p (cutV xs lo hi) → Q (.ref p) H') : rSlU K (.ref b) lo hi H Q := by
  refine .inr (.inr ⟨b, xs, rfl, sqT_on h, fun e => k b H (.refl hs) ?_, fun _ p hp => k p _ (Dr.new hs hp) (sqT_off (hs.ne hp).symm upd_same)⟩)
  unfold cutV
  rw [e.1, e.2]
  simpa using h
end
end Kit
namespace K02
local macro_rules | `(tactic| walk_at "ne") => `(tactic| first
  | assumption
  | (apply Ne.symm; assumption)
  | exact ne_of_none (by assumption) (by assumption)
  | exact (ne_of_none (by assumption) (by assumption)).symm
  | (refine ne_of_none (H := ?H0) (o := ?oo) ?hs ?hn; (case hn => assumption); (case hs => walk_at "hp"))
  | (refine (ne_of_none (H := ?H0) (o := ?oo) ?hs ?hn).symm; (case hn => assumption); (case hs => walk_at "hp"))
  | (refine Src.ne (H := ?H0) ?hs ?hn; (case hn => assumption); (case hs => walk_at "src"))
  | (refine (Src.ne (H := ?H0) ?hs ?hn).symm; (case hn => assumption); (case hs => walk_at "src"))
  | fail "no rule")
local macro_rules | `(tactic| walk_at "hp") => `(tactic| first
  | assumption
  | exact upd_same
  | (refine (upd_ne ?hne).trans ?hrest; (case hne => walk_at "ne"); (case hrest => walk_at "hp"))
  | (refine same_at (H := ?H0) ?hs ?hrest; (case hs => assumption); (case hrest => walk_at "hp"))
  | (refine dr_at (H := ?H0) (a := ?a0) ?hs ?hne ?hrest; (case hs => assumption); (case hne => walk_at "ne"); (case hrest => walk_at "hp"))
  | fail "no rule")
local macro_rules | `(tactic| walk_at "sq") => `(tactic| first
  | assumption
  | exact Or.inl (Or.inl (by walk_at "hp"))
  | (refine sq_upd ?hnn ?hss; (case hnn => assumption); (case hss => walk_at "sq"))
  | (refine Same.seq (H := ?H0) ?hs ?hrest; (case hs => assumption); (case hrest => walk_at "sq"))
  | (refine sq_dr (H := ?H0) (a := ?a0) ?hs ?hne ?hrest; (case hs => assumption); (case hne => walk_at "ne"); (case hrest => walk_at "sq"))
  | fail "no rule")
local macro_rules | `(tactic| walk_at "sm") => `(tactic| first
  | assumption
  | exact Same.refl _
  | (refine same_new ?hnn; (case hnn => assumption))
  | (refine same_mut ?hs ?hnn; (case hs => walk_at "sm"); (case hnn => walk_at "fr"))
  | (refine Same.trans (H1 := ?H1) ?hs ?hq; (case hq => assumption); (case hs => walk_at "sm"))
  | fail "no rule")
local macro_rules | `(tactic| walk_at "fr") => `(tactic| first
  | assumption
  | (refine Same.free (H' := ?H1) ?hs ?hq; (case hq => assumption); (case hs => walk_at "sm"))
  | fail "no rule")
local macro_rules | `(tactic| walk_at "src") => `(tactic| first
  | assumption
  | exact Dr.src (by assumption)
  | (refine Src.same (H := ?H0) ?hs ?hm; (case hm => assumption); (case hs => walk_at "src"))
  | (refine Src.upd ?hs ?hn; (case hs => walk_at "src"); (case hn => walk_at "ne"))
  | fail "no rule")
local macro_rules | `(tactic| walk_at "fd") => `(tactic| first
  | assumption
  | (refine Same.free (H' := ?H1) ?hs ?hq; (case hq => assumption); (case hs => walk_at "sm"))
  | (refine Dr.free (H' := ?H1) ?h0 ?hs ?hq; (case hq => assumption); (case hs => walk_at "dr"); (case h0 => walk_at "src"))
  | fail "no rule")
local macro_rules | `(tactic| walk_at "dr") => `(tactic| first
  | assumption
  | (refine Dr.trans (H' := ?H1) ?hs ?hq; (case hq => assumption); (case hs => walk_at "dr"))
  | (refine Dr.mut ?hs ?h0 ?hn; (case hs => walk_at "dr"); (case h0 => walk_at "src"); (case hn => walk_at "fd"))
  | (refine Dr.trans (H' := ?H1) ?hs (Dr.same ?h0 ?hq); (case hq => assumption); (case h0 => walk_at "src"); (case hs => walk_at "dr"))
  | (refine Dr.refl ?hs; (case hs => walk_at "src"))
  | fail "no rule")
local macro_rules | `(tactic| walk_at "sz") => `(tactic| first
  | omega
  | (refine Nat.le_trans ?_ (show (1000 : Nat) ≤ sizeLine by decide); first | decide | omega | (simp; done) | (simp; omega) | fail)
  | fail "no rule")
local macro_rules | `(tactic| walk_at "v1") => `(tactic| first
  | with_reducible refine v_seq ?_
  | with_reducible refine v_asg ?_
  | with_reducible refine v_gname ?_
  | with_reducible refine v_c ?_
  | ((with_reducible refine v_var (v := ?vv) ?hv ?_); (case hv => exact rfl))
  | with_reducible refine v_op ?_
  | with_reducible refine v_un ?_
  | with_reducible refine v_I0 ?_
  | with_reducible refine v_U ?_
  | with_reducible refine v_addI ?_
  | with_reducible refine v_ltI ?_
  | with_reducible refine v_leI ?_
  | with_reducible refine v_gtI ?_
  | with_reducible refine v_geI ?_
  | with_reducible refine v_leS ?_
  | with_reducible refine v_ltS ?_
  | with_reducible refine v_eqI ?_
  | with_reducible refine v_neI ?_
  | with_reducible refine v_eqS ?_
  | with_reducible refine v_neS ?_
  | with_reducible refine v_eqB ?_
  | ((with_reducible refine v_eqTy ?h1 ?h2 ?_); (case h1 => walk_at "bt"); (case h2 => walk_at "bt"))
  | ((with_reducible refine v_neTy ?h1 ?h2 ?_); (case h1 => walk_at "bt"); (case h2 => walk_at "bt"))
  | with_reducible refine v_test ?_
  | with_reducible refine v_B ?_
  | with_reducible refine v_isbl ?_
  | with_reducible refine v_and ?_
  | with_reducible refine v_or ?_
  | with_reducible refine v_not ?_
  | with_reducible refine v_andV ?_
  | with_reducible refine v_orV ?_
  | with_reducible refine v_notV ?_
  | with_reducible refine v_if ?_
  | with_reducible refine v_chain ?_
  | with_reducible refine v_nil ?_
  | with_reducible refine v_cons ?_
  | with_reducible refine v_cb ?_
  | with_reducible refine v_call ?_
  | with_reducible refine v_max ?_
  | ((with_reducible refine v_draw ?hs ?hm ?_); (case hs => walk_at "src"); (case hm => omega))
  | with_reducible refine v_min ?_
  | with_reducible refine v_intI ?_
  | with_reducible refine v_intB ?_
  | with_reducible refine v_m1 ?_
  | with_reducible refine v_isstr ?_
  | with_reducible refine v_sl ?_
  | with_reducible refine v_ss ?_
  | with_reducible refine v_disp1 ?_
  | with_reducible refine v_s0 ?_
  | with_reducible refine v_nopart ?_
  | with_reducible refine v_part ?_
  | with_reducible refine v_partI ?_
  | with_reducible refine v_next ?_
  | with_reducible refine v_gsub ?_
  | with_reducible refine v_ifS ?_
  | with_reducible refine v_ret ?_
  | with_reducible refine v_drop ?_
  | ((with_reducible refine v_iteTrue ?hb ?_); (case hb => walk_at "bt"))
  | ((with_reducible refine v_iteFalse ?hb ?_); (case hb => walk_at "bt"))
  | with_reducible refine v_iteD ?_ ?_
  | with_reducible refine v_iteNot ?_
  | with_reducible refine v_lc ?_
  | with_reducible refine v_iStr ?_
  | with_reducible refine v_isS ?_
  | with_reducible refine v_iRng1 ?_
  | ((with_reducible refine v_rng1 ?hb ?_); (case hb => omega))
  | with_reducible refine v_iList ?_
  | with_reducible refine v_iSeq ?_
  | ((with_reducible refine v_isL (xs := ?xx) ?hsq ?_); (case hsq => walk_at "sq"))
  | with_reducible refine v_for ?_
  | with_reducible refine v_yes ?_
  | ((with_reducible refine v_nand ?hw ?_); (case hw => first | exact rfl | walk_at "sz" | fail))
  | ((with_reducible refine v_typ (T := ?TT) ?ht ?_); (case ht => walk_at "ty"))
  | ((with_reducible refine v_isiK (T := ?TT) ?ht ?h1 ?h2 ?_); (case ht => walk_at "ty"); (case h1 => walk_at "bt"); (case h2 => exact rfl))
  | with_reducible refine iteT ?_
  | with_reducible refine iteF ?_
  | with_reducible refine v_tup ?_
  | with_reducible refine v_lst ?_
  | ((with_reducible refine v_ixL (xs := ?xx) (v := ?vv) ?hsq ?hat ?_); (case hsq => walk_at "sq"); (case hat => exact rfl))
  | ((with_reducible refine v_lenL (xs := ?xx) ?hsq ?_); (case hsq => walk_at "sq"))
  | ((with_reducible refine v_setL (xs := ?xx) (j := ?jj) ?hh ?hj ?_); (case hh => walk_at "hp"); (case hj => exact rfl))
  | ((with_reducible refine v_I ?hc ?_); (case hc => walk_at "ic"))
  | ((with_reducible refine v_lenS ?hz ?_); (case hz => walk_at "sz"))
  | ((with_reducible refine v_slS ?hz ?_); (case hz => walk_at "sz"))
  | ((with_reducible refine v_addS ?hz ?_); (case hz => walk_at "sz"))
  | ((with_reducible refine v_ixS (c := ?cc) ?hz ?hat ?_); (case hz => walk_at "sz"); (case hat => exact rfl))
  | ((with_reducible refine v_addL (xs := ?xx) (ys := ?yy) ?h1 ?h2 ?hz ?_); (case h1 => walk_at "hp"); (case h2 => walk_at "hp"); (case hz => walk_at "sz"))
  | ((with_reducible refine v_ixT (xs := ?xx) (v := ?vv) ?hsq ?hat ?_); (case hsq => walk_at "sq"); (case hat => exact rfl))
  | ((with_reducible refine v_lenT (xs := ?xx) ?hsq ?_); (case hsq => walk_at "sq"))
  | ((with_reducible refine v_eq ?hs ?_); (case hs => exact rfl))
  | ((with_reducible refine v_ne ?hs ?_); (case hs => exact rfl))
  | (with_reducible intro _)
  | fail "no rule")
local macro_rules | `(tactic| walk_at "ic") => `(tactic| first
  | (show (0 : Int) < _; first | decide | omega | fail)
  | (show CMul _ _; unfold CMul; omega)
  | (show CDiv _ _; unfold CDiv; omega)
  | (show CPow _ _; unfold CPow; exact ⟨by decide, by decide, by decide⟩)
  | fail "no rule")
local macro_rules | `(tactic| walk_at "bt") => `(tactic| first
  | exact rfl
  | assumption
  | decide +kernel
  | (simp; done)
  | fail "no rule")
local macro_rules | `(tactic| walk_at "ty") => `(tactic| first
  | assumption
  | exact .non
  | exact .bl _
  | exact .int _
  | exact .str _
  | exact .lst (by walk_at "sq")
  | exact .tup (by walk_at "sq")
  | exact .dK (by walk_at "hp")
  | fail "no rule")
local macro_rules | `(tactic| walk_at "v") => `(tactic| try (walk_at "v1" <;> walk_at "v"))
local macro_rules | `(tactic| walk_at "start") => `(tactic| dsimp only [L2.start, cxOf, Cx.nox, Cx.wish, List.map, List.replicate, List.length, List.append, Nat.reduceSub, Nat.reduceAdd, List.cons_append, List.nil_append])

variable {P : Program} {w : World} {K : PySem.W.Frag} {mg : Str → Option Value} {base : Heap}
variable {aF : Addr} {es : Array DictEntry} {nF : Nat}
/-! ### the end of a call -/
structure callOk (size : Int) (n : Str) (ks : List Str) (t : Str) (as : List Int) : Prop where
  n_ok : n ∈ (["f", "g"] : List Str)
  ks_ok : ∀ k ∈ ks, k ∈ typs
  t_ok : t ∈ typs
  as_ok : ∀ i ∈ as, 0 ≤ i ∧ i < size
  len : ks.length = as.length
  many : ks.length ≤ 2
def callD (n : Str) (ks : List Str) (t : Str) (as : List Int) : List Dat := [.str n, .tup (ks.map .str), .str t, .tup (as.map .int)]
def spCall (K : PySem.W.Frag) : Sp := fun vs H Q _ => ∃ (a : Addr) (size : Int), vs = [.ref a, .int size] ∧ Src a H ∧ 0 < size ∧ size ≤ 1000000 ∧ ∀ p xs n ks t as H', SqT K (off a H') p xs → RepL K (off a H') (callD n ks t as) xs → callOk size n ks t as → Dr a H H' → Q (.ref p) H'
theorem strs_of {E : Str → Prop} : ∀ {ys : List V}, (∀ y ∈ ys, ∃ z, y = .str z ∧ E z) → ∃ l : List Str, ys = l.map V.str ∧ ∀ z ∈ l, E z
  | [], _ => ⟨[], rfl, fun _ h => by cases h⟩
  | y :: ys, h => by
    obtain ⟨l, e, hl⟩ := strs_of (ys := ys) fun z hz => h z (List.mem_cons_of_mem _ hz)
    obtain ⟨z, e2, hz⟩ := h y List.mem_cons_self
    refine ⟨z :: l, by rw [e, e2]; rfl, fun w hw => ?_⟩
    rcases List.mem_cons.mp hw with rfl | hw
    · exact hz
    · exact hl w hw
theorem ints_of {E : Int → Prop} : ∀ {ys : List V}, (∀ y ∈ ys, ∃ z, y = .int z ∧ E z) → ∃ l : List Int, ys = l.map V.int ∧ ∀ z ∈ l, E z
  | [], _ => ⟨[], rfl, fun _ h => by cases h⟩
  | y :: ys, h => by
    obtain ⟨l, e, hl⟩ := ints_of (ys := ys) fun z hz => h z (List.mem_cons_of_mem _ hz)
    obtain ⟨z, e2, hz⟩ := h y List.mem_cons_self
    refine ⟨z :: l, by rw [e, e2]; rfl, fun w hw => ?_⟩
    rcases List.mem_cons.mp hw with rfl | hw
    · exact hz
    · exact hl w hw
theorem repL_strs {H : Hp} : ∀ l : List Str, RepL K H (l.map .str) (l.map V.str)
  | [] => rfl
  | z :: l => ⟨_, _, rfl, rfl, repL_strs l⟩
theorem repL_ints {H : Hp} : ∀ l : List Int, RepL K H (l.map .int) (l.map V.int)
  | [] => rfl
  | z :: l => ⟨_, _, rfl, rfl, repL_ints l⟩
theorem ok_call {f : Addr} {fd : FuncData} (F : Fun K "_law_call" "_law_call" s_law_call f fd) (T : Txt K w mg aF es nF) (C_law_draw : Cal P w K mg base 1 "_law_draw" ["_law_source_here", "_law_amount"] spDraw) (C_law_pick : Cal P w K mg base 2 "_law_pick" ["_law_source_here", "_law_items"] (spPick K)) (C_law_type : Cal P w K mg base 3 "_law_type" ["_law_source_here"] (spTyp K)) : FnOk P w K mg base CX0 4 f fd ["_law_source_here", "_law_size"] (spCall K) := by
  refine F.ok sc_law_call (fun vs H Q E h => ?_) (fun cdv A outer s H vs Q E hr h => ?_)
  · obtain ⟨a, size, rfl, _⟩ := h
    rfl
  · obtain ⟨a, size, rfl, hs, hz0, hz1, q⟩ := h
    refine ⟨_, (pss_cons (ps_set (i := 2) sc_law_call.nd rfl (by first | exact .inl rfl | exact .inr rfl) (pcall C_law_draw hr (by omega) (by rfl) (pa_cons (pv 0) (pa_cons pe_int pa_nil))))
      (pss_cons (ps_set (i := 3) sc_law_call.nd rfl (by first | exact .inl rfl | exact .inr rfl) (pe_callTy (kTup1 (K := K) rfl) (by rfl) T.b_tuple (by decide +kernel) (pa_cons (pe_lc (own := [("_law_part", 5)]) (by rfl) sc_law_call.nd (pi_range1 (by rfl) T.b_range (pa_cons (pv 2) pa_nil)) (blkOk_by (N := ["_law_source_here", "_law_size", "_law_many", "_law_kinds", "_law_args", "_law_part"]) (sc := defScope s_law_call) (by decide +kernel)) (fun _ _ _ _ _ => (pg_name (i := 5) sc_law_call.nd rfl (by first | exact .inl rfl | exact .inr rfl))) (fun _ _ _ _ _ => pts_nil) (fun _ _ _ _ _ => (pcall C_law_type hr (by omega) (by rfl) (pa_cons (pv 0) pa_nil)))) pa_nil)))
      (pss_cons (ps_set (i := 4) sc_law_call.nd rfl (by first | exact .inl rfl | exact .inr rfl) (pe_callTy (kTup1 (K := K) rfl) (by rfl) T.b_tuple (by decide +kernel) (pa_cons (pe_lc (own := [("_law_part", 5)]) (by rfl) sc_law_call.nd (pi_range1 (by rfl) T.b_range (pa_cons (pv 2) pa_nil)) (blkOk_by (N := ["_law_source_here", "_law_size", "_law_many", "_law_kinds", "_law_args", "_law_part"]) (sc := defScope s_law_call) (by decide +kernel)) (fun _ _ _ _ _ => (pg_name (i := 5) sc_law_call.nd rfl (by first | exact .inl rfl | exact .inr rfl))) (fun _ _ _ _ _ => pts_nil) (fun _ _ _ _ _ => (pcall C_law_draw hr (by omega) (by rfl) (pa_cons (pv 0) (pa_cons (pv 1) pa_nil))))) pa_nil)))
      (pss_one (ps_ret (pe_tup (pa_cons (pcall C_law_pick hr (by omega) (by rfl) (pa_cons (pv 0) (pa_cons (pe_lst (pa_cons pe_str (pa_cons pe_str pa_nil))) pa_nil))) (pa_cons (pv 3) (pa_cons (pcall C_law_type hr (by omega) (by rfl) (pa_cons (pv 0) pa_nil)) (pa_cons (pv 4) pa_nil)))))))))), ?_⟩
    walk_at "start"
    walk_at "v"
    rename_i m H1 hm0 hm1 d1
    refine lc_dr d1.src (walk_upto (lo := 0) (n := m.toNat)) hy_at (fun _ _ => trivial) (fun y => ∃ z : Str, y = .str z ∧ z ∈ typs) (by rw [upto_len]; exact small1000 (by omega)) (fun x H2 R Rn hx d2 hR => ?_) (fun D H2 ys hD d2 e hlen hE => ?_)
    · walk_at "v"
      exact ⟨a, rfl, d2.src, fun z H3 hz d3 => hR _ _ d3 ⟨z, rfl, hz⟩⟩
    · rw [upto_len] at hlen
      obtain ⟨ks, rfl, hks⟩ := strs_of hE
      have d12 := d1.trans d2
      walk_at "v"
      refine v_tup1L (sq_lst e) fun pk hpk => ?_
      have nk : pk ≠ a := (d12.src.ne hpk).symm
      have d13 := d12.trans (Dr.new (o := .tup (ks.map V.str)) d12.src hpk)
      have ek : upd H2 pk (.tup (ks.map V.str)) pk = some (.tup (ks.map V.str)) := upd_same
      generalize upd H2 pk (.tup (ks.map V.str)) = H3 at *
      walk_at "v"
      refine lc_dr d13.src (walk_upto (lo := 0) (n := m.toNat)) hy_at (fun _ _ => trivial) (fun y => ∃ z : Int, y = .int z ∧ (0 ≤ z ∧ z < size)) (by rw [upto_len]; exact small1000 (by omega)) (fun x H4 R Rn hx d4 hR => ?_) (fun D2 H4 ys2 hD2 d4 e4 hlen2 hE2 => ?_)
      · walk_at "v"
        rename_i z H5 h0 h1 d5
        exact hR _ _ d5 ⟨z, rfl, h0, h1⟩
      · rw [upto_len] at hlen2
        obtain ⟨as, rfl, has⟩ := ints_of hE2
        have d14 := d13.trans d4
        have ek4 := d4.keep _ _ ek nk
        walk_at "v"
        refine v_tup1L (sq_lst e4) fun pa hpa => ?_
        have na : pa ≠ a := (d14.src.ne hpa).symm
        have d15 := d14.trans (Dr.new (o := .tup (as.map V.int)) d14.src hpa)
        have ea : upd H4 pa (.tup (as.map V.int)) pa = some (.tup (as.map V.int)) := upd_same
        have ek5 : upd H4 pa (.tup (as.map V.int)) pk = some (.tup (ks.map V.str)) := by rw [upd_ne (ne_of_none ek4 hpa)]; exact ek4
        generalize upd H4 pa (.tup (as.map V.int)) = H5 at *
        walk_at "v"
        rename_i pl hpl
        have d16 := d15.trans (Dr.new (o := .lst [.str "f", .str "g"]) d15.src hpl)
        refine ⟨a, pl, (["f", "g"] : List Str).map V.str, rfl, d16.src, (d15.src.ne hpl).symm, sq_lst upd_same, by decide, by decide, fun y H6 hy dr => ?_⟩
        obtain ⟨n, hn, rfl⟩ := mem_strs hy
        have d17 := d16.trans dr
        have ek6 := dr.keep _ _ (show upd H5 pl (.lst [.str "f", .str "g"]) pk = _ by rw [upd_ne (ne_of_none ek5 hpl)]; exact ek5) nk
        have ea6 := dr.keep _ _ (show upd H5 pl (.lst [.str "f", .str "g"]) pa = _ by rw [upd_ne (ne_of_none ea hpl)]; exact ea) na
        walk_at "v"
        refine ⟨a, rfl, d17.src, fun t H7 ht d7 => ?_⟩
        have d18 := d17.trans d7
        have ek7 := d7.keep _ _ ek6 nk
        have ea7 := d7.keep _ _ ea6 na
        walk_at "v"
        rename_i p hp
        have np : p ≠ a := (d18.src.ne hp).symm
        have ek8 : upd H7 p (.tup [.str n, .ref pk, .str t, .ref pa]) pk = some (.tup (ks.map V.str)) := by rw [upd_ne (ne_of_none ek7 hp)]; exact ek7
        have ea8 : upd H7 p (.tup [.str n, .ref pk, .str t, .ref pa]) pa = some (.tup (as.map V.int)) := by rw [upd_ne (ne_of_none ea7 hp)]; exact ea7
        exact q p _ n ks t as _ (sqT_off np upd_same) ⟨_, _, rfl, rfl, _, _, rfl, rep_tup nk ek8 (repL_strs ks), _, _, rfl, rfl, _, _, rfl, rep_tup na ea8 (repL_ints as), rfl⟩
          ⟨hn, hks, ht, has, by simp at hlen hlen2; omega, by simp at hlen; omega⟩ (d18.trans (Dr.new d18.src hp))
end K02

open PySem PySem.Spec PyProof.Rows L2 Kit
namespace Kit
/-! ### a list taken apart -/
def gTupL (K : PySem.W.Frag) (n : Nat) (t : TGs) : TG := fun v σ H Q => ∃ a xs, v = .ref a ∧ SqL K H a xs ∧ xs.length = n ∧ t xs σ H Q
theorem kTupL {X : Cx} {K : PySem.W.Frag} {pos : Pos} {es : List Expr} {k : Nat} {t : TGs} {n : Nat} (hK : X.K = K) (hc : X.calm = true) (ht : PGs X es t) (hn : (assignEach es X.env).length = n := by rfl)
    (hp : (assignEach es X.env).findIdx? (fun x => x.1) = none := by rfl) : PG X (.Tuple es k pos) (gTupL K n t) := by
  subst hK; exact pg_unl hc ht hn hp
theorem v_gtupL {K : PySem.W.Frag} {n : Nat} {t : TGs} {a : Addr} {xs : List V} {σ : L2.St} {H : Hp} {Q : L2.St → Hp → Prop} (h : SqL K H a xs) (hn : xs.length = n) (k : t xs σ H Q) : gTupL K n t (.ref a) σ H Q := ⟨a, xs, rfl, h, hn, k⟩
/-! ### scalars -/
def scD : Dat → Bool
  | .non => true | .bl _ => true | .int _ => true | .str _ => true | _ => false
def toV : Dat → V
  | .non => .non | .bl b => .bl b | .int i => .int i | .str z => .str z | _ => .non
theorem repL_sc {K : PySem.W.Frag} {H : Hp} : ∀ {l : List Dat}, l.all scD = true → RepL K H l (l.map toV)
  | [], _ => rfl
  | d :: l, h => by
    rw [List.all_cons, Bool.and_eq_true] at h
    refine ⟨_, _, rfl, ?_, repL_sc h.2⟩
    cases d with
    | non => exact rfl
    | bl b => exact rfl
    | int i => exact rfl
    | str z => exact rfl
    | _ => exact absurd h.1 (by simp [scD])
end Kit
namespace K02
local macro_rules | `(tactic| walk_at "ne") => `(tactic| first
  | assumption
  | (apply Ne.symm; assumption)
  | exact ne_of_none (by assumption) (by assumption)
  | exact (ne_of_none (by assumption) (by assumption)).symm
  | (refine ne_of_none (H := ?H0) (o := ?oo) ?hs ?hn; (case hn => assumption); (case hs => walk_at "hp"))
  | (refine (ne_of_none (H := ?H0) (o := ?oo) ?hs ?hn).symm; (case hn => assumption); (case hs => walk_at "hp"))
  | (refine Src.ne (H := ?H0) ?hs ?hn; (case hn => assumption); (case hs => walk_at "src"))
  | (refine (Src.ne (H := ?H0) ?hs ?hn).symm; (case hn => assumption); (case hs => walk_at "src"))
  | fail "no rule")
local macro_rules | `(tactic| walk_at "hp") => `(tactic| first
  | assumption
  | exact upd_same
  | (refine (upd_ne ?hne).trans ?hrest; (case hne => walk_at "ne"); (case hrest => walk_at "hp"))
  | (refine same_at (H := ?H0) ?hs ?hrest; (case hs => assumption); (case hrest => walk_at "hp"))
  | (refine dr_at (H := ?H0) (a := ?a0) ?hs ?hne ?hrest; (case hs => assumption); (case hne => walk_at "ne"); (case hrest => walk_at "hp"))
  | fail "no rule")
local macro_rules | `(tactic| walk_at "sq") => `(tactic| first
  | assumption
  | exact Or.inl (Or.inl (by walk_at "hp"))
  | (refine sq_upd ?hnn ?hss; (case hnn => assumption); (case hss => walk_at "sq"))
  | (refine Same.seq (H := ?H0) ?hs ?hrest; (case hs => assumption); (case hrest => walk_at "sq"))
  | (refine sq_dr (H := ?H0) (a := ?a0) ?hs ?hne ?hrest; (case hs => assumption); (case hne => walk_at "ne"); (case hrest => walk_at "sq"))
  | fail "no rule")
local macro_rules | `(tactic| walk_at "sm") => `(tactic| first
  | assumption
  | exact Same.refl _
  | (refine same_new ?hnn; (case hnn => assumption))
  | (refine same_mut ?hs ?hnn; (case hs => walk_at "sm"); (case hnn => walk_at "fr"))
  | (refine Same.trans (H1 := ?H1) ?hs ?hq; (case hq => assumption); (case hs => walk_at "sm"))
  | fail "no rule")
local macro_rules | `(tactic| walk_at "fr") => `(tactic| first
  | assumption
  | (refine Same.free (H' := ?H1) ?hs ?hq; (case hq => assumption); (case hs => walk_at "sm"))
  | fail "no rule")
local macro_rules | `(tactic| walk_at "src") => `(tactic| first
  | assumption
  | exact Dr.src (by assumption)
  | (refine Src.same (H := ?H0) ?hs ?hm; (case hm => assumption); (case hs => walk_at "src"))
  | (refine Src.upd ?hs ?hn; (case hs => walk_at "src"); (case hn => walk_at "ne"))
  | fail "no rule")
local macro_rules | `(tactic| walk_at "fd") => `(tactic| first
  | assumption
  | (refine Same.free (H' := ?H1) ?hs ?hq; (case hq => assumption); (case hs => walk_at "sm"))
  | (refine Dr.free (H' := ?H1) ?h0 ?hs ?hq; (case hq => assumption); (case hs => walk_at "dr"); (case h0 => walk_at "src"))
  | fail "no rule")
local macro_rules | `(tactic| walk_at "dr") => `(tactic| first
  | assumption
  | (refine Dr.trans (H' := ?H1) ?hs ?hq; (case hq => assumption); (case hs => walk_at "dr"))
  | (refine Dr.mut ?hs ?h0 ?hn; (case hs => walk_at "dr"); (case h0 => walk_at "src"); (case hn => walk_at "fd"))
  | (refine Dr.trans (H' := ?H1) ?hs (Dr.same ?h0 ?hq); (case hq => assumption); (case h0 => walk_at "src"); (case hs => walk_at "dr"))
  | (refine Dr.refl ?hs; (case hs => walk_at "src"))
  | fail "no rule")
local macro_rules | `(tactic| walk_at "sz") => `(tactic| first
  | omega
  | (refine Nat.le_trans ?_ (show (1000 : Nat) ≤ sizeLine by decide); first | decide | omega | (simp; done) | (simp; omega) | fail)
  | fail "no rule")
local macro_rules | `(tactic| walk_at "v1") => `(tactic| first
  | with_reducible refine v_seq ?_
  | with_reducible refine v_asg ?_
  | with_reducible refine v_gname ?_
  | with_reducible refine v_c ?_
  | ((with_reducible refine v_var (v := ?vv) ?hv ?_); (case hv => exact rfl))
  | with_reducible refine v_op ?_
  | with_reducible refine v_un ?_
  | with_reducible refine v_I0 ?_
  | with_reducible refine v_U ?_
  | with_reducible refine v_addI ?_
  | with_reducible refine v_ltI ?_
  | with_reducible refine v_leI ?_
  | with_reducible refine v_gtI ?_
  | with_reducible refine v_geI ?_
  | with_reducible refine v_leS ?_
  | with_reducible refine v_ltS ?_
  | with_reducible refine v_eqI ?_
  | with_reducible refine v_neI ?_
  | with_reducible refine v_eqS ?_
  | with_reducible refine v_neS ?_
  | with_reducible refine v_eqB ?_
  | ((with_reducible refine v_eqTy ?h1 ?h2 ?_); (case h1 => walk_at "bt"); (case h2 => walk_at "bt"))
  | ((with_reducible refine v_neTy ?h1 ?h2 ?_); (case h1 => walk_at "bt"); (case h2 => walk_at "bt"))
  | with_reducible refine v_test ?_
  | with_reducible refine v_B ?_
  | with_reducible refine v_isbl ?_
  | with_reducible refine v_and ?_
  | with_reducible refine v_or ?_
  | with_reducible refine v_not ?_
  | with_reducible refine v_andV ?_
  | with_reducible refine v_orV ?_
  | with_reducible refine v_notV ?_
  | with_reducible refine v_if ?_
  | with_reducible refine v_chain ?_
  | with_reducible refine v_nil ?_
  | with_reducible refine v_cons ?_
  | with_reducible refine v_cb ?_
  | with_reducible refine v_call ?_
  | with_reducible refine v_max ?_
  | ((with_reducible refine v_draw ?hs ?hm ?_); (case hs => walk_at "src"); (case hm => omega))
  | with_reducible refine v_min ?_
  | with_reducible refine v_intI ?_
  | with_reducible refine v_intB ?_
  | with_reducible refine v_m1 ?_
  | with_reducible refine v_isstr ?_
  | with_reducible refine v_sl ?_
  | with_reducible refine v_ss ?_
  | with_reducible refine v_disp1 ?_
  | with_reducible refine v_s0 ?_
  | with_reducible refine v_nopart ?_
  | with_reducible refine v_part ?_
  | with_reducible refine v_partI ?_
  | with_reducible refine v_next ?_
  | with_reducible refine v_gsub ?_
  | with_reducible refine v_ifS ?_
  | with_reducible refine v_ret ?_
  | with_reducible refine v_drop ?_
  | ((with_reducible refine v_iteTrue ?hb ?_); (case hb => walk_at "bt"))
  | ((with_reducible refine v_iteFalse ?hb ?_); (case hb => walk_at "bt"))
  | with_reducible refine v_iteD ?_ ?_
  | with_reducible refine v_iteNot ?_
  | with_reducible refine v_lc ?_
  | with_reducible refine v_iStr ?_
  | with_reducible refine v_isS ?_
  | with_reducible refine v_iRng1 ?_
  | ((with_reducible refine v_rng1 ?hb ?_); (case hb => omega))
  | with_reducible refine v_iList ?_
  | with_reducible refine v_iSeq ?_
  | ((with_reducible refine v_isL (xs := ?xx) ?hsq ?_); (case hsq => walk_at "sq"))
  | with_reducible refine v_for ?_
  | with_reducible refine v_yes ?_
  | ((with_reducible refine v_nand ?hw ?_); (case hw => first | exact rfl | walk_at "sz" | fail))
  | ((with_reducible refine v_typ (T := ?TT) ?ht ?_); (case ht => walk_at "ty"))
  | ((with_reducible refine v_isiK (T := ?TT) ?ht ?h1 ?h2 ?_); (case ht => walk_at "ty"); (case h1 => walk_at "bt"); (case h2 => exact rfl))
  | with_reducible refine iteT ?_
  | with_reducible refine iteF ?_
  | with_reducible refine v_tup ?_
  | with_reducible refine v_lst ?_
  | ((with_reducible refine v_ixL (xs := ?xx) (v := ?vv) ?hsq ?hat ?_); (case hsq => walk_at "sq"); (case hat => exact rfl))
  | ((with_reducible refine v_lenL (xs := ?xx) ?hsq ?_); (case hsq => walk_at "sq"))
  | ((with_reducible refine v_setL (xs := ?xx) (j := ?jj) ?hh ?hj ?_); (case hh => walk_at "hp"); (case hj => exact rfl))
  | ((with_reducible refine v_I ?hc ?_); (case hc => walk_at "ic"))
  | ((with_reducible refine v_lenS ?hz ?_); (case hz => walk_at "sz"))
  | ((with_reducible refine v_slS ?hz ?_); (case hz => walk_at "sz"))
  | ((with_reducible refine v_addS ?hz ?_); (case hz => walk_at "sz"))
  | ((with_reducible refine v_ixS (c := ?cc) ?hz ?hat ?_); (case hz => walk_at "sz"); (case hat => exact rfl))
  | ((with_reducible refine v_addL (xs := ?xx) (ys := ?yy) ?h1 ?h2 ?hz ?_); (case h1 => walk_at "hp"); (case h2 => walk_at "hp"); (case hz => walk_at "sz"))
  | ((with_reducible refine v_ixT (xs := ?xx) (v := ?vv) ?hsq ?hat ?_); (case hsq => walk_at "sq"); (case hat => exact rfl))
  | ((with_reducible refine v_lenT (xs := ?xx) ?hsq ?_); (case hsq => walk_at "sq"))
  | ((with_reducible refine v_eq ?hs ?_); (case hs => exact rfl))
  | ((with_reducible refine v_ne ?hs ?_); (case hs => exact rfl))
  | (with_reducible intro _)
  | fail "no rule")
local macro_rules | `(tactic| walk_at "ic") => `(tactic| first
  | (show (0 : Int) < _; first | decide | omega | fail)
  | (show CMul _ _; unfold CMul; omega)
  | (show CDiv _ _; unfold CDiv; omega)
  | (show CPow _ _; unfold CPow; exact ⟨by decide, by decide, by decide⟩)
  | fail "no rule")
local macro_rules | `(tactic| walk_at "bt") => `(tactic| first
  | exact rfl
  | assumption
  | decide +kernel
  | (simp; done)
  | fail "no rule")
local macro_rules | `(tactic| walk_at "ty") => `(tactic| first
  | assumption
  | exact .non
  | exact .bl _
  | exact .int _
  | exact .str _
  | exact .lst (by walk_at "sq")
  | exact .tup (by walk_at "sq")
  | exact .dK (by walk_at "hp")
  | fail "no rule")
local macro_rules | `(tactic| walk_at "v") => `(tactic| try (walk_at "v1" <;> walk_at "v"))
local macro_rules | `(tactic| walk_at "start") => `(tactic| dsimp only [L2.start, cxOf, Cx.nox, Cx.wish, List.map, List.replicate, List.length, List.append, Nat.reduceSub, Nat.reduceAdd, List.cons_append, List.nil_append])

variable {P : Program} {w : World} {K : PySem.W.Frag} {mg : Str → Option Value} {base : Heap}
variable {aF : Addr} {es : Array DictEntry} {nF : Nat}
/-! ### instructions that are right -/
structure Mem (size len f s t g : Int) (n ty : Str) : Prop where
  f_ok : numD 0 (size - 1) (.int f) = true
  s_ok : numD 0 (size - 1) (.int s) = true
  t_ok : numD 0 (size - 1) (.int t) = true
  t9_ok : numD 0 9 (.int t) = true
  g_ok : numD 0 (len - 1) (.int g) = true
  n_ok : nmD (.str n) = true
  ty_ok : tpD (.str ty) = true
theorem good_new {size len f s t g : Int} {n ty : Str} (M : Mem size len f s t g n ty) : instrD size len (.tup ([.str "new", .int f, .str n] : List Dat)) = true := by
  rw [ninstr (ks := (["r", "C"] : List Str)) rfl]
  show (true && (numD 0 (size - 1) (.int f) && (nmD (.str n) && true)) && (true || _)) = true
  rw [M.f_ok, M.n_ok]
  rfl
theorem good_array {size len f s t g : Int} {n ty : Str} (M : Mem size len f s t g n ty) : instrD size len (.tup ([.str "array", .int f, .str n, .int t] : List Dat)) = true := by
  rw [ninstr (ks := (["r", "C", "i"] : List Str)) rfl]
  show (true && (numD 0 (size - 1) (.int f) && (nmD (.str n) && (numD 0 9 (.int t) && true))) && (true || _)) = true
  rw [M.f_ok, M.n_ok, M.t9_ok]
  rfl
theorem good_null {size len f s t g : Int} {n ty : Str} (M : Mem size len f s t g n ty) : instrD size len (.tup ([.str "null", .int f] : List Dat)) = true := by
  rw [ninstr (ks := (["r"] : List Str)) rfl]
  show (true && (numD 0 (size - 1) (.int f) && true) && (true || _)) = true
  rw [M.f_ok]
  rfl
theorem good_move {size len f s t g : Int} {n ty : Str} (M : Mem size len f s t g n ty) : instrD size len (.tup ([.str "move", .int f, .int s] : List Dat)) = true := by
  rw [ninstr (ks := (["r", "r"] : List Str)) rfl]
  show (true && (numD 0 (size - 1) (.int f) && (numD 0 (size - 1) (.int s) && true)) && (true || _)) = true
  rw [M.f_ok, M.s_ok]
  rfl
theorem good_get {size len f s t g : Int} {n ty : Str} (M : Mem size len f s t g n ty) : instrD size len (.tup ([.str "get", .int f, .int s, .str n, .str "f", .str ty] : List Dat)) = true := by
  rw [ninstr (ks := (["r", "r", "C", "f", "T"] : List Str)) rfl]
  show (true && (numD 0 (size - 1) (.int f) && (numD 0 (size - 1) (.int s) && (nmD (.str n) && (nmD (.str "f") && (tpD (.str ty) && true))))) && (true || _)) = true
  rw [M.f_ok, M.s_ok, M.n_ok, (show nmD (.str "f") = true by decide +kernel), M.ty_ok]
  rfl
theorem good_put {size len f s t g : Int} {n ty : Str} (M : Mem size len f s t g n ty) : instrD size len (.tup ([.str "put", .int f, .str n, .str "f", .str ty, .int s] : List Dat)) = true := by
  rw [ninstr (ks := (["r", "C", "f", "T", "r"] : List Str)) rfl]
  show (true && (numD 0 (size - 1) (.int f) && (nmD (.str n) && (nmD (.str "f") && (tpD (.str ty) && (numD 0 (size - 1) (.int s) && true))))) && (true || _)) = true
  rw [M.f_ok, M.n_ok, (show nmD (.str "f") = true by decide +kernel), M.ty_ok, M.s_ok]
  rfl
theorem good_cast {size len f s t g : Int} {n ty : Str} (M : Mem size len f s t g n ty) : instrD size len (.tup ([.str "cast", .int f, .int s, .str n] : List Dat)) = true := by
  rw [ninstr (ks := (["r", "r", "C"] : List Str)) rfl]
  show (true && (numD 0 (size - 1) (.int f) && (numD 0 (size - 1) (.int s) && (nmD (.str n) && true))) && (true || _)) = true
  rw [M.f_ok, M.s_ok, M.n_ok]
  rfl
theorem good_load {size len f s t g : Int} {n ty : Str} (M : Mem size len f s t g n ty) : instrD size len (.tup ([.str "load", .int f, .int s, .int 1] : List Dat)) = true := by
  rw [ninstr (ks := (["r", "r", "i"] : List Str)) rfl]
  show (true && (numD 0 (size - 1) (.int f) && (numD 0 (size - 1) (.int s) && (numD 0 9 (.int 1) && true))) && (true || _)) = true
  rw [M.f_ok, M.s_ok, (show numD 0 9 (.int 1) = true from rfl)]
  rfl
theorem good_store {size len f s t g : Int} {n ty : Str} (M : Mem size len f s t g n ty) : instrD size len (.tup ([.str "store", .int f, .int 0, .int s] : List Dat)) = true := by
  rw [ninstr (ks := (["r", "i", "r"] : List Str)) rfl]
  show (true && (numD 0 (size - 1) (.int f) && (numD 0 9 (.int 0) && (numD 0 (size - 1) (.int s) && true))) && (true || _)) = true
  rw [M.f_ok, (show numD 0 9 (.int 0) = true from rfl), M.s_ok]
  rfl
theorem good_jump {size len f s t g : Int} {n ty : Str} (M : Mem size len f s t g n ty) : instrD size len (.tup ([.str "jump", .int g] : List Dat)) = true := by
  rw [ninstr (ks := (["t"] : List Str)) rfl]
  show (true && (numD 0 (len - 1) (.int g) && true) && (true || _)) = true
  rw [M.g_ok]
  rfl
theorem good_ifnull {size len f s t g : Int} {n ty : Str} (M : Mem size len f s t g n ty) : instrD size len (.tup ([.str "ifnull", .int f, .int g] : List Dat)) = true := by
  rw [ninstr (ks := (["r", "t"] : List Str)) rfl]
  show (true && (numD 0 (size - 1) (.int f) && (numD 0 (len - 1) (.int g) && true)) && (true || _)) = true
  rw [M.f_ok, M.g_ok]
  rfl
theorem good_ifis {size len f s t g : Int} {n ty : Str} (M : Mem size len f s t g n ty) : instrD size len (.tup ([.str "ifis", .int f, .str n, .int g] : List Dat)) = true := by
  rw [ninstr (ks := (["r", "C", "t"] : List Str)) rfl]
  show (true && (numD 0 (size - 1) (.int f) && (nmD (.str n) && (numD 0 (len - 1) (.int g) && true))) && (true || _)) = true
  rw [M.f_ok, M.n_ok, M.g_ok]
  rfl
theorem good_choose {size len f s t g : Int} {n ty : Str} (M : Mem size len f s t g n ty) : instrD size len (.tup ([.str "choose", .int g] : List Dat)) = true := by
  rw [ninstr (ks := (["t"] : List Str)) rfl]
  show (true && (numD 0 (len - 1) (.int g) && true) && (true || _)) = true
  rw [M.g_ok]
  rfl
theorem good_tell {size len f s t g : Int} {n ty : Str} (M : Mem size len f s t g n ty) : instrD size len (.tup ([.str "tell", .int f] : List Dat)) = true := by
  rw [ninstr (ks := (["r"] : List Str)) rfl]
  show (true && (numD 0 (size - 1) (.int f) && true) && (true || _)) = true
  rw [M.f_ok]
  rfl
theorem good_return {size len f s t g : Int} {n ty : Str} (M : Mem size len f s t g n ty) : instrD size len (.tup ([.str "return", .int f] : List Dat)) = true := by
  rw [ninstr (ks := (["r"] : List Str)) rfl]
  show (true && (numD 0 (size - 1) (.int f) && true) && (true || _)) = true
  rw [M.f_ok]
  rfl
theorem num_ok {hi i : Int} (h0 : 0 ≤ i) (h1 : i ≤ hi) : numD 0 hi (.int i) = true := by simp [numD, h0, h1]
theorem call_good {size len f s : Int} {w n n2 t2 : Str} {ks : List Str} {as : List Int} (hw : w = "call" ∨ w = "ask") (hf : numD 0 (size - 1) (.int f) = true) (hs : numD 0 (size - 1) (.int s) = true) (hn : nmD (.str n) = true) (C : callOk size n2 ks t2 as) :
    instrD size len (.tup ([.str w, .int f, .int s, .str n] ++ callD n2 ks t2 as)) = true := by
  have hl : formsL.lookup w = some (["r", "r", "C", "f", "types", "T", "args"] : List Str) := by rcases hw with rfl | rfl <;> rfl
  have nf : ∀ n ∈ (["f", "g"] : List Str), nmD (.str n) = true := by decide +kernel
  have tt : ∀ n ∈ typs, tpD (.str n) = true := by decide +kernel
  have e1 : typesD (.tup (ks.map .str)) = true := by
    show (decide (((ks.map Dat.str).length : Int) ≤ 4) && (ks.map Dat.str).all tpD) = true
    rw [Bool.and_eq_true, decide_eq_true_iff, List.all_eq_true]
    refine ⟨by have := C.many; simp; omega, fun d hd => ?_⟩
    obtain ⟨k, hk, rfl⟩ := List.mem_map.mp hd
    exact tt k (C.ks_ok k hk)
  have e2 : argsD size (.tup (as.map .int)) = true := by
    show (as.map Dat.int).all (numD 0 (size - 1)) = true
    rw [List.all_eq_true]
    intro d hd
    obtain ⟨k, hk, rfl⟩ := List.mem_map.mp hd
    have := C.as_ok k hk
    exact num_ok this.1 (by omega)
  rw [show ([.str w, .int f, .int s, .str n] ++ callD n2 ks t2 as : List Dat) = .str w :: [.int f, .int s, .str n, .str n2, .tup (ks.map .str), .str t2, .tup (as.map .int)] from rfl, ninstr hl]
  show (true && (numD 0 (size - 1) (.int f) && (numD 0 (size - 1) (.int s) && (nmD (.str n) && (nmD (.str n2) && (typesD (.tup (ks.map .str)) && (tpD (.str t2) && (argsD size (.tup (as.map .int)) && true))))))) && (false || decide ((ks.map Dat.str).length = (as.map Dat.int).length))) = true
  rw [hf, hs, hn, nf n2 C.n_ok, e1, tt t2 C.t_ok, e2, decide_eq_true (by simpa using C.len)]
  rfl
/-- flat lists -/
theorem sc_shape {l : List Dat} (h : l.all scD = true) : shapeD (.tup l) := by
  intro m e d hd k ek
  cases e
  have := List.all_eq_true.mp h d hd
  subst ek
  cases this
theorem sc_ok {l : List Dat} (h : l.all (fun d => match d with | .str z => decide (z.length ≤ 1000) && z.cps.toList.all (· < 0x110000) | .int _ => true | .non => true | .bl _ => true | _ => false) = true) : okL l := by
  induction l with
  | nil => exact trivial
  | cons d l ih =>
    rw [List.all_cons, Bool.and_eq_true] at h
    refine ⟨?_, ih h.2⟩
    cases d with
    | str z =>
      have h1 : (decide (z.length ≤ 1000) && z.cps.toList.all (· < 0x110000)) = true := h.1
      rw [Bool.and_eq_true, decide_eq_true_iff, List.all_eq_true] at h1
      exact ⟨h1.1, fun c hc => by simpa using h1.2 c hc⟩
    | tup l => exact absurd h.1 (by simp)
    | lst l => exact absurd h.1 (by simp)
    | _ => exact trivial
end K02

open PySem PySem.Spec PyProof.Rows L2 Kit
namespace K02
local macro_rules | `(tactic| walk_at "ne") => `(tactic| first
  | assumption
  | (apply Ne.symm; assumption)
  | exact ne_of_none (by assumption) (by assumption)
  | exact (ne_of_none (by assumption) (by assumption)).symm
  | (refine ne_of_none (H := ?H0) (o := ?oo) ?hs ?hn; (case hn => assumption); (case hs => walk_at "hp"))
  | (refine (ne_of_none (H := ?H0) (o := ?oo) ?hs ?hn).symm; (case hn => assumption); (case hs => walk_at "hp"))
  | (refine Src.ne (H := ?H0) ?hs ?hn; (case hn => assumption); (case hs => walk_at "src"))
  | (refine (Src.ne (H := ?H0) ?hs ?hn).symm; (case hn => assumption); (case hs => walk_at "src"))
  | fail "no rule")
local macro_rules | `(tactic| walk_at "hp") => `(tactic| first
  | assumption
  | exact upd_same
  | (refine (upd_ne ?hne).trans ?hrest; (case hne => walk_at "ne"); (case hrest => walk_at "hp"))
  | (refine same_at (H := ?H0) ?hs ?hrest; (case hs => assumption); (case hrest => walk_at "hp"))
  | (refine dr_at (H := ?H0) (a := ?a0) ?hs ?hne ?hrest; (case hs => assumption); (case hne => walk_at "ne"); (case hrest => walk_at "hp"))
  | fail "no rule")
local macro_rules | `(tactic| walk_at "sq") => `(tactic| first
  | assumption
  | exact Or.inl (Or.inl (by walk_at "hp"))
  | (refine sq_upd ?hnn ?hss; (case hnn => assumption); (case hss => walk_at "sq"))
  | (refine Same.seq (H := ?H0) ?hs ?hrest; (case hs => assumption); (case hrest => walk_at "sq"))
  | (refine sq_dr (H := ?H0) (a := ?a0) ?hs ?hne ?hrest; (case hs => assumption); (case hne => walk_at "ne"); (case hrest => walk_at "sq"))
  | fail "no rule")
local macro_rules | `(tactic| walk_at "sm") => `(tactic| first
  | assumption
  | exact Same.refl _
  | (refine same_new ?hnn; (case hnn => assumption))
  | (refine same_mut ?hs ?hnn; (case hs => walk_at "sm"); (case hnn => walk_at "fr"))
  | (refine Same.trans (H1 := ?H1) ?hs ?hq; (case hq => assumption); (case hs => walk_at "sm"))
  | fail "no rule")
local macro_rules | `(tactic| walk_at "fr") => `(tactic| first
  | assumption
  | (refine Same.free (H' := ?H1) ?hs ?hq; (case hq => assumption); (case hs => walk_at "sm"))
  | fail "no rule")
local macro_rules | `(tactic| walk_at "src") => `(tactic| first
  | assumption
  | exact Dr.src (by assumption)
  | (refine Src.same (H := ?H0) ?hs ?hm; (case hm => assumption); (case hs => walk_at "src"))
  | (refine Src.upd ?hs ?hn; (case hs => walk_at "src"); (case hn => walk_at "ne"))
  | fail "no rule")
local macro_rules | `(tactic| walk_at "fd") => `(tactic| first
  | assumption
  | (refine Same.free (H' := ?H1) ?hs ?hq; (case hq => assumption); (case hs => walk_at "sm"))
  | (refine Dr.free (H' := ?H1) ?h0 ?hs ?hq; (case hq => assumption); (case hs => walk_at "dr"); (case h0 => walk_at "src"))
  | fail "no rule")
local macro_rules | `(tactic| walk_at "dr") => `(tactic| first
  | assumption
  | (refine Dr.trans (H' := ?H1) ?hs ?hq; (case hq => assumption); (case hs => walk_at "dr"))
  | (refine Dr.mut ?hs ?h0 ?hn; (case hs => walk_at "dr"); (case h0 => walk_at "src"); (case hn => walk_at "fd"))
  | (refine Dr.trans (H' := ?H1) ?hs (Dr.same ?h0 ?hq); (case hq => assumption); (case h0 => walk_at "src"); (case hs => walk_at "dr"))
  | (refine Dr.refl ?hs; (case hs => walk_at "src"))
  | fail "no rule")
local macro_rules | `(tactic| walk_at "sz") => `(tactic| first
  | omega
  | (refine Nat.le_trans ?_ (show (1000 : Nat) ≤ sizeLine by decide); first | decide | omega | (simp; done) | (simp; omega) | fail)
  | fail "no rule")
local macro_rules | `(tactic| walk_at "v1") => `(tactic| first
  | with_reducible refine v_seq ?_
  | with_reducible refine v_asg ?_
  | with_reducible refine v_gname ?_
  | with_reducible refine v_c ?_
  | ((with_reducible refine v_var (v := ?vv) ?hv ?_); (case hv => exact rfl))
  | with_reducible refine v_op ?_
  | with_reducible refine v_un ?_
  | with_reducible refine v_I0 ?_
  | with_reducible refine v_U ?_
  | with_reducible refine v_addI ?_
  | with_reducible refine v_ltI ?_
  | with_reducible refine v_leI ?_
  | with_reducible refine v_gtI ?_
  | with_reducible refine v_geI ?_
  | with_reducible refine v_leS ?_
  | with_reducible refine v_ltS ?_
  | with_reducible refine v_eqI ?_
  | with_reducible refine v_neI ?_
  | with_reducible refine v_eqS ?_
  | with_reducible refine v_neS ?_
  | with_reducible refine v_eqB ?_
  | ((with_reducible refine v_eqTy ?h1 ?h2 ?_); (case h1 => walk_at "bt"); (case h2 => walk_at "bt"))
  | ((with_reducible refine v_neTy ?h1 ?h2 ?_); (case h1 => walk_at "bt"); (case h2 => walk_at "bt"))
  | with_reducible refine v_test ?_
  | with_reducible refine v_B ?_
  | with_reducible refine v_isbl ?_
  | with_reducible refine v_and ?_
  | with_reducible refine v_or ?_
  | with_reducible refine v_not ?_
  | with_reducible refine v_andV ?_
  | with_reducible refine v_orV ?_
  | with_reducible refine v_notV ?_
  | with_reducible refine v_if ?_
  | with_reducible refine v_chain ?_
  | with_reducible refine v_nil ?_
  | with_reducible refine v_cons ?_
  | with_reducible refine v_cb ?_
  | with_reducible refine v_call ?_
  | with_reducible refine v_max ?_
  | ((with_reducible refine v_draw ?hs ?hm ?_); (case hs => walk_at "src"); (case hm => omega))
  | with_reducible refine v_min ?_
  | with_reducible refine v_intI ?_
  | with_reducible refine v_intB ?_
  | with_reducible refine v_m1 ?_
  | with_reducible refine v_isstr ?_
  | with_reducible refine v_sl ?_
  | with_reducible refine v_ss ?_
  | with_reducible refine v_disp1 ?_
  | with_reducible refine v_s0 ?_
  | with_reducible refine v_nopart ?_
  | with_reducible refine v_part ?_
  | with_reducible refine v_partI ?_
  | with_reducible refine v_next ?_
  | with_reducible refine v_gsub ?_
  | with_reducible refine v_ifS ?_
  | with_reducible refine v_ret ?_
  | with_reducible refine v_drop ?_
  | ((with_reducible refine v_iteTrue ?hb ?_); (case hb => walk_at "bt"))
  | ((with_reducible refine v_iteFalse ?hb ?_); (case hb => walk_at "bt"))
  | with_reducible refine v_iteD ?_ ?_
  | with_reducible refine v_iteNot ?_
  | with_reducible refine v_lc ?_
  | with_reducible refine v_iStr ?_
  | with_reducible refine v_isS ?_
  | with_reducible refine v_iRng1 ?_
  | ((with_reducible refine v_rng1 ?hb ?_); (case hb => omega))
  | with_reducible refine v_iList ?_
  | with_reducible refine v_iSeq ?_
  | ((with_reducible refine v_isL (xs := ?xx) ?hsq ?_); (case hsq => walk_at "sq"))
  | with_reducible refine v_for ?_
  | with_reducible refine v_yes ?_
  | ((with_reducible refine v_nand ?hw ?_); (case hw => first | exact rfl | walk_at "sz" | fail))
  | ((with_reducible refine v_typ (T := ?TT) ?ht ?_); (case ht => walk_at "ty"))
  | ((with_reducible refine v_isiK (T := ?TT) ?ht ?h1 ?h2 ?_); (case ht => walk_at "ty"); (case h1 => walk_at "bt"); (case h2 => exact rfl))
  | with_reducible refine iteT ?_
  | with_reducible refine iteF ?_
  | with_reducible refine v_tup ?_
  | with_reducible refine v_lst ?_
  | ((with_reducible refine v_ixL (xs := ?xx) (v := ?vv) ?hsq ?hat ?_); (case hsq => walk_at "sq"); (case hat => exact rfl))
  | ((with_reducible refine v_lenL (xs := ?xx) ?hsq ?_); (case hsq => walk_at "sq"))
  | ((with_reducible refine v_setL (xs := ?xx) (j := ?jj) ?hh ?hj ?_); (case hh => walk_at "hp"); (case hj => exact rfl))
  | ((with_reducible refine v_I ?hc ?_); (case hc => walk_at "ic"))
  | ((with_reducible refine v_lenS ?hz ?_); (case hz => walk_at "sz"))
  | ((with_reducible refine v_slS ?hz ?_); (case hz => walk_at "sz"))
  | ((with_reducible refine v_addS ?hz ?_); (case hz => walk_at "sz"))
  | ((with_reducible refine v_ixS (c := ?cc) ?hz ?hat ?_); (case hz => walk_at "sz"); (case hat => exact rfl))
  | ((with_reducible refine v_addL (xs := ?xx) (ys := ?yy) ?h1 ?h2 ?hz ?_); (case h1 => walk_at "hp"); (case h2 => walk_at "hp"); (case hz => walk_at "sz"))
  | ((with_reducible refine v_ixT (xs := ?xx) (v := ?vv) ?hsq ?hat ?_); (case hsq => walk_at "sq"); (case hat => exact rfl))
  | ((with_reducible refine v_lenT (xs := ?xx) ?hsq ?_); (case hsq => walk_at "sq"))
  | ((with_reducible refine v_eq ?hs ?_); (case hs => exact rfl))
  | ((with_reducible refine v_ne ?hs ?_); (case hs => exact rfl))
  | (with_reducible intro _)
  | fail "no rule")
local macro_rules | `(tactic| walk_at "ic") => `(tactic| first
  | (show (0 : Int) < _; first | decide | omega | fail)
  | (show CMul _ _; unfold CMul; omega)
  | (show CDiv _ _; unfold CDiv; omega)
  | (show CPow _ _; unfold CPow; exact ⟨by decide, by decide, by decide⟩)
  | fail "no rule")
local macro_rules | `(tactic| walk_at "bt") => `(tactic| first
  | exact rfl
  | assumption
  | decide +kernel
  | (simp; done)
  | fail "no rule")
local macro_rules | `(tactic| walk_at "ty") => `(tactic| first
  | assumption
  | exact .non
  | exact .bl _
  | exact .int _
  | exact .str _
  | exact .lst (by walk_at "sq")
  | exact .tup (by walk_at "sq")
  | exact .dK (by walk_at "hp")
  | fail "no rule")
local macro_rules | `(tactic| walk_at "v") => `(tactic| try (walk_at "v1" <;> walk_at "v"))
local macro_rules | `(tactic| walk_at "start") => `(tactic| dsimp only [L2.start, cxOf, Cx.nox, Cx.wish, List.map, List.replicate, List.length, List.append, Nat.reduceSub, Nat.reduceAdd, List.cons_append, List.nil_append])

local macro_rules | `(tactic| walk_at "n1") => `(tactic| first
  | with_reducible refine v_seq ?_
  | with_reducible refine v_asg ?_
  | with_reducible refine v_gname ?_
  | with_reducible refine v_c ?_
  | ((with_reducible refine v_var (v := ?vv) ?hv ?_); (case hv => exact rfl))
  | with_reducible refine v_op ?_
  | with_reducible refine v_un ?_
  | with_reducible refine v_I0 ?_
  | with_reducible refine v_U ?_
  | with_reducible refine v_addI ?_
  | with_reducible refine v_ltI ?_
  | with_reducible refine v_leI ?_
  | with_reducible refine v_gtI ?_
  | with_reducible refine v_geI ?_
  | with_reducible refine v_leS ?_
  | with_reducible refine v_ltS ?_
  | with_reducible refine v_eqI ?_
  | with_reducible refine v_neI ?_
  | with_reducible refine v_eqS ?_
  | with_reducible refine v_neS ?_
  | with_reducible refine v_eqB ?_
  | ((with_reducible refine v_eqTy ?h1 ?h2 ?_); (case h1 => walk_at "bt"); (case h2 => walk_at "bt"))
  | ((with_reducible refine v_neTy ?h1 ?h2 ?_); (case h1 => walk_at "bt"); (case h2 => walk_at "bt"))
  | with_reducible refine v_test ?_
  | with_reducible refine v_B ?_
  | with_reducible refine v_isbl ?_
  | with_reducible refine v_and ?_
  | with_reducible refine v_or ?_
  | with_reducible refine v_not ?_
  | with_reducible refine v_andV ?_
  | with_reducible refine v_orV ?_
  | with_reducible refine v_notV ?_
  | with_reducible refine v_if ?_
  | with_reducible refine v_chain ?_
  | with_reducible refine v_nil ?_
  | with_reducible refine v_cons ?_
  | with_reducible refine v_cb ?_
  | with_reducible refine v_call ?_
  | with_reducible refine v_max ?_
  | ((with_reducible refine v_draw ?hs ?hm ?_); (case hs => walk_at "src"); (case hm => omega))
  | with_reducible refine v_min ?_
  | with_reducible refine v_intI ?_
  | with_reducible refine v_intB ?_
  | with_reducible refine v_m1 ?_
  | with_reducible refine v_isstr ?_
  | with_reducible refine v_sl ?_
  | with_reducible refine v_ss ?_
  | with_reducible refine v_disp1 ?_
  | with_reducible refine v_s0 ?_
  | with_reducible refine v_nopart ?_
  | with_reducible refine v_part ?_
  | with_reducible refine v_partI ?_
  | with_reducible refine v_next ?_
  | with_reducible refine v_gsub ?_
  | with_reducible refine v_ifS ?_
  | with_reducible refine v_ret ?_
  | with_reducible refine v_drop ?_
  | ((with_reducible refine v_iteTrue ?hb ?_); (case hb => walk_at "bt"))
  | ((with_reducible refine v_iteFalse ?hb ?_); (case hb => walk_at "bt"))
  | with_reducible refine v_iteD ?_ ?_
  | with_reducible refine v_iteNot ?_
  | with_reducible refine v_lc ?_
  | with_reducible refine v_iStr ?_
  | with_reducible refine v_isS ?_
  | with_reducible refine v_iRng1 ?_
  | ((with_reducible refine v_rng1 ?hb ?_); (case hb => omega))
  | with_reducible refine v_iList ?_
  | with_reducible refine v_iSeq ?_
  | ((with_reducible refine v_isL (xs := ?xx) ?hsq ?_); (case hsq => walk_at "sq"))
  | with_reducible refine v_for ?_
  | with_reducible refine v_yes ?_
  | ((with_reducible refine v_nand ?hw ?_); (case hw => first | exact rfl | walk_at "sz" | fail))
  | ((with_reducible refine v_typ (T := ?TT) ?ht ?_); (case ht => walk_at "ty"))
  | ((with_reducible refine v_isiK (T := ?TT) ?ht ?h1 ?h2 ?_); (case ht => walk_at "ty"); (case h1 => walk_at "bt"); (case h2 => exact rfl))
  | with_reducible refine iteT ?_
  | with_reducible refine iteF ?_
  | ((with_reducible refine v_lenL (xs := ?xx) ?hsq ?_); (case hsq => walk_at "sq"))
  | ((with_reducible refine v_setL (xs := ?xx) (j := ?jj) ?hh ?hj ?_); (case hh => walk_at "hp"); (case hj => exact rfl))
  | ((with_reducible refine v_I ?hc ?_); (case hc => walk_at "ic"))
  | ((with_reducible refine v_lenS ?hz ?_); (case hz => walk_at "sz"))
  | ((with_reducible refine v_slS ?hz ?_); (case hz => walk_at "sz"))
  | ((with_reducible refine v_addS ?hz ?_); (case hz => walk_at "sz"))
  | ((with_reducible refine v_ixS (c := ?cc) ?hz ?hat ?_); (case hz => walk_at "sz"); (case hat => exact rfl))
  | ((with_reducible refine v_ixT (xs := ?xx) (v := ?vv) ?hsq ?hat ?_); (case hsq => walk_at "sq"); (case hat => exact rfl))
  | ((with_reducible refine v_lenT (xs := ?xx) ?hsq ?_); (case hsq => walk_at "sq"))
  | ((with_reducible refine v_eq ?hs ?_); (case hs => exact rfl))
  | ((with_reducible refine v_ne ?hs ?_); (case hs => exact rfl))
  | (with_reducible intro _)
  | fail "no rule")
local macro_rules | `(tactic| walk_at "n") => `(tactic| try (walk_at "n1" <;> walk_at "n"))

variable {P : Program} {w : World} {K : PySem.W.Frag} {mg : Str → Option Value} {base : Heap}
variable {aF : Addr} {es : Array DictEntry} {nF : Nat}
theorem v_par {i j : Nat} {ta : TA} {D : Ends} {σ : L2.St} {H : Hp} (k : ta σ H fun vs H1 => ∃ v w, vs = [v, w] ∧ D.nx ((σ.set i (some v)).set j (some w)) H1) : tPar i j ta D σ H := k
/-! ### an instruction drawn -/
def okB (z : Str) : Bool := decide (z.length ≤ 100) && z.cps.toList.all (· < 128)
theorem okB_ok {z : Str} (h : okB z = true) : okS z := by
  unfold okB at h
  rw [Bool.and_eq_true, decide_eq_true_iff, List.all_eq_true] at h
  exact ⟨by omega, fun c hc => by have := of_decide_eq_true (h.2 c hc); omega⟩
def spMade (K : PySem.W.Frag) : Sp := fun vs H Q _ => ∃ (a : Addr) (size len : Int), vs = [.ref a, .int size, .int len] ∧ Src a H ∧ 0 < size ∧ size ≤ 10 ∧ 0 < len ∧ len ≤ 1000 ∧
  ∀ p xs l H', SqT K (off a H') p xs → RepL K (off a H') l xs → instrD size len (.tup l) = true → okL l → shapeD (.tup l) → l.length ≤ 10 → Dr a H H' → Q (.ref p) H'
theorem names_ok {n : Str} (h : n ∈ (["a", "b", "c", "top"] : List Str)) : nmD (.str n) = true ∧ okS n := by
  have all : ∀ n ∈ (["a", "b", "c", "top"] : List Str), nmD (.str n) = true ∧ okB n = true := by decide +kernel
  exact ⟨(all n h).1, okB_ok (all n h).2⟩
theorem typs_ok {n : Str} (h : n ∈ typs) : tpD (.str n) = true ∧ okS n := by
  have all : ∀ n ∈ typs, tpD (.str n) = true ∧ okB n = true := by decide +kernel
  exact ⟨(all n h).1, okB_ok (all n h).2⟩
theorem Dr_snoc {a p : Addr} {H X : Hp} {o : HO} (d : Dr a H X) (n : X p = none) : Dr a H (upd X p o) := d.trans (Dr.new d.src n)
theorem okL_strs : ∀ {l : List Str}, (∀ z ∈ l, z ∈ typs) → okL (l.map .str)
  | [], _ => trivial
  | z :: l, h => ⟨(typs_ok (h z List.mem_cons_self)).2, okL_strs fun w hw => h w (List.mem_cons_of_mem _ hw)⟩
theorem okL_ints : ∀ {l : List Int}, okL (l.map .int)
  | [] => trivial
  | z :: l => ⟨trivial, okL_ints⟩
theorem call_ok {size f s : Int} {w n n2 t2 : Str} {ks : List Str} {as : List Int} (hw : okS w) (hn : okS n) (C : callOk size n2 ks t2 as) : okL ([.str w, .int f, .int s, .str n] ++ callD n2 ks t2 as) := by
  have h2 : ∀ n ∈ (["f", "g"] : List Str), okB n = true := by decide +kernel
  exact ⟨hw, trivial, trivial, hn, okB_ok (h2 n2 C.n_ok), ⟨by have := C.many; rw [List.length_map]; omega, okL_strs C.ks_ok⟩, (typs_ok C.t_ok).2, ⟨by have := C.many; have := C.len; rw [List.length_map]; omega, okL_ints⟩, trivial⟩
theorem call_shape {f s : Int} {w n n2 t2 : Str} {ks : List Str} {as : List Int} : shapeD (.tup ([.str w, .int f, .int s, .str n] ++ callD n2 ks t2 as)) := by
  intro l e d hd m em g hg
  cases e
  subst em
  simp [callD] at hd
  rcases hd with rfl | rfl
  · obtain ⟨k, _, rfl⟩ := List.mem_map.mp hg; rfl
  · obtain ⟨k, _, rfl⟩ := List.mem_map.mp hg; rfl
theorem three {E : Int → Prop} {l : List Int} (h : l.length = 3) (hE : ∀ z ∈ l, E z) : ∃ f s t, l = [f, s, t] ∧ E f ∧ E s ∧ E t := by
  match l, h with
  | [f, s, t], _ => exact ⟨f, s, t, rfl, hE f (by simp), hE s (by simp), hE t (by simp)⟩
theorem ok_made {f : Addr} {fd : FuncData} (F : Fun K "_law_made" "_law_made" s_law_made f fd) (T : Txt K w mg aF es nF) (C_law_draw : Cal P w K mg base 1 "_law_draw" ["_law_source_here", "_law_amount"] spDraw) (C_law_pick : Cal P w K mg base 2 "_law_pick" ["_law_source_here", "_law_items"] (spPick K)) (C_law_type : Cal P w K mg base 3 "_law_type" ["_law_source_here"] (spTyp K))
    (C_law_call : Cal P w K mg base 4 "_law_call" ["_law_source_here", "_law_size"] (spCall K)) : FnOk P w K mg base CX0 5 f fd ["_law_source_here", "_law_size", "_law_length"] (spMade K) := by
  refine F.ok sc_law_made (fun vs H Q E h => ?_) (fun cdv A outer s H vs Q E hr h => ?_)
  · obtain ⟨a, size, len, rfl, _⟩ := h
    rfl
  · obtain ⟨a, size, len, rfl, hs, hz0, hz1, hl0, hl1, q⟩ := h
    refine ⟨_, (pss_cons (ps_set (i := 3) sc_law_made.nd rfl (by first | exact .inl rfl | exact .inr rfl) (pcall C_law_draw hr (by omega) (by rfl) (pa_cons (pv 0) (pa_cons pe_int pa_nil))))
      (pss_cons (ps_asg (pe_lc (own := [("_law_part", 10)]) (by rfl) sc_law_made.nd (pi_range1 (by rfl) T.b_range (pa_cons pe_int pa_nil)) (blkOk_by (N := ["_law_source_here", "_law_size", "_law_length", "_law_way", "_law_first", "_law_second", "_law_third", "_law_name", "_law_target", "_law_some", "_law_part"]) (sc := defScope s_law_made) (by decide +kernel)) (fun _ _ _ _ _ => (pg_name (i := 10) sc_law_made.nd rfl (by first | exact .inl rfl | exact .inr rfl))) (fun _ _ _ _ _ => pts_nil) (fun _ _ _ _ _ => (pcall C_law_draw hr (by omega) (by rfl) (pa_cons (pv 0) (pa_cons (pv 1) pa_nil))))) (kTupL (K := K) (n := 3) rfl (by rfl) (pgs_cons (pg_name (i := 4) sc_law_made.nd rfl (by first | exact .inl rfl | exact .inr rfl)) (pgs_cons (pg_name (i := 5) sc_law_made.nd rfl (by first | exact .inl rfl | exact .inr rfl)) (pgs_cons (pg_name (i := 6) sc_law_made.nd rfl (by first | exact .inl rfl | exact .inr rfl)) pgs_nil)))))
      (pss_cons (ps_par (i := 7) (j := 8) (by rfl) sc_law_made.nd rfl rfl (by decide) (by rfl) (by rfl) (pa_cons (pcall C_law_pick hr (by omega) (by rfl) (pa_cons (pv 0) (pa_cons (pe_lst (pa_cons pe_str (pa_cons pe_str (pa_cons pe_str (pa_cons pe_str pa_nil))))) pa_nil))) (pa_cons (pcall C_law_draw hr (by omega) (by rfl) (pa_cons (pv 0) (pa_cons (pv 2) pa_nil))) pa_nil)) (by rfl))
      (pss_cons (ps_if (pt_cmpR opLtU (pv 3) pe_int (nomark _)) (pss_one (ps_ret (pe_ix (kIx (K := K) rfl) (pe_lst (pa_cons (pe_tup (pa_cons pe_str (pa_cons (pv 4) (pa_cons (pv 7) pa_nil)))) (pa_cons (pe_tup (pa_cons pe_str (pa_cons (pv 4) (pa_cons (pv 7) (pa_cons (pv 6) pa_nil))))) (pa_cons (pe_tup (pa_cons pe_str (pa_cons (pv 4) pa_nil))) (pa_cons (pe_tup (pa_cons pe_str (pa_cons (pv 4) (pa_cons (pv 5) pa_nil)))) pa_nil))))) (pv 3) (fun _ _ => rfl)))) pss_nil)
      (pss_cons (ps_if (pt_cmpR (kEq (K := K) rfl hr.units) (pv 3) pe_int (nomark _)) (pss_one (ps_ret (pe_tup (pa_cons pe_str (pa_cons (pv 4) (pa_cons (pv 5) (pa_cons (pv 7) (pa_cons pe_str (pa_cons (pcall C_law_type hr (by omega) (by rfl) (pa_cons (pv 0) pa_nil)) pa_nil))))))))) pss_nil)
      (pss_cons (ps_if (pt_cmpR (kEq (K := K) rfl hr.units) (pv 3) pe_int (nomark _)) (pss_one (ps_ret (pe_tup (pa_cons pe_str (pa_cons (pv 4) (pa_cons (pv 7) (pa_cons pe_str (pa_cons (pcall C_law_type hr (by omega) (by rfl) (pa_cons (pv 0) pa_nil)) (pa_cons (pv 5) pa_nil))))))))) pss_nil)
      (pss_cons (ps_if (pt_cmpR (kEq (K := K) rfl hr.units) (pv 3) pe_int (nomark _)) (pss_one (ps_ret (pe_op (kAdd (K := K) rfl) (pe_tup (pa_cons pe_str (pa_cons (pv 4) (pa_cons (pv 5) (pa_cons (pv 7) pa_nil))))) (pcall C_law_call hr (by omega) (by rfl) (pa_cons (pv 0) (pa_cons (pv 1) pa_nil)))))) pss_nil)
      (pss_cons (ps_if (pt_cmpR (kEq (K := K) rfl hr.units) (pv 3) pe_int (nomark _)) (pss_one (ps_ret (pe_op (kAdd (K := K) rfl) (pe_tup (pa_cons pe_str (pa_cons (pv 4) (pa_cons (pv 5) (pa_cons (pv 7) pa_nil))))) (pcall C_law_call hr (by omega) (by rfl) (pa_cons (pv 0) (pa_cons (pv 1) pa_nil)))))) pss_nil)
      (pss_cons (ps_set (i := 9) sc_law_made.nd rfl (by first | exact .inl rfl | exact .inr rfl) (pe_lst (pa_cons (pe_tup (pa_cons pe_str (pa_cons (pv 4) (pa_cons (pv 5) (pa_cons (pv 7) pa_nil))))) (pa_cons (pe_tup (pa_cons pe_str (pa_cons (pv 4) (pa_cons (pv 5) (pa_cons pe_int pa_nil))))) (pa_cons (pe_tup (pa_cons pe_str (pa_cons (pv 4) (pa_cons pe_int (pa_cons (pv 5) pa_nil))))) pa_nil)))))
      (pss_cons (ps_set (i := 9) sc_law_made.nd rfl (by first | exact .inl rfl | exact .inr rfl) (pe_op (kAdd (K := K) rfl) (pv 9) (pe_lst (pa_cons (pe_tup (pa_cons pe_str (pa_cons (pv 8) pa_nil))) (pa_cons (pe_tup (pa_cons pe_str (pa_cons (pv 4) (pa_cons (pv 8) pa_nil)))) (pa_cons (pe_tup (pa_cons pe_str (pa_cons (pv 4) (pa_cons (pv 7) (pa_cons (pv 8) pa_nil))))) (pa_cons (pe_tup (pa_cons pe_str (pa_cons (pv 8) pa_nil))) pa_nil)))))))
      (pss_one (ps_ret (pe_ix (kIx (K := K) rfl) (pe_op (kAdd (K := K) rfl) (pv 9) (pe_lst (pa_cons (pe_tup (pa_cons pe_str (pa_cons (pv 4) pa_nil))) (pa_cons (pe_tup (pa_cons pe_str (pa_cons (pv 4) pa_nil))) pa_nil)))) (pe_op op_sub (pv 3) pe_int) (fun _ _ => rfl)))))))))))))), ?_⟩
    walk_at "start"
    walk_at "v"
    rename_i way H1 hw0 hw1 d1
    refine lc_dr d1.src (walk_upto (lo := 0) (n := 3)) hy_at (fun _ _ => trivial) (fun y => ∃ z : Int, y = .int z ∧ (0 ≤ z ∧ z < size)) (by decide) (fun x H4 R Rn hx d4 hR => ?_) (fun D H2 ys hD d2 e hlen hE => ?_)
    · walk_at "v"
      rename_i z H5 h0 h1 d5
      exact hR _ _ d5 ⟨z, rfl, h0, h1⟩
    · rw [upto_len] at hlen
      obtain ⟨as, rfl, has⟩ := ints_of hE
      obtain ⟨f, s, t, rfl, hf, hs2, ht⟩ := three (by simpa using hlen) has
      have d12 := d1.trans d2
      walk_at "v"
      refine v_gtupL (xs := [.int f, .int s, .int t]) (sq_lst e) rfl ?_
      refine v_gcons ?_
      walk_at "v"
      refine v_gcons ?_
      walk_at "v"
      refine v_gcons ?_
      walk_at "v"
      refine v_gnil ?_
      walk_at "v"
      refine v_par ?_
      walk_at "v"
      rename_i pl hpl
      refine ⟨a, pl, (["a", "b", "c", "top"] : List Str).map V.str, rfl, d12.src.upd (d12.src.ne hpl), (d12.src.ne hpl).symm, sq_lst upd_same, by decide, by decide, fun y H3 hy dr => ?_⟩
      obtain ⟨n, hn, rfl⟩ := mem_strs hy
      have d13 : Dr a H H3 := (d12.trans (Dr.new d12.src hpl)).trans dr
      walk_at "v"
      rename_i g H4 hg0 hg1 d4
      have d14 := d13.trans d4
      have M : ∀ ty, ty ∈ typs → Mem size len f s t g n ty := fun ty h => ⟨num_ok hf.1 (by omega), num_ok hs2.1 (by omega), num_ok ht.1 (by omega), num_ok ht.1 (by omega), num_ok hg0 (by omega), (names_ok hn).1, (typs_ok h).1⟩
      have okn := (names_ok hn).2
      have fin : ∀ (l : List Dat) (p : Addr) (H' : Hp), instrD size len (.tup l) = true → l.all scD = true → okL l → l.length ≤ 10 → p ≠ a → H' p = some (.tup (l.map toV)) → Dr a H H' → Q (.ref p) H' :=
        fun l p H' h1 h2 h3 h4 np e d => q p _ l H' (sqT_off np e) (repL_sc h2) h1 h3 (sc_shape h2) h4 d
      have src4 := d14.src
      clear hE hlen hD e d1 d2 dr hpl d12 d13 d4 hs has
      refine ⟨_, _, rfl, ?_⟩
      have hw : way = 0 ∨ way = 1 ∨ way = 2 ∨ way = 3 ∨ way = 4 ∨ way = 5 ∨ way = 6 ∨ way = 7 ∨ 8 ≤ way := by omega
      rcases hw with rfl | rfl | rfl | rfl | rfl | rfl | rfl | rfl | hw8
      · walk_at "v"
        exact fin [.str "new", .int f, .str n] _ _ (good_new (M "a" (by decide))) rfl ⟨okB_ok (by decide +kernel), trivial, okn, trivial⟩ (by simp) (by walk_at "ne") (by walk_at "hp") (by (repeat (refine Dr_snoc ?_ (by assumption))); assumption)
      · walk_at "v"
        exact fin [.str "array", .int f, .str n, .int t] _ _ (good_array (M "a" (by decide))) rfl ⟨okB_ok (by decide +kernel), trivial, okn, trivial, trivial⟩ (by simp) (by walk_at "ne") (by walk_at "hp") (by (repeat (refine Dr_snoc ?_ (by assumption))); assumption)
      · walk_at "v"
        exact fin [.str "null", .int f] _ _ (good_null (M "a" (by decide))) rfl ⟨okB_ok (by decide +kernel), trivial, trivial⟩ (by simp) (by walk_at "ne") (by walk_at "hp") (by (repeat (refine Dr_snoc ?_ (by assumption))); assumption)
      · walk_at "v"
        exact fin [.str "move", .int f, .int s] _ _ (good_move (M "a" (by decide))) rfl ⟨okB_ok (by decide +kernel), trivial, trivial, trivial⟩ (by simp) (by walk_at "ne") (by walk_at "hp") (by (repeat (refine Dr_snoc ?_ (by assumption))); assumption)
      · walk_at "v"
        refine ⟨a, rfl, src4, fun ty H5 hty d5 => ?_⟩
        have d15 := d14.trans d5
        have src5 := d15.src
        walk_at "v"
        exact fin [.str "get", .int f, .int s, .str n, .str "f", .str ty] _ _ (good_get (M ty hty)) rfl ⟨okB_ok (by decide +kernel), trivial, trivial, okn, okB_ok (by decide +kernel), (typs_ok hty).2, trivial⟩ (by simp) (by walk_at "ne") (by walk_at "hp") (by (repeat (refine Dr_snoc ?_ (by assumption))); assumption)
      · walk_at "v"
        refine ⟨a, rfl, src4, fun ty H5 hty d5 => ?_⟩
        have d15 := d14.trans d5
        have src5 := d15.src
        walk_at "v"
        exact fin [.str "put", .int f, .str n, .str "f", .str ty, .int s] _ _ (good_put (M ty hty)) rfl ⟨okB_ok (by decide +kernel), trivial, okn, okB_ok (by decide +kernel), (typs_ok hty).2, trivial, trivial⟩ (by simp) (by walk_at "ne") (by walk_at "hp") (by (repeat (refine Dr_snoc ?_ (by assumption))); assumption)
      · walk_at "v"
        rename_i p hp
        have d5 := Dr_snoc (o := .tup [.str "call", .int f, .int s, .str n]) d14 hp
        refine ⟨a, size, rfl, d5.src, hz0, by omega, fun pc xs n2 ks t2 as H5 hsq hrep hC d6 => ?_⟩
        have np : p ≠ a := (d14.src.ne hp).symm
        have ep := d6.keep _ _ upd_same np
        have d7 := d5.trans d6
        have hxl : xs.length = 4 := by rw [hrep.length]; rfl
        walk_at "v"
        refine v_addTO d7.src (sqT_off (K := K) np ep) hsq (by rw [hxl]; simp [sizeLine]) fun p6 H6 d8 hq6 => ?_
        exact q p6 _ _ H6 hq6 (RepL.append (l := [.str "call", .int f, .int s, .str n]) (repL_sc rfl) (hrep.same d8.off)) (call_good (by simp) (M "a" (by decide)).f_ok (M "a" (by decide)).s_ok (names_ok hn).1 hC) (call_ok (okB_ok (by decide +kernel)) okn hC) call_shape (by simp [callD]) (d7.trans d8)
      · walk_at "v"
        rename_i p hp
        have d5 := Dr_snoc (o := .tup [.str "ask", .int f, .int s, .str n]) d14 hp
        refine ⟨a, size, rfl, d5.src, hz0, by omega, fun pc xs n2 ks t2 as H5 hsq hrep hC d6 => ?_⟩
        have np : p ≠ a := (d14.src.ne hp).symm
        have ep := d6.keep _ _ upd_same np
        have d7 := d5.trans d6
        have hxl : xs.length = 4 := by rw [hrep.length]; rfl
        walk_at "v"
        refine v_addTO d7.src (sqT_off (K := K) np ep) hsq (by rw [hxl]; simp [sizeLine]) fun p6 H6 d8 hq6 => ?_
        exact q p6 _ _ H6 hq6 (RepL.append (l := [.str "ask", .int f, .int s, .str n]) (repL_sc rfl) (hrep.same d8.off)) (call_good (by simp) (M "a" (by decide)).f_ok (M "a" (by decide)).s_ok (names_ok hn).1 hC) (call_ok (okB_ok (by decide +kernel)) okn hC) call_shape (by simp [callD]) (d7.trans d8)
      · have d1H4 := d14
        walk_at "n"
        all_goals first | omega | skip
        refine v_lst ?_
        walk_at "n"
        refine v_tup ?_
        walk_at "n"
        rename_i t0 ht0
        have nt0 := (d1H4.src.ne ht0).symm
        have et0 : upd H4 t0 (.tup [.str "cast", .int f, .int s, .str n]) t0 = some (.tup [.str "cast", .int f, .int s, .str n]) := upd_same
        have st0 : Same H4 (upd H4 t0 (.tup [.str "cast", .int f, .int s, .str n])) := same_new ht0
        have d1H5 := Dr_snoc (o := .tup [.str "cast", .int f, .int s, .str n]) d1H4 ht0
        generalize upd H4 t0 (.tup [.str "cast", .int f, .int s, .str n]) = H5 at *
        walk_at "n"
        refine v_tup ?_
        walk_at "n"
        rename_i t1 ht1
        have nt1 := (d1H5.src.ne ht1).symm
        have et1 : upd H5 t1 (.tup [.str "load", .int f, .int s, .int 1]) t1 = some (.tup [.str "load", .int f, .int s, .int 1]) := upd_same
        have st1 : Same H5 (upd H5 t1 (.tup [.str "load", .int f, .int s, .int 1])) := same_new ht1
        have d1H6 := Dr_snoc (o := .tup [.str "load", .int f, .int s, .int 1]) d1H5 ht1
        generalize upd H5 t1 (.tup [.str "load", .int f, .int s, .int 1]) = H6 at *
        walk_at "n"
        refine v_tup ?_
        walk_at "n"
        rename_i t2 ht2 l0 hl0
        have nt2 := (d1H6.src.ne ht2).symm
        have et2 : upd H6 t2 (.tup [.str "store", .int f, .int 0, .int s]) t2 = some (.tup [.str "store", .int f, .int 0, .int s]) := upd_same
        have st2 : Same H6 (upd H6 t2 (.tup [.str "store", .int f, .int 0, .int s])) := same_new ht2
        have d1H7 := Dr_snoc (o := .tup [.str "store", .int f, .int 0, .int s]) d1H6 ht2
        generalize upd H6 t2 (.tup [.str "store", .int f, .int 0, .int s]) = H7 at *
        have nl0 := (d1H7.src.ne hl0).symm
        have el0 : upd H7 l0 (.lst [.ref t0, .ref t1, .ref t2]) l0 = some (.lst [.ref t0, .ref t1, .ref t2]) := upd_same
        have sl0 : Same H7 (upd H7 l0 (.lst [.ref t0, .ref t1, .ref t2])) := same_new hl0
        have d1H8 := Dr_snoc (o := .lst [.ref t0, .ref t1, .ref t2]) d1H7 hl0
        generalize upd H7 l0 (.lst [.ref t0, .ref t1, .ref t2]) = H8 at *
        walk_at "n"
        refine v_lst ?_
        walk_at "n"
        refine v_tup ?_
        walk_at "n"
        rename_i t3 ht3
        have nt3 := (d1H8.src.ne ht3).symm
        have et3 : upd H8 t3 (.tup [.str "jump", .int g]) t3 = some (.tup [.str "jump", .int g]) := upd_same
        have st3 : Same H8 (upd H8 t3 (.tup [.str "jump", .int g])) := same_new ht3
        have d1H9 := Dr_snoc (o := .tup [.str "jump", .int g]) d1H8 ht3
        generalize upd H8 t3 (.tup [.str "jump", .int g]) = H9 at *
        walk_at "n"
        refine v_tup ?_
        walk_at "n"
        rename_i t4 ht4
        have nt4 := (d1H9.src.ne ht4).symm
        have et4 : upd H9 t4 (.tup [.str "ifnull", .int f, .int g]) t4 = some (.tup [.str "ifnull", .int f, .int g]) := upd_same
        have st4 : Same H9 (upd H9 t4 (.tup [.str "ifnull", .int f, .int g])) := same_new ht4
        have d1H10 := Dr_snoc (o := .tup [.str "ifnull", .int f, .int g]) d1H9 ht4
        generalize upd H9 t4 (.tup [.str "ifnull", .int f, .int g]) = H10 at *
        walk_at "n"
        refine v_tup ?_
        walk_at "n"
        rename_i t5 ht5
        have nt5 := (d1H10.src.ne ht5).symm
        have et5 : upd H10 t5 (.tup [.str "ifis", .int f, .str n, .int g]) t5 = some (.tup [.str "ifis", .int f, .str n, .int g]) := upd_same
        have st5 : Same H10 (upd H10 t5 (.tup [.str "ifis", .int f, .str n, .int g])) := same_new ht5
        have d1H11 := Dr_snoc (o := .tup [.str "ifis", .int f, .str n, .int g]) d1H10 ht5
        generalize upd H10 t5 (.tup [.str "ifis", .int f, .str n, .int g]) = H11 at *
        walk_at "n"
        refine v_tup ?_
        walk_at "n"
        rename_i t6 ht6 l1 hl1
        have nt6 := (d1H11.src.ne ht6).symm
        have et6 : upd H11 t6 (.tup [.str "choose", .int g]) t6 = some (.tup [.str "choose", .int g]) := upd_same
        have st6 : Same H11 (upd H11 t6 (.tup [.str "choose", .int g])) := same_new ht6
        have d1H12 := Dr_snoc (o := .tup [.str "choose", .int g]) d1H11 ht6
        generalize upd H11 t6 (.tup [.str "choose", .int g]) = H12 at *
        have nl1 := (d1H12.src.ne hl1).symm
        have el1 : upd H12 l1 (.lst [.ref t3, .ref t4, .ref t5, .ref t6]) l1 = some (.lst [.ref t3, .ref t4, .ref t5, .ref t6]) := upd_same
        have sl1 : Same H12 (upd H12 l1 (.lst [.ref t3, .ref t4, .ref t5, .ref t6])) := same_new hl1
        have d1H13 := Dr_snoc (o := .lst [.ref t3, .ref t4, .ref t5, .ref t6]) d1H12 hl1
        generalize upd H12 l1 (.lst [.ref t3, .ref t4, .ref t5, .ref t6]) = H13 at *
        refine v_addL (xs := [.ref t0, .ref t1, .ref t2]) (ys := [.ref t3, .ref t4, .ref t5, .ref t6]) (by walk_at "hp") (by walk_at "hp") (by simp [sizeLine]) ?_
        walk_at "n"
        rename_i l2 hl2
        have nl2 := (d1H13.src.ne hl2).symm
        have el2 : upd H13 l2 (.lst ([.ref t0, .ref t1, .ref t2] ++ [.ref t3, .ref t4, .ref t5, .ref t6])) l2 = some (.lst ([.ref t0, .ref t1, .ref t2] ++ [.ref t3, .ref t4, .ref t5, .ref t6])) := upd_same
        have sl2 : Same H13 (upd H13 l2 (.lst ([.ref t0, .ref t1, .ref t2] ++ [.ref t3, .ref t4, .ref t5, .ref t6]))) := same_new hl2
        have d1H14 := Dr_snoc (o := .lst ([.ref t0, .ref t1, .ref t2] ++ [.ref t3, .ref t4, .ref t5, .ref t6])) d1H13 hl2
        generalize upd H13 l2 (.lst ([.ref t0, .ref t1, .ref t2] ++ [.ref t3, .ref t4, .ref t5, .ref t6])) = H14 at *
        walk_at "n"
        refine v_lst ?_
        walk_at "n"
        refine v_tup ?_
        walk_at "n"
        rename_i t7 ht7
        have nt7 := (d1H14.src.ne ht7).symm
        have et7 : upd H14 t7 (.tup [.str "tell", .int f]) t7 = some (.tup [.str "tell", .int f]) := upd_same
        have st7 : Same H14 (upd H14 t7 (.tup [.str "tell", .int f])) := same_new ht7
        have d1H15 := Dr_snoc (o := .tup [.str "tell", .int f]) d1H14 ht7
        generalize upd H14 t7 (.tup [.str "tell", .int f]) = H15 at *
        walk_at "n"
        refine v_tup ?_
        walk_at "n"
        rename_i t8 ht8 l3 hl3
        have nt8 := (d1H15.src.ne ht8).symm
        have et8 : upd H15 t8 (.tup [.str "return", .int f]) t8 = some (.tup [.str "return", .int f]) := upd_same
        have st8 : Same H15 (upd H15 t8 (.tup [.str "return", .int f])) := same_new ht8
        have d1H16 := Dr_snoc (o := .tup [.str "return", .int f]) d1H15 ht8
        generalize upd H15 t8 (.tup [.str "return", .int f]) = H16 at *
        have nl3 := (d1H16.src.ne hl3).symm
        have el3 : upd H16 l3 (.lst [.ref t7, .ref t8]) l3 = some (.lst [.ref t7, .ref t8]) := upd_same
        have sl3 : Same H16 (upd H16 l3 (.lst [.ref t7, .ref t8])) := same_new hl3
        have d1H17 := Dr_snoc (o := .lst [.ref t7, .ref t8]) d1H16 hl3
        generalize upd H16 l3 (.lst [.ref t7, .ref t8]) = H17 at *
        refine v_addL (xs := [.ref t0, .ref t1, .ref t2] ++ [.ref t3, .ref t4, .ref t5, .ref t6]) (ys := [.ref t7, .ref t8]) (by walk_at "hp") (by walk_at "hp") (by simp [sizeLine]) ?_
        walk_at "n"
        rename_i l4 hl4
        have nl4 := (d1H17.src.ne hl4).symm
        have el4 : upd H17 l4 (.lst ([.ref t0, .ref t1, .ref t2] ++ [.ref t3, .ref t4, .ref t5, .ref t6] ++ [.ref t7, .ref t8])) l4 = some (.lst ([.ref t0, .ref t1, .ref t2] ++ [.ref t3, .ref t4, .ref t5, .ref t6] ++ [.ref t7, .ref t8])) := upd_same
        have sl4 : Same H17 (upd H17 l4 (.lst ([.ref t0, .ref t1, .ref t2] ++ [.ref t3, .ref t4, .ref t5, .ref t6] ++ [.ref t7, .ref t8]))) := same_new hl4
        have d1H18 := Dr_snoc (o := .lst ([.ref t0, .ref t1, .ref t2] ++ [.ref t3, .ref t4, .ref t5, .ref t6] ++ [.ref t7, .ref t8])) d1H17 hl4
        generalize upd H17 l4 (.lst ([.ref t0, .ref t1, .ref t2] ++ [.ref t3, .ref t4, .ref t5, .ref t6] ++ [.ref t7, .ref t8])) = H18 at *
        walk_at "n"
        have hw : way = 8 ∨ way = 9 ∨ way = 10 ∨ way = 11 ∨ way = 12 ∨ way = 13 ∨ way = 14 ∨ way = 15 ∨ way = 16 := by omega
        rcases hw with rfl | rfl | rfl | rfl | rfl | rfl | rfl | rfl | rfl
        · refine v_ixL (v := .ref t0) (sq_lst el4) rfl ?_
          exact fin [.str "cast", .int f, .int s, .str n] t0 H18 (good_cast (M "a" (by decide))) rfl ⟨okB_ok (by decide +kernel), trivial, trivial, okn, trivial⟩ (by simp) nt0 (by walk_at "hp") d1H18
        · refine v_ixL (v := .ref t1) (sq_lst el4) rfl ?_
          exact fin [.str "load", .int f, .int s, .int 1] t1 H18 (good_load (M "a" (by decide))) rfl ⟨okB_ok (by decide +kernel), trivial, trivial, trivial, trivial⟩ (by simp) nt1 (by walk_at "hp") d1H18
        · refine v_ixL (v := .ref t2) (sq_lst el4) rfl ?_
          exact fin [.str "store", .int f, .int 0, .int s] t2 H18 (good_store (M "a" (by decide))) rfl ⟨okB_ok (by decide +kernel), trivial, trivial, trivial, trivial⟩ (by simp) nt2 (by walk_at "hp") d1H18
        · refine v_ixL (v := .ref t3) (sq_lst el4) rfl ?_
          exact fin [.str "jump", .int g] t3 H18 (good_jump (M "a" (by decide))) rfl ⟨okB_ok (by decide +kernel), trivial, trivial⟩ (by simp) nt3 (by walk_at "hp") d1H18
        · refine v_ixL (v := .ref t4) (sq_lst el4) rfl ?_
          exact fin [.str "ifnull", .int f, .int g] t4 H18 (good_ifnull (M "a" (by decide))) rfl ⟨okB_ok (by decide +kernel), trivial, trivial, trivial⟩ (by simp) nt4 (by walk_at "hp") d1H18
        · refine v_ixL (v := .ref t5) (sq_lst el4) rfl ?_
          exact fin [.str "ifis", .int f, .str n, .int g] t5 H18 (good_ifis (M "a" (by decide))) rfl ⟨okB_ok (by decide +kernel), trivial, okn, trivial, trivial⟩ (by simp) nt5 (by walk_at "hp") d1H18
        · refine v_ixL (v := .ref t6) (sq_lst el4) rfl ?_
          exact fin [.str "choose", .int g] t6 H18 (good_choose (M "a" (by decide))) rfl ⟨okB_ok (by decide +kernel), trivial, trivial⟩ (by simp) nt6 (by walk_at "hp") d1H18
        · refine v_ixL (v := .ref t7) (sq_lst el4) rfl ?_
          exact fin [.str "tell", .int f] t7 H18 (good_tell (M "a" (by decide))) rfl ⟨okB_ok (by decide +kernel), trivial, trivial⟩ (by simp) nt7 (by walk_at "hp") d1H18
        · refine v_ixL (v := .ref t8) (sq_lst el4) rfl ?_
          exact fin [.str "return", .int f] t8 H18 (good_return (M "a" (by decide))) rfl ⟨okB_ok (by decide +kernel), trivial, trivial⟩ (by simp) nt8 (by walk_at "hp") d1H18
end K02

namespace K02
open PySem PySem.Spec PyProof.Rows L2 Kit
local macro_rules | `(tactic| walk_at "ne") => `(tactic| first
  | assumption
  | (apply Ne.symm; assumption)
  | exact ne_of_none (by assumption) (by assumption)
  | exact (ne_of_none (by assumption) (by assumption)).symm
  | (refine ne_of_none (H := ?H0) (o := ?oo) ?hs ?hn; (case hn => assumption); (case hs => walk_at "hp"))
  | (refine (ne_of_none (H := ?H0) (o := ?oo) ?hs ?hn).symm; (case hn => assumption); (case hs => walk_at "hp"))
  | (refine Src.ne (H := ?H0) ?hs ?hn; (case hn => assumption); (case hs => walk_at "src"))
  | (refine (Src.ne (H := ?H0) ?hs ?hn).symm; (case hn => assumption); (case hs => walk_at "src"))
  | fail "no rule")
local macro_rules | `(tactic| walk_at "hp") => `(tactic| first
  | assumption
  | exact upd_same
  | (refine (upd_ne ?hne).trans ?hrest; (case hne => walk_at "ne"); (case hrest => walk_at "hp"))
  | (refine same_at (H := ?H0) ?hs ?hrest; (case hs => assumption); (case hrest => walk_at "hp"))
  | (refine dr_at (H := ?H0) (a := ?a0) ?hs ?hne ?hrest; (case hs => assumption); (case hne => walk_at "ne"); (case hrest => walk_at "hp"))
  | fail "no rule")
local macro_rules | `(tactic| walk_at "sq") => `(tactic| first
  | assumption
  | exact Or.inl (Or.inl (by walk_at "hp"))
  | (refine sq_upd ?hnn ?hss; (case hnn => assumption); (case hss => walk_at "sq"))
  | (refine Same.seq (H := ?H0) ?hs ?hrest; (case hs => assumption); (case hrest => walk_at "sq"))
  | (refine sq_dr (H := ?H0) (a := ?a0) ?hs ?hne ?hrest; (case hs => assumption); (case hne => walk_at "ne"); (case hrest => walk_at "sq"))
  | fail "no rule")
local macro_rules | `(tactic| walk_at "sm") => `(tactic| first
  | assumption
  | exact Same.refl _
  | (refine same_new ?hnn; (case hnn => assumption))
  | (refine same_mut ?hs ?hnn; (case hs => walk_at "sm"); (case hnn => walk_at "fr"))
  | (refine Same.trans (H1 := ?H1) ?hs ?hq; (case hq => assumption); (case hs => walk_at "sm"))
  | fail "no rule")
local macro_rules | `(tactic| walk_at "fr") => `(tactic| first
  | assumption
  | (refine Same.free (H' := ?H1) ?hs ?hq; (case hq => assumption); (case hs => walk_at "sm"))
  | fail "no rule")
local macro_rules | `(tactic| walk_at "src") => `(tactic| first
  | assumption
  | exact Dr.src (by assumption)
  | (refine Src.same (H := ?H0) ?hs ?hm; (case hm => assumption); (case hs => walk_at "src"))
  | (refine Src.upd ?hs ?hn; (case hs => walk_at "src"); (case hn => walk_at "ne"))
  | fail "no rule")
local macro_rules | `(tactic| walk_at "fd") => `(tactic| first
  | assumption
  | (refine Same.free (H' := ?H1) ?hs ?hq; (case hq => assumption); (case hs => walk_at "sm"))
  | (refine Dr.free (H' := ?H1) ?h0 ?hs ?hq; (case hq => assumption); (case hs => walk_at "dr"); (case h0 => walk_at "src"))
  | fail "no rule")
local macro_rules | `(tactic| walk_at "dr") => `(tactic| first
  | assumption
  | (refine Dr.trans (H' := ?H1) ?hs ?hq; (case hq => assumption); (case hs => walk_at "dr"))
  | (refine Dr.mut ?hs ?h0 ?hn; (case hs => walk_at "dr"); (case h0 => walk_at "src"); (case hn => walk_at "fd"))
  | (refine Dr.trans (H' := ?H1) ?hs (Dr.same ?h0 ?hq); (case hq => assumption); (case h0 => walk_at "src"); (case hs => walk_at "dr"))
  | (refine Dr.refl ?hs; (case hs => walk_at "src"))
  | fail "no rule")
local macro_rules | `(tactic| walk_at "sz") => `(tactic| first
  | omega
  | (refine Nat.le_trans ?_ (show (1000 : Nat) ≤ sizeLine by decide); first | decide | omega | (simp; done) | (simp; omega) | fail)
  | fail "no rule")
local macro_rules | `(tactic| walk_at "v1") => `(tactic| first
  | with_reducible refine v_seq ?_
  | with_reducible refine v_asg ?_
  | with_reducible refine v_gname ?_
  | with_reducible refine v_c ?_
  | ((with_reducible refine v_var (v := ?vv) ?hv ?_); (case hv => exact rfl))
  | with_reducible refine v_op ?_
  | with_reducible refine v_un ?_
  | with_reducible refine v_I0 ?_
  | with_reducible refine v_U ?_
  | with_reducible refine v_addI ?_
  | with_reducible refine v_ltI ?_
  | with_reducible refine v_leI ?_
  | with_reducible refine v_gtI ?_
  | with_reducible refine v_geI ?_
  | with_reducible refine v_leS ?_
  | with_reducible refine v_ltS ?_
  | with_reducible refine v_eqI ?_
  | with_reducible refine v_neI ?_
  | with_reducible refine v_eqS ?_
  | with_reducible refine v_neS ?_
  | with_reducible refine v_eqB ?_
  | ((with_reducible refine v_eqTy ?h1 ?h2 ?_); (case h1 => walk_at "bt"); (case h2 => walk_at "bt"))
  | ((with_reducible refine v_neTy ?h1 ?h2 ?_); (case h1 => walk_at "bt"); (case h2 => walk_at "bt"))
  | with_reducible refine v_test ?_
  | with_reducible refine v_B ?_
  | with_reducible refine v_isbl ?_
  | with_reducible refine v_and ?_
  | with_reducible refine v_or ?_
  | with_reducible refine v_not ?_
  | with_reducible refine v_andV ?_
  | with_reducible refine v_orV ?_
  | with_reducible refine v_notV ?_
  | with_reducible refine v_if ?_
  | with_reducible refine v_chain ?_
  | with_reducible refine v_nil ?_
  | with_reducible refine v_cons ?_
  | with_reducible refine v_cb ?_
  | with_reducible refine v_call ?_
  | with_reducible refine v_max ?_
  | ((with_reducible refine v_draw ?hs ?hm ?_); (case hs => walk_at "src"); (case hm => omega))
  | with_reducible refine v_min ?_
  | with_reducible refine v_intI ?_
  | with_reducible refine v_intB ?_
  | with_reducible refine v_m1 ?_
  | with_reducible refine v_isstr ?_
  | with_reducible refine v_sl ?_
  | with_reducible refine v_ss ?_
  | with_reducible refine v_disp1 ?_
  | with_reducible refine v_s0 ?_
  | with_reducible refine v_nopart ?_
  | with_reducible refine v_part ?_
  | with_reducible refine v_partI ?_
  | with_reducible refine v_next ?_
  | with_reducible refine v_gsub ?_
  | with_reducible refine v_ifS ?_
  | with_reducible refine v_ret ?_
  | with_reducible refine v_drop ?_
  | ((with_reducible refine v_iteTrue ?hb ?_); (case hb => walk_at "bt"))
  | ((with_reducible refine v_iteFalse ?hb ?_); (case hb => walk_at "bt"))
  | with_reducible refine v_iteD ?_ ?_
  | with_reducible refine v_iteNot ?_
  | with_reducible refine v_lc ?_
  | with_reducible refine v_iStr ?_
  | with_reducible refine v_isS ?_
  | with_reducible refine v_iRng1 ?_
  | ((with_reducible refine v_rng1 ?hb ?_); (case hb => omega))
  | with_reducible refine v_iList ?_
  | with_reducible refine v_iSeq ?_
  | ((with_reducible refine v_isL (xs := ?xx) ?hsq ?_); (case hsq => walk_at "sq"))
  | with_reducible refine v_for ?_
  | with_reducible refine v_yes ?_
  | ((with_reducible refine v_nand ?hw ?_); (case hw => first | exact rfl | walk_at "sz" | fail))
  | ((with_reducible refine v_typ (T := ?TT) ?ht ?_); (case ht => walk_at "ty"))
  | ((with_reducible refine v_isiK (T := ?TT) ?ht ?h1 ?h2 ?_); (case ht => walk_at "ty"); (case h1 => walk_at "bt"); (case h2 => exact rfl))
  | with_reducible refine iteT ?_
  | with_reducible refine iteF ?_
  | with_reducible refine v_tup ?_
  | with_reducible refine v_lst ?_
  | ((with_reducible refine v_ixL (xs := ?xx) (v := ?vv) ?hsq ?hat ?_); (case hsq => walk_at "sq"); (case hat => exact rfl))
  | ((with_reducible refine v_lenL (xs := ?xx) ?hsq ?_); (case hsq => walk_at "sq"))
  | ((with_reducible refine v_setL (xs := ?xx) (j := ?jj) ?hh ?hj ?_); (case hh => walk_at "hp"); (case hj => exact rfl))
  | ((with_reducible refine v_I ?hc ?_); (case hc => walk_at "ic"))
  | ((with_reducible refine v_lenS ?hz ?_); (case hz => walk_at "sz"))
  | ((with_reducible refine v_slS ?hz ?_); (case hz => walk_at "sz"))
  | ((with_reducible refine v_addS ?hz ?_); (case hz => walk_at "sz"))
  | ((with_reducible refine v_ixS (c := ?cc) ?hz ?hat ?_); (case hz => walk_at "sz"); (case hat => exact rfl))
  | ((with_reducible refine v_addL (xs := ?xx) (ys := ?yy) ?h1 ?h2 ?hz ?_); (case h1 => walk_at "hp"); (case h2 => walk_at "hp"); (case hz => walk_at "sz"))
  | ((with_reducible refine v_ixT (xs := ?xx) (v := ?vv) ?hsq ?hat ?_); (case hsq => walk_at "sq"); (case hat => exact rfl))
  | ((with_reducible refine v_lenT (xs := ?xx) ?hsq ?_); (case hsq => walk_at "sq"))
  | ((with_reducible refine v_eq ?hs ?_); (case hs => exact rfl))
  | ((with_reducible refine v_ne ?hs ?_); (case hs => exact rfl))
  | (with_reducible intro _)
  | fail "no rule")
local macro_rules | `(tactic| walk_at "ic") => `(tactic| first
  | (show (0 : Int) < _; first | decide | omega | fail)
  | (show CMul _ _; unfold CMul; omega)
  | (show CDiv _ _; unfold CDiv; omega)
  | (show CPow _ _; unfold CPow; exact ⟨by decide, by decide, by decide⟩)
  | fail "no rule")
local macro_rules | `(tactic| walk_at "bt") => `(tactic| first
  | exact rfl
  | assumption
  | decide +kernel
  | (simp; done)
  | fail "no rule")
local macro_rules | `(tactic| walk_at "ty") => `(tactic| first
  | assumption
  | exact .non
  | exact .bl _
  | exact .int _
  | exact .str _
  | exact .lst (by walk_at "sq")
  | exact .tup (by walk_at "sq")
  | exact .dK (by walk_at "hp")
  | fail "no rule")
local macro_rules | `(tactic| walk_at "v") => `(tactic| try (walk_at "v1" <;> walk_at "v"))
local macro_rules | `(tactic| walk_at "start") => `(tactic| dsimp only [L2.start, cxOf, Cx.nox, Cx.wish, List.map, List.replicate, List.length, List.append, Nat.reduceSub, Nat.reduceAdd, List.cons_append, List.nil_append])

local macro_rules | `(tactic| walk_at "n1") => `(tactic| first
  | with_reducible refine v_seq ?_
  | with_reducible refine v_asg ?_
  | with_reducible refine v_gname ?_
  | with_reducible refine v_c ?_
  | ((with_reducible refine v_var (v := ?vv) ?hv ?_); (case hv => exact rfl))
  | with_reducible refine v_op ?_
  | with_reducible refine v_un ?_
  | with_reducible refine v_I0 ?_
  | with_reducible refine v_U ?_
  | with_reducible refine v_addI ?_
  | with_reducible refine v_ltI ?_
  | with_reducible refine v_leI ?_
  | with_reducible refine v_gtI ?_
  | with_reducible refine v_geI ?_
  | with_reducible refine v_leS ?_
  | with_reducible refine v_ltS ?_
  | with_reducible refine v_eqI ?_
  | with_reducible refine v_neI ?_
  | with_reducible refine v_eqS ?_
  | with_reducible refine v_neS ?_
  | with_reducible refine v_eqB ?_
  | ((with_reducible refine v_eqTy ?h1 ?h2 ?_); (case h1 => walk_at "bt"); (case h2 => walk_at "bt"))
  | ((with_reducible refine v_neTy ?h1 ?h2 ?_); (case h1 => walk_at "bt"); (case h2 => walk_at "bt"))
  | with_reducible refine v_test ?_
  | with_reducible refine v_B ?_
  | with_reducible refine v_isbl ?_
  | with_reducible refine v_and ?_
  | with_reducible refine v_or ?_
  | with_reducible refine v_not ?_
  | with_reducible refine v_andV ?_
  | with_reducible refine v_orV ?_
  | with_reducible refine v_notV ?_
  | with_reducible refine v_if ?_
  | with_reducible refine v_chain ?_
  | with_reducible refine v_nil ?_
  | with_reducible refine v_cons ?_
  | with_reducible refine v_cb ?_
  | with_reducible refine v_call ?_
  | with_reducible refine v_max ?_
  | ((with_reducible refine v_draw ?hs ?hm ?_); (case hs => walk_at "src"); (case hm => omega))
  | with_reducible refine v_min ?_
  | with_reducible refine v_intI ?_
  | with_reducible refine v_intB ?_
  | with_reducible refine v_m1 ?_
  | with_reducible refine v_isstr ?_
  | with_reducible refine v_sl ?_
  | with_reducible refine v_ss ?_
  | with_reducible refine v_disp1 ?_
  | with_reducible refine v_s0 ?_
  | with_reducible refine v_nopart ?_
  | with_reducible refine v_part ?_
  | with_reducible refine v_partI ?_
  | with_reducible refine v_next ?_
  | with_reducible refine v_gsub ?_
  | with_reducible refine v_ifS ?_
  | with_reducible refine v_ret ?_
  | with_reducible refine v_drop ?_
  | ((with_reducible refine v_iteTrue ?hb ?_); (case hb => walk_at "bt"))
  | ((with_reducible refine v_iteFalse ?hb ?_); (case hb => walk_at "bt"))
  | with_reducible refine v_iteD ?_ ?_
  | with_reducible refine v_iteNot ?_
  | with_reducible refine v_lc ?_
  | with_reducible refine v_iStr ?_
  | with_reducible refine v_isS ?_
  | with_reducible refine v_iRng1 ?_
  | ((with_reducible refine v_rng1 ?hb ?_); (case hb => omega))
  | with_reducible refine v_iList ?_
  | with_reducible refine v_iSeq ?_
  | ((with_reducible refine v_isL (xs := ?xx) ?hsq ?_); (case hsq => walk_at "sq"))
  | with_reducible refine v_for ?_
  | with_reducible refine v_yes ?_
  | ((with_reducible refine v_nand ?hw ?_); (case hw => first | exact rfl | walk_at "sz" | fail))
  | ((with_reducible refine v_typ (T := ?TT) ?ht ?_); (case ht => walk_at "ty"))
  | ((with_reducible refine v_isiK (T := ?TT) ?ht ?h1 ?h2 ?_); (case ht => walk_at "ty"); (case h1 => walk_at "bt"); (case h2 => exact rfl))
  | with_reducible refine iteT ?_
  | with_reducible refine iteF ?_
  | ((with_reducible refine v_lenL (xs := ?xx) ?hsq ?_); (case hsq => walk_at "sq"))
  | ((with_reducible refine v_setL (xs := ?xx) (j := ?jj) ?hh ?hj ?_); (case hh => walk_at "hp"); (case hj => exact rfl))
  | ((with_reducible refine v_I ?hc ?_); (case hc => walk_at "ic"))
  | ((with_reducible refine v_lenS ?hz ?_); (case hz => walk_at "sz"))
  | ((with_reducible refine v_slS ?hz ?_); (case hz => walk_at "sz"))
  | ((with_reducible refine v_addS ?hz ?_); (case hz => walk_at "sz"))
  | ((with_reducible refine v_ixS (c := ?cc) ?hz ?hat ?_); (case hz => walk_at "sz"); (case hat => exact rfl))
  | ((with_reducible refine v_ixT (xs := ?xx) (v := ?vv) ?hsq ?hat ?_); (case hsq => walk_at "sq"); (case hat => exact rfl))
  | ((with_reducible refine v_lenT (xs := ?xx) ?hsq ?_); (case hsq => walk_at "sq"))
  | ((with_reducible refine v_eq ?hs ?_); (case hs => exact rfl))
  | ((with_reducible refine v_ne ?hs ?_); (case hs => exact rfl))
  | (with_reducible intro _)
  | fail "no rule")
local macro_rules | `(tactic| walk_at "n") => `(tactic| try (walk_at "n1" <;> walk_at "n"))
variable {P : Program} {w : World} {K : PySem.W.Frag} {mg : Str → Option Value} {base : Heap}
variable {aF : Addr} {es : Array DictEntry} {nF : Nat}
/-! ### things that are no instructions -/
theorem v_dnew {σ : L2.St} {H : Hp} {Q : VK} (k : ∀ p, H p = none → Q (.ref p) (upd H p (.dK []))) : tDNewK σ H Q := k
def ThD (K : PySem.W.Frag) (H : Hp) (y : V) : Prop := ∃ d, Rep K H d y ∧ okD d ∧ ∀ l, d = .tup l → ∀ e ∈ l, flatD e = true
theorem th_sc {H : Hp} {d : Dat} {y : V} (r : Rep K H d y) (o : okD d) (h : scD d = true) : ThD K H y := ⟨d, r, o, fun l e => by subst e; cases h⟩
theorem th_tup {a p : Addr} {H : Hp} (l : List Dat) (n : p ≠ a) (e : H p = some (.tup (l.map toV))) (h : l.all scD = true) (ok : okL l) (hl : l.length ≤ 1000) : ThD K (off a H) (.ref p) := by
  refine ⟨.tup l, rep_tup n e (repL_sc h), ⟨hl, ok⟩, fun m em d hd => ?_⟩
  cases em
  have := List.all_eq_true.mp h d hd
  cases d <;> first | rfl | cases this
theorem th_lst {a p : Addr} {H : Hp} (l : List Dat) (n : p ≠ a) (e : H p = some (.lst (l.map toV))) (h : l.all scD = true) (ok : okL l) (hl : l.length ≤ 1000) : ThD K (off a H) (.ref p) :=
  ⟨.lst l, rep_lst n e (repL_sc h), ⟨hl, ok⟩, fun m em => by cases em⟩
theorem th_dct {a p : Addr} {H : Hp} (n : p ≠ a) (e : H p = some (.dK [])) : ThD K (off a H) (.ref p) :=
  ⟨.dct, ⟨p, [], rfl, by rw [off_ne n]; exact e⟩, trivial, fun m em => by cases em⟩
def spOdd (K : PySem.W.Frag) : Sp := fun vs H Q _ => ∃ a : Addr, vs = [.ref a] ∧ Src a H ∧ ∀ y d H', Rep K (off a H') d y → okD d → (∀ l, d = .tup l → ∀ e ∈ l, flatD e = true) → Dr a H H' → Q y H'
end K02

namespace K02
open PySem PySem.Spec PyProof.Rows L2 Kit
local macro_rules | `(tactic| walk_at "ne") => `(tactic| first
  | assumption
  | (apply Ne.symm; assumption)
  | exact ne_of_none (by assumption) (by assumption)
  | exact (ne_of_none (by assumption) (by assumption)).symm
  | (refine ne_of_none (H := ?H0) (o := ?oo) ?hs ?hn; (case hn => assumption); (case hs => walk_at "hp"))
  | (refine (ne_of_none (H := ?H0) (o := ?oo) ?hs ?hn).symm; (case hn => assumption); (case hs => walk_at "hp"))
  | (refine Src.ne (H := ?H0) ?hs ?hn; (case hn => assumption); (case hs => walk_at "src"))
  | (refine (Src.ne (H := ?H0) ?hs ?hn).symm; (case hn => assumption); (case hs => walk_at "src"))
  | fail "no rule")
local macro_rules | `(tactic| walk_at "hp") => `(tactic| first
  | assumption
  | exact upd_same
  | (refine (upd_ne ?hne).trans ?hrest; (case hne => walk_at "ne"); (case hrest => walk_at "hp"))
  | (refine same_at (H := ?H0) ?hs ?hrest; (case hs => assumption); (case hrest => walk_at "hp"))
  | (refine dr_at (H := ?H0) (a := ?a0) ?hs ?hne ?hrest; (case hs => assumption); (case hne => walk_at "ne"); (case hrest => walk_at "hp"))
  | fail "no rule")
local macro_rules | `(tactic| walk_at "sq") => `(tactic| first
  | assumption
  | exact Or.inl (Or.inl (by walk_at "hp"))
  | (refine sq_upd ?hnn ?hss; (case hnn => assumption); (case hss => walk_at "sq"))
  | (refine Same.seq (H := ?H0) ?hs ?hrest; (case hs => assumption); (case hrest => walk_at "sq"))
  | (refine sq_dr (H := ?H0) (a := ?a0) ?hs ?hne ?hrest; (case hs => assumption); (case hne => walk_at "ne"); (case hrest => walk_at "sq"))
  | fail "no rule")
local macro_rules | `(tactic| walk_at "sm") => `(tactic| first
  | assumption
  | exact Same.refl _
  | (refine same_new ?hnn; (case hnn => assumption))
  | (refine same_mut ?hs ?hnn; (case hs => walk_at "sm"); (case hnn => walk_at "fr"))
  | (refine Same.trans (H1 := ?H1) ?hs ?hq; (case hq => assumption); (case hs => walk_at "sm"))
  | fail "no rule")
local macro_rules | `(tactic| walk_at "fr") => `(tactic| first
  | assumption
  | (refine Same.free (H' := ?H1) ?hs ?hq; (case hq => assumption); (case hs => walk_at "sm"))
  | fail "no rule")
local macro_rules | `(tactic| walk_at "src") => `(tactic| first
  | assumption
  | exact Dr.src (by assumption)
  | (refine Src.same (H := ?H0) ?hs ?hm; (case hm => assumption); (case hs => walk_at "src"))
  | (refine Src.upd ?hs ?hn; (case hs => walk_at "src"); (case hn => walk_at "ne"))
  | fail "no rule")
local macro_rules | `(tactic| walk_at "fd") => `(tactic| first
  | assumption
  | (refine Same.free (H' := ?H1) ?hs ?hq; (case hq => assumption); (case hs => walk_at "sm"))
  | (refine Dr.free (H' := ?H1) ?h0 ?hs ?hq; (case hq => assumption); (case hs => walk_at "dr"); (case h0 => walk_at "src"))
  | fail "no rule")
local macro_rules | `(tactic| walk_at "dr") => `(tactic| first
  | assumption
  | (refine Dr.trans (H' := ?H1) ?hs ?hq; (case hq => assumption); (case hs => walk_at "dr"))
  | (refine Dr.mut ?hs ?h0 ?hn; (case hs => walk_at "dr"); (case h0 => walk_at "src"); (case hn => walk_at "fd"))
  | (refine Dr.trans (H' := ?H1) ?hs (Dr.same ?h0 ?hq); (case hq => assumption); (case h0 => walk_at "src"); (case hs => walk_at "dr"))
  | (refine Dr.refl ?hs; (case hs => walk_at "src"))
  | fail "no rule")
local macro_rules | `(tactic| walk_at "sz") => `(tactic| first
  | omega
  | (refine Nat.le_trans ?_ (show (1000 : Nat) ≤ sizeLine by decide); first | decide | omega | (simp; done) | (simp; omega) | fail)
  | fail "no rule")
local macro_rules | `(tactic| walk_at "v1") => `(tactic| first
  | with_reducible refine v_seq ?_
  | with_reducible refine v_asg ?_
  | with_reducible refine v_gname ?_
  | with_reducible refine v_c ?_
  | ((with_reducible refine v_var (v := ?vv) ?hv ?_); (case hv => exact rfl))
  | with_reducible refine v_op ?_
  | with_reducible refine v_un ?_
  | with_reducible refine v_I0 ?_
  | with_reducible refine v_U ?_
  | with_reducible refine v_addI ?_
  | with_reducible refine v_ltI ?_
  | with_reducible refine v_leI ?_
  | with_reducible refine v_gtI ?_
  | with_reducible refine v_geI ?_
  | with_reducible refine v_leS ?_
  | with_reducible refine v_ltS ?_
  | with_reducible refine v_eqI ?_
  | with_reducible refine v_neI ?_
  | with_reducible refine v_eqS ?_
  | with_reducible refine v_neS ?_
  | with_reducible refine v_eqB ?_
  | ((with_reducible refine v_eqTy ?h1 ?h2 ?_); (case h1 => walk_at "bt"); (case h2 => walk_at "bt"))
  | ((with_reducible refine v_neTy ?h1 ?h2 ?_); (case h1 => walk_at "bt"); (case h2 => walk_at "bt"))
  | with_reducible refine v_test ?_
  | with_reducible refine v_B ?_
  | with_reducible refine v_isbl ?_
  | with_reducible refine v_and ?_
  | with_reducible refine v_or ?_
  | with_reducible refine v_not ?_
  | with_reducible refine v_andV ?_
  | with_reducible refine v_orV ?_
  | with_reducible refine v_notV ?_
  | with_reducible refine v_if ?_
  | with_reducible refine v_chain ?_
  | with_reducible refine v_nil ?_
  | with_reducible refine v_cons ?_
  | with_reducible refine v_cb ?_
  | with_reducible refine v_call ?_
  | with_reducible refine v_max ?_
  | ((with_reducible refine v_draw ?hs ?hm ?_); (case hs => walk_at "src"); (case hm => omega))
  | with_reducible refine v_min ?_
  | with_reducible refine v_intI ?_
  | with_reducible refine v_intB ?_
  | with_reducible refine v_m1 ?_
  | with_reducible refine v_isstr ?_
  | with_reducible refine v_sl ?_
  | with_reducible refine v_ss ?_
  | with_reducible refine v_disp1 ?_
  | with_reducible refine v_s0 ?_
  | with_reducible refine v_nopart ?_
  | with_reducible refine v_part ?_
  | with_reducible refine v_partI ?_
  | with_reducible refine v_next ?_
  | with_reducible refine v_gsub ?_
  | with_reducible refine v_ifS ?_
  | with_reducible refine v_ret ?_
  | with_reducible refine v_drop ?_
  | ((with_reducible refine v_iteTrue ?hb ?_); (case hb => walk_at "bt"))
  | ((with_reducible refine v_iteFalse ?hb ?_); (case hb => walk_at "bt"))
  | with_reducible refine v_iteD ?_ ?_
  | with_reducible refine v_iteNot ?_
  | with_reducible refine v_lc ?_
  | with_reducible refine v_iStr ?_
  | with_reducible refine v_isS ?_
  | with_reducible refine v_iRng1 ?_
  | ((with_reducible refine v_rng1 ?hb ?_); (case hb => omega))
  | with_reducible refine v_iList ?_
  | with_reducible refine v_iSeq ?_
  | ((with_reducible refine v_isL (xs := ?xx) ?hsq ?_); (case hsq => walk_at "sq"))
  | with_reducible refine v_for ?_
  | with_reducible refine v_yes ?_
  | ((with_reducible refine v_nand ?hw ?_); (case hw => first | exact rfl | walk_at "sz" | fail))
  | ((with_reducible refine v_typ (T := ?TT) ?ht ?_); (case ht => walk_at "ty"))
  | ((with_reducible refine v_isiK (T := ?TT) ?ht ?h1 ?h2 ?_); (case ht => walk_at "ty"); (case h1 => walk_at "bt"); (case h2 => exact rfl))
  | with_reducible refine iteT ?_
  | with_reducible refine iteF ?_
  | with_reducible refine v_tup ?_
  | with_reducible refine v_lst ?_
  | ((with_reducible refine v_ixL (xs := ?xx) (v := ?vv) ?hsq ?hat ?_); (case hsq => walk_at "sq"); (case hat => exact rfl))
  | ((with_reducible refine v_lenL (xs := ?xx) ?hsq ?_); (case hsq => walk_at "sq"))
  | ((with_reducible refine v_setL (xs := ?xx) (j := ?jj) ?hh ?hj ?_); (case hh => walk_at "hp"); (case hj => exact rfl))
  | ((with_reducible refine v_I ?hc ?_); (case hc => walk_at "ic"))
  | ((with_reducible refine v_lenS ?hz ?_); (case hz => walk_at "sz"))
  | ((with_reducible refine v_slS ?hz ?_); (case hz => walk_at "sz"))
  | ((with_reducible refine v_addS ?hz ?_); (case hz => walk_at "sz"))
  | ((with_reducible refine v_ixS (c := ?cc) ?hz ?hat ?_); (case hz => walk_at "sz"); (case hat => exact rfl))
  | ((with_reducible refine v_addL (xs := ?xx) (ys := ?yy) ?h1 ?h2 ?hz ?_); (case h1 => walk_at "hp"); (case h2 => walk_at "hp"); (case hz => walk_at "sz"))
  | ((with_reducible refine v_ixT (xs := ?xx) (v := ?vv) ?hsq ?hat ?_); (case hsq => walk_at "sq"); (case hat => exact rfl))
  | ((with_reducible refine v_lenT (xs := ?xx) ?hsq ?_); (case hsq => walk_at "sq"))
  | ((with_reducible refine v_eq ?hs ?_); (case hs => exact rfl))
  | ((with_reducible refine v_ne ?hs ?_); (case hs => exact rfl))
  | (with_reducible intro _)
  | fail "no rule")
local macro_rules | `(tactic| walk_at "ic") => `(tactic| first
  | (show (0 : Int) < _; first | decide | omega | fail)
  | (show CMul _ _; unfold CMul; omega)
  | (show CDiv _ _; unfold CDiv; omega)
  | (show CPow _ _; unfold CPow; exact ⟨by decide, by decide, by decide⟩)
  | fail "no rule")
local macro_rules | `(tactic| walk_at "bt") => `(tactic| first
  | exact rfl
  | assumption
  | decide +kernel
  | (simp; done)
  | fail "no rule")
local macro_rules | `(tactic| walk_at "ty") => `(tactic| first
  | assumption
  | exact .non
  | exact .bl _
  | exact .int _
  | exact .str _
  | exact .lst (by walk_at "sq")
  | exact .tup (by walk_at "sq")
  | exact .dK (by walk_at "hp")
  | fail "no rule")
local macro_rules | `(tactic| walk_at "v") => `(tactic| try (walk_at "v1" <;> walk_at "v"))
local macro_rules | `(tactic| walk_at "start") => `(tactic| dsimp only [L2.start, cxOf, Cx.nox, Cx.wish, List.map, List.replicate, List.length, List.append, Nat.reduceSub, Nat.reduceAdd, List.cons_append, List.nil_append])

variable {P : Program} {w : World} {K : PySem.W.Frag} {mg : Str → Option Value} {base : Heap}
variable {aF : Addr} {es : Array DictEntry} {nF : Nat}
/-! ### bent -/
def goodD (d : Dat) : Prop := okD d ∧ ∀ m, d = .tup m → ∀ g ∈ m, flatD g = true
theorem okL_of : ∀ {l : List Dat}, (∀ d ∈ l, okD d) → okL l
  | [], _ => trivial
  | d :: l, h => ⟨h d List.mem_cons_self, okL_of fun e he => h e (List.mem_cons_of_mem _ he)⟩
theorem good_tup {l : List Dat} (h : ∀ d ∈ l, goodD d) (hl : l.length ≤ 1000) : okD (.tup l) ∧ shapeD (.tup l) :=
  ⟨⟨hl, okL_of fun d hd => (h d hd).1⟩, fun m e d hd k ek g hg => by cases e; exact (h d hd).2 k ek g hg⟩
theorem good_of {l : List Dat} (h : okL l) (hs : shapeD (.tup l)) : ∀ d ∈ l, goodD d := fun d hd => ⟨h.mem hd, fun m e g hg => hs l rfl d hd m e g hg⟩
theorem cut_rep {H : Hp} {l : List Dat} {xs : List V} {lo hi : Option Int} (r : RepL K H l xs) : ∃ l', RepL K H l' (cutV xs lo hi) ∧ (∀ d ∈ l', d ∈ l) ∧ l'.length ≤ l.length := by
  refine ⟨(l.drop (HT.sIx xs.length 0 lo)).take (HT.sIx xs.length xs.length hi - HT.sIx xs.length 0 lo), RepL.take _ (RepL.drop _ r), fun d hd => List.mem_of_mem_drop (List.mem_of_mem_take hd), ?_⟩
  rw [List.length_take, List.length_drop]
  omega
structure Pc (K : PySem.W.Frag) (a : Addr) (H : Hp) (p : Addr) (xs : List V) (l : List Dat) (n : Nat) : Prop where
  sq : SqT K (off a H) p xs
  rep : RepL K (off a H) l xs
  good : ∀ d ∈ l, goodD d
  len : l.length ≤ n
theorem Pc.dr {a p : Addr} {H H' : Hp} {xs : List V} {l : List Dat} {n : Nat} (x : Pc K a H p xs l n) (d : Dr a H H') : Pc K a H' p xs l n := ⟨sqT_same d.off x.sq, x.rep.same d.off, x.good, x.len⟩
theorem v_pcCut {a p : Addr} {H : Hp} {xs : List V} {l : List Dat} {n : Nat} {lo hi : Option Int} {Q : VK} (hs : Src a H) (x : Pc K a H p xs l n) (k : ∀ p' xs' l' H', Dr a H H' → Pc K a H' p' xs' l' n → Q (.ref p') H') : rSlU K (.ref p) lo hi H Q := by
  refine v_slTO hs x.sq fun p' H' d hq => ?_
  obtain ⟨l', r, hm, hl⟩ := cut_rep (lo := lo) (hi := hi) (x.rep.same d.off)
  exact k p' _ l' H' d ⟨hq, r, fun e he => x.good e (hm e he), Nat.le_trans hl x.len⟩
theorem v_pcAdd {a p p2 : Addr} {H : Hp} {xs xs2 : List V} {l l2 : List Dat} {n m : Nat} {Q : VK} (hs : Src a H) (x : Pc K a H p xs l n) (y : Pc K a H p2 xs2 l2 m) (hz : n + m ≤ 1000) (k : ∀ p' H', Dr a H H' → Pc K a H' p' (xs ++ xs2) (l ++ l2) (n + m) → Q (.ref p') H') : rAddU K (.ref p) (.ref p2) H Q := by
  refine v_addTO hs x.sq y.sq ?_ fun p' H' d hq => k p' H' d ⟨hq, RepL.append (x.rep.same d.off) (y.rep.same d.off), fun e he => ?_, ?_⟩
  · rw [x.rep.length, y.rep.length]
    have := x.len; have := y.len
    exact Nat.le_trans (by omega : l.length + l2.length ≤ 1000) (by decide)
  · rcases List.mem_append.mp he with h | h
    · exact x.good e h
    · exact y.good e h
  · rw [List.length_append]
    have := x.len; have := y.len
    omega
theorem Pc.end {a p : Addr} {H : Hp} {xs : List V} {l : List Dat} {n : Nat} (x : Pc K a H p xs l n) (hn : n ≤ 1000) : Rep K (off a H) (.tup l) (.ref p) ∧ okD (.tup l) ∧ shapeD (.tup l) :=
  ⟨⟨p, xs, rfl, x.sq, x.rep⟩, good_tup x.good (Nat.le_trans x.len hn)⟩
def spBent (K : PySem.W.Frag) : Sp := fun vs H Q _ => ∃ (a b : Addr) (xs : List V) (l : List Dat), vs = [.ref a, .ref b] ∧ Src a H ∧ SqT K (off a H) b xs ∧ RepL K (off a H) l xs ∧ (∀ d ∈ l, goodD d) ∧ 0 < l.length ∧ l.length ≤ 10 ∧
  ∀ y d H', Rep K (off a H') d y → okD d → shapeD d → Dr a H H' → Q y H'
end K02

namespace K02
open PySem PySem.Spec PyProof.Rows L2 Kit
local macro_rules | `(tactic| walk_at "ne") => `(tactic| first
  | assumption
  | (apply Ne.symm; assumption)
  | exact ne_of_none (by assumption) (by assumption)
  | exact (ne_of_none (by assumption) (by assumption)).symm
  | (refine ne_of_none (H := ?H0) (o := ?oo) ?hs ?hn; (case hn => assumption); (case hs => walk_at "hp"))
  | (refine (ne_of_none (H := ?H0) (o := ?oo) ?hs ?hn).symm; (case hn => assumption); (case hs => walk_at "hp"))
  | (refine Src.ne (H := ?H0) ?hs ?hn; (case hn => assumption); (case hs => walk_at "src"))
  | (refine (Src.ne (H := ?H0) ?hs ?hn).symm; (case hn => assumption); (case hs => walk_at "src"))
  | fail "no rule")
local macro_rules | `(tactic| walk_at "hp") => `(tactic| first
  | assumption
  | exact upd_same
  | (refine (upd_ne ?hne).trans ?hrest; (case hne => walk_at "ne"); (case hrest => walk_at "hp"))
  | (refine same_at (H := ?H0) ?hs ?hrest; (case hs => assumption); (case hrest => walk_at "hp"))
  | (refine dr_at (H := ?H0) (a := ?a0) ?hs ?hne ?hrest; (case hs => assumption); (case hne => walk_at "ne"); (case hrest => walk_at "hp"))
  | fail "no rule")
local macro_rules | `(tactic| walk_at "sq") => `(tactic| first
  | assumption
  | exact Or.inl (Or.inl (by walk_at "hp"))
  | (refine sq_upd ?hnn ?hss; (case hnn => assumption); (case hss => walk_at "sq"))
  | (refine Same.seq (H := ?H0) ?hs ?hrest; (case hs => assumption); (case hrest => walk_at "sq"))
  | (refine sq_dr (H := ?H0) (a := ?a0) ?hs ?hne ?hrest; (case hs => assumption); (case hne => walk_at "ne"); (case hrest => walk_at "sq"))
  | fail "no rule")
local macro_rules | `(tactic| walk_at "sm") => `(tactic| first
  | assumption
  | exact Same.refl _
  | (refine same_new ?hnn; (case hnn => assumption))
  | (refine same_mut ?hs ?hnn; (case hs => walk_at "sm"); (case hnn => walk_at "fr"))
  | (refine Same.trans (H1 := ?H1) ?hs ?hq; (case hq => assumption); (case hs => walk_at "sm"))
  | fail "no rule")
local macro_rules | `(tactic| walk_at "fr") => `(tactic| first
  | assumption
  | (refine Same.free (H' := ?H1) ?hs ?hq; (case hq => assumption); (case hs => walk_at "sm"))
  | fail "no rule")
local macro_rules | `(tactic| walk_at "src") => `(tactic| first
  | assumption
  | exact Dr.src (by assumption)
  | (refine Src.same (H := ?H0) ?hs ?hm; (case hm => assumption); (case hs => walk_at "src"))
  | (refine Src.upd ?hs ?hn; (case hs => walk_at "src"); (case hn => walk_at "ne"))
  | fail "no rule")
local macro_rules | `(tactic| walk_at "fd") => `(tactic| first
  | assumption
  | (refine Same.free (H' := ?H1) ?hs ?hq; (case hq => assumption); (case hs => walk_at "sm"))
  | (refine Dr.free (H' := ?H1) ?h0 ?hs ?hq; (case hq => assumption); (case hs => walk_at "dr"); (case h0 => walk_at "src"))
  | fail "no rule")
local macro_rules | `(tactic| walk_at "dr") => `(tactic| first
  | assumption
  | (refine Dr.trans (H' := ?H1) ?hs ?hq; (case hq => assumption); (case hs => walk_at "dr"))
  | (refine Dr.mut ?hs ?h0 ?hn; (case hs => walk_at "dr"); (case h0 => walk_at "src"); (case hn => walk_at "fd"))
  | (refine Dr.trans (H' := ?H1) ?hs (Dr.same ?h0 ?hq); (case hq => assumption); (case h0 => walk_at "src"); (case hs => walk_at "dr"))
  | (refine Dr.refl ?hs; (case hs => walk_at "src"))
  | fail "no rule")
local macro_rules | `(tactic| walk_at "sz") => `(tactic| first
  | omega
  | (refine Nat.le_trans ?_ (show (1000 : Nat) ≤ sizeLine by decide); first | decide | omega | (simp; done) | (simp; omega) | fail)
  | fail "no rule")
local macro_rules | `(tactic| walk_at "v1") => `(tactic| first
  | with_reducible refine v_seq ?_
  | with_reducible refine v_asg ?_
  | with_reducible refine v_gname ?_
  | with_reducible refine v_c ?_
  | ((with_reducible refine v_var (v := ?vv) ?hv ?_); (case hv => exact rfl))
  | with_reducible refine v_op ?_
  | with_reducible refine v_un ?_
  | with_reducible refine v_I0 ?_
  | with_reducible refine v_U ?_
  | with_reducible refine v_addI ?_
  | with_reducible refine v_ltI ?_
  | with_reducible refine v_leI ?_
  | with_reducible refine v_gtI ?_
  | with_reducible refine v_geI ?_
  | with_reducible refine v_leS ?_
  | with_reducible refine v_ltS ?_
  | with_reducible refine v_eqI ?_
  | with_reducible refine v_neI ?_
  | with_reducible refine v_eqS ?_
  | with_reducible refine v_neS ?_
  | with_reducible refine v_eqB ?_
  | ((with_reducible refine v_eqTy ?h1 ?h2 ?_); (case h1 => walk_at "bt"); (case h2 => walk_at "bt"))
  | ((with_reducible refine v_neTy ?h1 ?h2 ?_); (case h1 => walk_at "bt"); (case h2 => walk_at "bt"))
  | with_reducible refine v_test ?_
  | with_reducible refine v_B ?_
  | with_reducible refine v_isbl ?_
  | with_reducible refine v_and ?_
  | with_reducible refine v_or ?_
  | with_reducible refine v_not ?_
  | with_reducible refine v_andV ?_
  | with_reducible refine v_orV ?_
  | with_reducible refine v_notV ?_
  | with_reducible refine v_if ?_
  | with_reducible refine v_chain ?_
  | with_reducible refine v_nil ?_
  | with_reducible refine v_cons ?_
  | with_reducible refine v_cb ?_
  | with_reducible refine v_call ?_
  | with_reducible refine v_max ?_
  | ((with_reducible refine v_draw ?hs ?hm ?_); (case hs => walk_at "src"); (case hm => omega))
  | with_reducible refine v_min ?_
  | with_reducible refine v_intI ?_
  | with_reducible refine v_intB ?_
  | with_reducible refine v_m1 ?_
  | with_reducible refine v_isstr ?_
  | with_reducible refine v_sl ?_
  | with_reducible refine v_ss ?_
  | with_reducible refine v_disp1 ?_
  | with_reducible refine v_s0 ?_
  | with_reducible refine v_nopart ?_
  | with_reducible refine v_part ?_
  | with_reducible refine v_partI ?_
  | with_reducible refine v_next ?_
  | with_reducible refine v_gsub ?_
  | with_reducible refine v_ifS ?_
  | with_reducible refine v_ret ?_
  | with_reducible refine v_drop ?_
  | ((with_reducible refine v_iteTrue ?hb ?_); (case hb => walk_at "bt"))
  | ((with_reducible refine v_iteFalse ?hb ?_); (case hb => walk_at "bt"))
  | with_reducible refine v_iteD ?_ ?_
  | with_reducible refine v_iteNot ?_
  | with_reducible refine v_lc ?_
  | with_reducible refine v_iStr ?_
  | with_reducible refine v_isS ?_
  | with_reducible refine v_iRng1 ?_
  | ((with_reducible refine v_rng1 ?hb ?_); (case hb => omega))
  | with_reducible refine v_iList ?_
  | with_reducible refine v_iSeq ?_
  | ((with_reducible refine v_isL (xs := ?xx) ?hsq ?_); (case hsq => walk_at "sq"))
  | with_reducible refine v_for ?_
  | with_reducible refine v_yes ?_
  | ((with_reducible refine v_nand ?hw ?_); (case hw => first | exact rfl | walk_at "sz" | fail))
  | ((with_reducible refine v_typ (T := ?TT) ?ht ?_); (case ht => walk_at "ty"))
  | ((with_reducible refine v_isiK (T := ?TT) ?ht ?h1 ?h2 ?_); (case ht => walk_at "ty"); (case h1 => walk_at "bt"); (case h2 => exact rfl))
  | with_reducible refine iteT ?_
  | with_reducible refine iteF ?_
  | with_reducible refine v_tup ?_
  | with_reducible refine v_lst ?_
  | ((with_reducible refine v_ixL (xs := ?xx) (v := ?vv) ?hsq ?hat ?_); (case hsq => walk_at "sq"); (case hat => exact rfl))
  | ((with_reducible refine v_lenL (xs := ?xx) ?hsq ?_); (case hsq => walk_at "sq"))
  | ((with_reducible refine v_setL (xs := ?xx) (j := ?jj) ?hh ?hj ?_); (case hh => walk_at "hp"); (case hj => exact rfl))
  | ((with_reducible refine v_I ?hc ?_); (case hc => walk_at "ic"))
  | ((with_reducible refine v_lenS ?hz ?_); (case hz => walk_at "sz"))
  | ((with_reducible refine v_slS ?hz ?_); (case hz => walk_at "sz"))
  | ((with_reducible refine v_addS ?hz ?_); (case hz => walk_at "sz"))
  | ((with_reducible refine v_ixS (c := ?cc) ?hz ?hat ?_); (case hz => walk_at "sz"); (case hat => exact rfl))
  | ((with_reducible refine v_addL (xs := ?xx) (ys := ?yy) ?h1 ?h2 ?hz ?_); (case h1 => walk_at "hp"); (case h2 => walk_at "hp"); (case hz => walk_at "sz"))
  | ((with_reducible refine v_ixT (xs := ?xx) (v := ?vv) ?hsq ?hat ?_); (case hsq => walk_at "sq"); (case hat => exact rfl))
  | ((with_reducible refine v_lenT (xs := ?xx) ?hsq ?_); (case hsq => walk_at "sq"))
  | ((with_reducible refine v_eq ?hs ?_); (case hs => exact rfl))
  | ((with_reducible refine v_ne ?hs ?_); (case hs => exact rfl))
  | (with_reducible intro _)
  | fail "no rule")
local macro_rules | `(tactic| walk_at "ic") => `(tactic| first
  | (show (0 : Int) < _; first | decide | omega | fail)
  | (show CMul _ _; unfold CMul; omega)
  | (show CDiv _ _; unfold CDiv; omega)
  | (show CPow _ _; unfold CPow; exact ⟨by decide, by decide, by decide⟩)
  | fail "no rule")
local macro_rules | `(tactic| walk_at "bt") => `(tactic| first
  | exact rfl
  | assumption
  | decide +kernel
  | (simp; done)
  | fail "no rule")
local macro_rules | `(tactic| walk_at "ty") => `(tactic| first
  | assumption
  | exact .non
  | exact .bl _
  | exact .int _
  | exact .str _
  | exact .lst (by walk_at "sq")
  | exact .tup (by walk_at "sq")
  | exact .dK (by walk_at "hp")
  | fail "no rule")
local macro_rules | `(tactic| walk_at "v") => `(tactic| try (walk_at "v1" <;> walk_at "v"))
local macro_rules | `(tactic| walk_at "start") => `(tactic| dsimp only [L2.start, cxOf, Cx.nox, Cx.wish, List.map, List.replicate, List.length, List.append, Nat.reduceSub, Nat.reduceAdd, List.cons_append, List.nil_append])

variable {P : Program} {w : World} {K : PySem.W.Frag} {mg : Str → Option Value} {base : Heap}
variable {aF : Addr} {es : Array DictEntry} {nF : Nat}
theorem sqT_off' {H : Hp} {p : Addr} {xs : List V} (h : H p = some (.tup xs)) : SqT K H p xs := .inl (.inl h)
/-! ### the code of a method -/
def spSeries (K : PySem.W.Frag) : Sp := fun vs H Q _ => ∃ (x : V) (l : List Dat) (most : Int), vs = [x, .int most] ∧ SeqAt2 K H x l ∧ ∀ H', Same H H' → Q (.bl (decide ((l.length : Int) ≤ most))) H'
theorem ok_is_series {f : Addr} {fd : FuncData} (F : Fun K "is_series" "is_series" s_is_series f fd) (T : Txt K w mg aF es nF) : FnOk P w K mg base CX0 1 f fd ["value", "most"] (spSeries K) := by
  refine F.ok sc_is_series (fun vs H Q E h => ?_) (fun cdv A outer s H vs Q E hr h => ?_)
  · obtain ⟨x, l, m, rfl, _⟩ := h
    rfl
  · obtain ⟨x, l, m, rfl, hx, q⟩ := h
    refine ⟨_, (pss_one (ps_ret (pe_and (pe_cmpR (kIn (K := K) rfl) (pe_callTy (kType (K := K) rfl) (by rfl) T.b_type (by decide +kernel) (pa_cons (pv 0) pa_nil)) (pe_tup (pa_cons (pbty (n := "list") (by rfl) T.b_list (by decide +kernel)) (pa_cons (pbty (n := "tuple") (by rfl) T.b_tuple (by decide +kernel)) pa_nil))) (by rfl)) (pe_one (pe_cmpR opLeU (pe_callB (kLen (K := K) rfl) (by rfl) T.b_len (by decide +kernel) (pa_cons (pv 0) pa_nil)) (pv 1) (nomark _)))))), ?_⟩
    walk_at "start"
    rcases hx with hx | hx
    · have ht := hx.ty
      obtain ⟨a, xs, rfl, hq, hr2⟩ := hx
      have hl := hr2.length
      walk_at "v"
      refine v_inTy (ts := ["list", "tuple"]) (sqT_off' upd_same) rfl (by decide) ?_
      walk_at "v"
      rename_i p hp
      refine v_lenT (sqT_same (same_new hp) hq) ?_
      walk_at "v"
      rw [hl]
      exact q _ (same_new hp)
    · have ht := hx.ty
      obtain ⟨a, xs, rfl, hq, hr2⟩ := hx
      have hl := hr2.length
      walk_at "v"
      refine v_inTy (ts := ["list", "tuple"]) (sqT_off' upd_same) rfl (by decide) ?_
      walk_at "v"
      rename_i p hp
      rw [hl]
      exact q _ (same_new hp)
def spCode (K : PySem.W.Frag) : Sp := fun vs H Q _ => ∃ (x : V) (l : List Dat) (size : Int), vs = [x, .int size] ∧ SeqAt2 K H x l ∧ okL l ∧ l.length ≤ 1000 ∧ ∀ H', Same H H' → Q (.bl (decide (0 < l.length) && decide (l.length ≤ 40) && l.all (instrD size l.length))) H'
theorem ok_is_code {f : Addr} {fd : FuncData} (F : Fun K "is_code" "is_code" s_is_code f fd) (T : Txt K w mg aF es nF) (C_is_series : Cal P w K mg base 1 "is_series" ["value", "most"] (spSeries K)) (C_is_instruction_within : Cal P w K mg base 5 "is_instruction_within" ["value", "size", "length"] (spWithin K)) :
    FnOk P w K mg base CX0 6 f fd ["value", "size"] (spCode K) := by
  refine F.ok sc_is_code (fun vs H Q E h => ?_) (fun cdv A outer s H vs Q E hr h => ?_)
  · obtain ⟨x, l, m, rfl, _⟩ := h
    rfl
  · obtain ⟨x, l, size, rfl, hx, hok, hlen, q⟩ := h
    refine ⟨_, (pss_cons (ps_if (PW.pt (pw_or (pt_not (pt_val (pcall C_is_series hr (by omega) (by rfl) (pa_cons (pv 0) (pa_cons (pglob (by rfl) T.g_MOST_CODE) pa_nil))))) (pw_or1 (pt_cmpR (kEq (K := K) rfl hr.units) (pe_callB (kLen (K := K) rfl) (by rfl) T.b_len (by decide +kernel) (pa_cons (pv 0) pa_nil)) pe_int (nomark _))))) (pss_one (ps_ret pe_bl)) pss_nil)
      (pss_one (ps_ret (pe_callB (kAll (K := K) rfl) (by rfl) T.b_all (by decide +kernel) (pa_cons (pe_lc (own := [("item", 2)]) (by rfl) sc_is_code.nd (kSeq (K := K) rfl (pv 0)) (blkOk_by (N := ["value", "size", "item"]) (sc := defScope s_is_code) (by decide +kernel)) (fun _ _ _ _ _ => (pg_name (i := 2) sc_is_code.nd rfl (by first | exact .inl rfl | exact .inr rfl))) (fun _ _ _ _ _ => pts_nil) (fun _ _ _ _ _ => (pcall C_is_instruction_within hr (by omega) (by rfl) (pa_cons (pv 2) (pa_cons (pv 1) (pa_cons (pe_callB (kLen (K := K) rfl) (by rfl) T.b_len (by decide +kernel) (pa_cons (pv 0) pa_nil)) pa_nil)))))) pa_nil))))), ?_⟩
    walk_at "start"
    walk_at "v"
    refine ⟨x, l, 40, rfl, hx, fun H1 s1 => ?_⟩
    obtain ⟨a, xs, rfl, hr2, hseq⟩ := seq_cases hx
    have hl := hr2.length
    by_cases h40 : (l.length : Int) ≤ 40
    · rw [decide_eq_true h40]
      have h40' : l.length ≤ 40 := by omega
      walk_at "v"
      have lenS : ∀ H' (R : V → Hp → Prop), Same H H' → R (.int xs.length) H' → rLenU K [.ref a] H' R := by
        intro H' R s' k
        rcases hseq with hq | hq
        · exact v_lenT (sqT_same s' hq) k
        · exact v_lenL (s'.seq hq) k
      refine lenS _ _ s1 ?_
      walk_at "v"
      · rename_i h0
        have e : decide (0 < l.length) = false := decide_eq_false (by omega)
        rw [e] at q
        exact q _ s1
      · rename_i h0
        have e : decide (0 < l.length) = true := decide_eq_true (by omega)
        rw [e, decide_eq_true h40', Bool.true_and, Bool.true_and] at q
        have turn : ∀ (i : Nat) (y : V) (H2 : Hp) (R : V → Hp → Prop), xs[i]? = some y → Same H1 H2 → (∀ z H5, Same H2 H5 → some (V.bl (instrD size l.length (l.getD i .non))) = some z → R z H5) → spWithin K ([y, .int size, .int xs.length] ++ []) H2 R E0 := by
          intro i y H2 R hi s2 hR
          obtain ⟨d, hd, hrd⟩ := hr2.at hi
          have e : l.getD i .non = d := by simp [List.getD_eq_getElem?_getD, hd]
          refine ⟨y, d, size, xs.length, rfl, hrd.same (s1.trans s2), hok.mem (List.mem_of_getElem? hd), fun H5 s5 => hR _ _ s5 ?_⟩
          rw [e, hl]
        have fin : ∀ D H', H1 D = none → Same H1 H' → H' D = some (.lst ((List.range xs.length).filterMap fun i => some (V.bl (instrD size l.length (l.getD i .non))))) → rAll K [.ref D] H' Q := by
          intro D H' hD s' e
          refine v_all (bs := (List.range l.length).map fun i => instrD size l.length (l.getD i .non)) (sq_lst (by rw [e, hl, bl_list])) ?_
          rw [all_range]
          exact q H' (s1.trans s')
        rcases hseq with hq | hq
        · refine v_iSeqT (sqT_same s1 hq) ?_
          refine lc_i walk_tup hy_at (fun _ s' => sqT_same (s1.trans s') hq) (fun i => some (V.bl (instrD size l.length (l.getD i .non)))) (by rw [hl]; exact small1000 hlen) (fun i y H2 R Rn hi s2 hR _ => ?_) (fun D H' hD s' e => ?_)
          · walk_at "v"
            refine lenS _ _ (s1.trans s2) ?_
            walk_at "v"
            exact turn i y H2 R hi s2 hR
          · walk_at "v"
            exact fin D H' hD s' e
        · refine v_iSeqL (s1.seq hq) ?_
          refine lc_i walk_list hy_at (fun _ s' => (s1.trans s').seq hq) (fun i => some (V.bl (instrD size l.length (l.getD i .non)))) (by rw [hl]; exact small1000 hlen) (fun i y H2 R Rn hi s2 hR _ => ?_) (fun D H' hD s' e => ?_)
          · walk_at "v"
            exact turn i y H2 R hi s2 hR
          · walk_at "v"
            exact fin D H' hD s' e
    · rw [decide_eq_false h40]
      have e : decide (l.length ≤ 40) = false := decide_eq_false (by omega)
      rw [e, Bool.and_false, Bool.false_and] at q
      walk_at "v"
      exact q _ s1
def spReq : Sp := fun vs H Q _ => ∃ x : V, vs = [.bl true, x] ∧ Q .non H
theorem ok_require {f : Addr} {fd : FuncData} (F : Fun K "require" "require" s_require f fd) (T : Txt K w mg aF es nF) : FnOk P w K mg base CX0 1 f fd ["right", "given"] spReq := by
  refine F.ok sc_require (fun vs H Q E h => ?_) (fun cdv A outer s H vs Q E hr h => ?_)
  · obtain ⟨x, rfl, _⟩ := h
    rfl
  · obtain ⟨x, rfl, q⟩ := h
    refine ⟨_, (pss_one (ps_if (pt_not (pt_val (pv 0))) (pss_one ps_never) pss_nil)), ?_⟩
    walk_at "start"
    walk_at "v"
    exact q
end K02

namespace K02
open PySem PySem.Spec PyProof.Rows L2 Kit
local macro_rules | `(tactic| walk_at "ne") => `(tactic| first
  | assumption
  | (apply Ne.symm; assumption)
  | exact ne_of_none (by assumption) (by assumption)
  | exact (ne_of_none (by assumption) (by assumption)).symm
  | (refine ne_of_none (H := ?H0) (o := ?oo) ?hs ?hn; (case hn => assumption); (case hs => walk_at "hp"))
  | (refine (ne_of_none (H := ?H0) (o := ?oo) ?hs ?hn).symm; (case hn => assumption); (case hs => walk_at "hp"))
  | (refine Src.ne (H := ?H0) ?hs ?hn; (case hn => assumption); (case hs => walk_at "src"))
  | (refine (Src.ne (H := ?H0) ?hs ?hn).symm; (case hn => assumption); (case hs => walk_at "src"))
  | fail "no rule")
local macro_rules | `(tactic| walk_at "hp") => `(tactic| first
  | assumption
  | exact upd_same
  | (refine (upd_ne ?hne).trans ?hrest; (case hne => walk_at "ne"); (case hrest => walk_at "hp"))
  | (refine same_at (H := ?H0) ?hs ?hrest; (case hs => assumption); (case hrest => walk_at "hp"))
  | (refine dr_at (H := ?H0) (a := ?a0) ?hs ?hne ?hrest; (case hs => assumption); (case hne => walk_at "ne"); (case hrest => walk_at "hp"))
  | fail "no rule")
local macro_rules | `(tactic| walk_at "sq") => `(tactic| first
  | assumption
  | exact Or.inl (Or.inl (by walk_at "hp"))
  | (refine sq_upd ?hnn ?hss; (case hnn => assumption); (case hss => walk_at "sq"))
  | (refine Same.seq (H := ?H0) ?hs ?hrest; (case hs => assumption); (case hrest => walk_at "sq"))
  | (refine sq_dr (H := ?H0) (a := ?a0) ?hs ?hne ?hrest; (case hs => assumption); (case hne => walk_at "ne"); (case hrest => walk_at "sq"))
  | fail "no rule")
local macro_rules | `(tactic| walk_at "sm") => `(tactic| first
  | assumption
  | exact Same.refl _
  | (refine same_new ?hnn; (case hnn => assumption))
  | (refine same_mut ?hs ?hnn; (case hs => walk_at "sm"); (case hnn => walk_at "fr"))
  | (refine Same.trans (H1 := ?H1) ?hs ?hq; (case hq => assumption); (case hs => walk_at "sm"))
  | fail "no rule")
local macro_rules | `(tactic| walk_at "fr") => `(tactic| first
  | assumption
  | (refine Same.free (H' := ?H1) ?hs ?hq; (case hq => assumption); (case hs => walk_at "sm"))
  | fail "no rule")
local macro_rules | `(tactic| walk_at "src") => `(tactic| first
  | assumption
  | exact Dr.src (by assumption)
  | (refine Src.same (H := ?H0) ?hs ?hm; (case hm => assumption); (case hs => walk_at "src"))
  | (refine Src.upd ?hs ?hn; (case hs => walk_at "src"); (case hn => walk_at "ne"))
  | fail "no rule")
local macro_rules | `(tactic| walk_at "fd") => `(tactic| first
  | assumption
  | (refine Same.free (H' := ?H1) ?hs ?hq; (case hq => assumption); (case hs => walk_at "sm"))
  | (refine Dr.free (H' := ?H1) ?h0 ?hs ?hq; (case hq => assumption); (case hs => walk_at "dr"); (case h0 => walk_at "src"))
  | fail "no rule")
local macro_rules | `(tactic| walk_at "dr") => `(tactic| first
  | assumption
  | (refine Dr.trans (H' := ?H1) ?hs ?hq; (case hq => assumption); (case hs => walk_at "dr"))
  | (refine Dr.mut ?hs ?h0 ?hn; (case hs => walk_at "dr"); (case h0 => walk_at "src"); (case hn => walk_at "fd"))
  | (refine Dr.trans (H' := ?H1) ?hs (Dr.same ?h0 ?hq); (case hq => assumption); (case h0 => walk_at "src"); (case hs => walk_at "dr"))
  | (refine Dr.refl ?hs; (case hs => walk_at "src"))
  | fail "no rule")
local macro_rules | `(tactic| walk_at "sz") => `(tactic| first
  | omega
  | (refine Nat.le_trans ?_ (show (1000 : Nat) ≤ sizeLine by decide); first | decide | omega | (simp; done) | (simp; omega) | fail)
  | fail "no rule")
local macro_rules | `(tactic| walk_at "v1") => `(tactic| first
  | with_reducible refine v_seq ?_
  | with_reducible refine v_asg ?_
  | with_reducible refine v_gname ?_
  | with_reducible refine v_c ?_
  | ((with_reducible refine v_var (v := ?vv) ?hv ?_); (case hv => exact rfl))
  | with_reducible refine v_op ?_
  | with_reducible refine v_un ?_
  | with_reducible refine v_I0 ?_
  | with_reducible refine v_U ?_
  | with_reducible refine v_addI ?_
  | with_reducible refine v_ltI ?_
  | with_reducible refine v_leI ?_
  | with_reducible refine v_gtI ?_
  | with_reducible refine v_geI ?_
  | with_reducible refine v_leS ?_
  | with_reducible refine v_ltS ?_
  | with_reducible refine v_eqI ?_
  | with_reducible refine v_neI ?_
  | with_reducible refine v_eqS ?_
  | with_reducible refine v_neS ?_
  | with_reducible refine v_eqB ?_
  | ((with_reducible refine v_eqTy ?h1 ?h2 ?_); (case h1 => walk_at "bt"); (case h2 => walk_at "bt"))
  | ((with_reducible refine v_neTy ?h1 ?h2 ?_); (case h1 => walk_at "bt"); (case h2 => walk_at "bt"))
  | with_reducible refine v_test ?_
  | with_reducible refine v_B ?_
  | with_reducible refine v_isbl ?_
  | with_reducible refine v_and ?_
  | with_reducible refine v_or ?_
  | with_reducible refine v_not ?_
  | with_reducible refine v_andV ?_
  | with_reducible refine v_orV ?_
  | with_reducible refine v_notV ?_
  | with_reducible refine v_if ?_
  | with_reducible refine v_chain ?_
  | with_reducible refine v_nil ?_
  | with_reducible refine v_cons ?_
  | with_reducible refine v_cb ?_
  | with_reducible refine v_call ?_
  | with_reducible refine v_max ?_
  | ((with_reducible refine v_draw ?hs ?hm ?_); (case hs => walk_at "src"); (case hm => omega))
  | with_reducible refine v_min ?_
  | with_reducible refine v_intI ?_
  | with_reducible refine v_intB ?_
  | with_reducible refine v_m1 ?_
  | with_reducible refine v_isstr ?_
  | with_reducible refine v_sl ?_
  | with_reducible refine v_ss ?_
  | with_reducible refine v_disp1 ?_
  | with_reducible refine v_s0 ?_
  | with_reducible refine v_nopart ?_
  | with_reducible refine v_part ?_
  | with_reducible refine v_partI ?_
  | with_reducible refine v_next ?_
  | with_reducible refine v_gsub ?_
  | with_reducible refine v_ifS ?_
  | with_reducible refine v_ret ?_
  | with_reducible refine v_drop ?_
  | ((with_reducible refine v_iteTrue ?hb ?_); (case hb => walk_at "bt"))
  | ((with_reducible refine v_iteFalse ?hb ?_); (case hb => walk_at "bt"))
  | with_reducible refine v_iteD ?_ ?_
  | with_reducible refine v_iteNot ?_
  | with_reducible refine v_lc ?_
  | with_reducible refine v_iStr ?_
  | with_reducible refine v_isS ?_
  | with_reducible refine v_iRng1 ?_
  | ((with_reducible refine v_rng1 ?hb ?_); (case hb => omega))
  | with_reducible refine v_iList ?_
  | with_reducible refine v_iSeq ?_
  | ((with_reducible refine v_isL (xs := ?xx) ?hsq ?_); (case hsq => walk_at "sq"))
  | with_reducible refine v_for ?_
  | with_reducible refine v_yes ?_
  | ((with_reducible refine v_nand ?hw ?_); (case hw => first | exact rfl | walk_at "sz" | fail))
  | ((with_reducible refine v_typ (T := ?TT) ?ht ?_); (case ht => walk_at "ty"))
  | ((with_reducible refine v_isiK (T := ?TT) ?ht ?h1 ?h2 ?_); (case ht => walk_at "ty"); (case h1 => walk_at "bt"); (case h2 => exact rfl))
  | with_reducible refine iteT ?_
  | with_reducible refine iteF ?_
  | with_reducible refine v_tup ?_
  | with_reducible refine v_lst ?_
  | ((with_reducible refine v_ixL (xs := ?xx) (v := ?vv) ?hsq ?hat ?_); (case hsq => walk_at "sq"); (case hat => exact rfl))
  | ((with_reducible refine v_lenL (xs := ?xx) ?hsq ?_); (case hsq => walk_at "sq"))
  | ((with_reducible refine v_setL (xs := ?xx) (j := ?jj) ?hh ?hj ?_); (case hh => walk_at "hp"); (case hj => exact rfl))
  | ((with_reducible refine v_I ?hc ?_); (case hc => walk_at "ic"))
  | ((with_reducible refine v_lenS ?hz ?_); (case hz => walk_at "sz"))
  | ((with_reducible refine v_slS ?hz ?_); (case hz => walk_at "sz"))
  | ((with_reducible refine v_addS ?hz ?_); (case hz => walk_at "sz"))
  | ((with_reducible refine v_ixS (c := ?cc) ?hz ?hat ?_); (case hz => walk_at "sz"); (case hat => exact rfl))
  | ((with_reducible refine v_addL (xs := ?xx) (ys := ?yy) ?h1 ?h2 ?hz ?_); (case h1 => walk_at "hp"); (case h2 => walk_at "hp"); (case hz => walk_at "sz"))
  | ((with_reducible refine v_ixT (xs := ?xx) (v := ?vv) ?hsq ?hat ?_); (case hsq => walk_at "sq"); (case hat => exact rfl))
  | ((with_reducible refine v_lenT (xs := ?xx) ?hsq ?_); (case hsq => walk_at "sq"))
  | ((with_reducible refine v_eq ?hs ?_); (case hs => exact rfl))
  | ((with_reducible refine v_ne ?hs ?_); (case hs => exact rfl))
  | (with_reducible intro _)
  | fail "no rule")
local macro_rules | `(tactic| walk_at "ic") => `(tactic| first
  | (show (0 : Int) < _; first | decide | omega | fail)
  | (show CMul _ _; unfold CMul; omega)
  | (show CDiv _ _; unfold CDiv; omega)
  | (show CPow _ _; unfold CPow; exact ⟨by decide, by decide, by decide⟩)
  | fail "no rule")
local macro_rules | `(tactic| walk_at "bt") => `(tactic| first
  | exact rfl
  | assumption
  | decide +kernel
  | (simp; done)
  | fail "no rule")
local macro_rules | `(tactic| walk_at "ty") => `(tactic| first
  | assumption
  | exact .non
  | exact .bl _
  | exact .int _
  | exact .str _
  | exact .lst (by walk_at "sq")
  | exact .tup (by walk_at "sq")
  | exact .dK (by walk_at "hp")
  | fail "no rule")
local macro_rules | `(tactic| walk_at "v") => `(tactic| try (walk_at "v1" <;> walk_at "v"))
local macro_rules | `(tactic| walk_at "start") => `(tactic| dsimp only [L2.start, cxOf, Cx.nox, Cx.wish, List.map, List.replicate, List.length, List.append, Nat.reduceSub, Nat.reduceAdd, List.cons_append, List.nil_append])

variable {P : Program} {w : World} {K : PySem.W.Frag} {mg : Str → Option Value} {base : Heap}
variable {aF : Addr} {es : Array DictEntry} {nF : Nat}
/-! ### Method -/
structure MethC (K : PySem.W.Frag) (C fI : Addr) : Prop where
  mkC : Mk K C fI
  cls : Cls K C
  n_name : NoAttr K C "_name"
  n_params : NoAttr K C "_params"
  n_result : NoAttr K C "_result"
  n_size : NoAttr K C "_size"
  n_code : NoAttr K C "_code"
theorem v_fld {σ : L2.St} {H : Hp} {D : Ends} {ta tv : TE} {f : Str} (k : tv σ H fun y H1 => ta σ H1 fun x H2 => ∃ a C dx fs, x = .ref a ∧ H2 a = some (.ins C dx fs) ∧ Cls K C ∧ NoAttr K C f ∧ fs.length < 1000 ∧ D.nx σ (upd H2 a (.ins C dx (putF f y fs)))) : sFld K ta tv f D σ H := k
def spInit (K : PySem.W.Frag) (C : Addr) : Sp := fun vs H Q _ => ∃ (x dx : Addr) (n : Str) (pp : Addr) (ks : List Str) (t : Str) (size : Int) (pc : Addr) (xs : List V) (l : List Dat), vs = [.ref x, .str n, .ref pp, .str t, .int size, .ref pc] ∧ H x = some (.ins C dx []) ∧
  nameS n = true ∧ okS n ∧ H pp = some (.tup (ks.map V.str)) ∧ (∀ k ∈ ks, tpD (.str k) = true ∧ okS k) ∧ ks.length ≤ 4 ∧ tpD (.str t) = true ∧ okS t ∧ (1 + ks.length : Int) ≤ size ∧ size ≤ 10 ∧ H pc = some (.lst xs) ∧ RepL K H l xs ∧ okL l ∧ 0 < l.length ∧ l.length ≤ 40 ∧ l.all (instrD size l.length) = true ∧
  ∀ q fs H', (∀ b o, H b = some o → b ≠ x → H' b = some o) → H' x = some (.ins C dx fs) → fs.lookup ("_code" : Str) = some (.ref q) → H' q = some (.tup xs) → Q .non H'
variable {C fI : Addr}
theorem ok_init {f : Addr} {fd : FuncData} (F : Fun K "__init__" "Method.__init__" s_Method___init__ f fd) (T : Txt K w mg aF es nF) (M : MethC K C fI) (C_require : Cal P w K mg base 1 "require" ["right", "given"] spReq) (C_is_name : Cal P w K mg base 1 "is_name" ["value"] (spIsName K)) (C_is_type : Cal P w K mg base 2 "is_type" ["value"] (spIsType K))
    (C_is_series : Cal P w K mg base 1 "is_series" ["value", "most"] (spSeries K)) (C_are_types : Cal P w K mg base 3 "are_types" ["items"] (spTypes K)) (C_is_number : Cal P w K mg base 1 "is_number" ["value", "low", "high"] (spNum K)) (C_is_code : Cal P w K mg base 6 "is_code" ["value", "size"] (spCode K)) :
    FnOk P w K mg base CX0 7 f fd ["self", "name", "params", "result", "size", "code"] (spInit K C) := by
  refine F.ok sc_Method___init__ (fun vs H Q E h => ?_) (fun cdv A outer s H vs Q E hr h => ?_)
  · obtain ⟨x, dx, n, pp, ks, t, size, pc, xs, l, rfl, _⟩ := h
    rfl
  · obtain ⟨x, dx, n, pp, ks, t, size, pc, xs, l, rfl, hx, hn, on, hpp, hks, hk4, ht, ot, hz1, hz2, hpc, hrl, hol, hl0, hl1, hall, q⟩ := h
    refine ⟨_, (pss_cons (ps_expr (pcall C_require hr (by omega) (by rfl) (pa_cons (pcall C_is_name hr (by omega) (by rfl) (pa_cons (pv 1) pa_nil)) (pa_cons (pv 1) pa_nil))))
      (pss_cons (ps_expr (pcall C_require hr (by omega) (by rfl) (pa_cons (pe_and (pcall C_is_series hr (by omega) (by rfl) (pa_cons (pv 2) (pa_cons (pglob (by rfl) T.g_MOST_TYPES) pa_nil))) (pe_one (pcall C_are_types hr (by omega) (by rfl) (pa_cons (pv 2) pa_nil)))) (pa_cons (pv 2) pa_nil))))
      (pss_cons (ps_expr (pcall C_require hr (by omega) (by rfl) (pa_cons (pcall C_is_type hr (by omega) (by rfl) (pa_cons (pv 3) pa_nil)) (pa_cons (pv 3) pa_nil))))
      (pss_cons (ps_expr (pcall C_require hr (by omega) (by rfl) (pa_cons (pcall C_is_number hr (by omega) (by rfl) (pa_cons (pv 4) (pa_cons (pe_op (kAdd (K := K) rfl) pe_int (pe_callB (kLen (K := K) rfl) (by rfl) T.b_len (by decide +kernel) (pa_cons (pv 2) pa_nil))) (pa_cons (pglob (by rfl) T.g_MOST_SIZE) pa_nil)))) (pa_cons (pv 4) pa_nil))))
      (pss_cons (ps_expr (pcall C_require hr (by omega) (by rfl) (pa_cons (pcall C_is_code hr (by omega) (by rfl) (pa_cons (pv 5) (pa_cons (pv 4) pa_nil))) (pa_cons (pv 5) pa_nil))))
      (pss_cons (ps_fld (pv 0) (pv 1) rfl)
      (pss_cons (ps_fld (pv 0) (pe_callTy (kTup1 (K := K) rfl) (by rfl) T.b_tuple (by decide +kernel) (pa_cons (pv 2) pa_nil)) rfl)
      (pss_cons (ps_fld (pv 0) (pv 3) rfl)
      (pss_cons (ps_fld (pv 0) (pv 4) rfl)
      (pss_one (ps_fld (pv 0) (pe_callTy (kTup1 (K := K) rfl) (by rfl) T.b_tuple (by decide +kernel) (pa_cons (pv 5) pa_nil)) rfl))))))))))), ?_⟩
    walk_at "start"
    walk_at "v"
    refine ⟨.str n, rfl, ⟨_, .str n, rfl⟩, fun w e => by cases e; exact on, fun H1 s1 => ?_⟩
    rw [show nameV (.str n) = true from hn]
    walk_at "v"
    refine ⟨_, rfl, ?_⟩
    walk_at "v"
    have rpp : Rep K H (.tup (ks.map .str)) (.ref pp) := ⟨pp, _, rfl, .inl (.inl hpp), repL_strs ks⟩
    refine ⟨_, _, _, rfl, .inl (rpp.same s1), fun H2 s2 => ?_⟩
    rw [List.length_map, decide_eq_true (by omega)]
    walk_at "v"
    have s12 := s1.trans s2
    refine ⟨_, ks.map .str, rfl, .inl (rpp.same s12), okL_of fun d hd => ?_, by rw [List.length_map]; omega, fun H3 s3 => ?_⟩
    · obtain ⟨k, hk, rfl⟩ := List.mem_map.mp hd
      exact (hks k hk).2
    rw [show (ks.map Dat.str).all tpD = true from List.all_eq_true.mpr fun d hd => by obtain ⟨k, hk, rfl⟩ := List.mem_map.mp hd; exact (hks k hk).1]
    have s13 := s12.trans s3
    walk_at "v"
    refine ⟨_, rfl, ?_⟩
    walk_at "v"
    refine ⟨_, rfl, ⟨_, .str t, rfl⟩, fun w e => by cases e; exact ot, fun H4 s4 => ?_⟩
    rw [show typeV (.str t) = true from ht]
    have s14 := s13.trans s4
    walk_at "v"
    refine ⟨_, rfl, ?_⟩
    walk_at "v"
    refine ⟨_, .int size, _, _, rfl, rfl, ?_⟩
    rw [show numD (1 + ((ks.map V.str).length : Int)) 10 (.int size) = true by
      show (decide _ && decide _) = true
      rw [List.length_map, decide_eq_true hz1, decide_eq_true hz2]; rfl]
    walk_at "v"
    refine ⟨_, rfl, ?_⟩
    walk_at "v"
    have rpc : Rep K H (.lst l) (.ref pc) := ⟨pc, xs, rfl, .inl (.inl hpc), hrl⟩
    refine ⟨_, l, size, rfl, .inr (rpc.same s14), hol, by omega, fun H5 s5 => ?_⟩
    have s15 := s14.trans s5
    rw [decide_eq_true hl0, decide_eq_true hl1, hall]
    walk_at "v"
    refine ⟨_, rfl, ?_⟩
    have hx5 := s15 _ _ hx
    have hpp5 := s15 _ _ hpp
    have hpc5 := s15 _ _ hpc
    have nxp : pp ≠ x := fun e => by rw [e, hx] at hpp; cases hpp
    have nxc : pc ≠ x := fun e => by rw [e, hx] at hpc; cases hpc
    have fr : ∀ b o, H b = some o → b ≠ x → H5 b = some o := fun b o e _ => s15 _ _ e
    clear s1 s2 s3 s4 s5 s12 s13 s14
    walk_at "v"
    refine v_fld ?_
    walk_at "v"
    refine ⟨x, C, dx, _, rfl, hx5, M.cls, M.n_name, by decide, ?_⟩
    walk_at "v"
    refine v_fld ?_
    walk_at "v"
    refine v_tup1T (ys := ks.map V.str) (.inl (.inl (by rw [upd_ne nxp]; exact hpp5))) ?_
    walk_at "v"
    refine ⟨x, C, dx, _, rfl, upd_same, M.cls, M.n_params, by show (1 : Nat) < 1000; decide, ?_⟩
    rw [upd_upd]
    walk_at "v"
    refine v_fld ?_
    walk_at "v"
    refine ⟨x, C, dx, _, rfl, upd_same, M.cls, M.n_result, by show (2 : Nat) < 1000; decide, ?_⟩
    rw [upd_upd]
    walk_at "v"
    refine v_fld ?_
    walk_at "v"
    refine ⟨x, C, dx, _, rfl, upd_same, M.cls, M.n_size, by show (3 : Nat) < 1000; decide, ?_⟩
    rw [upd_upd]
    walk_at "v"
    dsimp only
    refine v_fld ?_
    walk_at "v"
    refine v_tup1L (ys := xs) (sq_lst (by rw [upd_ne nxc]; exact hpc5)) fun pq hpq => ?_
    walk_at "v"
    have nq : x ≠ pq := ne_of_none upd_same hpq
    refine ⟨x, C, dx, _, rfl, (upd_ne nq).trans upd_same, M.cls, M.n_code, by show (4 : Nat) < 1000; decide, ?_⟩
    walk_at "v"
    refine q pq _ _ (fun b o e n => ?_) upd_same rfl ?_
    · rw [upd_ne n, upd_ne (ne_of_none (by rw [upd_ne n]; exact fr b o e n) hpq), upd_ne n]
      exact fr b o e n
    · rw [upd_ne nq.symm]
      exact upd_same
end K02

namespace K02
open PySem PySem.Spec PyProof.Rows L2 Kit
local macro_rules | `(tactic| walk_at "ne") => `(tactic| first
  | assumption
  | (apply Ne.symm; assumption)
  | exact ne_of_none (by assumption) (by assumption)
  | exact (ne_of_none (by assumption) (by assumption)).symm
  | (refine ne_of_none (H := ?H0) (o := ?oo) ?hs ?hn; (case hn => assumption); (case hs => walk_at "hp"))
  | (refine (ne_of_none (H := ?H0) (o := ?oo) ?hs ?hn).symm; (case hn => assumption); (case hs => walk_at "hp"))
  | (refine Src.ne (H := ?H0) ?hs ?hn; (case hn => assumption); (case hs => walk_at "src"))
  | (refine (Src.ne (H := ?H0) ?hs ?hn).symm; (case hn => assumption); (case hs => walk_at "src"))
  | fail "no rule")
local macro_rules | `(tactic| walk_at "hp") => `(tactic| first
  | assumption
  | exact upd_same
  | (refine (upd_ne ?hne).trans ?hrest; (case hne => walk_at "ne"); (case hrest => walk_at "hp"))
  | (refine same_at (H := ?H0) ?hs ?hrest; (case hs => assumption); (case hrest => walk_at "hp"))
  | (refine dr_at (H := ?H0) (a := ?a0) ?hs ?hne ?hrest; (case hs => assumption); (case hne => walk_at "ne"); (case hrest => walk_at "hp"))
  | fail "no rule")
local macro_rules | `(tactic| walk_at "sq") => `(tactic| first
  | assumption
  | exact Or.inl (Or.inl (by walk_at "hp"))
  | (refine sq_upd ?hnn ?hss; (case hnn => assumption); (case hss => walk_at "sq"))
  | (refine Same.seq (H := ?H0) ?hs ?hrest; (case hs => assumption); (case hrest => walk_at "sq"))
  | (refine sq_dr (H := ?H0) (a := ?a0) ?hs ?hne ?hrest; (case hs => assumption); (case hne => walk_at "ne"); (case hrest => walk_at "sq"))
  | fail "no rule")
local macro_rules | `(tactic| walk_at "sm") => `(tactic| first
  | assumption
  | exact Same.refl _
  | (refine same_new ?hnn; (case hnn => assumption))
  | (refine same_mut ?hs ?hnn; (case hs => walk_at "sm"); (case hnn => walk_at "fr"))
  | (refine Same.trans (H1 := ?H1) ?hs ?hq; (case hq => assumption); (case hs => walk_at "sm"))
  | fail "no rule")
local macro_rules | `(tactic| walk_at "fr") => `(tactic| first
  | assumption
  | (refine Same.free (H' := ?H1) ?hs ?hq; (case hq => assumption); (case hs => walk_at "sm"))
  | fail "no rule")
local macro_rules | `(tactic| walk_at "src") => `(tactic| first
  | assumption
  | exact Dr.src (by assumption)
  | (refine Src.same (H := ?H0) ?hs ?hm; (case hm => assumption); (case hs => walk_at "src"))
  | (refine Src.upd ?hs ?hn; (case hs => walk_at "src"); (case hn => walk_at "ne"))
  | fail "no rule")
local macro_rules | `(tactic| walk_at "fd") => `(tactic| first
  | assumption
  | (refine Same.free (H' := ?H1) ?hs ?hq; (case hq => assumption); (case hs => walk_at "sm"))
  | (refine Dr.free (H' := ?H1) ?h0 ?hs ?hq; (case hq => assumption); (case hs => walk_at "dr"); (case h0 => walk_at "src"))
  | fail "no rule")
local macro_rules | `(tactic| walk_at "dr") => `(tactic| first
  | assumption
  | (refine Dr.trans (H' := ?H1) ?hs ?hq; (case hq => assumption); (case hs => walk_at "dr"))
  | (refine Dr.mut ?hs ?h0 ?hn; (case hs => walk_at "dr"); (case h0 => walk_at "src"); (case hn => walk_at "fd"))
  | (refine Dr.trans (H' := ?H1) ?hs (Dr.same ?h0 ?hq); (case hq => assumption); (case h0 => walk_at "src"); (case hs => walk_at "dr"))
  | (refine Dr.refl ?hs; (case hs => walk_at "src"))
  | fail "no rule")
local macro_rules | `(tactic| walk_at "sz") => `(tactic| first
  | omega
  | (refine Nat.le_trans ?_ (show (1000 : Nat) ≤ sizeLine by decide); first | decide | omega | (simp; done) | (simp; omega) | fail)
  | fail "no rule")
local macro_rules | `(tactic| walk_at "v1") => `(tactic| first
  | with_reducible refine v_seq ?_
  | with_reducible refine v_asg ?_
  | with_reducible refine v_gname ?_
  | with_reducible refine v_c ?_
  | ((with_reducible refine v_var (v := ?vv) ?hv ?_); (case hv => exact rfl))
  | with_reducible refine v_op ?_
  | with_reducible refine v_un ?_
  | with_reducible refine v_I0 ?_
  | with_reducible refine v_U ?_
  | with_reducible refine v_addI ?_
  | with_reducible refine v_ltI ?_
  | with_reducible refine v_leI ?_
  | with_reducible refine v_gtI ?_
  | with_reducible refine v_geI ?_
  | with_reducible refine v_leS ?_
  | with_reducible refine v_ltS ?_
  | with_reducible refine v_eqI ?_
  | with_reducible refine v_neI ?_
  | with_reducible refine v_eqS ?_
  | with_reducible refine v_neS ?_
  | with_reducible refine v_eqB ?_
  | ((with_reducible refine v_eqTy ?h1 ?h2 ?_); (case h1 => walk_at "bt"); (case h2 => walk_at "bt"))
  | ((with_reducible refine v_neTy ?h1 ?h2 ?_); (case h1 => walk_at "bt"); (case h2 => walk_at "bt"))
  | with_reducible refine v_test ?_
  | with_reducible refine v_B ?_
  | with_reducible refine v_isbl ?_
  | with_reducible refine v_and ?_
  | with_reducible refine v_or ?_
  | with_reducible refine v_not ?_
  | with_reducible refine v_andV ?_
  | with_reducible refine v_orV ?_
  | with_reducible refine v_notV ?_
  | with_reducible refine v_if ?_
  | with_reducible refine v_chain ?_
  | with_reducible refine v_nil ?_
  | with_reducible refine v_cons ?_
  | with_reducible refine v_cb ?_
  | with_reducible refine v_call ?_
  | with_reducible refine v_max ?_
  | ((with_reducible refine v_draw ?hs ?hm ?_); (case hs => walk_at "src"); (case hm => omega))
  | with_reducible refine v_min ?_
  | with_reducible refine v_intI ?_
  | with_reducible refine v_intB ?_
  | with_reducible refine v_m1 ?_
  | with_reducible refine v_isstr ?_
  | with_reducible refine v_sl ?_
  | with_reducible refine v_ss ?_
  | with_reducible refine v_disp1 ?_
  | with_reducible refine v_s0 ?_
  | with_reducible refine v_nopart ?_
  | with_reducible refine v_part ?_
  | with_reducible refine v_partI ?_
  | with_reducible refine v_next ?_
  | with_reducible refine v_gsub ?_
  | with_reducible refine v_ifS ?_
  | with_reducible refine v_ret ?_
  | with_reducible refine v_drop ?_
  | ((with_reducible refine v_iteTrue ?hb ?_); (case hb => walk_at "bt"))
  | ((with_reducible refine v_iteFalse ?hb ?_); (case hb => walk_at "bt"))
  | with_reducible refine v_iteD ?_ ?_
  | with_reducible refine v_iteNot ?_
  | with_reducible refine v_lc ?_
  | with_reducible refine v_iStr ?_
  | with_reducible refine v_isS ?_
  | with_reducible refine v_iRng1 ?_
  | ((with_reducible refine v_rng1 ?hb ?_); (case hb => omega))
  | with_reducible refine v_iList ?_
  | with_reducible refine v_iSeq ?_
  | ((with_reducible refine v_isL (xs := ?xx) ?hsq ?_); (case hsq => walk_at "sq"))
  | with_reducible refine v_for ?_
  | with_reducible refine v_yes ?_
  | ((with_reducible refine v_nand ?hw ?_); (case hw => first | exact rfl | walk_at "sz" | fail))
  | ((with_reducible refine v_typ (T := ?TT) ?ht ?_); (case ht => walk_at "ty"))
  | ((with_reducible refine v_isiK (T := ?TT) ?ht ?h1 ?h2 ?_); (case ht => walk_at "ty"); (case h1 => walk_at "bt"); (case h2 => exact rfl))
  | with_reducible refine iteT ?_
  | with_reducible refine iteF ?_
  | with_reducible refine v_tup ?_
  | with_reducible refine v_lst ?_
  | ((with_reducible refine v_ixL (xs := ?xx) (v := ?vv) ?hsq ?hat ?_); (case hsq => walk_at "sq"); (case hat => exact rfl))
  | ((with_reducible refine v_lenL (xs := ?xx) ?hsq ?_); (case hsq => walk_at "sq"))
  | ((with_reducible refine v_setL (xs := ?xx) (j := ?jj) ?hh ?hj ?_); (case hh => walk_at "hp"); (case hj => exact rfl))
  | ((with_reducible refine v_I ?hc ?_); (case hc => walk_at "ic"))
  | ((with_reducible refine v_lenS ?hz ?_); (case hz => walk_at "sz"))
  | ((with_reducible refine v_slS ?hz ?_); (case hz => walk_at "sz"))
  | ((with_reducible refine v_addS ?hz ?_); (case hz => walk_at "sz"))
  | ((with_reducible refine v_ixS (c := ?cc) ?hz ?hat ?_); (case hz => walk_at "sz"); (case hat => exact rfl))
  | ((with_reducible refine v_addL (xs := ?xx) (ys := ?yy) ?h1 ?h2 ?hz ?_); (case h1 => walk_at "hp"); (case h2 => walk_at "hp"); (case hz => walk_at "sz"))
  | ((with_reducible refine v_ixT (xs := ?xx) (v := ?vv) ?hsq ?hat ?_); (case hsq => walk_at "sq"); (case hat => exact rfl))
  | ((with_reducible refine v_lenT (xs := ?xx) ?hsq ?_); (case hsq => walk_at "sq"))
  | ((with_reducible refine v_eq ?hs ?_); (case hs => exact rfl))
  | ((with_reducible refine v_ne ?hs ?_); (case hs => exact rfl))
  | (with_reducible intro _)
  | fail "no rule")
local macro_rules | `(tactic| walk_at "ic") => `(tactic| first
  | (show (0 : Int) < _; first | decide | omega | fail)
  | (show CMul _ _; unfold CMul; omega)
  | (show CDiv _ _; unfold CDiv; omega)
  | (show CPow _ _; unfold CPow; exact ⟨by decide, by decide, by decide⟩)
  | fail "no rule")
local macro_rules | `(tactic| walk_at "bt") => `(tactic| first
  | exact rfl
  | assumption
  | decide +kernel
  | (simp; done)
  | fail "no rule")
local macro_rules | `(tactic| walk_at "ty") => `(tactic| first
  | assumption
  | exact .non
  | exact .bl _
  | exact .int _
  | exact .str _
  | exact .lst (by walk_at "sq")
  | exact .tup (by walk_at "sq")
  | exact .dK (by walk_at "hp")
  | fail "no rule")
local macro_rules | `(tactic| walk_at "v") => `(tactic| try (walk_at "v1" <;> walk_at "v"))
local macro_rules | `(tactic| walk_at "start") => `(tactic| dsimp only [L2.start, cxOf, Cx.nox, Cx.wish, List.map, List.replicate, List.length, List.append, Nat.reduceSub, Nat.reduceAdd, List.cons_append, List.nil_append])

local macro_rules | `(tactic| walk_at "n1") => `(tactic| first
  | with_reducible refine v_seq ?_
  | with_reducible refine v_asg ?_
  | with_reducible refine v_gname ?_
  | with_reducible refine v_c ?_
  | ((with_reducible refine v_var (v := ?vv) ?hv ?_); (case hv => exact rfl))
  | with_reducible refine v_op ?_
  | with_reducible refine v_un ?_
  | with_reducible refine v_I0 ?_
  | with_reducible refine v_U ?_
  | with_reducible refine v_addI ?_
  | with_reducible refine v_ltI ?_
  | with_reducible refine v_leI ?_
  | with_reducible refine v_gtI ?_
  | with_reducible refine v_geI ?_
  | with_reducible refine v_leS ?_
  | with_reducible refine v_ltS ?_
  | with_reducible refine v_eqI ?_
  | with_reducible refine v_neI ?_
  | with_reducible refine v_eqS ?_
  | with_reducible refine v_neS ?_
  | with_reducible refine v_eqB ?_
  | ((with_reducible refine v_eqTy ?h1 ?h2 ?_); (case h1 => walk_at "bt"); (case h2 => walk_at "bt"))
  | ((with_reducible refine v_neTy ?h1 ?h2 ?_); (case h1 => walk_at "bt"); (case h2 => walk_at "bt"))
  | with_reducible refine v_test ?_
  | with_reducible refine v_B ?_
  | with_reducible refine v_isbl ?_
  | with_reducible refine v_and ?_
  | with_reducible refine v_or ?_
  | with_reducible refine v_not ?_
  | with_reducible refine v_andV ?_
  | with_reducible refine v_orV ?_
  | with_reducible refine v_notV ?_
  | with_reducible refine v_if ?_
  | with_reducible refine v_chain ?_
  | with_reducible refine v_nil ?_
  | with_reducible refine v_cons ?_
  | with_reducible refine v_cb ?_
  | with_reducible refine v_call ?_
  | with_reducible refine v_max ?_
  | ((with_reducible refine v_draw ?hs ?hm ?_); (case hs => walk_at "src"); (case hm => omega))
  | with_reducible refine v_min ?_
  | with_reducible refine v_intI ?_
  | with_reducible refine v_intB ?_
  | with_reducible refine v_m1 ?_
  | with_reducible refine v_isstr ?_
  | with_reducible refine v_sl ?_
  | with_reducible refine v_ss ?_
  | with_reducible refine v_disp1 ?_
  | with_reducible refine v_s0 ?_
  | with_reducible refine v_nopart ?_
  | with_reducible refine v_part ?_
  | with_reducible refine v_partI ?_
  | with_reducible refine v_next ?_
  | with_reducible refine v_gsub ?_
  | with_reducible refine v_ifS ?_
  | with_reducible refine v_ret ?_
  | with_reducible refine v_drop ?_
  | ((with_reducible refine v_iteTrue ?hb ?_); (case hb => walk_at "bt"))
  | ((with_reducible refine v_iteFalse ?hb ?_); (case hb => walk_at "bt"))
  | with_reducible refine v_iteD ?_ ?_
  | with_reducible refine v_iteNot ?_
  | with_reducible refine v_lc ?_
  | with_reducible refine v_iStr ?_
  | with_reducible refine v_isS ?_
  | with_reducible refine v_iRng1 ?_
  | ((with_reducible refine v_rng1 ?hb ?_); (case hb => omega))
  | with_reducible refine v_iList ?_
  | with_reducible refine v_iSeq ?_
  | ((with_reducible refine v_isL (xs := ?xx) ?hsq ?_); (case hsq => walk_at "sq"))
  | with_reducible refine v_for ?_
  | with_reducible refine v_yes ?_
  | ((with_reducible refine v_nand ?hw ?_); (case hw => first | exact rfl | walk_at "sz" | fail))
  | ((with_reducible refine v_typ (T := ?TT) ?ht ?_); (case ht => walk_at "ty"))
  | ((with_reducible refine v_isiK (T := ?TT) ?ht ?h1 ?h2 ?_); (case ht => walk_at "ty"); (case h1 => walk_at "bt"); (case h2 => exact rfl))
  | with_reducible refine iteT ?_
  | with_reducible refine iteF ?_
  | ((with_reducible refine v_lenL (xs := ?xx) ?hsq ?_); (case hsq => walk_at "sq"))
  | ((with_reducible refine v_setL (xs := ?xx) (j := ?jj) ?hh ?hj ?_); (case hh => walk_at "hp"); (case hj => exact rfl))
  | ((with_reducible refine v_I ?hc ?_); (case hc => walk_at "ic"))
  | ((with_reducible refine v_lenS ?hz ?_); (case hz => walk_at "sz"))
  | ((with_reducible refine v_slS ?hz ?_); (case hz => walk_at "sz"))
  | ((with_reducible refine v_addS ?hz ?_); (case hz => walk_at "sz"))
  | ((with_reducible refine v_ixS (c := ?cc) ?hz ?hat ?_); (case hz => walk_at "sz"); (case hat => exact rfl))
  | ((with_reducible refine v_ixT (xs := ?xx) (v := ?vv) ?hsq ?hat ?_); (case hsq => walk_at "sq"); (case hat => exact rfl))
  | ((with_reducible refine v_lenT (xs := ?xx) ?hsq ?_); (case hsq => walk_at "sq"))
  | ((with_reducible refine v_eq ?hs ?_); (case hs => exact rfl))
  | ((with_reducible refine v_ne ?hs ?_); (case hs => exact rfl))
  | (with_reducible intro _)
  | fail "no rule")
local macro_rules | `(tactic| walk_at "n") => `(tactic| try (walk_at "n1" <;> walk_at "n"))
variable {P : Program} {w : World} {K : PySem.W.Frag} {mg : Str → Option Value} {base : Heap}
variable {aF : Addr} {es : Array DictEntry} {nF : Nat}
/-! ### a beginning that sets all drawers -/
theorem v_iRng2 {σ : L2.St} {H : Hp} {ta : TA} {R : It → Hp → Prop} (k : ta σ H fun vs H1 => ∃ i j : Int, vs = [.int i, .int j] ∧ (-(2 ^ 62) ≤ i ∧ i < 2 ^ 62 ∧ -(2 ^ 62) ≤ j ∧ j < 2 ^ 62) ∧ R (Itr i (j - i).toNat) H1) : iRng2 ta σ H R := k
theorem off_upd {H : Hp} {p a : Addr} {o : HO} : off p (off a (upd H p o)) = off p (off a H) := by
  funext b
  unfold off
  by_cases h : b = p
  · rw [if_pos h, if_pos h]
  · rw [if_neg h, if_neg h]
    by_cases h2 : b = a
    · rw [if_pos h2, if_pos h2]
    · rw [if_neg h2, if_neg h2, upd_ne h]
theorem good_array2 {size len f s t g : Int} {n ty : Str} (M : Mem size len f s t g n ty) : instrD size len (.tup ([.str "array", .int f, .str n, .int 2] : List Dat)) = true := by
  rw [ninstr (ks := (["r", "C", "i"] : List Str)) rfl]
  show (true && (numD 0 (size - 1) (.int f) && (nmD (.str n) && (numD 0 9 (.int 2) && true))) && (true || _)) = true
  rw [M.f_ok, M.n_ok, (show numD 0 9 (.int 2) = true from rfl)]
  rfl
def okI (size : Int) (d : Dat) : Prop := (∀ len, 0 < len → instrD size len d = true) ∧ okD d ∧ shapeD d
def spReady (K : PySem.W.Frag) : Sp := fun vs H Q _ => ∃ (a : Addr) (size given : Int), vs = [.ref a, .int size, .int given] ∧ Src a H ∧ 0 < given ∧ given ≤ size ∧ size ≤ 10 ∧
  ∀ p xs l H', p ≠ a → H' p = some (.lst xs) → RepL K (off a H') l xs → (∀ d ∈ l, okI size d) → (l.length : Int) = size - given → Dr a H H' → Q (.ref p) H'
theorem ok_ready {f : Addr} {fd : FuncData} (F : Fun K "_law_ready" "_law_ready" s_law_ready f fd) (T : Txt K w mg aF es nF) (C_law_draw : Cal P w K mg base 1 "_law_draw" ["_law_source_here", "_law_amount"] spDraw) (C_law_pick : Cal P w K mg base 2 "_law_pick" ["_law_source_here", "_law_items"] (spPick K)) : FnOk P w K mg base CX0 3 f fd ["_law_source_here", "_law_size", "_law_given"] (spReady K) := by
  refine F.ok sc_law_ready (fun vs H Q E h => ?_) (fun cdv A outer s H vs Q E hr h => ?_)
  · obtain ⟨a, size, given, rfl, _⟩ := h
    rfl
  · obtain ⟨a, size, given, rfl, hs, hg0, hg1, hz, q⟩ := h
    refine ⟨_, (pss_cons (ps_set (i := 3) sc_law_ready.nd rfl (by first | exact .inl rfl | exact .inr rfl) (pe_lst pa_nil))
      (pss_cons (ps_for PassesOwn.never rfl (pi_range2 (by rfl) T.b_range (pa_cons (pv 2) (pa_cons (pv 1) pa_nil))) (pg_name (i := 4) sc_law_ready.nd rfl (by first | exact .inl rfl | exact .inr rfl))
      (pss_cons (ps_set (i := 5) sc_law_ready.nd rfl (by first | exact .inl rfl | exact .inr rfl) (pcall C_law_pick hr (by omega) (by rfl) (pa_cons (pv 0) (pa_cons (pe_lst (pa_cons pe_str (pa_cons pe_str (pa_cons pe_str pa_nil)))) pa_nil))))
      (pss_one (ps_expr (pe_bm PySem.F.plainAttrs_list PySem.F.slot_list_append PySem.F.type_list_append mt_append (pv 3) (pa_cons (pe_ix (kIx (K := K) rfl) (pe_lst (pa_cons (pe_tup (pa_cons pe_str (pa_cons (pv 4) (pa_cons (pv 5) pa_nil)))) (pa_cons (pe_tup (pa_cons pe_str (pa_cons (pv 4) (pa_cons (pv 5) (pa_cons pe_int pa_nil))))) (pa_cons (pe_tup (pa_cons pe_str (pa_cons (pv 4) pa_nil))) pa_nil)))) (pcall C_law_draw hr (by omega) (by rfl) (pa_cons (pv 0) (pa_cons pe_int pa_nil))) (fun _ _ => rfl)) pa_nil))))))
      (pss_one (ps_ret (pv 3))))), ?_⟩
    walk_at "start"
    walk_at "v"
    rename_i pf hpf
    have nf : pf ≠ a := (hs.ne hpf).symm
    refine v_iRng2 ?_
    walk_at "v"
    refine ⟨given, size, rfl, by omega, ?_⟩
    refine for_w walk_upto (fun i σ H' => ∃ v4 v5 xs l, σ = [some (.ref a), some (.int size), some (.int given), some (.ref pf), v4, v5] ∧ Dr a H H' ∧ H' pf = some (.lst xs) ∧ RepL K (off pf (off a H')) l xs ∧ l.length = i ∧ (∀ d ∈ l, okI size d) ∧ i ≤ 10) ⟨_, _, [], [], rfl, Dr.new hs hpf, upd_same, rfl, rfl, fun _ h => (by cases h), by omega⟩ (fun _ _ _ _ _ => trivial) ?_ ?_
    · rintro i x σ H1 H1' hi ⟨v4, v5, xs, l, rfl, d1, ef, hr2, hlen, hok, hi10⟩ ⟨rfl, hx⟩
      rw [upto_len] at hi
      obtain ⟨dr, rfl, hdr0, hdr1⟩ : ∃ dr : Int, x = .int dr ∧ 0 ≤ dr ∧ dr < size := by
        unfold upto at hx
        rw [List.getElem?_map, List.getElem?_range hi] at hx
        cases hx
        exact ⟨_, rfl, by omega, by omega⟩
      walk_at "n"
      refine v_lst ?_
      walk_at "n"
      rename_i pl hpl
      refine ⟨a, pl, (["a", "b", "c"] : List Str).map V.str, rfl, d1.src.upd (d1.src.ne hpl), (d1.src.ne hpl).symm, sq_lst upd_same, by decide, by decide, fun y H2 hy dr2 => ?_⟩
      obtain ⟨n, hn, rfl⟩ := mem_strs hy
      have hn4 : n ∈ (["a", "b", "c", "top"] : List Str) := by
        have all : ∀ n ∈ (["a", "b", "c"] : List Str), n ∈ (["a", "b", "c", "top"] : List Str) := by decide +kernel
        exact all n hn
      have okn := (names_ok hn4).2
      have d2 : Dr a H1' H2 := (Dr.new d1.src hpl).trans dr2
      have ef2 := d2.keep _ _ ef nf
      have hr3 := hr2.same (same_off (a := pf) d2.off)
      have dH2 := d1.trans d2
      have src2 := dH2.src
      clear dr2 hpl d1 ef hr2 hx d2 hy
      walk_at "n"
      refine v_tBM ?_
      walk_at "n"
      refine ⟨.inl ⟨rfl, xs, sq_lst ef2⟩, ?_⟩
      walk_at "n"
      refine v_lst ?_
      walk_at "n"
      refine v_tup ?_
      walk_at "n"
      rename_i t0 ht0
      have nt0 := (dH2.src.ne ht0).symm
      have mt0 : t0 ≠ pf := (ne_of_none ef2 ht0).symm
      have et0 : upd H2 t0 (.tup [.str "new", .int dr, .str n]) t0 = some (.tup [.str "new", .int dr, .str n]) := upd_same
      have st0 : Same H2 (upd H2 t0 (.tup [.str "new", .int dr, .str n])) := same_new ht0
      have dH3 := Dr_snoc (o := .tup [.str "new", .int dr, .str n]) dH2 ht0
      have ef3 := st0 _ _ ef2
      generalize upd H2 t0 (.tup [.str "new", .int dr, .str n]) = H3 at *
      walk_at "n"
      refine v_tup ?_
      walk_at "n"
      rename_i t1 ht1
      have nt1 := (dH3.src.ne ht1).symm
      have mt1 : t1 ≠ pf := (ne_of_none ef3 ht1).symm
      have et1 : upd H3 t1 (.tup [.str "array", .int dr, .str n, .int 2]) t1 = some (.tup [.str "array", .int dr, .str n, .int 2]) := upd_same
      have st1 : Same H3 (upd H3 t1 (.tup [.str "array", .int dr, .str n, .int 2])) := same_new ht1
      have dH4 := Dr_snoc (o := .tup [.str "array", .int dr, .str n, .int 2]) dH3 ht1
      have ef4 := st1 _ _ ef3
      generalize upd H3 t1 (.tup [.str "array", .int dr, .str n, .int 2]) = H4 at *
      walk_at "n"
      refine v_tup ?_
      have src4 := dH4.src
      clear src2
      walk_at "n"
      rename_i t2 ht2 l0 hl0 d H7 hd0 hd1 d7
      have nt2 := (dH4.src.ne ht2).symm
      have mt2 : t2 ≠ pf := (ne_of_none ef4 ht2).symm
      have et2 : upd H4 t2 (.tup [.str "null", .int dr]) t2 = some (.tup [.str "null", .int dr]) := upd_same
      have st2 : Same H4 (upd H4 t2 (.tup [.str "null", .int dr])) := same_new ht2
      have dH5 := Dr_snoc (o := .tup [.str "null", .int dr]) dH4 ht2
      have ef5 := st2 _ _ ef4
      generalize upd H4 t2 (.tup [.str "null", .int dr]) = H5 at *
      have nl0 := (dH5.src.ne hl0).symm
      have ml0 : l0 ≠ pf := (ne_of_none ef5 hl0).symm
      have el0 : upd H5 l0 (.lst [.ref t0, .ref t1, .ref t2]) l0 = some (.lst [.ref t0, .ref t1, .ref t2]) := upd_same
      have sl0 : Same H5 (upd H5 l0 (.lst [.ref t0, .ref t1, .ref t2])) := same_new hl0
      have dH6 := Dr_snoc (o := .lst [.ref t0, .ref t1, .ref t2]) dH5 hl0
      have ef6 := sl0 _ _ ef5
      generalize upd H5 l0 (.lst [.ref t0, .ref t1, .ref t2]) = H6 at *
      have dH7 := dH6.trans d7
      have ef7 := d7.keep _ _ ef6 nf
      have hr7 : RepL K (off pf (off a H7)) l xs := (((((hr3.same (same_off (same_off st0))).same (same_off (same_off st1))).same (same_off (same_off st2))).same (same_off (same_off sl0))).same (same_off d7.off))
      have el7 := d7.keep _ _ el0 nl0
      have hd : d = 0 ∨ d = 1 ∨ d = 2 := by omega
      have M : ∀ len, 0 < len → Mem size len dr dr dr 0 n "a" := fun len hl => ⟨num_ok hdr0 (by omega), num_ok hdr0 (by omega), num_ok hdr0 (by omega), num_ok hdr0 (by omega), num_ok (by omega) (by omega), (names_ok hn4).1, by decide +kernel⟩
      have put : ∀ (t : Addr) (D : List Dat), t ≠ a → t ≠ pf → H7 t = some (.tup (D.map toV)) → D.all scD = true → okI size (.tup D) → rAppend (V.ref pf) [.ref t] H7 (fun v H8 => ∃ v4 v5 xs l, [some (V.ref a), some (V.int size), some (V.int given), some (V.ref pf), some (V.int dr), some (V.str n)] = [some (.ref a), some (.int size), some (.int given), some (.ref pf), v4, v5] ∧ Dr a H H8 ∧ H8 pf = some (.lst xs) ∧ RepL K (off pf (off a H8)) l xs ∧ l.length = i + 1 ∧ (∀ d ∈ l, okI size d) ∧ i + 1 ≤ 10) := by
        intro t D n1 n2 et hsc hD
        refine ⟨pf, xs, .ref t, rfl, rfl, ef7, by rw [hr7.length]; exact small1000 (by omega), _, _, xs ++ [.ref t], l ++ [.tup D], rfl, dH7.mut hs hpf, upd_same, ?_, by simp [hlen], fun d hd => ?_, by omega⟩
        · rw [off_upd]
          exact RepL.append hr7 ⟨_, [], rfl, rep_tup n2 (by rw [off_ne n1]; exact et) (repL_sc hsc), rfl⟩
        · rcases List.mem_append.mp hd with h | h
          · exact hok d h
          · cases List.mem_singleton.mp h; exact hD
      rcases hd with rfl | rfl | rfl
      · refine v_ixL (v := .ref t0) (sq_lst el7) rfl ?_
        walk_at "n"
        exact put t0 [.str "new", .int dr, .str n] nt0 mt0 (d7.keep _ _ (by walk_at "hp") nt0) rfl ⟨fun len hl => good_new (M len hl), ⟨by simp, okB_ok (by decide +kernel), trivial, okn, trivial⟩, sc_shape rfl⟩
      · refine v_ixL (v := .ref t1) (sq_lst el7) rfl ?_
        walk_at "n"
        exact put t1 [.str "array", .int dr, .str n, .int 2] nt1 mt1 (d7.keep _ _ (by walk_at "hp") nt1) rfl ⟨fun len hl => good_array2 (M len hl), ⟨by simp, okB_ok (by decide +kernel), trivial, okn, trivial, trivial⟩, sc_shape rfl⟩
      · refine v_ixL (v := .ref t2) (sq_lst el7) rfl ?_
        walk_at "n"
        exact put t2 [.str "null", .int dr] nt2 mt2 (d7.keep _ _ (by walk_at "hp") nt2) rfl ⟨fun len hl => good_null (M len hl), ⟨by simp, okB_ok (by decide +kernel), trivial, trivial⟩, sc_shape rfl⟩
    · rintro σ H1 ⟨v4, v5, xs, l, rfl, d1, ef, hr2, hlen, hok, _⟩
      rw [upto_len] at hlen
      walk_at "v"
      exact q pf xs l H1 nf ef (hr2.same off_same) hok (by omega) d1
end K02

namespace K02
open PySem PySem.Spec PyProof.Rows L2 Kit
local macro_rules | `(tactic| walk_at "ne") => `(tactic| first
  | assumption
  | (apply Ne.symm; assumption)
  | exact ne_of_none (by assumption) (by assumption)
  | exact (ne_of_none (by assumption) (by assumption)).symm
  | (refine ne_of_none (H := ?H0) (o := ?oo) ?hs ?hn; (case hn => assumption); (case hs => walk_at "hp"))
  | (refine (ne_of_none (H := ?H0) (o := ?oo) ?hs ?hn).symm; (case hn => assumption); (case hs => walk_at "hp"))
  | (refine Src.ne (H := ?H0) ?hs ?hn; (case hn => assumption); (case hs => walk_at "src"))
  | (refine (Src.ne (H := ?H0) ?hs ?hn).symm; (case hn => assumption); (case hs => walk_at "src"))
  | fail "no rule")
local macro_rules | `(tactic| walk_at "hp") => `(tactic| first
  | assumption
  | exact upd_same
  | (refine (upd_ne ?hne).trans ?hrest; (case hne => walk_at "ne"); (case hrest => walk_at "hp"))
  | (refine same_at (H := ?H0) ?hs ?hrest; (case hs => assumption); (case hrest => walk_at "hp"))
  | (refine dr_at (H := ?H0) (a := ?a0) ?hs ?hne ?hrest; (case hs => assumption); (case hne => walk_at "ne"); (case hrest => walk_at "hp"))
  | fail "no rule")
local macro_rules | `(tactic| walk_at "sq") => `(tactic| first
  | assumption
  | exact Or.inl (Or.inl (by walk_at "hp"))
  | (refine sq_upd ?hnn ?hss; (case hnn => assumption); (case hss => walk_at "sq"))
  | (refine Same.seq (H := ?H0) ?hs ?hrest; (case hs => assumption); (case hrest => walk_at "sq"))
  | (refine sq_dr (H := ?H0) (a := ?a0) ?hs ?hne ?hrest; (case hs => assumption); (case hne => walk_at "ne"); (case hrest => walk_at "sq"))
  | fail "no rule")
local macro_rules | `(tactic| walk_at "sm") => `(tactic| first
  | assumption
  | exact Same.refl _
  | (refine same_new ?hnn; (case hnn => assumption))
  | (refine same_mut ?hs ?hnn; (case hs => walk_at "sm"); (case hnn => walk_at "fr"))
  | (refine Same.trans (H1 := ?H1) ?hs ?hq; (case hq => assumption); (case hs => walk_at "sm"))
  | fail "no rule")
local macro_rules | `(tactic| walk_at "fr") => `(tactic| first
  | assumption
  | (refine Same.free (H' := ?H1) ?hs ?hq; (case hq => assumption); (case hs => walk_at "sm"))
  | fail "no rule")
local macro_rules | `(tactic| walk_at "src") => `(tactic| first
  | assumption
  | exact Dr.src (by assumption)
  | (refine Src.same (H := ?H0) ?hs ?hm; (case hm => assumption); (case hs => walk_at "src"))
  | (refine Src.upd ?hs ?hn; (case hs => walk_at "src"); (case hn => walk_at "ne"))
  | fail "no rule")
local macro_rules | `(tactic| walk_at "fd") => `(tactic| first
  | assumption
  | (refine Same.free (H' := ?H1) ?hs ?hq; (case hq => assumption); (case hs => walk_at "sm"))
  | (refine Dr.free (H' := ?H1) ?h0 ?hs ?hq; (case hq => assumption); (case hs => walk_at "dr"); (case h0 => walk_at "src"))
  | fail "no rule")
local macro_rules | `(tactic| walk_at "dr") => `(tactic| first
  | assumption
  | (refine Dr.trans (H' := ?H1) ?hs ?hq; (case hq => assumption); (case hs => walk_at "dr"))
  | (refine Dr.mut ?hs ?h0 ?hn; (case hs => walk_at "dr"); (case h0 => walk_at "src"); (case hn => walk_at "fd"))
  | (refine Dr.trans (H' := ?H1) ?hs (Dr.same ?h0 ?hq); (case hq => assumption); (case h0 => walk_at "src"); (case hs => walk_at "dr"))
  | (refine Dr.refl ?hs; (case hs => walk_at "src"))
  | fail "no rule")
local macro_rules | `(tactic| walk_at "sz") => `(tactic| first
  | omega
  | (refine Nat.le_trans ?_ (show (1000 : Nat) ≤ sizeLine by decide); first | decide | omega | (simp; done) | (simp; omega) | fail)
  | fail "no rule")
local macro_rules | `(tactic| walk_at "v1") => `(tactic| first
  | with_reducible refine v_seq ?_
  | with_reducible refine v_asg ?_
  | with_reducible refine v_gname ?_
  | with_reducible refine v_c ?_
  | ((with_reducible refine v_var (v := ?vv) ?hv ?_); (case hv => exact rfl))
  | with_reducible refine v_op ?_
  | with_reducible refine v_un ?_
  | with_reducible refine v_I0 ?_
  | with_reducible refine v_U ?_
  | with_reducible refine v_addI ?_
  | with_reducible refine v_ltI ?_
  | with_reducible refine v_leI ?_
  | with_reducible refine v_gtI ?_
  | with_reducible refine v_geI ?_
  | with_reducible refine v_leS ?_
  | with_reducible refine v_ltS ?_
  | with_reducible refine v_eqI ?_
  | with_reducible refine v_neI ?_
  | with_reducible refine v_eqS ?_
  | with_reducible refine v_neS ?_
  | with_reducible refine v_eqB ?_
  | ((with_reducible refine v_eqTy ?h1 ?h2 ?_); (case h1 => walk_at "bt"); (case h2 => walk_at "bt"))
  | ((with_reducible refine v_neTy ?h1 ?h2 ?_); (case h1 => walk_at "bt"); (case h2 => walk_at "bt"))
  | with_reducible refine v_test ?_
  | with_reducible refine v_B ?_
  | with_reducible refine v_isbl ?_
  | with_reducible refine v_and ?_
  | with_reducible refine v_or ?_
  | with_reducible refine v_not ?_
  | with_reducible refine v_andV ?_
  | with_reducible refine v_orV ?_
  | with_reducible refine v_notV ?_
  | with_reducible refine v_if ?_
  | with_reducible refine v_chain ?_
  | with_reducible refine v_nil ?_
  | with_reducible refine v_cons ?_
  | with_reducible refine v_cb ?_
  | with_reducible refine v_call ?_
  | with_reducible refine v_max ?_
  | ((with_reducible refine v_draw ?hs ?hm ?_); (case hs => walk_at "src"); (case hm => omega))
  | with_reducible refine v_min ?_
  | with_reducible refine v_intI ?_
  | with_reducible refine v_intB ?_
  | with_reducible refine v_m1 ?_
  | with_reducible refine v_isstr ?_
  | with_reducible refine v_sl ?_
  | with_reducible refine v_ss ?_
  | with_reducible refine v_disp1 ?_
  | with_reducible refine v_s0 ?_
  | with_reducible refine v_nopart ?_
  | with_reducible refine v_part ?_
  | with_reducible refine v_partI ?_
  | with_reducible refine v_next ?_
  | with_reducible refine v_gsub ?_
  | with_reducible refine v_ifS ?_
  | with_reducible refine v_ret ?_
  | with_reducible refine v_drop ?_
  | ((with_reducible refine v_iteTrue ?hb ?_); (case hb => walk_at "bt"))
  | ((with_reducible refine v_iteFalse ?hb ?_); (case hb => walk_at "bt"))
  | with_reducible refine v_iteD ?_ ?_
  | with_reducible refine v_iteNot ?_
  | with_reducible refine v_lc ?_
  | with_reducible refine v_iStr ?_
  | with_reducible refine v_isS ?_
  | with_reducible refine v_iRng1 ?_
  | ((with_reducible refine v_rng1 ?hb ?_); (case hb => omega))
  | with_reducible refine v_iList ?_
  | with_reducible refine v_iSeq ?_
  | ((with_reducible refine v_isL (xs := ?xx) ?hsq ?_); (case hsq => walk_at "sq"))
  | with_reducible refine v_for ?_
  | with_reducible refine v_yes ?_
  | ((with_reducible refine v_nand ?hw ?_); (case hw => first | exact rfl | walk_at "sz" | fail))
  | ((with_reducible refine v_typ (T := ?TT) ?ht ?_); (case ht => walk_at "ty"))
  | ((with_reducible refine v_isiK (T := ?TT) ?ht ?h1 ?h2 ?_); (case ht => walk_at "ty"); (case h1 => walk_at "bt"); (case h2 => exact rfl))
  | with_reducible refine iteT ?_
  | with_reducible refine iteF ?_
  | with_reducible refine v_tup ?_
  | with_reducible refine v_lst ?_
  | ((with_reducible refine v_ixL (xs := ?xx) (v := ?vv) ?hsq ?hat ?_); (case hsq => walk_at "sq"); (case hat => exact rfl))
  | ((with_reducible refine v_lenL (xs := ?xx) ?hsq ?_); (case hsq => walk_at "sq"))
  | ((with_reducible refine v_setL (xs := ?xx) (j := ?jj) ?hh ?hj ?_); (case hh => walk_at "hp"); (case hj => exact rfl))
  | ((with_reducible refine v_I ?hc ?_); (case hc => walk_at "ic"))
  | ((with_reducible refine v_lenS ?hz ?_); (case hz => walk_at "sz"))
  | ((with_reducible refine v_slS ?hz ?_); (case hz => walk_at "sz"))
  | ((with_reducible refine v_addS ?hz ?_); (case hz => walk_at "sz"))
  | ((with_reducible refine v_ixS (c := ?cc) ?hz ?hat ?_); (case hz => walk_at "sz"); (case hat => exact rfl))
  | ((with_reducible refine v_addL (xs := ?xx) (ys := ?yy) ?h1 ?h2 ?hz ?_); (case h1 => walk_at "hp"); (case h2 => walk_at "hp"); (case hz => walk_at "sz"))
  | ((with_reducible refine v_ixT (xs := ?xx) (v := ?vv) ?hsq ?hat ?_); (case hsq => walk_at "sq"); (case hat => exact rfl))
  | ((with_reducible refine v_lenT (xs := ?xx) ?hsq ?_); (case hsq => walk_at "sq"))
  | ((with_reducible refine v_eq ?hs ?_); (case hs => exact rfl))
  | ((with_reducible refine v_ne ?hs ?_); (case hs => exact rfl))
  | (with_reducible intro _)
  | fail "no rule")
local macro_rules | `(tactic| walk_at "ic") => `(tactic| first
  | (show (0 : Int) < _; first | decide | omega | fail)
  | (show CMul _ _; unfold CMul; omega)
  | (show CDiv _ _; unfold CDiv; omega)
  | (show CPow _ _; unfold CPow; exact ⟨by decide, by decide, by decide⟩)
  | fail "no rule")
local macro_rules | `(tactic| walk_at "bt") => `(tactic| first
  | exact rfl
  | assumption
  | decide +kernel
  | (simp; done)
  | fail "no rule")
local macro_rules | `(tactic| walk_at "ty") => `(tactic| first
  | assumption
  | exact .non
  | exact .bl _
  | exact .int _
  | exact .str _
  | exact .lst (by walk_at "sq")
  | exact .tup (by walk_at "sq")
  | exact .dK (by walk_at "hp")
  | fail "no rule")
local macro_rules | `(tactic| walk_at "v") => `(tactic| try (walk_at "v1" <;> walk_at "v"))
local macro_rules | `(tactic| walk_at "start") => `(tactic| dsimp only [L2.start, cxOf, Cx.nox, Cx.wish, List.map, List.replicate, List.length, List.append, Nat.reduceSub, Nat.reduceAdd, List.cons_append, List.nil_append])

variable {P : Program} {w : World} {K : PySem.W.Frag} {mg : Str → Option Value} {base : Heap}
variable {aF : Addr} {es : Array DictEntry} {nF : Nat}
/-! ### data as the library's own data, to compare -/
mutual
def toP : Dat → PyData
  | .non => .none | .bl b => .bool b | .int i => .int i | .str z => .str z
  | .tup l => .tuple (toPL l) | .lst l => .list (toPL l) | .dct => .none
def toPL : List Dat → List PyData
  | [] => []
  | d :: l => toP d :: toPL l
end
mutual
def noD : Dat → Bool
  | .tup l => noDL l | .lst l => noDL l | .dct => false | _ => true
def noDL : List Dat → Bool
  | [] => true
  | d :: l => noD d && noDL l
end
mutual
theorem rep_dp {H : Hp} : ∀ {d : Dat} {v : V}, noD d = true → Rep K H d v → Dp K H v (toP d)
  | .non, _, _, h => by cases h; exact .non
  | .bl b, _, _, h => by cases h; exact .bl b
  | .int i, _, _, h => by cases h; exact .int i
  | .str z, _, _, h => by cases h; exact .str z
  | .tup l, _, n, h => by obtain ⟨a, xs, rfl, q, r⟩ := h; exact .tup q (repL_dp n r)
  | .lst l, _, n, h => by obtain ⟨a, xs, rfl, q, r⟩ := h; exact .lst q (repL_dp n r)
  | .dct, _, n, _ => by cases n
theorem repL_dp {H : Hp} : ∀ {l : List Dat} {xs : List V}, noDL l = true → RepL K H l xs → DpAll K H xs (toPL l)
  | [], _, _, h => by cases h; exact .nil
  | d :: l, _, n, h => by
    obtain ⟨x, r, rfl, q, t⟩ := h
    have n2 : (noD d && noDL l) = true := n
    rw [Bool.and_eq_true] at n2
    exact .cons (rep_dp n2.1 q) (repL_dp n2.2 t)
end
mutual
theorem lay_ok : ∀ {d : Dat}, okD d → PyData.canLay0 (toP d) = true
  | .non, _ => rfl
  | .bl _, _ => rfl
  | .int _, _ => rfl
  | .str z, h => by
    simp [toP, PyData.canLay0, PyData.strOk]
    intro i hi
    exact h.2 _ (by simp)
  | .tup l, h => layL_ok h.2
  | .lst l, h => layL_ok h.2
  | .dct, _ => rfl
theorem layL_ok : ∀ {l : List Dat}, okL l → PyData.canLayAll0 (toPL l) = true
  | [], _ => rfl
  | d :: l, h => by
    show (PyData.canLay0 (toP d) && PyData.canLayAll0 (toPL l)) = true
    rw [lay_ok h.1, layL_ok h.2]; rfl
end
/-- flat things, and tuples of flat things -/
def fl2 : Dat → Bool
  | .tup m => m.all flatD
  | d => flatD d
theorem flat_noD {d : Dat} (h : flatD d = true) : noD d = true ∧ PyData.depth (toP d) = 0 := by
  cases d <;> first | exact ⟨rfl, rfl⟩ | cases h
theorem flats_noD : ∀ {l : List Dat}, l.all flatD = true → noDL l = true ∧ PyData.depthAll (toPL l) = 0
  | [], _ => ⟨rfl, rfl⟩
  | d :: l, h => by
    rw [List.all_cons, Bool.and_eq_true] at h
    obtain ⟨a, b⟩ := flat_noD h.1
    obtain ⟨c, e⟩ := flats_noD h.2
    refine ⟨?_, ?_⟩
    · show (noD d && noDL l) = true
      rw [a, c]; rfl
    · show max _ _ = 0
      rw [b, e]; rfl
theorem fl2_noD {d : Dat} (h : fl2 d = true) : noD d = true ∧ PyData.depth (toP d) ≤ 1 := by
  cases d with
  | tup m =>
    obtain ⟨a, b⟩ := flats_noD (l := m) h
    exact ⟨a, by show PyData.depthAll (toPL m) + 1 ≤ 1; rw [b]; decide⟩
  | non => exact ⟨rfl, by decide⟩
  | bl b => exact ⟨rfl, by show (0 : Nat) ≤ 1; decide⟩
  | int i => exact ⟨rfl, by show (0 : Nat) ≤ 1; decide⟩
  | str z => exact ⟨rfl, by show (0 : Nat) ≤ 1; decide⟩
  | lst l => cases h
  | dct => cases h
theorem fl2s_noD : ∀ {l : List Dat}, l.all fl2 = true → noDL l = true ∧ PyData.depthAll (toPL l) ≤ 1
  | [], _ => ⟨rfl, by decide⟩
  | d :: l, h => by
    rw [List.all_cons, Bool.and_eq_true] at h
    obtain ⟨a, b⟩ := fl2_noD h.1
    obtain ⟨c, e⟩ := fl2s_noD h.2
    refine ⟨?_, ?_⟩
    · show (noD d && noDL l) = true
      rw [a, c]; rfl
    · show max _ _ ≤ 1
      exact Nat.max_le.mpr ⟨b, e⟩
theorem fits_fl2 {k : Str} {d : Dat} {size len : Int} (h : fitsD k d size len = true) (hs : ∀ m, d = .tup m → ∀ g ∈ m, flatD g = true) : fl2 d = true := by
  cases d with
  | tup m => exact List.all_eq_true.mpr fun g hg => hs m rfl g hg
  | lst m =>
    exfalso
    unfold fitsD at h
    repeat' split at h
    all_goals cases h
  | dct =>
    exfalso
    unfold fitsD at h
    repeat' split at h
    all_goals cases h
  | _ => rfl
theorem fitAll_fl2 {size len : Int} : ∀ {ks : List Str} {l : List Dat}, l.length = ks.length → fitAll size len ks l = true → (∀ d ∈ l, ∀ m, d = .tup m → ∀ g ∈ m, flatD g = true) → l.all fl2 = true
  | [], [], _, _, _ => rfl
  | [], _ :: _, h, _, _ => by simp at h
  | _ :: _, [], _, _, _ => rfl
  | k :: ks, d :: l, h, hf, hs => by
    have hf2 : (fitsD k d size len && fitAll size len ks l) = true := hf
    rw [Bool.and_eq_true] at hf2
    rw [List.all_cons, fits_fl2 hf2.1 (hs d List.mem_cons_self), fitAll_fl2 (by simpa using h) hf2.2 fun e he => hs e (List.mem_cons_of_mem _ he)]
    rfl
theorem instr_plain {size len : Int} {d : Dat} (h : instrD size len d = true) (hs : shapeD d) : noD d = true ∧ PyData.depth (toP d) ≤ 2 := by
  have hw : wordD d = true := by
    cases e : wordD d with
    | true => rfl
    | false => rw [instr_word e] at h; cases h
  obtain ⟨z, rest, ks, rfl, hl⟩ := word_form hw
  rw [ninstr hl, Bool.and_eq_true, Bool.and_eq_true, decide_eq_true_iff] at h
  have hr := fitAll_fl2 h.1.1 h.1.2 fun e he m em => hs _ rfl e (List.mem_cons_of_mem _ he) m em
  have ha : (Dat.str z :: rest).all fl2 = true := by rw [List.all_cons, hr]; rfl
  obtain ⟨a, b⟩ := fl2s_noD ha
  exact ⟨a, by show PyData.depthAll (toPL (.str z :: rest)) + 1 ≤ 2; omega⟩
theorem instrs_plain {size len : Int} : ∀ {l : List Dat}, (∀ d ∈ l, instrD size len d = true ∧ shapeD d) → noDL l = true ∧ PyData.depthAll (toPL l) ≤ 2
  | [], _ => ⟨rfl, by decide⟩
  | d :: l, h => by
    obtain ⟨a, b⟩ := instr_plain (h d List.mem_cons_self).1 (h d List.mem_cons_self).2
    obtain ⟨c, e⟩ := instrs_plain (l := l) fun e he => h e (List.mem_cons_of_mem _ he)
    refine ⟨?_, ?_⟩
    · show (noD d && noDL l) = true
      rw [a, c]; rfl
    · show max _ _ ≤ 2
      exact Nat.max_le.mpr ⟨b, e⟩
/-- a code compared with () -/
theorem v_eqNo {size len : Int} {H : Hp} {Q : VK} {p p0 : Addr} {xs : List V} {l : List Dat} (h : SqT K H p xs) (r : RepL K H l xs) (ho : okL l) (hi : ∀ d ∈ l, instrD size len d = true ∧ shapeD d) (h0 : SqT K H p0 []) (hn : 0 < l.length) (k : Q (.bl false) H) : rEqU K (.ref p) (.ref p0) H Q := by
  obtain ⟨n, d⟩ := instrs_plain hi
  refine v_eqD (d := .tuple (toPL l)) (e := .tuple []) (.tup h (repL_dp n r)) (.tup h0 .nil) ?_ (by decide +kernel) ?_
  · unfold SeqAt.shaped
    rw [Bool.and_eq_true, decide_eq_true_iff]
    refine ⟨layL_ok ho, ?_⟩
    show PyData.depthAll (toPL l) + 1 ≤ 64
    omega
  · cases l with
    | nil => cases hn
    | cons d l => exact k
end K02

open PySem PySem.Spec PyProof.Rows L2 Kit
namespace Kit
/-- a class of the top that is ready to be called -/
structure MkCal (P : Program) (w : World) (K : PySem.W.Frag) (mg : Str → Option Value) (base : Heap) (k : Nat) (x : Str) (C : Addr) (ps : List Str) (sp : Sp) : Prop where
  ex : ∃ (f : Addr) (fd : FuncData), Mk K C f ∧ FnOk P w K mg base CX0 k f fd ps sp ∧ mg x = some (.ref C) ∧ Binds K fd ps []
theorem pmake {X : Cx} {x : Str} {e : Expr} {es : List Expr} {t : TA} {p pos : Pos} {k j : Nat} {ps : List Str} {sp : Sp} {C : Addr} (M : MkCal X.prog X.w X.K X.mg X.base k x C ps sp) (hr : Room j X.A) (hk : k + 1 ≤ j) (hg : Gl X x) (ha : PA X (e :: es) t) (hdb : (x == ("__debug__" : Str)) = false := by decide)
    (he : starEach (e :: es) X.env = (false, eval e X.env) :: starEach es X.env := by rfl) (hpl : (backTo pos (starEach es X.env)).any (·.1) = false := by rfl) :
    PE X (.Call (.Name x p) (e :: es) [] pos) (tMake C sp [] E0 t) := by
  obtain ⟨f, fd, m, F, hm, hb⟩ := M.ex
  exact pe_make m F (hr.mono hk) hg hm hb .nil pass0 ha hdb he hpl
section
variable {σ : L2.St} {K : PySem.W.Frag} {a : Addr}
theorem off_off_upd {H : Hp} {p a : Addr} {o : HO} : off p (off a (upd H p o)) = off p (off a H) := by
  funext b
  unfold off
  by_cases h : b = p
  · rw [if_pos h, if_pos h]
  · rw [if_neg h, if_neg h]
    by_cases h2 : b = a
    · rw [if_pos h2, if_pos h2]
    · rw [if_neg h2, if_neg h2, upd_ne h]
/-- a comprehension beside the source whose items stand in the heap -/
theorem lc_drH {J : It} {G : Hp → Prop} {Y : Nat → Hp → V → Hp → Prop} {xs : List V} {g : TG} {tt : TT} {te : TE} {vs : List Nat} {H1 : Hp} {Qd : Addr → Hp → Prop} (hs : Src a H1) (w : Walk J xs.length G Y) (hy : ∀ i H x H', i < xs.length → Y i H x H' → H' = H ∧ xs[i]? = some x)
    (hG : ∀ H', Dr a H1 H' → G H') (E : Hp → V → Prop) (mono : ∀ H H' y, Same H H' → E H y → E H' y) (hl : xs.length < sizeLine)
    (turn : ∀ (x D : Addr) (v : V) (H2 : Hp) (ys : List V) (R : V → Hp → Prop) (Rn : Hp → Prop), v ∈ xs → D ≠ a → H2 D = some (.lst ys) → Dr a H1 H2 → (∀ y H5, Dr a H2 H5 → E (off D (off a H5)) y → R y H5) →
      g v (wipe σ vs) H2 fun σ2 H3 => wipe σ2 vs = wipe σ vs ∧ tt σ2 H3 fun b H4 => if b = true then te σ2 H4 R else Rn H4)
    (fin : ∀ D H' ys, H1 D = none → Dr a H1 H' → H' D = some (.lst ys) → ys.length = xs.length → (∀ y ∈ ys, E (off D (off a H')) y) → Qd D H') :
    LcT J g tt te vs σ H1 Qd := by
  intro D hD
  have nD : D ≠ a := (hs.ne hD).symm
  refine lc_it w (fun i H => Dr a H1 H ∧ ∃ ys, H D = some (.lst ys) ∧ ys.length = i ∧ ∀ y ∈ ys, E (off D (off a H)) y) ⟨Dr.new hs hD, [], upd_same, rfl, fun _ z => by cases z⟩ (fun i H _ p => hG H p.1)
    ?_ (fun H p => by obtain ⟨d, ys, e, l, q⟩ := p; exact fin D H ys hD d e l q)
  rintro i x H H' hi ⟨sm, ys, hd, hlen, hE⟩ y
  obtain ⟨rfl, hx⟩ := hy i H x H' hi y
  refine turn 0 D x H' ys _ _ (List.mem_of_getElem? hx) nD hd sm (fun y H5 s5 e => ⟨_, s5.keep _ _ hd nD, by omega, (sm.trans s5).mut hs hD, ys ++ [y], upd_same, by simp [hlen], fun z hz => ?_⟩)
  rw [off_off_upd]
  rcases List.mem_append.mp hz with hz | hz
  · exact mono _ _ _ (same_off s5.off) (hE z hz)
  · cases List.mem_singleton.mp hz; exact e
end
end Kit
namespace K02
local macro_rules | `(tactic| walk_at "ne") => `(tactic| first
  | assumption
  | (apply Ne.symm; assumption)
  | exact ne_of_none (by assumption) (by assumption)
  | exact (ne_of_none (by assumption) (by assumption)).symm
  | (refine ne_of_none (H := ?H0) (o := ?oo) ?hs ?hn; (case hn => assumption); (case hs => walk_at "hp"))
  | (refine (ne_of_none (H := ?H0) (o := ?oo) ?hs ?hn).symm; (case hn => assumption); (case hs => walk_at "hp"))
  | (refine Src.ne (H := ?H0) ?hs ?hn; (case hn => assumption); (case hs => walk_at "src"))
  | (refine (Src.ne (H := ?H0) ?hs ?hn).symm; (case hn => assumption); (case hs => walk_at "src"))
  | fail "no rule")
local macro_rules | `(tactic| walk_at "hp") => `(tactic| first
  | assumption
  | exact upd_same
  | (refine (upd_ne ?hne).trans ?hrest; (case hne => walk_at "ne"); (case hrest => walk_at "hp"))
  | (refine same_at (H := ?H0) ?hs ?hrest; (case hs => assumption); (case hrest => walk_at "hp"))
  | (refine dr_at (H := ?H0) (a := ?a0) ?hs ?hne ?hrest; (case hs => assumption); (case hne => walk_at "ne"); (case hrest => walk_at "hp"))
  | fail "no rule")
local macro_rules | `(tactic| walk_at "sq") => `(tactic| first
  | assumption
  | exact Or.inl (Or.inl (by walk_at "hp"))
  | (refine sq_upd ?hnn ?hss; (case hnn => assumption); (case hss => walk_at "sq"))
  | (refine Same.seq (H := ?H0) ?hs ?hrest; (case hs => assumption); (case hrest => walk_at "sq"))
  | (refine sq_dr (H := ?H0) (a := ?a0) ?hs ?hne ?hrest; (case hs => assumption); (case hne => walk_at "ne"); (case hrest => walk_at "sq"))
  | fail "no rule")
local macro_rules | `(tactic| walk_at "sm") => `(tactic| first
  | assumption
  | exact Same.refl _
  | (refine same_new ?hnn; (case hnn => assumption))
  | (refine same_mut ?hs ?hnn; (case hs => walk_at "sm"); (case hnn => walk_at "fr"))
  | (refine Same.trans (H1 := ?H1) ?hs ?hq; (case hq => assumption); (case hs => walk_at "sm"))
  | fail "no rule")
local macro_rules | `(tactic| walk_at "fr") => `(tactic| first
  | assumption
  | (refine Same.free (H' := ?H1) ?hs ?hq; (case hq => assumption); (case hs => walk_at "sm"))
  | fail "no rule")
local macro_rules | `(tactic| walk_at "src") => `(tactic| first
  | assumption
  | exact Dr.src (by assumption)
  | (refine Src.same (H := ?H0) ?hs ?hm; (case hm => assumption); (case hs => walk_at "src"))
  | (refine Src.upd ?hs ?hn; (case hs => walk_at "src"); (case hn => walk_at "ne"))
  | fail "no rule")
local macro_rules | `(tactic| walk_at "fd") => `(tactic| first
  | assumption
  | (refine Same.free (H' := ?H1) ?hs ?hq; (case hq => assumption); (case hs => walk_at "sm"))
  | (refine Dr.free (H' := ?H1) ?h0 ?hs ?hq; (case hq => assumption); (case hs => walk_at "dr"); (case h0 => walk_at "src"))
  | fail "no rule")
local macro_rules | `(tactic| walk_at "dr") => `(tactic| first
  | assumption
  | (refine Dr.trans (H' := ?H1) ?hs ?hq; (case hq => assumption); (case hs => walk_at "dr"))
  | (refine Dr.mut ?hs ?h0 ?hn; (case hs => walk_at "dr"); (case h0 => walk_at "src"); (case hn => walk_at "fd"))
  | (refine Dr.trans (H' := ?H1) ?hs (Dr.same ?h0 ?hq); (case hq => assumption); (case h0 => walk_at "src"); (case hs => walk_at "dr"))
  | (refine Dr.refl ?hs; (case hs => walk_at "src"))
  | fail "no rule")
local macro_rules | `(tactic| walk_at "sz") => `(tactic| first
  | omega
  | (refine Nat.le_trans ?_ (show (1000 : Nat) ≤ sizeLine by decide); first | decide | omega | (simp; done) | (simp; omega) | fail)
  | fail "no rule")
local macro_rules | `(tactic| walk_at "v1") => `(tactic| first
  | with_reducible refine v_seq ?_
  | with_reducible refine v_asg ?_
  | with_reducible refine v_gname ?_
  | with_reducible refine v_c ?_
  | ((with_reducible refine v_var (v := ?vv) ?hv ?_); (case hv => exact rfl))
  | with_reducible refine v_op ?_
  | with_reducible refine v_un ?_
  | with_reducible refine v_I0 ?_
  | with_reducible refine v_U ?_
  | with_reducible refine v_addI ?_
  | with_reducible refine v_ltI ?_
  | with_reducible refine v_leI ?_
  | with_reducible refine v_gtI ?_
  | with_reducible refine v_geI ?_
  | with_reducible refine v_leS ?_
  | with_reducible refine v_ltS ?_
  | with_reducible refine v_eqI ?_
  | with_reducible refine v_neI ?_
  | with_reducible refine v_eqS ?_
  | with_reducible refine v_neS ?_
  | with_reducible refine v_eqB ?_
  | ((with_reducible refine v_eqTy ?h1 ?h2 ?_); (case h1 => walk_at "bt"); (case h2 => walk_at "bt"))
  | ((with_reducible refine v_neTy ?h1 ?h2 ?_); (case h1 => walk_at "bt"); (case h2 => walk_at "bt"))
  | with_reducible refine v_test ?_
  | with_reducible refine v_B ?_
  | with_reducible refine v_isbl ?_
  | with_reducible refine v_and ?_
  | with_reducible refine v_or ?_
  | with_reducible refine v_not ?_
  | with_reducible refine v_andV ?_
  | with_reducible refine v_orV ?_
  | with_reducible refine v_notV ?_
  | with_reducible refine v_if ?_
  | with_reducible refine v_chain ?_
  | with_reducible refine v_nil ?_
  | with_reducible refine v_cons ?_
  | with_reducible refine v_cb ?_
  | with_reducible refine v_call ?_
  | with_reducible refine v_max ?_
  | ((with_reducible refine v_draw ?hs ?hm ?_); (case hs => walk_at "src"); (case hm => omega))
  | with_reducible refine v_min ?_
  | with_reducible refine v_intI ?_
  | with_reducible refine v_intB ?_
  | with_reducible refine v_m1 ?_
  | with_reducible refine v_isstr ?_
  | with_reducible refine v_sl ?_
  | with_reducible refine v_ss ?_
  | with_reducible refine v_disp1 ?_
  | with_reducible refine v_s0 ?_
  | with_reducible refine v_nopart ?_
  | with_reducible refine v_part ?_
  | with_reducible refine v_partI ?_
  | with_reducible refine v_next ?_
  | with_reducible refine v_gsub ?_
  | with_reducible refine v_ifS ?_
  | with_reducible refine v_ret ?_
  | with_reducible refine v_drop ?_
  | ((with_reducible refine v_iteTrue ?hb ?_); (case hb => walk_at "bt"))
  | ((with_reducible refine v_iteFalse ?hb ?_); (case hb => walk_at "bt"))
  | with_reducible refine v_iteD ?_ ?_
  | with_reducible refine v_iteNot ?_
  | with_reducible refine v_lc ?_
  | with_reducible refine v_iStr ?_
  | with_reducible refine v_isS ?_
  | with_reducible refine v_iRng1 ?_
  | ((with_reducible refine v_rng1 ?hb ?_); (case hb => omega))
  | with_reducible refine v_iList ?_
  | with_reducible refine v_iSeq ?_
  | ((with_reducible refine v_isL (xs := ?xx) ?hsq ?_); (case hsq => walk_at "sq"))
  | with_reducible refine v_for ?_
  | with_reducible refine v_yes ?_
  | ((with_reducible refine v_nand ?hw ?_); (case hw => first | exact rfl | walk_at "sz" | fail))
  | ((with_reducible refine v_typ (T := ?TT) ?ht ?_); (case ht => walk_at "ty"))
  | ((with_reducible refine v_isiK (T := ?TT) ?ht ?h1 ?h2 ?_); (case ht => walk_at "ty"); (case h1 => walk_at "bt"); (case h2 => exact rfl))
  | with_reducible refine iteT ?_
  | with_reducible refine iteF ?_
  | with_reducible refine v_tup ?_
  | with_reducible refine v_lst ?_
  | ((with_reducible refine v_ixL (xs := ?xx) (v := ?vv) ?hsq ?hat ?_); (case hsq => walk_at "sq"); (case hat => exact rfl))
  | ((with_reducible refine v_lenL (xs := ?xx) ?hsq ?_); (case hsq => walk_at "sq"))
  | ((with_reducible refine v_setL (xs := ?xx) (j := ?jj) ?hh ?hj ?_); (case hh => walk_at "hp"); (case hj => exact rfl))
  | ((with_reducible refine v_I ?hc ?_); (case hc => walk_at "ic"))
  | ((with_reducible refine v_lenS ?hz ?_); (case hz => walk_at "sz"))
  | ((with_reducible refine v_slS ?hz ?_); (case hz => walk_at "sz"))
  | ((with_reducible refine v_addS ?hz ?_); (case hz => walk_at "sz"))
  | ((with_reducible refine v_ixS (c := ?cc) ?hz ?hat ?_); (case hz => walk_at "sz"); (case hat => exact rfl))
  | ((with_reducible refine v_addL (xs := ?xx) (ys := ?yy) ?h1 ?h2 ?hz ?_); (case h1 => walk_at "hp"); (case h2 => walk_at "hp"); (case hz => walk_at "sz"))
  | ((with_reducible refine v_ixT (xs := ?xx) (v := ?vv) ?hsq ?hat ?_); (case hsq => walk_at "sq"); (case hat => exact rfl))
  | ((with_reducible refine v_lenT (xs := ?xx) ?hsq ?_); (case hsq => walk_at "sq"))
  | ((with_reducible refine v_eq ?hs ?_); (case hs => exact rfl))
  | ((with_reducible refine v_ne ?hs ?_); (case hs => exact rfl))
  | (with_reducible intro _)
  | fail "no rule")
local macro_rules | `(tactic| walk_at "ic") => `(tactic| first
  | (show (0 : Int) < _; first | decide | omega | fail)
  | (show CMul _ _; unfold CMul; omega)
  | (show CDiv _ _; unfold CDiv; omega)
  | (show CPow _ _; unfold CPow; exact ⟨by decide, by decide, by decide⟩)
  | fail "no rule")
local macro_rules | `(tactic| walk_at "bt") => `(tactic| first
  | exact rfl
  | assumption
  | decide +kernel
  | (simp; done)
  | fail "no rule")
local macro_rules | `(tactic| walk_at "ty") => `(tactic| first
  | assumption
  | exact .non
  | exact .bl _
  | exact .int _
  | exact .str _
  | exact .lst (by walk_at "sq")
  | exact .tup (by walk_at "sq")
  | exact .dK (by walk_at "hp")
  | fail "no rule")
local macro_rules | `(tactic| walk_at "v") => `(tactic| try (walk_at "v1" <;> walk_at "v"))
local macro_rules | `(tactic| walk_at "start") => `(tactic| dsimp only [L2.start, cxOf, Cx.nox, Cx.wish, List.map, List.replicate, List.length, List.append, Nat.reduceSub, Nat.reduceAdd, List.cons_append, List.nil_append])

variable {P : Program} {w : World} {K : PySem.W.Frag} {mg : Str → Option Value} {base : Heap}
variable {aF : Addr} {es : Array DictEntry} {nF : Nat}
/-! ### off a list -/
theorem sqT_offL {H : Hp} {D b : Addr} {xs ys : List V} (h : SqT K H b xs) (hD : H D = some (.lst ys)) : SqT K (off D H) b xs := by
  rcases h with (h | ⟨o, h⟩) | h
  · refine .inl (.inl ?_)
    rw [off_ne (fun e => by rw [e, hD] at h; cases h)]
    exact h
  · refine .inl (.inr ⟨o, ?_⟩)
    rw [off_ne (fun e => by rw [e, hD] at h; cases h)]
    exact h
  · exact .inr h
theorem flat_offL {H : Hp} {D : Addr} {d : Dat} {v : V} (r : Rep K H d v) (h : flatD d = true) : Rep K (off D H) d v := by
  cases d with
  | non => exact r
  | bl b => exact r
  | int i => exact r
  | str z => exact r
  | _ => cases h
theorem flats_offL {H : Hp} {D : Addr} : ∀ {l : List Dat} {xs : List V}, RepL K H l xs → l.all flatD = true → RepL K (off D H) l xs
  | [], _, r, _ => r
  | d :: l, _, r, h => by
    obtain ⟨x, t, rfl, q, r2⟩ := r
    rw [List.all_cons, Bool.and_eq_true] at h
    exact ⟨x, t, rfl, flat_offL q h.1, flats_offL r2 h.2⟩
theorem fl2_offL {H : Hp} {D : Addr} {d : Dat} {v : V} {ys : List V} (r : Rep K H d v) (h : fl2 d = true) (hD : H D = some (.lst ys)) : Rep K (off D H) d v := by
  cases d with
  | tup m =>
    obtain ⟨b, xs, rfl, q, r2⟩ := r
    exact ⟨b, xs, rfl, sqT_offL q hD, flats_offL r2 h⟩
  | non => exact r
  | bl b => exact r
  | int i => exact r
  | str z => exact r
  | _ => cases h
theorem fl2s_offL {H : Hp} {D : Addr} {ys : List V} (hD : H D = some (.lst ys)) : ∀ {l : List Dat} {xs : List V}, RepL K H l xs → l.all fl2 = true → RepL K (off D H) l xs
  | [], _, r, _ => r
  | d :: l, _, r, h => by
    obtain ⟨x, t, rfl, q, r2⟩ := r
    rw [List.all_cons, Bool.and_eq_true] at h
    exact ⟨x, t, rfl, fl2_offL q h.1 hD, fl2s_offL hD r2 h.2⟩
theorem instr_fl2 {size len : Int} {d : Dat} (h : instrD size len d = true) (hs : shapeD d) : ∃ l, d = .tup l ∧ l.all fl2 = true := by
  have hw : wordD d = true := by
    cases e : wordD d with
    | true => rfl
    | false => rw [instr_word e] at h; cases h
  obtain ⟨z, rest, ks, rfl, hl⟩ := word_form hw
  rw [ninstr hl, Bool.and_eq_true, Bool.and_eq_true, decide_eq_true_iff] at h
  have hr := fitAll_fl2 h.1.1 h.1.2 fun e he m em => hs _ rfl e (List.mem_cons_of_mem _ he) m em
  exact ⟨_, rfl, by rw [List.all_cons, hr]; rfl⟩
theorem instr_offL {H : Hp} {D : Addr} {size len : Int} {d : Dat} {v : V} {ys : List V} (r : Rep K H d v) (h : instrD size len d = true) (hs : shapeD d) (hD : H D = some (.lst ys)) : Rep K (off D H) d v := by
  obtain ⟨l, rfl, ha⟩ := instr_fl2 h hs
  obtain ⟨b, xs, rfl, q, r2⟩ := r
  exact ⟨b, xs, rfl, sqT_offL q hD, fl2s_offL hD r2 ha⟩
end K02

open PySem PySem.Spec PyProof.Rows L2
/-! own errors that stand over Exception, made, held, read -/
namespace Kit
def exB : List Value := [.type "Exception", .type "BaseException", .type "object"]
/-- what is asked of the class at C, in one word -/
def errB (K : PySem.W.Frag) (C : Addr) : Bool :=
  PySem.W.excInitIn K C exB "Exception.__new__" && (PySem.W.excOver K C exB && (PySem.W.hasDictIn K C &&
    (decide (PySem.W.findIn K (.ref C) "__setattr__" = some (some (.builtin "object.__setattr__"))) && (PySem.W.keepIn K (.ref C) &&
      (decide (PySem.W.subIn K (.ref C) (.type "BaseException") = some true) && (decide (PySem.W.typeIn K (.ref C) = some (.type "type")) &&
        (decide (PySem.W.findIn K (.ref C) "__getattribute__" = some (some (.builtin "BaseException.__getattribute__"))) && (decide (PySem.W.findIn K (.ref C) "__getattr__" = some none) &&
          (decide (PySem.W.findIn K (.ref C) "__class__" = some (some (.builtin "object.__class__"))) && (decide (PySem.W.specialIn K (.builtin "object.__class__") "__get__" = some (some (.builtin "getset_descriptor.__get__"))) &&
            (decide (PySem.W.takesIn K (.builtin "object.__class__") = some true) && decide (PySem.W.mroIn K C (.type "object") = some true))))))))))))
structure ErrC (K : PySem.W.Frag) (C : Addr) : Prop where
  lay : PySem.W.excInitIn K C exB "Exception.__new__" = true
  ov : PySem.W.excOver K C exB = true
  hd : PySem.W.hasDictIn K C = true
  sa : PySem.W.findIn K (.ref C) "__setattr__" = some (some (.builtin "object.__setattr__"))
  kp : PySem.W.keepIn K (.ref C) = true
  bs : PySem.W.subIn K (.ref C) (.type "BaseException") = some true
  ty : PySem.W.typeIn K (.ref C) = some (.type "type")
  ga : PySem.W.findIn K (.ref C) "__getattribute__" = some (some (.builtin "BaseException.__getattribute__"))
  gg : PySem.W.findIn K (.ref C) "__getattr__" = some none
  ic : PySem.W.findIn K (.ref C) "__class__" = some (some (.builtin "object.__class__"))
  isp : PySem.W.specialIn K (.builtin "object.__class__") "__get__" = some (some (.builtin "getset_descriptor.__get__"))
  itk : PySem.W.takesIn K (.builtin "object.__class__") = some true
  imr : PySem.W.mroIn K C (.type "object") = some true
theorem errB_ok {K : PySem.W.Frag} {C : Addr} (h : errB K C = true) : ErrC K C := by
  unfold errB at h
  simp only [Bool.and_eq_true, decide_eq_true_eq] at h
  obtain ⟨a, b, c, d, e, f, g, i, j, k, l, m, n⟩ := h
  exact ⟨a, b, c, d, e, f, g, i, j, k, l, m, n⟩
theorem ErrC.xf {K : PySem.W.Frag} {C : Addr} (T : ErrC K C) : XfC K C := ⟨T.ga, T.gg, T.bs, T.hd⟩
theorem taker_none {K : PySem.W.Frag} {C : Addr} {f : Str} (h : PySem.W.findIn K (.ref C) f = some none) : PySem.W.takerIn K C f = some none := by
  unfold PySem.W.takerIn
  rw [h]
  rfl
/-- the record of an error -/
abbrev erO (C t : Addr) (d : Option Addr) : Obj := { cls := .ref C, dict := d, data := .fields #[.ref t, .none, .none, .none, .bool false, .none] }
section
variable {prog : Program} {w : World} {A : Around} {R : Result → Shared → Prop} {hp : Heap} {g : Array GenState} {d : Drawn} {t : Nat} {os : OsState}
/-- object.__setattr__ of a fresh error: its dict is made -/
theorem err_store {K : PySem.W.Frag} {C x t0 : Addr} {name : Str} {tk : Tok} {v : Value} (T : ErrC K C) (X : K.In hp) (hx : hp.get? x = some (erO C t0 none)) (hf : PySem.W.findIn K (.ref C) name = some none)
    (hq : ∀ h' tk' dx, (∀ b o, b ≠ x → hp.get? b = some o → h'.get? b = some o) → hp.objs.size ≤ dx → dx ≠ x → h'.get? x = some (erO C t0 (some dx)) → h'.Ns1 dx (fun y => if y = name then some v else none) →
      R (.ok (.ret .none)) ⟨h', g, d, tk', os⟩) :
    codeAny (model prog w) A (.call (.builtin "object.__setattr__") ⟨[.ref x, .str name tk, v], []⟩) R ⟨hp, g, d, t, os⟩ := by
  have far : x ≠ hp.objs.size := Nat.ne_of_lt (Heap.lt_size hx)
  refine PySem.W.osa_openX (s := ⟨hp, g, d, t, os⟩) (od := none) F.store_Exception X ⟨hx, rfl, rfl, trivial⟩ T.ov (taker_none hf) fun b => ?_
  obtain ⟨cd, hc, hd'⟩ := PySem.W.any_some T.hd
  refine wpAny_bind (wpAny_pure (wpAny_bind (PySem.W.instanceDict_exc (s := ⟨hp, g, d, t, os⟩) (c2 := .none) hx (PySem.W.looks_clsIn X hc) hd' ?_)))
  refine HandSPX.store_in_new (dx := hp.objs.size) ?_ fun h' tk' hn' hs => ?_
  · refine ⟨_, #[], 0, (Heap.get?_update_ne _ _ _ _ far.symm).trans (Heap.get?_push_at rfl rfl), rfl, fun e he => absurd he (by simp), fun _ => rfl⟩
  · have old : ∀ b o, hp.get? b = some o → (hp.push (PySem.W.dictOf [] 0)).get? b = some o := fun b o e => Heap.get?_push_of_some _ e
    refine hq h' tk' hp.objs.size (fun b o nb e => ?_) (Nat.le_refl _) far.symm ?_ hn'
    · rw [hs.2 b (Nat.ne_of_lt (Heap.lt_size e))]
      exact (Heap.get?_update_ne _ _ _ _ nb).trans (old b o e)
    · rw [hs.2 x far]
      exact Heap.get?_update_self _ (old x _ hx) rfl
end
section
variable {fs : List Addr} {H : Hp} {h h' : Heap} {a dx : Addr} {o0 o1 o2 : HO}
/-- a tracked object is written and a new one laid beside it -/
theorem Un.beside (e : H a = some o0) (n1 : ∀ xs, o0 ≠ .tup xs) (n2 : ∀ o u, o0 ≠ .frz o u) (n3 : ∀ ps, o0 ≠ .tbl ps) (hd : H dx = none) (hn : h.objs.size ≤ dx) (k : ∀ b o, b ≠ a → h.get? b = some o → h'.get? b = some o) (ha : ∃ o, h'.get? a = some o) :
    Un fs [] H (upd (upd H dx o1) a o2) h h' := by
  have nd : ∀ {b : Addr} {o : Obj}, h.get? b = some o → b ≠ dx := fun q => Nat.ne_of_lt (Nat.lt_of_lt_of_le (Heap.lt_size q) hn)
  have na : ∀ {b : Addr}, H b = none → b ≠ a := fun {b} n z => by rw [z, e] at n; cases n
  have tr : ∀ {b : Addr} {u : HO}, H b = some u → u ≠ o0 → upd (upd H dx o1) a o2 b = some u := fun {b u} q ne => by
    have hb : b ≠ a := fun z => by rw [z, e] at q; exact ne (Option.some.inj q).symm
    rw [upd_ne hb, upd_ne (ne_of_none q hd)]
    exact q
  constructor
  · intro b o q n _ _
    exact k b o (na n) q
  · intro b o q n _ _
    exact ⟨o.slots, k b o (na n) q⟩
  · intro b o q n _
    rw [upd_ne (na n), upd_ne (nd q)]
    exact n
  · intro b o q _
    by_cases hb : b = a
    · rw [hb]
      exact ha
    · exact ⟨o, k b o hb q⟩
  · exact fun b xs q => tr q (fun z => n1 xs z.symm)
  · exact fun b o u q => tr q (fun z => n2 o u z.symm)
  · exact fun b ps q => ⟨#[], by rw [tr q (fun z => n3 ps z.symm)]; simp⟩
end
section
variable {X : Cx} {pins : List (Addr × Obj)} {σ : L2.St} {H : Hp} {s : Shared} {a C dx : Addr} {f : Str} {y : V} {u : Value} {fs : List (Str × V)} {Q : Unit → Shared → Prop} {E : Value → Shared → Prop}
/-- self.f = y, the first one of a new error -/
theorem err_first (T : ErrC X.K C) (I : Inv X pins σ H s) (e : H a = some (exo a C none)) (hno : PySem.W.findIn X.K (.ref C) f = some none) (ry : RelV y u)
    (h : ∀ dx s', H dx = none → dx ≠ a → Inv X pins σ (upd (upd H dx (exd dx [(f, y)])) a (exo a C (some dx))) s' → Q () s') : wpAny (model X.prog X.w) X.A (setAttr (.ref a) f u) Q E s := by
  obtain ⟨t1, ho⟩ := exo_at I.hok e
  obtain ⟨hp, g, d, t, os⟩ := s
  refine PySem.W.set_plain (od := none) I.kIn ⟨ho, rfl, rfl, trivial⟩ T.sa (err_store T I.kIn ho hno fun h' tk' dx k dn dne hx hn => ?_)
  have hnd : H dx = none := I.hok.fresh dn
  refine h dx _ hnd dne (I.un (t' := tk') (Un.beside e (fun _ => exo_tup) (fun _ _ => exo_frz) (fun _ => exo_tbl) hnd dn k ⟨_, hx⟩) fun b o q => ?_)
  by_cases hb : b = a
  · subst hb
    rw [upd_same] at q
    cases q
    exact exo_ok hx
  rw [upd_ne hb] at q
  by_cases hd : b = dx
  · subst hd
    rw [upd_same] at q
    cases q
    exact exd_ok hn (relO_put (fs := []) ry fun g => True.intro)
  rw [upd_ne hd] at q
  refine (I.hok b o q).stay (fun c v hc z => k c v ?_ z) (fun c hc => ?_) fun c xs hc => ?_
  · rcases hc with hc | hc
    · rw [hc]
      exact hb
    · exact at_ne e hc exo_own
  · rw [upd_ne (at_ne e hc exo_own), upd_ne (ne_of_none hc hnd)]
    exact hc
  · rw [upd_ne (at_ne e hc exo_tup), upd_ne (ne_of_none hc hnd)]
    exact hc
end
section
variable {X : Cx} {pins : List (Addr × Obj)} {σ : L2.St} {H : Hp} {s : Shared} {a C dx : Addr} {f : Str} {y : V} {u : Value} {fs : List (Str × V)} {Q : Unit → Shared → Prop} {E : Value → Shared → Prop}
/-- self.f = y, a further one -/
theorem err_more (T : ErrC X.K C) (I : Inv X pins σ H s) (e : H a = some (exo a C (some dx))) (ed : H dx = some (exd dx fs)) (hl : fs.length ≤ 900) (hno : PySem.W.findIn X.K (.ref C) f = some none) (ry : RelV y u)
    (h : ∀ s', Inv X pins σ (upd H dx (exd dx ((f, y) :: fs))) s' → Q () s') : wpAny (model X.prog X.w) X.A (setAttr (.ref a) f u) Q E s := by
  obtain ⟨t1, ho⟩ := exo_at I.hok e
  obtain ⟨mA, hns, rel⟩ := exd_at I.hok ed
  obtain ⟨oD, _, _, hoD, _, _⟩ := hns.count (within_of rel)
  obtain ⟨hp, g, d, t, os⟩ := s
  obtain ⟨cd, hc, hd'⟩ := PySem.W.any_some T.hd
  have L : PySem.W.Looks (model X.prog X.w) hp (classData C) cd := PySem.W.looks_clsIn I.kIn hc
  refine PySem.W.set_plain (od := some oD) I.kIn ⟨ho, rfl, rfl, hoD⟩ T.sa (PySem.W.osa_openX (s := ⟨hp, g, d, t + 1, os⟩) (od := some oD) F.store_Exception I.kIn ⟨ho, rfl, rfl, hoD⟩ T.ov (taker_none hno) fun b => ?_)
  refine wpAny_bind (wpAny_pure (wpAny_bind (wpAny_bind (wpAny_loadPart ho (wpAny_bind (L.at ?_))))))
  rw [hd']
  refine wpAny_pure (a := some dx) (OEX.store_in_old hns (within_of rel) (by rw [List.length_map]; omega) fun h' tk' hn sb => ?_)
  have there : ∃ o, h'.get? dx = some o := by
    obtain ⟨o, _, _, e', _⟩ := hn
    exact ⟨o, e'⟩
  exact h _ (I.write (t' := tk') (x := dx) (e := dx) (o := exd dx ((f, y) :: fs)) (by rw [ed]; trivial) (.inl rfl) (fun b o nb q => (sb.2 b nb).trans q) there (exd_ok hn (relO_put ry rel)))
end
/-- the reading of self.f = e in the __init__ of an error -/
def tErSt (K : PySem.W.Frag) (f : Str) (to te : TE) : TS := fun D σ H => te σ H fun y H1 => to σ H1 fun x H2 => ∃ a C : Addr, x = .ref a ∧ ErrC K C ∧ PySem.W.findIn K (.ref C) f = some none ∧
  ((H2 a = some (exo a C none) ∧ ∀ dx, H2 dx = none → dx ≠ a → D.nx σ (upd (upd H2 dx (exd dx [(f, y)])) a (exo a C (some dx)))) ∨
    ∃ (dx : Addr) (fs : List (Str × V)), H2 a = some (exo a C (some dx)) ∧ H2 dx = some (exd dx fs) ∧ fs.length ≤ 900 ∧ D.nx σ (upd H2 dx (exd dx ((f, y) :: fs))))
section
variable {X : Cx} {o e : Expr} {es : List Expr} {to te : TE} {ta : TA} {f x : Str} {p p' pos : Pos} {C fI : Addr} {k j : Nat} {fd : FuncData} {ps : List Str} {sp : Sp}
theorem ps_err (ho : PE X o to) (he : PE X e te) (hs : swapsWith e (some (.Attribute o f p')) pos.line X.env = pure false := by rfl) : PS X (.Assign [.Attribute o f p'] e pos) (tErSt X.K f to te) := by
  constructor
  intro pins s σ H D I h
  refine plainObj_wpAny_Assign_Attribute (thn (he.run pins s σ H _ I h) fun v s1 ⟨y, H1, I1, r1, q1⟩ => thn (ho.run pins s1 σ H1 _ I1 q1) fun u s2 ⟨x, H2, I2, r2, a, C, ex, T, hno, q⟩ => ?_) hs
  subst ex
  cases (show u = Value.ref a from r2)
  rcases q with ⟨ea, q⟩ | ⟨dx, fs, ea, ed, hl, q⟩
  · exact err_first T I2 ea hno r1 fun dx s' n ne J => ⟨σ, _, J, q dx n ne⟩
  · exact err_more T I2 ea ed hl hno r1 fun s' J => ⟨σ, _, J, q⟩
/-- an own error of the top that is ready to be made -/
structure ErCal (P : Program) (w : World) (K : PySem.W.Frag) (mg : Str → Option Value) (base : Heap) (k : Nat) (x : Str) (C : Addr) (ps : List Str) (sp : Sp) : Prop where
  T : ErrC K C
  ex : ∃ (f : Addr) (fd : FuncData), PySem.W.findIn K (.ref C) "__init__" = some (some (.ref f)) ∧ PySem.W.typeIn K (.ref f) = some (.type "function") ∧ FnOk P w K mg base CX0 k f fd ps sp ∧ mg x = some (.ref C) ∧ Binds K fd ps []
theorem err_open {pins : List (Addr × Obj)} {σ : L2.St} {H : Hp} {s : Shared} {us : List Value} {vs : List V} {Q : Addr → VK} {R : Value → Shared → Prop} (M : ErCal X.prog X.w X.K X.mg X.base k x C ps sp) (hr : Room (k + 1) X.A) (I : Inv X pins σ H s) (r : Vals vs us) (hl : vs.length ≤ 1000)
    (hsp : ∀ a, H a = none → sp (.ref a :: vs) (upd H a (exo a C none)) (Q a) E0)
    (fin : ∀ a h2 u s', H a = none → s.heap.objs.size ≤ a → (∀ b o, s.heap.get? b = some o → h2.get? b = some o) → Inv X pins σ (upd H a (exo a C none)) { s with heap := h2 } → CE X.stack X.prog X.w (upd H a (exo a C none)) { s with heap := h2 } (Q a) u s' → u = .none ∧ R (.ref a) s') :
    wpAny (model X.prog X.w) X.A (call (.ref C) us) R X.xe s := by
  obtain ⟨fI, fd, iC, tI, F1, hm, hb⟩ := M.ex
  obtain ⟨nm, N, qn, bs, bm, hdct, sn, sub, ab, col, dd, k0, k1, k2, k3, k5, hC, hT⟩ := PySem.W.excInit_of I.kIn M.T.lay
  obtain ⟨hp, g, dr, tk, os⟩ := s
  have big : hp.objs.size ≤ hp.objs.size + 1 := Nat.le_succ _
  have hn : H (hp.objs.size + 1) = none := I.hok.fresh big
  have hq := hsp (hp.objs.size + 1) hn
  have old : ∀ b o, hp.get? b = some o → ((hp.push (PySem.W.kdv_tup us)).push (HandSPX.excO C hp.objs.size)).get? b = some o := fun b o e => Heap.get?_push_of_some _ (Heap.get?_push_of_some _ e)
  have new : ((hp.push (PySem.W.kdv_tup us)).push (HandSPX.excO C hp.objs.size)).get? (hp.objs.size + 1) = some (HandSPX.excO C hp.objs.size) := by heap_get
  have I2 := I.laid (t' := tk) (a := hp.objs.size + 1) (o := exo (hp.objs.size + 1) C none) old big (exo_ok new)
  have r2 : Vals (V.ref (hp.objs.size + 1) :: vs) (Value.ref (hp.objs.size + 1) :: us) := .cons rfl r
  have len : (Value.ref (hp.objs.size + 1) :: us).length = ps.length := by
    rw [← r2.length]
    exact F1.len _ _ _ _ hq
  have room : us.length ≤ sizeLine := by
    rw [← Paired.length r, sizeLine_eq]
    omega
  have bnd := hb ⟨_, g, dr, tk, os⟩ (Value.ref (hp.objs.size + 1) :: us) I2.kIn (by rw [List.append_nil]; exact len)
  rw [List.append_nil] at bnd
  refine wpAny_call (HandSPX.call_own F.excBase_Exception hT hC (PySem.W.looks_findIn I.kIn iC) (fun self => PySem.W.bind_fn I.kIn self tI) room (codeAny_mono (F1.run _ X.stack _ _ ⟨Value.ref (hp.objs.size + 1) :: us, []⟩ _ _ _ E0 (hr.make C us []) (I2.env0.make C us []) bnd r2 hq) fun r s' hq' => ?_))
  cases r with
  | error er => exact False.elim hq'
  | ok fl =>
    cases fl with
    | ret u => exact fin _ _ u s' hn big old I2 hq'
    | next => exact False.elim hq'
    | brk => exact False.elim hq'
    | cont => exact False.elim hq'
/-- C(e, ..), an own error, as a value -/
def tErV (C : Addr) (sp : Sp) (ta : TA) : TE := fun σ H Q => ta σ H fun vs H1 => vs.length ≤ 1000 ∧ ∀ a, H1 a = none → sp (.ref a :: vs) (upd H1 a (exo a C none)) (fun v H2 => v = .non ∧ Q (.ref a) H2) E0
theorem pe_err (M : ErCal X.prog X.w X.K X.mg X.base k x C ps sp) (hr : Room j X.A) (hk : k + 1 ≤ j) (hg : Gl X x) (ha : PA X (e :: es) ta) (hdb : (x == ("__debug__" : Str)) = false := by decide)
    (he : starEach (e :: es) X.env = (false, eval e X.env) :: starEach es X.env := by rfl) (hpl : (backTo pos (starEach es X.env)).any (·.1) = false := by rfl) : PE X (.Call (.Name x p) (e :: es) [] pos) (tErV C sp ta) := by
  constructor
  intro pins s σ H Q I h
  obtain ⟨_, _, _, _, _, hm, _⟩ := M.ex
  refine wpAny_Call_Name_kw (ld_glob I hg hm (PySem.W.callWith_K (h₀ := X.base) I.ok.mod.kin M.T.kp (thn (ha.run pos pins s σ H _ I h) fun us s1 ⟨vs, H1, I1, r1, hz, q⟩ => ⟨I1.kIn, ?_⟩) he hpl) hdb)
  refine err_open M (hr.mono hk) I1 r1 hz q fun a h2 u s' _ _ _ J c => ?_
  obtain ⟨v, H', I3, rv, ev, q3⟩ := J.after c
  subst ev
  exact ⟨rv, V.ref a, H', I3, rfl, q3⟩
/-- C(e, ..), an own error that is raised -/
def tErR (C : Addr) (sp : Sp) (ta : TA) : L2.St → Hp → XK → Prop := fun σ H Q => ta σ H fun vs H1 => vs.length ≤ 1000 ∧ ∀ a, H1 a = none → sp (.ref a :: vs) (upd H1 a (exo a C none))
  (fun v H2 => v = .non ∧ ∃ (d : Addr) (fs : List (Str × V)), H2 a = some (exo a C (some d)) ∧ H2 d = some (exd d fs) ∧ H1 d = none ∧ Q (.ref C) (some d) (upd (del H2 a) d (.xd fs))) E0
theorem pmk_err (M : ErCal X.prog X.w X.K X.mg X.base k x C ps sp) (hr : Room j X.A) (hk : k + 1 ≤ j) (hg : Gl X x) (ha : PA X (e :: es) ta) (hdb : (x == ("__debug__" : Str)) = false := by decide)
    (he : starEach (e :: es) X.env = (false, eval e X.env) :: starEach es X.env := by rfl) (hpl : (backTo pos (starEach es X.env)).any (·.1) = false := by rfl) : PMk X (.Call (.Name x p) (e :: es) [] pos) (tErR C sp ta) := by
  intro pins s σ H Q I h
  obtain ⟨_, _, _, _, _, hm, _⟩ := M.ex
  refine wpAny_Call_Name_kw (ld_glob I hg hm (PySem.W.callWith_K (h₀ := X.base) I.ok.mod.kin M.T.kp (thn (ha.run pos pins s σ H _ I h) fun us s1 ⟨vs, H1, I1, r1, hz, q⟩ => ⟨I1.kIn, ?_⟩) he hpl) hdb)
  obtain ⟨hp, g, dr, tk, os⟩ := s1
  refine err_open M (hr.mono hk) I1 r1 hz q fun a hp2 u s' _ big old J c => ?_
  obtain ⟨v, H2, os2, bare2, un2, hok2, rv, ev, d, fs, ea, ed, hd1, q2⟩ := c
  subst ev
  obtain ⟨h2, g2, d2, t2, os'⟩ := s'
  exact ⟨rv, mk_end (raises_own M.T.bs M.T.ty) I1 big old un2 hok2 os2 bare2 ea ed hd1 q2⟩
end
/-! a held error's attribute, and isinstance of it -/
theorem held_at {X : Cx} {pins : List (Addr × Obj)} {σ : L2.St} {H : Hp} {s : Shared} {a C dx : Addr} {fs : List (Str × V)} (I : Inv X pins σ H s) (e : H a = some (exo a C (some dx))) (ed : H dx = some (exd dx fs)) :
    ∃ (o od : Obj) (mA : Str → Option Value), PySem.W.InstAt s.heap a o C (some od) ∧ (∀ n, PySem.W.lookIn n od = some (mA n)) ∧ ∀ n, RelO (fs.lookup n) (mA n) := by
  obtain ⟨t1, ho⟩ := exo_at I.hok e
  obtain ⟨mA, hns, rel⟩ := exd_at I.hok ed
  obtain ⟨od, hod, hl⟩ := lookIn_ns hns
  exact ⟨_, od, mA, ⟨ho, rfl, rfl, hod⟩, hl, rel⟩
def tErAt (K : PySem.W.Frag) (f : Str) (te : TE) : TE := fun σ H Q => te σ H fun x H1 => ∃ (a C dx : Addr) (fs : List (Str × V)) (v : V), x = .ref a ∧ ErrC K C ∧ PySem.W.findIn K (.ref C) f = some none ∧ H1 a = some (exo a C (some dx)) ∧ H1 dx = some (exd dx fs) ∧ fs.lookup f = some v ∧ Q v H1
theorem pe_erAt {X : Cx} {e : Expr} {te : TE} {pos : Pos} {n : Str} (he : PE X e te) (hb : attributeBase e n X.env (eval e X.env) = eval e X.env := by rfl) : PE X (.Attribute e n pos) (tErAt X.K n te) := by
  constructor
  intro pins s σ H Q I h
  refine attr_of hb (thn (he.run pins s σ H _ I h) fun u s1 ⟨x, H1, I1, rx, a, C, dx, fs, v, ex, T, hno, ea, ed, l, q⟩ => ?_)
  subst ex
  cases (show u = Value.ref a from rx)
  obtain ⟨o, od, mA, J, hl, rel⟩ := held_at I1 ea ed
  obtain ⟨w, hw, rw'⟩ := RelO.some_of (v := v) (o := mA n) (by rw [← l]; exact rel n)
  exact HandSPX.exc_get I1.kIn J T.ga T.gg T.bs (PySem.W.findObj_own T.hd hno rfl (by rw [hl, hw])) (handed_of rw') ⟨v, H1, I1.tok _, rw', q⟩
theorem ErrC.kit {K : PySem.W.Frag} {C x : Addr} {ox : Obj} {od : Option Obj} (T : ErrC K C) : PySem.W.KitX K (.ref x) (.ref C) (fun h => PySem.W.InstAt h x ox C od) :=
  PySem.W.kitx_exc (gt := none) (by obtain ⟨cd, hc, _⟩ := PySem.W.any_some T.hd; rw [hc]; rfl) T.ga T.gg T.bs T.ic T.isp T.itk T.imr
def rErIs (K : PySem.W.Frag) : List V → Hp → VK → Prop := fun xs H Q => ∃ (a C dx : Addr) (fs : List (Str × V)) (c : V) (u : Value) (b : Bool), xs = [.ref a, c] ∧ ErrC K C ∧ H a = some (exo a C (some dx)) ∧ H dx = some (exd dx fs) ∧ ClsV c u ∧ PySem.W.kitOne K (.ref C) u = some b ∧ Q (.bl b) H
theorem call_erIs {X : Cx} : CallR X (.builtin "isinstance") (rErIs X.K) := by
  intro pins s σ H xs us Q I r h
  obtain ⟨a, C, dx, fs, c, u, b, rfl, T, ea, ed, k, e, q⟩ := h
  obtain ⟨u1, u2, rfl, r1, r2⟩ := vals2 r
  cases k.eq r2
  cases (show u1 = Value.ref a from r1)
  obtain ⟨o, od, mA, J, _, _⟩ := held_at I ea ed
  exact PySem.W.kia_one T.kit I.kIn J e (fun z => nomatch z) fun tk => ⟨.bl b, H, I.tok tk, rfl, q⟩
def rErIsT (K : PySem.W.Frag) : List V → Hp → VK → Prop := fun xs H Q => ∃ (a C dx : Addr) (fs : List (Str × V)) (tp : Addr) (cs : List V) (us : List Value) (b : Bool), xs = [.ref a, .ref tp] ∧ ErrC K C ∧ H a = some (exo a C (some dx)) ∧ H dx = some (exd dx fs) ∧ H tp = some (.tup cs) ∧ Paired ClsV cs us ∧ PySem.W.kitAny K (.ref C) us = some b ∧ Q (.bl b) H
theorem call_erIsT {X : Cx} : CallR X (.builtin "isinstance") (rErIsT X.K) := by
  intro pins s σ H xs us Q I r h
  obtain ⟨a, C, dx, fs, tp, cs, ws, b, rfl, T, ea, ed, hT, k, e, q⟩ := h
  obtain ⟨u1, u2, rfl, r1, r2⟩ := vals2 r
  cases (show u2 = Value.ref tp from r2)
  cases (show u1 = Value.ref a from r1)
  obtain ⟨o, od, mA, J, _, _⟩ := held_at I ea ed
  obtain ⟨_, its, rv, ⟨oc, odd, dt, sl⟩, h1, h2, n, h3⟩ := (show ObjOk X.prog X.w H s.heap tp (.tup cs) from I.hok tp _ hT)
  cases ClsV.all k rv
  dsimp only at h2 h3
  subst h2 h3
  exact PySem.W.kia_tup T.kit I.kIn J h1 e (fun z => nomatch z) fun tk => ⟨.bl b, H, I.tok tk, rfl, q⟩
/-- the error that an except suite holds -/
def rErIsC (K : PySem.W.Frag) (a : Addr) (cls : Value) : List V → Hp → VK → Prop := fun xs H Q => ∃ (c : V) (u : Value) (b : Bool) (C dx : Addr) (fs : List (Str × V)), xs = [.ref a, c] ∧ cls = .ref C ∧ ErrC K C ∧ H dx = some (.xd fs) ∧ ClsV c u ∧ PySem.W.kitOne K (.ref C) u = some b ∧ Q (.bl b) H
theorem call_erIsC {X : Cx} {a : Addr} {oe : Obj} {cls : Value} {d : Addr} {pn : List (Addr × Obj)} (hz : Zc cls (some d) oe) (hf : ∃ vs, oe.data = .fields vs) : CallR (X.suite a ((a, oe) :: pn)) (.builtin "isinstance") (fun xs H Q => ∃ fs, H d = some (.xd fs) ∧ rErIsC X.K a cls xs H Q) := by
  intro pins s σ H xs us Q I r h
  obtain ⟨fs, hd, c, u, b, C, dx, fs', rfl, rfl, T, _, k, e, q⟩ := h
  obtain ⟨u1, u2, rfl, r1, r2⟩ := vals2 r
  cases k.eq r2
  cases (show u1 = Value.ref a from r1)
  obtain ⟨ha, _⟩ := I.pin (a, oe) (List.mem_append_left _ List.mem_cons_self)
  obtain ⟨vs, hv⟩ := hf
  obtain ⟨mA, hns, _⟩ := (show ObjOk X.prog X.w H s.heap d (.xd fs) from I.hok d _ hd)
  obtain ⟨od, hod, _⟩ := lookIn_ns hns
  have J : PySem.W.InstAt s.heap a oe C (some od) := ⟨ha, hz.1, by unfold PySem.W.notCls; rw [hv] <;> rfl, by rw [hz.2]; exact hod⟩
  exact PySem.W.kia_one T.kit I.kIn J e (fun z => nomatch z) fun tk => ⟨.bl b, H, I.tok tk, rfl, q⟩
end Kit

open PySem PySem.Spec PyProof.Rows L2
/-! promises of defs that may say repr of things: no repr is under way where they are called -/
namespace Kit
structure FnG (P : Program) (w : World) (K : PySem.W.Frag) (mg : Str → Option Value) (base : Heap) (CX : CXT) (k : Nat) (f : Addr) (fd : FuncData) (ps : List Str) (sp : Sp) : Prop where
  len : ∀ vs H Q E, sp vs H Q E → vs.length = ps.length
  run : ∀ (A : Around) (outer : List Env) (s : Shared) (H : Hp) (args : Args) (us : List Value) (vs : List V) (Q : VK) (E : XK),
    A.guards = some [] → Room k A → Env0 P w K mg base A outer s H → BindsTo s fd args (ps.zip us) → Vals vs us → sp vs H Q E → codeAny (model P w) A (.call (.ref f) args) (CR CX outer P w H s Q E) s
section
variable {P : Program} {w : World} {K : PySem.W.Frag} {mg : Str → Option Value} {base : Heap} {CX : CXT} {k : Nat} {f : Addr} {fd : FuncData} {x qual : Str} {N ps : List Str} {sp : Sp} {st : Stmt}
/-- a def by its body -/
theorem okG (F : Fun K x qual st f fd) (S : FnScope N ps (defScope st)) (len : ∀ vs H Q E, sp vs H Q E → vs.length = ps.length)
    (body : ∀ cdv A outer s H vs Q E, A.guards = some [] → Room k (A.deeper (envOfC qual (defScope st) s.heap.objs.size f cdv)) → sp vs H Q E →
      ∃ t, PSs (cxOf CX P w K mg base N qual (defScope st) f cdv A outer s H E) (defBody st) t ∧ t { nx := fun _ H' => Q .non H', rt := Q } (start N vs) H) :
    FnG P w K mg base CX (k + 1) f fd ps sp := by
  obtain ⟨oc, od, kV, doc, pm, an, cdv, ct, osl, rfl, look, code⟩ := F.ex
  constructor
  · exact len
  intro A outer s H args us vs Q E gd hr e0 hb r hsp
  have KX : K.In s.heap := e0.mod.kin.keeps fun b o e => (e0.bs b o e).1
  have kinds : ∀ y ∈ ps.zip us, (defScope st).names.lookup y.1 = some .local ∨ ((defScope st).names.lookup y.1 = some .cell ∧ ((cellsFrom (s.heap.objs.size + 1) (defScope st).names []).lookup y.1).isSome = true) := by
    rintro ⟨n, v⟩ hy
    exact (S.par n (List.of_mem_zip hy).1).imp id fun q => ⟨q, PySem.W.cellsFrom_some _ _ _ (.inl q)⟩
  refine codeAny_call_function hr.depth (KX _ _ look) rfl S.co S.gen rfl (PySem.W.codeRec_of KX code)
    (hb _ _ _ _ (wpAny_newFunctionEnv_cells S.kind kinds fun env he s1 z => ?_))
  subst he
  refine ⟨(e0.mod.nolimit.keeps fun b o e => (e0.bs b o e).1).keeps z.toInCall.keep, codeAny_func ?_⟩
  obtain ⟨t, ht, hq⟩ := body cdv A outer s H vs Q E gd (hr.deeper _) hsp
  have I : Inv (cxOf CX P w K mg base N qual (defScope st) f cdv A outer s H E) [] (start N vs) H s1 :=
    inv_start S hr.hd e0 (len _ _ _ _ hsp) r z
  have fin : ∀ {σ' : L2.St} {H' : Hp} {v : V} {u : Value} {s' : Shared}, Inv (cxOf CX P w K mg base N qual (defScope st) f cdv A outer s H E) [] σ' H' s' → RelV v u → Q v H' →
      CE outer P w H s Q u s' := fun J rv q => ⟨_, _, J.os, J.bare, J.base, J.hok, rv, q⟩
  refine wpAny_mono (ht.run [] s1 (start N vs) H _ I hq) (fun fl s' hs => ?_) fun e s' hs => hs
  cases fl with
  | next =>
    obtain ⟨_, _, J, q⟩ := hs
    exact fin (v := V.non) (u := Value.none) J rfl q
  | ret u =>
    obtain ⟨_, _, _, J, rv, q⟩ := hs
    exact fin J rv q
  | brk =>
    obtain ⟨_, _, _, q⟩ := hs
    exact False.elim q
  | cont =>
    obtain ⟨_, _, _, q⟩ := hs
    exact False.elim q
/-- .. nothing leaves it -/
theorem okG0 (F : Fun K x qual st f fd) (S : FnScope N ps (defScope st)) (len : ∀ vs H Q E, sp vs H Q E → vs.length = ps.length)
    (body : ∀ cdv A outer s H vs Q E, A.guards = some [] → Room k (A.deeper (envOfC qual (defScope st) s.heap.objs.size f cdv)) → sp vs H Q E →
      ∃ t, PSs (cxOf CX0 P w K mg base N qual (defScope st) f cdv A outer s H E).nox (defBody st) t ∧ t { nx := fun _ H' => Q .non H', rt := Q } (start N vs) H) :
    FnG P w K mg base CX0 (k + 1) f fd ps sp :=
  okG F S len fun cdv A outer s H vs Q E gd hr h => by
    obtain ⟨t, ht, q⟩ := body cdv A outer s H vs Q E gd hr h
    exact ⟨t, ht.nox, q⟩
end
/-- such a def, ready to be called -/
structure CalG (P : Program) (w : World) (K : PySem.W.Frag) (mg : Str → Option Value) (base : Heap) (k : Nat) (x : Str) (ps : List Str) (sp : Sp) : Prop where
  ex : ∃ (f : Addr) (fd : FuncData), FnG P w K mg base CX0 k f fd ps sp ∧ mg x = some (.ref f) ∧ PySem.W.keepIn K (.ref f) = true ∧ Binds K fd ps []
theorem pcallG {X : Cx} {x : Str} {ps : List Str} {sp : Sp} {k j : Nat} {e : Expr} {es : List Expr} {t : TA} {p pos : Pos} (C : CalG X.prog X.w X.K X.mg X.base k x ps sp) (gd : X.A.guards = some []) (hr : Room j X.A) (hk : k ≤ j) (hg : Gl X x) (ha : PA X (e :: es) t)
    (hdb : (x == ("__debug__" : Str)) = false := by decide) (he : starEach (e :: es) X.env = (false, eval e X.env) :: starEach es X.env := by rfl) (hpl : (backTo pos (starEach es X.env)).any (·.1) = false := by rfl) :
    PE X (.Call (.Name x p) (e :: es) [] pos) (tCall sp [] E0 t) := by
  obtain ⟨f, fd, F, hm, kp, hb⟩ := C.ex
  constructor
  intro pins s σ H Q I h
  refine wpAny_Call_Name_kw (ld_glob I hg hm (PySem.W.callWith_K (h₀ := X.base) I.ok.mod.kin kp (thn (ha.run pos pins s σ H _ I h) fun us s1 ⟨vs, H1, I1, r, q⟩ => ⟨I1.kIn, ?_⟩) he hpl) hdb)
  have hl : us.length = ps.length := by
    rw [← r.length, ← F.len _ _ _ _ q]
    simp
  have bnd := hb s1 us I1.kIn (by rw [List.append_nil]; exact hl)
  rw [List.append_nil] at bnd
  have q : sp vs H1 Q E0 := by simpa using q
  refine wpAny_call (codeAny_mono (F.run X.A X.stack s1 H1 ⟨us, []⟩ us vs Q E0 gd (hr.mono hk) I1.env0 bnd r q) fun r s' hq => ?_)
  rcases r with er | (u | _ | _ | _)
  all_goals first | exact I1.after hq | exact False.elim hq
/-! the law's call: nothing is under way there -/
section
variable {P : Program} {w : World} {K : PySem.W.Frag} {mg mb : Str → Option Value} {k : Nat} {fa a : Addr} {fd : FuncData} {x : Str} {sp : Sp} {s₁ : Shared} {vs : List Value} {ns : List Int}
/-- what the caller of a law wants -/
def Well (s₁ : Shared) (r : Result) (s' : Shared) : Prop := r = .ok (.ret (.bool true)) ∧ OldK s₁.heap s'.heap ∧ s'.os = s₁.os ∧ AllBare s'.gens
theorem enterG {H : Hp} (KX : K.In s₁.heap) (hns : s₁.heap.Ns mainGlobals mg) (hb : s₁.heap.Ns builtinsNs mb) (hbb : ∀ x : Str, x ≠ "__name__" → mb x = bootBuiltins x) (hlim : s₁.heap.NoLimit) (hg : s₁.gens = #[])
    (ha : ∃ o its n, s₁.heap.get? a = some o ∧ o.data = .seq its n) (hr : Room k callerA) (F : ∀ base : Heap, K.In base → base.Ns mainGlobals mg → FnG P w K mg base CX0 k fa fd [x] sp)
    (bind : ∀ (s : Shared) (u : Value), BindsTo s fd ⟨[u], []⟩ [(x, u)]) (only : Only H) (hok : HOk P w H s₁.heap) (one : ∀ b u, H b = some u → b = a ∧ K.lookup a = none) (hsp : sp [.ref a] H (fun v _ => v = .bl true) E0) :
    codeAny (model P w) callerA (.call (.ref fa) ⟨[.ref a], []⟩) (Well s₁) s₁ := by
  obtain ⟨oa, its, n, hoa, hda⟩ := ha
  have free : ∀ {b : Addr} {o : Obj} {es : Array DictEntry} {ep : Nat}, s₁.heap.get? b = some o → o.data = .dict es ep → H b = none := fun {b o es ep} e d => by
    cases q : H b with
    | none => rfl
    | some u =>
      have z := (one b u q).1
      rw [z, hoa] at e
      cases e
      rw [hda] at d
      cases d
  have keep : ∀ {b : Addr} {m : Str → Option Value}, s₁.heap.Ns b m → (hidT s₁.heap H).Ns b m := by
    rintro b m ⟨o, es, ep, e, d, r⟩
    exact ⟨o, es, ep, hidT_get e (free e d), d, r⟩
  have KB : K.In (hidT s₁.heap H) := fun b o e => hidT_get (KX b o e) (by
    cases q : H b with
    | none => rfl
    | some u =>
      obtain ⟨z, y⟩ := one b u q
      rw [z, y] at e
      cases e)
  obtain ⟨mc, l1, l2⟩ := hlim
  have e0 : Env0 P w K mg (hidT s₁.heap H) callerA [] s₁ H :=
    { frames := rfl
      mod := ⟨KB, keep hns, ⟨mb, keep hb, hbb⟩, ⟨mc, keep l1, l2⟩⟩
      bs := fun b o e => of_hidT e
      bsz := Nat.le_of_eq (hidT_size _ _)
      funs := trivial
      frf := fun b hb => nomatch hb
      hok := hok
      bare := .of_eq hg }
  refine codeAny_mono ((F _ KB (keep hns)).run callerA [] s₁ H ⟨[.ref a], []⟩ [.ref a] [.ref a] _ _ rfl hr e0 (bind s₁ (.ref a)) (.cons rfl .nil) hsp) fun r s' h => ?_
  cases r with
  | error e => exact False.elim h
  | ok fl =>
    cases fl with
    | next => exact False.elim h
    | brk => exact False.elim h
    | cont => exact False.elim h
    | ret u =>
      obtain ⟨v, H', os, bare, un, hok', r', q⟩ := h
      cases (show v = V.bl true from q)
      cases (show u = Value.bool true from r')
      refine ⟨rfl, OldK.of_keep fun b o e => ?_, os, bare⟩
      rcases only b with z | ⟨ob, xs, z⟩
      · exact un.keep b o e z (fun y => nomatch y) (fun y => nomatch y)
      · have e1 := (hok b _ z).1
        have e2 := (hok' b _ (un.frzs b ob _ z)).1
        rw [e] at e1
        cases e1
        exact e2
end
theorem walkG {l : PySem.W.OpenLaw} {n k : Nat} {q : Program} {loose : List Str} {XP : (Str → Option Value) → Heap → Prop} {YP : World → Heap → Prop} {d : DefRec} {K : Params → PySem.W.Frag} {sp : World → Sp} {x : Str}
    (hn : l.most = some n) (hn2 : n ≤ sizeLine) (hdf : d.params.defaults = []) (hr : Room k callerA) (hY : ∀ (w : World) (h : Heap), YP w h → (K w.params).In h)
    (F : ∀ (w : World) (mg : Str → Option Value) (fa : Addr) (h : Heap), (K w.params).In h → h.Ns mainGlobals mg → mg d.name = some (.ref fa) →
      ∃ fd : FuncData, (∀ (s : Shared) (u : Value), BindsTo s fd ⟨[u], []⟩ [(x, u)]) ∧ ∀ base : Heap, (K w.params).In base → base.Ns mainGlobals mg → FnG l.prog w (K w.params) mg base CX0 k fa fd [x] (sp w))
    (hsp : ∀ (w : World) (H : Hp) (a : Addr) (ns : List Int), ns.length ≤ n → Only H → SqL (K w.params) H a (ns.map V.int) → sp w [.ref a] H (fun v _ => v = .bl true) E0) :
    PySem.W.WalkO q loose XP YP l.row.toRowW d [] (fun f vs => PySem.call f vs) := by
  refine Att.attach_call hn hdf fun w s₀ s₁ mg mb fa o pm cd doc a vs ns G Y ho hd hcd hmg hobj hints hlen hg => ?_
  have KX := hY w _ Y
  obtain ⟨fd, hb, hF⟩ := F w mg fa _ KX G.T.g hmg
  have rv := vals_ints hints
  have le : ns.length ≤ sizeLine := Nat.le_trans hlen hn2
  have ha : ∃ o its n, s₁.heap.get? a = some o ∧ o.data = .seq its n := ⟨_, _, _, hobj, rfl⟩
  cases hk : (K w.params).lookup a with
  | some ob =>
    have e := KX a ob hk
    rw [hobj] at e
    cases e
    refine enterG (H := fun _ => none) KX G.T.g G.T.b G.T.builtins G.T.nolimit hg ha hr hF hb (fun _ => .inl rfl) (fun b u z => nomatch z) (fun b u z => nomatch z) (hsp w _ a ns hlen (fun _ => .inl rfl) ?_)
    exact .inr ⟨_, vs.toArray, _, hk, rfl, rfl, rfl, by rw [List.size_toArray, hints.length]; exact le, by simpa using rv⟩
  | none =>
    let fz : HO := .frz { cls := .type "list", data := .seq vs.toArray } (.lst (ns.map V.int))
    have at_ : ∀ b u, (if b = a then some fz else none) = some u → b = a ∧ u = fz := fun b u z => by
      by_cases h : b = a
      · rw [if_pos h] at z
        exact ⟨h, (Option.some.inj z).symm⟩
      · rw [if_neg h] at z
        cases z
    have only : Only fun b => if b = a then some fz else none := fun b => by
      by_cases h : b = a
      · exact .inr ⟨_, _, if_pos h⟩
      · exact .inl (if_neg h)
    refine enterG (H := fun b => if b = a then some fz else none) KX G.T.g G.T.b G.T.builtins G.T.nolimit hg ha hr hF hb only (fun b u z => ?_) (fun b u z => ⟨(at_ b u z).1, hk⟩) (hsp w _ a ns hlen only (.inl (.inr ⟨_, if_pos rfl⟩)))
    obtain ⟨rfl, rfl⟩ := at_ b u z
    exact ⟨hobj, by rw [List.length_map]; exact le, vs, _, rv, hobj⟩
end Kit

open PySem PySem.Spec PyProof.Rows L2
/-! repr of data -/
namespace Kit
mutual
theorem Dp.noDict {K : PySem.W.Frag} {H : Hp} : ∀ {d : PyData} {v : V}, Dp K H v d → d.hasDict = false
  | .none, _, _ => by simp only [PyData.hasDict]
  | .bool _, _, _ => by simp only [PyData.hasDict]
  | .int _, _, _ => by simp only [PyData.hasDict]
  | .str _, _, _ => by simp only [PyData.hasDict]
  | .list ds, _, h => by
    cases h with
    | lst _ ha => simpa only [PyData.hasDict] using DpAll.noDict ha
  | .tuple ds, _, h => by
    cases h with
    | tup _ ha => simpa only [PyData.hasDict] using DpAll.noDict ha
  | .dict _, _, h => by cases h
theorem DpAll.noDict {K : PySem.W.Frag} {H : Hp} : ∀ {ds : List PyData} {vs : List V}, DpAll K H vs ds → PyData.hasDictAll ds = false
  | [], _, _ => by simp only [PyData.hasDictAll]
  | d :: ds, _, h => by
    cases h with
    | cons h1 h2 => simp only [PyData.hasDictAll, Dp.noDict h1, DpAll.noDict h2, Bool.or_self]
end
theorem sqT_sm {K : PySem.W.Frag} {H H' : Hp} {a : Addr} {xs : List V} (s : Same H H') (h : SqT K H a xs) : SqT K H' a xs := by
  rcases h with (h | ⟨o, h⟩) | h
  · exact .inl (.inl (s _ _ h))
  · exact .inl (.inr ⟨o, s _ _ h⟩)
  · exact .inr h
mutual
theorem Dp.same {K : PySem.W.Frag} {H H' : Hp} (s : Same H H') : ∀ {d : PyData} {v : V}, Dp K H v d → Dp K H' v d
  | .none, _, h => by cases h; exact .non
  | .bool _, _, h => by cases h; exact .bl _
  | .int _, _, h => by cases h; exact .int _
  | .str _, _, h => by cases h; exact .str _
  | .list ds, _, h => by
    cases h with
    | lst hs ha => exact .lst (s.seq hs) (DpAll.same s ha)
  | .tuple ds, _, h => by
    cases h with
    | tup hs ha => exact .tup (sqT_sm s hs) (DpAll.same s ha)
  | .dict _, _, h => by cases h
theorem DpAll.same {K : PySem.W.Frag} {H H' : Hp} (s : Same H H') : ∀ {ds : List PyData} {vs : List V}, DpAll K H vs ds → DpAll K H' vs ds
  | [], _, h => by cases h; exact .nil
  | d :: ds, _, h => by
    cases h with
    | cons h1 h2 => exact .cons (Dp.same s h1) (DpAll.same s h2)
end
/-- plain values -/
def scP : V → Option PyData
  | .non => some .none
  | .bl b => some (.bool b)
  | .int i => some (.int i)
  | .str z => some (.str z)
  | _ => none
theorem scP_dp {K : PySem.W.Frag} {H : Hp} {v : V} {d : PyData} (h : scP v = some d) : Dp K H v d := by
  cases v <;> simp [scP] at h <;> subst h
  · exact .non
  · exact .bl _
  · exact .int _
  · exact .str _
theorem scP_reads {h : Heap} {v : V} {u : Value} {d : PyData} (e : scP v = some d) (r : RelV v u) : Reads h u d [] := by
  cases v <;> simp [scP] at e <;> subst e
  · cases r
    exact .none
  · cases r
    exact .bool _
  · obtain ⟨t, rfl⟩ := r
    exact .int _ t
  · obtain ⟨t, rfl⟩ := r
    exact .str _ t
def keyP : Key → PyData
  | .inl i => .int i
  | .inr z => .str z
/-- a dict of plain values -/
def dkP : List (Key × V) → Option (List (PyData × PyData))
  | [] => some []
  | (k, v) :: r => (scP v).bind fun d => (dkP r).map fun ds => (keyP k, d) :: ds
theorem dkP_cons {k : Key} {v : V} {r : List (Key × V)} {x : List (PyData × PyData)} (e : dkP ((k, v) :: r) = some x) : ∃ d ds, scP v = some d ∧ dkP r = some ds ∧ x = (keyP k, d) :: ds := by
  simp only [dkP] at e
  cases hd : scP v with
  | none => rw [hd] at e; cases e
  | some d =>
    rw [hd, Option.bind_some] at e
    cases hr : dkP r with
    | none => rw [hr] at e; cases e
    | some ds =>
      rw [hr] at e
      cases e
      exact ⟨d, ds, rfl, rfl, rfl⟩
theorem dk_reads {P : Program} {w : World} {h : Heap} : ∀ {kvs : List (Key × V)} {vs : List (Key × Value)} {es : List DictEntry} {ds : List (PyData × PyData)}, KV kvs vs → Pairs (mixKind P w) es vs → dkP kvs = some ds →
    ReadsAll h (es.map (·.key)) (ds.map (·.1)) [] ∧ ReadsAll h (es.map (·.val)) (ds.map (·.2)) []
  | [], _, _, _, r, p, e => by
    cases r
    cases p
    cases e
    exact ⟨.nil, .nil⟩
  | (k, v) :: kvs, _, _, _, r, p, e => by
    unfold KV at r
    cases r with
    | @cons _ q _ qs r1 r2 =>
      cases p with
      | @cons en _ es _ p1 p2 p3 =>
        obtain ⟨d, ds, ed, er, rfl⟩ := dkP_cons e
        obtain ⟨a, b⟩ := dk_reads (h := h) r2 p3 er
        obtain ⟨k', v'⟩ := q
        obtain ⟨h1, h2⟩ := r1
        dsimp only at h1 h2 p1 p2
        subst h1
        refine ⟨ReadsAll.cons (as := []) ?_ a, ReadsAll.cons (as := []) ?_ b⟩
        · show Reads h en.key (keyP k) []
          rcases keyIs_shape p1 with ⟨i, t, e1, e2⟩ | ⟨z, t, e1, e2⟩
          · rw [e1, e2]
            exact .int _ _
          · rw [e1, e2]
            exact .str _ _
        · show Reads h en.val d []
          rw [p2]
          exact scP_reads ed h2
/-- a plain value or a dict of such -/
def ItS (H : Hp) (x : V) (d : PyData) : Prop := scP x = some d ∨ ∃ a kvs ds, x = .ref a ∧ H a = some (.dK kvs) ∧ dkP kvs = some ds ∧ d = .dict ds
theorem ItS.same {H H' : Hp} {x : V} {d : PyData} (s : Same H H') (h : ItS H x d) : ItS H' x d := by
  rcases h with h | ⟨a, kvs, ds, e, h, r⟩
  · exact .inl h
  · exact .inr ⟨a, kvs, ds, e, s _ _ h, r⟩
section
variable {X : Cx} {pins : List (Addr × Obj)} {σ : L2.St} {H : Hp} {s : Shared}
theorem ItS.reads (I : Inv X pins σ H s) {x : V} {d : PyData} {u : Value} (h : ItS H x d) (r : RelV x u) : ∃ as, Reads s.heap u d as ∧ sysModules ∉ as := by
  rcases h with h | ⟨a, kvs, ds, rfl, h, e, rfl⟩
  · exact ⟨_, scP_reads h r, fun q => nomatch q⟩
  · cases (show u = Value.ref a from r)
    obtain ⟨_, ne, vs, rel, o, es, n, ho, ⟨hc, _⟩, hd, _, pr, _⟩ := dk_of I.hok h
    obtain ⟨p, q⟩ := dk_reads (h := s.heap) rel pr e
    refine ⟨_, Reads.dict ho hc hd p q, fun m => ?_⟩
    rcases List.mem_cons.mp m with z | z
    · rw [← z] at ne
      cases ne
    · simp at z
theorem ItS.readsAll (I : Inv X pins σ H s) : ∀ {xs : List V} {ds : List PyData} {us : List Value}, Paired (ItS H) xs ds → Vals xs us → ∃ as, ReadsAll s.heap us ds as ∧ sysModules ∉ as
  | _, _, _, .nil, r => by
    cases r
    exact ⟨_, .nil, fun q => nomatch q⟩
  | _, _, _, .cons a b, r => by
    cases r with
    | cons r1 r2 =>
      obtain ⟨as, p, q⟩ := a.reads I r1
      obtain ⟨bs, p2, q2⟩ := ItS.readsAll I b r2
      exact ⟨_, .cons p p2, fun m => (List.mem_append.mp m).elim q q2⟩
end
theorem same_push {H H1 : Hp} {p : Addr} {o : HO} (s : Same H H1) (n : H1 p = none) : Same H (upd H1 p o) := s.trans (same_new n)
/-- what can be shown -/
def okP (d : PyData) : Prop := d.showable = true ∧ d.depth ≤ 30 ∧ d.shown.length ≤ sizeLine
def ShV (K : PySem.W.Frag) (H : Hp) (x : V) (d : PyData) : Prop := Dp K H x d ∨ ItS H x d ∨ ∃ a xs ds, x = .ref a ∧ SqL K H a xs ∧ Paired (ItS H) xs ds ∧ d = .list ds
theorem ShV.same {K : PySem.W.Frag} {H H' : Hp} {x : V} {d : PyData} (s : Same H H') (h : ShV K H x d) : ShV K H' x d := by
  rcases h with h | h | ⟨a, xs, ds, e, h, p, r⟩
  · exact .inl (Dp.same s h)
  · exact .inr (.inl (h.same s))
  · exact .inr (.inr ⟨a, xs, ds, e, s.seq h, L2.Paired.mapP p fun _ _ q => q.same s, r⟩)
section
variable {prog : Program} {w : World} {h₀ : Heap} {A : Around} {E : Value → Shared → Prop} {s : Shared} {Q : Value → Shared → Prop}
theorem repr_items {a : Addr} {o : Obj} {vs : Array Value} {n : Nat} {xs : List PyData} {as : List Addr} (h1 : h₀.get? a = some o) (h2 : o.cls = .type "list") (h3 : o.data = .seq vs n) (h4 : ReadsAll h₀ vs.toList xs as) (hs : PyData.showableAll xs = true) (hsm : sysModules ∉ as)
    (hg : A.guards = some []) (hu : A.units + ((PyData.list xs).depth + 1) < cLine) (hk : ∀ b o, h₀.get? b = some o → s.heap.get? b = some o) (hsz : (PyData.list xs).shown.length ≤ sizeLine)
    (hQ : ∀ h' u tk, (∀ b o, s.heap.get? b = some o → h'.get? b = some o) → Q (.str (PyData.list xs).shown u) { s with heap := h', toks := tk }) : wpAny (model prog w) A (call (.builtin "repr") [.ref a]) Q E s := by
  obtain ⟨l⟩ := vs
  cases l with
  | nil =>
    have h5 : ReadsAll h₀ [] xs as := h4
    cases h5
    exact repr_of_reads' (Reads.list h1 h2 h3 .nil) rfl (fun z => nomatch z) hg hu hk hQ hsz
  | cons y l =>
    have small : (listText (PyData.shownAll xs)).length ≤ sizeLine := by simpa only [PyData.shown] using hsz
    obtain ⟨bs, hb, all⟩ := ReprAllK.of_readsAll (prog := prog) (w := w) h4 hs (fun _ => hsm) (fun t ht => Nat.le_trans (listText_mem_le ht) small)
    have deep : (PyData.list xs).depth = PyData.depthAll xs + 1 := by simp only [PyData.depth]
    have far : a ∉ bs := not_mem_of_deeper (.list h1 h2 h3 h4) (by omega) hb
    simp only [PyData.shown] at hQ
    refine call_repr_slot (by omega) ⟨o, hk _ _ h1, h2⟩ F.slot_list_repr.toG ?_
    refine call_list_reprK h1 h2 h3 far (by simpa using all.length_eq) (fun i z e => all.item i z (by simpa using e)) hg (fun b _ => Clear.nil b) (by show A.units + 1 + _ < cLine; omega) hk (fun h' u tk k => ⟨_, _, rfl, hQ h' u tk k⟩) small
end
def rRepr (K : PySem.W.Frag) : List V → Hp → VK → Prop := fun xs H Q => ∃ x d, xs = [x] ∧ ShV K H x d ∧ okP d ∧ Q (.str d.shown) H
theorem call_reprG {X : Cx} (gd : X.A.guards = some []) (hu : X.A.units + 64 < cLine) : CallR X (.builtin "repr") (rRepr X.K) := by
  intro pins s σ H xs us Q I r h
  obtain ⟨x, d, rfl, sh, ⟨o1, o2, o3⟩, q⟩ := h
  cases r with
  | cons r1 r2 =>
    cases r2
    rename_i u
    have fin : ∀ h' t tk, (∀ b o, s.heap.get? b = some o → h'.get? b = some o) → EP X pins σ Q (.str d.shown t) { s with heap := h', toks := tk } := fun h' t tk k => ⟨.str d.shown, H, I.kept k, ⟨t, rfl⟩, q⟩
    have one : ∀ {as}, Reads s.heap u d as → (d.hasDict = true → sysModules ∉ as) → wpAny (model X.prog X.w) X.A (call (.builtin "repr") [u]) (EP X pins σ Q) X.xe s := by
      intro as rd hsm
      cases rd with
      | none => exact P.repr_of_none (fin s.heap _ _ fun _ _ z => z)
      | bool b => exact P.repr_of_bool (fin s.heap _ _ fun _ _ z => z)
      | int i t => exact P.repr_of_int (by simpa only [PyData.showable, decide_eq_true_eq] using o1) (fin s.heap _ _ fun _ _ z => z)
      | str z t => exact P.repr_of_str (fin s.heap _ _ fun _ _ z => z) (by simpa only [PyData.shown] using o3)
      | list h1 h2 h3 h4 => exact repr_of_reads' (.list h1 h2 h3 h4) o1 hsm gd (by omega) (fun _ _ z => z) fin o3
      | tuple h1 h2 h3 h4 => exact repr_of_reads' (.tuple h1 h2 h3 h4) o1 hsm gd (by omega) (fun _ _ z => z) fin o3
      | dict h1 h2 h3 h4 h5 => exact repr_of_reads' (.dict h1 h2 h3 h4 h5) o1 hsm gd (by omega) (fun _ _ z => z) fin o3
    rcases sh with sh | sh | ⟨a, xs, ds, rfl, sq, it, rfl⟩
    · obtain ⟨as, rd⟩ := Dp.reads I d x u sh r1
      exact one rd (PyData.noDict_hsm (Dp.noDict sh))
    · obtain ⟨as, rd, ns⟩ := sh.reads I r1
      exact one rd fun _ => ns
    · cases (show u = Value.ref a from r1)
      obtain ⟨its, rv, ⟨o, n, ho, hc, _, hd⟩, _⟩ := I.list sq
      obtain ⟨as, rd, ns⟩ := ItS.readsAll I it rv
      exact repr_items ho hc hd rd (by simpa only [PyData.showable] using o1) ns gd (by omega) (fun _ _ z => z) o3 fin
end Kit

open PySem PySem.Spec PyProof.Rows L2
/-! own errors: promises of their __init__, raised; objects made by an __init__ that may raise -/
namespace Kit
/-- __init__(self, f): self.f = f -/
def spErr (f : Str) (C : Addr) : Sp := fun vs H Q _ => ∃ x v, vs = [.ref x, v] ∧ H x = some (exo x C none) ∧ ∀ d, H d = none → d ≠ x → Q .non (upd (upd H d (exd d [(f, v)])) x (exo x C (some d)))
section
variable {σ : L2.St} {H : Hp} {C : Addr} {f : Str} {x : V}
theorem same_err {a d : Addr} {o o1 o2 u : HO} (ha : H a = none) (hd : H d = none) (ne : d ≠ a) : Same H (upd (del (upd (upd (upd H a o) d o1) a o2) a) d u) := fun b w e => by
  rw [upd_ne (ne_of_none e hd), del_ne (ne_of_none e ha), upd_ne (ne_of_none e ha), upd_ne (ne_of_none e hd), upd_ne (ne_of_none e ha)]
  exact e
/-- raise C(x), the argument a slot of the frame -/
theorem er_raise {i : Nat} {Q : XK} (hs : σ[i]? = some (some x)) (k : ∀ d H', Same H H' → H d = none → H' d = some (.xd [(f, x)]) → Q (.ref C) (some d) H') : tErR C (spErr f C) (tCons (tVar i) tNil) σ H Q := by
  refine ⟨x, hs, by show 1 ≤ 1000; decide, fun a ha => ⟨a, x, rfl, upd_same, fun d hd ne => ⟨rfl, d, [(f, x)], upd_same, by rw [upd_ne ne]; exact upd_same, ?_, ?_⟩⟩⟩
  · rwa [upd_ne ne] at hd
  · rw [upd_ne ne] at hd
    exact k d _ (same_err ha hd ne) hd upd_same
end
section
variable {X : Cx} {CX : CXT} {k j : Nat} {f C : Addr} {fd : FuncData} {ps : List Str} {sp : Sp} {E : L2.St → XK} {x : Str} {p pos : Pos} {e : Expr} {es : List Expr} {t : TA}
theorem run_makeS {pins : List (Addr × Obj)} {σ : L2.St} {H : Hp} {s : Shared} {Q : VK} {us : List Value} {vs : List V} (M : Mk X.K C f) (F : FnOk X.prog X.w X.K X.mg X.base CX k f fd ps sp) (hr : Room (k + 1) X.A) (hb : Binds X.K fd ps []) (hx : PassesAt CX X σ (E σ))
    (hxm : ∀ (B : Around) H s e s', Inv X pins σ H s → CX X.stack H s (E σ) e s' → X.xe e s') (I : Inv X pins σ H s) (r : Vals vs us)
    (h : ∀ x dx, H x = none → H dx = none → dx ≠ x → sp (.ref x :: vs) (upd (upd H dx (.own x)) x (.ins C dx [])) (fun v H2 => v = .non ∧ Q (.ref x) H2) (E σ)) : wpAny (model X.prog X.w) X.A (call (.ref C) us) (EP X pins σ Q) X.xe s := by
  have hq := h (s.heap.objs.size + 1) s.heap.objs.size (I.hok.fresh (Nat.le_succ _)) (I.hok.fresh (Nat.le_refl _)) (Nat.ne_of_lt (Nat.lt_succ_self _))
  have J := Inv.made (C := C) I
  have r2 : Vals (V.ref (s.heap.objs.size + 1) :: vs) (Value.ref (s.heap.objs.size + 1) :: us) := .cons rfl r
  have len : (Value.ref (s.heap.objs.size + 1) :: us).length = ps.length := by
    rw [← r2.length]
    exact F.len _ _ _ _ hq
  have bnd := hb _ (Value.ref (s.heap.objs.size + 1) :: us) J.kIn (by rw [List.append_nil]; exact len)
  rw [List.append_nil] at bnd
  refine wpAny_call (make_map (f := f) I.kIn M.makes M.init (beq_iff_eq.mp M.fn) (codeAny_mono (F.run _ X.stack _ _ ⟨Value.ref (s.heap.objs.size + 1) :: us, []⟩ _ _ _ (E σ) (hr.make C us []) (J.env0.make C us []) bnd r2 hq) fun r s' hq' => ?_))
  cases r with
  | error er => exact hx pins _ _ er s' J hq'
  | ok fl =>
    cases fl with
    | ret u =>
      obtain ⟨v, H', I3, rv, ev, q3⟩ := J.after hq'
      subst ev
      exact ⟨rv, V.ref (s.heap.objs.size + 1), H', I3, rfl, q3⟩
    | next => exact False.elim hq'
    | brk => exact False.elim hq'
    | cont => exact False.elim hq'
def tMakeS (C : Addr) (sp : Sp) (E : L2.St → XK) (t : TA) : TE := fun σ H Q => t σ H fun vs H1 => ∀ x dx, H1 x = none → H1 dx = none → dx ≠ x → sp (.ref x :: vs) (upd (upd H1 dx (.own x)) x (.ins C dx [])) (fun v H2 => v = .non ∧ Q (.ref x) H2) (E σ)
/-- C(e, ..) where the __init__ may raise -/
theorem pe_makeS (M : Mk X.K C f) (F : FnOk X.prog X.w X.K X.mg X.base CX k f fd ps sp) (hr : Room (k + 1) X.A) (hg : Gl X x) (hm : X.mg x = some (.ref C)) (hb : Binds X.K fd ps []) (hx : ∀ σ, PassesAt CX X σ (E σ)) (ha : PA X (e :: es) t)
    (hdb : (x == ("__debug__" : Str)) = false := by decide) (he : starEach (e :: es) X.env = (false, eval e X.env) :: starEach es X.env := by rfl) (hpl : (backTo pos (starEach es X.env)).any (·.1) = false := by rfl) :
    PE X (.Call (.Name x p) (e :: es) [] pos) (tMakeS C sp E t) := by
  constructor
  intro pins s σ H Q I h
  exact wpAny_Call_Name_kw (ld_glob I hg hm (PySem.W.callWith_K (h₀ := X.base) I.ok.mod.kin M.kp (thn (ha.run pos pins s σ H _ I h) fun us s1 ⟨vs, H1, I1, r, q⟩ => ⟨I1.kIn, run_makeS M F hr hb (hx σ) (fun _ H s e s' => hx σ pins H s e s') I1 r q⟩) he hpl) hdb)
end
end Kit

open PySem PySem.Spec PyProof.Rows L2
/-! a dict with one key, a tuple: displayed, and its repr -/
namespace Kit
def tDispT (trs : List (TE × TE)) : TE := fun σ H Q => ∀ p, H p = none → tPairs trs σ (upd H p (.dT [])) fun ps H2 => H2 p = some (.dT []) ∧ ∃ (b : Addr) (ks : List Key) (y : V), ps = [(.ref b, y)] ∧ H2 b = some (.tup (ks.map kV)) ∧ Q (.ref p) (upd H2 p (.dT [(ks, y)]))
theorem pe_dispT {X : Cx} {k v : Expr} {tk tv : TE} {pos : Pos} (hu : X.A.units + 64 < cLine) (hk : PE X k tk) (hv : PE X v tv) : PE X (.Dict [some k] [v] pos) (tDispT [(tk, tv)]) := by
  constructor
  intro pins s σ H Q I q
  have I1 := I.laid (a := s.heap.objs.size) (o := .dT []) (h' := s.heap.push { cls := .type "dict", data := .dict #[] }) (t' := s.toks) (fun _ _ q => Heap.get?_push_of_some _ q) (Nat.le_refl _) (dt_empty s.heap I.big)
  have run := (pps_cons (pos := pos) hk hv pps_nil).run pins _ σ _ _ I1 (q _ (I.hok.fresh (Nat.le_refl s.heap.objs.size)))
  rw [arm_eval_Dict, zip_pairTrees [some k] [v] X.env pos rfl rfl, dictDisplay_pairs _ (by simp [pairTrees]) (by simp [pairTrees])]
  refine wpAny_bind (wpAny_standAt (wpAny_bind (wpAny_subDictH (knd := tupleKind (mixKind X.prog X.w)) (show X.A.units < cLine by omega) (by simp [pairTrees]) (thn run fun ws s2 hh => ?_))))
  obtain ⟨ps, H2, I2, rel, e, b, ks, y, rfl, eb, q2⟩ := hh
  cases rel with
  | cons r1 r2 =>
    cases r2
    rename_i w0
    obtain ⟨u, u2⟩ := w0
    obtain ⟨ra, ry⟩ := r1
    dsimp only at ra ry
    cases (show u = Value.ref b from ra)
    obtain ⟨_, hd, xs0, r0, dd⟩ := dt_of I2.hok e
    cases r0
    refine ⟨[(ks, b, u2)], ⟨rfl, rfl, key_of I2.hok eb, trivial⟩, dd, fun h' tk dd' hs => wpAny_pure ?_⟩
    have nb : b ≠ s.heap.objs.size := fun z => by
      rw [z, e] at eb
      cases eb
    obtain ⟨o, es, ep, h1, h2, h3, h4, h5, h6⟩ := dd'
    have J := d_write (t' := tk) (ob := .dT [(ks, y)]) I2 (by rw [e]; exact True.intro) hs ⟨o, h1⟩ ⟨by show 1 ≤ sizeLine; decide, hd, [(ks, b, u2)], .cons ⟨rfl, by rw [upd_ne nb]; exact eb, ry⟩ .nil, o, es, ep, h1, h2, h3, h4, h6⟩
    exact ⟨.ref s.heap.objs.size, _, J, rfl, q2⟩
/-- such a dict of plain values, as data -/
def kPs (ks : List Key) : List PyData := ks.map keyP
theorem keys_reads {h : Heap} : ∀ {ks : List Key} {its : List Value}, Vals (ks.map kV) its → ReadsAll h its (kPs ks) []
  | [], _, r => by
    cases r
    exact .nil
  | k :: ks, _, r => by
    cases r with
    | cons r1 r2 =>
      refine ReadsAll.cons (as := []) ?_ (keys_reads r2)
      cases k with
      | inl i =>
        obtain ⟨t, rfl⟩ := r1
        exact .int _ _
      | inr z =>
        obtain ⟨t, rfl⟩ := r1
        exact .str _ _
theorem dT_reads {X : Cx} {pins : List (Addr × Obj)} {σ : L2.St} {H : Hp} {s : Shared} (I : Inv X pins σ H s) {a : Addr} {ks : List Key} {y : V} {d : PyData} (e : H a = some (.dT [(ks, y)])) (hy : scP y = some d) :
    Reads s.heap (.ref a) (.dict [(.tuple (kPs ks), d)]) [a] ∧ a ≠ sysModules := by
  obtain ⟨_, hd, xs, r, o, es, ep, h1, h2, h3, h4, _⟩ := (show ObjOk X.prog X.w H s.heap a (.dT [(ks, y)]) from I.hok a _ e)
  cases r with
  | @cons _ w0 _ _ r1 r2 =>
    cases r2
    obtain ⟨k', b, u⟩ := w0
    have e2 : H b = some (.tup (ks.map kV)) := r1.2.1
    have e3 : RelV y u := r1.2.2
    obtain ⟨_, its, rv, t, t1, t2, n, t3⟩ := (show ObjOk X.prog X.w H s.heap b (.tup (ks.map kV)) from I.hok b _ e2)
    refine ⟨?_, fun z => by rw [z] at hd; cases hd⟩
    have k1 : ReadsAll s.heap (es.toList.map (·.key)) [PyData.tuple (kPs ks)] ([] ++ []) := by
      rw [h4]
      exact .cons (.tuple t1 t2 t3 (by simpa using keys_reads rv)) .nil
    have k2 : ReadsAll s.heap (es.toList.map (·.val)) [d] ([] ++ []) := by
      rw [h4]
      exact .cons (scP_reads hy e3) .nil
    exact Reads.dict (kvs := [(.tuple (kPs ks), d)]) (as := []) (bs := []) h1 h2.1 h3 k1 k2
end Kit
namespace Kit
def Sh3 (K : PySem.W.Frag) (H : Hp) (x : V) (d : PyData) : Prop := ShV K H x d ∨ ∃ (a : Addr) (ks : List Key) (y : V) (e : PyData), x = .ref a ∧ H a = some (.dT [(ks, y)]) ∧ scP y = some e ∧ d = .dict [(.tuple (kPs ks), e)]
theorem Sh3.same {K : PySem.W.Frag} {H H' : Hp} {x : V} {d : PyData} (s : Same H H') (h : Sh3 K H x d) : Sh3 K H' x d :=
  h.imp (ShV.same s) fun ⟨a, ks, y, e, h1, h2, h3, h4⟩ => ⟨a, ks, y, e, h1, s _ _ h2, h3, h4⟩
def rRepr3 (K : PySem.W.Frag) : List V → Hp → VK → Prop := fun xs H Q => ∃ x d, xs = [x] ∧ Sh3 K H x d ∧ okP d ∧ Q (.str d.shown) H
theorem call_repr3 {X : Cx} {K : PySem.W.Frag} (hK : X.K = K) (gd : X.A.guards = some []) (hu : X.A.units + 64 < cLine) : CallR X (.builtin "repr") (rRepr3 K) := by
  subst hK
  intro pins s σ H xs us Q I r h
  obtain ⟨x, d, rfl, sh | ⟨a, ks, y, e, rfl, h2, h3, rfl⟩, ok, q⟩ := h
  · exact call_reprG gd hu pins s σ H _ us Q I r ⟨x, d, rfl, sh, ok, q⟩
  · obtain ⟨u, rfl, rx⟩ := vals1 r
    cases (show u = Value.ref a from rx)
    obtain ⟨rd, ne⟩ := dT_reads I h2 h3
    obtain ⟨o1, o2, o3⟩ := ok
    exact repr_of_reads' rd o1 (fun _ m => ne (List.mem_singleton.mp m).symm) gd (by omega) (fun _ _ z => z) (fun h' t tk k => ⟨.str _, H, I.kept k, ⟨t, rfl⟩, q⟩) o3
def rTyp3 (K : PySem.W.Frag) : List V → Hp → VK → Prop := fun xs H Q => rTyp K xs H Q ∨ ∃ (a : Addr) (kvs : List (List Key × V)), xs = [.ref a] ∧ H a = some (.dT kvs) ∧ Q (.ty "dict") H
theorem kType3 {X : Cx} {K : PySem.W.Frag} (hK : X.K = K) : CallR X (.type "type") (rTyp3 K) := by
  subst hK
  refine callOr call_type1 ?_
  intro pins s σ H xs us Q I r h
  obtain ⟨a, kvs, rfl, e, q⟩ := h
  obtain ⟨u, rfl, rx⟩ := vals1 r
  cases (show u = Value.ref a from rx)
  obtain ⟨_, _, xs0, _, dd⟩ := dt_of I.hok e
  exact call_type_of dd.typeIs (by decide +kernel) ⟨.ty "dict", H, I, rfl, q⟩
end Kit

namespace K03
open PySem PySem.Spec PyProof.Rows L2 Kit K02
local macro_rules | `(tactic| walk_at "ne") => `(tactic| first
  | assumption
  | (apply Ne.symm; assumption)
  | exact ne_of_none (by assumption) (by assumption)
  | exact (ne_of_none (by assumption) (by assumption)).symm
  | (refine ne_of_none (H := ?H0) (o := ?oo) ?hs ?hn; (case hn => assumption); (case hs => walk_at "hp"))
  | (refine (ne_of_none (H := ?H0) (o := ?oo) ?hs ?hn).symm; (case hn => assumption); (case hs => walk_at "hp"))
  | (refine Src.ne (H := ?H0) ?hs ?hn; (case hn => assumption); (case hs => walk_at "src"))
  | (refine (Src.ne (H := ?H0) ?hs ?hn).symm; (case hn => assumption); (case hs => walk_at "src"))
  | fail "no rule")
local macro_rules | `(tactic| walk_at "hp") => `(tactic| first
  | assumption
  | exact upd_same
  | (refine (upd_ne ?hne).trans ?hrest; (case hne => walk_at "ne"); (case hrest => walk_at "hp"))
  | (refine same_at (H := ?H0) ?hs ?hrest; (case hs => assumption); (case hrest => walk_at "hp"))
  | (refine dr_at (H := ?H0) (a := ?a0) ?hs ?hne ?hrest; (case hs => assumption); (case hne => walk_at "ne"); (case hrest => walk_at "hp"))
  | fail "no rule")
local macro_rules | `(tactic| walk_at "sq") => `(tactic| first
  | assumption
  | exact Or.inl (Or.inl (by walk_at "hp"))
  | (refine sq_upd ?hnn ?hss; (case hnn => assumption); (case hss => walk_at "sq"))
  | (refine Same.seq (H := ?H0) ?hs ?hrest; (case hs => assumption); (case hrest => walk_at "sq"))
  | (refine sq_dr (H := ?H0) (a := ?a0) ?hs ?hne ?hrest; (case hs => assumption); (case hne => walk_at "ne"); (case hrest => walk_at "sq"))
  | fail "no rule")
local macro_rules | `(tactic| walk_at "sm") => `(tactic| first
  | assumption
  | exact Same.refl _
  | (refine same_new ?hnn; (case hnn => assumption))
  | (refine same_push ?hs ?hnn; (case hnn => assumption); (case hs => walk_at "sm"))
  | (refine same_mut ?hs ?hnn; (case hs => walk_at "sm"); (case hnn => walk_at "fr"))
  | (refine Same.trans (H1 := ?H1) ?hs ?hq; (case hq => assumption); (case hs => walk_at "sm"))
  | fail "no rule")
local macro_rules | `(tactic| walk_at "fr") => `(tactic| first
  | assumption
  | (refine Same.free (H' := ?H1) ?hs ?hq; (case hq => assumption); (case hs => walk_at "sm"))
  | fail "no rule")
local macro_rules | `(tactic| walk_at "src") => `(tactic| first
  | assumption
  | exact Dr.src (by assumption)
  | (refine Src.same (H := ?H0) ?hs ?hm; (case hm => assumption); (case hs => walk_at "src"))
  | (refine Src.upd ?hs ?hn; (case hs => walk_at "src"); (case hn => walk_at "ne"))
  | fail "no rule")
local macro_rules | `(tactic| walk_at "fd") => `(tactic| first
  | assumption
  | (refine Same.free (H' := ?H1) ?hs ?hq; (case hq => assumption); (case hs => walk_at "sm"))
  | (refine Dr.free (H' := ?H1) ?h0 ?hs ?hq; (case hq => assumption); (case hs => walk_at "dr"); (case h0 => walk_at "src"))
  | fail "no rule")
local macro_rules | `(tactic| walk_at "dr") => `(tactic| first
  | assumption
  | (refine Dr.trans (H' := ?H1) ?hs ?hq; (case hq => assumption); (case hs => walk_at "dr"))
  | (refine Dr.mut ?hs ?h0 ?hn; (case hs => walk_at "dr"); (case h0 => walk_at "src"); (case hn => walk_at "fd"))
  | (refine Dr.trans (H' := ?H1) ?hs (Dr.same ?h0 ?hq); (case hq => assumption); (case h0 => walk_at "src"); (case hs => walk_at "dr"))
  | (refine Dr.refl ?hs; (case hs => walk_at "src"))
  | fail "no rule")
local macro_rules | `(tactic| walk_at "sz") => `(tactic| first
  | omega
  | (refine Nat.le_trans ?_ (show (1000 : Nat) ≤ sizeLine by decide); first | decide | omega | (simp; done) | (simp; omega) | fail)
  | fail "no rule")
local macro_rules | `(tactic| walk_at "v1") => `(tactic| first
  | with_reducible refine v_seq ?_
  | with_reducible refine v_asg ?_
  | with_reducible refine v_gname ?_
  | with_reducible refine v_c ?_
  | ((with_reducible refine v_var (v := ?vv) ?hv ?_); (case hv => exact rfl))
  | with_reducible refine v_op ?_
  | with_reducible refine v_un ?_
  | with_reducible refine v_I0 ?_
  | with_reducible refine v_U ?_
  | with_reducible refine v_addI ?_
  | with_reducible refine v_ltI ?_
  | with_reducible refine v_leI ?_
  | with_reducible refine v_gtI ?_
  | with_reducible refine v_geI ?_
  | with_reducible refine v_leS ?_
  | with_reducible refine v_ltS ?_
  | with_reducible refine v_eqI ?_
  | with_reducible refine v_neI ?_
  | with_reducible refine v_eqS ?_
  | with_reducible refine v_neS ?_
  | with_reducible refine v_eqB ?_
  | ((with_reducible refine v_eqTy ?h1 ?h2 ?_); (case h1 => walk_at "bt"); (case h2 => walk_at "bt"))
  | ((with_reducible refine v_neTy ?h1 ?h2 ?_); (case h1 => walk_at "bt"); (case h2 => walk_at "bt"))
  | with_reducible refine v_test ?_
  | with_reducible refine v_B ?_
  | with_reducible refine v_isbl ?_
  | with_reducible refine v_and ?_
  | with_reducible refine v_or ?_
  | with_reducible refine v_not ?_
  | with_reducible refine v_andV ?_
  | with_reducible refine v_orV ?_
  | with_reducible refine v_notV ?_
  | with_reducible refine v_if ?_
  | with_reducible refine v_chain ?_
  | with_reducible refine v_nil ?_
  | with_reducible refine v_cons ?_
  | with_reducible refine v_cb ?_
  | with_reducible refine v_call ?_
  | with_reducible refine v_max ?_
  | ((with_reducible refine v_draw ?hs ?hm ?_); (case hs => walk_at "src"); (case hm => omega))
  | with_reducible refine v_min ?_
  | with_reducible refine v_intI ?_
  | with_reducible refine v_intB ?_
  | with_reducible refine v_m1 ?_
  | with_reducible refine v_isstr ?_
  | with_reducible refine v_sl ?_
  | with_reducible refine v_ss ?_
  | with_reducible refine v_disp1 ?_
  | with_reducible refine v_s0 ?_
  | with_reducible refine v_nopart ?_
  | with_reducible refine v_part ?_
  | with_reducible refine v_partI ?_
  | with_reducible refine v_next ?_
  | with_reducible refine v_gsub ?_
  | with_reducible refine v_ifS ?_
  | with_reducible refine v_ret ?_
  | with_reducible refine v_drop ?_
  | ((with_reducible refine v_iteTrue ?hb ?_); (case hb => walk_at "bt"))
  | ((with_reducible refine v_iteFalse ?hb ?_); (case hb => walk_at "bt"))
  | with_reducible refine v_iteD ?_ ?_
  | with_reducible refine v_iteNot ?_
  | with_reducible refine v_lc ?_
  | with_reducible refine v_iStr ?_
  | with_reducible refine v_isS ?_
  | with_reducible refine v_iRng1 ?_
  | ((with_reducible refine v_rng1 ?hb ?_); (case hb => omega))
  | with_reducible refine v_iList ?_
  | with_reducible refine v_iSeq ?_
  | ((with_reducible refine v_isL (xs := ?xx) ?hsq ?_); (case hsq => walk_at "sq"))
  | with_reducible refine v_for ?_
  | with_reducible refine v_yes ?_
  | ((with_reducible refine v_nand ?hw ?_); (case hw => first | exact rfl | walk_at "sz" | fail))
  | ((with_reducible refine v_typ (T := ?TT) ?ht ?_); (case ht => walk_at "ty"))
  | ((with_reducible refine v_isiK (T := ?TT) ?ht ?h1 ?h2 ?_); (case ht => walk_at "ty"); (case h1 => walk_at "bt"); (case h2 => exact rfl))
  | with_reducible refine iteT ?_
  | with_reducible refine iteF ?_
  | with_reducible refine v_tup ?_
  | with_reducible refine v_lst ?_
  | ((with_reducible refine v_ixL (xs := ?xx) (v := ?vv) ?hsq ?hat ?_); (case hsq => walk_at "sq"); (case hat => exact rfl))
  | ((with_reducible refine v_lenL (xs := ?xx) ?hsq ?_); (case hsq => walk_at "sq"))
  | ((with_reducible refine v_setL (xs := ?xx) (j := ?jj) ?hh ?hj ?_); (case hh => walk_at "hp"); (case hj => exact rfl))
  | ((with_reducible refine v_I ?hc ?_); (case hc => walk_at "ic"))
  | ((with_reducible refine v_lenS ?hz ?_); (case hz => walk_at "sz"))
  | ((with_reducible refine v_slS ?hz ?_); (case hz => walk_at "sz"))
  | ((with_reducible refine v_addS ?hz ?_); (case hz => walk_at "sz"))
  | ((with_reducible refine v_ixS (c := ?cc) ?hz ?hat ?_); (case hz => walk_at "sz"); (case hat => exact rfl))
  | ((with_reducible refine v_addL (xs := ?xx) (ys := ?yy) ?h1 ?h2 ?hz ?_); (case h1 => walk_at "hp"); (case h2 => walk_at "hp"); (case hz => walk_at "sz"))
  | ((with_reducible refine v_ixT (xs := ?xx) (v := ?vv) ?hsq ?hat ?_); (case hsq => walk_at "sq"); (case hat => exact rfl))
  | ((with_reducible refine v_lenT (xs := ?xx) ?hsq ?_); (case hsq => walk_at "sq"))
  | ((with_reducible refine v_eq ?hs ?_); (case hs => exact rfl))
  | ((with_reducible refine v_ne ?hs ?_); (case hs => exact rfl))
  | (with_reducible intro _)
  | fail "no rule")
local macro_rules | `(tactic| walk_at "ic") => `(tactic| first
  | (show (0 : Int) < _; first | decide | omega | fail)
  | (show CMul _ _; unfold CMul; omega)
  | (show CDiv _ _; unfold CDiv; omega)
  | (show CPow _ _; unfold CPow; exact ⟨by decide, by decide, by decide⟩)
  | fail "no rule")
local macro_rules | `(tactic| walk_at "bt") => `(tactic| first
  | exact rfl
  | assumption
  | decide +kernel
  | (simp; done)
  | fail "no rule")
local macro_rules | `(tactic| walk_at "ty") => `(tactic| first
  | assumption
  | exact .non
  | exact .bl _
  | exact .int _
  | exact .str _
  | exact .lst (by walk_at "sq")
  | exact .tup (by walk_at "sq")
  | exact .dK (by walk_at "hp")
  | fail "no rule")
local macro_rules | `(tactic| walk_at "v") => `(tactic| try (walk_at "v1" <;> walk_at "v"))
local macro_rules | `(tactic| walk_at "start") => `(tactic| dsimp only [L2.start, cxOf, Cx.nox, Cx.wish, List.map, List.replicate, List.length, List.append, Nat.reduceSub, Nat.reduceAdd, List.cons_append, List.nil_append])

variable {P : Program} {w : World} {K : PySem.W.Frag} {mg : Str → Option Value} {base : Heap}
variable {aF : Addr} {es : Array DictEntry} {nF : Nat}
/-! ### what is no series, what is no code -/
/-- of a known type, and no list or tuple -/
def NonSeq (K : PySem.W.Frag) (H : Hp) (x : V) : Prop := (∃ T, TyB K H x T ∧ tyK T = true ∧ (["list", "tuple"] : List String).contains T = false) ∨ ∃ (a : Addr) (kvs : List (List Key × V)), x = .ref a ∧ H a = some (.dT kvs)
def spSeriesN (K : PySem.W.Frag) : Sp := fun vs H Q _ => ∃ (x : V) (most : Int), vs = [x, .int most] ∧ NonSeq K H x ∧ ∀ H', Same H H' → Q (.bl false) H'
theorem ok_is_seriesN {f : Addr} {fd : FuncData} (F : Fun K "is_series" "is_series" s_is_series f fd) (T : Txt K w mg aF es nF) : FnOk P w K mg base CX0 1 f fd ["value", "most"] (spSeriesN K) := by
  refine F.ok sc_is_series (fun vs H Q E h => ?_) (fun cdv A outer s H vs Q E hr h => ?_)
  · obtain ⟨x, m, rfl, _⟩ := h
    rfl
  · obtain ⟨x, m, rfl, ns, q⟩ := h
    refine ⟨_, (pss_one (ps_ret (pe_and (pe_cmpR (kIn (K := K) rfl) (pe_callTy (kType3 (K := K) rfl) (by rfl) T.b_type (by decide +kernel) (pa_cons (pv 0) pa_nil)) (pe_tup (pa_cons (pbty (n := "list") (by rfl) T.b_list (by decide +kernel)) (pa_cons (pbty (n := "tuple") (by rfl) T.b_tuple (by decide +kernel)) pa_nil))) (by rfl)) (pe_one (pe_cmpR opLeU (pe_callB (kLen (K := K) rfl) (by rfl) T.b_len (by decide +kernel) (pa_cons (pv 0) pa_nil)) (pv 1) (nomark _)))))), ?_⟩
    walk_at "start"
    walk_at "v"
    rcases ns with ⟨ty, ht, hk, hc⟩ | ⟨a, kvs, rfl, e⟩
    · refine .inl ⟨_, ty, rfl, ht, ?_⟩
      walk_at "v"
      rename_i p hp
      refine v_inTy (ts := ["list", "tuple"]) (sqT_off' upd_same) hk (by decide) ?_
      rw [hc]
      walk_at "v"
      exact q _ (same_new hp)
    · refine .inr ⟨a, kvs, rfl, e, ?_⟩
      walk_at "v"
      rename_i p hp
      refine v_inTy (ts := ["list", "tuple"]) (sqT_off' upd_same) rfl (by decide) ?_
      rw [show (["list", "tuple"] : List String).contains "dict" = false by decide]
      walk_at "v"
      exact q _ (same_new hp)
def spSer (K : PySem.W.Frag) : Sp := fun vs H Q E => spSeries K vs H Q E ∨ spSeriesN K vs H Q E
theorem ok_ser {f : Addr} {fd : FuncData} (F : Fun K "is_series" "is_series" s_is_series f fd) (T : Txt K w mg aF es nF) : FnOk P w K mg base CX0 1 f fd ["value", "most"] (spSer K) := fn_or (ok_is_series F T) (ok_is_seriesN F T)
def spCodeN (K : PySem.W.Frag) : Sp := fun vs H Q _ => ∃ (x : V) (size : Int), vs = [x, .int size] ∧ NonSeq K H x ∧ ∀ H', Same H H' → Q (.bl false) H'
theorem ok_is_codeN {f : Addr} {fd : FuncData} (F : Fun K "is_code" "is_code" s_is_code f fd) (T : Txt K w mg aF es nF) (C_is_series : Cal P w K mg base 1 "is_series" ["value", "most"] (spSeriesN K)) (C_is_instruction_within : Cal P w K mg base 5 "is_instruction_within" ["value", "size", "length"] (spWithin K)) :
    FnOk P w K mg base CX0 6 f fd ["value", "size"] (spCodeN K) := by
  refine F.ok sc_is_code (fun vs H Q E h => ?_) (fun cdv A outer s H vs Q E hr h => ?_)
  · obtain ⟨x, m, rfl, _⟩ := h
    rfl
  · obtain ⟨x, size, rfl, ns, q⟩ := h
    refine ⟨_, (pss_cons (ps_if (PW.pt (pw_or (pt_not (pt_val (pcall C_is_series hr (by omega) (by rfl) (pa_cons (pv 0) (pa_cons (pglob (by rfl) T.g_MOST_CODE) pa_nil))))) (pw_or1 (pt_cmpR (kEq (K := K) rfl hr.units) (pe_callB (kLen (K := K) rfl) (by rfl) T.b_len (by decide +kernel) (pa_cons (pv 0) pa_nil)) pe_int (nomark _))))) (pss_one (ps_ret pe_bl)) pss_nil)
      (pss_one (ps_ret (pe_callB (kAll (K := K) rfl) (by rfl) T.b_all (by decide +kernel) (pa_cons (pe_lc (own := [("item", 2)]) (by rfl) sc_is_code.nd (kSeq (K := K) rfl (pv 0)) (blkOk_by (N := ["value", "size", "item"]) (sc := defScope s_is_code) (by decide +kernel)) (fun _ _ _ _ _ => (pg_name (i := 2) sc_is_code.nd rfl (by first | exact .inl rfl | exact .inr rfl))) (fun _ _ _ _ _ => pts_nil) (fun _ _ _ _ _ => (pcall C_is_instruction_within hr (by omega) (by rfl) (pa_cons (pv 2) (pa_cons (pv 1) (pa_cons (pe_callB (kLen (K := K) rfl) (by rfl) T.b_len (by decide +kernel) (pa_cons (pv 0) pa_nil)) pa_nil)))))) pa_nil))))), ?_⟩
    walk_at "start"
    walk_at "v"
    refine ⟨x, 40, rfl, ns, fun H1 s1 => ?_⟩
    walk_at "v"
    exact q _ s1
/-! ### require, as it raises -/
def spReqX (CE : Addr) : Sp := fun vs H Q E => ∃ (b : Bool) (x : V), vs = [.bl b, x] ∧ (b = true → Q .non H) ∧ (b = false → ∀ d H', Same H H' → H d = none → H' d = some (.xd [(("given" : Str), x)]) → E (.ref CE) (some d) H')
theorem ok_init_err {C f : Addr} {fd : FuncData} (F : Fun K "__init__" "InvalidMethod.__init__" s_InvalidMethod___init__ f fd) (T : ErrC K C) (hno : PySem.W.findIn K (.ref C) "given" = some none) : FnOk P w K mg base CX0 1 f fd ["self", "given"] (spErr "given" C) := by
  refine F.ok sc_InvalidMethod___init__ (fun vs H Q E h => ?_) (fun cdv A outer s H vs Q E hr h => ?_)
  · obtain ⟨x, v, rfl, _⟩ := h
    rfl
  · obtain ⟨x, v, rfl, hx, q⟩ := h
    refine ⟨_, (pss_one (ps_err (pv 0) (pv 1))), ?_⟩
    walk_at "start"
    exact ⟨_, rfl, _, rfl, x, C, rfl, T, hno, .inl ⟨hx, fun d n ne => q d n ne⟩⟩
theorem ok_requireX {CE f : Addr} {fd : FuncData} (F : Fun K "require" "require" s_require f fd) (C_InvalidMethod : ErCal P w K mg base 1 "InvalidMethod" CE ["self", "given"] (spErr "given" CE)) : FnOk P w K mg base (L2.CX P w) 3 f fd ["right", "given"] (spReqX CE) := by
  refine F.okX sc_require (fun vs H Q E h => ?_) (fun cdv A outer s H vs Q E hr h => ?_)
  · obtain ⟨b, x, rfl, _⟩ := h
    rfl
  · obtain ⟨b, x, rfl, h1, h2⟩ := h
    refine ⟨_, (pss_one (ps_if (pt_not (pt_val (pv 0))) (pss_one (ps_raise rfl (takes_of rfl rfl rfl rfl) (pmk_err C_InvalidMethod hr (by omega) (by rfl) (pa_cons (pv 1) pa_nil)))) pss_nil)), ?_⟩
    walk_at "start"
    cases b with
    | true =>
      walk_at "v"
      exact h1 rfl
    | false =>
      walk_at "v"
      exact er_raise (Q := fun cls d H' => E cls d H') rfl fun d H' s' n e => h2 rfl d H' s' n e
end K03

open PySem PySem.Spec PyProof.Rows L2 Kit
namespace Kit
/-- a def of the top that may raise, ready to be called -/
structure CalX (P : Program) (w : World) (K : PySem.W.Frag) (mg : Str → Option Value) (base : Heap) (k : Nat) (x : Str) (ps : List Str) (sp : Sp) : Prop where
  ex : ∃ (f : Addr) (fd : FuncData), FnOk P w K mg base (L2.CX P w) k f fd ps sp ∧ mg x = some (.ref f) ∧ PySem.W.keepIn K (.ref f) = true ∧ Binds K fd ps []
theorem pcallS {X : Cx} {x : Str} {ps : List Str} {sp : Sp} {k j : Nat} {W : WX} {e : Expr} {es : List Expr} {t : TA} {p pos : Pos} (C : CalX X.prog X.w X.K X.mg X.base k x ps sp) (tk : Takes X W) (hr : Room j X.A) (hk : k ≤ j) (hg : Gl X x) (ha : PA X (e :: es) t)
    (hdb : (x == ("__debug__" : Str)) = false := by decide) (he : starEach (e :: es) X.env = (false, eval e X.env) :: starEach es X.env := by rfl) (hpl : (backTo pos (starEach es X.env)).any (·.1) = false := by rfl) :
    PE X (.Call (.Name x p) (e :: es) [] pos) (tCallS sp (WE W) t) := by
  obtain ⟨f, fd, F, hm, kp, hb⟩ := C.ex
  exact pe_callS F (hr.mono hk) hg hm kp hb (fun σ => passAt tk σ) ha hdb he hpl
theorem v_callS {σ : L2.St} {H : Hp} {Q : VK} {sp : Sp} {E : L2.St → XK} {t : TA} (k : t σ H fun vs H1 => sp vs H1 Q (E σ)) : tCallS sp E t σ H Q := k
end Kit
namespace K03
open K02
local macro_rules | `(tactic| walk_at "ne") => `(tactic| first
  | assumption
  | (apply Ne.symm; assumption)
  | exact ne_of_none (by assumption) (by assumption)
  | exact (ne_of_none (by assumption) (by assumption)).symm
  | (refine ne_of_none (H := ?H0) (o := ?oo) ?hs ?hn; (case hn => assumption); (case hs => walk_at "hp"))
  | (refine (ne_of_none (H := ?H0) (o := ?oo) ?hs ?hn).symm; (case hn => assumption); (case hs => walk_at "hp"))
  | (refine Src.ne (H := ?H0) ?hs ?hn; (case hn => assumption); (case hs => walk_at "src"))
  | (refine (Src.ne (H := ?H0) ?hs ?hn).symm; (case hn => assumption); (case hs => walk_at "src"))
  | fail "no rule")
local macro_rules | `(tactic| walk_at "hp") => `(tactic| first
  | assumption
  | exact upd_same
  | (refine (upd_ne ?hne).trans ?hrest; (case hne => walk_at "ne"); (case hrest => walk_at "hp"))
  | (refine same_at (H := ?H0) ?hs ?hrest; (case hs => assumption); (case hrest => walk_at "hp"))
  | (refine dr_at (H := ?H0) (a := ?a0) ?hs ?hne ?hrest; (case hs => assumption); (case hne => walk_at "ne"); (case hrest => walk_at "hp"))
  | fail "no rule")
local macro_rules | `(tactic| walk_at "sq") => `(tactic| first
  | assumption
  | exact Or.inl (Or.inl (by walk_at "hp"))
  | (refine sq_upd ?hnn ?hss; (case hnn => assumption); (case hss => walk_at "sq"))
  | (refine Same.seq (H := ?H0) ?hs ?hrest; (case hs => assumption); (case hrest => walk_at "sq"))
  | (refine sq_dr (H := ?H0) (a := ?a0) ?hs ?hne ?hrest; (case hs => assumption); (case hne => walk_at "ne"); (case hrest => walk_at "sq"))
  | fail "no rule")
local macro_rules | `(tactic| walk_at "sm") => `(tactic| first
  | assumption
  | exact Same.refl _
  | (refine same_new ?hnn; (case hnn => assumption))
  | (refine same_push ?hs ?hnn; (case hnn => assumption); (case hs => walk_at "sm"))
  | (refine same_mut ?hs ?hnn; (case hs => walk_at "sm"); (case hnn => walk_at "fr"))
  | (refine Same.trans (H1 := ?H1) ?hs ?hq; (case hq => assumption); (case hs => walk_at "sm"))
  | fail "no rule")
local macro_rules | `(tactic| walk_at "fr") => `(tactic| first
  | assumption
  | (refine Same.free (H' := ?H1) ?hs ?hq; (case hq => assumption); (case hs => walk_at "sm"))
  | fail "no rule")
local macro_rules | `(tactic| walk_at "src") => `(tactic| first
  | assumption
  | exact Dr.src (by assumption)
  | (refine Src.same (H := ?H0) ?hs ?hm; (case hm => assumption); (case hs => walk_at "src"))
  | (refine Src.upd ?hs ?hn; (case hs => walk_at "src"); (case hn => walk_at "ne"))
  | fail "no rule")
local macro_rules | `(tactic| walk_at "fd") => `(tactic| first
  | assumption
  | (refine Same.free (H' := ?H1) ?hs ?hq; (case hq => assumption); (case hs => walk_at "sm"))
  | (refine Dr.free (H' := ?H1) ?h0 ?hs ?hq; (case hq => assumption); (case hs => walk_at "dr"); (case h0 => walk_at "src"))
  | fail "no rule")
local macro_rules | `(tactic| walk_at "dr") => `(tactic| first
  | assumption
  | (refine Dr.trans (H' := ?H1) ?hs ?hq; (case hq => assumption); (case hs => walk_at "dr"))
  | (refine Dr.mut ?hs ?h0 ?hn; (case hs => walk_at "dr"); (case h0 => walk_at "src"); (case hn => walk_at "fd"))
  | (refine Dr.trans (H' := ?H1) ?hs (Dr.same ?h0 ?hq); (case hq => assumption); (case h0 => walk_at "src"); (case hs => walk_at "dr"))
  | (refine Dr.refl ?hs; (case hs => walk_at "src"))
  | fail "no rule")
local macro_rules | `(tactic| walk_at "sz") => `(tactic| first
  | omega
  | (refine Nat.le_trans ?_ (show (1000 : Nat) ≤ sizeLine by decide); first | decide | omega | (simp; done) | (simp; omega) | fail)
  | fail "no rule")
local macro_rules | `(tactic| walk_at "v1") => `(tactic| first
  | with_reducible refine v_seq ?_
  | with_reducible refine v_asg ?_
  | with_reducible refine v_gname ?_
  | with_reducible refine v_c ?_
  | ((with_reducible refine v_var (v := ?vv) ?hv ?_); (case hv => exact rfl))
  | with_reducible refine v_op ?_
  | with_reducible refine v_un ?_
  | with_reducible refine v_I0 ?_
  | with_reducible refine v_U ?_
  | with_reducible refine v_addI ?_
  | with_reducible refine v_ltI ?_
  | with_reducible refine v_leI ?_
  | with_reducible refine v_gtI ?_
  | with_reducible refine v_geI ?_
  | with_reducible refine v_leS ?_
  | with_reducible refine v_ltS ?_
  | with_reducible refine v_eqI ?_
  | with_reducible refine v_neI ?_
  | with_reducible refine v_eqS ?_
  | with_reducible refine v_neS ?_
  | with_reducible refine v_eqB ?_
  | ((with_reducible refine v_eqTy ?h1 ?h2 ?_); (case h1 => walk_at "bt"); (case h2 => walk_at "bt"))
  | ((with_reducible refine v_neTy ?h1 ?h2 ?_); (case h1 => walk_at "bt"); (case h2 => walk_at "bt"))
  | with_reducible refine v_test ?_
  | with_reducible refine v_B ?_
  | with_reducible refine v_isbl ?_
  | with_reducible refine v_and ?_
  | with_reducible refine v_or ?_
  | with_reducible refine v_not ?_
  | with_reducible refine v_andV ?_
  | with_reducible refine v_orV ?_
  | with_reducible refine v_notV ?_
  | with_reducible refine v_if ?_
  | with_reducible refine v_chain ?_
  | with_reducible refine v_nil ?_
  | with_reducible refine v_cons ?_
  | with_reducible refine v_cb ?_
  | with_reducible refine v_call ?_
  | with_reducible refine v_max ?_
  | ((with_reducible refine v_draw ?hs ?hm ?_); (case hs => walk_at "src"); (case hm => omega))
  | with_reducible refine v_min ?_
  | with_reducible refine v_intI ?_
  | with_reducible refine v_intB ?_
  | with_reducible refine v_m1 ?_
  | with_reducible refine v_isstr ?_
  | with_reducible refine v_sl ?_
  | with_reducible refine v_ss ?_
  | with_reducible refine v_disp1 ?_
  | with_reducible refine v_s0 ?_
  | with_reducible refine v_nopart ?_
  | with_reducible refine v_part ?_
  | with_reducible refine v_partI ?_
  | with_reducible refine v_next ?_
  | with_reducible refine v_gsub ?_
  | with_reducible refine v_ifS ?_
  | with_reducible refine v_ret ?_
  | with_reducible refine v_drop ?_
  | ((with_reducible refine v_iteTrue ?hb ?_); (case hb => walk_at "bt"))
  | ((with_reducible refine v_iteFalse ?hb ?_); (case hb => walk_at "bt"))
  | with_reducible refine v_iteD ?_ ?_
  | with_reducible refine v_iteNot ?_
  | with_reducible refine v_lc ?_
  | with_reducible refine v_iStr ?_
  | with_reducible refine v_isS ?_
  | with_reducible refine v_iRng1 ?_
  | ((with_reducible refine v_rng1 ?hb ?_); (case hb => omega))
  | with_reducible refine v_iList ?_
  | with_reducible refine v_iSeq ?_
  | ((with_reducible refine v_isL (xs := ?xx) ?hsq ?_); (case hsq => walk_at "sq"))
  | with_reducible refine v_for ?_
  | with_reducible refine v_yes ?_
  | ((with_reducible refine v_nand ?hw ?_); (case hw => first | exact rfl | walk_at "sz" | fail))
  | ((with_reducible refine v_typ (T := ?TT) ?ht ?_); (case ht => walk_at "ty"))
  | ((with_reducible refine v_isiK (T := ?TT) ?ht ?h1 ?h2 ?_); (case ht => walk_at "ty"); (case h1 => walk_at "bt"); (case h2 => exact rfl))
  | with_reducible refine iteT ?_
  | with_reducible refine iteF ?_
  | with_reducible refine v_tup ?_
  | with_reducible refine v_lst ?_
  | ((with_reducible refine v_ixL (xs := ?xx) (v := ?vv) ?hsq ?hat ?_); (case hsq => walk_at "sq"); (case hat => exact rfl))
  | ((with_reducible refine v_lenL (xs := ?xx) ?hsq ?_); (case hsq => walk_at "sq"))
  | ((with_reducible refine v_setL (xs := ?xx) (j := ?jj) ?hh ?hj ?_); (case hh => walk_at "hp"); (case hj => exact rfl))
  | ((with_reducible refine v_I ?hc ?_); (case hc => walk_at "ic"))
  | ((with_reducible refine v_lenS ?hz ?_); (case hz => walk_at "sz"))
  | ((with_reducible refine v_slS ?hz ?_); (case hz => walk_at "sz"))
  | ((with_reducible refine v_addS ?hz ?_); (case hz => walk_at "sz"))
  | ((with_reducible refine v_ixS (c := ?cc) ?hz ?hat ?_); (case hz => walk_at "sz"); (case hat => exact rfl))
  | ((with_reducible refine v_addL (xs := ?xx) (ys := ?yy) ?h1 ?h2 ?hz ?_); (case h1 => walk_at "hp"); (case h2 => walk_at "hp"); (case hz => walk_at "sz"))
  | ((with_reducible refine v_ixT (xs := ?xx) (v := ?vv) ?hsq ?hat ?_); (case hsq => walk_at "sq"); (case hat => exact rfl))
  | ((with_reducible refine v_lenT (xs := ?xx) ?hsq ?_); (case hsq => walk_at "sq"))
  | ((with_reducible refine v_eq ?hs ?_); (case hs => exact rfl))
  | ((with_reducible refine v_ne ?hs ?_); (case hs => exact rfl))
  | (with_reducible intro _)
  | fail "no rule")
local macro_rules | `(tactic| walk_at "ic") => `(tactic| first
  | (show (0 : Int) < _; first | decide | omega | fail)
  | (show CMul _ _; unfold CMul; omega)
  | (show CDiv _ _; unfold CDiv; omega)
  | (show CPow _ _; unfold CPow; exact ⟨by decide, by decide, by decide⟩)
  | fail "no rule")
local macro_rules | `(tactic| walk_at "bt") => `(tactic| first
  | exact rfl
  | assumption
  | decide +kernel
  | (simp; done)
  | fail "no rule")
local macro_rules | `(tactic| walk_at "ty") => `(tactic| first
  | assumption
  | exact .non
  | exact .bl _
  | exact .int _
  | exact .str _
  | exact .lst (by walk_at "sq")
  | exact .tup (by walk_at "sq")
  | exact .dK (by walk_at "hp")
  | fail "no rule")
local macro_rules | `(tactic| walk_at "v") => `(tactic| try (walk_at "v1" <;> walk_at "v"))
local macro_rules | `(tactic| walk_at "start") => `(tactic| dsimp only [L2.start, cxOf, Cx.nox, Cx.wish, List.map, List.replicate, List.length, List.append, Nat.reduceSub, Nat.reduceAdd, List.cons_append, List.nil_append])

local macro_rules | `(tactic| walk_at "v1") => `(tactic| first
  | with_reducible refine v_callS ?_
  | fail "no rule")
variable {P : Program} {w : World} {K : PySem.W.Frag} {mg : Str → Option Value} {base : Heap}
variable {aF : Addr} {es : Array DictEntry} {nF : Nat} {C fI CE : Addr}
/-! ### Method.__init__, as it raises -/
def codeOk (size : Int) (l : List Dat) : Bool := decide (0 < l.length) && decide (l.length ≤ 40) && l.all (instrD size l.length)
def RiName (v : V) : Prop := ∃ n : Str, v = .str n ∧ nameS n = true ∧ okS n
def RiPars (K : PySem.W.Frag) (H : Hp) (v : V) (m : Nat) : Prop := ∃ ks : List Str, SeqAt2 K H v (ks.map .str) ∧ (∀ k ∈ ks, tpD (.str k) = true ∧ okS k) ∧ ks.length ≤ 4 ∧ ks.length = m
def RiRes (v : V) : Prop := ∃ t : Str, v = .str t ∧ tpD (.str t) = true ∧ okS t
def WrPars (K : PySem.W.Frag) (H : Hp) (v : V) : Prop := NonSeq K H v ∨ ∃ l, SeqAt2 K H v l ∧ okL l ∧ l.length ≤ 1000 ∧ (decide ((l.length : Int) ≤ 4) && l.all tpD) = false
def WrCode (K : PySem.W.Frag) (H : Hp) (v : V) (size : Int) : Prop := NonSeq K H v ∨ ∃ l, SeqAt2 K H v l ∧ okL l ∧ l.length ≤ 1000 ∧ codeOk size l = false
/-- the first wrong part, by its place -/
def Wrong (K : PySem.W.Frag) (H : Hp) (vn vp vt vz vc bad : V) : Prop :=
  (bad = vn ∧ ∃ d, Rep K H d vn ∧ okD d ∧ nmD d = false) ∨
  (bad = vp ∧ RiName vn ∧ WrPars K H vp) ∨
  (bad = vt ∧ RiName vn ∧ (∃ m, RiPars K H vp m) ∧ ∃ d, Rep K H d vt ∧ okD d ∧ tpD d = false) ∨
  (bad = vz ∧ RiName vn ∧ RiRes vt ∧ ∃ m, RiPars K H vp m ∧ ∃ d, Rep K H d vz ∧ numD (1 + (m : Int)) 10 d = false) ∨
  (bad = vc ∧ RiName vn ∧ RiRes vt ∧ ∃ (m : Nat) (size : Int), RiPars K H vp m ∧ vz = .int size ∧ 1 + (m : Int) ≤ size ∧ size ≤ 10 ∧ WrCode K H vc size)
def spInitX (K : PySem.W.Frag) (C CE : Addr) : Sp := fun vs H _ E => ∃ (x dx : Addr) (vn vp vt vz vc bad : V), vs = [.ref x, vn, vp, vt, vz, vc] ∧ H x = some (.ins C dx []) ∧ Wrong K H vn vp vt vz vc bad ∧
  ∀ d H', Same H H' → H' d = some (.xd [(("given" : Str), bad)]) → E (.ref CE) (some d) H'
theorem seq2_same {H H' : Hp} {x : V} {l : List Dat} (s : Same H H') (h : SeqAt2 K H x l) : SeqAt2 K H' x l := h.imp (Rep.same s) (Rep.same s)
theorem nonseq_same {H H' : Hp} {x : V} (s : Same H H') (h : NonSeq K H x) : NonSeq K H' x := by
  rcases h with ⟨T, t, h1, h2⟩ | ⟨a, kvs, e, h⟩
  · refine .inl ⟨T, ?_, h1, h2⟩
    cases t with
    | non => exact .non
    | bl b => exact .bl b
    | int i => exact .int i
    | str z => exact .str z
    | byt b => exact .byt b
    | lst h => exact .lst (s.seq h)
    | tup h => exact .tup (sqT_sm s h)
    | dK h => exact .dK (s _ _ h)
  · exact .inr ⟨a, kvs, e, s _ _ h⟩
theorem v_len2 {H : Hp} {x : V} {l : List Dat} {Q : VK} (h : SeqAt2 K H x l) (k : Q (.int l.length) H) : rLenU K [x] H Q := by
  obtain ⟨a, xs, rfl, r, hq⟩ := seq_cases h
  rw [← r.length] at k
  rcases hq with hq | hq
  · exact v_lenT hq k
  · exact v_lenL hq k
theorem strs_ok {ks : List Str} (h : ∀ k ∈ ks, tpD (.str k) = true ∧ okS k) : okL (ks.map Dat.str) ∧ (ks.map Dat.str).all tpD = true := by
  refine ⟨okL_of fun d hd => ?_, List.all_eq_true.mpr fun d hd => ?_⟩
  · obtain ⟨k, hk, rfl⟩ := List.mem_map.mp hd
    exact (h k hk).2
  · obtain ⟨k, hk, rfl⟩ := List.mem_map.mp hd
    exact (h k hk).1
theorem ok_initX {f : Addr} {fd : FuncData} (F : Fun K "__init__" "Method.__init__" s_Method___init__ f fd) (T : Txt K w mg aF es nF) (C_require : CalX P w K mg base 3 "require" ["right", "given"] (spReqX CE)) (C_is_name : Cal P w K mg base 1 "is_name" ["value"] (spIsName K)) (C_is_type : Cal P w K mg base 2 "is_type" ["value"] (spIsType K))
    (C_is_series : Cal P w K mg base 1 "is_series" ["value", "most"] (spSer K)) (C_are_types : Cal P w K mg base 3 "are_types" ["items"] (spTypes K)) (C_is_number : Cal P w K mg base 1 "is_number" ["value", "low", "high"] (spNum K)) (C_is_code : Cal P w K mg base 6 "is_code" ["value", "size"] (fun vs H Q E => spCode K vs H Q E ∨ spCodeN K vs H Q E)) :
    FnOk P w K mg base (L2.CX P w) 7 f fd ["self", "name", "params", "result", "size", "code"] (spInitX K C CE) := by
  refine F.okX sc_Method___init__ (fun vs H Q E h => ?_) (fun cdv A outer s H vs Q E hr h => ?_)
  · obtain ⟨x, dx, vn, vp, vt, vz, vc, bad, rfl, _⟩ := h
    rfl
  · obtain ⟨x, dx, vn, vp, vt, vz, vc, bad, rfl, hx, hw, q⟩ := h
    refine ⟨_, (pss_cons (ps_expr (pcallS C_require (takes_of rfl rfl rfl rfl) hr (by omega) (by rfl) (pa_cons (pcall C_is_name hr (by omega) (by rfl) (pa_cons (pv 1) pa_nil)) (pa_cons (pv 1) pa_nil))))
      (pss_cons (ps_expr (pcallS C_require (takes_of rfl rfl rfl rfl) hr (by omega) (by rfl) (pa_cons (pe_and (pcall C_is_series hr (by omega) (by rfl) (pa_cons (pv 2) (pa_cons (pglob (by rfl) T.g_MOST_TYPES) pa_nil))) (pe_one (pcall C_are_types hr (by omega) (by rfl) (pa_cons (pv 2) pa_nil)))) (pa_cons (pv 2) pa_nil))))
      (pss_cons (ps_expr (pcallS C_require (takes_of rfl rfl rfl rfl) hr (by omega) (by rfl) (pa_cons (pcall C_is_type hr (by omega) (by rfl) (pa_cons (pv 3) pa_nil)) (pa_cons (pv 3) pa_nil))))
      (pss_cons (ps_expr (pcallS C_require (takes_of rfl rfl rfl rfl) hr (by omega) (by rfl) (pa_cons (pcall C_is_number hr (by omega) (by rfl) (pa_cons (pv 4) (pa_cons (pe_op (kAdd (K := K) rfl) pe_int (pe_callB (kLen (K := K) rfl) (by rfl) T.b_len (by decide +kernel) (pa_cons (pv 2) pa_nil))) (pa_cons (pglob (by rfl) T.g_MOST_SIZE) pa_nil)))) (pa_cons (pv 4) pa_nil))))
      (pss_cons (ps_expr (pcallS C_require (takes_of rfl rfl rfl rfl) hr (by omega) (by rfl) (pa_cons (pcall C_is_code hr (by omega) (by rfl) (pa_cons (pv 5) (pa_cons (pv 4) pa_nil))) (pa_cons (pv 5) pa_nil))))
      (pss_cons (ps_fld (pv 0) (pv 1) rfl)
      (pss_cons (ps_fld (pv 0) (pe_callTy (kTup1 (K := K) rfl) (by rfl) T.b_tuple (by decide +kernel) (pa_cons (pv 2) pa_nil)) rfl)
      (pss_cons (ps_fld (pv 0) (pv 3) rfl)
      (pss_cons (ps_fld (pv 0) (pv 4) rfl)
      (pss_one (ps_fld (pv 0) (pe_callTy (kTup1 (K := K) rfl) (by rfl) T.b_tuple (by decide +kernel) (pa_cons (pv 5) pa_nil)) rfl))))))))))), ?_⟩
    walk_at "start"
    walk_at "v"
    have qw : ∀ H1, Same H H1 → ∀ d H', Same H1 H' → H1 d = none → H' d = some (.xd [(("given" : Str), bad)]) → E (.ref CE) (some d) H' := fun H1 s1 d H' s' _ e => q d H' (s1.trans s') e
    rcases hw with ⟨rfl, d, rd, od, nd⟩ | ⟨rfl, ⟨n, rfl, hn, on⟩, hp⟩ | ⟨rfl, ⟨n, rfl, hn, on⟩, ⟨m, ks, hp, hks, h4, rfl⟩, d, rd, od, td⟩ | ⟨rfl, ⟨n, rfl, hn, on⟩, ⟨t, rfl, ht, ot⟩, m, ⟨ks, hp, hks, h4, rfl⟩, d, rd, zd⟩ | ⟨rfl, ⟨n, rfl, hn, on⟩, ⟨t, rfl, ht, ot⟩, m, size, ⟨ks, hp, hks, h4, rfl⟩, rfl, hz1, hz2, hc⟩
    · refine ⟨_, rfl, rd.known, rd.short od, fun H1 s1 => ?_⟩
      rw [rd.nm, nd]
      walk_at "v"
      exact ⟨false, _, rfl, fun h => (by cases h), fun _ => qw H1 s1⟩
    all_goals
      refine ⟨.str n, rfl, ⟨_, .str n, rfl⟩, fun w e => by cases e; exact on, fun H1 s1 => ?_⟩
      rw [show nameV (.str n) = true from hn]
      walk_at "v"
      refine ⟨true, _, rfl, fun _ => ?_, fun h => (by cases h)⟩
      walk_at "v"
    · rcases hp with ns | ⟨l, hp, ol, ll, hb⟩
      · refine .inr ⟨_, _, rfl, nonseq_same s1 ns, fun H2 s2 => ?_⟩
        walk_at "v"
        exact ⟨false, _, rfl, fun h => (by cases h), fun _ => qw H2 (s1.trans s2)⟩
      · refine .inl ⟨_, l, _, rfl, seq2_same s1 hp, fun H2 s2 => ?_⟩
        by_cases h4 : (l.length : Int) ≤ 4
        · rw [decide_eq_true h4, Bool.true_and] at hb
          rw [decide_eq_true h4]
          walk_at "v"
          refine ⟨_, l, rfl, seq2_same (s1.trans s2) hp, ol, ll, fun H3 s3 => ?_⟩
          rw [hb]
          walk_at "v"
          exact ⟨false, _, rfl, fun h => (by cases h), fun _ => qw H3 ((s1.trans s2).trans s3)⟩
        · rw [decide_eq_false h4]
          walk_at "v"
          exact ⟨false, _, rfl, fun h => (by cases h), fun _ => qw H2 (s1.trans s2)⟩
    all_goals
      refine .inl ⟨_, _, _, rfl, seq2_same s1 hp, fun H2 s2 => ?_⟩
      rw [List.length_map, decide_eq_true (by omega)]
      walk_at "v"
      refine ⟨_, ks.map .str, rfl, seq2_same (s1.trans s2) hp, (strs_ok hks).1, by rw [List.length_map]; omega, fun H3 s3 => ?_⟩
      rw [(strs_ok hks).2]
      walk_at "v"
      refine ⟨true, _, rfl, fun _ => ?_, fun h => (by cases h)⟩
      have s13 := (s1.trans s2).trans s3
      walk_at "v"
    · refine ⟨_, rfl, (rd.same s13).known, (rd.same s13).short od, fun H4 s4 => ?_⟩
      rw [(rd.same s13).tp, td]
      walk_at "v"
      exact ⟨false, _, rfl, fun h => (by cases h), fun _ => qw H4 (s13.trans s4)⟩
    all_goals
      refine ⟨.str t, rfl, ⟨_, .str t, rfl⟩, fun w e => by cases e; exact ot, fun H4 s4 => ?_⟩
      rw [show typeV (.str t) = true from ht]
      have s14 := s13.trans s4
      walk_at "v"
      refine ⟨true, _, rfl, fun _ => ?_, fun h => (by cases h)⟩
      walk_at "v"
      refine v_len2 (seq2_same s14 hp) ?_
      rw [List.length_map]
      walk_at "v"
    · refine ⟨_, d, _, _, rfl, rd.same s14, ?_⟩
      rw [zd]
      walk_at "v"
      exact ⟨false, _, rfl, fun h => (by cases h), fun _ => qw H4 s14⟩
    · refine ⟨_, .int size, _, _, rfl, rfl, ?_⟩
      rw [show numD (1 + (ks.length : Int)) 10 (.int size) = true by
        show (decide _ && decide _) = true
        rw [decide_eq_true hz1, decide_eq_true hz2]; rfl]
      walk_at "v"
      refine ⟨true, _, rfl, fun _ => ?_, fun h => (by cases h)⟩
      walk_at "v"
      rcases hc with ns | ⟨l, hc, ol, ll, hb⟩
      · refine .inr ⟨_, _, rfl, nonseq_same s14 ns, fun H5 s5 => ?_⟩
        walk_at "v"
        exact ⟨false, _, rfl, fun h => (by cases h), fun _ => qw H5 (s14.trans s5)⟩
      · refine .inl ⟨_, l, size, rfl, seq2_same s14 hc, ol, ll, fun H5 s5 => ?_⟩
        unfold codeOk at hb
        rw [hb]
        walk_at "v"
        exact ⟨false, _, rfl, fun h => (by cases h), fun _ => qw H5 (s14.trans s5)⟩
end K03

open PySem PySem.Spec PyProof.Rows L2 Kit
namespace K03
open K02
local macro_rules | `(tactic| walk_at "ne") => `(tactic| first
  | assumption
  | (apply Ne.symm; assumption)
  | exact ne_of_none (by assumption) (by assumption)
  | exact (ne_of_none (by assumption) (by assumption)).symm
  | (refine ne_of_none (H := ?H0) (o := ?oo) ?hs ?hn; (case hn => assumption); (case hs => walk_at "hp"))
  | (refine (ne_of_none (H := ?H0) (o := ?oo) ?hs ?hn).symm; (case hn => assumption); (case hs => walk_at "hp"))
  | (refine Src.ne (H := ?H0) ?hs ?hn; (case hn => assumption); (case hs => walk_at "src"))
  | (refine (Src.ne (H := ?H0) ?hs ?hn).symm; (case hn => assumption); (case hs => walk_at "src"))
  | fail "no rule")
local macro_rules | `(tactic| walk_at "hp") => `(tactic| first
  | assumption
  | exact upd_same
  | (refine (upd_ne ?hne).trans ?hrest; (case hne => walk_at "ne"); (case hrest => walk_at "hp"))
  | (refine same_at (H := ?H0) ?hs ?hrest; (case hs => assumption); (case hrest => walk_at "hp"))
  | (refine dr_at (H := ?H0) (a := ?a0) ?hs ?hne ?hrest; (case hs => assumption); (case hne => walk_at "ne"); (case hrest => walk_at "hp"))
  | fail "no rule")
local macro_rules | `(tactic| walk_at "sq") => `(tactic| first
  | assumption
  | exact Or.inl (Or.inl (by walk_at "hp"))
  | (refine sq_upd ?hnn ?hss; (case hnn => assumption); (case hss => walk_at "sq"))
  | (refine Same.seq (H := ?H0) ?hs ?hrest; (case hs => assumption); (case hrest => walk_at "sq"))
  | (refine sq_dr (H := ?H0) (a := ?a0) ?hs ?hne ?hrest; (case hs => assumption); (case hne => walk_at "ne"); (case hrest => walk_at "sq"))
  | fail "no rule")
local macro_rules | `(tactic| walk_at "sm") => `(tactic| first
  | assumption
  | exact Same.refl _
  | (refine same_new ?hnn; (case hnn => assumption))
  | (refine same_push ?hs ?hnn; (case hnn => assumption); (case hs => walk_at "sm"))
  | (refine same_mut ?hs ?hnn; (case hs => walk_at "sm"); (case hnn => walk_at "fr"))
  | (refine Same.trans (H1 := ?H1) ?hs ?hq; (case hq => assumption); (case hs => walk_at "sm"))
  | fail "no rule")
local macro_rules | `(tactic| walk_at "fr") => `(tactic| first
  | assumption
  | (refine Same.free (H' := ?H1) ?hs ?hq; (case hq => assumption); (case hs => walk_at "sm"))
  | fail "no rule")
local macro_rules | `(tactic| walk_at "src") => `(tactic| first
  | assumption
  | exact Dr.src (by assumption)
  | (refine Src.same (H := ?H0) ?hs ?hm; (case hm => assumption); (case hs => walk_at "src"))
  | (refine Src.upd ?hs ?hn; (case hs => walk_at "src"); (case hn => walk_at "ne"))
  | fail "no rule")
local macro_rules | `(tactic| walk_at "fd") => `(tactic| first
  | assumption
  | (refine Same.free (H' := ?H1) ?hs ?hq; (case hq => assumption); (case hs => walk_at "sm"))
  | (refine Dr.free (H' := ?H1) ?h0 ?hs ?hq; (case hq => assumption); (case hs => walk_at "dr"); (case h0 => walk_at "src"))
  | fail "no rule")
local macro_rules | `(tactic| walk_at "dr") => `(tactic| first
  | assumption
  | (refine Dr.trans (H' := ?H1) ?hs ?hq; (case hq => assumption); (case hs => walk_at "dr"))
  | (refine Dr.mut ?hs ?h0 ?hn; (case hs => walk_at "dr"); (case h0 => walk_at "src"); (case hn => walk_at "fd"))
  | (refine Dr.trans (H' := ?H1) ?hs (Dr.same ?h0 ?hq); (case hq => assumption); (case h0 => walk_at "src"); (case hs => walk_at "dr"))
  | (refine Dr.refl ?hs; (case hs => walk_at "src"))
  | fail "no rule")
local macro_rules | `(tactic| walk_at "sz") => `(tactic| first
  | omega
  | (refine Nat.le_trans ?_ (show (1000 : Nat) ≤ sizeLine by decide); first | decide | omega | (simp; done) | (simp; omega) | fail)
  | fail "no rule")
local macro_rules | `(tactic| walk_at "v1") => `(tactic| first
  | with_reducible refine v_seq ?_
  | with_reducible refine v_asg ?_
  | with_reducible refine v_gname ?_
  | with_reducible refine v_c ?_
  | ((with_reducible refine v_var (v := ?vv) ?hv ?_); (case hv => exact rfl))
  | with_reducible refine v_op ?_
  | with_reducible refine v_un ?_
  | with_reducible refine v_I0 ?_
  | with_reducible refine v_U ?_
  | with_reducible refine v_addI ?_
  | with_reducible refine v_ltI ?_
  | with_reducible refine v_leI ?_
  | with_reducible refine v_gtI ?_
  | with_reducible refine v_geI ?_
  | with_reducible refine v_leS ?_
  | with_reducible refine v_ltS ?_
  | with_reducible refine v_eqI ?_
  | with_reducible refine v_neI ?_
  | with_reducible refine v_eqS ?_
  | with_reducible refine v_neS ?_
  | with_reducible refine v_eqB ?_
  | ((with_reducible refine v_eqTy ?h1 ?h2 ?_); (case h1 => walk_at "bt"); (case h2 => walk_at "bt"))
  | ((with_reducible refine v_neTy ?h1 ?h2 ?_); (case h1 => walk_at "bt"); (case h2 => walk_at "bt"))
  | with_reducible refine v_test ?_
  | with_reducible refine v_B ?_
  | with_reducible refine v_isbl ?_
  | with_reducible refine v_and ?_
  | with_reducible refine v_or ?_
  | with_reducible refine v_not ?_
  | with_reducible refine v_andV ?_
  | with_reducible refine v_orV ?_
  | with_reducible refine v_notV ?_
  | with_reducible refine v_if ?_
  | with_reducible refine v_chain ?_
  | with_reducible refine v_nil ?_
  | with_reducible refine v_cons ?_
  | with_reducible refine v_cb ?_
  | with_reducible refine v_call ?_
  | with_reducible refine v_max ?_
  | ((with_reducible refine v_draw ?hs ?hm ?_); (case hs => walk_at "src"); (case hm => omega))
  | with_reducible refine v_min ?_
  | with_reducible refine v_intI ?_
  | with_reducible refine v_intB ?_
  | with_reducible refine v_m1 ?_
  | with_reducible refine v_isstr ?_
  | with_reducible refine v_sl ?_
  | with_reducible refine v_ss ?_
  | with_reducible refine v_disp1 ?_
  | with_reducible refine v_s0 ?_
  | with_reducible refine v_nopart ?_
  | with_reducible refine v_part ?_
  | with_reducible refine v_partI ?_
  | with_reducible refine v_next ?_
  | with_reducible refine v_gsub ?_
  | with_reducible refine v_ifS ?_
  | with_reducible refine v_ret ?_
  | with_reducible refine v_drop ?_
  | ((with_reducible refine v_iteTrue ?hb ?_); (case hb => walk_at "bt"))
  | ((with_reducible refine v_iteFalse ?hb ?_); (case hb => walk_at "bt"))
  | with_reducible refine v_iteD ?_ ?_
  | with_reducible refine v_iteNot ?_
  | with_reducible refine v_lc ?_
  | with_reducible refine v_iStr ?_
  | with_reducible refine v_isS ?_
  | with_reducible refine v_iRng1 ?_
  | ((with_reducible refine v_rng1 ?hb ?_); (case hb => omega))
  | with_reducible refine v_iList ?_
  | with_reducible refine v_iSeq ?_
  | ((with_reducible refine v_isL (xs := ?xx) ?hsq ?_); (case hsq => walk_at "sq"))
  | with_reducible refine v_for ?_
  | with_reducible refine v_yes ?_
  | ((with_reducible refine v_nand ?hw ?_); (case hw => first | exact rfl | walk_at "sz" | fail))
  | ((with_reducible refine v_typ (T := ?TT) ?ht ?_); (case ht => walk_at "ty"))
  | ((with_reducible refine v_isiK (T := ?TT) ?ht ?h1 ?h2 ?_); (case ht => walk_at "ty"); (case h1 => walk_at "bt"); (case h2 => exact rfl))
  | with_reducible refine iteT ?_
  | with_reducible refine iteF ?_
  | with_reducible refine v_tup ?_
  | with_reducible refine v_lst ?_
  | ((with_reducible refine v_ixL (xs := ?xx) (v := ?vv) ?hsq ?hat ?_); (case hsq => walk_at "sq"); (case hat => exact rfl))
  | ((with_reducible refine v_lenL (xs := ?xx) ?hsq ?_); (case hsq => walk_at "sq"))
  | ((with_reducible refine v_setL (xs := ?xx) (j := ?jj) ?hh ?hj ?_); (case hh => walk_at "hp"); (case hj => exact rfl))
  | ((with_reducible refine v_I ?hc ?_); (case hc => walk_at "ic"))
  | ((with_reducible refine v_lenS ?hz ?_); (case hz => walk_at "sz"))
  | ((with_reducible refine v_slS ?hz ?_); (case hz => walk_at "sz"))
  | ((with_reducible refine v_addS ?hz ?_); (case hz => walk_at "sz"))
  | ((with_reducible refine v_ixS (c := ?cc) ?hz ?hat ?_); (case hz => walk_at "sz"); (case hat => exact rfl))
  | ((with_reducible refine v_addL (xs := ?xx) (ys := ?yy) ?h1 ?h2 ?hz ?_); (case h1 => walk_at "hp"); (case h2 => walk_at "hp"); (case hz => walk_at "sz"))
  | ((with_reducible refine v_ixT (xs := ?xx) (v := ?vv) ?hsq ?hat ?_); (case hsq => walk_at "sq"); (case hat => exact rfl))
  | ((with_reducible refine v_lenT (xs := ?xx) ?hsq ?_); (case hsq => walk_at "sq"))
  | ((with_reducible refine v_eq ?hs ?_); (case hs => exact rfl))
  | ((with_reducible refine v_ne ?hs ?_); (case hs => exact rfl))
  | (with_reducible intro _)
  | fail "no rule")
local macro_rules | `(tactic| walk_at "ic") => `(tactic| first
  | (show (0 : Int) < _; first | decide | omega | fail)
  | (show CMul _ _; unfold CMul; omega)
  | (show CDiv _ _; unfold CDiv; omega)
  | (show CPow _ _; unfold CPow; exact ⟨by decide, by decide, by decide⟩)
  | fail "no rule")
local macro_rules | `(tactic| walk_at "bt") => `(tactic| first
  | exact rfl
  | assumption
  | decide +kernel
  | (simp; done)
  | fail "no rule")
local macro_rules | `(tactic| walk_at "ty") => `(tactic| first
  | assumption
  | exact .non
  | exact .bl _
  | exact .int _
  | exact .str _
  | exact .lst (by walk_at "sq")
  | exact .tup (by walk_at "sq")
  | exact .dK (by walk_at "hp")
  | fail "no rule")
local macro_rules | `(tactic| walk_at "v") => `(tactic| try (walk_at "v1" <;> walk_at "v"))
local macro_rules | `(tactic| walk_at "start") => `(tactic| dsimp only [L2.start, cxOf, Cx.nox, Cx.wish, List.map, List.replicate, List.length, List.append, Nat.reduceSub, Nat.reduceAdd, List.cons_append, List.nil_append])

variable {P : Program} {w : World} {K : PySem.W.Frag} {mg : Str → Option Value} {base : Heap}
variable {aF : Addr} {es : Array DictEntry} {nF : Nat} {C fI CE : Addr}
/-! ### a method, as it stands -/
structure MethAt (K : PySem.W.Frag) (C : Addr) (H : Hp) (x : Addr) (n : Str) (ks : List Str) (t : Str) (size : Int) (l : List Dat) : Prop where
  ex : ∃ (dx pp pc : Addr) (fs : List (Str × V)) (xs : List V), H x = some (.ins C dx fs) ∧ fs.lookup ("_name" : Str) = some (.str n) ∧ fs.lookup ("_params" : Str) = some (.ref pp) ∧ fs.lookup ("_result" : Str) = some (.str t) ∧ fs.lookup ("_size" : Str) = some (.int size) ∧
    fs.lookup ("_code" : Str) = some (.ref pc) ∧ SqT K H pp (ks.map V.str) ∧ SqT K H pc xs ∧ RepL K H l xs
theorem MethAt.same {H H' : Hp} {x : Addr} {n : Str} {ks : List Str} {t : Str} {size : Int} {l : List Dat} (s : Same H H') (h : MethAt K C H x n ks t size l) : MethAt K C H' x n ks t size l := by
  obtain ⟨dx, pp, pc, fs, xs, h1, h2, h3, h4, h5, h6, h7, h8, h9⟩ := h.ex
  exact ⟨dx, pp, pc, fs, xs, s _ _ h1, h2, h3, h4, h5, h6, sqT_sm s h7, sqT_sm s h8, h9.same s⟩
/-- the parts of a method are right -/
structure Parts (n : Str) (ks : List Str) (t : Str) (size : Int) (l : List Dat) : Prop where
  n1 : nameS n = true
  n2 : okS n
  k1 : ∀ k ∈ ks, tpD (.str k) = true ∧ okS k
  k2 : ks.length ≤ 4
  t1 : tpD (.str t) = true
  t2 : okS t
  z1 : 1 + (ks.length : Int) ≤ size
  z2 : size ≤ 10
  c1 : okL l
  c2 : codeOk size l = true
theorem Parts.c3 {n : Str} {ks : List Str} {t : Str} {size : Int} {l : List Dat} (h : Parts n ks t size l) : 0 < l.length ∧ l.length ≤ 40 ∧ l.all (instrD size l.length) = true := by
  have q := h.c2
  unfold codeOk at q
  rw [Bool.and_eq_true, Bool.and_eq_true, decide_eq_true_iff, decide_eq_true_iff] at q
  exact ⟨q.1.1, q.1.2, q.2⟩
def spInitF (K : PySem.W.Frag) (C : Addr) : Sp := fun vs H Q _ => ∃ (x dx : Addr) (n : Str) (vp : V) (ks : List Str) (t : Str) (size : Int) (vc : V) (l : List Dat), vs = [.ref x, .str n, vp, .str t, .int size, vc] ∧ H x = some (.ins C dx []) ∧ Parts n ks t size l ∧ SeqAt2 K H vp (ks.map .str) ∧ SeqAt2 K H vc l ∧
  ∀ H', (∀ b o, H b = some o → b ≠ x → H' b = some o) → MethAt K C H' x n ks t size l → Q .non H'
theorem sqT_offI {H : Hp} {a x D dx : Addr} {xs : List V} {fs : List (Str × V)} (h : SqT K H a xs) (e : H x = some (.ins D dx fs)) : SqT K (off x H) a xs := by
  rcases h with (h | ⟨o, h⟩) | h
  · exact .inl (.inl (by rw [off_ne (fun z => by rw [z, e] at h; cases h)]; exact h))
  · exact .inl (.inr ⟨o, by rw [off_ne (fun z => by rw [z, e] at h; cases h)]; exact h⟩)
  · exact .inr h
theorem sqL_offI {H : Hp} {a x D dx : Addr} {xs : List V} {fs : List (Str × V)} (h : SqL K H a xs) (e : H x = some (.ins D dx fs)) : SqL K (off x H) a xs := by
  rcases h with (h | ⟨o, h⟩) | h
  · exact .inl (.inl (by rw [off_ne (fun z => by rw [z, e] at h; cases h)]; exact h))
  · exact .inl (.inr ⟨o, by rw [off_ne (fun z => by rw [z, e] at h; cases h)]; exact h⟩)
  · exact .inr h
mutual
theorem rep_offI {H : Hp} {x D dx : Addr} {fs : List (Str × V)} (e : H x = some (.ins D dx fs)) : ∀ {d : Dat} {v : V}, Rep K H d v → Rep K (off x H) d v
  | .non, _, h => h
  | .bl _, _, h => h
  | .int _, _, h => h
  | .str _, _, h => h
  | .tup l, _, h => by
    obtain ⟨a, xs, rfl, q, r⟩ := h
    exact ⟨a, xs, rfl, sqT_offI q e, repL_offI e r⟩
  | .lst l, _, h => by
    obtain ⟨a, xs, rfl, q, r⟩ := h
    exact ⟨a, xs, rfl, sqL_offI q e, repL_offI e r⟩
  | .dct, _, h => by
    obtain ⟨a, kvs, rfl, q⟩ := h
    exact ⟨a, kvs, rfl, by rw [off_ne (fun z => by rw [z, e] at q; cases q)]; exact q⟩
theorem repL_offI {H : Hp} {x D dx : Addr} {fs : List (Str × V)} (e : H x = some (.ins D dx fs)) : ∀ {l : List Dat} {xs : List V}, RepL K H l xs → RepL K (off x H) l xs
  | [], _, r => r
  | d :: l, _, r => by
    obtain ⟨y, t, rfl, q, r2⟩ := r
    exact ⟨y, t, rfl, rep_offI e q, repL_offI e r2⟩
end
theorem off_upd' {H : Hp} {x : Addr} {o : HO} : Same (off x H) (upd H x o) := fun b u q => by
  by_cases h : b = x
  · rw [h] at q
    unfold off at q
    rw [if_pos rfl] at q
    cases q
  · rw [off_ne h] at q
    rw [upd_ne h]
    exact q
/-- tuple(x) of a list or tuple -/
theorem v_tup2 {H : Hp} {v : V} {l : List Dat} {Q : VK} (h : SeqAt2 K H v l) (k : ∀ p H' xs, Same H H' → SqT K H' p xs → RepL K H' l xs → Q (.ref p) H') : rTup1 K [v] H Q := by
  obtain ⟨a, xs, rfl, r, hq⟩ := seq_cases h
  rcases hq with hq | hq
  · exact v_tup1T hq (k a H xs (Same.refl _) hq r)
  · exact v_tup1L hq fun p hp => k p _ xs (same_new hp) (.inl (.inl upd_same)) (r.same (same_new hp))
theorem repL_strs' {H : Hp} : ∀ {ks : List Str} {xs : List V}, RepL K H (ks.map Dat.str) xs → xs = ks.map V.str
  | [], _, r => r
  | k :: ks, _, r => by
    obtain ⟨x, t, rfl, q, r2⟩ := r
    cases q
    rw [repL_strs' r2]
    rfl
theorem ok_initF {f : Addr} {fd : FuncData} (F : Fun K "__init__" "Method.__init__" s_Method___init__ f fd) (T : Txt K w mg aF es nF) (M : MethC K C fI) (C_require : Cal P w K mg base 1 "require" ["right", "given"] spReq) (C_is_name : Cal P w K mg base 1 "is_name" ["value"] (spIsName K)) (C_is_type : Cal P w K mg base 2 "is_type" ["value"] (spIsType K))
    (C_is_series : Cal P w K mg base 1 "is_series" ["value", "most"] (spSeries K)) (C_are_types : Cal P w K mg base 3 "are_types" ["items"] (spTypes K)) (C_is_number : Cal P w K mg base 1 "is_number" ["value", "low", "high"] (spNum K)) (C_is_code : Cal P w K mg base 6 "is_code" ["value", "size"] (spCode K)) :
    FnOk P w K mg base CX0 7 f fd ["self", "name", "params", "result", "size", "code"] (spInitF K C) := by
  refine F.ok sc_Method___init__ (fun vs H Q E h => ?_) (fun cdv A outer s H vs Q E hr h => ?_)
  · obtain ⟨x, dx, n, vp, ks, t, size, vc, l, rfl, _⟩ := h
    rfl
  · obtain ⟨x, dx, n, vp, ks, t, size, vc, l, rfl, hx, pt, hp, hc, q⟩ := h
    obtain ⟨hl0, hl1, hall⟩ := pt.c3
    have k2 := pt.k2
    refine ⟨_, (pss_cons (ps_expr (pcall C_require hr (by omega) (by rfl) (pa_cons (pcall C_is_name hr (by omega) (by rfl) (pa_cons (pv 1) pa_nil)) (pa_cons (pv 1) pa_nil))))
      (pss_cons (ps_expr (pcall C_require hr (by omega) (by rfl) (pa_cons (pe_and (pcall C_is_series hr (by omega) (by rfl) (pa_cons (pv 2) (pa_cons (pglob (by rfl) T.g_MOST_TYPES) pa_nil))) (pe_one (pcall C_are_types hr (by omega) (by rfl) (pa_cons (pv 2) pa_nil)))) (pa_cons (pv 2) pa_nil))))
      (pss_cons (ps_expr (pcall C_require hr (by omega) (by rfl) (pa_cons (pcall C_is_type hr (by omega) (by rfl) (pa_cons (pv 3) pa_nil)) (pa_cons (pv 3) pa_nil))))
      (pss_cons (ps_expr (pcall C_require hr (by omega) (by rfl) (pa_cons (pcall C_is_number hr (by omega) (by rfl) (pa_cons (pv 4) (pa_cons (pe_op (kAdd (K := K) rfl) pe_int (pe_callB (kLen (K := K) rfl) (by rfl) T.b_len (by decide +kernel) (pa_cons (pv 2) pa_nil))) (pa_cons (pglob (by rfl) T.g_MOST_SIZE) pa_nil)))) (pa_cons (pv 4) pa_nil))))
      (pss_cons (ps_expr (pcall C_require hr (by omega) (by rfl) (pa_cons (pcall C_is_code hr (by omega) (by rfl) (pa_cons (pv 5) (pa_cons (pv 4) pa_nil))) (pa_cons (pv 5) pa_nil))))
      (pss_cons (ps_fld (pv 0) (pv 1) rfl)
      (pss_cons (ps_fld (pv 0) (pe_callTy (kTup1 (K := K) rfl) (by rfl) T.b_tuple (by decide +kernel) (pa_cons (pv 2) pa_nil)) rfl)
      (pss_cons (ps_fld (pv 0) (pv 3) rfl)
      (pss_cons (ps_fld (pv 0) (pv 4) rfl)
      (pss_one (ps_fld (pv 0) (pe_callTy (kTup1 (K := K) rfl) (by rfl) T.b_tuple (by decide +kernel) (pa_cons (pv 5) pa_nil)) rfl))))))))))), ?_⟩
    walk_at "start"
    walk_at "v"
    refine ⟨.str n, rfl, ⟨_, .str n, rfl⟩, fun w e => by cases e; exact pt.n2, fun H1 s1 => ?_⟩
    rw [show nameV (.str n) = true from pt.n1]
    walk_at "v"
    refine ⟨_, rfl, ?_⟩
    walk_at "v"
    refine ⟨_, _, _, rfl, seq2_same s1 hp, fun H2 s2 => ?_⟩
    rw [List.length_map, decide_eq_true (by omega)]
    walk_at "v"
    have s12 := s1.trans s2
    refine ⟨_, ks.map .str, rfl, seq2_same s12 hp, (strs_ok pt.k1).1, by rw [List.length_map]; omega, fun H3 s3 => ?_⟩
    rw [(strs_ok pt.k1).2]
    have s13 := s12.trans s3
    walk_at "v"
    refine ⟨_, rfl, ?_⟩
    walk_at "v"
    refine ⟨_, rfl, ⟨_, .str t, rfl⟩, fun w e => by cases e; exact pt.t2, fun H4 s4 => ?_⟩
    rw [show typeV (.str t) = true from pt.t1]
    have s14 := s13.trans s4
    walk_at "v"
    refine ⟨_, rfl, ?_⟩
    walk_at "v"
    refine v_len2 (seq2_same s14 hp) ?_
    rw [List.length_map]
    walk_at "v"
    refine ⟨_, .int size, _, _, rfl, rfl, ?_⟩
    rw [show numD (1 + (ks.length : Int)) 10 (.int size) = true by
      show (decide _ && decide _) = true
      rw [decide_eq_true pt.z1, decide_eq_true pt.z2]; rfl]
    walk_at "v"
    refine ⟨_, rfl, ?_⟩
    walk_at "v"
    refine ⟨_, l, size, rfl, seq2_same s14 hc, pt.c1, by omega, fun H5 s5 => ?_⟩
    have s15 := s14.trans s5
    rw [decide_eq_true hl0, decide_eq_true hl1, hall]
    walk_at "v"
    refine ⟨_, rfl, ?_⟩
    have hx5 := s15 _ _ hx
    have hp5 := seq2_same s15 hp
    have hc5 := seq2_same s15 hc
    have fr : ∀ b o, H b = some o → b ≠ x → H5 b = some o := fun b o e _ => s15 _ _ e
    clear s1 s2 s3 s4 s5 s12 s13 s14
    walk_at "v"
    refine v_fld ?_
    walk_at "v"
    refine ⟨x, C, dx, _, rfl, hx5, M.cls, M.n_name, by decide, ?_⟩
    walk_at "v"
    refine v_fld ?_
    walk_at "v"
    have hp6 := seq2_same (off_upd' (o := .ins C dx (putF ("_name" : Str) (V.str n) []))) (hp5.imp (rep_offI hx5) (rep_offI hx5))
    have hc6 := seq2_same (off_upd' (o := .ins C dx (putF ("_name" : Str) (V.str n) []))) (hc5.imp (rep_offI hx5) (rep_offI hx5))
    have hx6 : upd H5 x (.ins C dx (putF ("_name" : Str) (V.str n) [])) x = some (.ins C dx (putF ("_name" : Str) (V.str n) [])) := upd_same
    have fr6 : ∀ b o, H b = some o → b ≠ x → upd H5 x (.ins C dx (putF ("_name" : Str) (V.str n) [])) b = some o := fun b o e ne => by rw [upd_ne ne]; exact fr b o e ne
    generalize upd H5 x (.ins C dx (putF ("_name" : Str) (V.str n) [])) = G6 at *
    refine v_tup2 hp6 fun pp G7 ps s7 sq7 r7 => ?_
    cases repL_strs' r7
    have hx7 := s7 _ _ hx6
    have hc7 := seq2_same s7 hc6
    walk_at "v"
    refine ⟨x, C, dx, _, rfl, hx7, M.cls, M.n_params, by show (1 : Nat) < 1000; decide, ?_⟩
    walk_at "v"
    refine v_fld ?_
    walk_at "v"
    refine ⟨x, C, dx, _, rfl, upd_same, M.cls, M.n_result, by show (2 : Nat) < 1000; decide, ?_⟩
    rw [upd_upd]
    walk_at "v"
    refine v_fld ?_
    walk_at "v"
    refine ⟨x, C, dx, _, rfl, upd_same, M.cls, M.n_size, by show (3 : Nat) < 1000; decide, ?_⟩
    rw [upd_upd]
    walk_at "v"
    dsimp only
    refine v_fld ?_
    walk_at "v"
    have hc8 := seq2_same (off_upd' (o := .ins C dx (putF ("_size" : Str) (V.int size) (putF ("_result" : Str) (V.str t) (putF ("_params" : Str) (V.ref pp) (putF ("_name" : Str) (V.str n) [])))))) (hc7.imp (rep_offI hx7) (rep_offI hx7))
    have sq8 := sqT_sm (off_upd' (o := .ins C dx (putF ("_size" : Str) (V.int size) (putF ("_result" : Str) (V.str t) (putF ("_params" : Str) (V.ref pp) (putF ("_name" : Str) (V.str n) [])))))) (sqT_offI sq7 hx7)
    have fr8 : ∀ b o, H b = some o → b ≠ x → upd G7 x (.ins C dx (putF ("_size" : Str) (V.int size) (putF ("_result" : Str) (V.str t) (putF ("_params" : Str) (V.ref pp) (putF ("_name" : Str) (V.str n) []))))) b = some o := fun b o e ne => by rw [upd_ne ne]; exact s7 _ _ (fr6 b o e ne)
    have hx8 : upd G7 x (.ins C dx (putF ("_size" : Str) (V.int size) (putF ("_result" : Str) (V.str t) (putF ("_params" : Str) (V.ref pp) (putF ("_name" : Str) (V.str n) []))))) x = some (.ins C dx (putF ("_size" : Str) (V.int size) (putF ("_result" : Str) (V.str t) (putF ("_params" : Str) (V.ref pp) (putF ("_name" : Str) (V.str n) []))))) := upd_same
    generalize upd G7 x (.ins C dx (putF ("_size" : Str) (V.int size) (putF ("_result" : Str) (V.str t) (putF ("_params" : Str) (V.ref pp) (putF ("_name" : Str) (V.str n) []))))) = G8 at *
    refine v_tup2 hc8 fun pc G9 xs s9 sq9 r9 => ?_
    have hx9 := s9 _ _ hx8
    walk_at "v"
    refine ⟨x, C, dx, _, rfl, hx9, M.cls, M.n_code, by show (4 : Nat) < 1000; decide, ?_⟩
    refine q _ (fun b o e ne => ?_) ⟨dx, pp, pc, _, xs, upd_same, rfl, rfl, rfl, rfl, rfl, sqT_sm off_upd' (sqT_offI (sqT_sm s9 sq8) hx9), sqT_sm off_upd' (sqT_offI sq9 hx9), (repL_offI hx9 r9).same off_upd'⟩
    rw [upd_ne ne]
    exact s9 _ _ (fr8 b o e ne)
end K03

open PySem PySem.Spec PyProof.Rows L2 Kit
namespace Kit
/-- a class of the top whose instances isinstance asks -/
structure ClsI (K : PySem.W.Frag) (C : Addr) : Prop where
  cl : Cls K C
  ha : PySem.W.findIn K (.ref C) "__class__" = some (some (.builtin "object.__class__"))
  hn : PySem.W.specialIn K (.builtin "object.__class__") "__get__" = some (some (.builtin "getset_descriptor.__get__"))
  htk : PySem.W.takesIn K (.builtin "object.__class__") = some true
  hm : PySem.W.mroIn K C (.type "object") = some true
theorem ClsI.ty {K : PySem.W.Frag} {H : Hp} {C a dx : Addr} {fs : List (Str × V)} (c : ClsI K C) (e : H a = some (.ins C dx fs)) : TyX K H (.ref a) (.ref C) := .base (.ins e c.cl c.ha c.hn c.htk c.hm)
theorem kit_self {K : PySem.W.Frag} {t : Value} : PySem.W.kitOne K t t = some true := by
  unfold PySem.W.kitOne
  rw [if_pos (by simp)]
/-- the text's own == of the class at C, ready to be called -/
structure EqCal (P : Program) (w : World) (K : PySem.W.Frag) (mg : Str → Option Value) (base : Heap) (k : Nat) (C : Addr) (sp : Sp) : Prop where
  ex : ∃ (f : Addr) (fd : FuncData), PySem.W.findIn K (.ref C) "__eq__" = some (some (.ref f)) ∧ PySem.W.isFn K (.ref f) = true ∧ FnOk P w K mg base CX0 k f fd ["self", "other"] sp ∧ Binds K fd ["self", "other"] []
def rOwn (K : PySem.W.Frag) (C : Addr) (sp : Sp) : R2 := fun x y H Q => ∃ (a dx : Addr) (fs : List (Str × V)) (t : Value), x = .ref a ∧ H a = some (.ins C dx fs) ∧ TyX K H y t ∧ PySem.W.notFirst K C t = true ∧ sp [x, y] H (fun v H' => (∃ c, v = .bl c) ∧ Q v H') E0
theorem op_own {X : Cx} {C : Addr} {k j : Nat} {sp : Sp} (E : EqCal X.prog X.w X.K X.mg X.base k C sp) (hr : Room j X.A) (hk : k ≤ j) : OpR X (compareOp .Eq) (rOwn X.K C sp) := by
  intro pins s σ H x y v u Q I rx ry h
  obtain ⟨a, dx, fs, t, rfl, ea, ty, nf, q⟩ := h
  obtain ⟨f, fd, hs, hf, F, hb⟩ := E.ex
  cases (show v = Value.ref a from rx)
  obtain ⟨P, Z, p, _⟩ := kit_of I ry ty
  obtain ⟨mA, J, _⟩ := ins_get I.hok ea
  obtain ⟨od, J, _⟩ := J.look
  obtain ⟨m, hF⟩ := I.fr
  show wpAny (model X.prog X.w) X.A (richCompare .Eq (.ref a) u) (EP X pins σ Q) X.xe s
  refine PySem.W.cmp_K (op := .Eq) (tb := t) (hr.mono hk).units0 hF I.ok.mod.kin J (Z.ty _ _ I.kIn p) nf hs hf ?_
  have r2 : Vals [V.ref a, y] [Value.ref a, u] := .cons rfl (.cons ry .nil)
  have bnd := hb s [.ref a, u] I.kIn rfl
  rw [List.append_nil] at bnd
  refine wpAny_call (codeAny_mono (F.run X.A X.stack s H ⟨[.ref a, u], []⟩ [.ref a, u] [.ref a, y] _ E0 (hr.mono hk) I.env0 bnd r2 q) fun r s' hq => ?_)
  cases r with
  | error e => exact False.elim hq
  | ok fl =>
    cases fl with
    | ret w =>
      obtain ⟨z, H', I', rz, ⟨c, ez⟩, q'⟩ := I.after hq
      subst ez
      cases (show w = Value.bool c from rz)
      exact ⟨.bl c, H', I', rfl, q'⟩
    | next => exact False.elim hq
    | brk => exact False.elim hq
    | cont => exact False.elim hq
end Kit
namespace K03
open K02
local macro_rules | `(tactic| walk_at "ne") => `(tactic| first
  | assumption
  | (apply Ne.symm; assumption)
  | exact ne_of_none (by assumption) (by assumption)
  | exact (ne_of_none (by assumption) (by assumption)).symm
  | (refine ne_of_none (H := ?H0) (o := ?oo) ?hs ?hn; (case hn => assumption); (case hs => walk_at "hp"))
  | (refine (ne_of_none (H := ?H0) (o := ?oo) ?hs ?hn).symm; (case hn => assumption); (case hs => walk_at "hp"))
  | (refine Src.ne (H := ?H0) ?hs ?hn; (case hn => assumption); (case hs => walk_at "src"))
  | (refine (Src.ne (H := ?H0) ?hs ?hn).symm; (case hn => assumption); (case hs => walk_at "src"))
  | fail "no rule")
local macro_rules | `(tactic| walk_at "hp") => `(tactic| first
  | assumption
  | exact upd_same
  | (refine (upd_ne ?hne).trans ?hrest; (case hne => walk_at "ne"); (case hrest => walk_at "hp"))
  | (refine same_at (H := ?H0) ?hs ?hrest; (case hs => assumption); (case hrest => walk_at "hp"))
  | (refine dr_at (H := ?H0) (a := ?a0) ?hs ?hne ?hrest; (case hs => assumption); (case hne => walk_at "ne"); (case hrest => walk_at "hp"))
  | fail "no rule")
local macro_rules | `(tactic| walk_at "sq") => `(tactic| first
  | assumption
  | exact Or.inl (Or.inl (by walk_at "hp"))
  | (refine sq_upd ?hnn ?hss; (case hnn => assumption); (case hss => walk_at "sq"))
  | (refine Same.seq (H := ?H0) ?hs ?hrest; (case hs => assumption); (case hrest => walk_at "sq"))
  | (refine sq_dr (H := ?H0) (a := ?a0) ?hs ?hne ?hrest; (case hs => assumption); (case hne => walk_at "ne"); (case hrest => walk_at "sq"))
  | fail "no rule")
local macro_rules | `(tactic| walk_at "sm") => `(tactic| first
  | assumption
  | exact Same.refl _
  | (refine same_new ?hnn; (case hnn => assumption))
  | (refine same_push ?hs ?hnn; (case hnn => assumption); (case hs => walk_at "sm"))
  | (refine same_mut ?hs ?hnn; (case hs => walk_at "sm"); (case hnn => walk_at "fr"))
  | (refine Same.trans (H1 := ?H1) ?hs ?hq; (case hq => assumption); (case hs => walk_at "sm"))
  | fail "no rule")
local macro_rules | `(tactic| walk_at "fr") => `(tactic| first
  | assumption
  | (refine Same.free (H' := ?H1) ?hs ?hq; (case hq => assumption); (case hs => walk_at "sm"))
  | fail "no rule")
local macro_rules | `(tactic| walk_at "src") => `(tactic| first
  | assumption
  | exact Dr.src (by assumption)
  | (refine Src.same (H := ?H0) ?hs ?hm; (case hm => assumption); (case hs => walk_at "src"))
  | (refine Src.upd ?hs ?hn; (case hs => walk_at "src"); (case hn => walk_at "ne"))
  | fail "no rule")
local macro_rules | `(tactic| walk_at "fd") => `(tactic| first
  | assumption
  | (refine Same.free (H' := ?H1) ?hs ?hq; (case hq => assumption); (case hs => walk_at "sm"))
  | (refine Dr.free (H' := ?H1) ?h0 ?hs ?hq; (case hq => assumption); (case hs => walk_at "dr"); (case h0 => walk_at "src"))
  | fail "no rule")
local macro_rules | `(tactic| walk_at "dr") => `(tactic| first
  | assumption
  | (refine Dr.trans (H' := ?H1) ?hs ?hq; (case hq => assumption); (case hs => walk_at "dr"))
  | (refine Dr.mut ?hs ?h0 ?hn; (case hs => walk_at "dr"); (case h0 => walk_at "src"); (case hn => walk_at "fd"))
  | (refine Dr.trans (H' := ?H1) ?hs (Dr.same ?h0 ?hq); (case hq => assumption); (case h0 => walk_at "src"); (case hs => walk_at "dr"))
  | (refine Dr.refl ?hs; (case hs => walk_at "src"))
  | fail "no rule")
local macro_rules | `(tactic| walk_at "sz") => `(tactic| first
  | omega
  | (refine Nat.le_trans ?_ (show (1000 : Nat) ≤ sizeLine by decide); first | decide | omega | (simp; done) | (simp; omega) | fail)
  | fail "no rule")
local macro_rules | `(tactic| walk_at "v1") => `(tactic| first
  | with_reducible refine v_seq ?_
  | with_reducible refine v_asg ?_
  | with_reducible refine v_gname ?_
  | with_reducible refine v_c ?_
  | ((with_reducible refine v_var (v := ?vv) ?hv ?_); (case hv => exact rfl))
  | with_reducible refine v_op ?_
  | with_reducible refine v_un ?_
  | with_reducible refine v_I0 ?_
  | with_reducible refine v_U ?_
  | with_reducible refine v_addI ?_
  | with_reducible refine v_ltI ?_
  | with_reducible refine v_leI ?_
  | with_reducible refine v_gtI ?_
  | with_reducible refine v_geI ?_
  | with_reducible refine v_leS ?_
  | with_reducible refine v_ltS ?_
  | with_reducible refine v_eqI ?_
  | with_reducible refine v_neI ?_
  | with_reducible refine v_eqS ?_
  | with_reducible refine v_neS ?_
  | with_reducible refine v_eqB ?_
  | ((with_reducible refine v_eqTy ?h1 ?h2 ?_); (case h1 => walk_at "bt"); (case h2 => walk_at "bt"))
  | ((with_reducible refine v_neTy ?h1 ?h2 ?_); (case h1 => walk_at "bt"); (case h2 => walk_at "bt"))
  | with_reducible refine v_test ?_
  | with_reducible refine v_B ?_
  | with_reducible refine v_isbl ?_
  | with_reducible refine v_and ?_
  | with_reducible refine v_or ?_
  | with_reducible refine v_not ?_
  | with_reducible refine v_andV ?_
  | with_reducible refine v_orV ?_
  | with_reducible refine v_notV ?_
  | with_reducible refine v_if ?_
  | with_reducible refine v_chain ?_
  | with_reducible refine v_nil ?_
  | with_reducible refine v_cons ?_
  | with_reducible refine v_cb ?_
  | with_reducible refine v_call ?_
  | with_reducible refine v_max ?_
  | ((with_reducible refine v_draw ?hs ?hm ?_); (case hs => walk_at "src"); (case hm => omega))
  | with_reducible refine v_min ?_
  | with_reducible refine v_intI ?_
  | with_reducible refine v_intB ?_
  | with_reducible refine v_m1 ?_
  | with_reducible refine v_isstr ?_
  | with_reducible refine v_sl ?_
  | with_reducible refine v_ss ?_
  | with_reducible refine v_disp1 ?_
  | with_reducible refine v_s0 ?_
  | with_reducible refine v_nopart ?_
  | with_reducible refine v_part ?_
  | with_reducible refine v_partI ?_
  | with_reducible refine v_next ?_
  | with_reducible refine v_gsub ?_
  | with_reducible refine v_ifS ?_
  | with_reducible refine v_ret ?_
  | with_reducible refine v_drop ?_
  | ((with_reducible refine v_iteTrue ?hb ?_); (case hb => walk_at "bt"))
  | ((with_reducible refine v_iteFalse ?hb ?_); (case hb => walk_at "bt"))
  | with_reducible refine v_iteD ?_ ?_
  | with_reducible refine v_iteNot ?_
  | with_reducible refine v_lc ?_
  | with_reducible refine v_iStr ?_
  | with_reducible refine v_isS ?_
  | with_reducible refine v_iRng1 ?_
  | ((with_reducible refine v_rng1 ?hb ?_); (case hb => omega))
  | with_reducible refine v_iList ?_
  | with_reducible refine v_iSeq ?_
  | ((with_reducible refine v_isL (xs := ?xx) ?hsq ?_); (case hsq => walk_at "sq"))
  | with_reducible refine v_for ?_
  | with_reducible refine v_yes ?_
  | ((with_reducible refine v_nand ?hw ?_); (case hw => first | exact rfl | walk_at "sz" | fail))
  | ((with_reducible refine v_typ (T := ?TT) ?ht ?_); (case ht => walk_at "ty"))
  | ((with_reducible refine v_isiK (T := ?TT) ?ht ?h1 ?h2 ?_); (case ht => walk_at "ty"); (case h1 => walk_at "bt"); (case h2 => exact rfl))
  | with_reducible refine iteT ?_
  | with_reducible refine iteF ?_
  | with_reducible refine v_tup ?_
  | with_reducible refine v_lst ?_
  | ((with_reducible refine v_ixL (xs := ?xx) (v := ?vv) ?hsq ?hat ?_); (case hsq => walk_at "sq"); (case hat => exact rfl))
  | ((with_reducible refine v_lenL (xs := ?xx) ?hsq ?_); (case hsq => walk_at "sq"))
  | ((with_reducible refine v_setL (xs := ?xx) (j := ?jj) ?hh ?hj ?_); (case hh => walk_at "hp"); (case hj => exact rfl))
  | ((with_reducible refine v_I ?hc ?_); (case hc => walk_at "ic"))
  | ((with_reducible refine v_lenS ?hz ?_); (case hz => walk_at "sz"))
  | ((with_reducible refine v_slS ?hz ?_); (case hz => walk_at "sz"))
  | ((with_reducible refine v_addS ?hz ?_); (case hz => walk_at "sz"))
  | ((with_reducible refine v_ixS (c := ?cc) ?hz ?hat ?_); (case hz => walk_at "sz"); (case hat => exact rfl))
  | ((with_reducible refine v_addL (xs := ?xx) (ys := ?yy) ?h1 ?h2 ?hz ?_); (case h1 => walk_at "hp"); (case h2 => walk_at "hp"); (case hz => walk_at "sz"))
  | ((with_reducible refine v_ixT (xs := ?xx) (v := ?vv) ?hsq ?hat ?_); (case hsq => walk_at "sq"); (case hat => exact rfl))
  | ((with_reducible refine v_lenT (xs := ?xx) ?hsq ?_); (case hsq => walk_at "sq"))
  | ((with_reducible refine v_eq ?hs ?_); (case hs => exact rfl))
  | ((with_reducible refine v_ne ?hs ?_); (case hs => exact rfl))
  | (with_reducible intro _)
  | fail "no rule")
local macro_rules | `(tactic| walk_at "ic") => `(tactic| first
  | (show (0 : Int) < _; first | decide | omega | fail)
  | (show CMul _ _; unfold CMul; omega)
  | (show CDiv _ _; unfold CDiv; omega)
  | (show CPow _ _; unfold CPow; exact ⟨by decide, by decide, by decide⟩)
  | fail "no rule")
local macro_rules | `(tactic| walk_at "bt") => `(tactic| first
  | exact rfl
  | assumption
  | decide +kernel
  | (simp; done)
  | fail "no rule")
local macro_rules | `(tactic| walk_at "ty") => `(tactic| first
  | assumption
  | exact .non
  | exact .bl _
  | exact .int _
  | exact .str _
  | exact .lst (by walk_at "sq")
  | exact .tup (by walk_at "sq")
  | exact .dK (by walk_at "hp")
  | fail "no rule")
local macro_rules | `(tactic| walk_at "v") => `(tactic| try (walk_at "v1" <;> walk_at "v"))
local macro_rules | `(tactic| walk_at "start") => `(tactic| dsimp only [L2.start, cxOf, Cx.nox, Cx.wish, List.map, List.replicate, List.length, List.append, Nat.reduceSub, Nat.reduceAdd, List.cons_append, List.nil_append])

variable {P : Program} {w : World} {K : PySem.W.Frag} {mg : Str → Option Value} {base : Heap}
variable {aF : Addr} {es : Array DictEntry} {nF : Nat} {C fI CE : Addr}
structure Txt3 (K : PySem.W.Frag) (w : World) (mg : Str → Option Value) (aF : Addr) (es : Array DictEntry) (nF : Nat) (C cE : Addr) : Prop extends K02.Txt K w mg aF es nF where
  g_Method : GlobV mg "Method" (.ref C)
  g_ClassError : GlobV mg "ClassError" (.ref cE)
variable {cE : Addr}
theorem v_fldG {σ : L2.St} {H : Hp} {Q : VK} {ta : TE} {f : Str} (k : ta σ H fun x H1 => ∃ a C dx fs v, x = .ref a ∧ H1 a = some (.ins C dx fs) ∧ Cls K C ∧ NoAttr K C f ∧ fs.lookup f = some v ∧ Q v H1) : tFld K ta f σ H Q := k
local macro_rules | `(tactic| walk_at "v1") => `(tactic| first
  | with_reducible refine v_fldG ?_
  | fail "no rule")
/-! ### Method.__eq__ -/
def sameM (n : Str) (ks : List Str) (t : Str) (size : Int) (l : List Dat) (n' : Str) (ks' : List Str) (t' : Str) (size' : Int) (l' : List Dat) : Bool :=
  decide (n = n') && (PyData.eqv (.tuple (ks.map .str)) (.tuple (ks'.map .str)) && (decide (t = t') && (decide (size = size') && PyData.eqv (.tuple (toPL l)) (.tuple (toPL l')))))
def spEqM (K : PySem.W.Frag) (C : Addr) : Sp := fun vs H Q _ => ∃ (a : Addr) (y : V) (n : Str) (ks : List Str) (t : Str) (size : Int) (l : List Dat), vs = [.ref a, y] ∧ MethAt K C H a n ks t size l ∧
  ((∃ (b : Addr) (n' : Str) (ks' : List Str) (t' : Str) (size' : Int) (l' : List Dat), y = .ref b ∧ MethAt K C H b n' ks' t' size' l' ∧ Parts n ks t size l ∧ Parts n' ks' t' size' l' ∧ (∀ d ∈ l, shapeD d) ∧ (∀ d ∈ l', shapeD d) ∧ Q (.bl (sameM n ks t size l n' ks' t' size' l')) H) ∨
    ∃ u, TyX K H y u ∧ PySem.W.kitOne K u (.ref C) = some false ∧ Q (.bl false) H)
theorem strs_dp {H : Hp} {p : Addr} {ks : List Str} (h : SqT K H p (ks.map V.str)) : Dp K H (.ref p) (.tuple (ks.map .str)) := by
  refine .tup h ?_
  have go : ∀ l : List Str, DpAll K H (l.map V.str) (l.map PyData.str) := fun l => by
    induction l with
    | nil => exact .nil
    | cons t l ih => exact .cons (.str _) ih
  exact go _
theorem code_shaped {l : List Dat} (h : okL l) (hd : PyData.depthAll (toPL l) ≤ 2) : SeqAt.shaped (.tuple (toPL l)) = true := by
  unfold SeqAt.shaped
  rw [Bool.and_eq_true, decide_eq_true_iff]
  refine ⟨layL_ok h, ?_⟩
  show PyData.depthAll (toPL l) + 1 ≤ 64
  omega
theorem toPL_strs : ∀ ks : List Str, toPL (ks.map .str) = ks.map PyData.str
  | [] => rfl
  | k :: ks => by
    show toP (.str k) :: toPL (ks.map .str) = _
    rw [toPL_strs ks]
    rfl
theorem strs_shaped {ks : List Str} (h : ∀ k ∈ ks, tpD (.str k) = true ∧ okS k) : SeqAt.shaped (.tuple (ks.map PyData.str)) = true := by
  rw [← toPL_strs]
  refine code_shaped (strs_ok h).1 ?_
  rw [(flats_noD (l := ks.map .str) (List.all_eq_true.mpr fun d hd => by obtain ⟨k, _, rfl⟩ := List.mem_map.mp hd; rfl)).2]
  decide
theorem ok_eqM {f : Addr} {fd : FuncData} (F : Fun K "__eq__" "Method.__eq__" s_Method___eq__ f fd) (T : Txt3 K w mg aF es nF C cE) (I : ClsI K C) (M : MethC K C fI) : FnOk P w K mg base CX0 1 f fd ["self", "other"] (spEqM K C) := by
  refine F.ok sc_Method___eq__ (fun vs H Q E h => ?_) (fun cdv A outer s H vs Q E hr h => ?_)
  · obtain ⟨a, y, n, ks, t, size, l, rfl, _⟩ := h
    rfl
  · obtain ⟨a, y, n, ks, t, size, l, rfl, ma, q⟩ := h
    refine ⟨_, (pss_one (ps_ret (pe_and (pe_callB (kIsi (K := K) rfl) (by rfl) T.b_isinstance (by decide +kernel) (pa_cons (pv 1) (pa_cons (pglob (by rfl) T.g_Method) pa_nil))) (pe_and (pe_cmpR (kEq (K := K) rfl hr.units) (pe_fld (pv 0) rfl) (pe_fld (pv 1) rfl) (nomark _)) (pe_and (pe_cmpR (kEq (K := K) rfl hr.units) (pe_fld (pv 0) rfl) (pe_fld (pv 1) rfl) (nomark _)) (pe_and (pe_cmpR (kEq (K := K) rfl hr.units) (pe_fld (pv 0) rfl) (pe_fld (pv 1) rfl) (nomark _)) (pe_and (pe_cmpR (kEq (K := K) rfl hr.units) (pe_fld (pv 0) rfl) (pe_fld (pv 1) rfl) (nomark _)) (pe_one (pe_cmpR (kEq (K := K) rfl hr.units) (pe_fld (pv 0) rfl) (pe_fld (pv 1) rfl) (nomark _)))))))))), ?_⟩
    walk_at "start"
    walk_at "v"
    rcases q with ⟨b, n', ks', t', size', l', rfl, mb, pa, pb, sh, sh', q⟩ | ⟨u, ty, kt, q⟩
    · obtain ⟨dx, pp, pc, fs, xs, h1, h2, h3, h4, h5, h6, h7, h8, h9⟩ := ma.ex
      obtain ⟨dx', pp', pc', fs', xs', g1, g2, g3, g4, g5, g6, g7, g8, g9⟩ := mb.ex
      have i1 : ∀ d ∈ l, instrD size l.length d = true ∧ shapeD d := fun d hd => ⟨List.all_eq_true.mp pa.c3.2.2 d hd, sh d hd⟩
      have i2 : ∀ d ∈ l', instrD size' l'.length d = true ∧ shapeD d := fun d hd => ⟨List.all_eq_true.mp pb.c3.2.2 d hd, sh' d hd⟩
      obtain ⟨n1, m1⟩ := instrs_plain i1
      obtain ⟨n2, m2⟩ := instrs_plain i2
      have qf : ∀ c, sameM n ks t size l n' ks' t' size' l' = c → Q (.bl c) H := fun c e => e ▸ q
      refine ⟨_, _, .ref C, _, true, rfl, .own C, I.ty g1, kit_self, ?_⟩
      walk_at "v"
      refine ⟨a, C, dx, fs, _, rfl, h1, I.cl, M.n_name, h2, ?_⟩
      walk_at "v"
      refine ⟨b, C, dx', fs', _, rfl, g1, I.cl, M.n_name, g2, ?_⟩
      refine v_eqS ?_
      cases e1 : decide (n = n') with
      | false =>
        walk_at "v"
        exact qf _ (by simp only [sameM, e1, Bool.false_and, Bool.true_and])
      | true =>
      walk_at "v"
      refine ⟨a, C, dx, fs, _, rfl, h1, I.cl, M.n_params, h3, ?_⟩
      walk_at "v"
      refine ⟨b, C, dx', fs', _, rfl, g1, I.cl, M.n_params, g3, ?_⟩
      refine v_eqD (strs_dp h7) (strs_dp g7) (strs_shaped pa.k1) (strs_shaped pb.k1) ?_
      cases e2 : PyData.eqv (.tuple (ks.map .str)) (.tuple (ks'.map .str)) with
      | false =>
        walk_at "v"
        exact qf _ (by simp only [sameM, e1, e2, Bool.false_and, Bool.true_and])
      | true =>
      walk_at "v"
      refine ⟨a, C, dx, fs, _, rfl, h1, I.cl, M.n_result, h4, ?_⟩
      walk_at "v"
      refine ⟨b, C, dx', fs', _, rfl, g1, I.cl, M.n_result, g4, ?_⟩
      refine v_eqS ?_
      cases e3 : decide (t = t') with
      | false =>
        walk_at "v"
        exact qf _ (by simp only [sameM, e1, e2, e3, Bool.false_and, Bool.true_and])
      | true =>
      walk_at "v"
      refine ⟨a, C, dx, fs, _, rfl, h1, I.cl, M.n_size, h5, ?_⟩
      walk_at "v"
      refine ⟨b, C, dx', fs', _, rfl, g1, I.cl, M.n_size, g5, ?_⟩
      refine v_eqI ?_
      cases e4 : decide (size = size') with
      | false =>
        walk_at "v"
        exact qf _ (by simp only [sameM, e1, e2, e3, e4, Bool.false_and, Bool.true_and])
      | true =>
      walk_at "v"
      refine ⟨a, C, dx, fs, _, rfl, h1, I.cl, M.n_code, h6, ?_⟩
      walk_at "v"
      refine ⟨b, C, dx', fs', _, rfl, g1, I.cl, M.n_code, g6, ?_⟩
      refine v_eqD (.tup h8 (repL_dp n1 h9)) (.tup g8 (repL_dp n2 g9)) (code_shaped pa.c1 m1) (code_shaped pb.c1 m2) ?_
      exact qf _ (by simp only [sameM, e1, e2, e3, e4, Bool.true_and])
    · refine ⟨_, _, u, _, false, rfl, .own C, ty, kt, ?_⟩
      walk_at "v"
      exact q
end K03

namespace K03
open PySem PySem.Spec PyProof.Rows L2 Kit K02
local macro_rules | `(tactic| walk_at "ne") => `(tactic| first
  | assumption
  | (apply Ne.symm; assumption)
  | exact ne_of_none (by assumption) (by assumption)
  | exact (ne_of_none (by assumption) (by assumption)).symm
  | (refine ne_of_none (H := ?H0) (o := ?oo) ?hs ?hn; (case hn => assumption); (case hs => walk_at "hp"))
  | (refine (ne_of_none (H := ?H0) (o := ?oo) ?hs ?hn).symm; (case hn => assumption); (case hs => walk_at "hp"))
  | (refine Src.ne (H := ?H0) ?hs ?hn; (case hn => assumption); (case hs => walk_at "src"))
  | (refine (Src.ne (H := ?H0) ?hs ?hn).symm; (case hn => assumption); (case hs => walk_at "src"))
  | fail "no rule")
local macro_rules | `(tactic| walk_at "hp") => `(tactic| first
  | assumption
  | exact upd_same
  | (refine (upd_ne ?hne).trans ?hrest; (case hne => walk_at "ne"); (case hrest => walk_at "hp"))
  | (refine same_at (H := ?H0) ?hs ?hrest; (case hs => assumption); (case hrest => walk_at "hp"))
  | (refine dr_at (H := ?H0) (a := ?a0) ?hs ?hne ?hrest; (case hs => assumption); (case hne => walk_at "ne"); (case hrest => walk_at "hp"))
  | fail "no rule")
local macro_rules | `(tactic| walk_at "sq") => `(tactic| first
  | assumption
  | exact Or.inl (Or.inl (by walk_at "hp"))
  | (refine sq_upd ?hnn ?hss; (case hnn => assumption); (case hss => walk_at "sq"))
  | (refine Same.seq (H := ?H0) ?hs ?hrest; (case hs => assumption); (case hrest => walk_at "sq"))
  | (refine sq_dr (H := ?H0) (a := ?a0) ?hs ?hne ?hrest; (case hs => assumption); (case hne => walk_at "ne"); (case hrest => walk_at "sq"))
  | fail "no rule")
local macro_rules | `(tactic| walk_at "sm") => `(tactic| first
  | assumption
  | exact Same.refl _
  | (refine same_new ?hnn; (case hnn => assumption))
  | (refine same_push ?hs ?hnn; (case hnn => assumption); (case hs => walk_at "sm"))
  | (refine same_mut ?hs ?hnn; (case hs => walk_at "sm"); (case hnn => walk_at "fr"))
  | (refine Same.trans (H1 := ?H1) ?hs ?hq; (case hq => assumption); (case hs => walk_at "sm"))
  | fail "no rule")
local macro_rules | `(tactic| walk_at "fr") => `(tactic| first
  | assumption
  | (refine Same.free (H' := ?H1) ?hs ?hq; (case hq => assumption); (case hs => walk_at "sm"))
  | fail "no rule")
local macro_rules | `(tactic| walk_at "src") => `(tactic| first
  | assumption
  | exact Dr.src (by assumption)
  | (refine Src.same (H := ?H0) ?hs ?hm; (case hm => assumption); (case hs => walk_at "src"))
  | (refine Src.upd ?hs ?hn; (case hs => walk_at "src"); (case hn => walk_at "ne"))
  | fail "no rule")
local macro_rules | `(tactic| walk_at "fd") => `(tactic| first
  | assumption
  | (refine Same.free (H' := ?H1) ?hs ?hq; (case hq => assumption); (case hs => walk_at "sm"))
  | (refine Dr.free (H' := ?H1) ?h0 ?hs ?hq; (case hq => assumption); (case hs => walk_at "dr"); (case h0 => walk_at "src"))
  | fail "no rule")
local macro_rules | `(tactic| walk_at "dr") => `(tactic| first
  | assumption
  | (refine Dr.trans (H' := ?H1) ?hs ?hq; (case hq => assumption); (case hs => walk_at "dr"))
  | (refine Dr.mut ?hs ?h0 ?hn; (case hs => walk_at "dr"); (case h0 => walk_at "src"); (case hn => walk_at "fd"))
  | (refine Dr.trans (H' := ?H1) ?hs (Dr.same ?h0 ?hq); (case hq => assumption); (case h0 => walk_at "src"); (case hs => walk_at "dr"))
  | (refine Dr.refl ?hs; (case hs => walk_at "src"))
  | fail "no rule")
local macro_rules | `(tactic| walk_at "sz") => `(tactic| first
  | omega
  | (refine Nat.le_trans ?_ (show (1000 : Nat) ≤ sizeLine by decide); first | decide | omega | (simp; done) | (simp; omega) | fail)
  | fail "no rule")
local macro_rules | `(tactic| walk_at "v1") => `(tactic| first
  | with_reducible refine v_seq ?_
  | with_reducible refine v_asg ?_
  | with_reducible refine v_gname ?_
  | with_reducible refine v_c ?_
  | ((with_reducible refine v_var (v := ?vv) ?hv ?_); (case hv => exact rfl))
  | with_reducible refine v_op ?_
  | with_reducible refine v_un ?_
  | with_reducible refine v_I0 ?_
  | with_reducible refine v_U ?_
  | with_reducible refine v_addI ?_
  | with_reducible refine v_ltI ?_
  | with_reducible refine v_leI ?_
  | with_reducible refine v_gtI ?_
  | with_reducible refine v_geI ?_
  | with_reducible refine v_leS ?_
  | with_reducible refine v_ltS ?_
  | with_reducible refine v_eqI ?_
  | with_reducible refine v_neI ?_
  | with_reducible refine v_eqS ?_
  | with_reducible refine v_neS ?_
  | with_reducible refine v_eqB ?_
  | ((with_reducible refine v_eqTy ?h1 ?h2 ?_); (case h1 => walk_at "bt"); (case h2 => walk_at "bt"))
  | ((with_reducible refine v_neTy ?h1 ?h2 ?_); (case h1 => walk_at "bt"); (case h2 => walk_at "bt"))
  | with_reducible refine v_test ?_
  | with_reducible refine v_B ?_
  | with_reducible refine v_isbl ?_
  | with_reducible refine v_and ?_
  | with_reducible refine v_or ?_
  | with_reducible refine v_not ?_
  | with_reducible refine v_andV ?_
  | with_reducible refine v_orV ?_
  | with_reducible refine v_notV ?_
  | with_reducible refine v_if ?_
  | with_reducible refine v_chain ?_
  | with_reducible refine v_nil ?_
  | with_reducible refine v_cons ?_
  | with_reducible refine v_cb ?_
  | with_reducible refine v_call ?_
  | with_reducible refine v_max ?_
  | ((with_reducible refine v_draw ?hs ?hm ?_); (case hs => walk_at "src"); (case hm => omega))
  | with_reducible refine v_min ?_
  | with_reducible refine v_intI ?_
  | with_reducible refine v_intB ?_
  | with_reducible refine v_m1 ?_
  | with_reducible refine v_isstr ?_
  | with_reducible refine v_sl ?_
  | with_reducible refine v_ss ?_
  | with_reducible refine v_disp1 ?_
  | with_reducible refine v_s0 ?_
  | with_reducible refine v_nopart ?_
  | with_reducible refine v_part ?_
  | with_reducible refine v_partI ?_
  | with_reducible refine v_next ?_
  | with_reducible refine v_gsub ?_
  | with_reducible refine v_ifS ?_
  | with_reducible refine v_ret ?_
  | with_reducible refine v_drop ?_
  | ((with_reducible refine v_iteTrue ?hb ?_); (case hb => walk_at "bt"))
  | ((with_reducible refine v_iteFalse ?hb ?_); (case hb => walk_at "bt"))
  | with_reducible refine v_iteD ?_ ?_
  | with_reducible refine v_iteNot ?_
  | with_reducible refine v_lc ?_
  | with_reducible refine v_iStr ?_
  | with_reducible refine v_isS ?_
  | with_reducible refine v_iRng1 ?_
  | ((with_reducible refine v_rng1 ?hb ?_); (case hb => omega))
  | with_reducible refine v_iList ?_
  | with_reducible refine v_iSeq ?_
  | ((with_reducible refine v_isL (xs := ?xx) ?hsq ?_); (case hsq => walk_at "sq"))
  | with_reducible refine v_for ?_
  | with_reducible refine v_yes ?_
  | ((with_reducible refine v_nand ?hw ?_); (case hw => first | exact rfl | walk_at "sz" | fail))
  | ((with_reducible refine v_typ (T := ?TT) ?ht ?_); (case ht => walk_at "ty"))
  | ((with_reducible refine v_isiK (T := ?TT) ?ht ?h1 ?h2 ?_); (case ht => walk_at "ty"); (case h1 => walk_at "bt"); (case h2 => exact rfl))
  | with_reducible refine iteT ?_
  | with_reducible refine iteF ?_
  | with_reducible refine v_tup ?_
  | with_reducible refine v_lst ?_
  | ((with_reducible refine v_ixL (xs := ?xx) (v := ?vv) ?hsq ?hat ?_); (case hsq => walk_at "sq"); (case hat => exact rfl))
  | ((with_reducible refine v_lenL (xs := ?xx) ?hsq ?_); (case hsq => walk_at "sq"))
  | ((with_reducible refine v_setL (xs := ?xx) (j := ?jj) ?hh ?hj ?_); (case hh => walk_at "hp"); (case hj => exact rfl))
  | ((with_reducible refine v_I ?hc ?_); (case hc => walk_at "ic"))
  | ((with_reducible refine v_lenS ?hz ?_); (case hz => walk_at "sz"))
  | ((with_reducible refine v_slS ?hz ?_); (case hz => walk_at "sz"))
  | ((with_reducible refine v_addS ?hz ?_); (case hz => walk_at "sz"))
  | ((with_reducible refine v_ixS (c := ?cc) ?hz ?hat ?_); (case hz => walk_at "sz"); (case hat => exact rfl))
  | ((with_reducible refine v_addL (xs := ?xx) (ys := ?yy) ?h1 ?h2 ?hz ?_); (case h1 => walk_at "hp"); (case h2 => walk_at "hp"); (case hz => walk_at "sz"))
  | ((with_reducible refine v_ixT (xs := ?xx) (v := ?vv) ?hsq ?hat ?_); (case hsq => walk_at "sq"); (case hat => exact rfl))
  | ((with_reducible refine v_lenT (xs := ?xx) ?hsq ?_); (case hsq => walk_at "sq"))
  | ((with_reducible refine v_eq ?hs ?_); (case hs => exact rfl))
  | ((with_reducible refine v_ne ?hs ?_); (case hs => exact rfl))
  | (with_reducible intro _)
  | fail "no rule")
local macro_rules | `(tactic| walk_at "ic") => `(tactic| first
  | (show (0 : Int) < _; first | decide | omega | fail)
  | (show CMul _ _; unfold CMul; omega)
  | (show CDiv _ _; unfold CDiv; omega)
  | (show CPow _ _; unfold CPow; exact ⟨by decide, by decide, by decide⟩)
  | fail "no rule")
local macro_rules | `(tactic| walk_at "bt") => `(tactic| first
  | exact rfl
  | assumption
  | decide +kernel
  | (simp; done)
  | fail "no rule")
local macro_rules | `(tactic| walk_at "ty") => `(tactic| first
  | assumption
  | exact .non
  | exact .bl _
  | exact .int _
  | exact .str _
  | exact .lst (by walk_at "sq")
  | exact .tup (by walk_at "sq")
  | exact .dK (by walk_at "hp")
  | fail "no rule")
local macro_rules | `(tactic| walk_at "v") => `(tactic| try (walk_at "v1" <;> walk_at "v"))
local macro_rules | `(tactic| walk_at "start") => `(tactic| dsimp only [L2.start, cxOf, Cx.nox, Cx.wish, List.map, List.replicate, List.length, List.append, Nat.reduceSub, Nat.reduceAdd, List.cons_append, List.nil_append])

variable {P : Program} {w : World} {K : PySem.W.Frag} {mg : Str → Option Value} {base : Heap}
variable {aF : Addr} {es : Array DictEntry} {nF : Nat}
/-! ### a method drawn -/
theorem ixN_m1 {n : Nat} (h : 0 < n) : ixN n (-1) = some (n - 1) := by
  unfold ixN
  simp
  omega
theorem v_make {σ : L2.St} {H : Hp} {Q : VK} {C : Addr} {sp : Sp} {dvs : List V} {E : XK} {t : TA} (k : t σ H fun vs H1 => ∀ x dx, H1 x = none → H1 dx = none → dx ≠ x → sp (.ref x :: (vs ++ dvs)) (upd (upd H1 dx (.own x)) x (.ins C dx [])) (fun v H2 => v = .non ∧ Q (.ref x) H2) E) : tMake C sp dvs E t σ H Q := k
theorem same_offF {H : Hp} {p : Addr} (h : H p = none) : Same H (off p H) := fun b o e => by rw [off_ne (ne_of_none e h)]; exact e
theorem items_of {H : Hp} {E : Dat → Prop} : ∀ {ys : List V}, (∀ y ∈ ys, ∃ d, Rep K H d y ∧ E d) → ∃ l, RepL K H l ys ∧ (∀ d ∈ l, E d)
  | [], _ => ⟨[], rfl, fun _ h => by cases h⟩
  | y :: ys, h => by
    obtain ⟨l, r, hl⟩ := items_of (ys := ys) fun z hz => h z (List.mem_cons_of_mem _ hz)
    obtain ⟨d, rd, hd⟩ := h y List.mem_cons_self
    refine ⟨d :: l, ⟨y, ys, rfl, rd, r⟩, fun e he => ?_⟩
    rcases List.mem_cons.mp he with rfl | he
    · exact hd
    · exact hl e he
theorem RepL_set {H : Hp} {d : Dat} {y : V} (h : Rep K H d y) : ∀ {l : List Dat} {xs : List V} {j : Nat}, RepL K H l xs → RepL K H (l.set j d) (xs.set j y)
  | [], _, _, r => by cases r; exact rfl
  | c :: l, _, 0, r => by obtain ⟨x, t, rfl, q, r2⟩ := r; exact ⟨y, t, rfl, h, r2⟩
  | c :: l, _, j + 1, r => by obtain ⟨x, t, rfl, q, r2⟩ := r; exact ⟨x, _, rfl, q, RepL_set h r2⟩
def goodI (size len : Int) (d : Dat) : Prop := instrD size len d = true ∧ okD d ∧ shapeD d
def spMethF (K : PySem.W.Frag) (C : Addr) : Sp := fun vs H Q _ => ∃ (a : Addr) (rb : Bool), vs = [.ref a, .bl rb] ∧ Src a H ∧ ∀ x ks t size l H', MethAt K C H' x "m" ks t size l → Parts "m" ks t size l → (∀ d ∈ l, shapeD d) → (∀ k ∈ ks, k ∈ typs) → ks.length ≤ 2 → t ∈ typs → size ≤ 6 → l.length ≤ 12 → Dr a H H' → Q (.ref x) H'
variable {C : Addr}
theorem ok_method {f : Addr} {fd : FuncData} (F : Fun K "_law_method" "_law_method" s_law_method f fd) (T : Txt K w mg aF es nF) (C_law_draw : Cal P w K mg base 1 "_law_draw" ["_law_source_here", "_law_amount"] spDraw) (C_law_pick : Cal P w K mg base 2 "_law_pick" ["_law_source_here", "_law_items"] (spPick K)) (C_law_type : Cal P w K mg base 3 "_law_type" ["_law_source_here"] (spTyp K))
    (C_law_ready : Cal P w K mg base 3 "_law_ready" ["_law_source_here", "_law_size", "_law_given"] (spReady K)) (C_law_made : Cal P w K mg base 5 "_law_made" ["_law_source_here", "_law_size", "_law_length"] (spMade K)) (C_Method : MkCal P w K mg base 7 "Method" C ["self", "name", "params", "result", "size", "code"] (spInitF K C)) :
    FnOk P w K mg base CX0 9 f fd ["_law_source_here", "_law_is_ready"] (spMethF K C) := by
  refine F.ok sc_law_method (fun vs H Q E h => ?_) (fun cdv A outer s H vs Q E hr h => ?_)
  · obtain ⟨a, rb, rfl, _⟩ := h
    rfl
  · obtain ⟨a, rb, rfl, hs, q⟩ := h
    refine ⟨_, (pss_cons (ps_set (i := 2) sc_law_method.nd rfl (by first | exact .inl rfl | exact .inr rfl) (pe_callTy (kTup1 (K := K) rfl) (by rfl) T.b_tuple (by decide +kernel) (pa_cons (pe_lc (own := [("_law_part", 7)]) (by rfl) sc_law_method.nd (pi_range1 (by rfl) T.b_range (pa_cons (pcall C_law_draw hr (by omega) (by rfl) (pa_cons (pv 0) (pa_cons pe_int pa_nil))) pa_nil)) (blkOk_by (N := ["_law_source_here", "_law_is_ready", "_law_params", "_law_size", "_law_first", "_law_length", "_law_code", "_law_part"]) (sc := defScope s_law_method) (by decide +kernel)) (fun _ _ _ _ _ => (pg_name (i := 7) sc_law_method.nd rfl (by first | exact .inl rfl | exact .inr rfl))) (fun _ _ _ _ _ => pts_nil) (fun _ _ _ _ _ => (pcall C_law_type hr (by omega) (by rfl) (pa_cons (pv 0) pa_nil)))) pa_nil)))
      (pss_cons (ps_set (i := 3) sc_law_method.nd rfl (by first | exact .inl rfl | exact .inr rfl) (pe_op (kAdd (K := K) rfl) (pe_op (kAdd (K := K) rfl) pe_int (pe_callB (kLen (K := K) rfl) (by rfl) T.b_len (by decide +kernel) (pa_cons (pv 2) pa_nil))) (pcall C_law_draw hr (by omega) (by rfl) (pa_cons (pv 0) (pa_cons pe_int pa_nil)))))
      (pss_cons (ps_set (i := 4) sc_law_method.nd rfl (by first | exact .inl rfl | exact .inr rfl) (pe_ifExp (pt_val (pv 1)) (pcall C_law_ready hr (by omega) (by rfl) (pa_cons (pv 0) (pa_cons (pv 3) (pa_cons (pe_op (kAdd (K := K) rfl) pe_int (pe_callB (kLen (K := K) rfl) (by rfl) T.b_len (by decide +kernel) (pa_cons (pv 2) pa_nil))) pa_nil)))) (pe_lst pa_nil)))
      (pss_cons (ps_set (i := 5) sc_law_method.nd rfl (by first | exact .inl rfl | exact .inr rfl) (pe_op (kAdd (K := K) rfl) (pe_op (kAdd (K := K) rfl) (pe_callB (kLen (K := K) rfl) (by rfl) T.b_len (by decide +kernel) (pa_cons (pv 4) pa_nil)) pe_int) (pcall C_law_draw hr (by omega) (by rfl) (pa_cons (pv 0) (pa_cons pe_int pa_nil)))))
      (pss_cons (ps_set (i := 6) sc_law_method.nd rfl (by first | exact .inl rfl | exact .inr rfl) (pe_op (kAdd (K := K) rfl) (pv 4) (pe_lc (own := [("_law_part", 7)]) (by rfl) sc_law_method.nd (pi_range1 (by rfl) T.b_range (pa_cons (pe_op op_sub (pv 5) (pe_callB (kLen (K := K) rfl) (by rfl) T.b_len (by decide +kernel) (pa_cons (pv 4) pa_nil))) pa_nil)) (blkOk_by (N := ["_law_source_here", "_law_is_ready", "_law_params", "_law_size", "_law_first", "_law_length", "_law_code", "_law_part"]) (sc := defScope s_law_method) (by decide +kernel)) (fun _ _ _ _ _ => (pg_name (i := 7) sc_law_method.nd rfl (by first | exact .inl rfl | exact .inr rfl))) (fun _ _ _ _ _ => pts_nil) (fun _ _ _ _ _ => (pcall C_law_made hr (by omega) (by rfl) (pa_cons (pv 0) (pa_cons (pv 3) (pa_cons (pv 5) pa_nil))))))))
      (pss_cons (ps_if (PW.pt (pw_and (pt_val (pv 1)) (pw_and1 (pt_cmpR opGtU (pcall C_law_draw hr (by omega) (by rfl) (pa_cons (pv 0) (pa_cons pe_int pa_nil))) pe_int (nomark _))))) (pss_one (ps_asg (pcall C_law_pick hr (by omega) (by rfl) (pa_cons (pv 0) (pa_cons (pe_lst (pa_cons (pe_tup (pa_cons pe_str (pa_cons (pcall C_law_draw hr (by omega) (by rfl) (pa_cons (pv 0) (pa_cons (pv 3) pa_nil))) pa_nil))) (pa_cons (pe_tup (pa_cons pe_str (pa_cons (pcall C_law_draw hr (by omega) (by rfl) (pa_cons (pv 0) (pa_cons (pv 5) pa_nil))) pa_nil))) pa_nil))) pa_nil))) (pg_sub (pv 6) (pe_un un_neg pe_int) set_list))) pss_nil)
      (pss_one (ps_ret (pmake C_Method hr (by omega) (by rfl) (pa_cons pe_str (pa_cons (pv 2) (pa_cons (pcall C_law_type hr (by omega) (by rfl) (pa_cons (pv 0) pa_nil)) (pa_cons (pv 3) (pa_cons (pv 6) pa_nil)))))))))))))), ?_⟩
    cases rb with
    | true =>
      walk_at "start"
      walk_at "v"
      rename_i m H1 hm0 hm1 d1
      refine lc_dr d1.src (walk_upto (lo := 0) (n := m.toNat)) hy_at (fun _ _ => trivial) (fun y => ∃ z : Str, y = .str z ∧ z ∈ typs) (by rw [upto_len]; exact small1000 (by omega)) (fun x H2 R Rn hx d2 hR => ?_) (fun D H2 ys hD d2 e hlen hE => ?_)
      · walk_at "v"
        exact ⟨a, rfl, d2.src, fun z H3 hz d3 => hR _ _ d3 ⟨z, rfl, hz⟩⟩
      · rw [upto_len] at hlen
        obtain ⟨ks, rfl, hks⟩ := strs_of hE
        have hkl : ks.length ≤ 2 := by simp at hlen; omega
        have d12 := d1.trans d2
        walk_at "v"
        refine v_tup1L (sq_lst e) fun pk hpk => ?_
        have nk : pk ≠ a := (d12.src.ne hpk).symm
        have d13 := d12.trans (Dr.new (o := .tup (ks.map V.str)) d12.src hpk)
        have ek : upd H2 pk (.tup (ks.map V.str)) pk = some (.tup (ks.map V.str)) := upd_same
        generalize upd H2 pk (.tup (ks.map V.str)) = H3 at *
        have src3 := d13.src
        clear e hE hlen d1 d2 hD d12 hm0 hm1
        walk_at "v"
        rename_i d H4 hd0 hd1 d4
        have d14 := d13.trans d4
        have ek4 := d4.keep _ _ ek nk
        have hsz : ((ks.map V.str).length : Int) = ks.length := by simp
        rw [hsz]
        refine ⟨a, 1 + ks.length + d, 1 + ks.length, rfl, d14.src, by omega, by omega, by omega, fun pf xs l H5 nf ef hr5 hok hlen d5 => ?_⟩
        generalize hsize : (1 + (ks.length : Int) + d) = size at *
        have d15 := d14.trans d5
        have ek5 := d5.keep _ _ ek4 nk
        have src5 := d15.src
        have hxl : xs.length = l.length := hr5.length
        have hll : l.length ≤ 3 := by omega
        clear d4 d14 d5 ek4 ek src3 d13 hd0 hd1
        walk_at "v"
        rename_i g H6 hg0 hg1 d6
        have d16 := d15.trans d6
        have ek6 := d6.keep _ _ ek5 nk
        have ef6 := d6.keep _ _ ef nf
        have hr6 := hr5.same d6.off
        have src6 := d16.src
        have hlen1 : (xs.length : Int) + 1 + g = (xs.length + 1 + g.toNat : Nat) := by omega
        rw [hlen1]
        generalize hln : xs.length + 1 + g.toNat = ln at *
        have hlnb : ln ≤ 12 := by omega
        clear d6 ek5 ef hr5 src5 d15
        walk_at "v"
        refine lc_drH d16.src (walk_upto (lo := 0) (n := ((ln : Int) - xs.length).toNat)) hy_at (fun _ _ => trivial) (fun H y => ∃ d, Rep K H d y ∧ goodI size ln d) (fun H H' y s' h => by obtain ⟨d, r, g⟩ := h; exact ⟨d, r.same s', g⟩) (by rw [upto_len]; exact small1000 (by omega)) (fun _ D2 v H7 ys2 R Rn hv nD eD d7 hR => ?_) (fun D2 H7 ys hD2 d7 e7 hlen7 hE7 => ?_)
        · walk_at "v"
          refine ⟨a, size, ln, rfl, d7.src, by omega, by omega, by omega, by omega, fun p px pl H8 hsq hrep hi hol hsh hpl d8 => hR _ _ d8 ⟨.tup pl, instr_offL (size := size) (len := ln) ⟨p, px, rfl, hsq, hrep⟩ hi hsh (by rw [off_ne nD]; exact d8.keep _ _ eD nD), hi, ⟨by omega, hol⟩, hsh⟩⟩
        · rw [upto_len] at hlen7
          obtain ⟨l2, hr7, hg7⟩ := items_of hE7
          have d17 := d16.trans d7
          have ek7 := d7.keep _ _ ek6 nk
          have ef7 := d7.keep _ _ ef6 nf
          have hl2 := hr7.length
          refine v_addL ef7 e7 (Nat.le_of_lt (small1000 (by omega))) fun pq hpq => ?_
          have np : pq ≠ a := (d17.src.ne hpq).symm
          have hpH : H pq = none := by
            cases eq : H pq with
            | none => rfl
            | some o => exact absurd (d17.keep _ _ eq np) (by rw [hpq]; simp)
          have d18 := Dr_snoc (o := .lst (xs ++ ys)) d17 hpq
          have ek8 : upd H7 pq (.lst (xs ++ ys)) pk = some (.tup (ks.map V.str)) := by rw [upd_ne (ne_of_none ek7 hpq)]; exact ek7
          have ec8 : upd H7 pq (.lst (xs ++ ys)) pq = some (.lst (xs ++ ys)) := upd_same
          have hr8 : RepL K (off pq (off a (upd H7 pq (.lst (xs ++ ys))))) (l ++ l2) (xs ++ ys) := by
            rw [off_off_upd]
            exact RepL.append ((hr6.same d7.off).same (same_offF (by rw [off_ne np]; exact hpq))) ((hr7.same off_same).same (same_offF (by rw [off_ne np]; exact hpq)))
          have hg8 : ∀ d ∈ l ++ l2, goodI size ln d := by
            intro d hd
            rcases List.mem_append.mp hd with h | h
            · exact ⟨(hok d h).1 ln (by omega), (hok d h).2⟩
            · exact hg7 d h
          have hl8 : (l ++ l2).length = ln := by rw [List.length_append]; omega
          generalize upd H7 pq (.lst (xs ++ ys)) = H8 at *
          generalize xs ++ ys = vs at *
          generalize l ++ l2 = lc at *
          have src8 := d18.src
          clear hr7 hg7 d7 e7 hlen7 hE7 d17 ek7 ef7 hpq hr6 ek6 ef6 src6 d16 hD2 hl2
          walk_at "v"
          · rename_i e1 HA h1 h2 dA h3 e2 HB h4 h5 dB t1 ht1 e3 HC h6 h7 dC t2 ht2 pL hpL
            have DB := dA.trans dB
            have n1 := (DB.src.ne ht1).symm
            have m1 : pq ≠ t1 := ne_of_none (DB.keep _ _ ec8 np) ht1
            have et1 : upd HB t1 (.tup [.str "return", .int e2]) t1 = some (.tup [.str "return", .int e2]) := upd_same
            have D1 := Dr_snoc (o := .tup [.str "return", .int e2]) DB ht1
            generalize upd HB t1 (.tup [.str "return", .int e2]) = HB1 at *
            have DC := D1.trans dC
            have et1C := dC.keep _ _ et1 n1
            have n2 := (DC.src.ne ht2).symm
            have m2 : pq ≠ t2 := ne_of_none (DC.keep _ _ ec8 np) ht2
            have et2 : upd HC t2 (.tup [.str "jump", .int e3]) t2 = some (.tup [.str "jump", .int e3]) := upd_same
            have et1D : upd HC t2 (.tup [.str "jump", .int e3]) t1 = some (.tup [.str "return", .int e2]) := by rw [upd_ne (ne_of_none et1C ht2)]; exact et1C
            have D2' := Dr_snoc (o := .tup [.str "jump", .int e3]) DC ht2
            generalize upd HC t2 (.tup [.str "jump", .int e3]) = HC1 at *
            have nL := (D2'.src.ne hpL).symm
            have eL : upd HC1 pL (.lst [.ref t1, .ref t2]) pL = some (.lst [.ref t1, .ref t2]) := upd_same
            have et1E : upd HC1 pL (.lst [.ref t1, .ref t2]) t1 = some (.tup [.str "return", .int e2]) := by rw [upd_ne (ne_of_none et1D hpL)]; exact et1D
            have et2E : upd HC1 pL (.lst [.ref t1, .ref t2]) t2 = some (.tup [.str "jump", .int e3]) := by rw [upd_ne (ne_of_none et2 hpL)]; exact et2
            have DL := Dr_snoc (o := .lst [.ref t1, .ref t2]) D2' hpL
            generalize upd HC1 pL (.lst [.ref t1, .ref t2]) = HL at *
            refine ⟨a, pL, [.ref t1, .ref t2], rfl, DL.src, nL, sq_lst eL, by simp, by simp, fun y H9 hy d9 => ?_⟩
            have D9 := DL.trans d9
            have ek90 := D9.keep _ _ ek8 nk
            have ec90 := D9.keep _ _ ec8 np
            have hr90 := hr8.same (same_off (a := pq) D9.off)
            obtain ⟨DD, hDD, gDD⟩ : ∃ DD, Rep K (off pq (off a H9)) DD y ∧ goodI size ln DD := by
              have M : Mem size ln e2 e2 e2 e3 "a" "a" := ⟨num_ok h4 (by omega), num_ok h4 (by omega), num_ok h4 (by omega), num_ok h4 (by omega), num_ok h6 (by omega), by decide +kernel, by decide +kernel⟩
              simp only [List.mem_cons, List.not_mem_nil, or_false] at hy
              rcases hy with rfl | rfl
              · exact ⟨.tup [.str "return", .int e2], rep_tup (l := [.str "return", .int e2]) m1.symm (by rw [off_ne n1]; exact d9.keep _ _ et1E n1) (repL_sc rfl), good_return M, ⟨by simp, okB_ok (by decide +kernel), trivial, trivial⟩, sc_shape rfl⟩
              · exact ⟨.tup [.str "jump", .int e3], rep_tup (l := [.str "jump", .int e3]) m2.symm (by rw [off_ne n2]; exact d9.keep _ _ et2E n2) (repL_sc rfl), good_jump M, ⟨by simp, okB_ok (by decide +kernel), trivial, trivial⟩, sc_shape rfl⟩
            have hvl := hr8.length
            walk_at "v"
            refine v_setL (j := vs.length - 1) ec90 (ixN_m1 (by omega)) ?_
            have d19 : Dr a H (upd H9 pq (.lst (vs.set (vs.length - 1) y))) := (d18.trans D9).mut hs hpH
            have ek9 : upd H9 pq (.lst (vs.set (vs.length - 1) y)) pk = some (.tup (ks.map V.str)) := by
              rw [upd_ne (fun e => by rw [e, ec90] at ek90; cases ek90)]; exact ek90
            have ec9 : upd H9 pq (.lst (vs.set (vs.length - 1) y)) pq = some (.lst (vs.set (vs.length - 1) y)) := upd_same
            have hr9 : RepL K (off pq (off a (upd H9 pq (.lst (vs.set (vs.length - 1) y))))) (lc.set (vs.length - 1) DD) (vs.set (vs.length - 1) y) := by
              rw [off_off_upd]
              exact RepL_set hDD hr90
            have hg9 : ∀ d ∈ lc.set (vs.length - 1) DD, goodI size ln d := by
              intro d hd
              rcases List.mem_or_eq_of_mem_set hd with h | rfl
              · exact hg8 d h
              · exact gDD
            have hl9 : (lc.set (vs.length - 1) DD).length = ln := by rw [List.length_set]; exact hl8
            generalize upd H9 pq (.lst (vs.set (vs.length - 1) y)) = H9' at *
            walk_at "v"
            refine v_make ?_
            walk_at "v"
            refine ⟨a, rfl, d19.src, fun t H10 ht dt => ?_⟩
            have d20 := d19.trans dt
            have ek10 := dt.keep _ _ ek9 nk
            have ec10 := dt.keep _ _ ec9 np
            have hr10 := hr9.same (same_off (a := pq) dt.off)
            walk_at "v"
            rename_i x dx hx hdx hne
            have sm : Same H10 (upd (upd H10 dx (.own x)) x (.ins C dx [])) := (same_new hdx).trans (same_new (by rw [upd_ne hne.symm]; exact hx))
            have pts : Parts "m" ks t size (lc.set (vs.length - 1) DD) := ⟨by decide +kernel, okB_ok (by decide +kernel), fun k hk => typs_ok (hks k hk), by omega, (typs_ok ht).1, (typs_ok ht).2, by omega, by omega, okL_of fun d hd => (hg9 d hd).2.1, by
              unfold codeOk
              rw [decide_eq_true (by omega), decide_eq_true (by omega)]
              exact List.all_eq_true.mpr fun d hd => by rw [hl9]; exact (hg9 d hd).1⟩
            refine ⟨x, dx, "m", .ref pk, ks, t, size, .ref pq, _, rfl, upd_same, pts, .inl ⟨pk, _, rfl, .inl (.inl (sm _ _ ek10)), repL_strs ks⟩, .inr ⟨pq, _, rfl, sq_lst (sm _ _ ec10), ((hr10.same off_same).same off_same).same sm⟩, fun H11 fr ma => ⟨rfl, ?_⟩⟩
            have s11 : Same H10 H11 := fun b o e => fr b o (sm b o e) (ne_of_none e hx)
            exact q x ks t size _ H11 ma pts (fun d hd => (hg9 d hd).2.2) hks hkl ht (by omega) (by omega) (d20.trans (Dr.same d20.src s11))
          · rename_i e1 HA h1 h2 dA h3
            have d19 := d18.trans dA
            have ek9 := dA.keep _ _ ek8 nk
            have ec9 := dA.keep _ _ ec8 np
            have hr9 := hr8.same (same_off (a := pq) dA.off)
            have hg9 := hg8
            have hl9 := hl8
            refine v_make ?_
            walk_at "v"
            refine ⟨a, rfl, d19.src, fun t H10 ht dt => ?_⟩
            have d20 := d19.trans dt
            have ek10 := dt.keep _ _ ek9 nk
            have ec10 := dt.keep _ _ ec9 np
            have hr10 := hr9.same (same_off (a := pq) dt.off)
            walk_at "v"
            rename_i x dx hx hdx hne
            have sm : Same H10 (upd (upd H10 dx (.own x)) x (.ins C dx [])) := (same_new hdx).trans (same_new (by rw [upd_ne hne.symm]; exact hx))
            have pts : Parts "m" ks t size lc := ⟨by decide +kernel, okB_ok (by decide +kernel), fun k hk => typs_ok (hks k hk), by omega, (typs_ok ht).1, (typs_ok ht).2, by omega, by omega, okL_of fun d hd => (hg9 d hd).2.1, by
              unfold codeOk
              rw [decide_eq_true (by omega), decide_eq_true (by omega)]
              exact List.all_eq_true.mpr fun d hd => by rw [hl9]; exact (hg9 d hd).1⟩
            refine ⟨x, dx, "m", .ref pk, ks, t, size, .ref pq, _, rfl, upd_same, pts, .inl ⟨pk, _, rfl, .inl (.inl (sm _ _ ek10)), repL_strs ks⟩, .inr ⟨pq, _, rfl, sq_lst (sm _ _ ec10), ((hr10.same off_same).same off_same).same sm⟩, fun H11 fr ma => ⟨rfl, ?_⟩⟩
            have s11 : Same H10 H11 := fun b o e => fr b o (sm b o e) (ne_of_none e hx)
            exact q x ks t size _ H11 ma pts (fun d hd => (hg9 d hd).2.2) hks hkl ht (by omega) (by omega) (d20.trans (Dr.same d20.src s11))
    | false =>
      walk_at "start"
      walk_at "v"
      rename_i m H1 hm0 hm1 d1
      refine lc_dr d1.src (walk_upto (lo := 0) (n := m.toNat)) hy_at (fun _ _ => trivial) (fun y => ∃ z : Str, y = .str z ∧ z ∈ typs) (by rw [upto_len]; exact small1000 (by omega)) (fun x H2 R Rn hx d2 hR => ?_) (fun D H2 ys hD d2 e hlen hE => ?_)
      · walk_at "v"
        exact ⟨a, rfl, d2.src, fun z H3 hz d3 => hR _ _ d3 ⟨z, rfl, hz⟩⟩
      · rw [upto_len] at hlen
        obtain ⟨ks, rfl, hks⟩ := strs_of hE
        have hkl : ks.length ≤ 2 := by simp at hlen; omega
        have d12 := d1.trans d2
        walk_at "v"
        refine v_tup1L (sq_lst e) fun pk hpk => ?_
        have nk : pk ≠ a := (d12.src.ne hpk).symm
        have d13 := d12.trans (Dr.new (o := .tup (ks.map V.str)) d12.src hpk)
        have ek : upd H2 pk (.tup (ks.map V.str)) pk = some (.tup (ks.map V.str)) := upd_same
        generalize upd H2 pk (.tup (ks.map V.str)) = H3 at *
        have src3 := d13.src
        clear e hE hlen d1 d2 hD d12 hm0 hm1
        walk_at "v"
        rename_i d H4 hd0 hd1 d4 pf hpf g H6 hg0 hg1 d6
        have d14 := d13.trans d4
        have ek4 := d4.keep _ _ ek nk
        have nf : pf ≠ a := (d14.src.ne hpf).symm
        have hsz : ((ks.map V.str).length : Int) = ks.length := by simp
        rw [hsz]
        generalize hsize : (1 + (ks.length : Int) + d) = size at *
        have d15 := Dr_snoc (o := .lst []) d14 hpf
        have ek5 : upd H4 pf (.lst []) pk = some (.tup (ks.map V.str)) := by rw [upd_ne (ne_of_none ek4 hpf)]; exact ek4
        obtain ⟨l, xs, hxs, hls, hok, hxl⟩ : ∃ (l : List Dat) (xs : List V), xs = [] ∧ l = [] ∧ (∀ d ∈ l, okI size d) ∧ xs.length = l.length := ⟨[], [], rfl, rfl, (fun d hd => by cases hd), rfl⟩
        have ef : upd H4 pf (.lst []) pf = some (.lst xs) := by rw [hxs]; exact upd_same
        have hr5 : RepL K (off a (upd H4 pf (.lst []))) l xs := by rw [hxs, hls]; exact rfl
        have e0 : (([] : List V).length : Int) = xs.length := by rw [hxs]
        have e00 : ([] : List V) = xs := hxs.symm
        have hll : l.length ≤ 3 := by rw [hls]; decide
        generalize upd H4 pf (.lst []) = H5 at *
        have src5 := d15.src
        clear d4 d14 ek4 ek src3 d13
        have d16 := d15.trans d6
        have ek6 := d6.keep _ _ ek5 nk
        have ef6 := d6.keep _ _ ef nf
        have hr6 := hr5.same d6.off
        have src6 := d16.src
        rw [e0]
        have hlen1 : (xs.length : Int) + 1 + g = (xs.length + 1 + g.toNat : Nat) := by omega
        rw [hlen1]
        generalize hln : xs.length + 1 + g.toNat = ln at *
        have hlnb : ln ≤ 12 := by omega
        clear d6 ek5 ef hr5 src5 d15
        walk_at "v"
        refine lc_drH d16.src (walk_upto (lo := 0) (n := ((ln : Int) - xs.length).toNat)) hy_at (fun _ _ => trivial) (fun H y => ∃ d, Rep K H d y ∧ goodI size ln d) (fun H H' y s' h => by obtain ⟨d, r, g⟩ := h; exact ⟨d, r.same s', g⟩) (by rw [upto_len]; exact small1000 (by omega)) (fun _ D2 v H7 ys2 R Rn hv nD eD d7 hR => ?_) (fun D2 H7 ys hD2 d7 e7 hlen7 hE7 => ?_)
        · walk_at "v"
          refine ⟨a, size, ln, rfl, d7.src, by omega, by omega, by omega, by omega, fun p px pl H8 hsq hrep hi hol hsh hpl d8 => hR _ _ d8 ⟨.tup pl, instr_offL (size := size) (len := ln) ⟨p, px, rfl, hsq, hrep⟩ hi hsh (by rw [off_ne nD]; exact d8.keep _ _ eD nD), hi, ⟨by omega, hol⟩, hsh⟩⟩
        · rw [upto_len] at hlen7
          obtain ⟨l2, hr7, hg7⟩ := items_of hE7
          have d17 := d16.trans d7
          have ek7 := d7.keep _ _ ek6 nk
          have ef7 := d7.keep _ _ ef6 nf
          have hl2 := hr7.length
          refine v_addL ef7 e7 (Nat.le_of_lt (small1000 (by omega))) fun pq hpq => ?_
          have np : pq ≠ a := (d17.src.ne hpq).symm
          have hpH : H pq = none := by
            cases eq : H pq with
            | none => rfl
            | some o => exact absurd (d17.keep _ _ eq np) (by rw [hpq]; simp)
          have d18 := Dr_snoc (o := .lst (xs ++ ys)) d17 hpq
          have ek8 : upd H7 pq (.lst (xs ++ ys)) pk = some (.tup (ks.map V.str)) := by rw [upd_ne (ne_of_none ek7 hpq)]; exact ek7
          have ec8 : upd H7 pq (.lst (xs ++ ys)) pq = some (.lst (xs ++ ys)) := upd_same
          have hr8 : RepL K (off pq (off a (upd H7 pq (.lst (xs ++ ys))))) (l ++ l2) (xs ++ ys) := by
            rw [off_off_upd]
            exact RepL.append ((hr6.same d7.off).same (same_offF (by rw [off_ne np]; exact hpq))) ((hr7.same off_same).same (same_offF (by rw [off_ne np]; exact hpq)))
          have hg8 : ∀ d ∈ l ++ l2, goodI size ln d := by
            intro d hd
            rcases List.mem_append.mp hd with h | h
            · exact ⟨(hok d h).1 ln (by omega), (hok d h).2⟩
            · exact hg7 d h
          have hl8 : (l ++ l2).length = ln := by rw [List.length_append]; omega
          generalize upd H7 pq (.lst (xs ++ ys)) = H8 at *
          generalize xs ++ ys = vs at *
          generalize l ++ l2 = lc at *
          have src8 := d18.src
          clear hr7 hg7 d7 e7 hlen7 hE7 d17 ek7 ef7 hpq hr6 ek6 ef6 src6 d16 hD2 hl2
          walk_at "v"
          · have d19 := d18
            have ek9 := ek8
            have ec9 := ec8
            have hr9 := hr8
            have hg9 := hg8
            have hl9 := hl8
            refine v_make ?_
            walk_at "v"
            refine ⟨a, rfl, d19.src, fun t H10 ht dt => ?_⟩
            have d20 := d19.trans dt
            have ek10 := dt.keep _ _ ek9 nk
            have ec10 := dt.keep _ _ ec9 np
            have hr10 := hr9.same (same_off (a := pq) dt.off)
            walk_at "v"
            rename_i x dx hx hdx hne
            have sm : Same H10 (upd (upd H10 dx (.own x)) x (.ins C dx [])) := (same_new hdx).trans (same_new (by rw [upd_ne hne.symm]; exact hx))
            have pts : Parts "m" ks t size lc := ⟨by decide +kernel, okB_ok (by decide +kernel), fun k hk => typs_ok (hks k hk), by omega, (typs_ok ht).1, (typs_ok ht).2, by omega, by omega, okL_of fun d hd => (hg9 d hd).2.1, by
              unfold codeOk
              rw [decide_eq_true (by omega), decide_eq_true (by omega)]
              exact List.all_eq_true.mpr fun d hd => by rw [hl9]; exact (hg9 d hd).1⟩
            refine ⟨x, dx, "m", .ref pk, ks, t, size, .ref pq, _, rfl, upd_same, pts, .inl ⟨pk, _, rfl, .inl (.inl (sm _ _ ek10)), repL_strs ks⟩, .inr ⟨pq, _, rfl, sq_lst (sm _ _ ec10), ((hr10.same off_same).same off_same).same sm⟩, fun H11 fr ma => ⟨rfl, ?_⟩⟩
            have s11 : Same H10 H11 := fun b o e => fr b o (sm b o e) (ne_of_none e hx)
            exact q x ks t size _ H11 ma pts (fun d hd => (hg9 d hd).2.2) hks hkl ht (by omega) (by omega) (d20.trans (Dr.same d20.src s11))
end K03

open PySem PySem.Spec PyProof.Rows L2 Kit
namespace Kit
/-- a promise that nothing leaves is one of a def that may raise -/
theorem FnOk.toX {P : Program} {w : World} {K : PySem.W.Frag} {mg : Str → Option Value} {base : Heap} {k : Nat} {f : Addr} {fd : FuncData} {ps : List Str} {sp : Sp} (F : FnOk P w K mg base CX0 k f fd ps sp) : FnOk P w K mg base (L2.CX P w) k f fd ps sp :=
  ⟨F.len, fun A outer s H args us vs Q E hr he hb hv hs => codeAny_mono (F.run A outer s H args us vs Q E hr he hb hv hs) fun r s' h => by
    cases r with
    | error e => exact False.elim h
    | ok fl => cases fl <;> exact h⟩
theorem fn_orX {P : Program} {w : World} {K : PySem.W.Frag} {mg : Str → Option Value} {base : Heap} {CX : CXT} {k : Nat} {f : Addr} {fd : FuncData} {ps : List Str} {sp sp' : Sp} (a : FnOk P w K mg base CX k f fd ps sp) (b : FnOk P w K mg base CX k f fd ps sp') :
    FnOk P w K mg base CX k f fd ps (fun vs H Q E => sp vs H Q E ∨ sp' vs H Q E) :=
  ⟨fun vs H Q E h => h.elim (a.len vs H Q E) (b.len vs H Q E), fun A outer s H args us vs Q E hr he hb hv hs => hs.elim (a.run A outer s H args us vs Q E hr he hb hv) (b.run A outer s H args us vs Q E hr he hb hv)⟩
/-- a class whose __init__ may raise -/
structure MkX (P : Program) (w : World) (K : PySem.W.Frag) (mg : Str → Option Value) (base : Heap) (k : Nat) (x : Str) (C : Addr) (ps : List Str) (sp : Sp) : Prop where
  ex : ∃ (f : Addr) (fd : FuncData), Mk K C f ∧ FnOk P w K mg base (L2.CX P w) k f fd ps sp ∧ mg x = some (.ref C) ∧ Binds K fd ps []
theorem pmakeX {X : Cx} {x : Str} {e : Expr} {es : List Expr} {t : TA} {W : WX} {p pos : Pos} {k j : Nat} {ps : List Str} {sp : Sp} {C : Addr} (M : MkX X.prog X.w X.K X.mg X.base k x C ps sp) (tk : Takes X W) (hr : Room j X.A) (hk : k + 1 ≤ j) (hg : Gl X x) (ha : PA X (e :: es) t) (hdb : (x == ("__debug__" : Str)) = false := by decide)
    (he : starEach (e :: es) X.env = (false, eval e X.env) :: starEach es X.env := by rfl) (hpl : (backTo pos (starEach es X.env)).any (·.1) = false := by rfl) :
    PE X (.Call (.Name x p) (e :: es) [] pos) (tMakeS C sp (WE W) t) := by
  obtain ⟨f, fd, m, F, hm, hb⟩ := M.ex
  exact pe_makeS m F (hr.mono hk) hg hm hb (fun σ => passAt tk σ) ha hdb he hpl
theorem v_makeS {σ : L2.St} {H : Hp} {Q : VK} {C : Addr} {sp : Sp} {E : L2.St → XK} {t : TA} (k : t σ H fun vs H1 => ∀ x dx, H1 x = none → H1 dx = none → dx ≠ x → sp (.ref x :: vs) (upd (upd H1 dx (.own x)) x (.ins C dx [])) (fun v H2 => v = .non ∧ Q (.ref x) H2) (E σ)) : tMakeS C sp E t σ H Q := k
/-- isinstance(e, c), e the error that the suite holds -/
def rErIsO (K : PySem.W.Frag) (a : Addr) (cls : Value) (d : Option Addr) : List V → Hp → VK → Prop := fun xs H Q => ∃ (c : V) (u : Value) (b : Bool) (C dd : Addr) (fs : List (Str × V)), xs = [.ref a, c] ∧ cls = .ref C ∧ d = some dd ∧ ErrC K C ∧ H dd = some (.xd fs) ∧ ClsV c u ∧ PySem.W.kitOne K (.ref C) u = some b ∧ Q (.bl b) H
theorem call_erIsO {X : Cx} {a : Addr} {oe : Obj} {cls : Value} {d : Option Addr} {pn : List (Addr × Obj)} (hz : Zc cls d oe) (hf : ∃ vs, oe.data = .fields vs) : CallR (X.suite a ((a, oe) :: pn)) (.builtin "isinstance") (rErIsO X.K a cls d) := by
  intro pins s σ H xs us Q I r h
  obtain ⟨c, u, b, C, dd, fs, rfl, rfl, rfl, T, hd, k, e, q⟩ := h
  exact call_erIsC hz hf pins s σ H _ us Q I r ⟨fs, hd, c, u, b, C, dd, fs, rfl, rfl, T, hd, k, e, q⟩
theorem call_erIsK {X : Cx} {K : PySem.W.Frag} {a : Addr} {oe : Obj} {cls : Value} {d : Option Addr} {pn : List (Addr × Obj)} (hK : X.K = K) (hz : Zc cls d oe) (hf : ∃ vs, oe.data = .fields vs) : CallR (X.suite a ((a, oe) :: pn)) (.builtin "isinstance") (rErIsO K a cls d) := by subst hK; exact call_erIsO hz hf
end Kit
namespace K03
open K02
local macro_rules | `(tactic| walk_at "ne") => `(tactic| first
  | assumption
  | (apply Ne.symm; assumption)
  | exact ne_of_none (by assumption) (by assumption)
  | exact (ne_of_none (by assumption) (by assumption)).symm
  | (refine ne_of_none (H := ?H0) (o := ?oo) ?hs ?hn; (case hn => assumption); (case hs => walk_at "hp"))
  | (refine (ne_of_none (H := ?H0) (o := ?oo) ?hs ?hn).symm; (case hn => assumption); (case hs => walk_at "hp"))
  | (refine Src.ne (H := ?H0) ?hs ?hn; (case hn => assumption); (case hs => walk_at "src"))
  | (refine (Src.ne (H := ?H0) ?hs ?hn).symm; (case hn => assumption); (case hs => walk_at "src"))
  | fail "no rule")
local macro_rules | `(tactic| walk_at "hp") => `(tactic| first
  | assumption
  | exact upd_same
  | (refine (upd_ne ?hne).trans ?hrest; (case hne => walk_at "ne"); (case hrest => walk_at "hp"))
  | (refine same_at (H := ?H0) ?hs ?hrest; (case hs => assumption); (case hrest => walk_at "hp"))
  | (refine dr_at (H := ?H0) (a := ?a0) ?hs ?hne ?hrest; (case hs => assumption); (case hne => walk_at "ne"); (case hrest => walk_at "hp"))
  | fail "no rule")
local macro_rules | `(tactic| walk_at "sq") => `(tactic| first
  | assumption
  | exact Or.inl (Or.inl (by walk_at "hp"))
  | (refine sq_upd ?hnn ?hss; (case hnn => assumption); (case hss => walk_at "sq"))
  | (refine Same.seq (H := ?H0) ?hs ?hrest; (case hs => assumption); (case hrest => walk_at "sq"))
  | (refine sq_dr (H := ?H0) (a := ?a0) ?hs ?hne ?hrest; (case hs => assumption); (case hne => walk_at "ne"); (case hrest => walk_at "sq"))
  | fail "no rule")
local macro_rules | `(tactic| walk_at "sm") => `(tactic| first
  | assumption
  | exact Same.refl _
  | (refine same_new ?hnn; (case hnn => assumption))
  | (refine same_push ?hs ?hnn; (case hnn => assumption); (case hs => walk_at "sm"))
  | (refine same_mut ?hs ?hnn; (case hs => walk_at "sm"); (case hnn => walk_at "fr"))
  | (refine Same.trans (H1 := ?H1) ?hs ?hq; (case hq => assumption); (case hs => walk_at "sm"))
  | fail "no rule")
local macro_rules | `(tactic| walk_at "fr") => `(tactic| first
  | assumption
  | (refine Same.free (H' := ?H1) ?hs ?hq; (case hq => assumption); (case hs => walk_at "sm"))
  | fail "no rule")
local macro_rules | `(tactic| walk_at "src") => `(tactic| first
  | assumption
  | exact Dr.src (by assumption)
  | (refine Src.same (H := ?H0) ?hs ?hm; (case hm => assumption); (case hs => walk_at "src"))
  | (refine Src.upd ?hs ?hn; (case hs => walk_at "src"); (case hn => walk_at "ne"))
  | fail "no rule")
local macro_rules | `(tactic| walk_at "fd") => `(tactic| first
  | assumption
  | (refine Same.free (H' := ?H1) ?hs ?hq; (case hq => assumption); (case hs => walk_at "sm"))
  | (refine Dr.free (H' := ?H1) ?h0 ?hs ?hq; (case hq => assumption); (case hs => walk_at "dr"); (case h0 => walk_at "src"))
  | fail "no rule")
local macro_rules | `(tactic| walk_at "dr") => `(tactic| first
  | assumption
  | (refine Dr.trans (H' := ?H1) ?hs ?hq; (case hq => assumption); (case hs => walk_at "dr"))
  | (refine Dr.mut ?hs ?h0 ?hn; (case hs => walk_at "dr"); (case h0 => walk_at "src"); (case hn => walk_at "fd"))
  | (refine Dr.trans (H' := ?H1) ?hs (Dr.same ?h0 ?hq); (case hq => assumption); (case h0 => walk_at "src"); (case hs => walk_at "dr"))
  | (refine Dr.refl ?hs; (case hs => walk_at "src"))
  | fail "no rule")
local macro_rules | `(tactic| walk_at "sz") => `(tactic| first
  | omega
  | (refine Nat.le_trans ?_ (show (1000 : Nat) ≤ sizeLine by decide); first | decide | omega | (simp; done) | (simp; omega) | fail)
  | fail "no rule")
local macro_rules | `(tactic| walk_at "v1") => `(tactic| first
  | with_reducible refine v_seq ?_
  | with_reducible refine v_asg ?_
  | with_reducible refine v_gname ?_
  | with_reducible refine v_c ?_
  | ((with_reducible refine v_var (v := ?vv) ?hv ?_); (case hv => exact rfl))
  | with_reducible refine v_op ?_
  | with_reducible refine v_un ?_
  | with_reducible refine v_I0 ?_
  | with_reducible refine v_U ?_
  | with_reducible refine v_addI ?_
  | with_reducible refine v_ltI ?_
  | with_reducible refine v_leI ?_
  | with_reducible refine v_gtI ?_
  | with_reducible refine v_geI ?_
  | with_reducible refine v_leS ?_
  | with_reducible refine v_ltS ?_
  | with_reducible refine v_eqI ?_
  | with_reducible refine v_neI ?_
  | with_reducible refine v_eqS ?_
  | with_reducible refine v_neS ?_
  | with_reducible refine v_eqB ?_
  | ((with_reducible refine v_eqTy ?h1 ?h2 ?_); (case h1 => walk_at "bt"); (case h2 => walk_at "bt"))
  | ((with_reducible refine v_neTy ?h1 ?h2 ?_); (case h1 => walk_at "bt"); (case h2 => walk_at "bt"))
  | with_reducible refine v_test ?_
  | with_reducible refine v_B ?_
  | with_reducible refine v_isbl ?_
  | with_reducible refine v_and ?_
  | with_reducible refine v_or ?_
  | with_reducible refine v_not ?_
  | with_reducible refine v_andV ?_
  | with_reducible refine v_orV ?_
  | with_reducible refine v_notV ?_
  | with_reducible refine v_if ?_
  | with_reducible refine v_chain ?_
  | with_reducible refine v_nil ?_
  | with_reducible refine v_cons ?_
  | with_reducible refine v_cb ?_
  | with_reducible refine v_call ?_
  | with_reducible refine v_max ?_
  | ((with_reducible refine v_draw ?hs ?hm ?_); (case hs => walk_at "src"); (case hm => omega))
  | with_reducible refine v_min ?_
  | with_reducible refine v_intI ?_
  | with_reducible refine v_intB ?_
  | with_reducible refine v_m1 ?_
  | with_reducible refine v_isstr ?_
  | with_reducible refine v_sl ?_
  | with_reducible refine v_ss ?_
  | with_reducible refine v_disp1 ?_
  | with_reducible refine v_s0 ?_
  | with_reducible refine v_nopart ?_
  | with_reducible refine v_part ?_
  | with_reducible refine v_partI ?_
  | with_reducible refine v_next ?_
  | with_reducible refine v_gsub ?_
  | with_reducible refine v_ifS ?_
  | with_reducible refine v_ret ?_
  | with_reducible refine v_drop ?_
  | ((with_reducible refine v_iteTrue ?hb ?_); (case hb => walk_at "bt"))
  | ((with_reducible refine v_iteFalse ?hb ?_); (case hb => walk_at "bt"))
  | with_reducible refine v_iteD ?_ ?_
  | with_reducible refine v_iteNot ?_
  | with_reducible refine v_lc ?_
  | with_reducible refine v_iStr ?_
  | with_reducible refine v_isS ?_
  | with_reducible refine v_iRng1 ?_
  | ((with_reducible refine v_rng1 ?hb ?_); (case hb => omega))
  | with_reducible refine v_iList ?_
  | with_reducible refine v_iSeq ?_
  | ((with_reducible refine v_isL (xs := ?xx) ?hsq ?_); (case hsq => walk_at "sq"))
  | with_reducible refine v_for ?_
  | with_reducible refine v_yes ?_
  | ((with_reducible refine v_nand ?hw ?_); (case hw => first | exact rfl | walk_at "sz" | fail))
  | ((with_reducible refine v_typ (T := ?TT) ?ht ?_); (case ht => walk_at "ty"))
  | ((with_reducible refine v_isiK (T := ?TT) ?ht ?h1 ?h2 ?_); (case ht => walk_at "ty"); (case h1 => walk_at "bt"); (case h2 => exact rfl))
  | with_reducible refine iteT ?_
  | with_reducible refine iteF ?_
  | with_reducible refine v_tup ?_
  | with_reducible refine v_lst ?_
  | ((with_reducible refine v_ixL (xs := ?xx) (v := ?vv) ?hsq ?hat ?_); (case hsq => walk_at "sq"); (case hat => exact rfl))
  | ((with_reducible refine v_lenL (xs := ?xx) ?hsq ?_); (case hsq => walk_at "sq"))
  | ((with_reducible refine v_setL (xs := ?xx) (j := ?jj) ?hh ?hj ?_); (case hh => walk_at "hp"); (case hj => exact rfl))
  | ((with_reducible refine v_I ?hc ?_); (case hc => walk_at "ic"))
  | ((with_reducible refine v_lenS ?hz ?_); (case hz => walk_at "sz"))
  | ((with_reducible refine v_slS ?hz ?_); (case hz => walk_at "sz"))
  | ((with_reducible refine v_addS ?hz ?_); (case hz => walk_at "sz"))
  | ((with_reducible refine v_ixS (c := ?cc) ?hz ?hat ?_); (case hz => walk_at "sz"); (case hat => exact rfl))
  | ((with_reducible refine v_addL (xs := ?xx) (ys := ?yy) ?h1 ?h2 ?hz ?_); (case h1 => walk_at "hp"); (case h2 => walk_at "hp"); (case hz => walk_at "sz"))
  | ((with_reducible refine v_ixT (xs := ?xx) (v := ?vv) ?hsq ?hat ?_); (case hsq => walk_at "sq"); (case hat => exact rfl))
  | ((with_reducible refine v_lenT (xs := ?xx) ?hsq ?_); (case hsq => walk_at "sq"))
  | ((with_reducible refine v_eq ?hs ?_); (case hs => exact rfl))
  | ((with_reducible refine v_ne ?hs ?_); (case hs => exact rfl))
  | (with_reducible intro _)
  | fail "no rule")
local macro_rules | `(tactic| walk_at "ic") => `(tactic| first
  | (show (0 : Int) < _; first | decide | omega | fail)
  | (show CMul _ _; unfold CMul; omega)
  | (show CDiv _ _; unfold CDiv; omega)
  | (show CPow _ _; unfold CPow; exact ⟨by decide, by decide, by decide⟩)
  | fail "no rule")
local macro_rules | `(tactic| walk_at "bt") => `(tactic| first
  | exact rfl
  | assumption
  | decide +kernel
  | (simp; done)
  | fail "no rule")
local macro_rules | `(tactic| walk_at "ty") => `(tactic| first
  | assumption
  | exact .non
  | exact .bl _
  | exact .int _
  | exact .str _
  | exact .lst (by walk_at "sq")
  | exact .tup (by walk_at "sq")
  | exact .dK (by walk_at "hp")
  | fail "no rule")
local macro_rules | `(tactic| walk_at "v") => `(tactic| try (walk_at "v1" <;> walk_at "v"))
local macro_rules | `(tactic| walk_at "start") => `(tactic| dsimp only [L2.start, cxOf, Cx.nox, Cx.wish, List.map, List.replicate, List.length, List.append, Nat.reduceSub, Nat.reduceAdd, List.cons_append, List.nil_append])

variable {P : Program} {w : World} {K : PySem.W.Frag} {mg : Str → Option Value} {base : Heap}
variable {aF : Addr} {es : Array DictEntry} {nF : Nat} {C fI CE cE : Addr}
/-! ### _law_refused -/
def spInitU (K : PySem.W.Frag) (C CE : Addr) : Sp := fun vs H Q E => spInitF K C vs H Q E ∨ spInitX K C CE vs H Q E
def spRefused (K : PySem.W.Frag) : Sp := fun vs H Q _ => ∃ (p : Addr) (vn vp vt vz vc : V), vs = [.ref p] ∧ H p = some (.lst [vn, vp, vt, vz, vc]) ∧
  ((∃ (n : Str) (ks : List Str) (t : Str) (size : Int) (l : List Dat), vn = .str n ∧ vt = .str t ∧ vz = .int size ∧ Parts n ks t size l ∧ SeqAt2 K H vp (ks.map .str) ∧ SeqAt2 K H vc l ∧ ∀ H', Same H H' → Q .non H') ∨
    ∃ (bad : V) (d : PyData), Wrong K H vn vp vt vz vc bad ∧ Sh3 K H bad d ∧ okP d ∧ ∀ q H', Same H H' → H' q = some (.lst [.str d.shown, .bl true]) → Q (.ref q) H')
theorem Wrong.same {H H' : Hp} {vn vp vt vz vc bad : V} (s : Same H H') (h : Wrong K H vn vp vt vz vc bad) : Wrong K H' vn vp vt vz vc bad := by
  have pars : ∀ {m}, RiPars K H vp m → RiPars K H' vp m := fun ⟨ks, a, b, c, d⟩ => ⟨ks, seq2_same s a, b, c, d⟩
  rcases h with ⟨e, d, r, x⟩ | ⟨e, a, b⟩ | ⟨e, a, ⟨m, b⟩, d, r, x⟩ | ⟨e, a, b, m, c, d, r, x⟩ | ⟨e, a, b, m, size, c, x, y, z, u⟩
  · exact .inl ⟨e, d, r.same s, x⟩
  · exact .inr (.inl ⟨e, a, b.imp (nonseq_same s) fun ⟨l, p, q⟩ => ⟨l, seq2_same s p, q⟩⟩)
  · exact .inr (.inr (.inl ⟨e, a, ⟨m, pars b⟩, d, r.same s, x⟩))
  · exact .inr (.inr (.inr (.inl ⟨e, a, b, m, pars c, d, r.same s, x⟩)))
  · exact .inr (.inr (.inr (.inr ⟨e, a, b, m, size, pars c, x, y, z, u.imp (nonseq_same s) fun ⟨l, p, q⟩ => ⟨l, seq2_same s p, q⟩⟩)))
theorem ok_refused {f : Addr} {fd : FuncData} (F : Fun K "_law_refused" "_law_refused" s_law_refused f fd) (T : Txt3 K w mg aF es nF C cE) (gE : mg "InvalidMethod" = some (.ref CE)) (TE : ErrC K CE) (hno : PySem.W.findIn K (.ref CE) "given" = some none) (self : PySem.W.subIn K (.ref CE) (.ref CE) = some true) (kE : PySem.W.kitOne K (.ref CE) (.ref cE) = some true)
    (C_Method : MkX P w K mg base 7 "Method" C ["self", "name", "params", "result", "size", "code"] (spInitU K C CE)) :
    FnG P w K mg base CX0 9 f fd ["_law_parts"] (spRefused K) := by
  refine okG0 F sc_law_refused (fun vs H Q E h => ?_) (fun cdv A outer s H vs Q E gd hr h => ?_)
  · obtain ⟨p, vn, vp, vt, vz, vc, rfl, _⟩ := h
    rfl
  · obtain ⟨p, vn, vp, vt, vz, vc, rfl, hp, h⟩ := h
    have exm := PySem.W.exm_ref TE.bs TE.hd TE.ty self
    refine ⟨_, (pss_cons (ps_try_as (i := 1) rfl rfl sc_law_refused.nd rfl rfl ⟨rfl, by decide, .inl gE⟩ takes0
      (fun W pn xe tk _ => pss_one (ps_expr (pmakeX C_Method tk hr (by omega) (by rfl) (pa_cons (pe_ix (kIx (K := K) rfl) (pv 0) pe_int (fun _ _ => rfl)) (pa_cons (pe_ix (kIx (K := K) rfl) (pv 0) pe_int (fun _ _ => rfl)) (pa_cons (pe_ix (kIx (K := K) rfl) (pv 0) pe_int (fun _ _ => rfl)) (pa_cons (pe_ix (kIx (K := K) rfl) (pv 0) pe_int (fun _ _ => rfl)) (pa_cons (pe_ix (kIx (K := K) rfl) (pv 0) pe_int (fun _ _ => rfl)) pa_nil))))))))
      (fun a oe cls d pn hz hf => pss_one (ps_ret (pe_lst (pa_cons (pe_callB (call_repr3 (K := K) rfl gd hr.units) (by rfl) T.b_repr (by decide +kernel) (pa_cons (pe_xf TE.xf hno hz hf (pv 1)) pa_nil)) (pa_cons (pe_callB (call_erIsK (K := K) rfl hz hf) (by rfl) T.b_isinstance (by decide +kernel) (pa_cons (pv 1) (pa_cons (pglob (by rfl) T.g_ClassError) pa_nil))) pa_nil))))))
      (pss_one (ps_ret pe_non))), ?_⟩
    walk_at "start"
    walk_at "v"
    refine v_makeS ?_
    walk_at "v"
    rename_i x dx hx hdx hne
    have sm : Same H (upd (upd H dx (.own x)) x (.ins C dx [])) := (same_new hdx).trans (same_new (by rw [upd_ne hne.symm]; exact hx))
    rcases h with ⟨n, ks, t, size, l, rfl, rfl, rfl, pt, hsp, hsc, q⟩ | ⟨bad, d, hw, sh, ok, q⟩
    · refine .inl ⟨x, dx, n, vp, ks, t, size, vc, l, rfl, upd_same, pt, seq2_same sm hsp, seq2_same sm hsc, fun H' fr ma => ⟨rfl, ?_⟩⟩
      walk_at "v"
      exact q H' fun b o e => fr b o (sm b o e) (ne_of_none e hx)
    · refine .inr ⟨x, dx, vn, vp, vt, vz, vc, bad, rfl, upd_same, hw.same sm, fun d' H' s' e => ?_⟩
      have s0 := sm.trans s'
      refine ⟨true, exm, fun _ a ha => ?_, fun z => nomatch z⟩
      walk_at "v"
      refine ⟨.ref a, rfl, rfl, rfl, d', _, bad, rfl, e, rfl, ?_⟩
      walk_at "v"
      refine ⟨bad, d, rfl, sh.same s0, ok, ?_⟩
      walk_at "v"
      refine ⟨_, _, true, CE, d', _, rfl, rfl, rfl, TE, e, .own cE, kE, ?_⟩
      walk_at "v"
      rename_i z hz
      exact q _ _ (s0.trans (same_new hz)) upd_same
end K03

open PySem PySem.Spec PyProof.Rows L2 Kit
namespace K03
open K02
def goodS (z : Str) : Bool := decide (z.length ≤ 100) && z.cps.toList.all (· < 128)
theorem goodS_ok {z : Str} (h : goodS z = true) : okS z := by
  unfold goodS at h
  simp only [Bool.and_eq_true, decide_eq_true_eq, List.all_eq_true] at h
  exact ⟨by omega, fun c hc => by have := h.2 c hc; omega⟩
mutual
def goodB : Dat → Bool
  | .str z => goodS z
  | .tup l => decide (l.length ≤ 1000) && goodBL l
  | .lst l => decide (l.length ≤ 1000) && goodBL l
  | .dct => false
  | _ => true
def goodBL : List Dat → Bool
  | [] => true
  | d :: l => goodB d && goodBL l
end
mutual
def pyD : Dat → PyData
  | .non => .none
  | .bl b => .bool b
  | .int i => .int i
  | .str z => .str z
  | .tup l => .tuple (pyL l)
  | .lst l => .list (pyL l)
  | .dct => .none
def pyL : List Dat → List PyData
  | [] => []
  | d :: l => pyD d :: pyL l
end
mutual
theorem good_ok : ∀ {d : Dat}, goodB d = true → okD d
  | .non, _ => trivial
  | .bl _, _ => trivial
  | .int _, _ => trivial
  | .str z, h => goodS_ok h
  | .tup l, h => by
    simp only [goodB, Bool.and_eq_true, decide_eq_true_eq] at h
    exact ⟨h.1, good_okL h.2⟩
  | .lst l, h => by
    simp only [goodB, Bool.and_eq_true, decide_eq_true_eq] at h
    exact ⟨h.1, good_okL h.2⟩
  | .dct, h => by cases h
theorem good_okL : ∀ {l : List Dat}, goodBL l = true → okL l
  | [], _ => trivial
  | d :: l, h => by
    simp only [goodBL, Bool.and_eq_true] at h
    exact ⟨good_ok h.1, good_okL h.2⟩
end
mutual
theorem rep_dp {K : PySem.W.Frag} {H : Hp} : ∀ {d : Dat} {v : V}, goodB d = true → Rep K H d v → Dp K H v (pyD d)
  | .non, _, _, r => by cases (show _ = _ from r); exact .non
  | .bl b, _, _, r => by cases (show _ = _ from r); exact .bl b
  | .int i, _, _, r => by cases (show _ = _ from r); exact .int i
  | .str z, _, _, r => by cases (show _ = _ from r); exact .str z
  | .tup l, _, h, r => by
    obtain ⟨a, xs, rfl, s, r⟩ := r
    simp only [goodB, Bool.and_eq_true] at h
    exact .tup s (rep_dpL h.2 r)
  | .lst l, _, h, r => by
    obtain ⟨a, xs, rfl, s, r⟩ := r
    simp only [goodB, Bool.and_eq_true] at h
    exact .lst s (rep_dpL h.2 r)
  | .dct, _, h, _ => by cases h
theorem rep_dpL {K : PySem.W.Frag} {H : Hp} : ∀ {l : List Dat} {xs : List V}, goodBL l = true → RepL K H l xs → DpAll K H xs (pyL l)
  | [], _, _, r => by cases (show _ = _ from r); exact .nil
  | d :: l, _, h, r => by
    obtain ⟨x, xs, rfl, r1, r2⟩ := r
    simp only [goodBL, Bool.and_eq_true] at h
    exact .cons (rep_dp h.1 r1) (rep_dpL h.2 r2)
end
/-- what can be shown, and its text compared -/
def okP (d : PyData) : Prop := (d.showable = true ∧ d.depth ≤ 30 ∧ d.shown.length ≤ sizeLine) ∧ PyData.strOk d.shown = true
def shownB (d : Dat) : Bool := (pyD d).showable && decide ((pyD d).depth ≤ 30) && decide ((pyD d).shown.length ≤ sizeLine) && PyData.strOk (pyD d).shown
theorem shown_ok {d : Dat} (h : shownB d = true) : okP (pyD d) := by
  simp only [shownB, Bool.and_eq_true, decide_eq_true_eq] at h
  exact ⟨⟨h.1.1.1, h.1.1.2, h.1.2⟩, h.2⟩
/-- a wrong code, and what it is shown as -/
def WrC (K : PySem.W.Frag) (size : Int) (H : Hp) (v : V) : Prop := WrCode K H v size ∧ ∃ d, Sh3 K H v d ∧ okP d
def badB (size : Int) : Dat → Bool
  | .lst l => goodB (.lst l) && shownB (.lst l) && !codeOk size l
  | .tup l => goodB (.tup l) && shownB (.tup l) && !codeOk size l
  | _ => false
theorem bad_wr {K : PySem.W.Frag} {size : Int} {H : Hp} {d : Dat} {v : V} (h : badB size d = true) (r : Rep K H d v) : WrC K size H v := by
  cases d with
  | lst l =>
    simp only [badB, Bool.and_eq_true, Bool.not_eq_true'] at h
    obtain ⟨⟨g, s⟩, c⟩ := h
    have o : okD (.lst l) := good_ok g
    exact ⟨.inr ⟨l, .inr r, o.2, o.1, c⟩, _, .inl (.inl (rep_dp g r)), shown_ok s⟩
  | tup l =>
    simp only [badB, Bool.and_eq_true, Bool.not_eq_true'] at h
    obtain ⟨⟨g, s⟩, c⟩ := h
    have o : okD (.tup l) := good_ok g
    exact ⟨.inr ⟨l, .inl r, o.2, o.1, c⟩, _, .inl (.inl (rep_dp g r)), shown_ok s⟩
  | _ => cases h
end K03

open PySem PySem.Spec PyProof.Rows L2 Kit
/-! written things: what a display of literals gives, beside an address that stands already -/
namespace K03
open K02
abbrev Pr := Hp → V → Prop
def Mo (E : Pr) : Prop := ∀ {H H' : Hp} {v : V}, Same H H' → E H v → E H' v
/-- the heap without some addresses -/
noncomputable def offS (S : Addr → Prop) (H : Hp) : Hp := fun b => @ite _ (S b) (Classical.propDecidable _) none (H b)
section
variable {S : Addr → Prop} {H H' : Hp} {b : Addr} {o : HO}
theorem offS_ne (n : ¬ S b) : offS S H b = H b := if_neg n
theorem offS_no (n : S b) : offS S H b = none := if_pos n
theorem offS_at (h : offS S H b = some o) : ¬ S b ∧ H b = some o := by
  by_cases n : S b
  · rw [offS_no n] at h; cases h
  · rw [offS_ne n] at h; exact ⟨n, h⟩
theorem offS_same : Same (offS S H) H := fun b o e => (offS_at e).2
theorem same_offS (s : Same H H') : Same (offS S H) (offS S H') := fun b o e => by
  have := offS_at e
  rw [offS_ne this.1]
  exact s _ _ this.2
theorem offS_eq {a : Addr} : offS (· = a) H = off a H := by
  funext b
  by_cases h : b = a
  · rw [offS_no (S := (· = a)) h, h]; unfold off; rw [if_pos rfl]
  · rw [offS_ne (S := (· = a)) h, off_ne h]
theorem offS_upd {p : Addr} (h : S p) : offS S (upd H p o) = offS S H := by
  funext b
  by_cases n : S b
  · rw [offS_no n, offS_no n]
  · rw [offS_ne n, offS_ne n, upd_ne (fun e => n (by rw [e]; exact h))]
theorem dr_offS {a : Addr} (h : S a) (d : Dr a H H') : Same (offS S H) (offS S H') := fun b o e => by
  obtain ⟨n, e⟩ := offS_at e
  rw [offS_ne n]
  exact d.keep _ _ e fun z => n (by rw [z]; exact h)
/-- what stands already -/
def Old (S : Addr → Prop) (H : Hp) : Prop := ∀ b, S b → ∃ o, H b = some o
theorem Old.same (h : Old S H) (s : Same H H') : Old S H' := fun b z => by
  obtain ⟨o, e⟩ := h b z
  exact ⟨o, s _ _ e⟩
theorem Old.ne {p : Addr} (h : Old S H) (hp : H p = none) : ¬ S p := fun z => by
  obtain ⟨o, e⟩ := h p z
  rw [hp] at e; cases e
theorem Old.dr {a : Addr} (h : Old S H) (d : Dr a H H') : Old S H' := fun b z => by
  obtain ⟨o, e⟩ := h b z
  by_cases n : b = a
  · obtain ⟨n', s', e', _⟩ := d.src
    exact ⟨_, by rw [n]; exact e'⟩
  · exact ⟨o, d.keep _ _ e n⟩
theorem repS_tup {K : PySem.W.Frag} {p : Addr} {l : List Dat} {xs : List V} (n : ¬ S p) (h : H p = some (.tup xs)) (r : RepL K (offS S H) l xs) : Rep K (offS S H) (.tup l) (.ref p) := ⟨p, xs, rfl, .inl (.inl (by rw [offS_ne n]; exact h)), r⟩
theorem repS_lst {K : PySem.W.Frag} {p : Addr} {l : List Dat} {xs : List V} (n : ¬ S p) (h : H p = some (.lst xs)) (r : RepL K (offS S H) l xs) : Rep K (offS S H) (.lst l) (.ref p) := ⟨p, xs, rfl, .inl (.inl (by rw [offS_ne n]; exact h)), r⟩
end
/-- an expression that gives data, whatever has been made since H0 -/
def LitD (K : PySem.W.Frag) (S : Addr → Prop) (H0 : Hp) (σ : L2.St) (te : TE) (d : Dat) : Prop := ∀ H (Q : VK), Same H0 H → (∀ v H', Same H H' → Rep K (offS S H') d v → Q v H') → te σ H Q
def LitDs (K : PySem.W.Frag) (S : Addr → Prop) (H0 : Hp) (σ : L2.St) (ta : TA) (ds : List Dat) : Prop := ∀ H (Q : List V → Hp → Prop), Same H0 H → (∀ xs H', Same H H' → RepL K (offS S H') ds xs → Q xs H') → ta σ H Q
def LitE (S : Addr → Prop) (H0 : Hp) (σ : L2.St) (te : TE) (E : Pr) : Prop := ∀ H (Q : VK), Same H0 H → (∀ v H', Same H H' → E (offS S H') v → Q v H') → te σ H Q
def LitEs (S : Addr → Prop) (H0 : Hp) (σ : L2.St) (ta : TA) (E : Pr) (n : Nat) : Prop := ∀ H (Q : List V → Hp → Prop), Same H0 H → (∀ xs H', Same H H' → xs.length = n → (∀ x ∈ xs, E (offS S H') x) → Q xs H') → ta σ H Q
section
variable {K : PySem.W.Frag} {S : Addr → Prop} {H0 : Hp} {σ : L2.St} {te : TE} {ta : TA} {d : Dat} {ds : List Dat}
theorem ld_str {z : Str} : LitD K S H0 σ (tC (.str z)) (.str z) := fun H Q _ k => k _ H (Same.refl _) rfl
theorem ld_int {i : Int} : LitD K S H0 σ (tC (.int i)) (.int i) := fun H Q _ k => k _ H (Same.refl _) rfl
theorem ld_bl {b : Bool} : LitD K S H0 σ (tC (.bl b)) (.bl b) := fun H Q _ k => k _ H (Same.refl _) rfl
theorem ld_non : LitD K S H0 σ (tC .non) .non := fun H Q _ k => k _ H (Same.refl _) rfl
theorem ld_var {i : Nat} {v : V} (r : Rep K (offS S H0) d v) (hs : σ[i]? = some (some v) := by rfl) : LitD K S H0 σ (tVar i) d := fun H Q s k => ⟨v, hs, k v H (Same.refl _) (r.same (same_offS s))⟩
theorem lds_nil : LitDs K S H0 σ tNil [] := fun H Q _ k => k [] H (Same.refl _) rfl
theorem lds_cons (h : LitD K S H0 σ te d) (t : LitDs K S H0 σ ta ds) : LitDs K S H0 σ (tCons te ta) (d :: ds) := fun H Q s k =>
  h H _ s fun v H1 s1 r1 => t H1 _ (s.trans s1) fun xs H2 s2 r2 => k (v :: xs) H2 (s1.trans s2) ⟨v, xs, rfl, r1.same (same_offS s2), r2⟩
theorem ld_tup (ha : Old S H0) (h : LitDs K S H0 σ ta ds) (hz : ds.length ≤ 1000 := by simp) : LitD K S H0 σ (tTup ta) (.tup ds) := fun H Q s k =>
  h H _ s fun xs H1 s1 r1 => ⟨Nat.le_of_lt (small1000 (by rw [r1.length]; exact hz)), fun p hp => k (.ref p) _ (s1.trans (same_new hp)) (repS_tup ((ha.same (s.trans s1)).ne hp) upd_same (r1.same (same_offS (same_new hp))))⟩
theorem ld_lst (ha : Old S H0) (h : LitDs K S H0 σ ta ds) (hz : ds.length ≤ 1000 := by simp) : LitD K S H0 σ (tLst ta) (.lst ds) := fun H Q s k =>
  h H _ s fun xs H1 s1 r1 => ⟨Nat.le_of_lt (small1000 (by rw [r1.length]; exact hz)), fun p hp => k (.ref p) _ (s1.trans (same_new hp)) (repS_lst ((ha.same (s.trans s1)).ne hp) upd_same (r1.same (same_offS (same_new hp))))⟩
theorem repL_rep {H : Hp} {x : V} (r : Rep K H d x) : ∀ n, RepL K H (List.replicate n d) (List.replicate n x)
  | 0 => rfl
  | n + 1 => ⟨x, _, rfl, r, repL_rep r n⟩
theorem flat_rep {x : V} : ∀ n, (List.replicate n [x]).flatten = List.replicate n x
  | 0 => rfl
  | n + 1 => by rw [List.replicate_succ, List.flatten_cons, flat_rep n]; rfl
theorem ld_mul {n : Nat} (ha : Old S H0) (hz : n ≤ 1000) (h : LitD K S H0 σ te d) : LitD K S H0 σ (tOp rRep (tLst (tCons te tNil)) (tC (.int n))) (.lst (List.replicate n d)) := fun H Q s k => by
  refine h H _ s fun v H1 s1 r1 => ⟨Nat.le_of_lt (small1000 (by show 1 ≤ 1000; decide)), fun p hp => ?_⟩
  have hl := small1000 hz
  refine ⟨p, n, [v], rfl, rfl, upd_same, by omega, by omega, by rw [Int.toNat_natCast]; show 1 * n ≤ _; omega, fun q hq => ?_⟩
  have sp := same_new (o := .lst [v]) hp
  have sq := same_new (o := .lst (List.replicate (n : Int).toNat [v]).flatten) hq
  refine k (.ref q) _ ((s1.trans sp).trans sq) (repS_lst ((ha.same ((s.trans s1).trans sp)).ne hq) upd_same ?_)
  have r2 := repL_rep (r1.same (same_offS (sp.trans sq))) n
  rw [Int.toNat_natCast, flat_rep] at r2 ⊢
  exact r2
theorem v_litDs {H : Hp} {Q : List V → Hp → Prop} (h : LitDs K S H0 σ ta ds) (s : Same H0 H) (k : ∀ xs H', Same H H' → RepL K (offS S H') ds xs → Q xs H') : ta σ H Q := h H Q s k
theorem le_of {E : Pr} (h : LitD K S H0 σ te d) (c : ∀ H v, Rep K H d v → E H v) : LitE S H0 σ te E := fun H Q s k => h H Q s fun v H' s' r => k v H' s' (c _ v r)
theorem les_nil {E : Pr} : LitEs S H0 σ tNil E 0 := fun H Q _ k => k [] H (Same.refl _) rfl fun _ h => by cases h
theorem les_cons {E : Pr} {n : Nat} (h : LitE S H0 σ te E) (m : Mo E) (t : LitEs S H0 σ ta E n) : LitEs S H0 σ (tCons te ta) E (n + 1) := fun H Q s k =>
  h H _ s fun v H1 s1 r1 => t H1 _ (s.trans s1) fun xs H2 s2 l2 r2 => k (v :: xs) H2 (s1.trans s2) (by rw [List.length_cons, l2]) fun x hx => by
    rcases List.mem_cons.mp hx with rfl | hx
    · exact m (same_offS s2) r1
    · exact r2 x hx
/-- a list of written things -/
theorem v_lit {E : Pr} {n : Nat} {H : Hp} {Q : VK} (ha : Old S H0) (h : LitEs S H0 σ ta E n) (m : Mo E) (s : Same H0 H) (hz : n ≤ 1000) (k : ∀ p xs H', Same H H' → ¬ S p → H' p = some (.lst xs) → xs.length = n → (∀ x ∈ xs, E (offS S H') x) → Q (.ref p) H') : tLst ta σ H Q :=
  h H _ s fun xs H1 s1 l1 r1 => ⟨Nat.le_of_lt (small1000 (by omega)), fun p hp => k p xs _ (s1.trans (same_new hp)) ((ha.same (s.trans s1)).ne hp) upd_same l1 fun x hx => m (same_offS (same_new hp)) (r1 x hx)⟩
end
theorem mo_wrc {K : PySem.W.Frag} {size : Int} : Mo (WrC K size) := fun s h => by
  obtain ⟨c, d, sh, ok⟩ := h
  exact ⟨c.imp (nonseq_same s) fun ⟨l, x, y⟩ => ⟨l, seq2_same s x, y⟩, d, sh.same s, ok⟩
end K03

open PySem PySem.Spec PyProof.Rows L2 Kit
namespace K03
open K02
local macro_rules | `(tactic| walk_at "ne") => `(tactic| first
  | assumption
  | (apply Ne.symm; assumption)
  | exact ne_of_none (by assumption) (by assumption)
  | exact (ne_of_none (by assumption) (by assumption)).symm
  | (refine ne_of_none (H := ?H0) (o := ?oo) ?hs ?hn; (case hn => assumption); (case hs => walk_at "hp"))
  | (refine (ne_of_none (H := ?H0) (o := ?oo) ?hs ?hn).symm; (case hn => assumption); (case hs => walk_at "hp"))
  | (refine Src.ne (H := ?H0) ?hs ?hn; (case hn => assumption); (case hs => walk_at "src"))
  | (refine (Src.ne (H := ?H0) ?hs ?hn).symm; (case hn => assumption); (case hs => walk_at "src"))
  | fail "no rule")
local macro_rules | `(tactic| walk_at "hp") => `(tactic| first
  | assumption
  | exact upd_same
  | (refine (upd_ne ?hne).trans ?hrest; (case hne => walk_at "ne"); (case hrest => walk_at "hp"))
  | (refine same_at (H := ?H0) ?hs ?hrest; (case hs => assumption); (case hrest => walk_at "hp"))
  | (refine dr_at (H := ?H0) (a := ?a0) ?hs ?hne ?hrest; (case hs => assumption); (case hne => walk_at "ne"); (case hrest => walk_at "hp"))
  | fail "no rule")
local macro_rules | `(tactic| walk_at "sq") => `(tactic| first
  | assumption
  | exact Or.inl (Or.inl (by walk_at "hp"))
  | (refine sq_upd ?hnn ?hss; (case hnn => assumption); (case hss => walk_at "sq"))
  | (refine Same.seq (H := ?H0) ?hs ?hrest; (case hs => assumption); (case hrest => walk_at "sq"))
  | (refine sq_dr (H := ?H0) (a := ?a0) ?hs ?hne ?hrest; (case hs => assumption); (case hne => walk_at "ne"); (case hrest => walk_at "sq"))
  | fail "no rule")
local macro_rules | `(tactic| walk_at "sm") => `(tactic| first
  | assumption
  | exact Same.refl _
  | (refine same_new ?hnn; (case hnn => assumption))
  | (refine same_push ?hs ?hnn; (case hnn => assumption); (case hs => walk_at "sm"))
  | (refine same_mut ?hs ?hnn; (case hs => walk_at "sm"); (case hnn => walk_at "fr"))
  | (refine Same.trans (H1 := ?H1) ?hs ?hq; (case hq => assumption); (case hs => walk_at "sm"))
  | fail "no rule")
local macro_rules | `(tactic| walk_at "fr") => `(tactic| first
  | assumption
  | (refine Same.free (H' := ?H1) ?hs ?hq; (case hq => assumption); (case hs => walk_at "sm"))
  | fail "no rule")
local macro_rules | `(tactic| walk_at "src") => `(tactic| first
  | assumption
  | exact Dr.src (by assumption)
  | (refine Src.same (H := ?H0) ?hs ?hm; (case hm => assumption); (case hs => walk_at "src"))
  | (refine Src.upd ?hs ?hn; (case hs => walk_at "src"); (case hn => walk_at "ne"))
  | fail "no rule")
local macro_rules | `(tactic| walk_at "fd") => `(tactic| first
  | assumption
  | (refine Same.free (H' := ?H1) ?hs ?hq; (case hq => assumption); (case hs => walk_at "sm"))
  | (refine Dr.free (H' := ?H1) ?h0 ?hs ?hq; (case hq => assumption); (case hs => walk_at "dr"); (case h0 => walk_at "src"))
  | fail "no rule")
local macro_rules | `(tactic| walk_at "dr") => `(tactic| first
  | assumption
  | (refine Dr.trans (H' := ?H1) ?hs ?hq; (case hq => assumption); (case hs => walk_at "dr"))
  | (refine Dr.mut ?hs ?h0 ?hn; (case hs => walk_at "dr"); (case h0 => walk_at "src"); (case hn => walk_at "fd"))
  | (refine Dr.trans (H' := ?H1) ?hs (Dr.same ?h0 ?hq); (case hq => assumption); (case h0 => walk_at "src"); (case hs => walk_at "dr"))
  | (refine Dr.refl ?hs; (case hs => walk_at "src"))
  | fail "no rule")
local macro_rules | `(tactic| walk_at "sz") => `(tactic| first
  | omega
  | (refine Nat.le_trans ?_ (show (1000 : Nat) ≤ sizeLine by decide); first | decide | omega | (simp; done) | (simp; omega) | fail)
  | fail "no rule")
local macro_rules | `(tactic| walk_at "v1") => `(tactic| first
  | with_reducible refine v_seq ?_
  | with_reducible refine v_asg ?_
  | with_reducible refine v_gname ?_
  | with_reducible refine v_c ?_
  | ((with_reducible refine v_var (v := ?vv) ?hv ?_); (case hv => exact rfl))
  | with_reducible refine v_op ?_
  | with_reducible refine v_un ?_
  | with_reducible refine v_I0 ?_
  | with_reducible refine v_U ?_
  | with_reducible refine v_addI ?_
  | with_reducible refine v_ltI ?_
  | with_reducible refine v_leI ?_
  | with_reducible refine v_gtI ?_
  | with_reducible refine v_geI ?_
  | with_reducible refine v_leS ?_
  | with_reducible refine v_ltS ?_
  | with_reducible refine v_eqI ?_
  | with_reducible refine v_neI ?_
  | with_reducible refine v_eqS ?_
  | with_reducible refine v_neS ?_
  | with_reducible refine v_eqB ?_
  | ((with_reducible refine v_eqTy ?h1 ?h2 ?_); (case h1 => walk_at "bt"); (case h2 => walk_at "bt"))
  | ((with_reducible refine v_neTy ?h1 ?h2 ?_); (case h1 => walk_at "bt"); (case h2 => walk_at "bt"))
  | with_reducible refine v_test ?_
  | with_reducible refine v_B ?_
  | with_reducible refine v_isbl ?_
  | with_reducible refine v_and ?_
  | with_reducible refine v_or ?_
  | with_reducible refine v_not ?_
  | with_reducible refine v_andV ?_
  | with_reducible refine v_orV ?_
  | with_reducible refine v_notV ?_
  | with_reducible refine v_if ?_
  | with_reducible refine v_chain ?_
  | with_reducible refine v_nil ?_
  | with_reducible refine v_cons ?_
  | with_reducible refine v_cb ?_
  | with_reducible refine v_call ?_
  | with_reducible refine v_max ?_
  | ((with_reducible refine v_draw ?hs ?hm ?_); (case hs => walk_at "src"); (case hm => omega))
  | with_reducible refine v_min ?_
  | with_reducible refine v_intI ?_
  | with_reducible refine v_intB ?_
  | with_reducible refine v_m1 ?_
  | with_reducible refine v_isstr ?_
  | with_reducible refine v_sl ?_
  | with_reducible refine v_ss ?_
  | with_reducible refine v_disp1 ?_
  | with_reducible refine v_s0 ?_
  | with_reducible refine v_nopart ?_
  | with_reducible refine v_part ?_
  | with_reducible refine v_partI ?_
  | with_reducible refine v_next ?_
  | with_reducible refine v_gsub ?_
  | with_reducible refine v_ifS ?_
  | with_reducible refine v_ret ?_
  | with_reducible refine v_drop ?_
  | ((with_reducible refine v_iteTrue ?hb ?_); (case hb => walk_at "bt"))
  | ((with_reducible refine v_iteFalse ?hb ?_); (case hb => walk_at "bt"))
  | with_reducible refine v_iteD ?_ ?_
  | with_reducible refine v_iteNot ?_
  | with_reducible refine v_lc ?_
  | with_reducible refine v_iStr ?_
  | with_reducible refine v_isS ?_
  | with_reducible refine v_iRng1 ?_
  | ((with_reducible refine v_rng1 ?hb ?_); (case hb => omega))
  | with_reducible refine v_iList ?_
  | with_reducible refine v_iSeq ?_
  | ((with_reducible refine v_isL (xs := ?xx) ?hsq ?_); (case hsq => walk_at "sq"))
  | with_reducible refine v_for ?_
  | with_reducible refine v_yes ?_
  | ((with_reducible refine v_nand ?hw ?_); (case hw => first | exact rfl | walk_at "sz" | fail))
  | ((with_reducible refine v_typ (T := ?TT) ?ht ?_); (case ht => walk_at "ty"))
  | ((with_reducible refine v_isiK (T := ?TT) ?ht ?h1 ?h2 ?_); (case ht => walk_at "ty"); (case h1 => walk_at "bt"); (case h2 => exact rfl))
  | with_reducible refine iteT ?_
  | with_reducible refine iteF ?_
  | with_reducible refine v_tup ?_
  | with_reducible refine v_lst ?_
  | ((with_reducible refine v_ixL (xs := ?xx) (v := ?vv) ?hsq ?hat ?_); (case hsq => walk_at "sq"); (case hat => exact rfl))
  | ((with_reducible refine v_lenL (xs := ?xx) ?hsq ?_); (case hsq => walk_at "sq"))
  | ((with_reducible refine v_setL (xs := ?xx) (j := ?jj) ?hh ?hj ?_); (case hh => walk_at "hp"); (case hj => exact rfl))
  | ((with_reducible refine v_I ?hc ?_); (case hc => walk_at "ic"))
  | ((with_reducible refine v_lenS ?hz ?_); (case hz => walk_at "sz"))
  | ((with_reducible refine v_slS ?hz ?_); (case hz => walk_at "sz"))
  | ((with_reducible refine v_addS ?hz ?_); (case hz => walk_at "sz"))
  | ((with_reducible refine v_ixS (c := ?cc) ?hz ?hat ?_); (case hz => walk_at "sz"); (case hat => exact rfl))
  | ((with_reducible refine v_addL (xs := ?xx) (ys := ?yy) ?h1 ?h2 ?hz ?_); (case h1 => walk_at "hp"); (case h2 => walk_at "hp"); (case hz => walk_at "sz"))
  | ((with_reducible refine v_ixT (xs := ?xx) (v := ?vv) ?hsq ?hat ?_); (case hsq => walk_at "sq"); (case hat => exact rfl))
  | ((with_reducible refine v_lenT (xs := ?xx) ?hsq ?_); (case hsq => walk_at "sq"))
  | ((with_reducible refine v_eq ?hs ?_); (case hs => exact rfl))
  | ((with_reducible refine v_ne ?hs ?_); (case hs => exact rfl))
  | (with_reducible intro _)
  | fail "no rule")
local macro_rules | `(tactic| walk_at "ic") => `(tactic| first
  | (show (0 : Int) < _; first | decide | omega | fail)
  | (show CMul _ _; unfold CMul; omega)
  | (show CDiv _ _; unfold CDiv; omega)
  | (show CPow _ _; unfold CPow; exact ⟨by decide, by decide, by decide⟩)
  | fail "no rule")
local macro_rules | `(tactic| walk_at "bt") => `(tactic| first
  | exact rfl
  | assumption
  | decide +kernel
  | (simp; done)
  | fail "no rule")
local macro_rules | `(tactic| walk_at "ty") => `(tactic| first
  | assumption
  | exact .non
  | exact .bl _
  | exact .int _
  | exact .str _
  | exact .lst (by walk_at "sq")
  | exact .tup (by walk_at "sq")
  | exact .dK (by walk_at "hp")
  | fail "no rule")
local macro_rules | `(tactic| walk_at "v") => `(tactic| try (walk_at "v1" <;> walk_at "v"))
local macro_rules | `(tactic| walk_at "start") => `(tactic| dsimp only [L2.start, cxOf, Cx.nox, Cx.wish, List.map, List.replicate, List.length, List.append, Nat.reduceSub, Nat.reduceAdd, List.cons_append, List.nil_append])

variable {P : Program} {w : World} {K : PySem.W.Frag} {mg : Str → Option Value} {base : Heap}
variable {aF : Addr} {es : Array DictEntry} {nF : Nat} {C fI CE cE : Addr}
/-! ### _law_codes -/
def spCodes (K : PySem.W.Frag) : Sp := fun vs H Q _ => ∃ (S : Addr → Prop) (size : Int), vs = [.int size] ∧ Old S H ∧ 1 ≤ size ∧ size ≤ 6 ∧ ∀ p xs H', Same H H' → ¬ S p → H' p = some (.lst xs) → xs.length = 16 → (∀ x ∈ xs, WrC K size (offS S H') x) → Q (.ref p) H'
def codesD (size : Int) : List Dat := [.lst [], .lst (List.replicate 41 (.tup [.str "null", .int 0])), .lst [.tup [.str "move", .int 0, .int size]], .lst [.tup [.str "jump", .int 1]], .lst [.tup [.str "null", .int 0], .tup [.str "ifnull", .int 0, .int 2]],
  .lst [.lst [.str "null", .int 0]], .lst [.tup [.str "store", .int size, .int 0, .int 0]], .lst [.tup [.str "call", .int 0, .int 0, .str "a", .str "f", .tup [.str "a"], .str "a", .tup [.int size]]], .lst [.tup [.str "null", .bl true]],
  .tup [.tup [.str "null"]], .lst [.tup [.str "array", .int 0, .str "a", .int 10]], .lst [.tup [.str "load", .int size, .int 0, .int 0]], .lst [.tup [.str "return", .int size]]]
theorem codes_bad : ∀ n : Fin 6, (codesD ((n.val : Int) + 1)).all (badB ((n.val : Int) + 1)) = true := by decide +kernel
theorem codes_wr {H : Hp} {size : Int} {d : Dat} {v : V} (h1 : 1 ≤ size) (h2 : size ≤ 6) (hd : d ∈ codesD size) (r : Rep K H d v) : WrC K size H v := by
  have e : ((((size - 1).toNat : Nat) : Int) + 1) = size := by omega
  have := codes_bad ⟨(size - 1).toNat, by omega⟩
  dsimp only at this
  rw [e] at this
  exact bad_wr (List.all_eq_true.mp this d hd) r
end K03

open PySem PySem.Spec PyProof.Rows L2 Kit
namespace K03
open K02
local macro_rules | `(tactic| walk_at "ne") => `(tactic| first
  | assumption
  | (apply Ne.symm; assumption)
  | exact ne_of_none (by assumption) (by assumption)
  | exact (ne_of_none (by assumption) (by assumption)).symm
  | (refine ne_of_none (H := ?H0) (o := ?oo) ?hs ?hn; (case hn => assumption); (case hs => walk_at "hp"))
  | (refine (ne_of_none (H := ?H0) (o := ?oo) ?hs ?hn).symm; (case hn => assumption); (case hs => walk_at "hp"))
  | (refine Src.ne (H := ?H0) ?hs ?hn; (case hn => assumption); (case hs => walk_at "src"))
  | (refine (Src.ne (H := ?H0) ?hs ?hn).symm; (case hn => assumption); (case hs => walk_at "src"))
  | fail "no rule")
local macro_rules | `(tactic| walk_at "hp") => `(tactic| first
  | assumption
  | exact upd_same
  | (refine (upd_ne ?hne).trans ?hrest; (case hne => walk_at "ne"); (case hrest => walk_at "hp"))
  | (refine same_at (H := ?H0) ?hs ?hrest; (case hs => assumption); (case hrest => walk_at "hp"))
  | (refine dr_at (H := ?H0) (a := ?a0) ?hs ?hne ?hrest; (case hs => assumption); (case hne => walk_at "ne"); (case hrest => walk_at "hp"))
  | fail "no rule")
local macro_rules | `(tactic| walk_at "sq") => `(tactic| first
  | assumption
  | exact Or.inl (Or.inl (by walk_at "hp"))
  | (refine sq_upd ?hnn ?hss; (case hnn => assumption); (case hss => walk_at "sq"))
  | (refine Same.seq (H := ?H0) ?hs ?hrest; (case hs => assumption); (case hrest => walk_at "sq"))
  | (refine sq_dr (H := ?H0) (a := ?a0) ?hs ?hne ?hrest; (case hs => assumption); (case hne => walk_at "ne"); (case hrest => walk_at "sq"))
  | fail "no rule")
local macro_rules | `(tactic| walk_at "sm") => `(tactic| first
  | assumption
  | exact Same.refl _
  | (refine same_new ?hnn; (case hnn => assumption))
  | (refine same_push ?hs ?hnn; (case hnn => assumption); (case hs => walk_at "sm"))
  | (refine same_mut ?hs ?hnn; (case hs => walk_at "sm"); (case hnn => walk_at "fr"))
  | (refine Same.trans (H1 := ?H1) ?hs ?hq; (case hq => assumption); (case hs => walk_at "sm"))
  | fail "no rule")
local macro_rules | `(tactic| walk_at "fr") => `(tactic| first
  | assumption
  | (refine Same.free (H' := ?H1) ?hs ?hq; (case hq => assumption); (case hs => walk_at "sm"))
  | fail "no rule")
local macro_rules | `(tactic| walk_at "src") => `(tactic| first
  | assumption
  | exact Dr.src (by assumption)
  | (refine Src.same (H := ?H0) ?hs ?hm; (case hm => assumption); (case hs => walk_at "src"))
  | (refine Src.upd ?hs ?hn; (case hs => walk_at "src"); (case hn => walk_at "ne"))
  | fail "no rule")
local macro_rules | `(tactic| walk_at "fd") => `(tactic| first
  | assumption
  | (refine Same.free (H' := ?H1) ?hs ?hq; (case hq => assumption); (case hs => walk_at "sm"))
  | (refine Dr.free (H' := ?H1) ?h0 ?hs ?hq; (case hq => assumption); (case hs => walk_at "dr"); (case h0 => walk_at "src"))
  | fail "no rule")
local macro_rules | `(tactic| walk_at "dr") => `(tactic| first
  | assumption
  | (refine Dr.trans (H' := ?H1) ?hs ?hq; (case hq => assumption); (case hs => walk_at "dr"))
  | (refine Dr.mut ?hs ?h0 ?hn; (case hs => walk_at "dr"); (case h0 => walk_at "src"); (case hn => walk_at "fd"))
  | (refine Dr.trans (H' := ?H1) ?hs (Dr.same ?h0 ?hq); (case hq => assumption); (case h0 => walk_at "src"); (case hs => walk_at "dr"))
  | (refine Dr.refl ?hs; (case hs => walk_at "src"))
  | fail "no rule")
local macro_rules | `(tactic| walk_at "sz") => `(tactic| first
  | omega
  | (refine Nat.le_trans ?_ (show (1000 : Nat) ≤ sizeLine by decide); first | decide | omega | (simp; done) | (simp; omega) | fail)
  | fail "no rule")
local macro_rules | `(tactic| walk_at "v1") => `(tactic| first
  | with_reducible refine v_seq ?_
  | with_reducible refine v_asg ?_
  | with_reducible refine v_gname ?_
  | with_reducible refine v_c ?_
  | ((with_reducible refine v_var (v := ?vv) ?hv ?_); (case hv => exact rfl))
  | with_reducible refine v_op ?_
  | with_reducible refine v_un ?_
  | with_reducible refine v_I0 ?_
  | with_reducible refine v_U ?_
  | with_reducible refine v_addI ?_
  | with_reducible refine v_ltI ?_
  | with_reducible refine v_leI ?_
  | with_reducible refine v_gtI ?_
  | with_reducible refine v_geI ?_
  | with_reducible refine v_leS ?_
  | with_reducible refine v_ltS ?_
  | with_reducible refine v_eqI ?_
  | with_reducible refine v_neI ?_
  | with_reducible refine v_eqS ?_
  | with_reducible refine v_neS ?_
  | with_reducible refine v_eqB ?_
  | ((with_reducible refine v_eqTy ?h1 ?h2 ?_); (case h1 => walk_at "bt"); (case h2 => walk_at "bt"))
  | ((with_reducible refine v_neTy ?h1 ?h2 ?_); (case h1 => walk_at "bt"); (case h2 => walk_at "bt"))
  | with_reducible refine v_test ?_
  | with_reducible refine v_B ?_
  | with_reducible refine v_isbl ?_
  | with_reducible refine v_and ?_
  | with_reducible refine v_or ?_
  | with_reducible refine v_not ?_
  | with_reducible refine v_andV ?_
  | with_reducible refine v_orV ?_
  | with_reducible refine v_notV ?_
  | with_reducible refine v_if ?_
  | with_reducible refine v_chain ?_
  | with_reducible refine v_nil ?_
  | with_reducible refine v_cons ?_
  | with_reducible refine v_cb ?_
  | with_reducible refine v_call ?_
  | with_reducible refine v_max ?_
  | ((with_reducible refine v_draw ?hs ?hm ?_); (case hs => walk_at "src"); (case hm => omega))
  | with_reducible refine v_min ?_
  | with_reducible refine v_intI ?_
  | with_reducible refine v_intB ?_
  | with_reducible refine v_m1 ?_
  | with_reducible refine v_isstr ?_
  | with_reducible refine v_sl ?_
  | with_reducible refine v_ss ?_
  | with_reducible refine v_disp1 ?_
  | with_reducible refine v_s0 ?_
  | with_reducible refine v_nopart ?_
  | with_reducible refine v_part ?_
  | with_reducible refine v_partI ?_
  | with_reducible refine v_next ?_
  | with_reducible refine v_gsub ?_
  | with_reducible refine v_ifS ?_
  | with_reducible refine v_ret ?_
  | with_reducible refine v_drop ?_
  | ((with_reducible refine v_iteTrue ?hb ?_); (case hb => walk_at "bt"))
  | ((with_reducible refine v_iteFalse ?hb ?_); (case hb => walk_at "bt"))
  | with_reducible refine v_iteD ?_ ?_
  | with_reducible refine v_iteNot ?_
  | with_reducible refine v_lc ?_
  | with_reducible refine v_iStr ?_
  | with_reducible refine v_isS ?_
  | with_reducible refine v_iRng1 ?_
  | ((with_reducible refine v_rng1 ?hb ?_); (case hb => omega))
  | with_reducible refine v_iList ?_
  | with_reducible refine v_iSeq ?_
  | ((with_reducible refine v_isL (xs := ?xx) ?hsq ?_); (case hsq => walk_at "sq"))
  | with_reducible refine v_for ?_
  | with_reducible refine v_yes ?_
  | ((with_reducible refine v_nand ?hw ?_); (case hw => first | exact rfl | walk_at "sz" | fail))
  | ((with_reducible refine v_typ (T := ?TT) ?ht ?_); (case ht => walk_at "ty"))
  | ((with_reducible refine v_isiK (T := ?TT) ?ht ?h1 ?h2 ?_); (case ht => walk_at "ty"); (case h1 => walk_at "bt"); (case h2 => exact rfl))
  | with_reducible refine iteT ?_
  | with_reducible refine iteF ?_
  | with_reducible refine v_tup ?_
  | with_reducible refine v_lst ?_
  | ((with_reducible refine v_ixL (xs := ?xx) (v := ?vv) ?hsq ?hat ?_); (case hsq => walk_at "sq"); (case hat => exact rfl))
  | ((with_reducible refine v_lenL (xs := ?xx) ?hsq ?_); (case hsq => walk_at "sq"))
  | ((with_reducible refine v_setL (xs := ?xx) (j := ?jj) ?hh ?hj ?_); (case hh => walk_at "hp"); (case hj => exact rfl))
  | ((with_reducible refine v_I ?hc ?_); (case hc => walk_at "ic"))
  | ((with_reducible refine v_lenS ?hz ?_); (case hz => walk_at "sz"))
  | ((with_reducible refine v_slS ?hz ?_); (case hz => walk_at "sz"))
  | ((with_reducible refine v_addS ?hz ?_); (case hz => walk_at "sz"))
  | ((with_reducible refine v_ixS (c := ?cc) ?hz ?hat ?_); (case hz => walk_at "sz"); (case hat => exact rfl))
  | ((with_reducible refine v_addL (xs := ?xx) (ys := ?yy) ?h1 ?h2 ?hz ?_); (case h1 => walk_at "hp"); (case h2 => walk_at "hp"); (case hz => walk_at "sz"))
  | ((with_reducible refine v_ixT (xs := ?xx) (v := ?vv) ?hsq ?hat ?_); (case hsq => walk_at "sq"); (case hat => exact rfl))
  | ((with_reducible refine v_lenT (xs := ?xx) ?hsq ?_); (case hsq => walk_at "sq"))
  | ((with_reducible refine v_eq ?hs ?_); (case hs => exact rfl))
  | ((with_reducible refine v_ne ?hs ?_); (case hs => exact rfl))
  | (with_reducible intro _)
  | fail "no rule")
local macro_rules | `(tactic| walk_at "ic") => `(tactic| first
  | (show (0 : Int) < _; first | decide | omega | fail)
  | (show CMul _ _; unfold CMul; omega)
  | (show CDiv _ _; unfold CDiv; omega)
  | (show CPow _ _; unfold CPow; exact ⟨by decide, by decide, by decide⟩)
  | fail "no rule")
local macro_rules | `(tactic| walk_at "bt") => `(tactic| first
  | exact rfl
  | assumption
  | decide +kernel
  | (simp; done)
  | fail "no rule")
local macro_rules | `(tactic| walk_at "ty") => `(tactic| first
  | assumption
  | exact .non
  | exact .bl _
  | exact .int _
  | exact .str _
  | exact .lst (by walk_at "sq")
  | exact .tup (by walk_at "sq")
  | exact .dK (by walk_at "hp")
  | fail "no rule")
local macro_rules | `(tactic| walk_at "v") => `(tactic| try (walk_at "v1" <;> walk_at "v"))
local macro_rules | `(tactic| walk_at "start") => `(tactic| dsimp only [L2.start, cxOf, Cx.nox, Cx.wish, List.map, List.replicate, List.length, List.append, Nat.reduceSub, Nat.reduceAdd, List.cons_append, List.nil_append])

variable {P : Program} {w : World} {K : PySem.W.Frag} {mg : Str → Option Value} {base : Heap}
variable {aF : Addr} {es : Array DictEntry} {nF : Nat} {C fI CE cE : Addr}
theorem le_sc {S : Addr → Prop} {H0 : Hp} {σ : L2.St} {size : Int} {v : V} {T : String} {e : PyData} (hd : ∀ H : Hp, TyB K H v T) (h1 : tyK T = true) (h2 : (["list", "tuple"] : List String).contains T = false) (p : scP v = some e) (ok : okP e) : LitE S H0 σ (tC v) (WrC K size) := fun H Q s k =>
  k v H (Same.refl _) ⟨.inl (.inl ⟨T, hd _, h1, h2⟩), e, .inl (.inl (scP_dp p)), ok⟩
theorem le_dT {S : Addr → Prop} {H0 : Hp} {σ : L2.St} {size : Int} (ha : Old S H0) : LitE S H0 σ (tDispT [(tTup (tCons (tC (.str "null")) (tCons (tC (.int 0)) tNil)), tC (.int 1))]) (WrC K size) := fun H Q s k p hp => by
  refine ⟨by decide, fun b hb => ?_⟩
  have np := (ha.same s).ne hp
  have npb : p ≠ b := fun z => by rw [z] at hb; rw [upd_same] at hb; cases hb
  refine ⟨by rw [upd_ne npb]; exact upd_same, b, [.inr "null", .inl 0], .int 1, rfl, upd_same, ?_⟩
  refine k (.ref p) _ (fun c o e => ?_) ⟨.inl (.inr ⟨p, _, rfl, by rw [offS_ne np]; exact upd_same⟩), _, .inr ⟨p, _, _, _, rfl, by rw [offS_ne np]; exact upd_same, rfl, rfl⟩, by unfold okP; decide +kernel⟩
  have nc : c ≠ p := ne_of_none e hp
  have nb : c ≠ b := ne_of_none (by rw [upd_ne nc]; exact e) hb
  rw [upd_ne nc, upd_ne nb, upd_ne nc]
  exact e
theorem ok_codes {f : Addr} {fd : FuncData} (F : Fun K "_law_codes" "_law_codes" s_law_codes f fd) (T : Txt K w mg aF es nF) : FnOk P w K mg base CX0 1 f fd ["_law_size"] (spCodes K) := by
  refine F.ok sc_law_codes (fun vs H Q E h => ?_) (fun cdv A outer s H vs Q E hr h => ?_)
  · obtain ⟨S, size, rfl, _⟩ := h
    rfl
  · obtain ⟨S, size, rfl, ha, h1, h2, q⟩ := h
    refine ⟨_, (pss_cons (ps_par (i := 1) (j := 2) (by rfl) sc_law_codes.nd rfl rfl (by decide) (by rfl) (by rfl) (pa_cons (pe_tup (pa_cons pe_str (pa_cons pe_int (pa_cons (pv 0) pa_nil)))) (pa_cons (pe_tup (pa_cons pe_str (pa_cons pe_int pa_nil))) pa_nil)) (by rfl))
      (pss_cons (ps_set (i := 3) sc_law_codes.nd rfl (by first | exact .inl rfl | exact .inr rfl) (pe_lst (pa_cons (pe_lst pa_nil) (pa_cons pe_non (pa_cons pe_str (pa_cons (pe_op op_rep (pe_lst (pa_cons (pe_tup (pa_cons pe_str (pa_cons pe_int pa_nil))) pa_nil)) pe_int) (pa_cons (pe_lst (pa_cons (pv 1) pa_nil)) (pa_cons (pe_lst (pa_cons (pv 2) pa_nil)) (pa_cons (pe_lst (pa_cons (pe_tup (pa_cons pe_str (pa_cons pe_int pa_nil))) (pa_cons (pe_tup (pa_cons pe_str (pa_cons pe_int (pa_cons pe_int pa_nil)))) pa_nil))) (pa_cons (pe_lst (pa_cons (pe_lst (pa_cons pe_str (pa_cons pe_int pa_nil))) pa_nil)) pa_nil))))))))))
      (pss_cons (ps_set (i := 3) sc_law_codes.nd rfl (by first | exact .inl rfl | exact .inr rfl) (pe_op (kAdd (K := K) rfl) (pv 3) (pe_lst (pa_cons (pe_lst (pa_cons (pe_tup (pa_cons pe_str (pa_cons (pv 0) (pa_cons pe_int (pa_cons pe_int pa_nil))))) pa_nil)) (pa_cons (pe_lst (pa_cons (pe_tup (pa_cons pe_str (pa_cons pe_int (pa_cons pe_int (pa_cons pe_str (pa_cons pe_str (pa_cons (pe_tup (pa_cons pe_str pa_nil)) (pa_cons pe_str (pa_cons (pe_tup (pa_cons (pv 0) pa_nil)) pa_nil))))))))) pa_nil)) (pa_cons (pe_lst (pa_cons (pe_tup (pa_cons pe_str (pa_cons pe_bl pa_nil))) pa_nil)) pa_nil))))))
      (pss_one (ps_ret (pe_op (kAdd (K := K) rfl) (pv 3) (pe_lst (pa_cons (pe_dispT hr.units (pe_tup (pa_cons pe_str (pa_cons pe_int pa_nil))) pe_int) (pa_cons (pe_tup (pa_cons (pe_tup (pa_cons pe_str pa_nil)) pa_nil)) (pa_cons (pe_lst (pa_cons (pe_tup (pa_cons pe_str (pa_cons pe_int (pa_cons pe_str (pa_cons pe_int pa_nil))))) pa_nil)) (pa_cons (pe_lst (pa_cons (pe_tup (pa_cons pe_str (pa_cons (pv 0) (pa_cons pe_int (pa_cons pe_int pa_nil))))) pa_nil)) (pa_cons (pe_lst (pa_cons (pe_tup (pa_cons pe_str (pa_cons (pv 0) pa_nil))) pa_nil)) pa_nil)))))))))))), ?_⟩
    walk_at "start"
    refine v_seq (v_par ?_)
    refine v_litDs (K := K) (S := S) (H0 := H) (ds := [.tup [.str "move", .int 0, .int size], .tup [.str "jump", .int 1]]) ?_ (Same.refl _) fun xs H1 s1 r1 => ?_
    · exact lds_cons (ld_tup ha (lds_cons ld_str (lds_cons ld_int (lds_cons (ld_var (i := 0) (d := .int size) rfl) lds_nil)))) (lds_cons (ld_tup ha (lds_cons ld_str (lds_cons ld_int lds_nil))) lds_nil)
    obtain ⟨x, _, rfl, rx, y, _, rfl, ry, rfl⟩ := r1
    refine ⟨x, y, rfl, ?_⟩
    have a1 := ha.same s1
    have wr : ∀ {σ : L2.St} {te : TE} {d : Dat} {H2 : Hp}, LitD K S H2 σ te d → d ∈ codesD size → LitE S H2 σ te (WrC K size) := fun l m => le_of l fun H v r => codes_wr h1 h2 m r
    dsimp only
    refine v_seq (v_asg ?_)
    refine v_lit (n := 8) (E := WrC K size) a1 ?_ mo_wrc (Same.refl _) (by decide) fun p3 xs3 H3 s3 n3 e3 l3 w3 => ?_
    · exact les_cons (wr (ld_lst a1 lds_nil) (by simp [codesD])) mo_wrc (les_cons (le_sc (fun _ => .non) rfl rfl rfl (by unfold okP; decide +kernel)) mo_wrc (les_cons (le_sc (fun _ => .str _) rfl rfl rfl (by unfold okP; decide +kernel)) mo_wrc
      (les_cons (wr (ld_mul (n := 41) a1 (by decide) (ld_tup a1 (lds_cons ld_str (lds_cons ld_int lds_nil)))) (by simp [codesD])) mo_wrc
      (les_cons (wr (ld_lst a1 (lds_cons (ld_var (i := 1) rx) lds_nil)) (by simp [codesD])) mo_wrc (les_cons (wr (ld_lst a1 (lds_cons (ld_var (i := 2) ry) lds_nil)) (by simp [codesD])) mo_wrc
      (les_cons (wr (ld_lst a1 (lds_cons (ld_tup a1 (lds_cons ld_str (lds_cons ld_int lds_nil))) (lds_cons (ld_tup a1 (lds_cons ld_str (lds_cons ld_int (lds_cons ld_int lds_nil)))) lds_nil))) (by simp [codesD])) mo_wrc
      (les_cons (wr (ld_lst a1 (lds_cons (ld_lst a1 (lds_cons ld_str (lds_cons ld_int lds_nil))) lds_nil)) (by simp [codesD])) mo_wrc les_nil)))))))
    refine v_gname (v_next ?_)
    dsimp only
    refine v_seq (v_asg (v_op (v_var rfl ?_)))
    have a3 := a1.same s3
    refine v_lit (n := 3) (E := WrC K size) a3 ?_ mo_wrc (Same.refl _) (by decide) fun p4 xs4 H4 s4 n4 e4 l4 w4 => ?_
    · exact les_cons (wr (ld_lst a3 (lds_cons (ld_tup a3 (lds_cons ld_str (lds_cons (ld_var (i := 0) (d := .int size) rfl) (lds_cons ld_int (lds_cons ld_int lds_nil))))) lds_nil)) (by simp [codesD])) mo_wrc
        (les_cons (wr (ld_lst a3 (lds_cons (ld_tup a3 (lds_cons ld_str (lds_cons ld_int (lds_cons ld_int (lds_cons ld_str (lds_cons ld_str (lds_cons (ld_tup a3 (lds_cons ld_str lds_nil)) (lds_cons ld_str (lds_cons (ld_tup a3 (lds_cons (ld_var (i := 0) (d := .int size) rfl) lds_nil)) lds_nil))))))))) lds_nil)) (by simp [codesD])) mo_wrc
        (les_cons (wr (ld_lst a3 (lds_cons (ld_tup a3 (lds_cons ld_str (lds_cons ld_bl lds_nil))) lds_nil)) (by simp [codesD])) mo_wrc les_nil))
    have z := small1000 (show 16 ≤ 1000 by decide)
    refine v_addL (s4 _ _ e3) e4 (by omega) fun p5 hp5 => ?_
    have s5 := same_new (o := .lst (xs3 ++ xs4)) hp5
    have n5 : ¬ S p5 := (a3.same s4).ne hp5
    have a5 := (a3.same s4).same s5
    have w5 : ∀ x ∈ xs3 ++ xs4, WrC K size (offS S (upd H4 p5 (.lst (xs3 ++ xs4)))) x := fun x hx => (List.mem_append.mp hx).elim (fun h => mo_wrc (same_offS (s4.trans s5)) (w3 x h)) fun h => mo_wrc (same_offS s5) (w4 x h)
    have e5 : upd H4 p5 (.lst (xs3 ++ xs4)) p5 = some (.lst (xs3 ++ xs4)) := upd_same
    have l5 : (xs3 ++ xs4).length = 11 := by rw [List.length_append, l3, l4]
    have s05 := ((s1.trans s3).trans s4).trans s5
    revert w5 e5 l5 s05 a5
    generalize upd H4 p5 (.lst (xs3 ++ xs4)) = H5
    generalize xs3 ++ xs4 = xs5
    intro a5 w5 e5 l5 s05
    refine v_gname (v_next ?_)
    dsimp only
    refine v_ret (v_op (v_var rfl ?_))
    refine v_lit (n := 5) (E := WrC K size) a5 ?_ mo_wrc (Same.refl _) (by decide) fun p6 xs6 H6 s6 n6 e6 l6 w6 => ?_
    · exact les_cons (le_dT a5) mo_wrc (les_cons (wr (ld_tup a5 (lds_cons (ld_tup a5 (lds_cons ld_str lds_nil)) lds_nil)) (by simp [codesD])) mo_wrc
        (les_cons (wr (ld_lst a5 (lds_cons (ld_tup a5 (lds_cons ld_str (lds_cons ld_int (lds_cons ld_str (lds_cons ld_int lds_nil))))) lds_nil)) (by simp [codesD])) mo_wrc
        (les_cons (wr (ld_lst a5 (lds_cons (ld_tup a5 (lds_cons ld_str (lds_cons (ld_var (i := 0) (d := .int size) rfl) (lds_cons ld_int (lds_cons ld_int lds_nil))))) lds_nil)) (by simp [codesD])) mo_wrc
        (les_cons (wr (ld_lst a5 (lds_cons (ld_tup a5 (lds_cons ld_str (lds_cons (ld_var (i := 0) (d := .int size) rfl) lds_nil))) lds_nil)) (by simp [codesD])) mo_wrc les_nil))))
    refine v_addL (s6 _ _ e5) e6 (by omega) fun p7 hp7 => ?_
    have s7 := same_new (o := .lst (xs5 ++ xs6)) hp7
    exact q p7 (xs5 ++ xs6) _ ((s05.trans s6).trans s7) ((a5.same s6).ne hp7) upd_same (by rw [List.length_append, l5, l6]) fun x hx => (List.mem_append.mp hx).elim (fun h => mo_wrc (same_offS (s6.trans s7)) (w5 x h)) fun h => mo_wrc (same_offS s7) (w6 x h)
end K03

open PySem PySem.Spec PyProof.Rows L2 Kit
namespace Kit
/-- a property of a class of the top, ready to be read -/
structure PropCal (P : Program) (w : World) (K : PySem.W.Frag) (mg : Str → Option Value) (base : Heap) (k : Nat) (C : Addr) (f : Str) (sp : Sp) : Prop where
  ex : ∃ (p g : Addr) (fd : FuncData), Cls K C ∧ PropOf K C f p g ∧ FnOk P w K mg base CX0 k g fd ["self"] sp ∧ Binds K fd ["self"] []
theorem pprop {X : Cx} {C : Addr} {f : Str} {k j : Nat} {sp : Sp} {e : Expr} {pos : Pos} {ta : TE} (M : PropCal X.prog X.w X.K X.mg X.base k C f sp) (hr : Room j X.A) (hk : k + 1 ≤ j) (he : PE X e ta) (hab : attributeBase e f X.env (eval e X.env) = eval e X.env := by rfl) :
    PE X (.Attribute e f pos) (tProp C sp [] E0 ta) := by
  obtain ⟨p, g, fd, c, h, F, hb⟩ := M.ex
  exact pe_prop he c h F (hr.mono hk) hb .nil pass0 hab
theorem v_prop {σ : L2.St} {H : Hp} {Q : VK} {C : Addr} {sp : Sp} {dvs : List V} {E : XK} {ta : TE} (k : ta σ H fun x H1 => ∃ a dx fs, x = .ref a ∧ H1 a = some (.ins C dx fs) ∧ sp (.ref a :: dvs) H1 Q E) : tProp C sp dvs E ta σ H Q := k
end Kit
namespace K03
open K02
local macro_rules | `(tactic| walk_at "ne") => `(tactic| first
  | assumption
  | (apply Ne.symm; assumption)
  | exact ne_of_none (by assumption) (by assumption)
  | exact (ne_of_none (by assumption) (by assumption)).symm
  | (refine ne_of_none (H := ?H0) (o := ?oo) ?hs ?hn; (case hn => assumption); (case hs => walk_at "hp"))
  | (refine (ne_of_none (H := ?H0) (o := ?oo) ?hs ?hn).symm; (case hn => assumption); (case hs => walk_at "hp"))
  | (refine Src.ne (H := ?H0) ?hs ?hn; (case hn => assumption); (case hs => walk_at "src"))
  | (refine (Src.ne (H := ?H0) ?hs ?hn).symm; (case hn => assumption); (case hs => walk_at "src"))
  | fail "no rule")
local macro_rules | `(tactic| walk_at "hp") => `(tactic| first
  | assumption
  | exact upd_same
  | (refine (upd_ne ?hne).trans ?hrest; (case hne => walk_at "ne"); (case hrest => walk_at "hp"))
  | (refine same_at (H := ?H0) ?hs ?hrest; (case hs => assumption); (case hrest => walk_at "hp"))
  | (refine dr_at (H := ?H0) (a := ?a0) ?hs ?hne ?hrest; (case hs => assumption); (case hne => walk_at "ne"); (case hrest => walk_at "hp"))
  | fail "no rule")
local macro_rules | `(tactic| walk_at "sq") => `(tactic| first
  | assumption
  | exact Or.inl (Or.inl (by walk_at "hp"))
  | (refine sq_upd ?hnn ?hss; (case hnn => assumption); (case hss => walk_at "sq"))
  | (refine Same.seq (H := ?H0) ?hs ?hrest; (case hs => assumption); (case hrest => walk_at "sq"))
  | (refine sq_dr (H := ?H0) (a := ?a0) ?hs ?hne ?hrest; (case hs => assumption); (case hne => walk_at "ne"); (case hrest => walk_at "sq"))
  | fail "no rule")
local macro_rules | `(tactic| walk_at "sm") => `(tactic| first
  | assumption
  | exact Same.refl _
  | (refine same_new ?hnn; (case hnn => assumption))
  | (refine same_push ?hs ?hnn; (case hnn => assumption); (case hs => walk_at "sm"))
  | (refine same_mut ?hs ?hnn; (case hs => walk_at "sm"); (case hnn => walk_at "fr"))
  | (refine Same.trans (H1 := ?H1) ?hs ?hq; (case hq => assumption); (case hs => walk_at "sm"))
  | fail "no rule")
local macro_rules | `(tactic| walk_at "fr") => `(tactic| first
  | assumption
  | (refine Same.free (H' := ?H1) ?hs ?hq; (case hq => assumption); (case hs => walk_at "sm"))
  | fail "no rule")
local macro_rules | `(tactic| walk_at "src") => `(tactic| first
  | assumption
  | exact Dr.src (by assumption)
  | (refine Src.same (H := ?H0) ?hs ?hm; (case hm => assumption); (case hs => walk_at "src"))
  | (refine Src.upd ?hs ?hn; (case hs => walk_at "src"); (case hn => walk_at "ne"))
  | fail "no rule")
local macro_rules | `(tactic| walk_at "fd") => `(tactic| first
  | assumption
  | (refine Same.free (H' := ?H1) ?hs ?hq; (case hq => assumption); (case hs => walk_at "sm"))
  | (refine Dr.free (H' := ?H1) ?h0 ?hs ?hq; (case hq => assumption); (case hs => walk_at "dr"); (case h0 => walk_at "src"))
  | fail "no rule")
local macro_rules | `(tactic| walk_at "dr") => `(tactic| first
  | assumption
  | (refine Dr.trans (H' := ?H1) ?hs ?hq; (case hq => assumption); (case hs => walk_at "dr"))
  | (refine Dr.mut ?hs ?h0 ?hn; (case hs => walk_at "dr"); (case h0 => walk_at "src"); (case hn => walk_at "fd"))
  | (refine Dr.trans (H' := ?H1) ?hs (Dr.same ?h0 ?hq); (case hq => assumption); (case h0 => walk_at "src"); (case hs => walk_at "dr"))
  | (refine Dr.refl ?hs; (case hs => walk_at "src"))
  | fail "no rule")
local macro_rules | `(tactic| walk_at "sz") => `(tactic| first
  | omega
  | (refine Nat.le_trans ?_ (show (1000 : Nat) ≤ sizeLine by decide); first | decide | omega | (simp; done) | (simp; omega) | fail)
  | fail "no rule")
local macro_rules | `(tactic| walk_at "v1") => `(tactic| first
  | with_reducible refine v_seq ?_
  | with_reducible refine v_asg ?_
  | with_reducible refine v_gname ?_
  | with_reducible refine v_c ?_
  | ((with_reducible refine v_var (v := ?vv) ?hv ?_); (case hv => exact rfl))
  | with_reducible refine v_op ?_
  | with_reducible refine v_un ?_
  | with_reducible refine v_I0 ?_
  | with_reducible refine v_U ?_
  | with_reducible refine v_addI ?_
  | with_reducible refine v_ltI ?_
  | with_reducible refine v_leI ?_
  | with_reducible refine v_gtI ?_
  | with_reducible refine v_geI ?_
  | with_reducible refine v_leS ?_
  | with_reducible refine v_ltS ?_
  | with_reducible refine v_eqI ?_
  | with_reducible refine v_neI ?_
  | with_reducible refine v_eqS ?_
  | with_reducible refine v_neS ?_
  | with_reducible refine v_eqB ?_
  | ((with_reducible refine v_eqTy ?h1 ?h2 ?_); (case h1 => walk_at "bt"); (case h2 => walk_at "bt"))
  | ((with_reducible refine v_neTy ?h1 ?h2 ?_); (case h1 => walk_at "bt"); (case h2 => walk_at "bt"))
  | with_reducible refine v_test ?_
  | with_reducible refine v_B ?_
  | with_reducible refine v_isbl ?_
  | with_reducible refine v_and ?_
  | with_reducible refine v_or ?_
  | with_reducible refine v_not ?_
  | with_reducible refine v_andV ?_
  | with_reducible refine v_orV ?_
  | with_reducible refine v_notV ?_
  | with_reducible refine v_if ?_
  | with_reducible refine v_chain ?_
  | with_reducible refine v_nil ?_
  | with_reducible refine v_cons ?_
  | with_reducible refine v_cb ?_
  | with_reducible refine v_call ?_
  | with_reducible refine v_max ?_
  | ((with_reducible refine v_draw ?hs ?hm ?_); (case hs => walk_at "src"); (case hm => omega))
  | with_reducible refine v_min ?_
  | with_reducible refine v_intI ?_
  | with_reducible refine v_intB ?_
  | with_reducible refine v_m1 ?_
  | with_reducible refine v_isstr ?_
  | with_reducible refine v_sl ?_
  | with_reducible refine v_ss ?_
  | with_reducible refine v_disp1 ?_
  | with_reducible refine v_s0 ?_
  | with_reducible refine v_nopart ?_
  | with_reducible refine v_part ?_
  | with_reducible refine v_partI ?_
  | with_reducible refine v_next ?_
  | with_reducible refine v_gsub ?_
  | with_reducible refine v_ifS ?_
  | with_reducible refine v_ret ?_
  | with_reducible refine v_drop ?_
  | ((with_reducible refine v_iteTrue ?hb ?_); (case hb => walk_at "bt"))
  | ((with_reducible refine v_iteFalse ?hb ?_); (case hb => walk_at "bt"))
  | with_reducible refine v_iteD ?_ ?_
  | with_reducible refine v_iteNot ?_
  | with_reducible refine v_lc ?_
  | with_reducible refine v_iStr ?_
  | with_reducible refine v_isS ?_
  | with_reducible refine v_iRng1 ?_
  | ((with_reducible refine v_rng1 ?hb ?_); (case hb => omega))
  | with_reducible refine v_iList ?_
  | with_reducible refine v_iSeq ?_
  | ((with_reducible refine v_isL (xs := ?xx) ?hsq ?_); (case hsq => walk_at "sq"))
  | with_reducible refine v_for ?_
  | with_reducible refine v_yes ?_
  | ((with_reducible refine v_nand ?hw ?_); (case hw => first | exact rfl | walk_at "sz" | fail))
  | ((with_reducible refine v_typ (T := ?TT) ?ht ?_); (case ht => walk_at "ty"))
  | ((with_reducible refine v_isiK (T := ?TT) ?ht ?h1 ?h2 ?_); (case ht => walk_at "ty"); (case h1 => walk_at "bt"); (case h2 => exact rfl))
  | with_reducible refine iteT ?_
  | with_reducible refine iteF ?_
  | with_reducible refine v_tup ?_
  | with_reducible refine v_lst ?_
  | ((with_reducible refine v_ixL (xs := ?xx) (v := ?vv) ?hsq ?hat ?_); (case hsq => walk_at "sq"); (case hat => exact rfl))
  | ((with_reducible refine v_lenL (xs := ?xx) ?hsq ?_); (case hsq => walk_at "sq"))
  | ((with_reducible refine v_setL (xs := ?xx) (j := ?jj) ?hh ?hj ?_); (case hh => walk_at "hp"); (case hj => exact rfl))
  | ((with_reducible refine v_I ?hc ?_); (case hc => walk_at "ic"))
  | ((with_reducible refine v_lenS ?hz ?_); (case hz => walk_at "sz"))
  | ((with_reducible refine v_slS ?hz ?_); (case hz => walk_at "sz"))
  | ((with_reducible refine v_addS ?hz ?_); (case hz => walk_at "sz"))
  | ((with_reducible refine v_ixS (c := ?cc) ?hz ?hat ?_); (case hz => walk_at "sz"); (case hat => exact rfl))
  | ((with_reducible refine v_addL (xs := ?xx) (ys := ?yy) ?h1 ?h2 ?hz ?_); (case h1 => walk_at "hp"); (case h2 => walk_at "hp"); (case hz => walk_at "sz"))
  | ((with_reducible refine v_ixT (xs := ?xx) (v := ?vv) ?hsq ?hat ?_); (case hsq => walk_at "sq"); (case hat => exact rfl))
  | ((with_reducible refine v_lenT (xs := ?xx) ?hsq ?_); (case hsq => walk_at "sq"))
  | ((with_reducible refine v_eq ?hs ?_); (case hs => exact rfl))
  | ((with_reducible refine v_ne ?hs ?_); (case hs => exact rfl))
  | (with_reducible intro _)
  | fail "no rule")
local macro_rules | `(tactic| walk_at "ic") => `(tactic| first
  | (show (0 : Int) < _; first | decide | omega | fail)
  | (show CMul _ _; unfold CMul; omega)
  | (show CDiv _ _; unfold CDiv; omega)
  | (show CPow _ _; unfold CPow; exact ⟨by decide, by decide, by decide⟩)
  | fail "no rule")
local macro_rules | `(tactic| walk_at "bt") => `(tactic| first
  | exact rfl
  | assumption
  | decide +kernel
  | (simp; done)
  | fail "no rule")
local macro_rules | `(tactic| walk_at "ty") => `(tactic| first
  | assumption
  | exact .non
  | exact .bl _
  | exact .int _
  | exact .str _
  | exact .lst (by walk_at "sq")
  | exact .tup (by walk_at "sq")
  | exact .dK (by walk_at "hp")
  | fail "no rule")
local macro_rules | `(tactic| walk_at "v") => `(tactic| try (walk_at "v1" <;> walk_at "v"))
local macro_rules | `(tactic| walk_at "start") => `(tactic| dsimp only [L2.start, cxOf, Cx.nox, Cx.wish, List.map, List.replicate, List.length, List.append, Nat.reduceSub, Nat.reduceAdd, List.cons_append, List.nil_append])

variable {P : Program} {w : World} {K : PySem.W.Frag} {mg : Str → Option Value} {base : Heap}
variable {aF : Addr} {es : Array DictEntry} {nF : Nat} {C fI CE cE : Addr}
/-! ### _law_wrongs -/
def Shn (K : PySem.W.Frag) : Pr := fun H v => ∃ d, Sh3 K H v d ∧ okP d
def W0 (K : PySem.W.Frag) : Pr := fun H v => (∃ d, Rep K H d v ∧ okD d ∧ nmD d = false) ∧ Shn K H v
def W1 (K : PySem.W.Frag) : Pr := fun H v => WrPars K H v ∧ Shn K H v
def W2 (K : PySem.W.Frag) : Pr := fun H v => (∃ d, Rep K H d v ∧ okD d ∧ tpD d = false) ∧ Shn K H v
def W3 (K : PySem.W.Frag) (m : Nat) : Pr := fun H v => (∃ d, Rep K H d v ∧ numD (1 + (m : Int)) 10 d = false) ∧ Shn K H v
theorem mo_shn : Mo (Shn K) := fun s h => h.imp fun d h => ⟨h.1.same s, h.2⟩
theorem mo_w0 : Mo (W0 K) := fun s h => ⟨h.1.imp fun d h => ⟨h.1.same s, h.2⟩, mo_shn s h.2⟩
theorem mo_w1 : Mo (W1 K) := fun s h => ⟨h.1.imp (nonseq_same s) fun ⟨l, x, y⟩ => ⟨l, seq2_same s x, y⟩, mo_shn s h.2⟩
theorem mo_w2 : Mo (W2 K) := fun s h => ⟨h.1.imp fun d h => ⟨h.1.same s, h.2⟩, mo_shn s h.2⟩
theorem mo_w3 {m : Nat} : Mo (W3 K m) := fun s h => ⟨h.1.imp fun d h => ⟨h.1.same s, h.2⟩, mo_shn s h.2⟩
theorem shn_of {H : Hp} {d : Dat} {v : V} (h : (goodB d && shownB d) = true) (r : Rep K H d v) : Shn K H v := by
  rw [Bool.and_eq_true] at h
  exact ⟨_, .inl (.inl (rep_dp h.1 r)), shown_ok h.2⟩
theorem l_w0 {S : Addr → Prop} {H0 : Hp} {σ : L2.St} {te : TE} {d : Dat} (l : LitD K S H0 σ te d) (h : (goodB d && shownB d) = true := by decide +kernel) (n : nmD d = false := by decide +kernel) : LitE S H0 σ te (W0 K) :=
  le_of l fun H v r => ⟨⟨d, r, good_ok ((Bool.and_eq_true _ _).mp h).1, n⟩, shn_of h r⟩
theorem l_w1 {S : Addr → Prop} {H0 : Hp} {σ : L2.St} {te : TE} {ds : List Dat} (l : LitD K S H0 σ te (.lst ds)) (h : (goodB (.lst ds) && shownB (.lst ds)) = true := by decide +kernel) (n : (decide ((ds.length : Int) ≤ 4) && ds.all tpD) = false := by decide +kernel) : LitE S H0 σ te (W1 K) :=
  le_of l fun H v r => by
    have o : okD (.lst ds) := good_ok ((Bool.and_eq_true _ _).mp h).1
    exact ⟨.inr ⟨ds, .inr r, o.2, o.1, n⟩, shn_of h r⟩
theorem l_w1s {S : Addr → Prop} {H0 : Hp} {σ : L2.St} {v : V} {T : String} {e : PyData} (hd : ∀ H : Hp, TyB K H v T) (p : scP v = some e) (h1 : tyK T = true := by rfl) (h2 : (["list", "tuple"] : List String).contains T = false := by rfl) (ok : okP e := by unfold okP; decide +kernel) : LitE S H0 σ (tC v) (W1 K) := fun H Q s k =>
  k v H (Same.refl _) ⟨.inl (.inl ⟨T, hd _, h1, h2⟩), e, .inl (.inl (scP_dp p)), ok⟩
theorem l_w2 {S : Addr → Prop} {H0 : Hp} {σ : L2.St} {te : TE} {d : Dat} (l : LitD K S H0 σ te d) (h : (goodB d && shownB d) = true := by decide +kernel) (n : tpD d = false := by decide +kernel) : LitE S H0 σ te (W2 K) :=
  le_of l fun H v r => ⟨⟨d, r, good_ok ((Bool.and_eq_true _ _).mp h).1, n⟩, shn_of h r⟩
theorem l_w3 {S : Addr → Prop} {H0 : Hp} {σ : L2.St} {te : TE} {d : Dat} {m : Nat} (l : LitD K S H0 σ te d) (n : numD (1 + (m : Int)) 10 d = false) (h : (goodB d && shownB d) = true := by decide +kernel) : LitE S H0 σ te (W3 K m) :=
  le_of l fun H v r => ⟨⟨d, r, n⟩, shn_of h r⟩
theorem l_dK {S : Addr → Prop} {H0 : Hp} {σ : L2.St} (ha : Old S H0) : LitE S H0 σ (tDisp [(tC (.str "a"), tC (.int 1))]) (W1 K) := fun H Q s k => v_disp1 fun p hp => by
  have np := (ha.same s).ne hp
  have e : offS S (upd H p (.dK [(Sum.inr "a", .int 1)])) p = some (.dK [(Sum.inr "a", .int 1)]) := by rw [offS_ne np]; exact upd_same
  exact k (.ref p) _ (same_new hp) ⟨.inl (.inl ⟨"dict", .dK e, rfl, rfl⟩), _, .inl (.inr (.inl (.inr ⟨p, _, _, rfl, e, rfl, rfl⟩))), by unfold okP; decide +kernel⟩
/-- one of a display of written things, picked -/
theorem v_pickLit {S : Addr → Prop} {a : Addr} {E : Pr} {n i : Nat} {σ : L2.St} {H : Hp} {Q : VK} {ta : TA} (hs : Src a H) (hS : S a) (hO : Old S H) (hi : σ[i]? = some (some (.ref a))) (h : LitEs S H σ ta E n) (m : Mo E) (h0 : 0 < n) (hz : n ≤ 1000) (k : ∀ y H', Dr a H H' → E (offS S H') y → Q y H') :
    tCall (spPick K) [] E0 (tCons (tVar i) (tCons (tLst ta) tNil)) σ H Q :=
  v_call (v_cons (Kit.v_var hi (v_cons (v_lit hO h m (Same.refl _) hz fun p xs H1 s1 np e l w =>
    v_nil ⟨a, p, xs, rfl, hs.same s1, fun z => np (by rw [z]; exact hS), sq_lst e, by omega, by omega, fun y H2 hy d => k y H2 ((Dr.same hs s1).trans d) (m (dr_offS hS d) (w y hy))⟩))))
def two (a p : Addr) : Addr → Prop := fun b => b = a ∨ b = p
theorem off_two {a p : Addr} {H : Hp} {o : HO} (hp : H p = none) : Same (offS (· = a) H) (offS (two a p) (upd H p o)) := fun b u e => by
  obtain ⟨n, e⟩ := offS_at e
  have np := ne_of_none e hp
  rw [offS_ne (S := two a p) (fun z => z.elim n np), upd_ne np]
  exact e
theorem two_off {a p : Addr} {H : Hp} : Same (offS (two a p) H) (off a H) := fun b u e => by
  obtain ⟨n, e⟩ := offS_at e
  rw [off_ne (fun z => n (.inl z))]
  exact e
/-- a list that grows beside the source -/
structure Gr (a p : Addr) (H0 H : Hp) (xs : List V) : Prop where
  s0 : Src a H0
  d0 : Dr a H0 H
  f0 : H0 p = none
  at' : H p = some (.lst xs)
theorem Gr.ne {a p : Addr} {H0 H : Hp} {xs : List V} (G : Gr a p H0 H xs) : p ≠ a := (G.s0.ne G.f0).symm
theorem Gr.old {a p : Addr} {H0 H : Hp} {xs : List V} (G : Gr a p H0 H xs) : Old (two a p) H := fun b z => by
  rcases z with rfl | rfl
  · obtain ⟨n, s, e, _⟩ := G.d0.src
    exact ⟨_, e⟩
  · exact ⟨_, G.at'⟩
theorem v_app {a p : Addr} {H0 H : Hp} {xs : List V} {E : Pr} {n i j : Nat} {σ : L2.St} {D : Ends} {ta : TA} (G : Gr a p H0 H xs) (hl : xs.length ≤ 100) (hi : σ[i]? = some (some (.ref a))) (hj : σ[j]? = some (some (.ref p))) (h : LitEs (two a p) H σ ta E n) (m : Mo E) (h0 : 0 < n) (hz : n ≤ 1000)
    (k : ∀ y H', Gr a p H0 H' (xs ++ [y]) → Same (offS (two a p) H) (offS (two a p) H') → E (offS (two a p) H') y → D.nx σ H') :
    tDrop (tBM K "list" rAppend (tVar j) (tCons (tCall (spPick K) [] E0 (tCons (tVar i) (tCons (tLst ta) tNil))) tNil)) D σ H :=
  v_drop (v_tBM (Kit.v_var hj ⟨.inl ⟨rfl, xs, sq_lst G.at'⟩, v_cons (v_pickLit (S := two a p) G.d0.src (.inl rfl) G.old hi h m h0 hz fun y H1 d e =>
    v_nil ⟨p, xs, y, rfl, rfl, d.keep _ _ G.at' G.ne, small1000 (by omega), k y _ ⟨G.s0, (G.d0.trans d).mut G.s0 G.f0, G.f0, upd_same⟩ (by rw [offS_upd (S := two a p) (.inr rfl)]; exact dr_offS (.inl rfl) d) (by rw [offS_upd (S := two a p) (.inr rfl)]; exact e)⟩)⟩))
def spWrongs (K : PySem.W.Frag) (C : Addr) : Sp := fun vs H Q _ => ∃ (a x : Addr) (n : Str) (ks : List Str) (t : Str) (size : Int) (l : List Dat), vs = [.ref a, .ref x] ∧ Src a H ∧ MethAt K C (off a H) x n ks t size l ∧ ks.length ≤ 2 ∧ 1 ≤ size ∧ size ≤ 6 ∧
  ∀ p H' w0 w1 w2 w3 w4, Dr a H H' → p ≠ a → H' p = some (.lst [w0, w1, w2, w3, w4]) → W0 K (off a H') w0 → W1 K (off a H') w1 → W2 K (off a H') w2 → W3 K ks.length (off a H') w3 → WrC K size (off a H') w4 → Q (.ref p) H'
theorem ok_wrongs {f : Addr} {fd : FuncData} (F : Fun K "_law_wrongs" "_law_wrongs" s_law_wrongs f fd) (T : Txt K w mg aF es nF) (C_law_pick : Cal P w K mg base 2 "_law_pick" ["_law_source_here", "_law_items"] (spPick K)) (C_law_codes : Cal P w K mg base 1 "_law_codes" ["_law_size"] (spCodes K))
    (C_params : PropCal P w K mg base 1 C "params" (getSp C "_params")) (C_size : PropCal P w K mg base 1 C "size" (getSp C "_size")) : FnOk P w K mg base CX0 3 f fd ["_law_source_here", "_law_method_here"] (spWrongs K C) := by
  refine F.ok sc_law_wrongs (fun vs H Q E h => ?_) (fun cdv A outer s H vs Q E hr h => ?_)
  · obtain ⟨a, x, n, ks, t, size, l, rfl, _⟩ := h
    rfl
  · obtain ⟨a, x, n, ks, t, size, l, rfl, hs, hM, hk, h1, h2, q⟩ := h
    refine ⟨_, (pss_cons (ps_set (i := 2) sc_law_wrongs.nd rfl (by first | exact .inl rfl | exact .inr rfl) (pe_lst (pa_cons (pcall C_law_pick hr (by omega) (by rfl) (pa_cons (pv 0) (pa_cons (pe_lst (pa_cons pe_non (pa_cons pe_str (pa_cons pe_str (pa_cons pe_int (pa_cons pe_str (pa_cons pe_str pa_nil))))))) pa_nil))) pa_nil)))
      (pss_cons (ps_expr (pe_bm PySem.F.plainAttrs_list PySem.F.slot_list_append PySem.F.type_list_append mt_append (pv 2) (pa_cons (pcall C_law_pick hr (by omega) (by rfl) (pa_cons (pv 0) (pa_cons (pe_lst (pa_cons pe_non (pa_cons pe_str (pa_cons (pe_lst (pa_cons pe_non pa_nil)) (pa_cons (pe_lst (pa_cons pe_str pa_nil)) (pa_cons (pe_op op_rep (pe_lst (pa_cons pe_str pa_nil)) pe_int) (pa_cons (pe_disp (pps_cons pe_str pe_int pps_nil) (by rfl) (by rfl) (fun z => by cases z) (by decide)) (pa_cons (pe_lst (pa_cons (pe_lst (pa_cons pe_str pa_nil)) pa_nil)) pa_nil)))))))) pa_nil))) pa_nil)))
      (pss_cons (ps_expr (pe_bm PySem.F.plainAttrs_list PySem.F.slot_list_append PySem.F.type_list_append mt_append (pv 2) (pa_cons (pcall C_law_pick hr (by omega) (by rfl) (pa_cons (pv 0) (pa_cons (pe_lst (pa_cons pe_non (pa_cons pe_str (pa_cons pe_str (pa_cons pe_str (pa_cons pe_int pa_nil)))))) pa_nil))) pa_nil)))
      (pss_cons (ps_expr (pe_bm PySem.F.plainAttrs_list PySem.F.slot_list_append PySem.F.type_list_append mt_append (pv 2) (pa_cons (pcall C_law_pick hr (by omega) (by rfl) (pa_cons (pv 0) (pa_cons (pe_lst (pa_cons pe_non (pa_cons pe_int (pa_cons (pe_callB (kLen (K := K) rfl) (by rfl) T.b_len (by decide +kernel) (pa_cons (pprop C_params hr (by omega) (pv 1)) pa_nil)) (pa_cons pe_int (pa_cons pe_bl (pa_cons pe_str pa_nil))))))) pa_nil))) pa_nil)))
      (pss_one (ps_ret (pe_op (kAdd (K := K) rfl) (pv 2) (pe_lst (pa_cons (pcall C_law_pick hr (by omega) (by rfl) (pa_cons (pv 0) (pa_cons (pcall C_law_codes hr (by omega) (by rfl) (pa_cons (pprop C_size hr (by omega) (pv 1)) pa_nil)) pa_nil))) pa_nil))))))))), ?_⟩
    walk_at "start"
    have O0 : Old (· = a) H := fun b z => by
      obtain ⟨n, s, e, _⟩ := hs
      exact ⟨_, by rw [z]; exact e⟩
    refine v_seq (v_asg (v_lst (v_cons (v_pickLit (S := (· = a)) (n := 6) (E := W0 K) hs rfl O0 rfl ?_ mo_w0 (by decide) (by decide) fun w0 H1 d1 e0 => ?_))))
    · exact les_cons (l_w0 ld_non) mo_w0 (les_cons (l_w0 ld_str) mo_w0 (les_cons (l_w0 ld_str) mo_w0 (les_cons (l_w0 ld_int) mo_w0 (les_cons (l_w0 ld_str) mo_w0 (les_cons (l_w0 ld_str) mo_w0 les_nil)))))
    refine v_nil ⟨Nat.le_of_lt (small1000 (show 1 ≤ 1000 by decide)), fun p hp => ?_⟩
    have G1 : Gr a p H (upd H1 p (.lst [w0])) [w0] := ⟨hs, d1.trans (Dr.new d1.src hp), by
      cases e : H p with
      | none => rfl
      | some o => exact absurd (d1.keep _ _ e (d1.src.ne hp).symm) (by rw [hp]; simp), upd_same⟩
    have e0 := mo_w0 (off_two (o := .lst [w0]) hp) e0
    have M1 : MethAt K C (offS (two a p) (upd H1 p (.lst [w0]))) x n ks t size l := hM.same (by rw [← offS_eq]; exact (dr_offS (S := (· = a)) rfl d1).trans (off_two hp))
    revert G1 e0 M1
    generalize upd H1 p (.lst [w0]) = H2
    intro G1 e0 M1
    refine v_gname (v_next ?_)
    dsimp only
    refine v_seq (v_app (n := 7) (E := W1 K) G1 (by simp) rfl rfl ?_ mo_w1 (by decide) (by decide) fun w1 H3 G3 s3 e1 => ?_)
    · have O := G1.old
      exact les_cons (l_w1s (fun _ => .non) rfl) mo_w1 (les_cons (l_w1s (fun _ => .str _) rfl) mo_w1 (les_cons (l_w1 (ld_lst O (lds_cons ld_non lds_nil))) mo_w1 (les_cons (l_w1 (ld_lst O (lds_cons ld_str lds_nil))) mo_w1
        (les_cons (l_w1 (ld_mul (n := 5) O (by decide) ld_str)) mo_w1 (les_cons (l_dK O) mo_w1 (les_cons (l_w1 (ld_lst O (lds_cons (ld_lst O (lds_cons ld_str lds_nil)) lds_nil))) mo_w1 les_nil))))))
    have e0 := mo_w0 s3 e0
    have M3 := M1.same s3
    dsimp only
    refine v_seq (v_app (n := 5) (E := W2 K) G3 (by simp) rfl rfl ?_ mo_w2 (by decide) (by decide) fun w2 H4 G4 s4 e2 => ?_)
    · exact les_cons (l_w2 ld_non) mo_w2 (les_cons (l_w2 ld_str) mo_w2 (les_cons (l_w2 ld_str) mo_w2 (les_cons (l_w2 ld_str) mo_w2 (les_cons (l_w2 ld_int) mo_w2 les_nil))))
    have e0 := mo_w0 s4 e0
    have e1 := mo_w1 s4 e1
    have M4 := M3.same s4
    dsimp only
    refine v_seq (v_app (n := 6) (E := W3 K ks.length) G4 (by simp) rfl rfl ?_ mo_w3 (by decide) (by decide) fun w3 H5 G5 s5 e3 => ?_)
    · have num : ∀ i : Int, i ≤ ks.length ∨ 10 < i → numD (1 + (ks.length : Int)) 10 (.int i) = false := fun i h => by
        show (decide _ && decide _) = false
        rw [Bool.and_eq_false_iff, decide_eq_false_iff_not, decide_eq_false_iff_not]
        omega
      have shl : (goodB (.int ks.length) && shownB (.int ks.length)) = true := by
        have all : ∀ m : Fin 3, (goodB (.int m.val) && shownB (.int m.val)) = true := by decide +kernel
        exact all ⟨ks.length, by omega⟩
      exact les_cons (l_w3 ld_non rfl) mo_w3 (les_cons (l_w3 ld_int (num _ (.inl (by omega)))) mo_w3 (les_cons (l_w3 (d := .int ks.length) (fun H6 R s6 k => by
        obtain ⟨dx, pp, pc, fs, xs, g1, g2, g3, g4, g5, g6, g7, g8, g9⟩ := ((M4.same offS_same).same s6).ex
        refine v_cb (v_cons (v_prop (Kit.v_var rfl ⟨x, dx, fs, rfl, g1, x, dx, fs, _, rfl, g1, g3, v_nil (v_lenT g7 ?_)⟩)))
        rw [List.length_map]
        exact k _ H6 (Same.refl _) rfl) (num _ (.inl (by omega))) shl) mo_w3 (les_cons (l_w3 ld_int (num _ (.inr (by omega)))) mo_w3 (les_cons (l_w3 ld_bl rfl) mo_w3 (les_cons (l_w3 ld_str rfl) mo_w3 les_nil)))))
    have e0 := mo_w0 s5 e0
    have e1 := mo_w1 s5 e1
    have e2 := mo_w2 s5 e2
    have M5 := M4.same s5
    dsimp only
    obtain ⟨dx, pp, pc, fs, xs, g1, g2, g3, g4, g5, g6, g7, g8, g9⟩ := (M5.same offS_same).ex
    refine v_ret (v_op (Kit.v_var rfl (v_lst (v_cons (v_call (v_cons (Kit.v_var rfl (v_cons (v_call (v_cons (v_prop (Kit.v_var rfl ⟨x, dx, fs, rfl, g1, x, dx, fs, _, rfl, g1, g5, v_nil ⟨two a p, size, rfl, G5.old, h1, h2, fun pq ys H6 s6 nq eq lq wq => v_nil ⟨a, pq, ys, rfl, G5.d0.src.same s6, fun z => nq (.inl z), sq_lst eq, by omega, by omega, fun w4 H7 hy d7 => v_nil ⟨Nat.le_of_lt (small1000 (show 1 ≤ 1000 by decide)), fun p2 hp2 => ?_⟩⟩⟩⟩))))))))))))
    have m7 : Same (offS (two a p) H5) (offS (two a p) H7) := (same_offS s6).trans (dr_offS (.inl rfl) d7)
    have d17 : Dr a H H7 := (G5.d0.trans (Dr.same G5.d0.src s6)).trans d7
    have ep7 : H7 p = some (.lst ([w0] ++ [w1] ++ [w2] ++ [w3])) := d7.keep _ _ (s6 _ _ G5.at') G5.ne
    have np2 : p ≠ p2 := ne_of_none ep7 hp2
    refine v_addL (by rw [upd_ne np2]; exact ep7) upd_same (Nat.le_of_lt (small1000 (by simp))) fun p3 hp3 => ?_
    have t1 := same_new (o := .lst [w4]) hp2
    have t2 := same_new (o := .lst ([w0] ++ [w1] ++ [w2] ++ [w3] ++ [w4])) hp3
    have d18 := d17.trans (Dr.new (o := .lst [w4]) d17.src hp2)
    have fin : Same (offS (two a p) H7) (off a (upd (upd H7 p2 (.lst [w4])) p3 (.lst ([w0] ++ [w1] ++ [w2] ++ [w3] ++ [w4])))) := (same_offS (t1.trans t2)).trans two_off
    have m8 := m7.trans fin
    exact q p3 _ w0 w1 w2 w3 w4 (d18.trans (Dr.new d18.src hp3)) (d18.src.ne hp3).symm upd_same (mo_w0 m8 e0) (mo_w1 m8 e1) (mo_w2 m8 e2) (mo_w3 m8 e3) (mo_wrc (dr_offS (.inl rfl) d7 |>.trans fin) (wq w4 hy))
end K03

open PySem PySem.Spec PyProof.Rows L2 Kit
namespace K03
open K02
local macro_rules | `(tactic| walk_at "ne") => `(tactic| first
  | assumption
  | (apply Ne.symm; assumption)
  | exact ne_of_none (by assumption) (by assumption)
  | exact (ne_of_none (by assumption) (by assumption)).symm
  | (refine ne_of_none (H := ?H0) (o := ?oo) ?hs ?hn; (case hn => assumption); (case hs => walk_at "hp"))
  | (refine (ne_of_none (H := ?H0) (o := ?oo) ?hs ?hn).symm; (case hn => assumption); (case hs => walk_at "hp"))
  | (refine Src.ne (H := ?H0) ?hs ?hn; (case hn => assumption); (case hs => walk_at "src"))
  | (refine (Src.ne (H := ?H0) ?hs ?hn).symm; (case hn => assumption); (case hs => walk_at "src"))
  | fail "no rule")
local macro_rules | `(tactic| walk_at "hp") => `(tactic| first
  | assumption
  | exact upd_same
  | (refine (upd_ne ?hne).trans ?hrest; (case hne => walk_at "ne"); (case hrest => walk_at "hp"))
  | (refine same_at (H := ?H0) ?hs ?hrest; (case hs => assumption); (case hrest => walk_at "hp"))
  | (refine dr_at (H := ?H0) (a := ?a0) ?hs ?hne ?hrest; (case hs => assumption); (case hne => walk_at "ne"); (case hrest => walk_at "hp"))
  | fail "no rule")
local macro_rules | `(tactic| walk_at "sq") => `(tactic| first
  | assumption
  | exact Or.inl (Or.inl (by walk_at "hp"))
  | (refine sq_upd ?hnn ?hss; (case hnn => assumption); (case hss => walk_at "sq"))
  | (refine Same.seq (H := ?H0) ?hs ?hrest; (case hs => assumption); (case hrest => walk_at "sq"))
  | (refine sq_dr (H := ?H0) (a := ?a0) ?hs ?hne ?hrest; (case hs => assumption); (case hne => walk_at "ne"); (case hrest => walk_at "sq"))
  | fail "no rule")
local macro_rules | `(tactic| walk_at "sm") => `(tactic| first
  | assumption
  | exact Same.refl _
  | (refine same_new ?hnn; (case hnn => assumption))
  | (refine same_push ?hs ?hnn; (case hnn => assumption); (case hs => walk_at "sm"))
  | (refine same_mut ?hs ?hnn; (case hs => walk_at "sm"); (case hnn => walk_at "fr"))
  | (refine Same.trans (H1 := ?H1) ?hs ?hq; (case hq => assumption); (case hs => walk_at "sm"))
  | fail "no rule")
local macro_rules | `(tactic| walk_at "fr") => `(tactic| first
  | assumption
  | (refine Same.free (H' := ?H1) ?hs ?hq; (case hq => assumption); (case hs => walk_at "sm"))
  | fail "no rule")
local macro_rules | `(tactic| walk_at "src") => `(tactic| first
  | assumption
  | exact Dr.src (by assumption)
  | (refine Src.same (H := ?H0) ?hs ?hm; (case hm => assumption); (case hs => walk_at "src"))
  | (refine Src.upd ?hs ?hn; (case hs => walk_at "src"); (case hn => walk_at "ne"))
  | fail "no rule")
local macro_rules | `(tactic| walk_at "fd") => `(tactic| first
  | assumption
  | (refine Same.free (H' := ?H1) ?hs ?hq; (case hq => assumption); (case hs => walk_at "sm"))
  | (refine Dr.free (H' := ?H1) ?h0 ?hs ?hq; (case hq => assumption); (case hs => walk_at "dr"); (case h0 => walk_at "src"))
  | fail "no rule")
local macro_rules | `(tactic| walk_at "dr") => `(tactic| first
  | assumption
  | (refine Dr.trans (H' := ?H1) ?hs ?hq; (case hq => assumption); (case hs => walk_at "dr"))
  | (refine Dr.mut ?hs ?h0 ?hn; (case hs => walk_at "dr"); (case h0 => walk_at "src"); (case hn => walk_at "fd"))
  | (refine Dr.trans (H' := ?H1) ?hs (Dr.same ?h0 ?hq); (case hq => assumption); (case h0 => walk_at "src"); (case hs => walk_at "dr"))
  | (refine Dr.refl ?hs; (case hs => walk_at "src"))
  | fail "no rule")
local macro_rules | `(tactic| walk_at "sz") => `(tactic| first
  | omega
  | (refine Nat.le_trans ?_ (show (1000 : Nat) ≤ sizeLine by decide); first | decide | omega | (simp; done) | (simp; omega) | fail)
  | fail "no rule")
local macro_rules | `(tactic| walk_at "v1") => `(tactic| first
  | with_reducible refine v_seq ?_
  | with_reducible refine v_asg ?_
  | with_reducible refine v_gname ?_
  | with_reducible refine v_c ?_
  | ((with_reducible refine v_var (v := ?vv) ?hv ?_); (case hv => exact rfl))
  | with_reducible refine v_op ?_
  | with_reducible refine v_un ?_
  | with_reducible refine v_I0 ?_
  | with_reducible refine v_U ?_
  | with_reducible refine v_addI ?_
  | with_reducible refine v_ltI ?_
  | with_reducible refine v_leI ?_
  | with_reducible refine v_gtI ?_
  | with_reducible refine v_geI ?_
  | with_reducible refine v_leS ?_
  | with_reducible refine v_ltS ?_
  | with_reducible refine v_eqI ?_
  | with_reducible refine v_neI ?_
  | with_reducible refine v_eqS ?_
  | with_reducible refine v_neS ?_
  | with_reducible refine v_eqB ?_
  | ((with_reducible refine v_eqTy ?h1 ?h2 ?_); (case h1 => walk_at "bt"); (case h2 => walk_at "bt"))
  | ((with_reducible refine v_neTy ?h1 ?h2 ?_); (case h1 => walk_at "bt"); (case h2 => walk_at "bt"))
  | with_reducible refine v_test ?_
  | with_reducible refine v_B ?_
  | with_reducible refine v_isbl ?_
  | with_reducible refine v_and ?_
  | with_reducible refine v_or ?_
  | with_reducible refine v_not ?_
  | with_reducible refine v_andV ?_
  | with_reducible refine v_orV ?_
  | with_reducible refine v_notV ?_
  | with_reducible refine v_if ?_
  | with_reducible refine v_chain ?_
  | with_reducible refine v_nil ?_
  | with_reducible refine v_cons ?_
  | with_reducible refine v_cb ?_
  | with_reducible refine v_call ?_
  | with_reducible refine v_max ?_
  | ((with_reducible refine v_draw ?hs ?hm ?_); (case hs => walk_at "src"); (case hm => omega))
  | with_reducible refine v_min ?_
  | with_reducible refine v_intI ?_
  | with_reducible refine v_intB ?_
  | with_reducible refine v_m1 ?_
  | with_reducible refine v_isstr ?_
  | with_reducible refine v_sl ?_
  | with_reducible refine v_ss ?_
  | with_reducible refine v_disp1 ?_
  | with_reducible refine v_s0 ?_
  | with_reducible refine v_nopart ?_
  | with_reducible refine v_part ?_
  | with_reducible refine v_partI ?_
  | with_reducible refine v_next ?_
  | with_reducible refine v_gsub ?_
  | with_reducible refine v_ifS ?_
  | with_reducible refine v_ret ?_
  | with_reducible refine v_drop ?_
  | ((with_reducible refine v_iteTrue ?hb ?_); (case hb => walk_at "bt"))
  | ((with_reducible refine v_iteFalse ?hb ?_); (case hb => walk_at "bt"))
  | with_reducible refine v_iteD ?_ ?_
  | with_reducible refine v_iteNot ?_
  | with_reducible refine v_lc ?_
  | with_reducible refine v_iStr ?_
  | with_reducible refine v_isS ?_
  | with_reducible refine v_iRng1 ?_
  | ((with_reducible refine v_rng1 ?hb ?_); (case hb => omega))
  | with_reducible refine v_iList ?_
  | with_reducible refine v_iSeq ?_
  | ((with_reducible refine v_isL (xs := ?xx) ?hsq ?_); (case hsq => walk_at "sq"))
  | with_reducible refine v_for ?_
  | with_reducible refine v_yes ?_
  | ((with_reducible refine v_nand ?hw ?_); (case hw => first | exact rfl | walk_at "sz" | fail))
  | ((with_reducible refine v_typ (T := ?TT) ?ht ?_); (case ht => walk_at "ty"))
  | ((with_reducible refine v_isiK (T := ?TT) ?ht ?h1 ?h2 ?_); (case ht => walk_at "ty"); (case h1 => walk_at "bt"); (case h2 => exact rfl))
  | with_reducible refine iteT ?_
  | with_reducible refine iteF ?_
  | with_reducible refine v_tup ?_
  | with_reducible refine v_lst ?_
  | ((with_reducible refine v_ixL (xs := ?xx) (v := ?vv) ?hsq ?hat ?_); (case hsq => walk_at "sq"); (case hat => exact rfl))
  | ((with_reducible refine v_lenL (xs := ?xx) ?hsq ?_); (case hsq => walk_at "sq"))
  | ((with_reducible refine v_setL (xs := ?xx) (j := ?jj) ?hh ?hj ?_); (case hh => walk_at "hp"); (case hj => exact rfl))
  | ((with_reducible refine v_I ?hc ?_); (case hc => walk_at "ic"))
  | ((with_reducible refine v_lenS ?hz ?_); (case hz => walk_at "sz"))
  | ((with_reducible refine v_slS ?hz ?_); (case hz => walk_at "sz"))
  | ((with_reducible refine v_addS ?hz ?_); (case hz => walk_at "sz"))
  | ((with_reducible refine v_ixS (c := ?cc) ?hz ?hat ?_); (case hz => walk_at "sz"); (case hat => exact rfl))
  | ((with_reducible refine v_addL (xs := ?xx) (ys := ?yy) ?h1 ?h2 ?hz ?_); (case h1 => walk_at "hp"); (case h2 => walk_at "hp"); (case hz => walk_at "sz"))
  | ((with_reducible refine v_ixT (xs := ?xx) (v := ?vv) ?hsq ?hat ?_); (case hsq => walk_at "sq"); (case hat => exact rfl))
  | ((with_reducible refine v_lenT (xs := ?xx) ?hsq ?_); (case hsq => walk_at "sq"))
  | ((with_reducible refine v_eq ?hs ?_); (case hs => exact rfl))
  | ((with_reducible refine v_ne ?hs ?_); (case hs => exact rfl))
  | (with_reducible intro _)
  | fail "no rule")
local macro_rules | `(tactic| walk_at "ic") => `(tactic| first
  | (show (0 : Int) < _; first | decide | omega | fail)
  | (show CMul _ _; unfold CMul; omega)
  | (show CDiv _ _; unfold CDiv; omega)
  | (show CPow _ _; unfold CPow; exact ⟨by decide, by decide, by decide⟩)
  | fail "no rule")
local macro_rules | `(tactic| walk_at "bt") => `(tactic| first
  | exact rfl
  | assumption
  | decide +kernel
  | (simp; done)
  | fail "no rule")
local macro_rules | `(tactic| walk_at "ty") => `(tactic| first
  | assumption
  | exact .non
  | exact .bl _
  | exact .int _
  | exact .str _
  | exact .lst (by walk_at "sq")
  | exact .tup (by walk_at "sq")
  | exact .dK (by walk_at "hp")
  | fail "no rule")
local macro_rules | `(tactic| walk_at "v") => `(tactic| try (walk_at "v1" <;> walk_at "v"))
local macro_rules | `(tactic| walk_at "start") => `(tactic| dsimp only [L2.start, cxOf, Cx.nox, Cx.wish, List.map, List.replicate, List.length, List.append, Nat.reduceSub, Nat.reduceAdd, List.cons_append, List.nil_append])

variable {P : Program} {w : World} {K : PySem.W.Frag} {mg : Str → Option Value} {base : Heap}
variable {aF : Addr} {es : Array DictEntry} {nF : Nat} {C fI CE cE : Addr}
/-! ### _law_others_right -/
theorem num_mono {a b : Int} {d : Dat} (ab : a ≤ b) (h : numD 0 a d = true) : numD 0 b d = true := by
  cases d <;> first | (cases h; done) | skip
  simp only [numD, Bool.and_eq_true, decide_eq_true_eq] at h ⊢
  omega
theorem args_mono {a b : Int} {d : Dat} (ab : a ≤ b) (h : argsD a d = true) : argsD b d = true := by
  cases d <;> first | (cases h; done) | skip
  simp only [argsD, Bool.and_eq_true, decide_eq_true_eq, List.all_eq_true] at h ⊢
  exact fun e he => num_mono (by omega) (h e he)
theorem fits_mono {k : Str} {d : Dat} {a b len : Int} (ab : a ≤ b) (h : fitsD k d a len = true) : fitsD k d b len = true := by
  unfold fitsD at h ⊢
  split
  · rename_i e; rw [if_pos e] at h; exact num_mono (by omega) h
  · rename_i e; rw [if_neg e] at h
    split
    · rename_i e; rw [if_pos e] at h; exact h
    · rename_i e; rw [if_neg e] at h
      split
      · rename_i e; rw [if_pos e] at h; exact h
      · rename_i e; rw [if_neg e] at h
        split
        · rename_i e; rw [if_pos e] at h; exact h
        · rename_i e; rw [if_neg e] at h
          split
          · rename_i e; rw [if_pos e] at h; exact h
          · rename_i e; rw [if_neg e] at h
            split
            · rename_i e; rw [if_pos e] at h; exact args_mono ab h
            · rename_i e; rw [if_neg e] at h; exact h
theorem fitAll_mono {a b len : Int} (ab : a ≤ b) : ∀ (ks : List Str) (ds : List Dat), fitAll a len ks ds = true → fitAll b len ks ds = true
  | [], _, _ => by unfold fitAll; rfl
  | _ :: _, [], _ => by unfold fitAll; rfl
  | k :: ks, d :: ds, h => by
    unfold fitAll at h ⊢
    rw [Bool.and_eq_true] at h ⊢
    exact ⟨fits_mono ab h.1, fitAll_mono ab ks ds h.2⟩
theorem instr_mono {a b len : Int} {d : Dat} (ab : a ≤ b) (h : instrD a len d = true) : instrD b len d = true := by
  cases d with
  | tup m =>
    cases m with
    | nil => cases h
    | cons c rest =>
      cases c with
      | str w =>
        unfold instrD at h ⊢
        cases e : formsL.lookup w with
        | none => simp only [e] at h; cases h
        | some form =>
          simp only [e] at h ⊢
          rw [Bool.and_eq_true, Bool.and_eq_true] at h ⊢
          exact ⟨⟨h.1.1, fitAll_mono ab _ _ h.1.2⟩, h.2⟩
      | _ => cases h
  | _ => cases h
theorem code_mono {a b : Int} {l : List Dat} (ab : a ≤ b) (h : codeOk a l = true) : codeOk b l = true := by
  unfold codeOk at h ⊢
  rw [Bool.and_eq_true] at h ⊢
  exact ⟨h.1, List.all_eq_true.mpr fun d hd => instr_mono ab (List.all_eq_true.mp h.2 d hd)⟩
theorem shaped_of {d : Dat} (h : okD d) (hd : PyData.depth (toP d) ≤ 60) : SeqAt.shaped (toP d) = true := by
  unfold SeqAt.shaped
  rw [Bool.and_eq_true, decide_eq_true_iff]
  exact ⟨lay_ok h, by omega⟩
theorem v_neDat {H : Hp} {x y : V} {d e : Dat} {Q : VK} (r1 : Rep K H d x) (r2 : Rep K H e y) (n1 : noD d = true) (n2 : noD e = true) (o1 : okD d) (o2 : okD e) (h1 : PyData.depth (toP d) ≤ 60) (h2 : PyData.depth (toP e) ≤ 60) (q : Q (.bl (!PyData.eqv (toP d) (toP e))) H) : rNeU K x y H Q :=
  .inr (.inr ⟨_, _, K02.rep_dp n1 r1, K02.rep_dp n2 r2, shaped_of o1 h1, shaped_of o2 h2, q⟩)
theorem typs_zz {t : Str} (h : t ∈ typs) : decide (("zz" : Str) = t) = false := by
  have all : ∀ t ∈ typs, decide (("zz" : Str) = t) = false := by decide +kernel
  exact all t h
theorem parts_other {ks : List Str} {t : Str} {size : Int} {l : List Dat} (P : Parts "m" ks t size l) : Parts "other" ks t size l := ⟨by decide +kernel, goodS_ok (by decide +kernel), P.k1, P.k2, P.t1, P.t2, P.z1, P.z2, P.c1, P.c2⟩
theorem parts_zz {n : Str} {ks : List Str} {t : Str} {size : Int} {l : List Dat} (P : Parts n ks t size l) : Parts n ks "zz" size l := ⟨P.n1, P.n2, P.k1, P.k2, by decide +kernel, goodS_ok (by decide +kernel), P.z1, P.z2, P.c1, P.c2⟩
theorem parts_size {n : Str} {ks : List Str} {t : Str} {size : Int} {l : List Dat} (P : Parts n ks t size l) (h : size ≤ 6) : Parts n ks t (size + 1) l := ⟨P.n1, P.n2, P.k1, P.k2, P.t1, P.t2, by have := P.z1; omega, by omega, P.c1, code_mono (by omega) P.c2⟩
abbrev jmp : List Dat := [.tup [.str "jump", .int 0]]
theorem parts_jump {n : Str} {ks : List Str} {t : Str} {size : Int} {l : List Dat} (P : Parts n ks t size l) : Parts n ks t size jmp := ⟨P.n1, P.n2, P.k1, P.k2, P.t1, P.t2, P.z1, P.z2, good_okL (by decide +kernel), by
  have e : codeOk 1 jmp = true := by decide +kernel
  exact code_mono (by have := P.z1; omega) e⟩
def spOthers (K : PySem.W.Frag) (C : Addr) : Sp := fun vs H Q _ => ∃ (x pr pk pc : Addr) (ks : List Str) (t : Str) (size : Int) (l : List Dat) (xs : List V), vs = [.ref x, .ref pr] ∧ MethAt K C H x "m" ks t size l ∧ Parts "m" ks t size l ∧ (∀ d ∈ l, shapeD d) ∧ t ∈ typs ∧ size ≤ 6 ∧
  H pr = some (.lst [.str "m", .ref pk, .str t, .int size, .ref pc]) ∧ H pk = some (.lst (ks.map V.str)) ∧ H pc = some (.lst xs) ∧ RepL K H l xs ∧ ∀ H', Same H H' → Q (.bl true) H'
theorem ok_others {f : Addr} {fd : FuncData} (F : Fun K "_law_others_right" "_law_others_right" s_law_others_right f fd) (T : Txt K w mg aF es nF) (I : ClsI K C) (nf : PySem.W.notFirst K C (.ref C) = true) (C_eq : EqCal P w K mg base 1 C (spEqM K C)) (C_Method : MkCal P w K mg base 7 "Method" C ["self", "name", "params", "result", "size", "code"] (spInitF K C)) :
    FnOk P w K mg base CX0 9 f fd ["_law_method_here", "_law_right"] (spOthers K C) := by
  refine F.ok sc_law_others_right (fun vs H Q E h => ?_) (fun cdv A outer s H vs Q E hr h => ?_)
  · obtain ⟨x, pr, pk, pc, ks, t, size, l, xs, rfl, _⟩ := h
    rfl
  · obtain ⟨x, pr, pk, pc, ks, t, size, l, xs, rfl, hM, hP, hsh, ht, h6, er, ek, ec, hr2, q⟩ := h
    refine ⟨_, (pss_cons (ps_set (i := 2) sc_law_others_right.nd rfl (by first | exact .inl rfl | exact .inr rfl) (pe_lst (pa_cons pe_str (pa_cons (pe_ix (kIx (K := K) rfl) (pv 1) pe_int (fun _ _ => rfl)) (pa_cons pe_str (pa_cons (pe_callB callMinU (by rfl) T.b_min (by decide +kernel) (pa_cons pe_int (pa_cons (pe_op (kAdd (K := K) rfl) (pe_ix (kIx (K := K) rfl) (pv 1) pe_int (fun _ _ => rfl)) pe_int) pa_nil))) (pa_cons (pe_lst (pa_cons (pe_tup (pa_cons pe_str (pa_cons pe_int pa_nil))) pa_nil)) pa_nil)))))))
      (pss_cons (ps_for PassesOwn.never rfl (kList (K := K) rfl (pe_lst (pa_cons pe_int (pa_cons pe_int (pa_cons pe_int (pa_cons pe_int pa_nil)))))) (pg_name (i := 3) sc_law_others_right.nd rfl (by first | exact .inl rfl | exact .inr rfl))
      (pss_one (ps_if (pt_cmpR (kNe (K := K) rfl hr.units) (pe_ix (kIx (K := K) rfl) (pv 2) (pv 3) (fun _ _ => rfl)) (pe_ix (kIx (K := K) rfl) (pv 1) (pv 3) (fun _ _ => rfl)) (nomark _)) (pss_cons (ps_set (i := 4) sc_law_others_right.nd rfl (by first | exact .inl rfl | exact .inr rfl) (pe_op (kAdd (K := K) rfl) (pe_op (kAdd (K := K) rfl) (pe_slice (kSl (K := K) rfl) (pv 1) po_none (po_some (pv 3))) (pe_lst (pa_cons (pe_ix (kIx (K := K) rfl) (pv 2) (pv 3) (fun _ _ => rfl)) pa_nil))) (pe_slice (kSl (K := K) rfl) (pv 1) (po_some (pe_op (kAdd (K := K) rfl) (pv 3) pe_int)) po_none)))
      (pss_one (ps_if (pt_cmpR (op_own C_eq hr (by omega)) (pmake C_Method hr (by omega) (by rfl) (pa_cons (pe_ix (kIx (K := K) rfl) (pv 4) pe_int (fun _ _ => rfl)) (pa_cons (pe_ix (kIx (K := K) rfl) (pv 4) pe_int (fun _ _ => rfl)) (pa_cons (pe_ix (kIx (K := K) rfl) (pv 4) pe_int (fun _ _ => rfl)) (pa_cons (pe_ix (kIx (K := K) rfl) (pv 4) pe_int (fun _ _ => rfl)) (pa_cons (pe_ix (kIx (K := K) rfl) (pv 4) pe_int (fun _ _ => rfl)) pa_nil)))))) (pv 0) (nomark _)) (pss_one (ps_ret pe_bl)) pss_nil))) pss_nil)))
      (pss_one (ps_ret pe_bl)))), ?_⟩
    walk_at "start"
    refine v_seq (v_asg ?_)
    walk_at "v"
    rename_i pj hpj pl hpl po hpo pn hpn
    have s1 := same_new (o := .tup [.str "jump", .int 0]) hpj
    have s2 := same_new (o := .lst [.ref pj]) hpl
    have s3 := same_new (o := .lst [.str "other", .ref pk, .str "zz", .int (min 10 (size + 1)), .ref pl]) hpo
    have s4 := same_new (o := .lst [.int 0, .int 2, .int 3, .int 4]) hpn
    have ej := s4 _ _ (s3 _ _ (s2 _ _ (upd_same (H := H) (a := pj) (o := .tup [.str "jump", .int 0]))))
    have el := s4 _ _ (s3 _ _ (upd_same (H := upd H pj (.tup [.str "jump", .int 0])) (a := pl) (o := .lst [.ref pj])))
    have eo := s4 _ _ (upd_same (H := upd (upd H pj (.tup [.str "jump", .int 0])) pl (.lst [.ref pj])) (a := po) (o := .lst [.str "other", .ref pk, .str "zz", .int (min 10 (size + 1)), .ref pl]))
    have en := upd_same (H := upd (upd (upd H pj (.tup [.str "jump", .int 0])) pl (.lst [.ref pj])) po (.lst [.str "other", .ref pk, .str "zz", .int (min 10 (size + 1)), .ref pl])) (a := pn) (o := .lst [.int 0, .int 2, .int 3, .int 4])
    have s14 := ((s1.trans s2).trans s3).trans s4
    revert ej el eo en s14
    generalize upd (upd (upd (upd H pj (.tup [.str "jump", .int 0])) pl (.lst [.ref pj])) po (.lst [.str "other", .ref pk, .str "zz", .int (min 10 (size + 1)), .ref pl])) pn (.lst [.int 0, .int 2, .int 3, .int 4]) = H4
    intro ej el eo en s14
    clear s1 s2 s3 s4 hpj hpl hpo hpn
    refine for_w (walk_list (xs := [V.int 0, .int 2, .int 3, .int 4])) (fun k σ H' => ∃ v3 v4, σ = [some (.ref x), some (.ref pr), some (.ref po), v3, v4] ∧ Same H4 H') ⟨_, _, rfl, Same.refl _⟩ (fun _ _ _ _ p => by obtain ⟨_, _, _, s⟩ := p; exact sq_lst (s _ _ en)) ?_ ?_
    · rintro k z σ H5 H6 hk ⟨v3, v4, rfl, s5⟩ hy
      obtain ⟨e6, hz⟩ := hy
      subst e6
      have s6 := s14.trans s5
      have npl := instrs_plain (l := l) (size := size) (len := l.length) fun d hd => ⟨List.all_eq_true.mp hP.c3.2.2 d hd, hsh d hd⟩
      have rc : SeqAt2 K H6 (.ref pc) l := .inr ⟨pc, xs, rfl, sq_lst (s6 _ _ ec), hr2.same s6⟩
      have rj : Rep K H6 (.lst jmp) (.ref pl) := ⟨pl, _, rfl, sq_lst (s5 _ _ el), .ref pj, [], rfl, ⟨pj, _, rfl, .inl (.inl (s5 _ _ ej)), .str "jump", [.int 0], rfl, rfl, .int 0, [], rfl, rfl, rfl⟩, rfl⟩
      have fact : ∃ (i : Int) (n' t' : Str) (size' : Int) (l' : List Dat) (y r vc : V) (c : Bool), z = .int i ∧ atI [V.str "other", .ref pk, .str "zz", .int (min 10 (size + 1)), .ref pl] i = some y ∧ atI [V.str "m", .ref pk, .str t, .int size, .ref pc] i = some r ∧
          (∀ Q : VK, Q (.bl c) H6 → rNeU K y r H6 Q) ∧ cutV [V.str "m", .ref pk, .str t, .int size, .ref pc] none (some i) ++ [y] ++ cutV [V.str "m", .ref pk, .str t, .int size, .ref pc] (some (i + 1)) none = [.str n', .ref pk, .str t', .int size', vc] ∧
          (cutV [V.str "m", .ref pk, .str t, .int size, .ref pc] none (some i)).length ≤ 5 ∧ (cutV [V.str "m", .ref pk, .str t, .int size, .ref pc] (some (i + 1)) none).length ≤ 5 ∧
          Parts n' ks t' size' l' ∧ (∀ d ∈ l', shapeD d) ∧ SeqAt2 K H6 vc l' ∧ (c = true → sameM n' ks t' size' l' "m" ks t size l = false) := by
        have hm : min 10 (size + 1) = size + 1 := by omega
        rw [hm]
        match k, hk, hz with
        | 0, _, hz =>
          cases hz
          exact ⟨0, "other", t, size, l, .str "other", .str "m", .ref pc, _, rfl, rfl, rfl, fun Q q => v_neDat (d := .str "other") (e := .str "m") rfl rfl rfl rfl (goodS_ok (by decide +kernel)) (goodS_ok (by decide +kernel)) (Nat.le_of_ble_eq_true rfl) (Nat.le_of_ble_eq_true rfl) q, rfl, Nat.le_of_ble_eq_true rfl, Nat.le_of_ble_eq_true rfl, parts_other hP, hsh, rc, fun _ => by simp only [sameM, show decide (("other" : Str) = "m") = false by decide +kernel, Bool.false_and]⟩
        | 1, _, hz =>
          cases hz
          exact ⟨2, "m", "zz", size, l, .str "zz", .str t, .ref pc, _, rfl, rfl, rfl, fun Q q => v_neDat (d := .str "zz") (e := .str t) rfl rfl rfl rfl (goodS_ok (by decide +kernel)) hP.t2 (Nat.le_of_ble_eq_true rfl) (Nat.le_of_ble_eq_true rfl) q, rfl, Nat.le_of_ble_eq_true rfl, Nat.le_of_ble_eq_true rfl, parts_zz hP, hsh, rc, fun _ => by simp only [sameM, typs_zz ht, Bool.false_and, Bool.and_false]⟩
        | 2, _, hz =>
          cases hz
          exact ⟨3, "m", t, size + 1, l, .int (size + 1), .int size, .ref pc, _, rfl, rfl, rfl, fun Q q => v_neDat (d := .int (size + 1)) (e := .int size) rfl rfl rfl rfl trivial trivial (Nat.le_of_ble_eq_true rfl) (Nat.le_of_ble_eq_true rfl) q, rfl, Nat.le_of_ble_eq_true rfl, Nat.le_of_ble_eq_true rfl, parts_size hP h6, hsh, rc, fun _ => by simp only [sameM, show decide (size + 1 = size) = false by rw [decide_eq_false_iff_not]; omega, Bool.false_and, Bool.and_false]⟩
        | 3, _, hz =>
          cases hz
          refine ⟨4, "m", t, size, jmp, .ref pl, .ref pc, .ref pl, _, rfl, rfl, rfl, fun Q q => v_neDat (d := .lst jmp) (e := .lst l) rj ⟨pc, xs, rfl, sq_lst (s6 _ _ ec), hr2.same s6⟩ rfl npl.1 (good_ok (by decide +kernel)) ⟨by have := hP.c3.2.1; omega, hP.c1⟩ (Nat.le_of_ble_eq_true rfl) (by show PyData.depthAll (toPL l) + 1 ≤ 60; have := npl.2; omega) q, rfl, Nat.le_of_ble_eq_true rfl, Nat.le_of_ble_eq_true rfl, parts_jump hP, ?_, .inr rj, fun hc => ?_⟩
          · intro d hd
            cases List.mem_singleton.mp hd
            exact sc_shape rfl
          · have e : PyData.eqv (.tuple (toPL jmp)) (.tuple (toPL l)) = false := by simpa [PyData.eqv, toP] using hc
            simp only [sameM, e, Bool.and_false]
      obtain ⟨i, n', t', size', l', y, r, vc, c, rfl, hy, hrr, hne, hcut, c1, c2, hP', hsh', hvc, hfalse⟩ := fact
      refine v_gname ?_
      refine v_ifS (v_test (v_op (v_op (Kit.v_var rfl (Kit.v_var rfl (v_ixL (sq_lst (s5 _ _ eo)) hy (v_op (Kit.v_var rfl (Kit.v_var rfl (v_ixL (sq_lst (s6 _ _ er)) hrr (hne _ ⟨c, rfl, ?_⟩)))))))))))
      cases c with
      | false =>
        walk_at "v"
        exact ⟨_, _, rfl, s5⟩
      | true =>
        have hf := hfalse rfl
        have e6 := s6 _ _ er
        have z5 := small1000 (show 11 ≤ 1000 by decide)
        rw [if_pos rfl]
        generalize hA : cutV [V.str "m", .ref pk, .str t, .int size, .ref pc] none (some i) = A at *
        generalize hB : cutV [V.str "m", .ref pk, .str t, .int size, .ref pc] (some (i + 1)) none = B at *
        refine v_seq (v_asg (v_op (v_op (v_sl (Kit.v_var rfl (v_nopart (v_part (Kit.v_var rfl ⟨i, rfl, v_slL (sq_lst e6) fun p1 hp1 => ?_⟩))))))))
        rw [hA]
        have t1 := same_new (o := .lst A) hp1
        refine v_lst (v_cons (v_op (Kit.v_var rfl (Kit.v_var rfl (v_ixL (sq_lst (t1 _ _ (s5 _ _ eo))) hy (v_nil ⟨Nat.le_of_lt (small1000 (show 1 ≤ 1000 by decide)), fun p2 hp2 => ?_⟩))))))
        have t2 := same_new (o := .lst [y]) hp2
        refine v_addL (t2 _ _ upd_same) upd_same (by simp only [List.length_cons, List.length_nil]; omega) fun p3 hp3 => ?_
        have t3 := same_new (o := .lst (A ++ [y])) hp3
        have t13 := (t1.trans t2).trans t3
        refine v_sl (Kit.v_var rfl (v_part (v_op (Kit.v_var rfl (v_c (v_addI ⟨i + 1, rfl, v_nopart (v_slL (sq_lst (t13 _ _ e6)) fun p4 hp4 => ?_)⟩))))))
        rw [hB]
        have t4 := same_new (o := .lst B) hp4
        refine v_addL (t4 _ _ upd_same) upd_same (by rw [List.length_append]; simp only [List.length_cons, List.length_nil]; omega) fun p5 hp5 => ?_
        have t5 := same_new (o := .lst (A ++ [y] ++ B)) hp5
        have t15 := (t13.trans t4).trans t5
        have e5 : upd (upd (upd (upd (upd H6 p1 (.lst A)) p2 (.lst [y])) p3 (.lst (A ++ [y]))) p4 (.lst B)) p5 (.lst (A ++ [y] ++ B)) p5 = some (.lst [.str n', .ref pk, .str t', .int size', vc]) := by rw [upd_same, hcut]
        revert t15 e5
        generalize upd (upd (upd (upd (upd H6 p1 (.lst A)) p2 (.lst [y])) p3 (.lst (A ++ [y]))) p4 (.lst B)) p5 (.lst (A ++ [y] ++ B)) = H7
        intro t15 e5
        clear t1 t2 t3 t4 t5 t13 hp1 hp2 hp3 hp4 hp5
        refine v_gname (v_next ?_)
        dsimp only
        refine v_ifS (v_test (v_op (v_make ?_)))
        walk_at "v"
        rename_i x' dx' hx' hdx' hne'
        have sm : Same H7 (upd (upd H7 dx' (.own x')) x' (.ins C dx' [])) := (same_new hdx').trans (same_new (by rw [upd_ne hne'.symm]; exact hx'))
        have s7 := s6.trans t15
        refine ⟨x', dx', n', .ref pk, ks, t', size', vc, l', rfl, upd_same, hP', .inr ⟨pk, ks.map V.str, rfl, sq_lst (sm _ _ (s7 _ _ ek)), repL_strs ks⟩, seq2_same (t15.trans sm) hvc, fun H8 fr ma => ⟨rfl, ?_⟩⟩
        have s8 : Same H7 H8 := fun b o e => fr b o (sm b o e) (ne_of_none e hx')
        obtain ⟨dx, pp, pq, fs, xs', g1, _⟩ := ma.ex
        obtain ⟨dx0, _, _, fs0, _, h1, _⟩ := (hM.same (s7.trans s8)).ex
        refine Kit.v_var rfl ⟨x', dx, fs, .ref C, rfl, g1, I.ty h1, nf, x', .ref x, n', ks, t', size', l', rfl, ma, .inl ⟨x, "m", ks, t, size, l, rfl, hM.same (s7.trans s8), hP', hP, hsh', hsh, ⟨_, rfl⟩, _, rfl, ?_⟩⟩
        rw [hf]
        walk_at "v"
        exact ⟨_, _, rfl, (s5.trans t15).trans s8⟩
    · rintro σ H5 ⟨v3, v4, rfl, s5⟩
      walk_at "v"
      exact q _ (s14.trans s5)
end K03

open PySem PySem.Spec PyProof.Rows L2 Kit
namespace K03
open K02
local macro_rules | `(tactic| walk_at "ne") => `(tactic| first
  | assumption
  | (apply Ne.symm; assumption)
  | exact ne_of_none (by assumption) (by assumption)
  | exact (ne_of_none (by assumption) (by assumption)).symm
  | (refine ne_of_none (H := ?H0) (o := ?oo) ?hs ?hn; (case hn => assumption); (case hs => walk_at "hp"))
  | (refine (ne_of_none (H := ?H0) (o := ?oo) ?hs ?hn).symm; (case hn => assumption); (case hs => walk_at "hp"))
  | (refine Src.ne (H := ?H0) ?hs ?hn; (case hn => assumption); (case hs => walk_at "src"))
  | (refine (Src.ne (H := ?H0) ?hs ?hn).symm; (case hn => assumption); (case hs => walk_at "src"))
  | fail "no rule")
local macro_rules | `(tactic| walk_at "hp") => `(tactic| first
  | assumption
  | exact upd_same
  | (refine (upd_ne ?hne).trans ?hrest; (case hne => walk_at "ne"); (case hrest => walk_at "hp"))
  | (refine same_at (H := ?H0) ?hs ?hrest; (case hs => assumption); (case hrest => walk_at "hp"))
  | (refine dr_at (H := ?H0) (a := ?a0) ?hs ?hne ?hrest; (case hs => assumption); (case hne => walk_at "ne"); (case hrest => walk_at "hp"))
  | fail "no rule")
local macro_rules | `(tactic| walk_at "sq") => `(tactic| first
  | assumption
  | exact Or.inl (Or.inl (by walk_at "hp"))
  | (refine sq_upd ?hnn ?hss; (case hnn => assumption); (case hss => walk_at "sq"))
  | (refine Same.seq (H := ?H0) ?hs ?hrest; (case hs => assumption); (case hrest => walk_at "sq"))
  | (refine sq_dr (H := ?H0) (a := ?a0) ?hs ?hne ?hrest; (case hs => assumption); (case hne => walk_at "ne"); (case hrest => walk_at "sq"))
  | fail "no rule")
local macro_rules | `(tactic| walk_at "sm") => `(tactic| first
  | assumption
  | exact Same.refl _
  | (refine same_new ?hnn; (case hnn => assumption))
  | (refine same_push ?hs ?hnn; (case hnn => assumption); (case hs => walk_at "sm"))
  | (refine same_mut ?hs ?hnn; (case hs => walk_at "sm"); (case hnn => walk_at "fr"))
  | (refine Same.trans (H1 := ?H1) ?hs ?hq; (case hq => assumption); (case hs => walk_at "sm"))
  | fail "no rule")
local macro_rules | `(tactic| walk_at "fr") => `(tactic| first
  | assumption
  | (refine Same.free (H' := ?H1) ?hs ?hq; (case hq => assumption); (case hs => walk_at "sm"))
  | fail "no rule")
local macro_rules | `(tactic| walk_at "src") => `(tactic| first
  | assumption
  | exact Dr.src (by assumption)
  | (refine Src.same (H := ?H0) ?hs ?hm; (case hm => assumption); (case hs => walk_at "src"))
  | (refine Src.upd ?hs ?hn; (case hs => walk_at "src"); (case hn => walk_at "ne"))
  | fail "no rule")
local macro_rules | `(tactic| walk_at "fd") => `(tactic| first
  | assumption
  | (refine Same.free (H' := ?H1) ?hs ?hq; (case hq => assumption); (case hs => walk_at "sm"))
  | (refine Dr.free (H' := ?H1) ?h0 ?hs ?hq; (case hq => assumption); (case hs => walk_at "dr"); (case h0 => walk_at "src"))
  | fail "no rule")
local macro_rules | `(tactic| walk_at "dr") => `(tactic| first
  | assumption
  | (refine Dr.trans (H' := ?H1) ?hs ?hq; (case hq => assumption); (case hs => walk_at "dr"))
  | (refine Dr.mut ?hs ?h0 ?hn; (case hs => walk_at "dr"); (case h0 => walk_at "src"); (case hn => walk_at "fd"))
  | (refine Dr.trans (H' := ?H1) ?hs (Dr.same ?h0 ?hq); (case hq => assumption); (case h0 => walk_at "src"); (case hs => walk_at "dr"))
  | (refine Dr.refl ?hs; (case hs => walk_at "src"))
  | fail "no rule")
local macro_rules | `(tactic| walk_at "sz") => `(tactic| first
  | omega
  | (refine Nat.le_trans ?_ (show (1000 : Nat) ≤ sizeLine by decide); first | decide | omega | (simp; done) | (simp; omega) | fail)
  | fail "no rule")
local macro_rules | `(tactic| walk_at "v1") => `(tactic| first
  | with_reducible refine v_seq ?_
  | with_reducible refine v_asg ?_
  | with_reducible refine v_gname ?_
  | with_reducible refine v_c ?_
  | ((with_reducible refine v_var (v := ?vv) ?hv ?_); (case hv => exact rfl))
  | with_reducible refine v_op ?_
  | with_reducible refine v_un ?_
  | with_reducible refine v_I0 ?_
  | with_reducible refine v_U ?_
  | with_reducible refine v_addI ?_
  | with_reducible refine v_ltI ?_
  | with_reducible refine v_leI ?_
  | with_reducible refine v_gtI ?_
  | with_reducible refine v_geI ?_
  | with_reducible refine v_leS ?_
  | with_reducible refine v_ltS ?_
  | with_reducible refine v_eqI ?_
  | with_reducible refine v_neI ?_
  | with_reducible refine v_eqS ?_
  | with_reducible refine v_neS ?_
  | with_reducible refine v_eqB ?_
  | ((with_reducible refine v_eqTy ?h1 ?h2 ?_); (case h1 => walk_at "bt"); (case h2 => walk_at "bt"))
  | ((with_reducible refine v_neTy ?h1 ?h2 ?_); (case h1 => walk_at "bt"); (case h2 => walk_at "bt"))
  | with_reducible refine v_test ?_
  | with_reducible refine v_B ?_
  | with_reducible refine v_isbl ?_
  | with_reducible refine v_and ?_
  | with_reducible refine v_or ?_
  | with_reducible refine v_not ?_
  | with_reducible refine v_andV ?_
  | with_reducible refine v_orV ?_
  | with_reducible refine v_notV ?_
  | with_reducible refine v_if ?_
  | with_reducible refine v_chain ?_
  | with_reducible refine v_nil ?_
  | with_reducible refine v_cons ?_
  | with_reducible refine v_cb ?_
  | with_reducible refine v_call ?_
  | with_reducible refine v_max ?_
  | ((with_reducible refine v_draw ?hs ?hm ?_); (case hs => walk_at "src"); (case hm => omega))
  | with_reducible refine v_min ?_
  | with_reducible refine v_intI ?_
  | with_reducible refine v_intB ?_
  | with_reducible refine v_m1 ?_
  | with_reducible refine v_isstr ?_
  | with_reducible refine v_sl ?_
  | with_reducible refine v_ss ?_
  | with_reducible refine v_disp1 ?_
  | with_reducible refine v_s0 ?_
  | with_reducible refine v_nopart ?_
  | with_reducible refine v_part ?_
  | with_reducible refine v_partI ?_
  | with_reducible refine v_next ?_
  | with_reducible refine v_gsub ?_
  | with_reducible refine v_ifS ?_
  | with_reducible refine v_ret ?_
  | with_reducible refine v_drop ?_
  | ((with_reducible refine v_iteTrue ?hb ?_); (case hb => walk_at "bt"))
  | ((with_reducible refine v_iteFalse ?hb ?_); (case hb => walk_at "bt"))
  | with_reducible refine v_iteD ?_ ?_
  | with_reducible refine v_iteNot ?_
  | with_reducible refine v_lc ?_
  | with_reducible refine v_iStr ?_
  | with_reducible refine v_isS ?_
  | with_reducible refine v_iRng1 ?_
  | ((with_reducible refine v_rng1 ?hb ?_); (case hb => omega))
  | with_reducible refine v_iList ?_
  | with_reducible refine v_iSeq ?_
  | ((with_reducible refine v_isL (xs := ?xx) ?hsq ?_); (case hsq => walk_at "sq"))
  | with_reducible refine v_for ?_
  | with_reducible refine v_yes ?_
  | ((with_reducible refine v_nand ?hw ?_); (case hw => first | exact rfl | walk_at "sz" | fail))
  | ((with_reducible refine v_typ (T := ?TT) ?ht ?_); (case ht => walk_at "ty"))
  | ((with_reducible refine v_isiK (T := ?TT) ?ht ?h1 ?h2 ?_); (case ht => walk_at "ty"); (case h1 => walk_at "bt"); (case h2 => exact rfl))
  | with_reducible refine iteT ?_
  | with_reducible refine iteF ?_
  | with_reducible refine v_tup ?_
  | with_reducible refine v_lst ?_
  | ((with_reducible refine v_ixL (xs := ?xx) (v := ?vv) ?hsq ?hat ?_); (case hsq => walk_at "sq"); (case hat => exact rfl))
  | ((with_reducible refine v_lenL (xs := ?xx) ?hsq ?_); (case hsq => walk_at "sq"))
  | ((with_reducible refine v_setL (xs := ?xx) (j := ?jj) ?hh ?hj ?_); (case hh => walk_at "hp"); (case hj => exact rfl))
  | ((with_reducible refine v_I ?hc ?_); (case hc => walk_at "ic"))
  | ((with_reducible refine v_lenS ?hz ?_); (case hz => walk_at "sz"))
  | ((with_reducible refine v_slS ?hz ?_); (case hz => walk_at "sz"))
  | ((with_reducible refine v_addS ?hz ?_); (case hz => walk_at "sz"))
  | ((with_reducible refine v_ixS (c := ?cc) ?hz ?hat ?_); (case hz => walk_at "sz"); (case hat => exact rfl))
  | ((with_reducible refine v_addL (xs := ?xx) (ys := ?yy) ?h1 ?h2 ?hz ?_); (case h1 => walk_at "hp"); (case h2 => walk_at "hp"); (case hz => walk_at "sz"))
  | ((with_reducible refine v_ixT (xs := ?xx) (v := ?vv) ?hsq ?hat ?_); (case hsq => walk_at "sq"); (case hat => exact rfl))
  | ((with_reducible refine v_lenT (xs := ?xx) ?hsq ?_); (case hsq => walk_at "sq"))
  | ((with_reducible refine v_eq ?hs ?_); (case hs => exact rfl))
  | ((with_reducible refine v_ne ?hs ?_); (case hs => exact rfl))
  | (with_reducible intro _)
  | fail "no rule")
local macro_rules | `(tactic| walk_at "ic") => `(tactic| first
  | (show (0 : Int) < _; first | decide | omega | fail)
  | (show CMul _ _; unfold CMul; omega)
  | (show CDiv _ _; unfold CDiv; omega)
  | (show CPow _ _; unfold CPow; exact ⟨by decide, by decide, by decide⟩)
  | fail "no rule")
local macro_rules | `(tactic| walk_at "bt") => `(tactic| first
  | exact rfl
  | assumption
  | decide +kernel
  | (simp; done)
  | fail "no rule")
local macro_rules | `(tactic| walk_at "ty") => `(tactic| first
  | assumption
  | exact .non
  | exact .bl _
  | exact .int _
  | exact .str _
  | exact .lst (by walk_at "sq")
  | exact .tup (by walk_at "sq")
  | exact .dK (by walk_at "hp")
  | fail "no rule")
local macro_rules | `(tactic| walk_at "v") => `(tactic| try (walk_at "v1" <;> walk_at "v"))
local macro_rules | `(tactic| walk_at "start") => `(tactic| dsimp only [L2.start, cxOf, Cx.nox, Cx.wish, List.map, List.replicate, List.length, List.append, Nat.reduceSub, Nat.reduceAdd, List.cons_append, List.nil_append])

variable {P : Program} {w : World} {K : PySem.W.Frag} {mg : Str → Option Value} {base : Heap}
variable {aF : Addr} {es : Array DictEntry} {nF : Nat} {C fI CE cE : Addr}
/-! ### a method beside a list that changes -/
theorem codeL_off {H : Hp} {D : Addr} {size len : Int} {ys : List V} (hD : H D = some (.lst ys)) : ∀ {l : List Dat} {xs : List V}, (∀ d ∈ l, instrD size len d = true ∧ shapeD d) → RepL K H l xs → RepL K (off D H) l xs
  | [], _, _, r => r
  | d :: l, _, h, r => by
    obtain ⟨x, xs, rfl, r1, r2⟩ := r
    exact ⟨x, xs, rfl, instr_offL r1 (h d List.mem_cons_self).1 (h d List.mem_cons_self).2 hD, codeL_off hD (fun e he => h e (List.mem_cons_of_mem _ he)) r2⟩
theorem parts_items {n : Str} {ks : List Str} {t : Str} {size : Int} {l : List Dat} (P : Parts n ks t size l) (sh : ∀ d ∈ l, shapeD d) : ∀ d ∈ l, instrD size l.length d = true ∧ shapeD d := fun d hd => ⟨List.all_eq_true.mp P.c3.2.2 d hd, sh d hd⟩
theorem meth_off {H : Hp} {x D : Addr} {n : Str} {ks : List Str} {t : Str} {size : Int} {l : List Dat} {ys : List V} (h : MethAt K C H x n ks t size l) (P : Parts n ks t size l) (sh : ∀ d ∈ l, shapeD d) (hD : H D = some (.lst ys)) : MethAt K C (off D H) x n ks t size l := by
  obtain ⟨dx, pp, pc, fs, xs, h1, h2, h3, h4, h5, h6, h7, h8, h9⟩ := h.ex
  exact ⟨dx, pp, pc, fs, xs, by rw [off_ne (fun z => by rw [z, hD] at h1; cases h1)]; exact h1, h2, h3, h4, h5, h6, sqT_offL h7 hD, sqT_offL h8 hD, codeL_off hD (parts_items P sh) h9⟩
theorem meth_mut {H : Hp} {x D : Addr} {n : Str} {ks : List Str} {t : Str} {size : Int} {l : List Dat} {ys : List V} {o : HO} (h : MethAt K C H x n ks t size l) (P : Parts n ks t size l) (sh : ∀ d ∈ l, shapeD d) (hD : H D = some (.lst ys)) : MethAt K C (upd H D o) x n ks t size l :=
  (meth_off h P sh hD).same off_upd'
theorem meth_src {H : Hp} {x a : Addr} {n : Str} {ks : List Str} {t : Str} {size : Int} {l : List Dat} (h : MethAt K C H x n ks t size l) (P : Parts n ks t size l) (sh : ∀ d ∈ l, shapeD d) (hs : Src a H) : MethAt K C (off a H) x n ks t size l := by
  obtain ⟨n', s', e, _⟩ := hs
  exact meth_off h P sh e
section
variable {σ : L2.St} {H : Hp} {Q : VK} {x : Addr} {i : Nat} {n : Str} {ks : List Str} {t : Str} {size : Int} {l : List Dat}
theorem v_pn (h : MethAt K C H x n ks t size l) (hi : σ[i]? = some (some (.ref x))) (k : Q (.str n) H) : tProp C (getSp C "_name") [] E0 (tVar i) σ H Q := by
  obtain ⟨dx, pp, pc, fs, xs, h1, h2, h3, h4, h5, h6, h7, h8, h9⟩ := h.ex
  exact v_prop (Kit.v_var hi ⟨x, dx, fs, rfl, h1, x, dx, fs, _, rfl, h1, h2, k⟩)
theorem v_pt (h : MethAt K C H x n ks t size l) (hi : σ[i]? = some (some (.ref x))) (k : Q (.str t) H) : tProp C (getSp C "_result") [] E0 (tVar i) σ H Q := by
  obtain ⟨dx, pp, pc, fs, xs, h1, h2, h3, h4, h5, h6, h7, h8, h9⟩ := h.ex
  exact v_prop (Kit.v_var hi ⟨x, dx, fs, rfl, h1, x, dx, fs, _, rfl, h1, h4, k⟩)
theorem v_pz (h : MethAt K C H x n ks t size l) (hi : σ[i]? = some (some (.ref x))) (k : Q (.int size) H) : tProp C (getSp C "_size") [] E0 (tVar i) σ H Q := by
  obtain ⟨dx, pp, pc, fs, xs, h1, h2, h3, h4, h5, h6, h7, h8, h9⟩ := h.ex
  exact v_prop (Kit.v_var hi ⟨x, dx, fs, rfl, h1, x, dx, fs, _, rfl, h1, h5, k⟩)
theorem v_pp (h : MethAt K C H x n ks t size l) (hi : σ[i]? = some (some (.ref x))) (k : ∀ pp, SqT K H pp (ks.map V.str) → Q (.ref pp) H) : tProp C (getSp C "_params") [] E0 (tVar i) σ H Q := by
  obtain ⟨dx, pp, pc, fs, xs, h1, h2, h3, h4, h5, h6, h7, h8, h9⟩ := h.ex
  exact v_prop (Kit.v_var hi ⟨x, dx, fs, rfl, h1, x, dx, fs, _, rfl, h1, h3, k _ h7⟩)
theorem v_pc (h : MethAt K C H x n ks t size l) (hi : σ[i]? = some (some (.ref x))) (k : ∀ pc xs, SqT K H pc xs → RepL K H l xs → Q (.ref pc) H) : tProp C (getSp C "_code") [] E0 (tVar i) σ H Q := by
  obtain ⟨dx, pp, pc, fs, xs, h1, h2, h3, h4, h5, h6, h7, h8, h9⟩ := h.ex
  exact v_prop (Kit.v_var hi ⟨x, dx, fs, rfl, h1, x, dx, fs, _, rfl, h1, h6, k _ _ h8 h9⟩)
/-- its parts in a new list -/
theorem v_parts (h : MethAt K C H x n ks t size l) (hi : σ[i]? = some (some (.ref x))) (k : ∀ p pp pc xs, H p = none → SqT K H pp (ks.map V.str) → SqT K H pc xs → RepL K H l xs → Q (.ref p) (upd H p (.lst [.str n, .ref pp, .str t, .int size, .ref pc]))) :
    tLst (tCons (tProp C (getSp C "_name") [] E0 (tVar i)) (tCons (tProp C (getSp C "_params") [] E0 (tVar i)) (tCons (tProp C (getSp C "_result") [] E0 (tVar i)) (tCons (tProp C (getSp C "_size") [] E0 (tVar i)) (tCons (tProp C (getSp C "_code") [] E0 (tVar i)) tNil))))) σ H Q :=
  v_lst (v_cons (v_pn h hi (v_cons (v_pp h hi fun pp hp => v_cons (v_pt h hi (v_cons (v_pz h hi (v_cons (v_pc h hi fun pc xs hc r => v_nil ⟨Nat.le_of_lt (small1000 (show 5 ≤ 1000 by decide)), fun p hn => k p pp pc xs hn hp hc r⟩)))))))))
end
end K03

open PySem PySem.Spec PyProof.Rows L2 Kit
namespace K03
open K02
variable {K : PySem.W.Frag} {C : Addr}
/-- how things stand in a turn of the law -/
structure LA (K : PySem.W.Frag) (C : Addr) (H0 : Hp) (ps x y pk pc pr po kp kc : Addr) (ks : List Str) (t : Str) (size : Int) (l : List Dat) (xs zs : List V) (H : Hp) (A B : List V) : Prop where
  P : Parts "m" ks t size l
  sh : ∀ d ∈ l, shapeD d
  fr : Same H0 H
  fk : H0 pk = none
  fc : H0 pc = none
  src : Src ps H
  nsk : ps ≠ pk
  nsc : ps ≠ pc
  nkc : pk ≠ pc
  nrk : pr ≠ pk
  nrc : pr ≠ pc
  nok : po ≠ pk
  noc : po ≠ pc
  mx : MethAt K C H x "m" ks t size l
  my : MethAt K C H y "m" ks t size l
  ek : H pk = some (.lst A)
  ec : H pc = some (.lst B)
  er : H pr = some (.lst [.str "m", .ref pk, .str t, .int size, .ref pc])
  eo : H po = some (.lst [.str "m", .ref kp, .str t, .int size, .ref kc])
  hk : SqT K H kp (ks.map V.str)
  hc : SqT K H kc zs
  hz : RepL K H l zs
  hx : RepL K H l xs
section
variable {H0 H H' : Hp} {ps x y pk pc pr po kp kc : Addr} {ks : List Str} {t : Str} {size : Int} {l : List Dat} {xs zs A B A' B' : List V}
theorem LA.same (h : LA K C H0 ps x y pk pc pr po kp kc ks t size l xs zs H A B) (s : Same H H') : LA K C H0 ps x y pk pc pr po kp kc ks t size l xs zs H' A B :=
  ⟨h.P, h.sh, h.fr.trans s, h.fk, h.fc, h.src.same s, h.nsk, h.nsc, h.nkc, h.nrk, h.nrc, h.nok, h.noc, h.mx.same s, h.my.same s, s _ _ h.ek, s _ _ h.ec, s _ _ h.er, s _ _ h.eo, sqT_sm s h.hk, sqT_sm s h.hc, h.hz.same s, h.hx.same s⟩
theorem same_mutF {D : Addr} {o : HO} (s : Same H0 H) (f : H0 D = none) : Same H0 (upd H D o) := fun b u e => by
  rw [upd_ne (ne_of_none e f)]
  exact s _ _ e
theorem LA.setk (h : LA K C H0 ps x y pk pc pr po kp kc ks t size l xs zs H A B) : LA K C H0 ps x y pk pc pr po kp kc ks t size l xs zs (upd H pk (.lst A')) A' B :=
  ⟨h.P, h.sh, same_mutF h.fr h.fk, h.fk, h.fc, h.src.upd h.nsk, h.nsk, h.nsc, h.nkc, h.nrk, h.nrc, h.nok, h.noc, meth_mut h.mx h.P h.sh h.ek, meth_mut h.my h.P h.sh h.ek, upd_same, by rw [upd_ne h.nkc.symm]; exact h.ec, by rw [upd_ne h.nrk]; exact h.er, by rw [upd_ne h.nok]; exact h.eo,
    sqT_sm off_upd' (sqT_offL h.hk h.ek), sqT_sm off_upd' (sqT_offL h.hc h.ek), (codeL_off h.ek (parts_items h.P h.sh) h.hz).same off_upd', (codeL_off h.ek (parts_items h.P h.sh) h.hx).same off_upd'⟩
theorem LA.setc (h : LA K C H0 ps x y pk pc pr po kp kc ks t size l xs zs H A B) : LA K C H0 ps x y pk pc pr po kp kc ks t size l xs zs (upd H pc (.lst B')) A B' :=
  ⟨h.P, h.sh, same_mutF h.fr h.fc, h.fk, h.fc, h.src.upd h.nsc, h.nsk, h.nsc, h.nkc, h.nrk, h.nrc, h.nok, h.noc, meth_mut h.mx h.P h.sh h.ec, meth_mut h.my h.P h.sh h.ec, by rw [upd_ne h.nkc]; exact h.ek, upd_same, by rw [upd_ne h.nrc]; exact h.er, by rw [upd_ne h.noc]; exact h.eo,
    sqT_sm off_upd' (sqT_offL h.hk h.ec), sqT_sm off_upd' (sqT_offL h.hc h.ec), (codeL_off h.ec (parts_items h.P h.sh) h.hz).same off_upd', (codeL_off h.ec (parts_items h.P h.sh) h.hx).same off_upd'⟩
/-- the source drawn from -/
theorem LA.dr (h : LA K C H0 ps x y pk pc pr po kp kc ks t size l xs zs H A B) (d : Dr ps H H') (f : H0 ps = none) (nr : pr ≠ ps) (no : po ≠ ps) : LA K C H0 ps x y pk pc pr po kp kc ks t size l xs zs H' A B := by
  obtain ⟨n, s, e, _⟩ := h.src
  have o := d.off
  exact ⟨h.P, h.sh, fun b u q => d.keep _ _ (h.fr _ _ q) (ne_of_none q f), h.fk, h.fc, d.src, h.nsk, h.nsc, h.nkc, h.nrk, h.nrc, h.nok, h.noc, (meth_off h.mx h.P h.sh e).same (o.trans off_same), (meth_off h.my h.P h.sh e).same (o.trans off_same), d.keep _ _ h.ek h.nsk.symm, d.keep _ _ h.ec h.nsc.symm, d.keep _ _ h.er nr, d.keep _ _ h.eo no,
    sqT_sm (o.trans off_same) (sqT_offL h.hk e), sqT_sm (o.trans off_same) (sqT_offL h.hc e), (codeL_off e (parts_items h.P h.sh) h.hz).same (o.trans off_same), (codeL_off e (parts_items h.P h.sh) h.hx).same (o.trans off_same)⟩
end
end K03

open PySem PySem.Spec PyProof.Rows L2 Kit
namespace K03
open K02
variable {K : PySem.W.Frag} {C : Addr}
/-! ### the parts of a method, as data -/
abbrev partsD (ks : List Str) (t : Str) (size : Int) (l : List Dat) : Dat := .lst [.str "m", .tup (ks.map .str), .str t, .int size, .tup l]
section
variable {H : Hp} {ks : List Str} {t : Str} {size : Int} {l : List Dat}
theorem partsD_ok (P : Parts "m" ks t size l) (sh : ∀ d ∈ l, shapeD d) : noD (partsD ks t size l) = true ∧ okD (partsD ks t size l) ∧ PyData.depth (toP (partsD ks t size l)) ≤ 60 := by
  obtain ⟨n1, m1⟩ := instrs_plain (parts_items P sh)
  obtain ⟨n2, m2⟩ := flats_noD (l := ks.map .str) (List.all_eq_true.mpr fun d hd => by obtain ⟨k, _, rfl⟩ := List.mem_map.mp hd; rfl)
  refine ⟨?_, ?_, ?_⟩
  · show (true && (noDL (ks.map .str) && (true && (true && (noDL l && true))))) = true
    rw [n1, n2]; rfl
  · exact ⟨Nat.le_of_ble_eq_true rfl, P.n2, ⟨by rw [List.length_map]; have := P.k2; omega, (strs_ok P.k1).1⟩, P.t2, trivial, ⟨by have := P.c3.2.1; omega, P.c1⟩, trivial⟩
  · show max 0 (max (PyData.depthAll (toPL (ks.map .str)) + 1) (max 0 (max 0 (max (PyData.depthAll (toPL l) + 1) 0)))) + 1 ≤ 60
    rw [m2]; omega
theorem partsD_rep {p kp kc : Addr} {zs : List V} (e : H p = some (.lst [.str "m", .ref kp, .str t, .int size, .ref kc])) (hk : SqT K H kp (ks.map V.str)) (hc : SqT K H kc zs) (hz : RepL K H l zs) : Rep K H (partsD ks t size l) (.ref p) :=
  ⟨p, _, rfl, sq_lst e, .str "m", _, rfl, rfl, .ref kp, _, rfl, ⟨kp, _, rfl, hk, repL_strs ks⟩, .str t, _, rfl, rfl, .int size, _, rfl, rfl, .ref kc, [], rfl, ⟨kc, zs, rfl, hc, hz⟩, rfl⟩
theorem sameM_refl {n : Str} (P : Parts n ks t size l) : sameM n ks t size l n ks t size l = true := by
  have e1 : PyData.eqv (.tuple (ks.map .str)) (.tuple (ks.map .str)) = true := SeqAt.eqv_refl _ (SeqAt.canLay_of_shaped (strs_shaped P.k1))
  have e2 : PyData.eqv (.tuple (toPL l)) (.tuple (toPL l)) = true := SeqAt.eqv_refl _ (layL_ok P.c1)
  simp [sameM, e1, e2]
/-- two lists of the same parts -/
theorem v_neParts {p q kp kc kp' kc' : Addr} {zs zs' : List V} {Q : VK} (P : Parts "m" ks t size l) (sh : ∀ d ∈ l, shapeD d) (e : H p = some (.lst [.str "m", .ref kp, .str t, .int size, .ref kc])) (hk : SqT K H kp (ks.map V.str)) (hc : SqT K H kc zs) (hz : RepL K H l zs)
    (e' : H q = some (.lst [.str "m", .ref kp', .str t, .int size, .ref kc'])) (hk' : SqT K H kp' (ks.map V.str)) (hc' : SqT K H kc' zs') (hz' : RepL K H l zs') (k : Q (.bl false) H) : rNeU K (.ref p) (.ref q) H Q := by
  obtain ⟨n, o, d⟩ := partsD_ok P sh
  refine v_neDat (partsD_rep e hk hc hz) (partsD_rep e' hk' hc' hz') n n o o d d ?_
  rw [SeqAt.eqv_refl _ (lay_ok o)]
  exact k
end
/-- [shown, True] twice -/
theorem v_neSB {H : Hp} {Q : VK} {p q : Addr} {z : Str} {b : Bool} (h : H p = some (.lst [.str z, .bl b])) (h' : H q = some (.lst [.str z, .bl b])) (ok : PyData.strOk z = true) (k : Q (.bl false) H) : rNeU K (.ref p) (.ref q) H Q := by
  have sh : SeqAt.shaped (.list [.str z, .bool b]) = true := by
    unfold SeqAt.shaped
    rw [Bool.and_eq_true, decide_eq_true_iff]
    refine ⟨?_, Nat.le_of_ble_eq_true rfl⟩
    show (PyData.strOk z && (true && true)) = true
    rw [ok]; rfl
  refine v_neD (d := .list [.str z, .bool b]) (e := .list [.str z, .bool b]) (.lst (sq_lst h) (.cons (.str z) (.cons (.bl b) .nil))) (.lst (sq_lst h') (.cons (.str z) (.cons (.bl b) .nil))) sh sh ?_
  rw [SeqAt.eqv_refl _ (SeqAt.canLay_of_shaped sh)]
  exact k
theorem v_tBM0 {σ : L2.St} {H : Hp} {Q : VK} {T : String} {r : V → List V → Hp → VK → Prop} {to : TE} (k : to σ H fun x H1 => tyV K T x H1 ∧ r x [] H1 Q) : tBM0 K T r to σ H Q := k
section
variable {H0 H : Hp} {ps x y pk pc pr po kp kc : Addr} {ks : List Str} {t : Str} {size : Int} {l : List Dat} {xs zs A B : List V}
theorem LA.npr (h : LA K C H0 ps x y pk pc pr po kp kc ks t size l xs zs H A B) : pr ≠ ps := fun z => by
  obtain ⟨n, s, e, _⟩ := h.src
  have := h.er
  rw [z, e] at this; cases this
theorem LA.npo (h : LA K C H0 ps x y pk pc pr po kp kc ks t size l xs zs H A B) : po ≠ ps := fun z => by
  obtain ⟨n, s, e, _⟩ := h.src
  have := h.eo
  rw [z, e] at this; cases this
end
/-- the wrong part at a place, and the two lists of parts in which it is the first one -/
theorem wrong_at {H : Hp} {pk pc : Addr} {ks : List Str} {t : Str} {size : Int} {l : List Dat} {w0 w1 w2 w3 w4 z : V} {k : Nat} (P : Parts "m" ks t size l) (f0 : W0 K H w0) (f1 : W1 K H w1) (f2 : W2 K H w2) (f3 : W3 K ks.length H w3) (f4 : WrC K size H w4) (ek : H pk = some (.lst (ks.map V.str)))
    (hk : k < 5) (hz : (upto 0 5)[k]? = some z) :
    ∃ (i : Int) (bad : V) (d : PyData), z = .int i ∧ atI [w0, w1, w2, w3, w4] i = some bad ∧ Sh3 K H bad d ∧ okP d ∧
      (∃ a b c e g, cutV [V.str "m", .ref pk, .str t, .int size, .ref pc] none (some i) ++ cutV [w0, w1, w2, w3, w4] (some i) none = [a, b, c, e, g] ∧ Wrong K H a b c e g bad) ∧
      (∃ a b c e g, cutV [V.str "m", .ref pk, .str t, .int size, .ref pc] none (some i) ++ [bad] ++ cutV [V.str "m", .ref pk, .str t, .int size, .ref pc] (some (i + 1)) none = [a, b, c, e, g] ∧ Wrong K H a b c e g bad) ∧
      (cutV [V.str "m", .ref pk, .str t, .int size, .ref pc] none (some i)).length ≤ 5 ∧ (cutV [w0, w1, w2, w3, w4] (some i) none).length ≤ 5 ∧ (cutV [V.str "m", .ref pk, .str t, .int size, .ref pc] (some (i + 1)) none).length ≤ 5 := by
  have rn : RiName (.str "m") := ⟨"m", rfl, P.n1, P.n2⟩
  have rp : RiPars K H (.ref pk) ks.length := ⟨ks, .inr ⟨pk, ks.map V.str, rfl, sq_lst ek, repL_strs ks⟩, P.k1, P.k2, rfl⟩
  have rr : RiRes (.str t) := ⟨t, rfl, P.t1, P.t2⟩
  match k, hk, hz with
  | 0, _, hz =>
    cases hz
    obtain ⟨f, d, sh, ok⟩ := f0
    exact ⟨0, w0, d, rfl, rfl, sh, ok, ⟨_, _, _, _, _, rfl, .inl ⟨rfl, f⟩⟩, ⟨_, _, _, _, _, rfl, .inl ⟨rfl, f⟩⟩, Nat.le_of_ble_eq_true rfl, Nat.le_of_ble_eq_true rfl, Nat.le_of_ble_eq_true rfl⟩
  | 1, _, hz =>
    cases hz
    obtain ⟨f, d, sh, ok⟩ := f1
    exact ⟨1, w1, d, rfl, rfl, sh, ok, ⟨_, _, _, _, _, rfl, .inr (.inl ⟨rfl, rn, f⟩)⟩, ⟨_, _, _, _, _, rfl, .inr (.inl ⟨rfl, rn, f⟩)⟩, Nat.le_of_ble_eq_true rfl, Nat.le_of_ble_eq_true rfl, Nat.le_of_ble_eq_true rfl⟩
  | 2, _, hz =>
    cases hz
    obtain ⟨f, d, sh, ok⟩ := f2
    exact ⟨2, w2, d, rfl, rfl, sh, ok, ⟨_, _, _, _, _, rfl, .inr (.inr (.inl ⟨rfl, rn, ⟨_, rp⟩, f⟩))⟩, ⟨_, _, _, _, _, rfl, .inr (.inr (.inl ⟨rfl, rn, ⟨_, rp⟩, f⟩))⟩, Nat.le_of_ble_eq_true rfl, Nat.le_of_ble_eq_true rfl, Nat.le_of_ble_eq_true rfl⟩
  | 3, _, hz =>
    cases hz
    obtain ⟨f, d, sh, ok⟩ := f3
    exact ⟨3, w3, d, rfl, rfl, sh, ok, ⟨_, _, _, _, _, rfl, .inr (.inr (.inr (.inl ⟨rfl, rn, rr, _, rp, f⟩)))⟩, ⟨_, _, _, _, _, rfl, .inr (.inr (.inr (.inl ⟨rfl, rn, rr, _, rp, f⟩)))⟩, Nat.le_of_ble_eq_true rfl, Nat.le_of_ble_eq_true rfl, Nat.le_of_ble_eq_true rfl⟩
  | 4, _, hz =>
    cases hz
    obtain ⟨f, d, sh, ok⟩ := f4
    exact ⟨4, w4, d, rfl, rfl, sh, ok, ⟨_, _, _, _, _, rfl, .inr (.inr (.inr (.inr ⟨rfl, rn, rr, _, size, rp, rfl, P.z1, P.z2, f⟩)))⟩, ⟨_, _, _, _, _, rfl, .inr (.inr (.inr (.inr ⟨rfl, rn, rr, _, size, rp, rfl, P.z1, P.z2, f⟩)))⟩, Nat.le_of_ble_eq_true rfl, Nat.le_of_ble_eq_true rfl, Nat.le_of_ble_eq_true rfl⟩
end K03

open PySem PySem.Spec PyProof.Rows L2 Kit
namespace K03
open K02
local macro_rules | `(tactic| walk_at "ne") => `(tactic| first
  | assumption
  | (apply Ne.symm; assumption)
  | exact ne_of_none (by assumption) (by assumption)
  | exact (ne_of_none (by assumption) (by assumption)).symm
  | (refine ne_of_none (H := ?H0) (o := ?oo) ?hs ?hn; (case hn => assumption); (case hs => walk_at "hp"))
  | (refine (ne_of_none (H := ?H0) (o := ?oo) ?hs ?hn).symm; (case hn => assumption); (case hs => walk_at "hp"))
  | (refine Src.ne (H := ?H0) ?hs ?hn; (case hn => assumption); (case hs => walk_at "src"))
  | (refine (Src.ne (H := ?H0) ?hs ?hn).symm; (case hn => assumption); (case hs => walk_at "src"))
  | fail "no rule")
local macro_rules | `(tactic| walk_at "hp") => `(tactic| first
  | assumption
  | exact upd_same
  | (refine (upd_ne ?hne).trans ?hrest; (case hne => walk_at "ne"); (case hrest => walk_at "hp"))
  | (refine same_at (H := ?H0) ?hs ?hrest; (case hs => assumption); (case hrest => walk_at "hp"))
  | (refine dr_at (H := ?H0) (a := ?a0) ?hs ?hne ?hrest; (case hs => assumption); (case hne => walk_at "ne"); (case hrest => walk_at "hp"))
  | fail "no rule")
local macro_rules | `(tactic| walk_at "sq") => `(tactic| first
  | assumption
  | exact Or.inl (Or.inl (by walk_at "hp"))
  | (refine sq_upd ?hnn ?hss; (case hnn => assumption); (case hss => walk_at "sq"))
  | (refine Same.seq (H := ?H0) ?hs ?hrest; (case hs => assumption); (case hrest => walk_at "sq"))
  | (refine sq_dr (H := ?H0) (a := ?a0) ?hs ?hne ?hrest; (case hs => assumption); (case hne => walk_at "ne"); (case hrest => walk_at "sq"))
  | fail "no rule")
local macro_rules | `(tactic| walk_at "sm") => `(tactic| first
  | assumption
  | exact Same.refl _
  | (refine same_new ?hnn; (case hnn => assumption))
  | (refine same_push ?hs ?hnn; (case hnn => assumption); (case hs => walk_at "sm"))
  | (refine same_mut ?hs ?hnn; (case hs => walk_at "sm"); (case hnn => walk_at "fr"))
  | (refine Same.trans (H1 := ?H1) ?hs ?hq; (case hq => assumption); (case hs => walk_at "sm"))
  | fail "no rule")
local macro_rules | `(tactic| walk_at "fr") => `(tactic| first
  | assumption
  | (refine Same.free (H' := ?H1) ?hs ?hq; (case hq => assumption); (case hs => walk_at "sm"))
  | fail "no rule")
local macro_rules | `(tactic| walk_at "src") => `(tactic| first
  | assumption
  | exact Dr.src (by assumption)
  | (refine Src.same (H := ?H0) ?hs ?hm; (case hm => assumption); (case hs => walk_at "src"))
  | (refine Src.upd ?hs ?hn; (case hs => walk_at "src"); (case hn => walk_at "ne"))
  | fail "no rule")
local macro_rules | `(tactic| walk_at "fd") => `(tactic| first
  | assumption
  | (refine Same.free (H' := ?H1) ?hs ?hq; (case hq => assumption); (case hs => walk_at "sm"))
  | (refine Dr.free (H' := ?H1) ?h0 ?hs ?hq; (case hq => assumption); (case hs => walk_at "dr"); (case h0 => walk_at "src"))
  | fail "no rule")
local macro_rules | `(tactic| walk_at "dr") => `(tactic| first
  | assumption
  | (refine Dr.trans (H' := ?H1) ?hs ?hq; (case hq => assumption); (case hs => walk_at "dr"))
  | (refine Dr.mut ?hs ?h0 ?hn; (case hs => walk_at "dr"); (case h0 => walk_at "src"); (case hn => walk_at "fd"))
  | (refine Dr.trans (H' := ?H1) ?hs (Dr.same ?h0 ?hq); (case hq => assumption); (case h0 => walk_at "src"); (case hs => walk_at "dr"))
  | (refine Dr.refl ?hs; (case hs => walk_at "src"))
  | fail "no rule")
local macro_rules | `(tactic| walk_at "sz") => `(tactic| first
  | omega
  | (refine Nat.le_trans ?_ (show (1000 : Nat) ≤ sizeLine by decide); first | decide | omega | (simp; done) | (simp; omega) | fail)
  | fail "no rule")
local macro_rules | `(tactic| walk_at "v1") => `(tactic| first
  | with_reducible refine v_seq ?_
  | with_reducible refine v_asg ?_
  | with_reducible refine v_gname ?_
  | with_reducible refine v_c ?_
  | ((with_reducible refine v_var (v := ?vv) ?hv ?_); (case hv => exact rfl))
  | with_reducible refine v_op ?_
  | with_reducible refine v_un ?_
  | with_reducible refine v_I0 ?_
  | with_reducible refine v_U ?_
  | with_reducible refine v_addI ?_
  | with_reducible refine v_ltI ?_
  | with_reducible refine v_leI ?_
  | with_reducible refine v_gtI ?_
  | with_reducible refine v_geI ?_
  | with_reducible refine v_leS ?_
  | with_reducible refine v_ltS ?_
  | with_reducible refine v_eqI ?_
  | with_reducible refine v_neI ?_
  | with_reducible refine v_eqS ?_
  | with_reducible refine v_neS ?_
  | with_reducible refine v_eqB ?_
  | ((with_reducible refine v_eqTy ?h1 ?h2 ?_); (case h1 => walk_at "bt"); (case h2 => walk_at "bt"))
  | ((with_reducible refine v_neTy ?h1 ?h2 ?_); (case h1 => walk_at "bt"); (case h2 => walk_at "bt"))
  | with_reducible refine v_test ?_
  | with_reducible refine v_B ?_
  | with_reducible refine v_isbl ?_
  | with_reducible refine v_and ?_
  | with_reducible refine v_or ?_
  | with_reducible refine v_not ?_
  | with_reducible refine v_andV ?_
  | with_reducible refine v_orV ?_
  | with_reducible refine v_notV ?_
  | with_reducible refine v_if ?_
  | with_reducible refine v_chain ?_
  | with_reducible refine v_nil ?_
  | with_reducible refine v_cons ?_
  | with_reducible refine v_cb ?_
  | with_reducible refine v_call ?_
  | with_reducible refine v_max ?_
  | ((with_reducible refine v_draw ?hs ?hm ?_); (case hs => walk_at "src"); (case hm => omega))
  | with_reducible refine v_min ?_
  | with_reducible refine v_intI ?_
  | with_reducible refine v_intB ?_
  | with_reducible refine v_m1 ?_
  | with_reducible refine v_isstr ?_
  | with_reducible refine v_sl ?_
  | with_reducible refine v_ss ?_
  | with_reducible refine v_disp1 ?_
  | with_reducible refine v_s0 ?_
  | with_reducible refine v_nopart ?_
  | with_reducible refine v_part ?_
  | with_reducible refine v_partI ?_
  | with_reducible refine v_next ?_
  | with_reducible refine v_gsub ?_
  | with_reducible refine v_ifS ?_
  | with_reducible refine v_ret ?_
  | with_reducible refine v_drop ?_
  | ((with_reducible refine v_iteTrue ?hb ?_); (case hb => walk_at "bt"))
  | ((with_reducible refine v_iteFalse ?hb ?_); (case hb => walk_at "bt"))
  | with_reducible refine v_iteD ?_ ?_
  | with_reducible refine v_iteNot ?_
  | with_reducible refine v_lc ?_
  | with_reducible refine v_iStr ?_
  | with_reducible refine v_isS ?_
  | with_reducible refine v_iRng1 ?_
  | ((with_reducible refine v_rng1 ?hb ?_); (case hb => omega))
  | with_reducible refine v_iList ?_
  | with_reducible refine v_iSeq ?_
  | ((with_reducible refine v_isL (xs := ?xx) ?hsq ?_); (case hsq => walk_at "sq"))
  | with_reducible refine v_for ?_
  | with_reducible refine v_yes ?_
  | ((with_reducible refine v_nand ?hw ?_); (case hw => first | exact rfl | walk_at "sz" | fail))
  | ((with_reducible refine v_typ (T := ?TT) ?ht ?_); (case ht => walk_at "ty"))
  | ((with_reducible refine v_isiK (T := ?TT) ?ht ?h1 ?h2 ?_); (case ht => walk_at "ty"); (case h1 => walk_at "bt"); (case h2 => exact rfl))
  | with_reducible refine iteT ?_
  | with_reducible refine iteF ?_
  | with_reducible refine v_tup ?_
  | with_reducible refine v_lst ?_
  | ((with_reducible refine v_ixL (xs := ?xx) (v := ?vv) ?hsq ?hat ?_); (case hsq => walk_at "sq"); (case hat => exact rfl))
  | ((with_reducible refine v_lenL (xs := ?xx) ?hsq ?_); (case hsq => walk_at "sq"))
  | ((with_reducible refine v_setL (xs := ?xx) (j := ?jj) ?hh ?hj ?_); (case hh => walk_at "hp"); (case hj => exact rfl))
  | ((with_reducible refine v_I ?hc ?_); (case hc => walk_at "ic"))
  | ((with_reducible refine v_lenS ?hz ?_); (case hz => walk_at "sz"))
  | ((with_reducible refine v_slS ?hz ?_); (case hz => walk_at "sz"))
  | ((with_reducible refine v_addS ?hz ?_); (case hz => walk_at "sz"))
  | ((with_reducible refine v_ixS (c := ?cc) ?hz ?hat ?_); (case hz => walk_at "sz"); (case hat => exact rfl))
  | ((with_reducible refine v_addL (xs := ?xx) (ys := ?yy) ?h1 ?h2 ?hz ?_); (case h1 => walk_at "hp"); (case h2 => walk_at "hp"); (case hz => walk_at "sz"))
  | ((with_reducible refine v_ixT (xs := ?xx) (v := ?vv) ?hsq ?hat ?_); (case hsq => walk_at "sq"); (case hat => exact rfl))
  | ((with_reducible refine v_lenT (xs := ?xx) ?hsq ?_); (case hsq => walk_at "sq"))
  | ((with_reducible refine v_eq ?hs ?_); (case hs => exact rfl))
  | ((with_reducible refine v_ne ?hs ?_); (case hs => exact rfl))
  | (with_reducible intro _)
  | fail "no rule")
local macro_rules | `(tactic| walk_at "ic") => `(tactic| first
  | (show (0 : Int) < _; first | decide | omega | fail)
  | (show CMul _ _; unfold CMul; omega)
  | (show CDiv _ _; unfold CDiv; omega)
  | (show CPow _ _; unfold CPow; exact ⟨by decide, by decide, by decide⟩)
  | fail "no rule")
local macro_rules | `(tactic| walk_at "bt") => `(tactic| first
  | exact rfl
  | assumption
  | decide +kernel
  | (simp; done)
  | fail "no rule")
local macro_rules | `(tactic| walk_at "ty") => `(tactic| first
  | assumption
  | exact .non
  | exact .bl _
  | exact .int _
  | exact .str _
  | exact .lst (by walk_at "sq")
  | exact .tup (by walk_at "sq")
  | exact .dK (by walk_at "hp")
  | fail "no rule")
local macro_rules | `(tactic| walk_at "v") => `(tactic| try (walk_at "v1" <;> walk_at "v"))
local macro_rules | `(tactic| walk_at "start") => `(tactic| dsimp only [L2.start, cxOf, Cx.nox, Cx.wish, List.map, List.replicate, List.length, List.append, Nat.reduceSub, Nat.reduceAdd, List.cons_append, List.nil_append])

variable {P : Program} {w : World} {K : PySem.W.Frag} {mg : Str → Option Value} {base : Heap}
variable {aF : Addr} {es : Array DictEntry} {nF : Nat} {C fI CE cE : Addr}
/-! ### law -/
def spLaw (K : PySem.W.Frag) : Sp := fun vs H Q _ => ∃ (a : Addr) (ns : List Int), vs = [.ref a] ∧ SqL K H a (ns.map V.int) ∧ ns.length ≤ 63 ∧ ∀ H', Q (.bl true) H'
theorem ok_law {f : Addr} {fd : FuncData} (F : Fun K "law" "law" s_law f fd) (T : Txt K w mg aF es nF) (I : ClsI K C) (nf : PySem.W.notFirst K C (.ref C) = true) (nfl : PySem.W.notFirst K C (.type "list") = true) (kl : PySem.W.kitOne K (.type "list") (.ref C) = some false) (C_law_source : Cal P w K mg base 1 "_law_source" ["_law_script", "_law_turn"] (spSource K)) (C_law_draw : Cal P w K mg base 1 "_law_draw" ["_law_source_here", "_law_amount"] spDraw)
    (C_law_method : Cal P w K mg base 9 "_law_method" ["_law_source_here", "_law_is_ready"] (spMethF K C)) (C_Method : MkCal P w K mg base 7 "Method" C ["self", "name", "params", "result", "size", "code"] (spInitF K C)) (C_eq : EqCal P w K mg base 1 C (spEqM K C)) (C_law_refused : CalG P w K mg base 9 "_law_refused" ["_law_parts"] (spRefused K))
    (C_law_wrongs : Cal P w K mg base 3 "_law_wrongs" ["_law_source_here", "_law_method_here"] (spWrongs K C)) (C_law_others_right : Cal P w K mg base 9 "_law_others_right" ["_law_method_here", "_law_right"] (spOthers K C))
    (C_name : PropCal P w K mg base 1 C "name" (getSp C "_name")) (C_params : PropCal P w K mg base 1 C "params" (getSp C "_params")) (C_result : PropCal P w K mg base 1 C "result" (getSp C "_result")) (C_size : PropCal P w K mg base 1 C "size" (getSp C "_size")) (C_code : PropCal P w K mg base 1 C "code" (getSp C "_code")) :
    FnG P w K mg base CX0 10 f fd ["_law_script"] (spLaw K) := by
  refine okG0 F sc_law (fun vs H Q E h => ?_) (fun cdv A outer s H vs Q E gd hr h => ?_)
  · obtain ⟨a, ns, rfl, _⟩ := h
    rfl
  · obtain ⟨a, ns, rfl, hS, hl, q⟩ := h
    refine ⟨_, (pss_cons (ps_for PassesOwn.never rfl (pi_range1 (by rfl) T.b_range (pa_cons (pe_callB callMaxU (by rfl) T.b_max (by decide +kernel) (pa_cons pe_int (pa_cons (pe_callB callMinU (by rfl) T.b_min (by decide +kernel) (pa_cons (pe_callB (kLen (K := K) rfl) (by rfl) T.b_len (by decide +kernel) (pa_cons (pv 0) pa_nil)) (pa_cons pe_int pa_nil))) pa_nil))) pa_nil)) (pg_name (i := 1) sc_law.nd rfl (by first | exact .inl rfl | exact .inr rfl))
      (pss_cons (ps_set (i := 2) sc_law.nd rfl (by first | exact .inl rfl | exact .inr rfl) (pcall C_law_source hr (by omega) (by rfl) (pa_cons (pv 0) (pa_cons (pv 1) pa_nil))))
      (pss_cons (ps_set (i := 3) sc_law.nd rfl (by first | exact .inl rfl | exact .inr rfl) (pcall C_law_method hr (by omega) (by rfl) (pa_cons (pv 2) (pa_cons (pe_cmpR (kEq (K := K) rfl hr.units) (pcall C_law_draw hr (by omega) (by rfl) (pa_cons (pv 2) (pa_cons pe_int pa_nil))) pe_int (nomark _)) pa_nil))))
      (pss_cons (ps_set (i := 4) sc_law.nd rfl (by first | exact .inl rfl | exact .inr rfl) (pe_lst (pa_cons (pprop C_name hr (by omega) (pv 3)) (pa_cons (pe_callTy (kLst1 (K := K) rfl) (by rfl) T.b_list (by decide +kernel) (pa_cons (pprop C_params hr (by omega) (pv 3)) pa_nil)) (pa_cons (pprop C_result hr (by omega) (pv 3)) (pa_cons (pprop C_size hr (by omega) (pv 3)) (pa_cons (pe_callTy (kLst1 (K := K) rfl) (by rfl) T.b_list (by decide +kernel) (pa_cons (pprop C_code hr (by omega) (pv 3)) pa_nil)) pa_nil)))))))
      (pss_cons (ps_set (i := 5) sc_law.nd rfl (by first | exact .inl rfl | exact .inr rfl) (pmake C_Method hr (by omega) (by rfl) (pa_cons (pe_ix (kIx (K := K) rfl) (pv 4) pe_int (fun _ _ => rfl)) (pa_cons (pe_ix (kIx (K := K) rfl) (pv 4) pe_int (fun _ _ => rfl)) (pa_cons (pe_ix (kIx (K := K) rfl) (pv 4) pe_int (fun _ _ => rfl)) (pa_cons (pe_ix (kIx (K := K) rfl) (pv 4) pe_int (fun _ _ => rfl)) (pa_cons (pe_ix (kIx (K := K) rfl) (pv 4) pe_int (fun _ _ => rfl)) pa_nil)))))))
      (pss_cons (ps_set (i := 6) sc_law.nd rfl (by first | exact .inl rfl | exact .inr rfl) (pe_lst (pa_cons (pprop C_name hr (by omega) (pv 3)) (pa_cons (pprop C_params hr (by omega) (pv 3)) (pa_cons (pprop C_result hr (by omega) (pv 3)) (pa_cons (pprop C_size hr (by omega) (pv 3)) (pa_cons (pprop C_code hr (by omega) (pv 3)) pa_nil)))))))
      (pss_cons (ps_expr (pe_bm PySem.F.plainAttrs_list PySem.F.slot_list_append PySem.F.type_list_append mt_append (pe_ix (kIx (K := K) rfl) (pv 4) pe_int (fun _ _ => rfl)) (pa_cons pe_str pa_nil)))
      (pss_cons (ps_expr (pe_bm PySem.F.plainAttrs_list PySem.F.slot_list_append PySem.F.type_list_append mt_append (pe_ix (kIx (K := K) rfl) (pv 4) pe_int (fun _ _ => rfl)) (pa_cons (pe_tup (pa_cons pe_str (pa_cons pe_int pa_nil))) pa_nil)))
      (pss_cons (ps_if (PW.pt (pw_or (pt_cmpR (kNe (K := K) rfl hr.units) (pe_lst (pa_cons (pprop C_name hr (by omega) (pv 5)) (pa_cons (pprop C_params hr (by omega) (pv 5)) (pa_cons (pprop C_result hr (by omega) (pv 5)) (pa_cons (pprop C_size hr (by omega) (pv 5)) (pa_cons (pprop C_code hr (by omega) (pv 5)) pa_nil)))))) (pv 6) (nomark _)) (pw_or1 (pt_not (pt_cmpR (op_own C_eq hr (by omega)) (pv 5) (pv 3) (nomark _)))))) (pss_one (ps_ret pe_bl)) pss_nil)
      (pss_cons (ps_expr (pe_bm0 PySem.F.plainAttrs_list PySem.F.slot_list_pop PySem.F.type_list_pop mt_pop (pe_ix (kIx (K := K) rfl) (pv 4) pe_int (fun _ _ => rfl))))
      (pss_cons (ps_expr (pe_bm0 PySem.F.plainAttrs_list PySem.F.slot_list_pop PySem.F.type_list_pop mt_pop (pe_ix (kIx (K := K) rfl) (pv 4) pe_int (fun _ _ => rfl))))
      (pss_cons (ps_set (i := 7) sc_law.nd rfl (by first | exact .inl rfl | exact .inr rfl) (pcall C_law_wrongs hr (by omega) (by rfl) (pa_cons (pv 2) (pa_cons (pv 3) pa_nil))))
      (pss_cons (ps_for PassesOwn.never rfl (pi_range1 (by rfl) T.b_range (pa_cons pe_int pa_nil)) (pg_name (i := 8) sc_law.nd rfl (by first | exact .inl rfl | exact .inr rfl))
      (pss_cons (ps_set (i := 9) sc_law.nd rfl (by first | exact .inl rfl | exact .inr rfl) (pe_lst (pa_cons (pe_callB (call_repr3 (K := K) rfl gd hr.units) (by rfl) T.b_repr (by decide +kernel) (pa_cons (pe_ix (kIx (K := K) rfl) (pv 7) (pv 8) (fun _ _ => rfl)) pa_nil)) (pa_cons pe_bl pa_nil))))
      (pss_cons (ps_if (pt_cmpR (kNe (K := K) rfl hr.units) (pcallG C_law_refused gd hr (by omega) (by rfl) (pa_cons (pe_op (kAdd (K := K) rfl) (pe_slice (kSl (K := K) rfl) (pv 4) po_none (po_some (pv 8))) (pe_slice (kSl (K := K) rfl) (pv 7) (po_some (pv 8)) po_none)) pa_nil)) (pv 9) (nomark _)) (pss_one (ps_ret pe_bl)) pss_nil)
      (pss_one (ps_if (pt_cmpR (kNe (K := K) rfl hr.units) (pcallG C_law_refused gd hr (by omega) (by rfl) (pa_cons (pe_op (kAdd (K := K) rfl) (pe_op (kAdd (K := K) rfl) (pe_slice (kSl (K := K) rfl) (pv 4) po_none (po_some (pv 8))) (pe_lst (pa_cons (pe_ix (kIx (K := K) rfl) (pv 7) (pv 8) (fun _ _ => rfl)) pa_nil))) (pe_slice (kSl (K := K) rfl) (pv 4) (po_some (pe_op (kAdd (K := K) rfl) (pv 8) pe_int)) po_none)) pa_nil)) (pv 9) (nomark _)) (pss_one (ps_ret pe_bl)) pss_nil)))))
      (pss_cons (ps_if (pt_not (pt_val (pcall C_law_others_right hr (by omega) (by rfl) (pa_cons (pv 3) (pa_cons (pv 4) pa_nil))))) (pss_one (ps_ret pe_bl)) pss_nil)
      (pss_one (ps_if (PW.pt (pw_or (pt_cmpR (op_own C_eq hr (by omega)) (pv 3) (pv 6) (nomark _)) (pw_or (pt_cmpR op_notN (pcallG C_law_refused gd hr (by omega) (by rfl) (pa_cons (pv 4) pa_nil)) pe_non (nomark _)) (pw_or1 (pt_cmpR opGtU (pe_op (kAdd (K := K) rfl) (pe_callB (kLen (K := K) rfl) (by rfl) T.b_len (by decide +kernel) (pa_cons (pprop C_params hr (by omega) (pv 3)) pa_nil)) pe_int) (pprop C_size hr (by omega) (pv 3)) (nomark _)))))) (pss_one (ps_ret pe_bl)) pss_nil))))))))))))))))
      (pss_one (ps_ret pe_bl))), ?_⟩
    walk_at "start"
    have hnl : (ns.map V.int).length = ns.length := by simp
    walk_at "v"
    refine for_w walk_upto (fun i σ H' => ∃ v1 v2 v3 v4 v5 v6 v7 v8 v9, σ = [some (.ref a), v1, v2, v3, v4, v5, v6, v7, v8, v9] ∧ Same H H') ⟨_, _, _, _, _, _, _, _, _, rfl, Same.refl _⟩ (fun _ _ _ _ _ => trivial) ?_ ?_
    · rintro i x σ H2 H2' hi ⟨v1, v2, v3, v4, v5, v6, v7, v8, v9, rfl, s2⟩ ⟨rfl, hx⟩
      have hS2 := s2.seq hS
      obtain ⟨i', rfl, hi63⟩ : ∃ i' : Nat, x = .int i' ∧ i' < 64 := by
        rw [upto_len] at hi
        unfold upto at hx
        rw [List.getElem?_map, List.getElem?_range hi] at hx
        cases hx
        exact ⟨i, by simp, by omega⟩
      walk_at "v"
      refine ⟨a, ns, i', rfl, hS2, hl, by omega, by omega, fun ps H3 hps s3 hsrc => ?_⟩
      have s23 := s2.trans s3
      walk_at "v"
      rename_i d H4 hd0 hd1 d4
      refine ⟨ps, _, rfl, d4.src, fun x ks t size l H5 hM hP hsh hks hk2 ht h6 h12 d5 => ?_⟩
      have d35 := d4.trans d5
      have s5 : Same H H5 := fun b o e => d35.keep b o (s23 b o e) (ne_of_none (s2 b o e) hps)
      have src5 := d35.src
      clear d4 d5 d35 hd0 hd1 s23 hsrc s3
      refine v_gname (v_next ?_)
      dsimp only
      refine v_seq (v_asg (v_lst (v_cons (v_pn hM rfl (v_cons (v_cb (v_cons (v_pp hM rfl fun pp hpp => v_nil (v_lst1T hpp fun pk hpk => ?_)))))))))
      have u1 := same_new (o := .lst (ks.map V.str)) hpk
      refine v_cons (v_pt (hM.same u1) rfl (v_cons (v_pz (hM.same u1) rfl (v_cons (v_cb (v_cons (v_pc (hM.same u1) rfl fun pq xs hpq hrx => v_nil (v_lst1T hpq fun pc hpc => ?_))))))))
      have u2 := same_new (o := .lst xs) hpc
      refine v_nil ⟨Nat.le_of_lt (small1000 (show 5 ≤ 1000 by decide)), fun pr hpr => ?_⟩
      have u3 := same_new (o := .lst [.str "m", .ref pk, .str t, .int size, .ref pc]) hpr
      have s56 := (u1.trans u2).trans u3
      have ek := u3 _ _ (u2 _ _ (upd_same (H := H5) (a := pk) (o := .lst (ks.map V.str))))
      have ec := u3 _ _ (upd_same (H := upd H5 pk (.lst (ks.map V.str))) (a := pc) (o := .lst xs))
      have er := upd_same (H := upd (upd H5 pk (.lst (ks.map V.str))) pc (.lst xs)) (a := pr) (o := .lst [.str "m", .ref pk, .str t, .int size, .ref pc])
      have hrx := (hrx.same u2).same u3
      have hpk0 : H5 pk = none := hpk
      have hcr : pc ≠ pr := ne_of_none upd_same hpr
      have hkc : pk ≠ pc := ne_of_none upd_same hpc
      have hpc0 : H5 pc = none := by rw [upd_ne hkc.symm] at hpc; exact hpc
      revert s56 ek ec er hrx
      generalize upd (upd (upd H5 pk (.lst (ks.map V.str))) pc (.lst xs)) pr (.lst [.str "m", .ref pk, .str t, .int size, .ref pc]) = H6
      intro s56 ek ec er hrx
      clear u1 u2 u3 hpc hpk hpr hpp hpq
      refine v_gname (v_next ?_)
      dsimp only
      refine v_seq (v_asg (v_make ?_))
      walk_at "v"
      rename_i y dy hy hdy hne
      have sm : Same H6 (upd (upd H6 dy (.own y)) y (.ins C dy [])) := (same_new hdy).trans (same_new (by rw [upd_ne hne.symm]; exact hy))
      refine ⟨y, dy, "m", .ref pk, ks, t, size, .ref pc, l, rfl, upd_same, hP, .inr ⟨pk, ks.map V.str, rfl, sq_lst (sm _ _ ek), repL_strs ks⟩, .inr ⟨pc, xs, rfl, sq_lst (sm _ _ ec), hrx.same sm⟩, fun H7 fr ma => ⟨rfl, ?_⟩⟩
      have s67 : Same H6 H7 := fun b o e => fr b o (sm b o e) (ne_of_none e hy)
      clear sm fr hy hdy hne
      refine v_gname (v_next ?_)
      dsimp only
      refine v_seq (v_asg (v_parts ((hM.same s56).same s67) rfl fun po kp kc zs hpo hkp hkcT hzs => ?_))
      have hco : pc ≠ po := ne_of_none (s67 _ _ ec) hpo
      have u1 := same_new (o := .lst [.str "m", .ref kp, .str t, .int size, .ref kc]) hpo
      have s58 := (s56.trans s67).trans u1
      have ek := u1 _ _ (s67 _ _ ek)
      have ec := u1 _ _ (s67 _ _ ec)
      have er := u1 _ _ (s67 _ _ er)
      have eo := upd_same (H := H7) (a := po) (o := .lst [.str "m", .ref kp, .str t, .int size, .ref kc])
      have hrx := (hrx.same s67).same u1
      have hkp := sqT_sm u1 hkp
      have hkcT := sqT_sm u1 hkcT
      have hzs := hzs.same u1
      have mb := ma.same u1
      revert s58 ek ec er eo hrx hkp hkcT hzs mb
      generalize upd H7 po (.lst [.str "m", .ref kp, .str t, .int size, .ref kc]) = H8
      intro s58 ek ec er eo hrx hkp hkcT hzs mb
      clear u1 s56 s67 ma hpo
      have free : ∀ {b : Addr}, H5 b = none → H b = none := fun {b} h => by
        cases e : H b with
        | none => rfl
        | some o => rw [s5 _ _ e] at h; cases h
      have hps0 : H ps = none := by
        cases e : H ps with
        | none => rfl
        | some o => rw [s2 _ _ e] at hps; cases hps
      have hnl8 : ∀ (ys : List V), ys.length ≠ 5 → ∀ {b c : Addr} {u1 u2 u3 u4 u5 : V}, H8 b = some (.lst [u1, u2, u3, u4, u5]) → H8 c = some (.lst ys) → b ≠ c := fun ys n {b c u1 u2 u3 u4 u5} h1 h2 z => by
        rw [z, h2] at h1
        cases h1
        exact n rfl
      have src8 := src5.same s58
      have nps2 : ∀ {b : Addr} {u1 u2 u3 u4 u5 : V}, H8 b = some (.lst [u1, u2, u3, u4, u5]) → b ≠ ps := fun {b u1 u2 u3 u4 u5} h z => by
        subst z
        obtain ⟨n', s', e, _⟩ := src8
        rw [h] at e; cases e
      have hkl : (ks.map V.str).length ≠ 5 := by rw [List.length_map]; omega
      have L8 : LA K C H ps x y pk pc pr po kp kc ks t size l xs zs H8 (ks.map V.str) xs :=
        ⟨hP, hsh, s5.trans s58, free hpk0, free hpc0, src8, src5.ne hpk0, src5.ne hpc0, hkc, hnl8 _ hkl er ek, hcr.symm, hnl8 _ hkl eo ek, hco.symm, hM.same s58, mb, ek, ec, er, eo, hkp, hkcT, hzs, hrx⟩
      have hxl := hrx.length
      clear mb eo hkp hkcT hzs hrx src8 hnl8 s58 s5 src5
      refine v_seq (v_drop (v_tBM (v_op (Kit.v_var rfl (v_c (v_ixL (sq_lst er) (v := .ref pk) rfl ⟨.inl ⟨rfl, _, sq_lst ek⟩, v_cons (v_c (v_nil ⟨pk, _, _, rfl, rfl, ek, small1000 (by rw [List.length_map]; omega), ?_⟩))⟩))))))
      have L9 := L8.setk (A' := ks.map V.str ++ [V.str "a"])
      clear L8 ek ec er
      revert L9
      generalize upd H8 pk (.lst (ks.map V.str ++ [V.str "a"])) = H9
      intro L9
      dsimp only
      refine v_seq (v_drop (v_tBM (v_op (Kit.v_var rfl (v_c (v_ixL (sq_lst L9.er) (v := .ref pc) rfl ⟨.inl ⟨rfl, _, sq_lst L9.ec⟩, v_cons (v_tup (v_cons (v_c (v_cons (v_c (v_nil ⟨Nat.le_of_lt (small1000 (show 2 ≤ 1000 by decide)), fun pn hpn => ?_⟩))))))⟩))))))
      have LA := L9.same (same_new (o := .tup [.str "null", .int 0]) hpn)
      clear L9
      revert LA
      generalize upd H9 pn (.tup [.str "null", .int 0]) = HA
      intro LA
      refine v_nil ⟨pc, _, _, rfl, rfl, LA.ec, small1000 (by have := hP.c3.2.1; omega), ?_⟩
      have LB := LA.setc (B' := xs ++ [.ref pn])
      clear LA hpn
      revert LB
      generalize upd HA pc (.lst (xs ++ [.ref pn])) = HB
      intro LB
      dsimp only
      refine v_seq (v_ifS (v_or (v_test (v_op (v_parts LB.my rfl fun p5 kp5 kc5 zs5 hp5 hkp5 hkc5 hzs5 => Kit.v_var rfl ?_)))))
      have u5 := same_new (o := .lst [.str "m", .ref kp5, .str t, .int size, .ref kc5]) hp5
      have LC := LB.same u5
      refine v_neParts LC.P LC.sh upd_same (sqT_sm u5 hkp5) (sqT_sm u5 hkc5) (hzs5.same u5) LC.eo LC.hk LC.hc LC.hz ?_
      clear LB hkp5 hkc5 hzs5 hp5 u5
      revert LC
      generalize upd HB p5 (.lst [.str "m", .ref kp5, .str t, .int size, .ref kc5]) = HC
      intro LC
      obtain ⟨dy0, _, _, fy0, _, hy1, _⟩ := LC.my.ex
      obtain ⟨dx0, _, _, fx0, _, hx1, _⟩ := LC.mx.ex
      refine ⟨false, rfl, iteF (v_not (v_test (v_op (Kit.v_var rfl (Kit.v_var rfl ⟨y, dy0, fy0, .ref C, rfl, hy1, I.ty hx1, nf, y, .ref x, "m", ks, t, size, l, rfl, LC.my, .inl ⟨x, "m", ks, t, size, l, rfl, LC.mx, LC.P, LC.P, LC.sh, LC.sh, ⟨_, rfl⟩, true, congrArg V.bl (sameM_refl LC.P), iteF (v_next ?_)⟩⟩)))))⟩
      clear hx1 hy1
      dsimp only
      refine v_seq (v_drop (v_tBM0 (v_op (Kit.v_var rfl (v_c (v_ixL (sq_lst LC.er) (v := .ref pk) rfl ⟨.inl ⟨rfl, _, sq_lst LC.ek⟩, pk, _, .str "a", rfl, rfl, LC.ek, by simp, ?_⟩))))))
      rw [List.dropLast_concat]
      have LD := LC.setk (A' := ks.map V.str)
      clear LC
      revert LD
      generalize upd HC pk (.lst (ks.map V.str)) = HD
      intro LD
      dsimp only
      refine v_seq (v_drop (v_tBM0 (v_op (Kit.v_var rfl (v_c (v_ixL (sq_lst LD.er) (v := .ref pc) rfl ⟨.inl ⟨rfl, _, sq_lst LD.ec⟩, pc, _, .ref pn, rfl, rfl, LD.ec, by simp, ?_⟩))))))
      rw [List.dropLast_concat]
      have LE := LD.setc (B' := xs)
      clear LD
      revert LE
      generalize upd HD pc (.lst xs) = HE
      intro LE
      dsimp only
      refine v_seq (v_asg (v_call (v_cons (Kit.v_var rfl (v_cons (Kit.v_var rfl (v_nil ⟨ps, x, "m", ks, t, size, l, rfl, LE.src, meth_src LE.mx LE.P LE.sh LE.src, hk2, by have := LE.P.z1; omega, h6, fun pw HW w0 w1 w2 w3 w4 dw npw ew e0 e1 e2 e3 e4 => ?_⟩)))))))
      have LF := LE.dr dw hps0 LE.npr LE.npo
      have f0 := mo_w0 off_same e0
      have f1 := mo_w1 off_same e1
      have f2 := mo_w2 off_same e2
      have f3 := mo_w3 off_same e3
      have f4 := mo_wrc off_same e4
      clear e0 e1 e2 e3 e4 LE dw
      refine v_gname (v_next ?_)
      dsimp only
      refine v_seq (v_for (v_iRng1 (v_cons (v_c (v_nil (v_rng1 (by omega) ?_))))))
      refine for_w (walk_upto (lo := 0) (n := 5)) (fun k σ H' => ∃ v8 v9, σ = [some (.ref a), some (.int i'), some (.ref ps), some (.ref x), some (.ref pr), some (.ref y), some (.ref po), some (.ref pw), v8, v9] ∧ Same HW H') ⟨_, _, rfl, Same.refl _⟩ (fun _ _ _ _ _ => trivial) ?_ ?_
      · rintro k z σ G0 G1 hk ⟨u8, u9, rfl, sW⟩ ⟨rfl, hz⟩
        rw [upto_len] at hk
        obtain ⟨i, bad, d, rfl, hat, sh, ok, ⟨a1, a2, a3, a4, a5, c1, wr1⟩, ⟨b1, b2, b3, b4, b5, c2, wr2⟩, n1, n2, n3⟩ := wrong_at (pc := pc) LF.P f0 f1 f2 f3 f4 LF.ek hk hz
        have z11 := small1000 (show 11 ≤ 1000 by decide)
        have ew2 := sW _ _ ew
        refine v_gname ?_
        dsimp only
        refine v_seq (v_asg (v_lst (v_cons (v_cb (v_cons (v_op (Kit.v_var rfl (Kit.v_var rfl (v_ixL (sq_lst ew2) hat (v_nil ⟨bad, d, rfl, sh.same sW, ok.1, v_cons (v_c (v_nil ⟨by show 2 ≤ sizeLine; omega, fun pd hpd => ?_⟩))⟩))))))))))
        have sd := sW.trans (same_new (o := .lst [.str d.shown, .bl true]) hpd)
        have ed := upd_same (H := G1) (a := pd) (o := .lst [.str d.shown, .bl true])
        clear ew2 hpd
        revert sd ed
        generalize upd G1 pd (.lst [.str d.shown, .bl true]) = G2
        intro sd ed
        have er2 := sd _ _ LF.er
        have ew2 := sd _ _ ew
        generalize hR : [V.str "m", .ref pk, .str t, .int size, .ref pc] = R at *
        generalize hWs : [w0, w1, w2, w3, w4] = Ws at *
        refine v_gname (v_next ?_)
        dsimp only
        refine v_seq (v_ifS (v_test (v_op (v_call (v_cons (v_op (v_sl (Kit.v_var rfl (v_nopart (v_part (Kit.v_var rfl ⟨i, rfl, v_slL (sq_lst er2) fun p1 hp1 => ?_⟩)))))))))))
        have t1 := same_new (o := .lst (cutV R none (some i))) hp1
        refine v_sl (Kit.v_var rfl (v_part (Kit.v_var rfl ⟨i, rfl, v_nopart (v_slL (sq_lst (t1 _ _ ew2)) fun p2 hp2 => ?_)⟩)))
        have t2 := same_new (o := .lst (cutV Ws (some i) none)) hp2
        refine v_addL (t2 _ _ upd_same) upd_same (by omega) fun p3 hp3 => ?_
        have t13 := (t1.trans t2).trans (same_new (o := .lst (cutV R none (some i) ++ cutV Ws (some i) none)) hp3)
        have e3 : upd (upd (upd G2 p1 (.lst (cutV R none (some i)))) p2 (.lst (cutV Ws (some i) none))) p3 (.lst (cutV R none (some i) ++ cutV Ws (some i) none)) p3 = some (.lst [a1, a2, a3, a4, a5]) := by rw [upd_same, c1]
        clear t1 t2 hp1 hp2 hp3
        revert t13 e3
        generalize upd (upd (upd G2 p1 (.lst (cutV R none (some i)))) p2 (.lst (cutV Ws (some i) none))) p3 (.lst (cutV R none (some i) ++ cutV Ws (some i) none)) = G3
        intro t13 e3
        have s3 := sd.trans t13
        refine v_nil ⟨p3, a1, a2, a3, a4, a5, rfl, e3, .inr ⟨bad, d, wr1.same s3, sh.same s3, ok.1, fun q1 G4 s4 eq1 => Kit.v_var rfl (v_neSB eq1 (s4 _ _ (t13 _ _ ed)) ok.2 ⟨false, rfl, iteF (v_next ?_)⟩)⟩⟩
        have sd := s3.trans s4
        have ed := s4 _ _ (t13 _ _ ed)
        clear t13 e3 s3 s4 eq1 er2 ew2 wr1 c1
        have er2 := sd _ _ LF.er
        have ew2 := sd _ _ ew
        rw [hR] at er2
        dsimp only
        refine v_ifS (v_test (v_op (v_call (v_cons (v_op (v_op (v_sl (Kit.v_var rfl (v_nopart (v_part (Kit.v_var rfl ⟨i, rfl, v_slL (sq_lst er2) fun p1 hp1 => ?_⟩)))))))))))
        have t1 := same_new (o := .lst (cutV R none (some i))) hp1
        refine v_lst (v_cons (v_op (Kit.v_var rfl (Kit.v_var rfl (v_ixL (sq_lst (t1 _ _ ew2)) hat (v_nil ⟨by show 1 ≤ sizeLine; omega, fun p2 hp2 => ?_⟩))))))
        have t2 := same_new (o := .lst [bad]) hp2
        refine v_addL (t2 _ _ upd_same) upd_same (by simp only [List.length_cons, List.length_nil]; omega) fun p3 hp3 => ?_
        have t3 := same_new (o := .lst (cutV R none (some i) ++ [bad])) hp3
        have t13 := (t1.trans t2).trans t3
        refine v_sl (Kit.v_var rfl (v_part (v_op (Kit.v_var rfl (v_c (v_addI ⟨i + 1, rfl, v_nopart (v_slL (sq_lst (t13 _ _ er2)) fun p4 hp4 => ?_)⟩))))))
        have t4 := same_new (o := .lst (cutV R (some (i + 1)) none)) hp4
        refine v_addL (t4 _ _ upd_same) upd_same (by rw [List.length_append]; simp only [List.length_cons, List.length_nil]; omega) fun p5 hp5 => ?_
        have t15 := (t13.trans t4).trans (same_new (o := .lst (cutV R none (some i) ++ [bad] ++ cutV R (some (i + 1)) none)) hp5)
        have e5 : upd (upd (upd (upd (upd G4 p1 (.lst (cutV R none (some i)))) p2 (.lst [bad])) p3 (.lst (cutV R none (some i) ++ [bad]))) p4 (.lst (cutV R (some (i + 1)) none))) p5 (.lst (cutV R none (some i) ++ [bad] ++ cutV R (some (i + 1)) none)) p5 = some (.lst [b1, b2, b3, b4, b5]) := by rw [upd_same, c2]
        clear t1 t2 t3 t4 t13 hp1 hp2 hp3 hp4 hp5
        revert t15 e5
        generalize upd (upd (upd (upd (upd G4 p1 (.lst (cutV R none (some i)))) p2 (.lst [bad])) p3 (.lst (cutV R none (some i) ++ [bad]))) p4 (.lst (cutV R (some (i + 1)) none))) p5 (.lst (cutV R none (some i) ++ [bad] ++ cutV R (some (i + 1)) none)) = G5
        intro t15 e5
        have s5 := sd.trans t15
        refine v_nil ⟨p5, b1, b2, b3, b4, b5, rfl, e5, .inr ⟨bad, d, wr2.same s5, sh.same s5, ok.1, fun q2 G6 s6 eq2 => Kit.v_var rfl (v_neSB eq2 (s6 _ _ (t15 _ _ ed)) ok.2 ⟨false, rfl, iteF (v_next ?_)⟩)⟩⟩
        exact ⟨_, _, rfl, s5.trans s6⟩
      · rintro σ HZ ⟨u8, u9, rfl, sZ⟩
        have LZ := LF.same sZ
        clear LF sZ f0 f1 f2 f3 f4 ew
        dsimp only
        refine v_seq (v_ifS (v_not (v_test (v_call (v_cons (Kit.v_var rfl (v_cons (Kit.v_var rfl (v_nil ⟨x, pr, pk, pc, ks, t, size, l, xs, rfl, LZ.mx, LZ.P, LZ.sh, ht, h6, LZ.er, LZ.ek, LZ.ec, LZ.hx, fun H9 s9 => ⟨true, rfl, iteF (v_next ?_)⟩⟩)))))))))
        have L9 := LZ.same s9
        clear LZ s9
        obtain ⟨dx1, _, _, fx1, _, hx1, _⟩ := L9.mx.ex
        have tl : TyX K H9 (.ref po) (.type "list") := tyx (.lst (sq_lst L9.eo))
        dsimp only
        refine v_ifS (v_or (v_test (v_op (Kit.v_var rfl (Kit.v_var rfl ⟨x, dx1, fx1, .type "list", rfl, hx1, tl, nfl, x, .ref po, "m", ks, t, size, l, rfl, L9.mx, .inr ⟨.type "list", tl, kl, ⟨_, rfl⟩, false, rfl, iteF ?_⟩⟩)))))
        refine v_or (v_test (v_op (v_call (v_cons (Kit.v_var rfl (v_nil ⟨pr, _, _, _, _, _, rfl, L9.er, .inl ⟨"m", ks, t, size, l, rfl, rfl, rfl, L9.P, .inr ⟨pk, _, rfl, sq_lst L9.ek, repL_strs ks⟩, .inr ⟨pc, xs, rfl, sq_lst L9.ec, L9.hx⟩, fun Hq sq => v_c ⟨rfl, false, by simp, iteF ?_⟩⟩⟩))))))
        have Lq := L9.same sq
        clear L9 hx1 tl
        refine v_test (v_op (v_op (v_cb (v_cons (v_pp Lq.mx rfl fun pp hpp => v_nil (v_lenT hpp (v_c (v_addI (v_pz Lq.mx rfl (v_gtI ⟨_, rfl, ?_⟩)))))))))) 
        rw [decide_eq_false (by rw [List.length_map]; have := Lq.P.z1; omega)]
        refine iteF (v_next ?_)
        exact ⟨_, _, _, _, _, _, _, _, _, rfl, Lq.fr⟩
    · rintro σ H5 ⟨v1, v2, v3, v4, v5, v6, v7, v8, v9, rfl, s5⟩
      walk_at "v"
      exact q _
end K03

namespace K03
open PySem PySem.Spec PyProof.Rows L2 Kit K02
theorem all_mk {l : PySem.W.OpenLaw} {w : World} {K : PySem.W.Frag} {h : Heap} {mg : Str → Option Value} {fa C CE cE aF f0 f1 f2 f3 f4 f5 f6 f7 f8 f9 f10 f11 f12 f13 f14 f15 f16 f17 f18 f19 f20 f21 f22 f23 fmI feI fmE fp0 fp1 fp2 fp3 fp4 b0 b1 b2 b3 b4 b5 b6 b7 b8 b9 b10 b11 b12 b13 b14 b15 b16 pa0 pa1 pa2 pa3 pa4 : Addr} {rest0 rest1 rest2 rest3 rest4 : List Value} (X : K.In h) (G : h.Ns mainGlobals mg) (hfa : mg "law" = some (.ref fa))
    {od0 an0 od1 an1 od2 an2 od3 an3 od4 an4 od5 an5 od6 an6 od7 an7 od8 an8 od9 an9 od10 an10 od11 an11 od12 an12 od13 an13 od14 an14 od15 an15 od16 an16 od17 an17 od18 an18 od19 an19 od20 an20 od21 an21 od22 an22 od23 an23 odmI anmI odeI aneI odmE anmE odp0 anp0 odp1 anp1 odp2 anp2 odp3 anp3 odp4 anp4 dd0 dd1 dd2 dd3 dd4 dd5 dd6 dd7 dd8 dd9 dd10 dd11 dd12 dd13 dd14 dd15 dd16 : Option Addr} {sl0 sl1 sl2 sl3 sl4 sl5 sl6 sl7 sl8 sl9 sl10 sl11 sl12 sl13 sl14 sl15 sl16 sl17 sl18 sl19 sl20 sl21 sl22 sl23 slmI sleI slmE slp0 slp1 slp2 slp3 slp4 ss0 ss1 ss2 ss3 ss4 ss5 ss6 ss7 ss8 ss9 ss10 ss11 ss12 ss13 ss14 ss15 ss16 : Array (Option Value)} {oc0 kV0 dc0 pm0 cd0 ct0 oc1 kV1 dc1 pm1 cd1 ct1 oc2 kV2 dc2 pm2 cd2 ct2 oc3 kV3 dc3 pm3 cd3 ct3 oc4 kV4 dc4 pm4 cd4 ct4 oc5 kV5 dc5 pm5 cd5 ct5 oc6 kV6 dc6 pm6 cd6 ct6 oc7 kV7 dc7 pm7 cd7 ct7 oc8 kV8 dc8 pm8 cd8 ct8 oc9 kV9 dc9 pm9 cd9 ct9 oc10 kV10 dc10 pm10 cd10 ct10 oc11 kV11 dc11 pm11 cd11 ct11 oc12 kV12 dc12 pm12 cd12 ct12 oc13 kV13 dc13 pm13 cd13 ct13 oc14 kV14 dc14 pm14 cd14 ct14 oc15 kV15 dc15 pm15 cd15 ct15 oc16 kV16 dc16 pm16 cd16 ct16 oc17 kV17 dc17 pm17 cd17 ct17 oc18 kV18 dc18 pm18 cd18 ct18 oc19 kV19 dc19 pm19 cd19 ct19 oc20 kV20 dc20 pm20 cd20 ct20 oc21 kV21 dc21 pm21 cd21 ct21 oc22 kV22 dc22 pm22 cd22 ct22 oc23 kV23 dc23 pm23 cd23 ct23 ocmI kVmI dcmI pmmI cdmI ctmI oceI kVeI dceI pmeI cdeI cteI ocmE kVmE dcmE pmmE cdmE ctmE ocp0 kVp0 dcp0 pmp0 cdp0 ctp0 ocp1 kVp1 dcp1 pmp1 cdp1 ctp1 ocp2 kVp2 dcp2 pmp2 cdp2 ctp2 ocp3 kVp3 dcp3 pmp3 cdp3 ctp3 ocp4 kVp4 dcp4 pmp4 cdp4 ctp4 : Value} {nF nn0 nn1 nn2 nn3 nn4 nn5 nn6 nn7 nn8 nn9 nn10 nn11 nn12 nn13 nn14 nn15 nn16 : Nat} {v0 v1 v2 v3 v4 v5 v6 v7 v8 v9 v10 v11 v12 v13 v14 v15 v16 u1 u2 u3 u4 u5 u6 u7 u8 w0_0 w0_1 w1_0 w1_1 w1_2 w2_0 w3_0 w3_1 w4_0 w4_1 w4_2 w4_3 w4_4 w5_0 w5_1 w5_2 w5_3 w5_4 w6_0 w6_1 w6_2 w6_3 w6_4 w6_5 w6_6 w7_0 w7_1 w7_2 w7_3 w7_4 w7_5 w7_6 w8_0 w8_1 w8_2 w9_0 w9_1 w9_2 w10_0 w10_1 w10_2 w11_0 w12_0 w12_1 w13_0 w13_1 w13_2 w14_0 w15_0 w16_0 : Tok}
    (a0 : PySem.W.nsIn K mainGlobals "is_name" = some (some (.ref f0))) (l0 : K.lookup f0 = some ⟨oc0, od0, .func (PySem.W.fnOf "is_name" "is_name" (defArgs s_is_name) (defBody s_is_name) (defScope s_is_name) .none kV0 dc0 pm0 an0 cd0 ct0), sl0⟩) (c0 : PySem.W.codeIn K cd0 "is_name" = true) (k0 : PySem.W.keepIn K (.ref f0) = true)
    (a1 : PySem.W.nsIn K mainGlobals "is_type" = some (some (.ref f1))) (l1 : K.lookup f1 = some ⟨oc1, od1, .func (PySem.W.fnOf "is_type" "is_type" (defArgs s_is_type) (defBody s_is_type) (defScope s_is_type) .none kV1 dc1 pm1 an1 cd1 ct1), sl1⟩) (c1 : PySem.W.codeIn K cd1 "is_type" = true) (k1 : PySem.W.keepIn K (.ref f1) = true)
    (a2 : PySem.W.nsIn K mainGlobals "is_number" = some (some (.ref f2))) (l2 : K.lookup f2 = some ⟨oc2, od2, .func (PySem.W.fnOf "is_number" "is_number" (defArgs s_is_number) (defBody s_is_number) (defScope s_is_number) .none kV2 dc2 pm2 an2 cd2 ct2), sl2⟩) (c2 : PySem.W.codeIn K cd2 "is_number" = true) (k2 : PySem.W.keepIn K (.ref f2) = true)
    (a3 : PySem.W.nsIn K mainGlobals "is_series" = some (some (.ref f3))) (l3 : K.lookup f3 = some ⟨oc3, od3, .func (PySem.W.fnOf "is_series" "is_series" (defArgs s_is_series) (defBody s_is_series) (defScope s_is_series) .none kV3 dc3 pm3 an3 cd3 ct3), sl3⟩) (c3 : PySem.W.codeIn K cd3 "is_series" = true) (k3 : PySem.W.keepIn K (.ref f3) = true)
    (a4 : PySem.W.nsIn K mainGlobals "are_types" = some (some (.ref f4))) (l4 : K.lookup f4 = some ⟨oc4, od4, .func (PySem.W.fnOf "are_types" "are_types" (defArgs s_are_types) (defBody s_are_types) (defScope s_are_types) .none kV4 dc4 pm4 an4 cd4 ct4), sl4⟩) (c4 : PySem.W.codeIn K cd4 "are_types" = true) (k4 : PySem.W.keepIn K (.ref f4) = true)
    (a5 : PySem.W.nsIn K mainGlobals "are_args" = some (some (.ref f5))) (l5 : K.lookup f5 = some ⟨oc5, od5, .func (PySem.W.fnOf "are_args" "are_args" (defArgs s_are_args) (defBody s_are_args) (defScope s_are_args) .none kV5 dc5 pm5 an5 cd5 ct5), sl5⟩) (c5 : PySem.W.codeIn K cd5 "are_args" = true) (k5 : PySem.W.keepIn K (.ref f5) = true)
    (a6 : PySem.W.nsIn K mainGlobals "fits" = some (some (.ref f6))) (l6 : K.lookup f6 = some ⟨oc6, od6, .func (PySem.W.fnOf "fits" "fits" (defArgs s_fits) (defBody s_fits) (defScope s_fits) .none kV6 dc6 pm6 an6 cd6 ct6), sl6⟩) (c6 : PySem.W.codeIn K cd6 "fits" = true) (k6 : PySem.W.keepIn K (.ref f6) = true)
    (a7 : PySem.W.nsIn K mainGlobals "has_word" = some (some (.ref f7))) (l7 : K.lookup f7 = some ⟨oc7, od7, .func (PySem.W.fnOf "has_word" "has_word" (defArgs s_has_word) (defBody s_has_word) (defScope s_has_word) .none kV7 dc7 pm7 an7 cd7 ct7), sl7⟩) (c7 : PySem.W.codeIn K cd7 "has_word" = true) (k7 : PySem.W.keepIn K (.ref f7) = true)
    (a8 : PySem.W.nsIn K mainGlobals "is_instruction_within" = some (some (.ref f8))) (l8 : K.lookup f8 = some ⟨oc8, od8, .func (PySem.W.fnOf "is_instruction_within" "is_instruction_within" (defArgs s_is_instruction_within) (defBody s_is_instruction_within) (defScope s_is_instruction_within) .none kV8 dc8 pm8 an8 cd8 ct8), sl8⟩) (c8 : PySem.W.codeIn K cd8 "is_instruction_within" = true) (k8 : PySem.W.keepIn K (.ref f8) = true)
    (a9 : PySem.W.nsIn K mainGlobals "is_code" = some (some (.ref f9))) (l9 : K.lookup f9 = some ⟨oc9, od9, .func (PySem.W.fnOf "is_code" "is_code" (defArgs s_is_code) (defBody s_is_code) (defScope s_is_code) .none kV9 dc9 pm9 an9 cd9 ct9), sl9⟩) (c9 : PySem.W.codeIn K cd9 "is_code" = true) (k9 : PySem.W.keepIn K (.ref f9) = true)
    (a10 : PySem.W.nsIn K mainGlobals "require" = some (some (.ref f10))) (l10 : K.lookup f10 = some ⟨oc10, od10, .func (PySem.W.fnOf "require" "require" (defArgs s_require) (defBody s_require) (defScope s_require) .none kV10 dc10 pm10 an10 cd10 ct10), sl10⟩) (c10 : PySem.W.codeIn K cd10 "require" = true) (k10 : PySem.W.keepIn K (.ref f10) = true)
    (a11 : PySem.W.nsIn K mainGlobals "_law_source" = some (some (.ref f11))) (l11 : K.lookup f11 = some ⟨oc11, od11, .func (PySem.W.fnOf "_law_source" "_law_source" (defArgs s_law_source) (defBody s_law_source) (defScope s_law_source) .none kV11 dc11 pm11 an11 cd11 ct11), sl11⟩) (c11 : PySem.W.codeIn K cd11 "_law_source" = true) (k11 : PySem.W.keepIn K (.ref f11) = true)
    (a12 : PySem.W.nsIn K mainGlobals "_law_draw" = some (some (.ref f12))) (l12 : K.lookup f12 = some ⟨oc12, od12, .func (PySem.W.fnOf "_law_draw" "_law_draw" (defArgs s_law_draw) (defBody s_law_draw) (defScope s_law_draw) .none kV12 dc12 pm12 an12 cd12 ct12), sl12⟩) (c12 : PySem.W.codeIn K cd12 "_law_draw" = true) (k12 : PySem.W.keepIn K (.ref f12) = true)
    (a13 : PySem.W.nsIn K mainGlobals "_law_pick" = some (some (.ref f13))) (l13 : K.lookup f13 = some ⟨oc13, od13, .func (PySem.W.fnOf "_law_pick" "_law_pick" (defArgs s_law_pick) (defBody s_law_pick) (defScope s_law_pick) .none kV13 dc13 pm13 an13 cd13 ct13), sl13⟩) (c13 : PySem.W.codeIn K cd13 "_law_pick" = true) (k13 : PySem.W.keepIn K (.ref f13) = true)
    (a14 : PySem.W.nsIn K mainGlobals "_law_type" = some (some (.ref f14))) (l14 : K.lookup f14 = some ⟨oc14, od14, .func (PySem.W.fnOf "_law_type" "_law_type" (defArgs s_law_type) (defBody s_law_type) (defScope s_law_type) .none kV14 dc14 pm14 an14 cd14 ct14), sl14⟩) (c14 : PySem.W.codeIn K cd14 "_law_type" = true) (k14 : PySem.W.keepIn K (.ref f14) = true)
    (a15 : PySem.W.nsIn K mainGlobals "_law_call" = some (some (.ref f15))) (l15 : K.lookup f15 = some ⟨oc15, od15, .func (PySem.W.fnOf "_law_call" "_law_call" (defArgs s_law_call) (defBody s_law_call) (defScope s_law_call) .none kV15 dc15 pm15 an15 cd15 ct15), sl15⟩) (c15 : PySem.W.codeIn K cd15 "_law_call" = true) (k15 : PySem.W.keepIn K (.ref f15) = true)
    (a16 : PySem.W.nsIn K mainGlobals "_law_made" = some (some (.ref f16))) (l16 : K.lookup f16 = some ⟨oc16, od16, .func (PySem.W.fnOf "_law_made" "_law_made" (defArgs s_law_made) (defBody s_law_made) (defScope s_law_made) .none kV16 dc16 pm16 an16 cd16 ct16), sl16⟩) (c16 : PySem.W.codeIn K cd16 "_law_made" = true) (k16 : PySem.W.keepIn K (.ref f16) = true)
    (a17 : PySem.W.nsIn K mainGlobals "_law_ready" = some (some (.ref f17))) (l17 : K.lookup f17 = some ⟨oc17, od17, .func (PySem.W.fnOf "_law_ready" "_law_ready" (defArgs s_law_ready) (defBody s_law_ready) (defScope s_law_ready) .none kV17 dc17 pm17 an17 cd17 ct17), sl17⟩) (c17 : PySem.W.codeIn K cd17 "_law_ready" = true) (k17 : PySem.W.keepIn K (.ref f17) = true)
    (a18 : PySem.W.nsIn K mainGlobals "_law_method" = some (some (.ref f18))) (l18 : K.lookup f18 = some ⟨oc18, od18, .func (PySem.W.fnOf "_law_method" "_law_method" (defArgs s_law_method) (defBody s_law_method) (defScope s_law_method) .none kV18 dc18 pm18 an18 cd18 ct18), sl18⟩) (c18 : PySem.W.codeIn K cd18 "_law_method" = true) (k18 : PySem.W.keepIn K (.ref f18) = true)
    (a19 : PySem.W.nsIn K mainGlobals "_law_refused" = some (some (.ref f19))) (l19 : K.lookup f19 = some ⟨oc19, od19, .func (PySem.W.fnOf "_law_refused" "_law_refused" (defArgs s_law_refused) (defBody s_law_refused) (defScope s_law_refused) .none kV19 dc19 pm19 an19 cd19 ct19), sl19⟩) (c19 : PySem.W.codeIn K cd19 "_law_refused" = true) (k19 : PySem.W.keepIn K (.ref f19) = true)
    (a20 : PySem.W.nsIn K mainGlobals "_law_codes" = some (some (.ref f20))) (l20 : K.lookup f20 = some ⟨oc20, od20, .func (PySem.W.fnOf "_law_codes" "_law_codes" (defArgs s_law_codes) (defBody s_law_codes) (defScope s_law_codes) .none kV20 dc20 pm20 an20 cd20 ct20), sl20⟩) (c20 : PySem.W.codeIn K cd20 "_law_codes" = true) (k20 : PySem.W.keepIn K (.ref f20) = true)
    (a21 : PySem.W.nsIn K mainGlobals "_law_wrongs" = some (some (.ref f21))) (l21 : K.lookup f21 = some ⟨oc21, od21, .func (PySem.W.fnOf "_law_wrongs" "_law_wrongs" (defArgs s_law_wrongs) (defBody s_law_wrongs) (defScope s_law_wrongs) .none kV21 dc21 pm21 an21 cd21 ct21), sl21⟩) (c21 : PySem.W.codeIn K cd21 "_law_wrongs" = true) (k21 : PySem.W.keepIn K (.ref f21) = true)
    (a22 : PySem.W.nsIn K mainGlobals "_law_others_right" = some (some (.ref f22))) (l22 : K.lookup f22 = some ⟨oc22, od22, .func (PySem.W.fnOf "_law_others_right" "_law_others_right" (defArgs s_law_others_right) (defBody s_law_others_right) (defScope s_law_others_right) .none kV22 dc22 pm22 an22 cd22 ct22), sl22⟩) (c22 : PySem.W.codeIn K cd22 "_law_others_right" = true) (k22 : PySem.W.keepIn K (.ref f22) = true)
    (a23 : PySem.W.nsIn K mainGlobals "law" = some (some (.ref f23))) (l23 : K.lookup f23 = some ⟨oc23, od23, .func (PySem.W.fnOf "law" "law" (defArgs s_law) (defBody s_law) (defScope s_law) .none kV23 dc23 pm23 an23 cd23 ct23), sl23⟩) (c23 : PySem.W.codeIn K cd23 "law" = true) (k23 : PySem.W.keepIn K (.ref f23) = true)
    (aC : PySem.W.nsIn K mainGlobals "Method" = some (some (.ref C)))
    (aCE : PySem.W.nsIn K mainGlobals "InvalidMethod" = some (some (.ref CE)))
    (acE : PySem.W.nsIn K mainGlobals "ClassError" = some (some (.ref cE)))
    (amI : PySem.W.findIn K (.ref C) "__init__" = some (some (.ref fmI)))
    (imI : PySem.W.isFn K (.ref fmI) = true)
     (lmI : K.lookup fmI = some ⟨ocmI, odmI, .func (PySem.W.fnOf "__init__" "Method.__init__" (defArgs s_Method___init__) (defBody s_Method___init__) (defScope s_Method___init__) .none kVmI dcmI pmmI anmI cdmI ctmI), slmI⟩) (cmI : PySem.W.codeIn K cdmI "Method.__init__" = true) (kmI : PySem.W.keepIn K (.ref fmI) = true)
    (xi : PySem.W.findIn K (.ref CE) "__init__" = some (some (.ref feI)))
    (xt : PySem.W.typeIn K (.ref feI) = some (.type "function"))
     (leI : K.lookup feI = some ⟨oceI, odeI, .func (PySem.W.fnOf "__init__" "InvalidMethod.__init__" (defArgs s_InvalidMethod___init__) (defBody s_InvalidMethod___init__) (defScope s_InvalidMethod___init__) .none kVeI dceI pmeI aneI cdeI cteI), sleI⟩) (ceI : PySem.W.codeIn K cdeI "InvalidMethod.__init__" = true) (keI : PySem.W.keepIn K (.ref feI) = true)
    (amE : PySem.W.findIn K (.ref C) "__eq__" = some (some (.ref fmE)))
    (imE : PySem.W.isFn K (.ref fmE) = true)
     (lmE : K.lookup fmE = some ⟨ocmE, odmE, .func (PySem.W.fnOf "__eq__" "Method.__eq__" (defArgs s_Method___eq__) (defBody s_Method___eq__) (defScope s_Method___eq__) .none kVmE dcmE pmmE anmE cdmE ctmE), slmE⟩) (cmE : PySem.W.codeIn K cdmE "Method.__eq__" = true) (kmE : PySem.W.keepIn K (.ref fmE) = true)
    (ap0 : PySem.W.findIn K (.ref C) "name" = some (some (.ref pa0)))
    (gp0 : PySem.W.specialIn K (.ref pa0) "__get__" = some (some (.builtin "property.__get__")))
    (tp0 : PySem.W.takesIn K (.ref pa0) = some true)
    (rp0 : PySem.W.recIn K pa0 "property" = some (.ref fp0 :: rest0))
     (lp0 : K.lookup fp0 = some ⟨ocp0, odp0, .func (PySem.W.fnOf "name" "Method.name" (defArgs s_Method_name) (defBody s_Method_name) (defScope s_Method_name) .none kVp0 dcp0 pmp0 anp0 cdp0 ctp0), slp0⟩) (cp0 : PySem.W.codeIn K cdp0 "Method.name" = true) (kp0 : PySem.W.keepIn K (.ref fp0) = true)
    (ap1 : PySem.W.findIn K (.ref C) "params" = some (some (.ref pa1)))
    (gp1 : PySem.W.specialIn K (.ref pa1) "__get__" = some (some (.builtin "property.__get__")))
    (tp1 : PySem.W.takesIn K (.ref pa1) = some true)
    (rp1 : PySem.W.recIn K pa1 "property" = some (.ref fp1 :: rest1))
     (lp1 : K.lookup fp1 = some ⟨ocp1, odp1, .func (PySem.W.fnOf "params" "Method.params" (defArgs s_Method_params) (defBody s_Method_params) (defScope s_Method_params) .none kVp1 dcp1 pmp1 anp1 cdp1 ctp1), slp1⟩) (cp1 : PySem.W.codeIn K cdp1 "Method.params" = true) (kp1 : PySem.W.keepIn K (.ref fp1) = true)
    (ap2 : PySem.W.findIn K (.ref C) "result" = some (some (.ref pa2)))
    (gp2 : PySem.W.specialIn K (.ref pa2) "__get__" = some (some (.builtin "property.__get__")))
    (tp2 : PySem.W.takesIn K (.ref pa2) = some true)
    (rp2 : PySem.W.recIn K pa2 "property" = some (.ref fp2 :: rest2))
     (lp2 : K.lookup fp2 = some ⟨ocp2, odp2, .func (PySem.W.fnOf "result" "Method.result" (defArgs s_Method_result) (defBody s_Method_result) (defScope s_Method_result) .none kVp2 dcp2 pmp2 anp2 cdp2 ctp2), slp2⟩) (cp2 : PySem.W.codeIn K cdp2 "Method.result" = true) (kp2 : PySem.W.keepIn K (.ref fp2) = true)
    (ap3 : PySem.W.findIn K (.ref C) "size" = some (some (.ref pa3)))
    (gp3 : PySem.W.specialIn K (.ref pa3) "__get__" = some (some (.builtin "property.__get__")))
    (tp3 : PySem.W.takesIn K (.ref pa3) = some true)
    (rp3 : PySem.W.recIn K pa3 "property" = some (.ref fp3 :: rest3))
     (lp3 : K.lookup fp3 = some ⟨ocp3, odp3, .func (PySem.W.fnOf "size" "Method.size" (defArgs s_Method_size) (defBody s_Method_size) (defScope s_Method_size) .none kVp3 dcp3 pmp3 anp3 cdp3 ctp3), slp3⟩) (cp3 : PySem.W.codeIn K cdp3 "Method.size" = true) (kp3 : PySem.W.keepIn K (.ref fp3) = true)
    (ap4 : PySem.W.findIn K (.ref C) "code" = some (some (.ref pa4)))
    (gp4 : PySem.W.specialIn K (.ref pa4) "__get__" = some (some (.builtin "property.__get__")))
    (tp4 : PySem.W.takesIn K (.ref pa4) = some true)
    (rp4 : PySem.W.recIn K pa4 "property" = some (.ref fp4 :: rest4))
     (lp4 : K.lookup fp4 = some ⟨ocp4, odp4, .func (PySem.W.fnOf "code" "Method.code" (defArgs s_Method_code) (defBody s_Method_code) (defScope s_Method_code) .none kVp4 dcp4 pmp4 anp4 cdp4 ctp4), slp4⟩) (cp4 : PySem.W.codeIn K cdp4 "Method.code" = true) (kp4 : PySem.W.keepIn K (.ref fp4) = true)
    (pg : PySem.W.plainGet K C Str.empty = true)
    (hd : PySem.W.hasDictIn K C = true)
    (po : PySem.W.plainOver K C = true)
    (sa : PySem.W.findIn K (.ref C) "__setattr__" = some (some (.builtin "object.__setattr__")))
    (mkk : PySem.W.makesIn K C = true)
    (kc : PySem.W.keepIn K (.ref C) = true)
    (ic : PySem.W.findIn K (.ref C) "__class__" = some (some (.builtin "object.__class__")))
    (isp : PySem.W.specialIn K (.builtin "object.__class__") "__get__" = some (some (.builtin "getset_descriptor.__get__")))
    (itk : PySem.W.takesIn K (.builtin "object.__class__") = some true)
    (imr : PySem.W.mroIn K C (.type "object") = some true)
    (nfC : PySem.W.notFirst K C (.ref C) = true)
    (nfl : PySem.W.notFirst K C (.type "list") = true)
    (kl : PySem.W.kitOne K (.type "list") (.ref C) = some false)
    (hno : PySem.W.findIn K (.ref CE) "given" = some none)
    (sfE : PySem.W.subIn K (.ref CE) (.ref CE) = some true)
    (kE : PySem.W.kitOne K (.ref CE) (.ref cE) = some true)
    (eB : errB K CE = true)
    (no0 : PySem.W.findIn K (.ref C) "_name" = some none)
    (no1 : PySem.W.findIn K (.ref C) "_params" = some none)
    (no2 : PySem.W.findIn K (.ref C) "_result" = some none)
    (no3 : PySem.W.findIn K (.ref C) "_size" = some none)
    (no4 : PySem.W.findIn K (.ref C) "_code" = some none)
    (z_len : PySem.W.nsIn K mainGlobals "len" = some none)
    (z_max : PySem.W.nsIn K mainGlobals "max" = some none)
    (z_min : PySem.W.nsIn K mainGlobals "min" = some none)
    (z_int : PySem.W.nsIn K mainGlobals "int" = some none)
    (z_str : PySem.W.nsIn K mainGlobals "str" = some none)
    (z_bool : PySem.W.nsIn K mainGlobals "bool" = some none)
    (z_list : PySem.W.nsIn K mainGlobals "list" = some none)
    (z_tuple : PySem.W.nsIn K mainGlobals "tuple" = some none)
    (z_dict : PySem.W.nsIn K mainGlobals "dict" = some none)
    (z_type : PySem.W.nsIn K mainGlobals "type" = some none)
    (z_isinstance : PySem.W.nsIn K mainGlobals "isinstance" = some none)
    (z_all : PySem.W.nsIn K mainGlobals "all" = some none)
    (z_any : PySem.W.nsIn K mainGlobals "any" = some none)
    (z_range : PySem.W.nsIn K mainGlobals "range" = some none)
    (z_zip : PySem.W.nsIn K mainGlobals "zip" = some none)
    (z_repr : PySem.W.nsIn K mainGlobals "repr" = some none)
    (z_set : PySem.W.nsIn K mainGlobals "set" = some none)
    (g1 : PySem.W.nsIn K mainGlobals "MOST_LETTERS" = some (some (.int 8 u1)))
    (g2 : PySem.W.nsIn K mainGlobals "MOST_TYPES" = some (some (.int 4 u2)))
    (g3 : PySem.W.nsIn K mainGlobals "MOST_SIZE" = some (some (.int 10 u3)))
    (g4 : PySem.W.nsIn K mainGlobals "MOST_CODE" = some (some (.int 40 u4)))
    (g5 : PySem.W.nsIn K mainGlobals "MOST_DIGIT" = some (some (.int 9 u5)))
    (g6 : PySem.W.nsIn K mainGlobals "TYPES_AT" = some (some (.int 5 u6)))
    (g7 : PySem.W.nsIn K mainGlobals "ARGS_AT" = some (some (.int 7 u7)))
    (g8 : PySem.W.nsIn K mainGlobals "ARRAY_SIGN" = some (some (.str "[]" u8)))
    (gF : PySem.W.nsIn K mainGlobals "FORMS" = some (some (.ref aF)))
    (dF : K.lookup aF = some ⟨.type "dict", none, .dict #[⟨PyData.keyHash w.params "new", .str "new" v0, .ref b0⟩, ⟨PyData.keyHash w.params "array", .str "array" v1, .ref b1⟩, ⟨PyData.keyHash w.params "null", .str "null" v2, .ref b2⟩, ⟨PyData.keyHash w.params "move", .str "move" v3, .ref b3⟩, ⟨PyData.keyHash w.params "get", .str "get" v4, .ref b4⟩, ⟨PyData.keyHash w.params "put", .str "put" v5, .ref b5⟩, ⟨PyData.keyHash w.params "call", .str "call" v6, .ref b6⟩, ⟨PyData.keyHash w.params "ask", .str "ask" v7, .ref b7⟩, ⟨PyData.keyHash w.params "cast", .str "cast" v8, .ref b8⟩, ⟨PyData.keyHash w.params "load", .str "load" v9, .ref b9⟩, ⟨PyData.keyHash w.params "store", .str "store" v10, .ref b10⟩, ⟨PyData.keyHash w.params "jump", .str "jump" v11, .ref b11⟩, ⟨PyData.keyHash w.params "ifnull", .str "ifnull" v12, .ref b12⟩, ⟨PyData.keyHash w.params "ifis", .str "ifis" v13, .ref b13⟩, ⟨PyData.keyHash w.params "choose", .str "choose" v14, .ref b14⟩, ⟨PyData.keyHash w.params "tell", .str "tell" v15, .ref b15⟩, ⟨PyData.keyHash w.params "return", .str "return" v16, .ref b16⟩] nF, #[]⟩)
    (lo : (aF == sysModules) = false)
    (t0 : K.lookup b0 = some ⟨.type "tuple", dd0, .seq #[.str "r" w0_0, .str "C" w0_1] nn0, ss0⟩)
    (t1 : K.lookup b1 = some ⟨.type "tuple", dd1, .seq #[.str "r" w1_0, .str "C" w1_1, .str "i" w1_2] nn1, ss1⟩)
    (t2 : K.lookup b2 = some ⟨.type "tuple", dd2, .seq #[.str "r" w2_0] nn2, ss2⟩)
    (t3 : K.lookup b3 = some ⟨.type "tuple", dd3, .seq #[.str "r" w3_0, .str "r" w3_1] nn3, ss3⟩)
    (t4 : K.lookup b4 = some ⟨.type "tuple", dd4, .seq #[.str "r" w4_0, .str "r" w4_1, .str "C" w4_2, .str "f" w4_3, .str "T" w4_4] nn4, ss4⟩)
    (t5 : K.lookup b5 = some ⟨.type "tuple", dd5, .seq #[.str "r" w5_0, .str "C" w5_1, .str "f" w5_2, .str "T" w5_3, .str "r" w5_4] nn5, ss5⟩)
    (t6 : K.lookup b6 = some ⟨.type "tuple", dd6, .seq #[.str "r" w6_0, .str "r" w6_1, .str "C" w6_2, .str "f" w6_3, .str "types" w6_4, .str "T" w6_5, .str "args" w6_6] nn6, ss6⟩)
    (t7 : K.lookup b7 = some ⟨.type "tuple", dd7, .seq #[.str "r" w7_0, .str "r" w7_1, .str "C" w7_2, .str "f" w7_3, .str "types" w7_4, .str "T" w7_5, .str "args" w7_6] nn7, ss7⟩)
    (t8 : K.lookup b8 = some ⟨.type "tuple", dd8, .seq #[.str "r" w8_0, .str "r" w8_1, .str "C" w8_2] nn8, ss8⟩)
    (t9 : K.lookup b9 = some ⟨.type "tuple", dd9, .seq #[.str "r" w9_0, .str "r" w9_1, .str "i" w9_2] nn9, ss9⟩)
    (t10 : K.lookup b10 = some ⟨.type "tuple", dd10, .seq #[.str "r" w10_0, .str "i" w10_1, .str "r" w10_2] nn10, ss10⟩)
    (t11 : K.lookup b11 = some ⟨.type "tuple", dd11, .seq #[.str "t" w11_0] nn11, ss11⟩)
    (t12 : K.lookup b12 = some ⟨.type "tuple", dd12, .seq #[.str "r" w12_0, .str "t" w12_1] nn12, ss12⟩)
    (t13 : K.lookup b13 = some ⟨.type "tuple", dd13, .seq #[.str "r" w13_0, .str "C" w13_1, .str "t" w13_2] nn13, ss13⟩)
    (t14 : K.lookup b14 = some ⟨.type "tuple", dd14, .seq #[.str "t" w14_0] nn14, ss14⟩)
    (t15 : K.lookup b15 = some ⟨.type "tuple", dd15, .seq #[.str "r" w15_0] nn15, ss15⟩)
    (t16 : K.lookup b16 = some ⟨.type "tuple", dd16, .seq #[.str "r" w16_0] nn16, ss16⟩)
    : ∃ fd : FuncData, (∀ (s : Shared) (v : Value), BindsTo s fd ⟨[v], []⟩ [("_law_script", v)]) ∧ ∀ base : Heap, K.In base → base.Ns mainGlobals mg → FnG l.prog w K mg base CX0 10 fa fd ["_law_script"] (spLaw K) := by
  have e := hfa.symm.trans (PySem.W.mg_of X G a23)
  cases e
  have BB : Bi mg := ⟨PySem.W.mg_none_of X G z_len, PySem.W.mg_none_of X G z_max, PySem.W.mg_none_of X G z_min, PySem.W.mg_none_of X G z_int, PySem.W.mg_none_of X G z_str, PySem.W.mg_none_of X G z_bool, PySem.W.mg_none_of X G z_list, PySem.W.mg_none_of X G z_tuple, PySem.W.mg_none_of X G z_dict, PySem.W.mg_none_of X G z_type, PySem.W.mg_none_of X G z_isinstance, PySem.W.mg_none_of X G z_all, PySem.W.mg_none_of X G z_any, PySem.W.mg_none_of X G z_range, PySem.W.mg_none_of X G z_zip, PySem.W.mg_none_of X G z_repr, PySem.W.mg_none_of X G z_set⟩
  have KD : KDict K w aF _ nF := ⟨dF, ⟨⟨_, _, rfl, rfl⟩, ⟨_, _, rfl, rfl⟩, ⟨_, _, rfl, rfl⟩, ⟨_, _, rfl, rfl⟩, ⟨_, _, rfl, rfl⟩, ⟨_, _, rfl, rfl⟩, ⟨_, _, rfl, rfl⟩, ⟨_, _, rfl, rfl⟩, ⟨_, _, rfl, rfl⟩, ⟨_, _, rfl, rfl⟩, ⟨_, _, rfl, rfl⟩, ⟨_, _, rfl, rfl⟩, ⟨_, _, rfl, rfl⟩, ⟨_, _, rfl, rfl⟩, ⟨_, _, rfl, rfl⟩, ⟨_, _, rfl, rfl⟩, ⟨_, _, rfl, rfl⟩, trivial⟩, lo⟩
  have NS : ∀ z, PySem.W.nsIn K aF z = some (List.lookup z ([("new", .ref b0), ("array", .ref b1), ("null", .ref b2), ("move", .ref b3), ("get", .ref b4), ("put", .ref b5), ("call", .ref b6), ("ask", .ref b7), ("cast", .ref b8), ("load", .ref b9), ("store", .ref b10), ("jump", .ref b11), ("ifnull", .ref b12), ("ifis", .ref b13), ("choose", .ref b14), ("tell", .ref b15), ("return", .ref b16)] : List (Str × Value))) := fun z => nsIn_lit dF (.cons ⟨⟨_, rfl⟩, rfl⟩ (.cons ⟨⟨_, rfl⟩, rfl⟩ (.cons ⟨⟨_, rfl⟩, rfl⟩ (.cons ⟨⟨_, rfl⟩, rfl⟩ (.cons ⟨⟨_, rfl⟩, rfl⟩ (.cons ⟨⟨_, rfl⟩, rfl⟩ (.cons ⟨⟨_, rfl⟩, rfl⟩ (.cons ⟨⟨_, rfl⟩, rfl⟩ (.cons ⟨⟨_, rfl⟩, rfl⟩ (.cons ⟨⟨_, rfl⟩, rfl⟩ (.cons ⟨⟨_, rfl⟩, rfl⟩ (.cons ⟨⟨_, rfl⟩, rfl⟩ (.cons ⟨⟨_, rfl⟩, rfl⟩ (.cons ⟨⟨_, rfl⟩, rfl⟩ (.cons ⟨⟨_, rfl⟩, rfl⟩ (.cons ⟨⟨_, rfl⟩, rfl⟩ (.cons ⟨⟨_, rfl⟩, rfl⟩ (.nil)))))))))))))))))) z
  have q0 : ∀ H, SqT K H b0 ((["r", "C"] : List Str).map V.str) := fun H => .inr ⟨_, _, _, t0, rfl, rfl, (by show (2 : Nat) ≤ sizeLine; decide), .cons ⟨_, rfl⟩ (.cons ⟨_, rfl⟩ (.nil))⟩
  have q1 : ∀ H, SqT K H b1 ((["r", "C", "i"] : List Str).map V.str) := fun H => .inr ⟨_, _, _, t1, rfl, rfl, (by show (3 : Nat) ≤ sizeLine; decide), .cons ⟨_, rfl⟩ (.cons ⟨_, rfl⟩ (.cons ⟨_, rfl⟩ (.nil)))⟩
  have q2 : ∀ H, SqT K H b2 ((["r"] : List Str).map V.str) := fun H => .inr ⟨_, _, _, t2, rfl, rfl, (by show (1 : Nat) ≤ sizeLine; decide), .cons ⟨_, rfl⟩ (.nil)⟩
  have q3 : ∀ H, SqT K H b3 ((["r", "r"] : List Str).map V.str) := fun H => .inr ⟨_, _, _, t3, rfl, rfl, (by show (2 : Nat) ≤ sizeLine; decide), .cons ⟨_, rfl⟩ (.cons ⟨_, rfl⟩ (.nil))⟩
  have q4 : ∀ H, SqT K H b4 ((["r", "r", "C", "f", "T"] : List Str).map V.str) := fun H => .inr ⟨_, _, _, t4, rfl, rfl, (by show (5 : Nat) ≤ sizeLine; decide), .cons ⟨_, rfl⟩ (.cons ⟨_, rfl⟩ (.cons ⟨_, rfl⟩ (.cons ⟨_, rfl⟩ (.cons ⟨_, rfl⟩ (.nil)))))⟩
  have q5 : ∀ H, SqT K H b5 ((["r", "C", "f", "T", "r"] : List Str).map V.str) := fun H => .inr ⟨_, _, _, t5, rfl, rfl, (by show (5 : Nat) ≤ sizeLine; decide), .cons ⟨_, rfl⟩ (.cons ⟨_, rfl⟩ (.cons ⟨_, rfl⟩ (.cons ⟨_, rfl⟩ (.cons ⟨_, rfl⟩ (.nil)))))⟩
  have q6 : ∀ H, SqT K H b6 ((["r", "r", "C", "f", "types", "T", "args"] : List Str).map V.str) := fun H => .inr ⟨_, _, _, t6, rfl, rfl, (by show (7 : Nat) ≤ sizeLine; decide), .cons ⟨_, rfl⟩ (.cons ⟨_, rfl⟩ (.cons ⟨_, rfl⟩ (.cons ⟨_, rfl⟩ (.cons ⟨_, rfl⟩ (.cons ⟨_, rfl⟩ (.cons ⟨_, rfl⟩ (.nil)))))))⟩
  have q7 : ∀ H, SqT K H b7 ((["r", "r", "C", "f", "types", "T", "args"] : List Str).map V.str) := fun H => .inr ⟨_, _, _, t7, rfl, rfl, (by show (7 : Nat) ≤ sizeLine; decide), .cons ⟨_, rfl⟩ (.cons ⟨_, rfl⟩ (.cons ⟨_, rfl⟩ (.cons ⟨_, rfl⟩ (.cons ⟨_, rfl⟩ (.cons ⟨_, rfl⟩ (.cons ⟨_, rfl⟩ (.nil)))))))⟩
  have q8 : ∀ H, SqT K H b8 ((["r", "r", "C"] : List Str).map V.str) := fun H => .inr ⟨_, _, _, t8, rfl, rfl, (by show (3 : Nat) ≤ sizeLine; decide), .cons ⟨_, rfl⟩ (.cons ⟨_, rfl⟩ (.cons ⟨_, rfl⟩ (.nil)))⟩
  have q9 : ∀ H, SqT K H b9 ((["r", "r", "i"] : List Str).map V.str) := fun H => .inr ⟨_, _, _, t9, rfl, rfl, (by show (3 : Nat) ≤ sizeLine; decide), .cons ⟨_, rfl⟩ (.cons ⟨_, rfl⟩ (.cons ⟨_, rfl⟩ (.nil)))⟩
  have q10 : ∀ H, SqT K H b10 ((["r", "i", "r"] : List Str).map V.str) := fun H => .inr ⟨_, _, _, t10, rfl, rfl, (by show (3 : Nat) ≤ sizeLine; decide), .cons ⟨_, rfl⟩ (.cons ⟨_, rfl⟩ (.cons ⟨_, rfl⟩ (.nil)))⟩
  have q11 : ∀ H, SqT K H b11 ((["t"] : List Str).map V.str) := fun H => .inr ⟨_, _, _, t11, rfl, rfl, (by show (1 : Nat) ≤ sizeLine; decide), .cons ⟨_, rfl⟩ (.nil)⟩
  have q12 : ∀ H, SqT K H b12 ((["r", "t"] : List Str).map V.str) := fun H => .inr ⟨_, _, _, t12, rfl, rfl, (by show (2 : Nat) ≤ sizeLine; decide), .cons ⟨_, rfl⟩ (.cons ⟨_, rfl⟩ (.nil))⟩
  have q13 : ∀ H, SqT K H b13 ((["r", "C", "t"] : List Str).map V.str) := fun H => .inr ⟨_, _, _, t13, rfl, rfl, (by show (3 : Nat) ≤ sizeLine; decide), .cons ⟨_, rfl⟩ (.cons ⟨_, rfl⟩ (.cons ⟨_, rfl⟩ (.nil)))⟩
  have q14 : ∀ H, SqT K H b14 ((["t"] : List Str).map V.str) := fun H => .inr ⟨_, _, _, t14, rfl, rfl, (by show (1 : Nat) ≤ sizeLine; decide), .cons ⟨_, rfl⟩ (.nil)⟩
  have q15 : ∀ H, SqT K H b15 ((["r"] : List Str).map V.str) := fun H => .inr ⟨_, _, _, t15, rfl, rfl, (by show (1 : Nat) ≤ sizeLine; decide), .cons ⟨_, rfl⟩ (.nil)⟩
  have q16 : ∀ H, SqT K H b16 ((["r"] : List Str).map V.str) := fun H => .inr ⟨_, _, _, t16, rfl, rfl, (by show (1 : Nat) ≤ sizeLine; decide), .cons ⟨_, rfl⟩ (.nil)⟩
  have FO : ∀ z, ∃ r, PySem.W.nsIn K aF z = some r ∧ match formsL.lookup z with
    | none => r = none
    | some ks => ∃ a, r = some (.ref a) ∧ ∀ H, SqT K H a (ks.map V.str) := by
    intro z
    refine ⟨_, NS z, ?_⟩
    by_cases h0 : z = "new"
    · subst h0; exact ⟨b0, rfl, q0⟩
    by_cases h1 : z = "array"
    · subst h1; exact ⟨b1, rfl, q1⟩
    by_cases h2 : z = "null"
    · subst h2; exact ⟨b2, rfl, q2⟩
    by_cases h3 : z = "move"
    · subst h3; exact ⟨b3, rfl, q3⟩
    by_cases h4 : z = "get"
    · subst h4; exact ⟨b4, rfl, q4⟩
    by_cases h5 : z = "put"
    · subst h5; exact ⟨b5, rfl, q5⟩
    by_cases h6 : z = "call"
    · subst h6; exact ⟨b6, rfl, q6⟩
    by_cases h7 : z = "ask"
    · subst h7; exact ⟨b7, rfl, q7⟩
    by_cases h8 : z = "cast"
    · subst h8; exact ⟨b8, rfl, q8⟩
    by_cases h9 : z = "load"
    · subst h9; exact ⟨b9, rfl, q9⟩
    by_cases h10 : z = "store"
    · subst h10; exact ⟨b10, rfl, q10⟩
    by_cases h11 : z = "jump"
    · subst h11; exact ⟨b11, rfl, q11⟩
    by_cases h12 : z = "ifnull"
    · subst h12; exact ⟨b12, rfl, q12⟩
    by_cases h13 : z = "ifis"
    · subst h13; exact ⟨b13, rfl, q13⟩
    by_cases h14 : z = "choose"
    · subst h14; exact ⟨b14, rfl, q14⟩
    by_cases h15 : z = "tell"
    · subst h15; exact ⟨b15, rfl, q15⟩
    by_cases h16 : z = "return"
    · subst h16; exact ⟨b16, rfl, q16⟩
    have e1 : formsL.lookup z = none := by simp [formsL, List.lookup, beq_eq_false_iff_ne.mpr h0, beq_eq_false_iff_ne.mpr h1, beq_eq_false_iff_ne.mpr h2, beq_eq_false_iff_ne.mpr h3, beq_eq_false_iff_ne.mpr h4, beq_eq_false_iff_ne.mpr h5, beq_eq_false_iff_ne.mpr h6, beq_eq_false_iff_ne.mpr h7, beq_eq_false_iff_ne.mpr h8, beq_eq_false_iff_ne.mpr h9, beq_eq_false_iff_ne.mpr h10, beq_eq_false_iff_ne.mpr h11, beq_eq_false_iff_ne.mpr h12, beq_eq_false_iff_ne.mpr h13, beq_eq_false_iff_ne.mpr h14, beq_eq_false_iff_ne.mpr h15, beq_eq_false_iff_ne.mpr h16]
    rw [e1]
    show List.lookup z _ = none
    simp [List.lookup, beq_eq_false_iff_ne.mpr h0, beq_eq_false_iff_ne.mpr h1, beq_eq_false_iff_ne.mpr h2, beq_eq_false_iff_ne.mpr h3, beq_eq_false_iff_ne.mpr h4, beq_eq_false_iff_ne.mpr h5, beq_eq_false_iff_ne.mpr h6, beq_eq_false_iff_ne.mpr h7, beq_eq_false_iff_ne.mpr h8, beq_eq_false_iff_ne.mpr h9, beq_eq_false_iff_ne.mpr h10, beq_eq_false_iff_ne.mpr h11, beq_eq_false_iff_ne.mpr h12, beq_eq_false_iff_ne.mpr h13, beq_eq_false_iff_ne.mpr h14, beq_eq_false_iff_ne.mpr h15, beq_eq_false_iff_ne.mpr h16]
  have T : K02.Txt K w mg aF _ nF := { BB with
    g_MOST_LETTERS := ⟨_, PySem.W.mg_of X G g1, _, rfl⟩
    g_MOST_TYPES := ⟨_, PySem.W.mg_of X G g2, _, rfl⟩
    g_MOST_SIZE := ⟨_, PySem.W.mg_of X G g3, _, rfl⟩
    g_MOST_CODE := ⟨_, PySem.W.mg_of X G g4, _, rfl⟩
    g_MOST_DIGIT := ⟨_, PySem.W.mg_of X G g5, _, rfl⟩
    g_TYPES_AT := ⟨_, PySem.W.mg_of X G g6, _, rfl⟩
    g_ARGS_AT := ⟨_, PySem.W.mg_of X G g7, _, rfl⟩
    g_ARRAY_SIGN := ⟨_, PySem.W.mg_of X G g8, _, rfl⟩
    g_FORMS := ⟨_, PySem.W.mg_of X G gF, rfl⟩
    kd := KD
    forms := FO }
  have T3 : Txt3 K w mg aF _ nF C cE := { T with
    g_Method := ⟨_, PySem.W.mg_of X G aC, rfl⟩
    g_ClassError := ⟨_, PySem.W.mg_of X G acE, rfl⟩ }
  have M : MethC K C fmI := ⟨⟨mkk, amI, imI, kc⟩, ⟨pg, hd, po, sa⟩, no0, no1, no2, no3, no4⟩
  have I : ClsI K C := ⟨M.cls, ic, isp, itk, imr⟩
  have TE : ErrC K CE := errB_ok eB
  have F0 := fun_mk (st := s_is_name) l0 c0 k0
  have F1 := fun_mk (st := s_is_type) l1 c1 k1
  have F2 := fun_mk (st := s_is_number) l2 c2 k2
  have F3 := fun_mk (st := s_is_series) l3 c3 k3
  have F4 := fun_mk (st := s_are_types) l4 c4 k4
  have F5 := fun_mk (st := s_are_args) l5 c5 k5
  have F6 := fun_mk (st := s_fits) l6 c6 k6
  have F7 := fun_mk (st := s_has_word) l7 c7 k7
  have F8 := fun_mk (st := s_is_instruction_within) l8 c8 k8
  have F9 := fun_mk (st := s_is_code) l9 c9 k9
  have F10 := fun_mk (st := s_require) l10 c10 k10
  have F11 := fun_mk (st := s_law_source) l11 c11 k11
  have F12 := fun_mk (st := s_law_draw) l12 c12 k12
  have F13 := fun_mk (st := s_law_pick) l13 c13 k13
  have F14 := fun_mk (st := s_law_type) l14 c14 k14
  have F15 := fun_mk (st := s_law_call) l15 c15 k15
  have F16 := fun_mk (st := s_law_made) l16 c16 k16
  have F17 := fun_mk (st := s_law_ready) l17 c17 k17
  have F18 := fun_mk (st := s_law_method) l18 c18 k18
  have F19 := fun_mk (st := s_law_refused) l19 c19 k19
  have F20 := fun_mk (st := s_law_codes) l20 c20 k20
  have F21 := fun_mk (st := s_law_wrongs) l21 c21 k21
  have F22 := fun_mk (st := s_law_others_right) l22 c22 k22
  have F23 := fun_mk (st := s_law) l23 c23 k23
  have FmI := fun_mk (st := s_Method___init__) lmI cmI kmI
  have FeI := fun_mk (st := s_InvalidMethod___init__) leI ceI keI
  have FmE := fun_mk (st := s_Method___eq__) lmE cmE kmE
  have Fp0 := fun_mk (st := s_Method_name) lp0 cp0 kp0
  have Fp1 := fun_mk (st := s_Method_params) lp1 cp1 kp1
  have Fp2 := fun_mk (st := s_Method_result) lp2 cp2 kp2
  have Fp3 := fun_mk (st := s_Method_size) lp3 cp3 kp3
  have Fp4 := fun_mk (st := s_Method_code) lp4 cp4 kp4
  have bb0 := F0.binds (ps := ["value"]) fun _ _ _ _ _ _ us hl => match us, hl with | [_], _ => rfl
  have bb1 := F1.binds (ps := ["value"]) fun _ _ _ _ _ _ us hl => match us, hl with | [_], _ => rfl
  have bb2 := F2.binds (ps := ["value", "low", "high"]) fun _ _ _ _ _ _ us hl => match us, hl with | [_, _, _], _ => rfl
  have bb3 := F3.binds (ps := ["value", "most"]) fun _ _ _ _ _ _ us hl => match us, hl with | [_, _], _ => rfl
  have bb4 := F4.binds (ps := ["items"]) fun _ _ _ _ _ _ us hl => match us, hl with | [_], _ => rfl
  have bb5 := F5.binds (ps := ["items", "size"]) fun _ _ _ _ _ _ us hl => match us, hl with | [_, _], _ => rfl
  have bb6 := F6.binds (ps := ["kind", "item", "size", "length"]) fun _ _ _ _ _ _ us hl => match us, hl with | [_, _, _, _], _ => rfl
  have bb7 := F7.binds (ps := ["value"]) fun _ _ _ _ _ _ us hl => match us, hl with | [_], _ => rfl
  have bb8 := F8.binds (ps := ["value", "size", "length"]) fun _ _ _ _ _ _ us hl => match us, hl with | [_, _, _], _ => rfl
  have bb9 := F9.binds (ps := ["value", "size"]) fun _ _ _ _ _ _ us hl => match us, hl with | [_, _], _ => rfl
  have bb10 := F10.binds (ps := ["right", "given"]) fun _ _ _ _ _ _ us hl => match us, hl with | [_, _], _ => rfl
  have bb11 := F11.binds (ps := ["_law_script", "_law_turn"]) fun _ _ _ _ _ _ us hl => match us, hl with | [_, _], _ => rfl
  have bb12 := F12.binds (ps := ["_law_source_here", "_law_amount"]) fun _ _ _ _ _ _ us hl => match us, hl with | [_, _], _ => rfl
  have bb13 := F13.binds (ps := ["_law_source_here", "_law_items"]) fun _ _ _ _ _ _ us hl => match us, hl with | [_, _], _ => rfl
  have bb14 := F14.binds (ps := ["_law_source_here"]) fun _ _ _ _ _ _ us hl => match us, hl with | [_], _ => rfl
  have bb15 := F15.binds (ps := ["_law_source_here", "_law_size"]) fun _ _ _ _ _ _ us hl => match us, hl with | [_, _], _ => rfl
  have bb16 := F16.binds (ps := ["_law_source_here", "_law_size", "_law_length"]) fun _ _ _ _ _ _ us hl => match us, hl with | [_, _, _], _ => rfl
  have bb17 := F17.binds (ps := ["_law_source_here", "_law_size", "_law_given"]) fun _ _ _ _ _ _ us hl => match us, hl with | [_, _, _], _ => rfl
  have bb18 := F18.binds (ps := ["_law_source_here", "_law_is_ready"]) fun _ _ _ _ _ _ us hl => match us, hl with | [_, _], _ => rfl
  have bb19 := F19.binds (ps := ["_law_parts"]) fun _ _ _ _ _ _ us hl => match us, hl with | [_], _ => rfl
  have bb20 := F20.binds (ps := ["_law_size"]) fun _ _ _ _ _ _ us hl => match us, hl with | [_], _ => rfl
  have bb21 := F21.binds (ps := ["_law_source_here", "_law_method_here"]) fun _ _ _ _ _ _ us hl => match us, hl with | [_, _], _ => rfl
  have bb22 := F22.binds (ps := ["_law_method_here", "_law_right"]) fun _ _ _ _ _ _ us hl => match us, hl with | [_, _], _ => rfl
  have bbmI := FmI.binds (ps := ["self", "name", "params", "result", "size", "code"]) fun _ _ _ _ _ _ us hl => match us, hl with | [_, _, _, _, _, _], _ => rfl
  have bbeI := FeI.binds (ps := ["self", "given"]) fun _ _ _ _ _ _ us hl => match us, hl with | [_, _], _ => rfl
  have bbmE := FmE.binds (ps := ["self", "other"]) fun _ _ _ _ _ _ us hl => match us, hl with | [_, _], _ => rfl
  have bbp0 := Fp0.binds (ps := ["self"]) fun _ _ _ _ _ _ us hl => match us, hl with | [_], _ => rfl
  have bbp1 := Fp1.binds (ps := ["self"]) fun _ _ _ _ _ _ us hl => match us, hl with | [_], _ => rfl
  have bbp2 := Fp2.binds (ps := ["self"]) fun _ _ _ _ _ _ us hl => match us, hl with | [_], _ => rfl
  have bbp3 := Fp3.binds (ps := ["self"]) fun _ _ _ _ _ _ us hl => match us, hl with | [_], _ => rfl
  have bbp4 := Fp4.binds (ps := ["self"]) fun _ _ _ _ _ _ us hl => match us, hl with | [_], _ => rfl
  refine ⟨PySem.W.fnOf "law" "law" (defArgs s_law) (defBody s_law) (defScope s_law) .none kV23 dc23 pm23 an23 cd23 ct23, fun s v => .of_eq rfl, fun base _ _ => ?_⟩
  have C_is_name : Cal l.prog w K mg base 1 "is_name" ["value"] (spIsName K) := ⟨⟨f0, _, ok_is_name F0 T, PySem.W.mg_of X G a0, k0, bb0⟩⟩
  have C_is_type : Cal l.prog w K mg base 2 "is_type" ["value"] (spIsType K) := ⟨⟨f1, _, ok_is_type F1 T C_is_name, PySem.W.mg_of X G a1, k1, bb1⟩⟩
  have C_is_number : Cal l.prog w K mg base 1 "is_number" ["value", "low", "high"] (spNum K) := ⟨⟨f2, _, ok_is_number F2 T, PySem.W.mg_of X G a2, k2, bb2⟩⟩
  have C_is_series : Cal l.prog w K mg base 1 "is_series" ["value", "most"] (spSeries K) := ⟨⟨f3, _, ok_is_series F3 T, PySem.W.mg_of X G a3, k3, bb3⟩⟩
  have C_seriesN : Cal l.prog w K mg base 1 "is_series" ["value", "most"] (spSeriesN K) := ⟨⟨f3, _, ok_is_seriesN F3 T, PySem.W.mg_of X G a3, k3, bb3⟩⟩
  have C_ser : Cal l.prog w K mg base 1 "is_series" ["value", "most"] (spSer K) := ⟨⟨f3, _, ok_ser F3 T, PySem.W.mg_of X G a3, k3, bb3⟩⟩
  have C_are_types : Cal l.prog w K mg base 3 "are_types" ["items"] (spTypes K) := ⟨⟨f4, _, ok_are_types F4 T C_is_type, PySem.W.mg_of X G a4, k4, bb4⟩⟩
  have C_are_args : Cal l.prog w K mg base 2 "are_args" ["items", "size"] (spArgs K) := ⟨⟨f5, _, ok_are_args F5 T C_is_number, PySem.W.mg_of X G a5, k5, bb5⟩⟩
  have C_fits : Cal l.prog w K mg base 4 "fits" ["kind", "item", "size", "length"] (spFits K) := ⟨⟨f6, _, ok_fits F6 T C_is_number C_is_name C_is_type C_are_types C_are_args, PySem.W.mg_of X G a6, k6, bb6⟩⟩
  have C_has_word : Cal l.prog w K mg base 1 "has_word" ["value"] (spWord K) := ⟨⟨f7, _, ok_has_word F7 T, PySem.W.mg_of X G a7, k7, bb7⟩⟩
  have C_is_instruction_within : Cal l.prog w K mg base 5 "is_instruction_within" ["value", "size", "length"] (spWithin K) := ⟨⟨f8, _, ok_within F8 T C_has_word C_fits, PySem.W.mg_of X G a8, k8, bb8⟩⟩
  have C_is_code : Cal l.prog w K mg base 6 "is_code" ["value", "size"] (spCode K) := ⟨⟨f9, _, ok_is_code F9 T C_is_series C_is_instruction_within, PySem.W.mg_of X G a9, k9, bb9⟩⟩
  have C_is_codeX : Cal l.prog w K mg base 6 "is_code" ["value", "size"] (fun vs H Q E => spCode K vs H Q E ∨ spCodeN K vs H Q E) := ⟨⟨f9, _, fn_or (ok_is_code F9 T C_is_series C_is_instruction_within) (ok_is_codeN F9 T C_seriesN C_is_instruction_within), PySem.W.mg_of X G a9, k9, bb9⟩⟩
  have C_require : Cal l.prog w K mg base 1 "require" ["right", "given"] spReq := ⟨⟨f10, _, ok_require F10 T, PySem.W.mg_of X G a10, k10, bb10⟩⟩
  have C_InvalidMethod : ErCal l.prog w K mg base 1 "InvalidMethod" CE ["self", "given"] (spErr "given" CE) := ⟨TE, feI, _, xi, xt, ok_init_err FeI TE hno, PySem.W.mg_of X G aCE, bbeI⟩
  have C_requireX : CalX l.prog w K mg base 3 "require" ["right", "given"] (spReqX CE) := ⟨⟨f10, _, ok_requireX F10 C_InvalidMethod, PySem.W.mg_of X G a10, k10, bb10⟩⟩
  have iF := ok_initF (P := l.prog) (w := w) (base := base) FmI T M C_require C_is_name C_is_type C_is_series C_are_types C_is_number C_is_code
  have iX := ok_initX (C := C) FmI T C_requireX C_is_name C_is_type C_ser C_are_types C_is_number C_is_codeX
  have C_Method : MkCal l.prog w K mg base 7 "Method" C ["self", "name", "params", "result", "size", "code"] (spInitF K C) := ⟨⟨fmI, _, M.mkC, iF, PySem.W.mg_of X G aC, bbmI⟩⟩
  have C_MethodX : MkX l.prog w K mg base 7 "Method" C ["self", "name", "params", "result", "size", "code"] (spInitU K C CE) := ⟨⟨fmI, _, M.mkC, fn_orX (FnOk.toX iF) iX, PySem.W.mg_of X G aC, bbmI⟩⟩
  have C_eq : EqCal l.prog w K mg base 1 C (spEqM K C) := ⟨⟨fmE, _, amE, imE, ok_eqM FmE T3 I M, bbmE⟩⟩
  have C_name : PropCal l.prog w K mg base 1 C "name" (getSp C "_name") := ⟨⟨pa0, fp0, _, M.cls, ⟨ap0, gp0, tp0, ⟨_, rp0⟩⟩, fn_getter (k := 0) lp0 cp0 sc_Method_name rfl rfl M.cls M.n_name, bbp0⟩⟩
  have C_params : PropCal l.prog w K mg base 1 C "params" (getSp C "_params") := ⟨⟨pa1, fp1, _, M.cls, ⟨ap1, gp1, tp1, ⟨_, rp1⟩⟩, fn_getter (k := 0) lp1 cp1 sc_Method_params rfl rfl M.cls M.n_params, bbp1⟩⟩
  have C_result : PropCal l.prog w K mg base 1 C "result" (getSp C "_result") := ⟨⟨pa2, fp2, _, M.cls, ⟨ap2, gp2, tp2, ⟨_, rp2⟩⟩, fn_getter (k := 0) lp2 cp2 sc_Method_result rfl rfl M.cls M.n_result, bbp2⟩⟩
  have C_size : PropCal l.prog w K mg base 1 C "size" (getSp C "_size") := ⟨⟨pa3, fp3, _, M.cls, ⟨ap3, gp3, tp3, ⟨_, rp3⟩⟩, fn_getter (k := 0) lp3 cp3 sc_Method_size rfl rfl M.cls M.n_size, bbp3⟩⟩
  have C_code : PropCal l.prog w K mg base 1 C "code" (getSp C "_code") := ⟨⟨pa4, fp4, _, M.cls, ⟨ap4, gp4, tp4, ⟨_, rp4⟩⟩, fn_getter (k := 0) lp4 cp4 sc_Method_code rfl rfl M.cls M.n_code, bbp4⟩⟩
  have C_law_source : Cal l.prog w K mg base 1 "_law_source" ["_law_script", "_law_turn"] (spSource K) := ⟨⟨f11, _, ok_source F11 T.toBi, PySem.W.mg_of X G a11, k11, bb11⟩⟩
  have C_law_draw : Cal l.prog w K mg base 1 "_law_draw" ["_law_source_here", "_law_amount"] spDraw := ⟨⟨f12, _, ok_draw F12 T.toBi, PySem.W.mg_of X G a12, k12, bb12⟩⟩
  have C_law_pick : Cal l.prog w K mg base 2 "_law_pick" ["_law_source_here", "_law_items"] (spPick K) := ⟨⟨f13, _, ok_pick F13 T C_law_draw, PySem.W.mg_of X G a13, k13, bb13⟩⟩
  have C_law_type : Cal l.prog w K mg base 3 "_law_type" ["_law_source_here"] (spTyp K) := ⟨⟨f14, _, ok_type F14 T C_law_pick, PySem.W.mg_of X G a14, k14, bb14⟩⟩
  have C_law_call : Cal l.prog w K mg base 4 "_law_call" ["_law_source_here", "_law_size"] (spCall K) := ⟨⟨f15, _, ok_call F15 T C_law_draw C_law_pick C_law_type, PySem.W.mg_of X G a15, k15, bb15⟩⟩
  have C_law_made : Cal l.prog w K mg base 5 "_law_made" ["_law_source_here", "_law_size", "_law_length"] (spMade K) := ⟨⟨f16, _, ok_made F16 T C_law_draw C_law_pick C_law_type C_law_call, PySem.W.mg_of X G a16, k16, bb16⟩⟩
  have C_law_ready : Cal l.prog w K mg base 3 "_law_ready" ["_law_source_here", "_law_size", "_law_given"] (spReady K) := ⟨⟨f17, _, ok_ready F17 T C_law_draw C_law_pick, PySem.W.mg_of X G a17, k17, bb17⟩⟩
  have C_law_method : Cal l.prog w K mg base 9 "_law_method" ["_law_source_here", "_law_is_ready"] (spMethF K C) := ⟨⟨f18, _, ok_method F18 T C_law_draw C_law_pick C_law_type C_law_ready C_law_made C_Method, PySem.W.mg_of X G a18, k18, bb18⟩⟩
  have C_law_refused : CalG l.prog w K mg base 9 "_law_refused" ["_law_parts"] (spRefused K) := ⟨⟨f19, _, ok_refused F19 T3 (PySem.W.mg_of X G aCE) TE hno sfE kE C_MethodX, PySem.W.mg_of X G a19, k19, bb19⟩⟩
  have C_law_codes : Cal l.prog w K mg base 1 "_law_codes" ["_law_size"] (spCodes K) := ⟨⟨f20, _, ok_codes F20 T, PySem.W.mg_of X G a20, k20, bb20⟩⟩
  have C_law_wrongs : Cal l.prog w K mg base 3 "_law_wrongs" ["_law_source_here", "_law_method_here"] (spWrongs K C) := ⟨⟨f21, _, ok_wrongs F21 T C_law_pick C_law_codes C_params C_size, PySem.W.mg_of X G a21, k21, bb21⟩⟩
  have C_law_others_right : Cal l.prog w K mg base 9 "_law_others_right" ["_law_method_here", "_law_right"] (spOthers K C) := ⟨⟨f22, _, ok_others F22 T I nfC C_eq C_Method, PySem.W.mg_of X G a22, k22, bb22⟩⟩
  exact ok_law F23 T I nfC nfl kl C_law_source C_law_draw C_law_method C_Method C_eq C_law_refused C_law_wrongs C_law_others_right C_name C_params C_result C_size C_code
end K03
open PySem PySem.W PyProof.Rows
set_option maxRecDepth 100000 in
set_option maxHeartbeats 0 in
theorem PySem.Challenge.cw_lateclasses_k03_methods_made_holds : PySem.Challenge.rw_lateclasses_k03_methods_made.Holds := by
  w_on; o_law; k_head; (case hw => w_witness2)
  k_fill
  refine Kit.walkG (l := PySem.Challenge.rw_lateclasses_k03_methods_made) (n := 63) (k := 10) (x := "_law_script") (sp := fun w => K03.spLaw _) rfl (by decide) rfl ⟨rfl, by decide, by decide⟩ (fun w h Y => PySem.W.kIn_of Y) ?F (fun _ _ a ns hl _ hS => ⟨a, ns, rfl, hS, hl, fun _ => rfl⟩)
  case F =>
    intro w mg fa h KX G hmg
    refine' K03.all_mk KX G hmg ?a0 ?l0 ?c0 ?k0 ?a1 ?l1 ?c1 ?k1 ?a2 ?l2 ?c2 ?k2 ?a3 ?l3 ?c3 ?k3 ?a4 ?l4 ?c4 ?k4 ?a5 ?l5 ?c5 ?k5 ?a6 ?l6 ?c6 ?k6 ?a7 ?l7 ?c7 ?k7 ?a8 ?l8 ?c8 ?k8 ?a9 ?l9 ?c9 ?k9 ?a10 ?l10 ?c10 ?k10 ?a11 ?l11 ?c11 ?k11 ?a12 ?l12 ?c12 ?k12 ?a13 ?l13 ?c13 ?k13 ?a14 ?l14 ?c14 ?k14 ?a15 ?l15 ?c15 ?k15 ?a16 ?l16 ?c16 ?k16 ?a17 ?l17 ?c17 ?k17 ?a18 ?l18 ?c18 ?k18 ?a19 ?l19 ?c19 ?k19 ?a20 ?l20 ?c20 ?k20 ?a21 ?l21 ?c21 ?k21 ?a22 ?l22 ?c22 ?k22 ?a23 ?l23 ?c23 ?k23 ?aC ?aCE ?acE ?amI ?imI ?lmI ?cmI ?kmI ?xi ?xt ?leI ?ceI ?keI ?amE ?imE ?lmE ?cmE ?kmE ?ap0 ?gp0 ?tp0 ?rp0 ?lp0 ?cp0 ?kp0 ?ap1 ?gp1 ?tp1 ?rp1 ?lp1 ?cp1 ?kp1 ?ap2 ?gp2 ?tp2 ?rp2 ?lp2 ?cp2 ?kp2 ?ap3 ?gp3 ?tp3 ?rp3 ?lp3 ?cp3 ?kp3 ?ap4 ?gp4 ?tp4 ?rp4 ?lp4 ?cp4 ?kp4 ?pg ?hd ?po ?sa ?mkk ?kc ?ic ?isp ?itk ?imr ?nfC ?nfl ?kl ?hno ?sfE ?kE ?eB ?no0 ?no1 ?no2 ?no3 ?no4 ?z_len ?z_max ?z_min ?z_int ?z_str ?z_bool ?z_list ?z_tuple ?z_dict ?z_type ?z_isinstance ?z_all ?z_any ?z_range ?z_zip ?z_repr ?z_set ?g1 ?g2 ?g3 ?g4 ?g5 ?g6 ?g7 ?g8 ?gF ?dF ?lo ?t0 ?t1 ?t2 ?t3 ?t4 ?t5 ?t6 ?t7 ?t8 ?t9 ?t10 ?t11 ?t12 ?t13 ?t14 ?t15 ?t16
    (case a0 => k_is); (case l0 => k_is); (case c0 => k_is); (case k0 => k_is); (case a1 => k_is); (case l1 => k_is); (case c1 => k_is); (case k1 => k_is); (case a2 => k_is); (case l2 => k_is); (case c2 => k_is); (case k2 => k_is); (case a3 => k_is); (case l3 => k_is); (case c3 => k_is); (case k3 => k_is); (case a4 => k_is); (case l4 => k_is); (case c4 => k_is); (case k4 => k_is); (case a5 => k_is); (case l5 => k_is); (case c5 => k_is); (case k5 => k_is); (case a6 => k_is); (case l6 => k_is); (case c6 => k_is); (case k6 => k_is); (case a7 => k_is); (case l7 => k_is); (case c7 => k_is); (case k7 => k_is); (case a8 => k_is); (case l8 => k_is); (case c8 => k_is); (case k8 => k_is); (case a9 => k_is); (case l9 => k_is); (case c9 => k_is); (case k9 => k_is); (case a10 => k_is); (case l10 => k_is); (case c10 => k_is); (case k10 => k_is); (case a11 => k_is); (case l11 => k_is); (case c11 => k_is); (case k11 => k_is); (case a12 => k_is); (case l12 => k_is); (case c12 => k_is); (case k12 => k_is); (case a13 => k_is); (case l13 => k_is); (case c13 => k_is); (case k13 => k_is); (case a14 => k_is); (case l14 => k_is); (case c14 => k_is); (case k14 => k_is); (case a15 => k_is); (case l15 => k_is); (case c15 => k_is); (case k15 => k_is); (case a16 => k_is); (case l16 => k_is); (case c16 => k_is); (case k16 => k_is); (case a17 => k_is); (case l17 => k_is); (case c17 => k_is); (case k17 => k_is); (case a18 => k_is); (case l18 => k_is); (case c18 => k_is); (case k18 => k_is); (case a19 => k_is); (case l19 => k_is); (case c19 => k_is); (case k19 => k_is); (case a20 => k_is); (case l20 => k_is); (case c20 => k_is); (case k20 => k_is); (case a21 => k_is); (case l21 => k_is); (case c21 => k_is); (case k21 => k_is); (case a22 => k_is); (case l22 => k_is); (case c22 => k_is); (case k22 => k_is); (case a23 => k_is); (case l23 => k_is); (case c23 => k_is); (case k23 => k_is); (case aC => k_is); (case aCE => k_is); (case acE => k_is); (case amI => k_is); (case imI => k_is); (case lmI => k_is); (case cmI => k_is); (case kmI => k_is); (case xi => k_is); (case xt => k_is); (case leI => k_is); (case ceI => k_is); (case keI => k_is); (case amE => k_is); (case imE => k_is); (case lmE => k_is); (case cmE => k_is); (case kmE => k_is); (case ap0 => k_is); (case gp0 => k_is); (case tp0 => k_is); (case rp0 => k_is); (case lp0 => k_is); (case cp0 => k_is); (case kp0 => k_is); (case ap1 => k_is); (case gp1 => k_is); (case tp1 => k_is); (case rp1 => k_is); (case lp1 => k_is); (case cp1 => k_is); (case kp1 => k_is); (case ap2 => k_is); (case gp2 => k_is); (case tp2 => k_is); (case rp2 => k_is); (case lp2 => k_is); (case cp2 => k_is); (case kp2 => k_is); (case ap3 => k_is); (case gp3 => k_is); (case tp3 => k_is); (case rp3 => k_is); (case lp3 => k_is); (case cp3 => k_is); (case kp3 => k_is); (case ap4 => k_is); (case gp4 => k_is); (case tp4 => k_is); (case rp4 => k_is); (case lp4 => k_is); (case cp4 => k_is); (case kp4 => k_is); (case pg => k_is); (case hd => k_is); (case po => k_is); (case sa => k_is); (case mkk => k_is); (case kc => k_is); (case ic => k_is); (case isp => k_is); (case itk => k_is); (case imr => k_is); (case nfC => k_is); (case nfl => k_is); (case kl => kit_is); (case hno => k_is); (case sfE => k_is); (case kE => kit_is); (case eB => kernel_rfl); (case no0 => k_is); (case no1 => k_is); (case no2 => k_is); (case no3 => k_is); (case no4 => k_is); (case z_len => k_is); (case z_max => k_is); (case z_min => k_is); (case z_int => k_is); (case z_str => k_is); (case z_bool => k_is); (case z_list => k_is); (case z_tuple => k_is); (case z_dict => k_is); (case z_type => k_is); (case z_isinstance => k_is); (case z_all => k_is); (case z_any => k_is); (case z_range => k_is); (case z_zip => k_is); (case z_repr => k_is); (case z_set => k_is); (case g1 => k_is); (case g2 => k_is); (case g3 => k_is); (case g4 => k_is); (case g5 => k_is); (case g6 => k_is); (case g7 => k_is); (case g8 => k_is); (case gF => k_is); (case dF => k_is); (case lo => decide +kernel); (case t0 => k_is); (case t1 => k_is); (case t2 => k_is); (case t3 => k_is); (case t4 => k_is); (case t5 => k_is); (case t6 => k_is); (case t7 => k_is); (case t8 => k_is); (case t9 => k_is); (case t10 => k_is); (case t11 => k_is); (case t12 => k_is); (case t13 => k_is); (case t14 => k_is); (case t15 => k_is); (case t16 => k_is)

