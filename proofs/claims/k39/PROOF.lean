import PyProof.Rows.All
import Wide.All
import OpenK.AllK
import Wide.FinOn
import PyProof.EqAt
import PyProof.EqKinds
import PyProof.TupleCall
import KE.KExcInit
import KE.KExcIs
import HandS.ForMost
import HandS.Exc
import HandS.ExcInit
import HandS.ExcIs
import HandS.ExcValue
import HandS.IsInst
import HandS.Walk
import HandS.More
import HandS.SetFor
import PySem.Challenge.RW_latestrows_k39_errors_and_limits
set_option Elab.async false
set_option linter.all false
set_option maxRecDepth 100000
set_option maxHeartbeats 8000000
/-! own exception classes over any base, as values: made by position and by name, asked by isinstance, their field read -/
namespace PySem
namespace XV
open PySem.W PySem.Calls PyProof.Rows PySem.HandSPX Builtin.ObjectAttr Builtin
/-! ### the first field that is stored on a new exception: its dict is made then -/
section
variable {prog : Program} {w : World} {A : Around} {R : Result → Shared → Prop} {K : Frag} {x C : Addr} {fv : Array Value} {f : Str} {u : Value} {tk : Tok} {b0 : String} {bmB : List Value}
theorem first_field (SF : StoreFacts b0 bmB "object.__setattr__" "object") {s : Shared} (X : K.In s.heap) (hx : s.heap.get? x = some { cls := .ref C, data := .fields fv }) (over : excOver K C bmB = true) (no : takerIn K C f = some none) (hd : hasDictIn K C = true)
    (next : ∀ G n dx, (∀ b o, b ≠ x → s.heap.get? b = some o → G.get? b = some o) → s.heap.objs.size ≤ dx → dx ≠ x → G.get? x = some { cls := .ref C, dict := some dx, data := .fields fv } →
      G.Ns1 dx (fun y => if y = f then some u else none) → R (.ok (.ret .none)) { s with heap := G, toks := n }) :
    codeAny (model prog w) A (.call (.builtin "object.__setattr__") ⟨[.ref x, .str f tk, u], []⟩) R s := by
  refine osa_openX SF X (ox := { cls := .ref C, data := .fields fv }) (od := none) ⟨hx, rfl, rfl, trivial⟩ over no fun lazy => ?_
  obtain ⟨cd, hcd, dct⟩ := any_some hd
  have isC : Looks (model prog w) s.heap (classData C) cd := looks_clsIn X hcd
  obtain ⟨hp, g, dr, tt, os⟩ := s
  have nx : x ≠ hp.objs.size := Nat.ne_of_lt (Heap.lt_size hx)
  show wpAny _ _ (storeInOwnDict (.ref x) (.ref C) (.str f tk) f u lazy) _ _ _
  obtain ⟨c1, c2, c3, c4, c5, c6, c7, c8, c9, c10, c11⟩ := cd
  obtain rfl : c6 = true := dct
  unfold storeInOwnDict
  unfold ownDictForStores
  repeat (first
    | with_reducible refine isC.at ?_
    | with_reducible refine store_in_new ?_ ?_
    | with_reducible refine wpAny_loadPart_at hx ?_
    | wp_step)
  · refine ⟨{ cls := .type "dict", data := .dict #[] }, #[], 0, ?_, rfl, fun e q => absurd q (by simp), fun _ => rfl⟩
    rw [Heap.get?_update_ne _ _ _ _ nx.symm]
    exact Heap.get?_push_at rfl rfl
  · intro G n dict same
    have grown : ∀ {b : Addr} {o : Obj}, hp.get? b = some o → (hp.push { cls := .type "dict", data := .dict #[] }).get? b = some o := fun q => Heap.get?_push_of_some _ q
    refine next G n hp.objs.size (fun b o ne q => ?_) (Nat.le_refl _) nx.symm ?_ dict
    · rw [same.2 b (Nat.ne_of_lt (Heap.lt_size q)), Heap.get?_update_ne _ _ _ _ ne]
      exact grown q
    · rw [same.2 x nx]
      exact Heap.get?_update_self _ (grown hx) rfl
end
/-! ### C(..) with values and keywords: the library's call has values alone -/
section
variable {prog : Program} {w : World} {A : Around} {R : Result → Shared → Prop} {h : Heap} {g : Array GenState} {dr : Drawn} {tt : Nat} {os : OsState}
variable {nm q : Str} {C N fI : Addr} {bs bm bmB : List Value} {sn : List Str} {sub : List Value} {ab : Bool} {col : Option Bool} {dd : Option Addr} {k0 k1 k2 k3 k5 : Option Value} {B newId initId : String} {vs : List Value} {kw : List (Str × Value)}
/-- what the class is an heir of -/
theorem heir (same : ∀ X : String, bm.contains (.type X) = bmB.contains (.type X)) (X : String) : (Value.ref C :: bm).contains (.type X) = bmB.contains (.type X) := by
  have e : (Value.type X == Value.ref C) = false := beq_eq_false_iff_ne.mpr fun z => nomatch z
  rw [List.contains_cons, e, Bool.false_or, same]
/-- the new object, its arguments kept, the keywords let go -/
theorem born (F : ExcBaseFacts B newId initId bmB) (same : ∀ X : String, bm.contains (.type X) = bmB.contains (.type X)) (hC : h.get? C = some (excClassObj nm q C N bs bm true sn sub ab col dd k0 k1 k2 k3 k5 newId)) (few : vs.length ≤ sizeLine)
    (next : R (.ok (.ret (.ref (h.objs.size + 1)))) ⟨(h.push (kdv_tup vs)).push (excO C h.objs.size), g, dr, tt, os⟩) :
    codeAny (model prog w) A (.builtin newId ⟨.ref C :: vs, kw⟩) R ⟨h, g, dr, tt, os⟩ := by
  have ends := F.ends
  have isB : (Value.ref C :: bm).contains (.type B) = true := (heir same B).trans F.hasB
  have notA : (Value.ref C :: bm).contains (.type "AttributeError") = false := (heir same _).trans F.noAttr
  have notN : (Value.ref C :: bm).contains (.type "NameError") = false := (heir same _).trans F.noName
  refine codeAny_builtinAt F.entry ?_
  unfold «BaseException.__new__»
  refine wpAt_bind ?_
  show wpAt _ _ _ (stack >>= fun _ => _) _ _ _
  refine wpAt_bind (wpAt_stack fun _ _ => ?_)
  refine wpAt_of_wpAny ?_
  wp_walk
  refine wpAt_of_wpAny ?_
  rw [F.owner]
  repeat (first
    | (with_reducible refine wpAny_isSubtype_exc hC ?_; first | rw [isB] | rw [notN] | rw [notA])
    | with_reducible refine wpAny_loadPart_at hC ?_
    | with_reducible refine wpAny_madeHere_exc F.canon hC ?_
    | wp_step)
  show R _ _
  rw [Heap.size_push]
  exact next
/-- the check ahead of it -/
theorem born_check {M : Model} {E : Value → Shared → Prop} {Q : Unit → Shared → Prop} (F : ExcBaseFacts B newId initId bmB) (same : ∀ X : String, bm.contains (.type X) = bmB.contains (.type X)) (hC : h.get? C = some (excClassObj nm q C N bs bm true sn sub ab col dd k0 k1 k2 k3 k5 newId))
    (next : Q () ⟨h, g, dr, tt, os⟩) : wpAny M A (checkBuiltinCall newId ⟨.ref C :: vs, kw⟩) Q E ⟨h, g, dr, tt, os⟩ := by
  have star := F.noStar
  have isB : (Value.ref C :: bm).contains (.type B) = true := (heir same B).trans F.hasB
  simp only [F.newRow, F.newKind, F.newSplit, checkBuiltinCall]
  repeat (first
    | refine wpAny_madeBy_exc hC ?_
    | refine wpAny_staticBase_exc hC ?_
    | (refine wpAny_isSubtype_exc hC ?_; rw [isB])
    | refine wpAny_loadPart_at hC ?_
    | simp only [if_false, Bool.false_eq_true, bne_self_eq_false]
    | wp_step)
  exact next
/-- born, then handed to its own __init__ -/
theorem call_kw (F : ExcBaseFacts B newId initId bmB) (same : ∀ X : String, bm.contains (.type X) = bmB.contains (.type X)) (hC : h.get? C = some (excClassObj nm q C N bs bm true sn sub ab col dd k0 k1 k2 k3 k5 newId))
    (ini : Looks (model prog w) h (typeLookup (.ref C) "__init__") (some (.ref fI))) (bnd : ∀ self, Looks (model prog w) h (bindSpecial (.ref fI) self) (.ref fI, [self])) (few : vs.length ≤ sizeLine)
    (go : codeAny (model prog w) (A.under (.builtin "type.__call__" ⟨.ref C :: vs, kw⟩)) (.call (.ref fI) ⟨.ref (h.objs.size + 1) :: vs, kw⟩) (InitBack (h.objs.size + 1) R) ⟨(h.push (kdv_tup vs)).push (excO C h.objs.size), g, dr, tt, os⟩) :
    codeAny (model prog w) A (.call (.ref C) ⟨vs, kw⟩) R ⟨h, g, dr, tt, os⟩ := by
  have grown : ∀ b o, h.get? b = some o → ((h.push (kdv_tup vs)).push (excO C h.objs.size)).get? b = some o := fun b o e => Heap.get?_push_of_some _ (Heap.get?_push_of_some _ e)
  have there : ((h.push (kdv_tup vs)).push (excO C h.objs.size)).get? (h.objs.size + 1) = some (excO C h.objs.size) := by heap_get
  have isType : (⟨h, g, dr, tt, os⟩ : Shared).TypeIs (.ref C) "type" := ⟨_, hC, rfl⟩
  have lk := tc_lookup
  have bd := tc_bind (.ref C)
  refine codeAny_of_tree ?_
  show wpAny _ _ (callAny (.ref C) ⟨vs, kw⟩) _ _ _
  repeat (any_goals (first | with_reducible refine wpAny_loadPart_at hC ?_ | assumption | wp_step))
  refine ⟨rfl, codeAny_call_builtin_at (Code.quiet_builtin _ (by decide +kernel)) entry_typeCall (wpAny_check_type_call_sub hC ?_)⟩
  repeat (first | with_reducible refine wpAny_madeBy_exc hC ?_ | with_reducible refine wpAny_loadPart_at hC ?_ | wp_step)
  refine codeAny_call_builtin_code (Code.quiet_builtin _ F.quiet) (born_check F same hC (born F same hC few ?_))
  show wpAny _ _ _ _ _ ⟨(h.push (kdv_tup vs)).push (excO C h.objs.size), g, dr, tt, os⟩
  have hC2 := grown _ _ hC
  have itself : (Value.ref C :: bm).contains (.ref C) = true := by simp only [List.contains_cons, beq_self_eq_true, Bool.true_or]
  unfold isInstance
  repeat (first | with_reducible refine wpAny_loadPart_at there ?_ | (with_reducible refine wpAny_isSubtype_exc hC2 ?_; rw [itself]) | wp_step)
  show wpAny _ _ (typeLookup (.ref C) "__init__") _ _ _
  refine (ini.keeps grown).at (wpAny_holding (wpAny_bind (((bnd (.ref (h.objs.size + 1))).keeps grown).at ?_)))
  refine wpAny_bind (wpAny_call (codeAny_mono go fun back s' z => ?_))
  cases back with
  | error e => exact z
  | ok fl =>
    cases fl with
    | ret v =>
      obtain ⟨rfl, z⟩ := z
      first
        | (wp_walk; exact z)
        | exact wpAny_pure (wpAny_pure z)
    | next => exact z.elim
    | brk => exact z.elim
    | cont => exact z.elim
end
end XV
end PySem

namespace PySem
namespace XV
open PySem.W PySem.Calls PyProof.Rows PySem.HandSPX
/-! ### what the written part says of an own exception class -/
/-- the class at C, its one own base at B, then the built-in bmB -/
structure CF (K : Frag) (C B : Addr) (bn newId initId : String) (bmB : List Value) : Prop where
  fac : ExcBaseFacts bn newId initId bmB
  sto : StoreFacts bn bmB "object.__setattr__" "object"
  cls : ∃ nm q N bs sn sub ab col dd k0 k1 k2 k3 k5, K.lookup C = some (excClassObj nm q C N bs (.ref B :: bmB) true sn sub ab col dd k0 k1 k2 k3 k5 newId)
  kC : keepIn K (.ref C) = true
  tail : excTail bmB (.ref B :: bmB) = true
/-- its own __init__ that stores the field f; how an attribute is read -/
structure IFc (K : Frag) (C fI : Addr) (f : Str) : Prop where
  sa : findIn K (.ref C) "__setattr__" = some (some (.builtin "object.__setattr__"))
  noN : findIn K (.ref C) f = some none
  iC : findIn K (.ref C) "__init__" = some (some (.ref fI))
  tI : typeIn K (.ref fI) = some (.type "function")
/-- what __init__ leaves of a fresh exception at x -/
structure InitEnd (h h' : Heap) (x C dx t1 : Addr) (f : Str) (v : Value) : Prop where
  keep : ∀ b o, b ≠ x → h.get? b = some o → h'.get? b = some o
  obj : h'.get? x = some { cls := .ref C, dict := some dx, data := .fields #[.ref t1, .none, .none, .none, .bool false, .none] }
  dbig : h.objs.size ≤ dx
  dne : dx ≠ x
  ns : h'.Ns1 dx (fun y => if y = f then some v else none)
/-- a made exception at e, its dict at d -/
structure Made (h h' : Heap) (e C d t1 : Addr) (f : Str) (v : Value) : Prop where
  keep : ∀ b o, h.get? b = some o → h'.get? b = some o
  new : h.objs.size ≤ e
  obj : h'.get? e = some { cls := .ref C, dict := some d, data := .fields #[.ref t1, .none, .none, .none, .bool false, .none] }
  dbig : h.objs.size ≤ d
  dne : d ≠ e
  ns : h'.Ns1 d (fun y => if y = f then some v else none)
theorem one_size (v : Value) : [v].length ≤ sizeLine := by
  rw [sizeLine_eq]
  exact (by decide : 1 ≤ 16777216)
theorem ldC {M : Model} {s : Shared} {name : Str} {scope : Scope} {L a : Addr} {cd : Value} {m : Str → Option Value} {x : Str} {pos : Pos} {v : Value} {Q : Value → Shared → Prop} {A : Around} {E : Value → Shared → Prop} (hn : s.heap.Ns L m) (hv : m x = some v) (h : Q v s)
    (hk : scope.kind = .function := by rfl) (hl : (envOfC name scope L a cd).kindOf x = some .local := by rfl) (hd : (x == ("__debug__" : Str)) = false := by decide) :
    wpAny M A (eval (.Name x pos) (envOfC name scope L a cd)) Q E s := wpAny_Name (wpAny_loadName_local hk hl hn hv h) hd

/-! ### the field value -/
def iA_value (p1 p2 : Pos) : Arguments := { posonlyargs := [], args := [{ arg := "self", annotation := none, pos := p1 }, { arg := "value", annotation := none, pos := p2 }], vararg := none, kwonlyargs := [], kw_defaults := [], kwarg := none, defaults := [] }
def iB_value (q1 q2 q3 q4 : Pos) : List Stmt := [.Assign [.Attribute (.Name "self" q1) "value" q2] (.Name "value" q3) q4]
def iS_value : Scope := { kind := .function, names := [(PySem.Str.ofString "self", .local), (PySem.Str.ofString "value", .local)], isGenerator := false, isCoroutine := false, more := [] }
def Fn_value (K : Frag) (fI : Addr) (qn : Str) : Prop := ∃ (oc : Value) (od : Option Addr) (doc pm : Value) (an : Option Addr) (cdv ct : Value) (osl : Array (Option Value)) (p1 p2 q1 q2 q3 q4 : Pos),
    K.lookup fI = some ⟨oc, od, .func (fnOf "__init__" qn (iA_value p1 p2) (iB_value q1 q2 q3 q4) iS_value .none .none doc pm an cdv ct), osl⟩ ∧ codeIn K cdv qn = true
section
variable {prog : Program} {w : World} {A : Around} {E : Value → Shared → Prop} {R : Result → Shared → Prop} {s : Shared} {K : Frag} {C B fI : Addr} {bn newId initId : String} {bmB : List Value} {qn : Str}
theorem init_value (T : CF K C B bn newId initId bmB) (T2 : IFc K C fI "value") (T3 : Fn_value K fI qn) {x t0 : Addr} {v : Value} {args : Args} (X : K.In s.heap) (hlim : s.heap.NoLimit) (hx : s.heap.get? x = some (excO C t0)) (hroom : A.depth < recursionLimit)
    (ha : args = ⟨[.ref x, v], []⟩ ∨ args = ⟨[.ref x], [(("value" : Str), v)]⟩)
    (hq : ∀ h' tk dx, InitEnd s.heap h' x C dx t0 "value" v → R (.ok (.ret .none)) { s with heap := h', toks := tk }) :
    codeAny (model prog w) A (.call (.ref fI) args) R s := by
  obtain ⟨oc, od, doc, pm, an, cdv, ct, osl, p1, p2, q1, q2, q3, q4, ho, hcd⟩ := T3
  obtain ⟨nm, q, N, bs, sn, sub, ab, col, dd, k0, k1, k2, k3, k5, hC⟩ := T.cls
  have hcl : clsIn K C = some { name := nm, bases := bs, mro := .ref C :: .ref B :: bmB, ns := N, qualname := q, hasDict := true, slotNames := sn, subclasses := sub, abstract := ab, collection := col, hasDel := false } := by unfold clsIn; rw [hC] <;> rfl
  have hbind : BindsTo s (fnOf "__init__" qn (iA_value p1 p2) (iB_value q1 q2 q3 q4) iS_value .none .none doc pm an cdv ct) args [("self", .ref x), ("value", v)] := by
    rcases ha with rfl | rfl
    · exact BindsTo.of_eq (by first | rfl | with_unfolding_all rfl)
    · exact BindsTo.of_eq (by first | rfl | with_unfolding_all rfl)
  refine Att.call_fn (binds := [("self", .ref x), ("value", v)]) X hlim ho hcd hroom hbind (by first | rfl | decide | with_unfolding_all rfl) (fun s₁ IC => ?_) rfl rfl rfl
  obtain ⟨h₁, tk₁, rfl⟩ := IC.toInCall.same
  have k : ∀ b o, s.heap.get? b = some o → h₁.get? b = some o := IC.toInCall.keep
  have hn := IC.toInCall.ns
  have hxL : s.heap.objs.size ≠ x := Nat.ne_of_gt (Heap.lt_size hx)
  have X₁ : K.In h₁ := X.keeps k
  have hx₁ := k _ _ hx
  show wpAny _ _ (execs _ _) _ _ _
  refine wpAny_execs_cons (plainObj_wpAny_Assign_Attribute ?_)
  refine ldC (v := v) hn (by first | rfl | with_unfolding_all rfl | kernel_rfl) (ldC (v := .ref x) hn (by first | rfl | with_unfolding_all rfl | kernel_rfl) ?_)
  refine set_plain X₁ (ox := excO C t0) (od := none) ⟨hx₁, rfl, rfl, trivial⟩ T2.sa ?_
  have over : excOver K C bmB = true := by
    unfold excOver
    rw [hcl]
    show (C == C && excTail bmB (.ref B :: bmB)) = true
    rw [beq_self_eq_true, Bool.true_and]
    exact T.tail
  have noT : takerIn K C "value" = some none := by
    unfold takerIn
    rw [T2.noN] <;> rfl
  have hdc : hasDictIn K C = true := by
    unfold hasDictIn
    rw [hcl] <;> rfl
  refine first_field (prog := prog) (w := w) (u := v) (f := "value") (tk := tk₁) (x := x) (C := C) (s := { s with heap := h₁, toks := tk₁ + 1 }) T.sto X₁ hx₁ over noT hdc (fun h₃ tk₃ dx k₃ dn dne hx₃ hn₃ => ?_)
  · show wpAny _ _ (execs _ _) _ _ _
    have z : s.heap.objs.size < h₁.objs.size := hn.lt
    exact wpAny_execs_nil (hq h₃ tk₃ dx ⟨fun b o hb e => k₃ b o hb (k b o e), hx₃, Nat.le_of_lt (Nat.lt_of_lt_of_le z dn), dne, hn₃⟩)
theorem made_value (T : CF K C B bn newId initId bmB) (T2 : IFc K C fI "value") (T3 : Fn_value K fI qn) {v : Value} {rest : List Value} {kw : List (Str × Value)} (X : K.In s.heap) (hlim : s.heap.NoLimit) (hroom : A.depth + 1 < recursionLimit)
    (ha : (rest = [v] ∧ kw = []) ∨ (rest = [] ∧ kw = [(("value" : Str), v)]))
    (hq : ∀ h' tk e d t1, Made s.heap h' e C d t1 "value" v → R (.ok (.ret (.ref e))) { s with heap := h', toks := tk }) :
    codeAny (model prog w) A (.call (.ref C) ⟨rest, kw⟩) R s := by
  obtain ⟨nm, q, N, bs, sn, sub, ab, col, dd, k0, k1, k2, k3, k5, hC⟩ := T.cls
  obtain ⟨hp, g, dr, tk, os⟩ := s
  have k : ∀ b o, hp.get? b = some o → ((hp.push (kdv_tup rest)).push (excO C hp.objs.size)).get? b = some o := fun b o e => Heap.get?_push_of_some _ (Heap.get?_push_of_some _ e)
  have hget : ((hp.push (kdv_tup rest)).push (excO C hp.objs.size)).get? (hp.objs.size + 1) = some (excO C hp.objs.size) := by heap_get
  have hrest : rest.length ≤ sizeLine := by
    rcases ha with ⟨rfl, _⟩ | ⟨rfl, _⟩
    · exact one_size v
    · exact Nat.zero_le _
  refine call_kw T.fac (fun Y => List.contains_cons.trans rfl) (X _ _ hC) (looks_findIn X T2.iC) (fun self => bind_fn X self T2.tI) hrest ?_
  refine init_value (s := ⟨(hp.push (kdv_tup rest)).push (excO C hp.objs.size), g, dr, tk, os⟩) (v := v) T T2 T3 (X.keeps k) (hlim.keeps k) hget ?_ ?_ fun h' tk' dx ⟨k', hx, dn, dne, hns⟩ => ?_
  · show A.depth + 1 < recursionLimit
    exact hroom
  · rcases ha with ⟨rfl, rfl⟩ | ⟨rfl, rfl⟩
    · exact .inl rfl
    · exact .inr rfl
  · have old : ∀ b o, hp.get? b = some o → h'.get? b = some o := fun b o e => k' b o (Nat.ne_of_lt (Nat.lt_succ_of_lt (Heap.lt_size e))) (k b o e)
    have z : hp.objs.size + 1 + 1 ≤ dx := by
      first
        | (simpa only [Heap.size_push] using dn)
        | exact dn
        | (have q := dn; rw [Heap.size_push, Heap.size_push] at q; exact q)
    exact ⟨rfl, hq h' tk' (hp.objs.size + 1) dx _ ⟨old, Nat.le_succ _, hx, Nat.le_trans (Nat.le_trans (Nat.le_succ _) (Nat.le_succ _)) z, dne, hns⟩⟩
end

/-! ### the field index -/
def iA_index (p1 p2 : Pos) : Arguments := { posonlyargs := [], args := [{ arg := "self", annotation := none, pos := p1 }, { arg := "index", annotation := none, pos := p2 }], vararg := none, kwonlyargs := [], kw_defaults := [], kwarg := none, defaults := [] }
def iB_index (q1 q2 q3 q4 : Pos) : List Stmt := [.Assign [.Attribute (.Name "self" q1) "index" q2] (.Name "index" q3) q4]
def iS_index : Scope := { kind := .function, names := [(PySem.Str.ofString "self", .local), (PySem.Str.ofString "index", .local)], isGenerator := false, isCoroutine := false, more := [] }
def Fn_index (K : Frag) (fI : Addr) (qn : Str) : Prop := ∃ (oc : Value) (od : Option Addr) (doc pm : Value) (an : Option Addr) (cdv ct : Value) (osl : Array (Option Value)) (p1 p2 q1 q2 q3 q4 : Pos),
    K.lookup fI = some ⟨oc, od, .func (fnOf "__init__" qn (iA_index p1 p2) (iB_index q1 q2 q3 q4) iS_index .none .none doc pm an cdv ct), osl⟩ ∧ codeIn K cdv qn = true
section
variable {prog : Program} {w : World} {A : Around} {E : Value → Shared → Prop} {R : Result → Shared → Prop} {s : Shared} {K : Frag} {C B fI : Addr} {bn newId initId : String} {bmB : List Value} {qn : Str}
theorem init_index (T : CF K C B bn newId initId bmB) (T2 : IFc K C fI "index") (T3 : Fn_index K fI qn) {x t0 : Addr} {v : Value} {args : Args} (X : K.In s.heap) (hlim : s.heap.NoLimit) (hx : s.heap.get? x = some (excO C t0)) (hroom : A.depth < recursionLimit)
    (ha : args = ⟨[.ref x, v], []⟩ ∨ args = ⟨[.ref x], [(("index" : Str), v)]⟩)
    (hq : ∀ h' tk dx, InitEnd s.heap h' x C dx t0 "index" v → R (.ok (.ret .none)) { s with heap := h', toks := tk }) :
    codeAny (model prog w) A (.call (.ref fI) args) R s := by
  obtain ⟨oc, od, doc, pm, an, cdv, ct, osl, p1, p2, q1, q2, q3, q4, ho, hcd⟩ := T3
  obtain ⟨nm, q, N, bs, sn, sub, ab, col, dd, k0, k1, k2, k3, k5, hC⟩ := T.cls
  have hcl : clsIn K C = some { name := nm, bases := bs, mro := .ref C :: .ref B :: bmB, ns := N, qualname := q, hasDict := true, slotNames := sn, subclasses := sub, abstract := ab, collection := col, hasDel := false } := by unfold clsIn; rw [hC] <;> rfl
  have hbind : BindsTo s (fnOf "__init__" qn (iA_index p1 p2) (iB_index q1 q2 q3 q4) iS_index .none .none doc pm an cdv ct) args [("self", .ref x), ("index", v)] := by
    rcases ha with rfl | rfl
    · exact BindsTo.of_eq (by first | rfl | with_unfolding_all rfl)
    · exact BindsTo.of_eq (by first | rfl | with_unfolding_all rfl)
  refine Att.call_fn (binds := [("self", .ref x), ("index", v)]) X hlim ho hcd hroom hbind (by first | rfl | decide | with_unfolding_all rfl) (fun s₁ IC => ?_) rfl rfl rfl
  obtain ⟨h₁, tk₁, rfl⟩ := IC.toInCall.same
  have k : ∀ b o, s.heap.get? b = some o → h₁.get? b = some o := IC.toInCall.keep
  have hn := IC.toInCall.ns
  have hxL : s.heap.objs.size ≠ x := Nat.ne_of_gt (Heap.lt_size hx)
  have X₁ : K.In h₁ := X.keeps k
  have hx₁ := k _ _ hx
  show wpAny _ _ (execs _ _) _ _ _
  refine wpAny_execs_cons (plainObj_wpAny_Assign_Attribute ?_)
  refine ldC (v := v) hn (by first | rfl | with_unfolding_all rfl | kernel_rfl) (ldC (v := .ref x) hn (by first | rfl | with_unfolding_all rfl | kernel_rfl) ?_)
  refine set_plain X₁ (ox := excO C t0) (od := none) ⟨hx₁, rfl, rfl, trivial⟩ T2.sa ?_
  have over : excOver K C bmB = true := by
    unfold excOver
    rw [hcl]
    show (C == C && excTail bmB (.ref B :: bmB)) = true
    rw [beq_self_eq_true, Bool.true_and]
    exact T.tail
  have noT : takerIn K C "index" = some none := by
    unfold takerIn
    rw [T2.noN] <;> rfl
  have hdc : hasDictIn K C = true := by
    unfold hasDictIn
    rw [hcl] <;> rfl
  refine first_field (prog := prog) (w := w) (u := v) (f := "index") (tk := tk₁) (x := x) (C := C) (s := { s with heap := h₁, toks := tk₁ + 1 }) T.sto X₁ hx₁ over noT hdc (fun h₃ tk₃ dx k₃ dn dne hx₃ hn₃ => ?_)
  · show wpAny _ _ (execs _ _) _ _ _
    have z : s.heap.objs.size < h₁.objs.size := hn.lt
    exact wpAny_execs_nil (hq h₃ tk₃ dx ⟨fun b o hb e => k₃ b o hb (k b o e), hx₃, Nat.le_of_lt (Nat.lt_of_lt_of_le z dn), dne, hn₃⟩)
theorem made_index (T : CF K C B bn newId initId bmB) (T2 : IFc K C fI "index") (T3 : Fn_index K fI qn) {v : Value} {rest : List Value} {kw : List (Str × Value)} (X : K.In s.heap) (hlim : s.heap.NoLimit) (hroom : A.depth + 1 < recursionLimit)
    (ha : (rest = [v] ∧ kw = []) ∨ (rest = [] ∧ kw = [(("index" : Str), v)]))
    (hq : ∀ h' tk e d t1, Made s.heap h' e C d t1 "index" v → R (.ok (.ret (.ref e))) { s with heap := h', toks := tk }) :
    codeAny (model prog w) A (.call (.ref C) ⟨rest, kw⟩) R s := by
  obtain ⟨nm, q, N, bs, sn, sub, ab, col, dd, k0, k1, k2, k3, k5, hC⟩ := T.cls
  obtain ⟨hp, g, dr, tk, os⟩ := s
  have k : ∀ b o, hp.get? b = some o → ((hp.push (kdv_tup rest)).push (excO C hp.objs.size)).get? b = some o := fun b o e => Heap.get?_push_of_some _ (Heap.get?_push_of_some _ e)
  have hget : ((hp.push (kdv_tup rest)).push (excO C hp.objs.size)).get? (hp.objs.size + 1) = some (excO C hp.objs.size) := by heap_get
  have hrest : rest.length ≤ sizeLine := by
    rcases ha with ⟨rfl, _⟩ | ⟨rfl, _⟩
    · exact one_size v
    · exact Nat.zero_le _
  refine call_kw T.fac (fun Y => List.contains_cons.trans rfl) (X _ _ hC) (looks_findIn X T2.iC) (fun self => bind_fn X self T2.tI) hrest ?_
  refine init_index (s := ⟨(hp.push (kdv_tup rest)).push (excO C hp.objs.size), g, dr, tk, os⟩) (v := v) T T2 T3 (X.keeps k) (hlim.keeps k) hget ?_ ?_ fun h' tk' dx ⟨k', hx, dn, dne, hns⟩ => ?_
  · show A.depth + 1 < recursionLimit
    exact hroom
  · rcases ha with ⟨rfl, rfl⟩ | ⟨rfl, rfl⟩
    · exact .inl rfl
    · exact .inr rfl
  · have old : ∀ b o, hp.get? b = some o → h'.get? b = some o := fun b o e => k' b o (Nat.ne_of_lt (Nat.lt_succ_of_lt (Heap.lt_size e))) (k b o e)
    have z : hp.objs.size + 1 + 1 ≤ dx := by
      first
        | (simpa only [Heap.size_push] using dn)
        | exact dn
        | (have q := dn; rw [Heap.size_push, Heap.size_push] at q; exact q)
    exact ⟨rfl, hq h' tk' (hp.objs.size + 1) dx _ ⟨old, Nat.le_succ _, hx, Nat.le_trans (Nat.le_trans (Nat.le_succ _) (Nat.le_succ _)) z, dne, hns⟩⟩
end

/-! ### the field limit -/
def iA_limit (p1 p2 : Pos) : Arguments := { posonlyargs := [], args := [{ arg := "self", annotation := none, pos := p1 }, { arg := "limit", annotation := none, pos := p2 }], vararg := none, kwonlyargs := [], kw_defaults := [], kwarg := none, defaults := [] }
def iB_limit (q1 q2 q3 q4 : Pos) : List Stmt := [.Assign [.Attribute (.Name "self" q1) "limit" q2] (.Name "limit" q3) q4]
def iS_limit : Scope := { kind := .function, names := [(PySem.Str.ofString "self", .local), (PySem.Str.ofString "limit", .local)], isGenerator := false, isCoroutine := false, more := [] }
def Fn_limit (K : Frag) (fI : Addr) (qn : Str) : Prop := ∃ (oc : Value) (od : Option Addr) (doc pm : Value) (an : Option Addr) (cdv ct : Value) (osl : Array (Option Value)) (p1 p2 q1 q2 q3 q4 : Pos),
    K.lookup fI = some ⟨oc, od, .func (fnOf "__init__" qn (iA_limit p1 p2) (iB_limit q1 q2 q3 q4) iS_limit .none .none doc pm an cdv ct), osl⟩ ∧ codeIn K cdv qn = true
section
variable {prog : Program} {w : World} {A : Around} {E : Value → Shared → Prop} {R : Result → Shared → Prop} {s : Shared} {K : Frag} {C B fI : Addr} {bn newId initId : String} {bmB : List Value} {qn : Str}
theorem init_limit (T : CF K C B bn newId initId bmB) (T2 : IFc K C fI "limit") (T3 : Fn_limit K fI qn) {x t0 : Addr} {v : Value} {args : Args} (X : K.In s.heap) (hlim : s.heap.NoLimit) (hx : s.heap.get? x = some (excO C t0)) (hroom : A.depth < recursionLimit)
    (ha : args = ⟨[.ref x, v], []⟩ ∨ args = ⟨[.ref x], [(("limit" : Str), v)]⟩)
    (hq : ∀ h' tk dx, InitEnd s.heap h' x C dx t0 "limit" v → R (.ok (.ret .none)) { s with heap := h', toks := tk }) :
    codeAny (model prog w) A (.call (.ref fI) args) R s := by
  obtain ⟨oc, od, doc, pm, an, cdv, ct, osl, p1, p2, q1, q2, q3, q4, ho, hcd⟩ := T3
  obtain ⟨nm, q, N, bs, sn, sub, ab, col, dd, k0, k1, k2, k3, k5, hC⟩ := T.cls
  have hcl : clsIn K C = some { name := nm, bases := bs, mro := .ref C :: .ref B :: bmB, ns := N, qualname := q, hasDict := true, slotNames := sn, subclasses := sub, abstract := ab, collection := col, hasDel := false } := by unfold clsIn; rw [hC] <;> rfl
  have hbind : BindsTo s (fnOf "__init__" qn (iA_limit p1 p2) (iB_limit q1 q2 q3 q4) iS_limit .none .none doc pm an cdv ct) args [("self", .ref x), ("limit", v)] := by
    rcases ha with rfl | rfl
    · exact BindsTo.of_eq (by first | rfl | with_unfolding_all rfl)
    · exact BindsTo.of_eq (by first | rfl | with_unfolding_all rfl)
  refine Att.call_fn (binds := [("self", .ref x), ("limit", v)]) X hlim ho hcd hroom hbind (by first | rfl | decide | with_unfolding_all rfl) (fun s₁ IC => ?_) rfl rfl rfl
  obtain ⟨h₁, tk₁, rfl⟩ := IC.toInCall.same
  have k : ∀ b o, s.heap.get? b = some o → h₁.get? b = some o := IC.toInCall.keep
  have hn := IC.toInCall.ns
  have hxL : s.heap.objs.size ≠ x := Nat.ne_of_gt (Heap.lt_size hx)
  have X₁ : K.In h₁ := X.keeps k
  have hx₁ := k _ _ hx
  show wpAny _ _ (execs _ _) _ _ _
  refine wpAny_execs_cons (plainObj_wpAny_Assign_Attribute ?_)
  refine ldC (v := v) hn (by first | rfl | with_unfolding_all rfl | kernel_rfl) (ldC (v := .ref x) hn (by first | rfl | with_unfolding_all rfl | kernel_rfl) ?_)
  refine set_plain X₁ (ox := excO C t0) (od := none) ⟨hx₁, rfl, rfl, trivial⟩ T2.sa ?_
  have over : excOver K C bmB = true := by
    unfold excOver
    rw [hcl]
    show (C == C && excTail bmB (.ref B :: bmB)) = true
    rw [beq_self_eq_true, Bool.true_and]
    exact T.tail
  have noT : takerIn K C "limit" = some none := by
    unfold takerIn
    rw [T2.noN] <;> rfl
  have hdc : hasDictIn K C = true := by
    unfold hasDictIn
    rw [hcl] <;> rfl
  refine first_field (prog := prog) (w := w) (u := v) (f := "limit") (tk := tk₁) (x := x) (C := C) (s := { s with heap := h₁, toks := tk₁ + 1 }) T.sto X₁ hx₁ over noT hdc (fun h₃ tk₃ dx k₃ dn dne hx₃ hn₃ => ?_)
  · show wpAny _ _ (execs _ _) _ _ _
    have z : s.heap.objs.size < h₁.objs.size := hn.lt
    exact wpAny_execs_nil (hq h₃ tk₃ dx ⟨fun b o hb e => k₃ b o hb (k b o e), hx₃, Nat.le_of_lt (Nat.lt_of_lt_of_le z dn), dne, hn₃⟩)
theorem made_limit (T : CF K C B bn newId initId bmB) (T2 : IFc K C fI "limit") (T3 : Fn_limit K fI qn) {v : Value} {rest : List Value} {kw : List (Str × Value)} (X : K.In s.heap) (hlim : s.heap.NoLimit) (hroom : A.depth + 1 < recursionLimit)
    (ha : (rest = [v] ∧ kw = []) ∨ (rest = [] ∧ kw = [(("limit" : Str), v)]))
    (hq : ∀ h' tk e d t1, Made s.heap h' e C d t1 "limit" v → R (.ok (.ret (.ref e))) { s with heap := h', toks := tk }) :
    codeAny (model prog w) A (.call (.ref C) ⟨rest, kw⟩) R s := by
  obtain ⟨nm, q, N, bs, sn, sub, ab, col, dd, k0, k1, k2, k3, k5, hC⟩ := T.cls
  obtain ⟨hp, g, dr, tk, os⟩ := s
  have k : ∀ b o, hp.get? b = some o → ((hp.push (kdv_tup rest)).push (excO C hp.objs.size)).get? b = some o := fun b o e => Heap.get?_push_of_some _ (Heap.get?_push_of_some _ e)
  have hget : ((hp.push (kdv_tup rest)).push (excO C hp.objs.size)).get? (hp.objs.size + 1) = some (excO C hp.objs.size) := by heap_get
  have hrest : rest.length ≤ sizeLine := by
    rcases ha with ⟨rfl, _⟩ | ⟨rfl, _⟩
    · exact one_size v
    · exact Nat.zero_le _
  refine call_kw T.fac (fun Y => List.contains_cons.trans rfl) (X _ _ hC) (looks_findIn X T2.iC) (fun self => bind_fn X self T2.tI) hrest ?_
  refine init_limit (s := ⟨(hp.push (kdv_tup rest)).push (excO C hp.objs.size), g, dr, tk, os⟩) (v := v) T T2 T3 (X.keeps k) (hlim.keeps k) hget ?_ ?_ fun h' tk' dx ⟨k', hx, dn, dne, hns⟩ => ?_
  · show A.depth + 1 < recursionLimit
    exact hroom
  · rcases ha with ⟨rfl, rfl⟩ | ⟨rfl, rfl⟩
    · exact .inl rfl
    · exact .inr rfl
  · have old : ∀ b o, hp.get? b = some o → h'.get? b = some o := fun b o e => k' b o (Nat.ne_of_lt (Nat.lt_succ_of_lt (Heap.lt_size e))) (k b o e)
    have z : hp.objs.size + 1 + 1 ≤ dx := by
      first
        | (simpa only [Heap.size_push] using dn)
        | exact dn
        | (have q := dn; rw [Heap.size_push, Heap.size_push] at q; exact q)
    exact ⟨rfl, hq h' tk' (hp.objs.size + 1) dx _ ⟨old, Nat.le_succ _, hx, Nat.le_trans (Nat.le_trans (Nat.le_succ _) (Nat.le_succ _)) z, dne, hns⟩⟩
end
end XV
end PySem

namespace L2
open PySem PySem.Spec PyProof.Rows
/-- at a an exception of the class at C: no dict yet, or one that is tracked, too -/
def ExcAt (H : Hp) (a C : Addr) : Prop := H a = some (exo a C none) ∨ ∃ d fs, H a = some (exo a C (some d)) ∧ H d = some (exd d fs)
theorem ExcAt.same {H H' : Hp} {a C : Addr} (h : ExcAt H a C) (q : ∀ b o, H b = some o → H' b = some o) : ExcAt H' a C := by
  rcases h with h | ⟨d, fs, h1, h2⟩
  · exact .inl (q _ _ h)
  · exact .inr ⟨d, fs, q _ _ h1, q _ _ h2⟩
section
variable {X : Cx} {pins : List (Addr × Obj)} {σ : St} {H : Hp} {s : Shared}
theorem ExcAt.inst {a C : Addr} (I : Inv X pins σ H s) (h : ExcAt H a C) : ∃ ox od, PySem.W.InstAt s.heap a ox C od := by
  rcases h with h | ⟨d, fs, h1, h2⟩
  · obtain ⟨t1, e⟩ := exo_at I.hok h
    exact ⟨_, none, e, rfl, rfl, trivial⟩
  · obtain ⟨t1, e⟩ := exo_at I.hok h1
    obtain ⟨mA, hns, _⟩ := exd_at I.hok h2
    obtain ⟨od, ho, _⟩ := lookIn_ns hns
    exact ⟨_, some od, e, rfl, rfl, ho⟩
/-- isinstance(e, c) of such an exception -/
def rIsX (K : PySem.W.Frag) : List V → Hp → VK → Prop := fun xs H Q => ∃ (a C : Addr) (c : V) (u : Value) (b : Bool), xs = [.ref a, c] ∧ ExcAt H a C ∧ ExcC K C ∧ ClsV c u ∧ PySem.W.kitOne K (.ref C) u = some b ∧ Q (.bl b) H
end
section
variable {X : Cx}
theorem call_isX : CallR X (.builtin "isinstance") (rIsX X.K) := by
  intro pins s σ H xs us Q I r h
  obtain ⟨a, D, c, u, b, rfl, he, C, k, e, q⟩ := h
  obtain ⟨u1, u2, rfl, r1, r2⟩ := vals2 r
  have e2 := k.eq r2
  subst e2
  cases (show u1 = Value.ref a from r1)
  obtain ⟨ox, od, J⟩ := he.inst I
  exact PySem.W.kia_one (PySem.W.kitx_exc (by obtain ⟨cd, hc, _⟩ := PySem.W.any_some C.hd; rw [hc]; rfl) C.hg C.hk C.hs C.ha C.hn C.ht C.hm) I.kIn J e (fun z => nomatch z) fun tk => ⟨.bl b, H, I.tok tk, rfl, q⟩
/-- e.f of such an exception -/
def tExF (K : PySem.W.Frag) (f : Str) (te : TE) : TE := fun σ H Q => te σ H fun x H1 => ∃ (a C d : Addr) (v : V) (fs : List (Str × V)), x = .ref a ∧ ExcC K C ∧ PySem.W.findIn K (.ref C) f = some none ∧ H1 a = some (exo a C (some d)) ∧ H1 d = some (exd d fs) ∧ fs.lookup f = some v ∧ Q v H1
theorem pe_exf {e : Expr} {te : TE} {f : Str} {pos : Pos} (he : PE X e te) (hb : attributeBase e f X.env (eval e X.env) = eval e X.env := by rfl) : PE X (.Attribute e f pos) (tExF X.K f te) := by
  refine ⟨fun pins s σ H Q I h => ?_⟩
  refine attr_of hb (thn (he.run pins s σ H _ I h) fun u s1 hh => ?_)
  obtain ⟨x, H1, I1, rx, a, C, d, v, fs, ex, T, hno, ea, ed, hl, q⟩ := hh
  subst ex
  obtain rfl : u = Value.ref a := rx
  obtain ⟨t1, ho⟩ := exo_at I1.hok ea
  obtain ⟨mA, hns, rel⟩ := exd_at I1.hok ed
  obtain ⟨od, hod, hlk⟩ := lookIn_ns hns
  obtain ⟨y, hy, ry⟩ := RelO.some_of (v := v) (o := mA f) (by rw [← hl]; exact rel f)
  have J : PySem.W.InstAt s1.heap a { cls := .ref C, dict := some d, data := .fields #[.ref t1, .none, .none, .none, .bool false, .none] } C (some od) := ⟨ho, rfl, rfl, hod⟩
  exact HandSPX.exc_get I1.kIn J T.hg T.hk T.hs (PySem.W.findObj_own T.hd hno rfl (by rw [hlk, hy])) (handed_of ry) ⟨v, H1, I1.tok _, ry, q⟩
/-- a new exception of the class C whose field f holds what e gives -/
def tExV (C : Addr) (f : Str) (ta : TA) : TE := fun σ H Q => ta σ H fun vs H1 => ∃ v, vs = [v] ∧ ∀ a d, H1 a = none → H1 d = none → d ≠ a → Q (.ref a) (upd (upd H1 d (exd d [(f, v)])) a (exo a C (some d)))
theorem exv_end {pins : List (Addr × Obj)} {σ : St} {H1 : Hp} {hp h' : Heap} {g : Array GenState} {dr : Drawn} {tk tk' : Nat} {os : OsState} {e d C t1 : Addr} {f : Str} {y : V} {u : Value} {Q : VK}
    (I : Inv X pins σ H1 ⟨hp, g, dr, tk, os⟩) (M : PySem.XV.Made hp h' e C d t1 f u) (ry : RelV y u) (q : ∀ a d, H1 a = none → H1 d = none → d ≠ a → Q (.ref a) (upd (upd H1 d (exd d [(f, y)])) a (exo a C (some d)))) :
    EP X pins σ Q (.ref e) ⟨h', g, dr, tk', os⟩ := by
  have hne : H1 e = none := I.hok.fresh M.new
  have hnd : H1 d = none := I.hok.fresh M.dbig
  have nd : ∀ {b : Addr} {o : Obj}, hp.get? b = some o → b ≠ d := fun {b o} z => Nat.ne_of_lt (Nat.lt_of_lt_of_le (Heap.lt_size z) M.dbig)
  have ne : ∀ {b : Addr} {o : Obj}, hp.get? b = some o → b ≠ e := fun {b o} z => Nat.ne_of_lt (Nat.lt_of_lt_of_le (Heap.lt_size z) M.new)
  have U : Un X.fs [] H1 (upd (upd H1 d (exd d [(f, y)])) e (exo e C (some d))) hp h' := {
    keep := fun b o z n _ _ => M.keep b o z
    slot := fun b o z n _ _ => ⟨o.slots, M.keep b o z⟩
    free := fun b o z n _ => by rw [upd_ne (ne z), upd_ne (nd z)]; exact n
    there := fun b o z _ => ⟨o, M.keep b o z⟩
    tups := fun b xs z => by rw [upd_ne (ne_of_none z hne), upd_ne (ne_of_none z hnd)]; exact z
    frzs := fun b o v z => by rw [upd_ne (ne_of_none z hne), upd_ne (ne_of_none z hnd)]; exact z
    tbls := fun b ps z => ⟨#[], by rw [upd_ne (ne_of_none z hne), upd_ne (ne_of_none z hnd), z]; simp⟩ }
  have J : Inv X pins σ (upd (upd H1 d (exd d [(f, y)])) e (exo e C (some d))) ⟨h', g, dr, tk', os⟩ := by
    refine I.un (t' := tk') U fun b o z => ?_
    by_cases hb : b = e
    · subst hb
      rw [upd_same] at z
      cases z
      exact exo_ok M.obj
    · rw [upd_ne hb] at z
      by_cases hd : b = d
      · subst hd
        rw [upd_same] at z
        cases z
        exact exd_ok M.ns (relO_put (fs := []) ry fun g => True.intro)
      · rw [upd_ne hd] at z
        exact (I.hok b o z).stay (fun c v _ w => M.keep c v w) (fun c hc => by rw [upd_ne (ne_of_none hc hne), upd_ne (ne_of_none hc hnd)]; exact hc) (fun c xs hc => by rw [upd_ne (ne_of_none hc hne), upd_ne (ne_of_none hc hnd)]; exact hc)
  exact ⟨.ref e, _, J, rfl, q e d hne hnd M.dne⟩
end
section
variable {X : Cx} {C B fI : Addr} {bn newId initId : String} {bmB : List Value} {qn x : Str} {k : Nat} {a : Expr} {ta : TA} {p pos kpos : Pos}
/-- C(), no own __init__ -/
theorem pe_exv0 (F : ExcBaseFacts bn newId initId bmB) (q : PySem.W.excIn X.K C bmB newId = true) (kC : PySem.W.keepIn X.K (.ref C) = true) (hg : Gl X x) (hm : X.mg x = some (.ref C)) (hdb : (x == ("__debug__" : Str)) = false := by decide) :
    PE X (.Call (.Name x p) [] [] pos) (fun σ H Q => ∀ a, H a = none → Q (.ref a) (upd H a (exo a C none))) := by
  refine ⟨fun pins s σ H Q I h => ?_⟩
  refine wpAny_Call_Name_kw (ld_glob I hg hm ?_ hdb)
  refine PySem.W.callWith_K0 I.kIn kC ?_
  show wpAny _ _ (call (.ref C) []) _ _ _
  obtain ⟨bm, N, nm, qn, bs, hdct, sn, sub, ab, col, dd, k0, k1, k2, k3, k5, mN, hC, hN, hni, T⟩ := exc_obj I.kIn q
  obtain ⟨hp, g, d, t, os⟩ := s
  refine wpAny_call_exc_subT F T hC hN hni (fun h' a hm => ?_) (Nat.zero_le _)
  have hn : H a = none := I.hok.gone hm.new
  obtain ⟨t, ht, _, _⟩ := hm.there
  exact ⟨.ref a, upd H a (exo a C none), I.laidN hm.keeps hm.new hn (exo_ok ht), rfl, h a hn⟩

/-- C(e) -/
theorem pe_exv_value (T : PySem.XV.CF X.K C B bn newId initId bmB) (T2 : PySem.XV.IFc X.K C fI "value") (T3 : PySem.XV.Fn_value X.K fI qn) (hr : Room k X.A) (hg : Gl X x) (hm : X.mg x = some (.ref C)) (ha : PA X [a] ta) (hdb : (x == ("__debug__" : Str)) = false := by decide)
    (he : starEach (a :: []) X.env = (false, eval a X.env) :: starEach [] X.env := by rfl) (hpl : (backTo pos (starEach [] X.env)).any (·.1) = false := by rfl) :
    PE X (.Call (.Name x p) [a] [] pos) (tExV C "value" ta) := by
  refine ⟨fun pins s σ H Q I h => ?_⟩
  refine wpAny_Call_Name_kw (ld_glob I hg hm ?_ hdb)
  refine PySem.W.callWith_K (h₀ := X.base) I.ok.mod.kin T.kC (thn (ha.run pos pins s σ H _ I h) fun us s1 hh => ?_) he hpl
  obtain ⟨vs, H1, I1, r1, v, ev, q1⟩ := hh
  subst ev
  refine ⟨I1.kIn, ?_⟩
  cases r1 with
  | cons rv rn =>
    rename_i v' us'
    cases rn
    show wpAny _ _ (call (.ref C) [v']) _ _ _
    have hlim := I1.nolimit
    obtain ⟨hp, g, dr, tk, os⟩ := s1
    refine wpAny_call (PySem.XV.made_value T T2 T3 (v := v') I1.kIn hlim (by have := hr.dp; omega) (.inl ⟨rfl, rfl⟩) fun h' tk' e d t1 M => ?_)
    exact exv_end I1 M rv q1
/-- C(value=e) -/
theorem pe_exk_value (T : PySem.XV.CF X.K C B bn newId initId bmB) (T2 : PySem.XV.IFc X.K C fI "value") (T3 : PySem.XV.Fn_value X.K fI qn) (hr : Room k X.A) (hg : Gl X x) (hm : X.mg x = some (.ref C)) (ha : PK X [⟨some "value", a, kpos⟩] ta) (hdb : (x == ("__debug__" : Str)) = false := by decide)
    (hall : (backToKw pos (keywordEach [⟨some "value", a, kpos⟩] X.env)).all (·.1.isSome) = true := by rfl) (hks : (backToKw pos (keywordEach [⟨some "value", a, kpos⟩] X.env)).filterMap (·.1) = [("value" : Str)] := by rfl)
    (hpl : ((backTo pos (starEach [] X.env)).any (·.1) || (backToKw pos (keywordEach [⟨some "value", a, kpos⟩] X.env)).any (·.1.isNone)) = false := by rfl) :
    PE X (.Call (.Name x p) [] [⟨some "value", a, kpos⟩] pos) (tExV C "value" ta) := by
  refine ⟨fun pins s σ H Q I h => ?_⟩
  refine wpAny_Call_Name_kw (ld_glob I hg hm ?_ hdb)
  refine PySem.W.callWith_KW0 (h₀ := X.base) I.ok.mod.kin T.kC hall ?_ hpl
  refine thn (ha.run pos pins s σ H _ I h) fun ws s1 hh => ?_
  obtain ⟨vs, H1, I1, r1, v, ev, q1⟩ := hh
  subst ev
  refine ⟨I1.kIn, ?_⟩
  rw [hks]
  cases r1 with
  | cons rv rn =>
    rename_i v' us'
    cases rn
    show wpAny _ _ (call (.ref C) [] [(("value" : Str), v')]) _ _ _
    have hlim := I1.nolimit
    obtain ⟨hp, g, dr, tk, os⟩ := s1
    refine wpAny_call (PySem.XV.made_value T T2 T3 (v := v') I1.kIn hlim (by have := hr.dp; omega) (.inr ⟨rfl, rfl⟩) fun h' tk' e d t1 M => ?_)
    exact exv_end I1 M rv q1

/-- C(e) -/
theorem pe_exv_index (T : PySem.XV.CF X.K C B bn newId initId bmB) (T2 : PySem.XV.IFc X.K C fI "index") (T3 : PySem.XV.Fn_index X.K fI qn) (hr : Room k X.A) (hg : Gl X x) (hm : X.mg x = some (.ref C)) (ha : PA X [a] ta) (hdb : (x == ("__debug__" : Str)) = false := by decide)
    (he : starEach (a :: []) X.env = (false, eval a X.env) :: starEach [] X.env := by rfl) (hpl : (backTo pos (starEach [] X.env)).any (·.1) = false := by rfl) :
    PE X (.Call (.Name x p) [a] [] pos) (tExV C "index" ta) := by
  refine ⟨fun pins s σ H Q I h => ?_⟩
  refine wpAny_Call_Name_kw (ld_glob I hg hm ?_ hdb)
  refine PySem.W.callWith_K (h₀ := X.base) I.ok.mod.kin T.kC (thn (ha.run pos pins s σ H _ I h) fun us s1 hh => ?_) he hpl
  obtain ⟨vs, H1, I1, r1, v, ev, q1⟩ := hh
  subst ev
  refine ⟨I1.kIn, ?_⟩
  cases r1 with
  | cons rv rn =>
    rename_i v' us'
    cases rn
    show wpAny _ _ (call (.ref C) [v']) _ _ _
    have hlim := I1.nolimit
    obtain ⟨hp, g, dr, tk, os⟩ := s1
    refine wpAny_call (PySem.XV.made_index T T2 T3 (v := v') I1.kIn hlim (by have := hr.dp; omega) (.inl ⟨rfl, rfl⟩) fun h' tk' e d t1 M => ?_)
    exact exv_end I1 M rv q1
/-- C(index=e) -/
theorem pe_exk_index (T : PySem.XV.CF X.K C B bn newId initId bmB) (T2 : PySem.XV.IFc X.K C fI "index") (T3 : PySem.XV.Fn_index X.K fI qn) (hr : Room k X.A) (hg : Gl X x) (hm : X.mg x = some (.ref C)) (ha : PK X [⟨some "index", a, kpos⟩] ta) (hdb : (x == ("__debug__" : Str)) = false := by decide)
    (hall : (backToKw pos (keywordEach [⟨some "index", a, kpos⟩] X.env)).all (·.1.isSome) = true := by rfl) (hks : (backToKw pos (keywordEach [⟨some "index", a, kpos⟩] X.env)).filterMap (·.1) = [("index" : Str)] := by rfl)
    (hpl : ((backTo pos (starEach [] X.env)).any (·.1) || (backToKw pos (keywordEach [⟨some "index", a, kpos⟩] X.env)).any (·.1.isNone)) = false := by rfl) :
    PE X (.Call (.Name x p) [] [⟨some "index", a, kpos⟩] pos) (tExV C "index" ta) := by
  refine ⟨fun pins s σ H Q I h => ?_⟩
  refine wpAny_Call_Name_kw (ld_glob I hg hm ?_ hdb)
  refine PySem.W.callWith_KW0 (h₀ := X.base) I.ok.mod.kin T.kC hall ?_ hpl
  refine thn (ha.run pos pins s σ H _ I h) fun ws s1 hh => ?_
  obtain ⟨vs, H1, I1, r1, v, ev, q1⟩ := hh
  subst ev
  refine ⟨I1.kIn, ?_⟩
  rw [hks]
  cases r1 with
  | cons rv rn =>
    rename_i v' us'
    cases rn
    show wpAny _ _ (call (.ref C) [] [(("index" : Str), v')]) _ _ _
    have hlim := I1.nolimit
    obtain ⟨hp, g, dr, tk, os⟩ := s1
    refine wpAny_call (PySem.XV.made_index T T2 T3 (v := v') I1.kIn hlim (by have := hr.dp; omega) (.inr ⟨rfl, rfl⟩) fun h' tk' e d t1 M => ?_)
    exact exv_end I1 M rv q1

/-- C(e) -/
theorem pe_exv_limit (T : PySem.XV.CF X.K C B bn newId initId bmB) (T2 : PySem.XV.IFc X.K C fI "limit") (T3 : PySem.XV.Fn_limit X.K fI qn) (hr : Room k X.A) (hg : Gl X x) (hm : X.mg x = some (.ref C)) (ha : PA X [a] ta) (hdb : (x == ("__debug__" : Str)) = false := by decide)
    (he : starEach (a :: []) X.env = (false, eval a X.env) :: starEach [] X.env := by rfl) (hpl : (backTo pos (starEach [] X.env)).any (·.1) = false := by rfl) :
    PE X (.Call (.Name x p) [a] [] pos) (tExV C "limit" ta) := by
  refine ⟨fun pins s σ H Q I h => ?_⟩
  refine wpAny_Call_Name_kw (ld_glob I hg hm ?_ hdb)
  refine PySem.W.callWith_K (h₀ := X.base) I.ok.mod.kin T.kC (thn (ha.run pos pins s σ H _ I h) fun us s1 hh => ?_) he hpl
  obtain ⟨vs, H1, I1, r1, v, ev, q1⟩ := hh
  subst ev
  refine ⟨I1.kIn, ?_⟩
  cases r1 with
  | cons rv rn =>
    rename_i v' us'
    cases rn
    show wpAny _ _ (call (.ref C) [v']) _ _ _
    have hlim := I1.nolimit
    obtain ⟨hp, g, dr, tk, os⟩ := s1
    refine wpAny_call (PySem.XV.made_limit T T2 T3 (v := v') I1.kIn hlim (by have := hr.dp; omega) (.inl ⟨rfl, rfl⟩) fun h' tk' e d t1 M => ?_)
    exact exv_end I1 M rv q1
/-- C(limit=e) -/
theorem pe_exk_limit (T : PySem.XV.CF X.K C B bn newId initId bmB) (T2 : PySem.XV.IFc X.K C fI "limit") (T3 : PySem.XV.Fn_limit X.K fI qn) (hr : Room k X.A) (hg : Gl X x) (hm : X.mg x = some (.ref C)) (ha : PK X [⟨some "limit", a, kpos⟩] ta) (hdb : (x == ("__debug__" : Str)) = false := by decide)
    (hall : (backToKw pos (keywordEach [⟨some "limit", a, kpos⟩] X.env)).all (·.1.isSome) = true := by rfl) (hks : (backToKw pos (keywordEach [⟨some "limit", a, kpos⟩] X.env)).filterMap (·.1) = [("limit" : Str)] := by rfl)
    (hpl : ((backTo pos (starEach [] X.env)).any (·.1) || (backToKw pos (keywordEach [⟨some "limit", a, kpos⟩] X.env)).any (·.1.isNone)) = false := by rfl) :
    PE X (.Call (.Name x p) [] [⟨some "limit", a, kpos⟩] pos) (tExV C "limit" ta) := by
  refine ⟨fun pins s σ H Q I h => ?_⟩
  refine wpAny_Call_Name_kw (ld_glob I hg hm ?_ hdb)
  refine PySem.W.callWith_KW0 (h₀ := X.base) I.ok.mod.kin T.kC hall ?_ hpl
  refine thn (ha.run pos pins s σ H _ I h) fun ws s1 hh => ?_
  obtain ⟨vs, H1, I1, r1, v, ev, q1⟩ := hh
  subst ev
  refine ⟨I1.kIn, ?_⟩
  rw [hks]
  cases r1 with
  | cons rv rn =>
    rename_i v' us'
    cases rn
    show wpAny _ _ (call (.ref C) [] [(("limit" : Str), v')]) _ _ _
    have hlim := I1.nolimit
    obtain ⟨hp, g, dr, tk, os⟩ := s1
    refine wpAny_call (PySem.XV.made_limit T T2 T3 (v := v') I1.kIn hlim (by have := hr.dp; omega) (.inr ⟨rfl, rfl⟩) fun h' tk' e d t1 M => ?_)
    exact exv_end I1 M rv q1
end
end L2

namespace L2
open PySem PySem.Spec PyProof.Rows
/-! ### xs.count(True) of truth values -/
def xvEqT (v : Value) : Bool := match v with
  | .bool b => b
  | _ => false
theorem xv_bools : ∀ {bs : List Bool} {us : List Value}, Vals (bs.map V.bl) us → us = bs.map Value.bool
  | [], us, r => by
    cases r
    rfl
  | b :: bs, us, r => by
    cases r with
    | cons h t =>
      cases (show _ = Value.bool b from h)
      rw [xv_bools t]
      rfl
theorem xv_count : ∀ bs : List Bool, (bs.map Value.bool).countP xvEqT = bs.count true
  | [] => rfl
  | b :: bs => by
    rw [List.map_cons, List.countP_cons, List.count_cons, xv_count bs]
    cases b <;> rfl
section
variable {X : Cx}
def rCntB (K : PySem.W.Frag) : V → List V → Hp → VK → Prop := fun x xs H Q => ∃ (p : Addr) (bs : List Bool), x = .ref p ∧ xs = [.bl true] ∧ SqL K H p (bs.map V.bl) ∧ Q (.int (bs.count true : Nat)) H
theorem mt_lcountB : MtR X "list.count" (rCntB X.K) := by
  intro pins s σ H x xs v us Q I rx rxs h
  obtain ⟨p, bs, rfl, rfl, hs, q⟩ := h
  cases rx
  obtain ⟨u, rfl, ru⟩ := rxs.one
  cases (show u = Value.bool true from ru)
  obtain ⟨its, rv, ⟨⟨cls, dd, data, sl⟩, n, ho, hc, hdn, hd⟩, hlen⟩ := I.list hs
  simp only at hc hd
  subst hc hd
  have hi := xv_bools rv
  refine call_meets PySem.F.slot_list_count ⟨_, ho, rfl⟩ PySem.F.entry_list_count (PySem.F.args_list_count_2 _ _)
    (SeqAt.list_countAt p its.toArray n dd sl (.bool true) xvEqT) ⟨ho, fun y hy => ?_, ?_⟩
  · have hy' : y ∈ its := by simpa using hy
    rw [hi] at hy'
    obtain ⟨b, _, rfl⟩ := List.mem_map.mp hy'
    have z := SeqAt.EqAt.bool_bool (A := X.A.in1) (s := s) b true
    have e : (b == true) = xvEqT (.bool b) := by cases b <;> rfl
    rw [← e]
    exact z
  · have ec : its.toArray.toList.countP xvEqT = bs.count true := by
      show its.countP xvEqT = bs.count true
      rw [hi, xv_count]
    refine ⟨.int (bs.count true : Nat), H, I.tok _, ⟨s.toks, ?_⟩, q⟩
    show Value.int ((its.toArray.toList.countP xvEqT : Nat) : Int) s.toks = Value.int ((bs.count true : Nat) : Int) s.toks
    rw [ec]
end
/-! ### the things that an error is made with -/
inductive Thing (H : Hp) : V → Prop
  | int (i : Int) : Thing H (.int i)
  | str (x : Str) : Thing H (.str x)
  | non : Thing H .non
  | bl (b : Bool) : Thing H (.bl b)
  | tup (a : Addr) (i j : Int) : H a = some (.tup [.int i, .int j]) → Thing H (.ref a)
  | lst (a : Addr) (i : Int) : H a = some (.lst [.int i]) → Thing H (.ref a)
  | dic (a : Addr) : H a = some (.dK []) → Thing H (.ref a)
theorem Thing.same {H H' : Hp} {v : V} (h : Thing H v) (q : Same H H') : Thing H' v := by
  cases h with
  | int i => exact .int i
  | str x => exact .str x
  | non => exact .non
  | bl b => exact .bl b
  | tup a i j e => exact .tup a i j (q _ _ e)
  | lst a i e => exact .lst a i (q _ _ e)
  | dic a e => exact .dic a (q _ _ e)
/-- whether it is a truth -/
def isB : V → Bool
  | .bl _ => true
  | _ => false
theorem Thing.ty {K : PySem.W.Frag} {H : Hp} {v : V} (h : Thing H v) : ∃ t, TyX K H v t ∧ PySem.W.kitOne K t (.type "bool") = some (isB v) := by
  cases h with
  | int i => exact ⟨_, .base (.int i), kit_ty (show kitB "int" "bool" = some false by decide +kernel)⟩
  | str x => exact ⟨_, .base (.str x), kit_ty (show kitB "str" "bool" = some false by decide +kernel)⟩
  | non => exact ⟨_, .base .non, kit_ty (show kitB "NoneType" "bool" = some false by decide +kernel)⟩
  | bl b => exact ⟨_, .base (.bl b), kit_ty (show kitB "bool" "bool" = some true by decide +kernel)⟩
  | tup a i j e => exact ⟨_, .base (.tup e), kit_ty (show kitB "tuple" "bool" = some false by decide +kernel)⟩
  | lst a i e => exact ⟨_, .base (.lst e), kit_ty (show kitB "list" "bool" = some false by decide +kernel)⟩
  | dic a e => exact ⟨_, .base (.dK e), kit_ty (show kitB "dict" "bool" = some false by decide +kernel)⟩
section
variable {X : Cx}
def rSelf : R2 := fun x y H Q => y = x ∧ Thing H x ∧ Q (.bl true) H
theorem op_eqSelf (hu : X.A.units + 64 < cLine) : OpR X (compareOp .Eq) rSelf := by
  intro pins s σ H x y v u Q I rx ry h
  obtain ⟨rfl, hT, q⟩ := h
  have flat : scal y y = true → wpAny (model X.prog X.w) X.A (compareOp .Eq v u) (EP X pins σ Q) X.xe s := fun hs =>
    op_eq pins s σ H y y v u Q I rx ry ⟨hs, by rw [decide_eq_true rfl]; exact q⟩
  cases hT with
  | int i => exact flat rfl
  | str x => exact flat rfl
  | non => exact flat rfl
  | bl b => exact flat rfl
  | tup a i j e =>
    refine op_eqD hu pins s σ H _ _ v u Q I rx ry ⟨.tuple [.int i, .int j], .tuple [.int i, .int j], .tup (SqT.of e) (.cons (.int i) (.cons (.int j) .nil)), .tup (SqT.of e) (.cons (.int i) (.cons (.int j) .nil)), rfl, rfl, ?_⟩
    rw [show PyData.eqv (.tuple [.int i, .int j]) (.tuple [.int i, .int j]) = true by simp [PyData.eqv, PyData.eqvAll]]
    exact q
  | lst a i e =>
    refine op_eqD hu pins s σ H _ _ v u Q I rx ry ⟨.list [.int i], .list [.int i], .lst (SqL.of e) (.cons (.int i) .nil), .lst (SqL.of e) (.cons (.int i) .nil), rfl, rfl, ?_⟩
    rw [show PyData.eqv (.list [.int i]) (.list [.int i]) = true by simp [PyData.eqv, PyData.eqvAll]]
    exact q
  | dic a e =>
    exact op_eq_dict (by omega) pins s σ H _ _ v u Q I rx ry ⟨a, a, [], rfl, rfl, e, e, List.nodup_nil, (fun p hp => nomatch hp), q⟩
end
/-! ### growing a list by a display -/
theorem grow_k {H : Hp} {p : Addr} {xs ys : List V} {Q : VK} (hp : H p = some (.lst xs)) (h1 : xs.length ≤ 1000) (h2 : ys.length ≤ 1000) (q : ∀ H2 r, Same H H2 → H r = none → H2 r = some (.lst (xs ++ ys)) → Q (.ref r) H2) :
    ys.length ≤ sizeLine ∧ ∀ l, H l = none → rCat (.ref p) (.ref l) (upd H l (.lst ys)) Q := by
  refine ⟨Nat.le_of_lt (small1000 h2), fun l hl => ?_⟩
  have npl : p ≠ l := ne_of_none hp hl
  refine ⟨p, l, xs, ys, rfl, rfl, by rw [upd_ne npl]; exact hp, upd_same, ?_, fun r hr => ?_⟩
  · have z : 2000 ≤ sizeLine := by decide
    omega
  · have nrl : r ≠ l := fun z => by
      rw [z, upd_same] at hr
      cases hr
    have hr0 : H r = none := by
      rw [upd_ne nrl] at hr
      exact hr
    refine q _ r (fun b o e => ?_) hr0 upd_same
    rw [upd_ne (ne_of_none e hr0), upd_ne (ne_of_none e hl)]
    exact e
/-- a new exception: what stood stands, the exception is there -/
theorem exv_k {C : Addr} {f : Str} {σ : St} {H : Hp} {Q : VK} {v : V} {i : Nat} (hσ : σ[i]? = some (some v)) (q : ∀ H2 a d, Same H H2 → H a = none → H2 a = some (exo a C (some d)) → H2 d = some (exd d [(f, v)]) → Q (.ref a) H2) : tExV C f (tCons (tVar i) tNil) σ H Q := by
  refine ⟨v, hσ, v, rfl, fun a d ha hd hda => ?_⟩
  refine q _ a d (fun b o e => ?_) ha upd_same ?_
  · rw [upd_ne (ne_of_none e ha), upd_ne (ne_of_none e hd)]
    exact e
  · rw [upd_ne hda, upd_same]
theorem exv0_k {C : Addr} {H : Hp} {Q : VK} (q : ∀ H2 a, Same H H2 → H a = none → H2 a = some (exo a C none) → Q (.ref a) H2) : ∀ a, H a = none → Q (.ref a) (upd H a (exo a C none)) := fun a ha =>
  q _ a (fun b o e => by rw [upd_ne (ne_of_none e ha)]; exact e) ha upd_same
end L2

namespace K39
open PySem L2
open PySem.XV (CF IFc Fn_value Fn_index Fn_limit)
/-! ### the text by places -/
def top (i : Nat) : Stmt := PySem.Challenge.pw_latestrows_k39_errors_and_limits.main.body.getD i (.Pass ⟨0, 0, 0, 0⟩)
abbrev sKinds : Stmt := top 40
abbrev sAll : Stmt := top 41
abbrev sBases : Stmt := top 42
abbrev sSame : Stmt := top 43
abbrev sFields : Stmt := top 44
abbrev sGood : Stmt := top 45
abbrev sLaw : Stmt := top 46
/-! ### the classes -/
def nm : Nat → Str := fun i => (["InvalidName", "InvalidTime", "InvalidNumber", "InvalidWithin", "InvalidStrict", "InvalidText", "InvalidGrid", "NotATime", "NotALook", "NotAReader", "NotATable", "NotASetting", "NotAPlan", "NotAStore", "InvalidRows", "InvalidApart", "InvalidFeeds", "InvalidColumns", "InvalidDeed", "MissingRow", "NoSuchPart", "NeverRead", "NeverChanged", "NothingToUndo", "NotKept", "NoGrid", "TooMany"] : List Str).getD i ""
def bi : Nat → Nat := fun i => ([0, 0, 0, 0, 0, 0, 0, 0, 0, 0, 0, 0, 0, 0, 0, 0, 0, 0, 0, 1, 1, 1, 1, 1, 2, 2, 3] : List Nat).getD i 0
def nmB : Nat → Str := fun i => (["LatestError", "StateError", "RuleError", "LimitError"] : List Str).getD i ""
def tn : Nat → String := fun i => ["ValueError", "LookupError", "RuntimeError", "ArithmeticError"].getD i ""
def bm (t : String) : List Value := [.type t, .type "Exception", .type "BaseException", .type "object"]
def OwnV (K : PySem.W.Frag) (C B fI : Addr) (t n i : String) (qn : Str) : Prop := CF K C B t n i (bm t) ∧ IFc K C fI "value" ∧ Fn_value K fI qn
def OwnI (K : PySem.W.Frag) (C B fI : Addr) (t n i : String) (qn : Str) : Prop := CF K C B t n i (bm t) ∧ IFc K C fI "index" ∧ Fn_index K fI qn
def OwnL (K : PySem.W.Frag) (C B fI : Addr) (t n i : String) (qn : Str) : Prop := CF K C B t n i (bm t) ∧ IFc K C fI "limit" ∧ Fn_limit K fI qn
structure Txt (K : PySem.W.Frag) (mg : Str → Option Value) (Cs Bs fs : Nat → Addr) : Prop where
  g : ∀ i, i < 27 → mg (nm i) = some (.ref (Cs i))
  gB : ∀ i, i < 4 → mg (nmB i) = some (.ref (Bs i))
  ec : ∀ i, i < 27 → ExcC K (Cs i)
  kit : ∀ i, i < 27 → ∀ j, j < 27 → PySem.W.kitOne K (.ref (Cs i)) (.ref (Cs j)) = some (decide (i = j))
  kitB : ∀ i, i < 27 → ∀ j, j < 4 → PySem.W.kitOne K (.ref (Cs i)) (.ref (Bs j)) = some (decide (bi i = j))
  kitT : ∀ i, i < 27 → ∀ j, j < 4 → PySem.W.kitOne K (.ref (Cs i)) (.type (tn j)) = some (decide (bi i = j))
  o0 : OwnV K (Cs 0) (Bs 0) (fs 0) "ValueError" "ValueError.__new__" "ValueError.__init__" "InvalidName.__init__"
  o1 : OwnV K (Cs 1) (Bs 0) (fs 1) "ValueError" "ValueError.__new__" "ValueError.__init__" "InvalidTime.__init__"
  o2 : OwnV K (Cs 2) (Bs 0) (fs 2) "ValueError" "ValueError.__new__" "ValueError.__init__" "InvalidNumber.__init__"
  o3 : OwnV K (Cs 3) (Bs 0) (fs 3) "ValueError" "ValueError.__new__" "ValueError.__init__" "InvalidWithin.__init__"
  o4 : OwnV K (Cs 4) (Bs 0) (fs 4) "ValueError" "ValueError.__new__" "ValueError.__init__" "InvalidStrict.__init__"
  o5 : OwnV K (Cs 5) (Bs 0) (fs 5) "ValueError" "ValueError.__new__" "ValueError.__init__" "InvalidText.__init__"
  o6 : OwnV K (Cs 6) (Bs 0) (fs 6) "ValueError" "ValueError.__new__" "ValueError.__init__" "InvalidGrid.__init__"
  o7 : OwnV K (Cs 7) (Bs 0) (fs 7) "ValueError" "ValueError.__new__" "ValueError.__init__" "NotATime.__init__"
  o8 : OwnV K (Cs 8) (Bs 0) (fs 8) "ValueError" "ValueError.__new__" "ValueError.__init__" "NotALook.__init__"
  o9 : OwnV K (Cs 9) (Bs 0) (fs 9) "ValueError" "ValueError.__new__" "ValueError.__init__" "NotAReader.__init__"
  o10 : OwnV K (Cs 10) (Bs 0) (fs 10) "ValueError" "ValueError.__new__" "ValueError.__init__" "NotATable.__init__"
  o11 : OwnV K (Cs 11) (Bs 0) (fs 11) "ValueError" "ValueError.__new__" "ValueError.__init__" "NotASetting.__init__"
  o12 : OwnV K (Cs 12) (Bs 0) (fs 12) "ValueError" "ValueError.__new__" "ValueError.__init__" "NotAPlan.__init__"
  o13 : OwnV K (Cs 13) (Bs 0) (fs 13) "ValueError" "ValueError.__new__" "ValueError.__init__" "NotAStore.__init__"
  o14 : OwnI K (Cs 14) (Bs 0) (fs 14) "ValueError" "ValueError.__new__" "ValueError.__init__" "InvalidRows.__init__"
  o15 : OwnI K (Cs 15) (Bs 0) (fs 15) "ValueError" "ValueError.__new__" "ValueError.__init__" "InvalidApart.__init__"
  o16 : OwnI K (Cs 16) (Bs 0) (fs 16) "ValueError" "ValueError.__new__" "ValueError.__init__" "InvalidFeeds.__init__"
  o17 : OwnI K (Cs 17) (Bs 0) (fs 17) "ValueError" "ValueError.__new__" "ValueError.__init__" "InvalidColumns.__init__"
  o18 : OwnI K (Cs 18) (Bs 0) (fs 18) "ValueError" "ValueError.__new__" "ValueError.__init__" "InvalidDeed.__init__"
  o19 : OwnV K (Cs 19) (Bs 1) (fs 19) "LookupError" "LookupError.__new__" "LookupError.__init__" "MissingRow.__init__"
  o20 : OwnV K (Cs 20) (Bs 1) (fs 20) "LookupError" "LookupError.__new__" "LookupError.__init__" "NoSuchPart.__init__"
  o21 : OwnV K (Cs 21) (Bs 1) (fs 21) "LookupError" "LookupError.__new__" "LookupError.__init__" "NeverRead.__init__"
  o22 : OwnV K (Cs 22) (Bs 1) (fs 22) "LookupError" "LookupError.__new__" "LookupError.__init__" "NeverChanged.__init__"
  o24 : OwnV K (Cs 24) (Bs 2) (fs 24) "RuntimeError" "RuntimeError.__new__" "RuntimeError.__init__" "NotKept.__init__"
  o26 : OwnL K (Cs 26) (Bs 3) (fs 26) "ArithmeticError" "ArithmeticError.__new__" "ArithmeticError.__init__" "TooMany.__init__"
  q23 : PySem.W.excIn K (Cs 23) (bm "LookupError") "LookupError.__new__" = true
  k23 : PySem.W.keepIn K (.ref (Cs 23)) = true
  q25 : PySem.W.excIn K (Cs 25) (bm "RuntimeError") "RuntimeError.__new__" = true
  k25 : PySem.W.keepIn K (.ref (Cs 25)) = true
  iN : mg "isinstance" = none
  n0 : mg "ValueError" = none
  n1 : mg "LookupError" = none
  n2 : mg "RuntimeError" = none
  n3 : mg "ArithmeticError" = none
  nBool : mg "bool" = none
  nEnum : mg "enumerate" = none
  nRange : mg "range" = none
  nAll : mg "all" = none
  nAbs : mg "abs" = none
  nInt : mg "int" = none
  nStr : mg "str" = none
/-! ### what the defs give -/
def kindsL (i : Nat) : List Bool := (List.range 27).map fun j => decide (i = j)
def basesL (i : Nat) : List Bool := (List.range 4).map fun j => decide (bi i = j)
/-- at p the list of exceptions of the classes cs -/
def AllAt (H : Hp) (p : Addr) (cs : List Addr) : Prop := ∃ as : List Addr, Paired (ExcAt H) as cs ∧ H p = some (.lst (as.map V.ref))
theorem paired_same {H H' : Hp} (q : Same H H') : ∀ {as cs : List Addr}, Paired (ExcAt H) as cs → Paired (ExcAt H') as cs
  | _, _, .nil => .nil
  | _, _, .cons h t => .cons (h.same q) (paired_same q t)
theorem paired_app {R : Addr → Addr → Prop} : ∀ {as bs cs ds : List Addr}, Paired R as cs → Paired R bs ds → Paired R (as ++ bs) (cs ++ ds)
  | _, _, _, _, .nil, h => h
  | _, _, _, _, .cons h t, k => .cons h (paired_app t k)
theorem all_grow {H H1 : Hp} {p : Addr} {cs ds bs : List Addr} {Q : VK} (hA : AllAt H p cs) (s : Same H H1) (hb : Paired (ExcAt H1) bs ds) (h1 : cs.length ≤ 900) (h2 : ds.length ≤ 100)
    (q : ∀ H2 r, Same H H2 → H r = none → AllAt H2 r (cs ++ ds) → Q (.ref r) H2) : (bs.map V.ref).length ≤ sizeLine ∧ ∀ l, H1 l = none → rCat (.ref p) (.ref l) (upd H1 l (.lst (bs.map V.ref))) Q := by
  obtain ⟨as, hp, hl⟩ := hA
  have e1 := Paired.length hp
  have e2 := Paired.length hb
  refine grow_k (s _ _ hl) (by rw [List.length_map]; omega) (by rw [List.length_map]; omega) fun H2 r s2 n2 e => ?_
  refine q H2 r (fun b o z => s2 b o (s b o z)) (s.free n2) ⟨as ++ bs, paired_app (paired_same (fun b o z => s2 b o (s b o z)) hp) (paired_same s2 hb), ?_⟩
  rw [e, List.map_append]
theorem isi_k {K : PySem.W.Frag} {mg : Str → Option Value} {Cs Bs fs : Nat → Addr} (T : Txt K mg Cs Bs fs) {H : Hp} {a : Addr} {i : Nat} {Q : VK} (hE : ExcAt H a (Cs i)) (hi : i < 27) (j : Nat) (hj : j < 27) (q : Q (.bl (decide (i = j))) H) : rIsX K [.ref a, .ref (Cs j)] H Q :=
  ⟨a, Cs i, _, _, _, rfl, hE, T.ec i hi, .own _, T.kit i hi j hj, q⟩
theorem isi_b {K : PySem.W.Frag} {mg : Str → Option Value} {Cs Bs fs : Nat → Addr} (T : Txt K mg Cs Bs fs) {H : Hp} {a : Addr} {i : Nat} {Q : VK} (hE : ExcAt H a (Cs i)) (hi : i < 27) (j : Nat) (hj : j < 4) (q : Q (.bl (decide (bi i = j))) H) : rIsX K [.ref a, .ref (Bs j)] H Q :=
  ⟨a, Cs i, _, _, _, rfl, hE, T.ec i hi, .own _, T.kitB i hi j hj, q⟩
theorem isi_t {K : PySem.W.Frag} {mg : Str → Option Value} {Cs Bs fs : Nat → Addr} (T : Txt K mg Cs Bs fs) {H : Hp} {a : Addr} {i : Nat} {Q : VK} (hE : ExcAt H a (Cs i)) (hi : i < 27) (j : Nat) (hj : j < 4) (q : Q (.bl (decide (bi i = j))) H) : rIsX K [.ref a, .ty (tn j)] H Q :=
  ⟨a, Cs i, _, _, _, rfl, hE, T.ec i hi, .ty _, T.kitT i hi j hj, q⟩
theorem exn_same {H : Hp} {a d : Addr} {o u : HO} (ha : H a = none) (hd : H d = none) : Same H (upd (upd H d u) a o) := fun b z e => by
  rw [upd_ne (ne_of_none e ha), upd_ne (ne_of_none e hd)]
  exact e
theorem exn0_same {H : Hp} {a : Addr} {o : HO} (ha : H a = none) : Same H (upd H a o) := fun b z e => by
  rw [upd_ne (ne_of_none e ha)]
  exact e
theorem exn_at {H : Hp} {a d C : Addr} {fs : List (Str × V)} (hda : d ≠ a) : ExcAt (upd (upd H d (exd d fs)) a (exo a C (some d))) a C :=
  .inr ⟨d, fs, upd_same, by rw [upd_ne hda, upd_same]⟩
/-! ### the promises -/
def spKinds (Cs : Nat → Addr) : Sp := fun vs H Q _ => ∃ (a : Addr) (i : Nat), vs = [.ref a] ∧ i < 27 ∧ ExcAt H a (Cs i) ∧ ∀ H' p, Same H H' → H p = none → H' p = some (.lst ((kindsL i).map V.bl)) → Q (.ref p) H'
def spBases (Cs : Nat → Addr) : Sp := fun vs H Q _ => ∃ (a : Addr) (i : Nat), vs = [.ref a] ∧ i < 27 ∧ ExcAt H a (Cs i) ∧ ∀ H' p, Same H H' → H p = none → H' p = some (.lst ((basesL i ++ basesL i).map V.bl)) → Q (.ref p) H'
def spAll (Cs : Nat → Addr) : Sp := fun vs H Q _ => ∃ v : V, vs = [v] ∧ ∀ H' p, Same H H' → H p = none → AllAt H' p ((List.range 27).map Cs) → Q (.ref p) H'
def spFields : Sp := fun vs H Q _ => ∃ v : V, vs = [v] ∧ ∀ H' p, Same H H' → H p = none → H' p = some (.lst (List.replicate 25 v)) → Q (.ref p) H'
def spSame : Sp := fun vs H Q _ => ∃ v : V, vs = [v, v] ∧ Thing H v ∧ Q (.bl true) H
section
variable {P : Program} {w : World} {K : PySem.W.Frag} {mg : Str → Option Value} {base : Heap} {Cs Bs fs : Nat → Addr}

theorem scK : FnScope ["_law_e", "_law_found"] ["_law_e"] (defScope sKinds) := ⟨rfl, rfl, rfl, by decide +kernel, rfl, by decide +kernel, by decide +kernel⟩
theorem ok_kinds {f : Addr} {fd : FuncData} (F : Fun K "_law_kinds" "_law_kinds" sKinds f fd) (T : Txt K mg Cs Bs fs) : FnOk P w K mg base CX0 1 f fd ["_law_e"] (spKinds Cs) := by
  refine F.ok scK (fun vs H Q E h => ?_) (fun cdv A outer s H vs Q E hr h => ?_)
  · obtain ⟨a, i, rfl, _⟩ := h
    rfl
  · obtain ⟨a, i, rfl, hi, hE, k⟩ := h
    refine ⟨_, pss_cons (ps_set (i := 1) scK.nd rfl (Or.inl rfl) (pe_lst pa_nil))
      (pss_cons (ps_set (i := 1) scK.nd rfl (Or.inl rfl) (pe_op op_cat (pv 1) (pe_lst (pa_cons (pe_callB call_isX (by rfl) T.iN PyProof.Rows.boot_isinstance (pa_cons (pv 0) (pa_cons (pe_glob (v := .ref (Cs 0)) rfl (T.g 0 (by decide)) rfl) pa_nil))) (pa_cons (pe_callB call_isX (by rfl) T.iN PyProof.Rows.boot_isinstance (pa_cons (pv 0) (pa_cons (pe_glob (v := .ref (Cs 1)) rfl (T.g 1 (by decide)) rfl) pa_nil))) pa_nil)))))
      (pss_cons (ps_set (i := 1) scK.nd rfl (Or.inl rfl) (pe_op op_cat (pv 1) (pe_lst (pa_cons (pe_callB call_isX (by rfl) T.iN PyProof.Rows.boot_isinstance (pa_cons (pv 0) (pa_cons (pe_glob (v := .ref (Cs 2)) rfl (T.g 2 (by decide)) rfl) pa_nil))) (pa_cons (pe_callB call_isX (by rfl) T.iN PyProof.Rows.boot_isinstance (pa_cons (pv 0) (pa_cons (pe_glob (v := .ref (Cs 3)) rfl (T.g 3 (by decide)) rfl) pa_nil))) pa_nil)))))
      (pss_cons (ps_set (i := 1) scK.nd rfl (Or.inl rfl) (pe_op op_cat (pv 1) (pe_lst (pa_cons (pe_callB call_isX (by rfl) T.iN PyProof.Rows.boot_isinstance (pa_cons (pv 0) (pa_cons (pe_glob (v := .ref (Cs 4)) rfl (T.g 4 (by decide)) rfl) pa_nil))) (pa_cons (pe_callB call_isX (by rfl) T.iN PyProof.Rows.boot_isinstance (pa_cons (pv 0) (pa_cons (pe_glob (v := .ref (Cs 5)) rfl (T.g 5 (by decide)) rfl) pa_nil))) pa_nil)))))
      (pss_cons (ps_set (i := 1) scK.nd rfl (Or.inl rfl) (pe_op op_cat (pv 1) (pe_lst (pa_cons (pe_callB call_isX (by rfl) T.iN PyProof.Rows.boot_isinstance (pa_cons (pv 0) (pa_cons (pe_glob (v := .ref (Cs 6)) rfl (T.g 6 (by decide)) rfl) pa_nil))) (pa_cons (pe_callB call_isX (by rfl) T.iN PyProof.Rows.boot_isinstance (pa_cons (pv 0) (pa_cons (pe_glob (v := .ref (Cs 7)) rfl (T.g 7 (by decide)) rfl) pa_nil))) (pa_cons (pe_callB call_isX (by rfl) T.iN PyProof.Rows.boot_isinstance (pa_cons (pv 0) (pa_cons (pe_glob (v := .ref (Cs 8)) rfl (T.g 8 (by decide)) rfl) pa_nil))) pa_nil))))))
      (pss_cons (ps_set (i := 1) scK.nd rfl (Or.inl rfl) (pe_op op_cat (pv 1) (pe_lst (pa_cons (pe_callB call_isX (by rfl) T.iN PyProof.Rows.boot_isinstance (pa_cons (pv 0) (pa_cons (pe_glob (v := .ref (Cs 9)) rfl (T.g 9 (by decide)) rfl) pa_nil))) (pa_cons (pe_callB call_isX (by rfl) T.iN PyProof.Rows.boot_isinstance (pa_cons (pv 0) (pa_cons (pe_glob (v := .ref (Cs 10)) rfl (T.g 10 (by decide)) rfl) pa_nil))) (pa_cons (pe_callB call_isX (by rfl) T.iN PyProof.Rows.boot_isinstance (pa_cons (pv 0) (pa_cons (pe_glob (v := .ref (Cs 11)) rfl (T.g 11 (by decide)) rfl) pa_nil))) pa_nil))))))
      (pss_cons (ps_set (i := 1) scK.nd rfl (Or.inl rfl) (pe_op op_cat (pv 1) (pe_lst (pa_cons (pe_callB call_isX (by rfl) T.iN PyProof.Rows.boot_isinstance (pa_cons (pv 0) (pa_cons (pe_glob (v := .ref (Cs 12)) rfl (T.g 12 (by decide)) rfl) pa_nil))) (pa_cons (pe_callB call_isX (by rfl) T.iN PyProof.Rows.boot_isinstance (pa_cons (pv 0) (pa_cons (pe_glob (v := .ref (Cs 13)) rfl (T.g 13 (by decide)) rfl) pa_nil))) (pa_cons (pe_callB call_isX (by rfl) T.iN PyProof.Rows.boot_isinstance (pa_cons (pv 0) (pa_cons (pe_glob (v := .ref (Cs 14)) rfl (T.g 14 (by decide)) rfl) pa_nil))) pa_nil))))))
      (pss_cons (ps_set (i := 1) scK.nd rfl (Or.inl rfl) (pe_op op_cat (pv 1) (pe_lst (pa_cons (pe_callB call_isX (by rfl) T.iN PyProof.Rows.boot_isinstance (pa_cons (pv 0) (pa_cons (pe_glob (v := .ref (Cs 15)) rfl (T.g 15 (by decide)) rfl) pa_nil))) (pa_cons (pe_callB call_isX (by rfl) T.iN PyProof.Rows.boot_isinstance (pa_cons (pv 0) (pa_cons (pe_glob (v := .ref (Cs 16)) rfl (T.g 16 (by decide)) rfl) pa_nil))) pa_nil)))))
      (pss_cons (ps_set (i := 1) scK.nd rfl (Or.inl rfl) (pe_op op_cat (pv 1) (pe_lst (pa_cons (pe_callB call_isX (by rfl) T.iN PyProof.Rows.boot_isinstance (pa_cons (pv 0) (pa_cons (pe_glob (v := .ref (Cs 17)) rfl (T.g 17 (by decide)) rfl) pa_nil))) (pa_cons (pe_callB call_isX (by rfl) T.iN PyProof.Rows.boot_isinstance (pa_cons (pv 0) (pa_cons (pe_glob (v := .ref (Cs 18)) rfl (T.g 18 (by decide)) rfl) pa_nil))) pa_nil)))))
      (pss_cons (ps_set (i := 1) scK.nd rfl (Or.inl rfl) (pe_op op_cat (pv 1) (pe_lst (pa_cons (pe_callB call_isX (by rfl) T.iN PyProof.Rows.boot_isinstance (pa_cons (pv 0) (pa_cons (pe_glob (v := .ref (Cs 19)) rfl (T.g 19 (by decide)) rfl) pa_nil))) (pa_cons (pe_callB call_isX (by rfl) T.iN PyProof.Rows.boot_isinstance (pa_cons (pv 0) (pa_cons (pe_glob (v := .ref (Cs 20)) rfl (T.g 20 (by decide)) rfl) pa_nil))) (pa_cons (pe_callB call_isX (by rfl) T.iN PyProof.Rows.boot_isinstance (pa_cons (pv 0) (pa_cons (pe_glob (v := .ref (Cs 21)) rfl (T.g 21 (by decide)) rfl) pa_nil))) pa_nil))))))
      (pss_cons (ps_set (i := 1) scK.nd rfl (Or.inl rfl) (pe_op op_cat (pv 1) (pe_lst (pa_cons (pe_callB call_isX (by rfl) T.iN PyProof.Rows.boot_isinstance (pa_cons (pv 0) (pa_cons (pe_glob (v := .ref (Cs 22)) rfl (T.g 22 (by decide)) rfl) pa_nil))) (pa_cons (pe_callB call_isX (by rfl) T.iN PyProof.Rows.boot_isinstance (pa_cons (pv 0) (pa_cons (pe_glob (v := .ref (Cs 23)) rfl (T.g 23 (by decide)) rfl) pa_nil))) (pa_cons (pe_callB call_isX (by rfl) T.iN PyProof.Rows.boot_isinstance (pa_cons (pv 0) (pa_cons (pe_glob (v := .ref (Cs 24)) rfl (T.g 24 (by decide)) rfl) pa_nil))) pa_nil))))))
      (pss_cons (ps_set (i := 1) scK.nd rfl (Or.inl rfl) (pe_op op_cat (pv 1) (pe_lst (pa_cons (pe_callB call_isX (by rfl) T.iN PyProof.Rows.boot_isinstance (pa_cons (pv 0) (pa_cons (pe_glob (v := .ref (Cs 25)) rfl (T.g 25 (by decide)) rfl) pa_nil))) (pa_cons (pe_callB call_isX (by rfl) T.iN PyProof.Rows.boot_isinstance (pa_cons (pv 0) (pa_cons (pe_glob (v := .ref (Cs 26)) rfl (T.g 26 (by decide)) rfl) pa_nil))) pa_nil)))))
      (pss_one (ps_ret (pv 1)))))))))))))), ?_⟩
    refine ⟨Nat.zero_le _, fun p0 n0 => ?_⟩
    have s0 : Same H (upd H p0 (.lst [])) := fun b o e => by rw [upd_ne (ne_of_none e n0)]; exact e
    have e0 : (upd H p0 (.lst [])) p0 = some (.lst (([] : List Bool).map V.bl)) := upd_same
    revert s0 e0
    generalize upd H p0 (.lst []) = H0
    intro s0 e0
    refine ⟨_, rfl, ⟨_, rfl, a, Cs i, _, _, _, rfl, hE.same s0, T.ec i hi, .own _, T.kit i hi 0 (by decide), ⟨_, rfl, a, Cs i, _, _, _, rfl, hE.same s0, T.ec i hi, .own _, T.kit i hi 1 (by decide), grow_k e0 (Nat.le_of_ble_eq_true rfl) (Nat.le_of_ble_eq_true rfl) fun H1 p1 t1 n1 e1 => ?_⟩⟩⟩
    have s1 : Same H H1 := s0.trans t1
    replace n1 : H p1 = none := s0.free n1
    replace e1 : H1 p1 = some (.lst (([decide (i = 0), decide (i = 1)] : List Bool).map V.bl)) := e1
    refine ⟨_, rfl, ⟨_, rfl, a, Cs i, _, _, _, rfl, hE.same s1, T.ec i hi, .own _, T.kit i hi 2 (by decide), ⟨_, rfl, a, Cs i, _, _, _, rfl, hE.same s1, T.ec i hi, .own _, T.kit i hi 3 (by decide), grow_k e1 (Nat.le_of_ble_eq_true rfl) (Nat.le_of_ble_eq_true rfl) fun H2 p2 t2 n2 e2 => ?_⟩⟩⟩
    have s2 : Same H H2 := s1.trans t2
    replace n2 : H p2 = none := s1.free n2
    replace e2 : H2 p2 = some (.lst (([decide (i = 0), decide (i = 1), decide (i = 2), decide (i = 3)] : List Bool).map V.bl)) := e2
    refine ⟨_, rfl, ⟨_, rfl, a, Cs i, _, _, _, rfl, hE.same s2, T.ec i hi, .own _, T.kit i hi 4 (by decide), ⟨_, rfl, a, Cs i, _, _, _, rfl, hE.same s2, T.ec i hi, .own _, T.kit i hi 5 (by decide), grow_k e2 (Nat.le_of_ble_eq_true rfl) (Nat.le_of_ble_eq_true rfl) fun H3 p3 t3 n3 e3 => ?_⟩⟩⟩
    have s3 : Same H H3 := s2.trans t3
    replace n3 : H p3 = none := s2.free n3
    replace e3 : H3 p3 = some (.lst (([decide (i = 0), decide (i = 1), decide (i = 2), decide (i = 3), decide (i = 4), decide (i = 5)] : List Bool).map V.bl)) := e3
    refine ⟨_, rfl, ⟨_, rfl, a, Cs i, _, _, _, rfl, hE.same s3, T.ec i hi, .own _, T.kit i hi 6 (by decide), ⟨_, rfl, a, Cs i, _, _, _, rfl, hE.same s3, T.ec i hi, .own _, T.kit i hi 7 (by decide), ⟨_, rfl, a, Cs i, _, _, _, rfl, hE.same s3, T.ec i hi, .own _, T.kit i hi 8 (by decide), grow_k e3 (Nat.le_of_ble_eq_true rfl) (Nat.le_of_ble_eq_true rfl) fun H4 p4 t4 n4 e4 => ?_⟩⟩⟩⟩
    have s4 : Same H H4 := s3.trans t4
    replace n4 : H p4 = none := s3.free n4
    replace e4 : H4 p4 = some (.lst (([decide (i = 0), decide (i = 1), decide (i = 2), decide (i = 3), decide (i = 4), decide (i = 5), decide (i = 6), decide (i = 7), decide (i = 8)] : List Bool).map V.bl)) := e4
    refine ⟨_, rfl, ⟨_, rfl, a, Cs i, _, _, _, rfl, hE.same s4, T.ec i hi, .own _, T.kit i hi 9 (by decide), ⟨_, rfl, a, Cs i, _, _, _, rfl, hE.same s4, T.ec i hi, .own _, T.kit i hi 10 (by decide), ⟨_, rfl, a, Cs i, _, _, _, rfl, hE.same s4, T.ec i hi, .own _, T.kit i hi 11 (by decide), grow_k e4 (Nat.le_of_ble_eq_true rfl) (Nat.le_of_ble_eq_true rfl) fun H5 p5 t5 n5 e5 => ?_⟩⟩⟩⟩
    have s5 : Same H H5 := s4.trans t5
    replace n5 : H p5 = none := s4.free n5
    replace e5 : H5 p5 = some (.lst (([decide (i = 0), decide (i = 1), decide (i = 2), decide (i = 3), decide (i = 4), decide (i = 5), decide (i = 6), decide (i = 7), decide (i = 8), decide (i = 9), decide (i = 10), decide (i = 11)] : List Bool).map V.bl)) := e5
    refine ⟨_, rfl, ⟨_, rfl, a, Cs i, _, _, _, rfl, hE.same s5, T.ec i hi, .own _, T.kit i hi 12 (by decide), ⟨_, rfl, a, Cs i, _, _, _, rfl, hE.same s5, T.ec i hi, .own _, T.kit i hi 13 (by decide), ⟨_, rfl, a, Cs i, _, _, _, rfl, hE.same s5, T.ec i hi, .own _, T.kit i hi 14 (by decide), grow_k e5 (Nat.le_of_ble_eq_true rfl) (Nat.le_of_ble_eq_true rfl) fun H6 p6 t6 n6 e6 => ?_⟩⟩⟩⟩
    have s6 : Same H H6 := s5.trans t6
    replace n6 : H p6 = none := s5.free n6
    replace e6 : H6 p6 = some (.lst (([decide (i = 0), decide (i = 1), decide (i = 2), decide (i = 3), decide (i = 4), decide (i = 5), decide (i = 6), decide (i = 7), decide (i = 8), decide (i = 9), decide (i = 10), decide (i = 11), decide (i = 12), decide (i = 13), decide (i = 14)] : List Bool).map V.bl)) := e6
    refine ⟨_, rfl, ⟨_, rfl, a, Cs i, _, _, _, rfl, hE.same s6, T.ec i hi, .own _, T.kit i hi 15 (by decide), ⟨_, rfl, a, Cs i, _, _, _, rfl, hE.same s6, T.ec i hi, .own _, T.kit i hi 16 (by decide), grow_k e6 (Nat.le_of_ble_eq_true rfl) (Nat.le_of_ble_eq_true rfl) fun H7 p7 t7 n7 e7 => ?_⟩⟩⟩
    have s7 : Same H H7 := s6.trans t7
    replace n7 : H p7 = none := s6.free n7
    replace e7 : H7 p7 = some (.lst (([decide (i = 0), decide (i = 1), decide (i = 2), decide (i = 3), decide (i = 4), decide (i = 5), decide (i = 6), decide (i = 7), decide (i = 8), decide (i = 9), decide (i = 10), decide (i = 11), decide (i = 12), decide (i = 13), decide (i = 14), decide (i = 15), decide (i = 16)] : List Bool).map V.bl)) := e7
    refine ⟨_, rfl, ⟨_, rfl, a, Cs i, _, _, _, rfl, hE.same s7, T.ec i hi, .own _, T.kit i hi 17 (by decide), ⟨_, rfl, a, Cs i, _, _, _, rfl, hE.same s7, T.ec i hi, .own _, T.kit i hi 18 (by decide), grow_k e7 (Nat.le_of_ble_eq_true rfl) (Nat.le_of_ble_eq_true rfl) fun H8 p8 t8 n8 e8 => ?_⟩⟩⟩
    have s8 : Same H H8 := s7.trans t8
    replace n8 : H p8 = none := s7.free n8
    replace e8 : H8 p8 = some (.lst (([decide (i = 0), decide (i = 1), decide (i = 2), decide (i = 3), decide (i = 4), decide (i = 5), decide (i = 6), decide (i = 7), decide (i = 8), decide (i = 9), decide (i = 10), decide (i = 11), decide (i = 12), decide (i = 13), decide (i = 14), decide (i = 15), decide (i = 16), decide (i = 17), decide (i = 18)] : List Bool).map V.bl)) := e8
    refine ⟨_, rfl, ⟨_, rfl, a, Cs i, _, _, _, rfl, hE.same s8, T.ec i hi, .own _, T.kit i hi 19 (by decide), ⟨_, rfl, a, Cs i, _, _, _, rfl, hE.same s8, T.ec i hi, .own _, T.kit i hi 20 (by decide), ⟨_, rfl, a, Cs i, _, _, _, rfl, hE.same s8, T.ec i hi, .own _, T.kit i hi 21 (by decide), grow_k e8 (Nat.le_of_ble_eq_true rfl) (Nat.le_of_ble_eq_true rfl) fun H9 p9 t9 n9 e9 => ?_⟩⟩⟩⟩
    have s9 : Same H H9 := s8.trans t9
    replace n9 : H p9 = none := s8.free n9
    replace e9 : H9 p9 = some (.lst (([decide (i = 0), decide (i = 1), decide (i = 2), decide (i = 3), decide (i = 4), decide (i = 5), decide (i = 6), decide (i = 7), decide (i = 8), decide (i = 9), decide (i = 10), decide (i = 11), decide (i = 12), decide (i = 13), decide (i = 14), decide (i = 15), decide (i = 16), decide (i = 17), decide (i = 18), decide (i = 19), decide (i = 20), decide (i = 21)] : List Bool).map V.bl)) := e9
    refine ⟨_, rfl, ⟨_, rfl, a, Cs i, _, _, _, rfl, hE.same s9, T.ec i hi, .own _, T.kit i hi 22 (by decide), ⟨_, rfl, a, Cs i, _, _, _, rfl, hE.same s9, T.ec i hi, .own _, T.kit i hi 23 (by decide), ⟨_, rfl, a, Cs i, _, _, _, rfl, hE.same s9, T.ec i hi, .own _, T.kit i hi 24 (by decide), grow_k e9 (Nat.le_of_ble_eq_true rfl) (Nat.le_of_ble_eq_true rfl) fun H10 p10 t10 n10 e10 => ?_⟩⟩⟩⟩
    have s10 : Same H H10 := s9.trans t10
    replace n10 : H p10 = none := s9.free n10
    replace e10 : H10 p10 = some (.lst (([decide (i = 0), decide (i = 1), decide (i = 2), decide (i = 3), decide (i = 4), decide (i = 5), decide (i = 6), decide (i = 7), decide (i = 8), decide (i = 9), decide (i = 10), decide (i = 11), decide (i = 12), decide (i = 13), decide (i = 14), decide (i = 15), decide (i = 16), decide (i = 17), decide (i = 18), decide (i = 19), decide (i = 20), decide (i = 21), decide (i = 22), decide (i = 23), decide (i = 24)] : List Bool).map V.bl)) := e10
    refine ⟨_, rfl, ⟨_, rfl, a, Cs i, _, _, _, rfl, hE.same s10, T.ec i hi, .own _, T.kit i hi 25 (by decide), ⟨_, rfl, a, Cs i, _, _, _, rfl, hE.same s10, T.ec i hi, .own _, T.kit i hi 26 (by decide), grow_k e10 (Nat.le_of_ble_eq_true rfl) (Nat.le_of_ble_eq_true rfl) fun H11 p11 t11 n11 e11 => ?_⟩⟩⟩
    have s11 : Same H H11 := s10.trans t11
    replace n11 : H p11 = none := s10.free n11
    replace e11 : H11 p11 = some (.lst (([decide (i = 0), decide (i = 1), decide (i = 2), decide (i = 3), decide (i = 4), decide (i = 5), decide (i = 6), decide (i = 7), decide (i = 8), decide (i = 9), decide (i = 10), decide (i = 11), decide (i = 12), decide (i = 13), decide (i = 14), decide (i = 15), decide (i = 16), decide (i = 17), decide (i = 18), decide (i = 19), decide (i = 20), decide (i = 21), decide (i = 22), decide (i = 23), decide (i = 24), decide (i = 25), decide (i = 26)] : List Bool).map V.bl)) := e11
    exact ⟨_, rfl, k H11 p11 s11 n11 e11⟩
theorem scB : FnScope ["_law_e", "_law_own", "_law_under"] ["_law_e"] (defScope sBases) := ⟨rfl, rfl, rfl, by decide +kernel, rfl, by decide +kernel, by decide +kernel⟩
theorem ok_bases {f : Addr} {fd : FuncData} (F : Fun K "_law_bases" "_law_bases" sBases f fd) (T : Txt K mg Cs Bs fs) : FnOk P w K mg base CX0 1 f fd ["_law_e"] (spBases Cs) := by
  refine F.ok scB (fun vs H Q E h => ?_) (fun cdv A outer s H vs Q E hr h => ?_)
  · obtain ⟨a, i, rfl, _⟩ := h
    rfl
  · obtain ⟨a, i, rfl, hi, hE, k⟩ := h
    refine ⟨_, pss_cons (ps_set (i := 1) scB.nd rfl (Or.inl rfl) (pe_lst (pa_cons (pe_callB call_isX (by rfl) T.iN PyProof.Rows.boot_isinstance (pa_cons (pv 0) (pa_cons (pe_glob (v := .ref (Bs 0)) rfl (T.gB 0 (by decide)) rfl) pa_nil))) (pa_cons (pe_callB call_isX (by rfl) T.iN PyProof.Rows.boot_isinstance (pa_cons (pv 0) (pa_cons (pe_glob (v := .ref (Bs 1)) rfl (T.gB 1 (by decide)) rfl) pa_nil))) (pa_cons (pe_callB call_isX (by rfl) T.iN PyProof.Rows.boot_isinstance (pa_cons (pv 0) (pa_cons (pe_glob (v := .ref (Bs 2)) rfl (T.gB 2 (by decide)) rfl) pa_nil))) (pa_cons (pe_callB call_isX (by rfl) T.iN PyProof.Rows.boot_isinstance (pa_cons (pv 0) (pa_cons (pe_glob (v := .ref (Bs 3)) rfl (T.gB 3 (by decide)) rfl) pa_nil))) pa_nil))))))
      (pss_cons (ps_set (i := 2) scB.nd rfl (Or.inl rfl) (pe_lst (pa_cons (pe_callB call_isX (by rfl) T.iN PyProof.Rows.boot_isinstance (pa_cons (pv 0) (pa_cons (pe_bltn (v := .ty "ValueError") rfl T.n0 PyProof.Rows.Boot.«ValueError» rfl) pa_nil))) (pa_cons (pe_callB call_isX (by rfl) T.iN PyProof.Rows.boot_isinstance (pa_cons (pv 0) (pa_cons (pe_bltn (v := .ty "LookupError") rfl T.n1 PyProof.Rows.Boot.«LookupError» rfl) pa_nil))) (pa_cons (pe_callB call_isX (by rfl) T.iN PyProof.Rows.boot_isinstance (pa_cons (pv 0) (pa_cons (pe_bltn (v := .ty "RuntimeError") rfl T.n2 PyProof.Rows.Boot.«RuntimeError» rfl) pa_nil))) pa_nil)))))
      (pss_one (ps_ret (pe_op op_cat (pe_op op_cat (pv 1) (pv 2)) (pe_lst (pa_cons (pe_callB call_isX (by rfl) T.iN PyProof.Rows.boot_isinstance (pa_cons (pv 0) (pa_cons (pe_bltn (v := .ty "ArithmeticError") rfl T.n3 PyProof.Rows.Boot.«ArithmeticError» rfl) pa_nil))) pa_nil)))))), ?_⟩
    refine ⟨_, rfl, a, Cs i, _, _, _, rfl, hE, T.ec i hi, .own _, T.kitB i hi 0 (by decide), _, rfl, a, Cs i, _, _, _, rfl, hE, T.ec i hi, .own _, T.kitB i hi 1 (by decide), _, rfl, a, Cs i, _, _, _, rfl, hE, T.ec i hi, .own _, T.kitB i hi 2 (by decide), _, rfl, a, Cs i, _, _, _, rfl, hE, T.ec i hi, .own _, T.kitB i hi 3 (by decide), by show 4 ≤ sizeLine; decide, fun p1 n1 => ?_⟩
    have s1 : Same H (upd H p1 (.lst [.bl (decide (bi i = 0)), .bl (decide (bi i = 1)), .bl (decide (bi i = 2)), .bl (decide (bi i = 3))])) := fun b o e => by rw [upd_ne (ne_of_none e n1)]; exact e
    have e1 : (upd H p1 (.lst [.bl (decide (bi i = 0)), .bl (decide (bi i = 1)), .bl (decide (bi i = 2)), .bl (decide (bi i = 3))])) p1 = some (.lst ((basesL i).map V.bl)) := upd_same
    revert s1 e1
    generalize upd H p1 (.lst [.bl (decide (bi i = 0)), .bl (decide (bi i = 1)), .bl (decide (bi i = 2)), .bl (decide (bi i = 3))]) = H1
    intro s1 e1
    have hE1 := hE.same s1
    refine ⟨_, rfl, a, Cs i, _, _, _, rfl, hE1, T.ec i hi, .ty _, T.kitT i hi 0 (by decide), _, rfl, a, Cs i, _, _, _, rfl, hE1, T.ec i hi, .ty _, T.kitT i hi 1 (by decide), _, rfl, a, Cs i, _, _, _, rfl, hE1, T.ec i hi, .ty _, T.kitT i hi 2 (by decide), by show 3 ≤ sizeLine; decide, fun p2 n2 => ?_⟩
    have np : p1 ≠ p2 := ne_of_none e1 n2
    refine ⟨_, rfl, _, rfl, p1, p2, _, _, rfl, rfl, by rw [upd_ne np]; exact e1, upd_same, by show 4 + 3 ≤ sizeLine; decide, fun p3 n3 => ?_⟩
    have s3 : Same H1 (upd (upd H1 p2 (.lst [.bl (decide (bi i = 0)), .bl (decide (bi i = 1)), .bl (decide (bi i = 2))])) p3 (.lst ((basesL i).map V.bl ++ [.bl (decide (bi i = 0)), .bl (decide (bi i = 1)), .bl (decide (bi i = 2))]))) := fun b o e => by
      have h2 : (upd H1 p2 (.lst [.bl (decide (bi i = 0)), .bl (decide (bi i = 1)), .bl (decide (bi i = 2))])) b = some o := by rw [upd_ne (ne_of_none e n2)]; exact e
      rw [upd_ne (ne_of_none h2 n3)]
      exact h2
    have e3 : (upd (upd H1 p2 (.lst [.bl (decide (bi i = 0)), .bl (decide (bi i = 1)), .bl (decide (bi i = 2))])) p3 (.lst ((basesL i).map V.bl ++ [.bl (decide (bi i = 0)), .bl (decide (bi i = 1)), .bl (decide (bi i = 2))]))) p3 = some (.lst ((basesL i).map V.bl ++ [.bl (decide (bi i = 0)), .bl (decide (bi i = 1)), .bl (decide (bi i = 2))])) := upd_same
    revert s3 e3
    generalize (upd (upd H1 p2 (.lst [.bl (decide (bi i = 0)), .bl (decide (bi i = 1)), .bl (decide (bi i = 2))])) p3 (.lst ((basesL i).map V.bl ++ [.bl (decide (bi i = 0)), .bl (decide (bi i = 1)), .bl (decide (bi i = 2))]))) = H3
    intro s3 e3
    exact ⟨_, rfl, a, Cs i, _, _, _, rfl, hE1.same s3, T.ec i hi, .ty _, T.kitT i hi 3 (by decide), (grow_k e3 (Nat.le_of_ble_eq_true rfl) (Nat.le_of_ble_eq_true rfl) fun H4 p4 t4 n4 e4 => k H4 p4 (s1.trans (s3.trans t4)) (s1.free (s3.free n4)) e4)⟩

theorem scA : FnScope ["_law_thing", "_law_found"] ["_law_thing"] (defScope sAll) := ⟨rfl, rfl, rfl, by decide +kernel, rfl, by decide +kernel, by decide +kernel⟩
theorem ok_all {f : Addr} {fd : FuncData} (F : Fun K "_law_all" "_law_all" sAll f fd) (T : Txt K mg Cs Bs fs) : FnOk P w K mg base CX0 2 f fd ["_law_thing"] (spAll Cs) := by
  refine F.ok scA (fun vs H Q E h => ?_) (fun cdv A outer s H vs Q E hr h => ?_)
  · obtain ⟨v, rfl, _⟩ := h
    rfl
  · obtain ⟨v, rfl, k⟩ := h
    refine ⟨_, pss_cons (ps_set (i := 1) scA.nd rfl (Or.inl rfl) (pe_lst pa_nil))
      (pss_cons (ps_set (i := 1) scA.nd rfl (Or.inl rfl) (pe_op op_cat (pv 1) (pe_lst (pa_cons (pe_exv_value T.o0.1 T.o0.2.1 T.o0.2.2 hr rfl (T.g 0 (by decide)) (pa_cons (pv 0) pa_nil)) (pa_cons (pe_exv_value T.o1.1 T.o1.2.1 T.o1.2.2 hr rfl (T.g 1 (by decide)) (pa_cons (pv 0) pa_nil)) (pa_cons (pe_exv_value T.o2.1 T.o2.2.1 T.o2.2.2 hr rfl (T.g 2 (by decide)) (pa_cons (pv 0) pa_nil)) (pa_cons (pe_exv_value T.o3.1 T.o3.2.1 T.o3.2.2 hr rfl (T.g 3 (by decide)) (pa_cons (pv 0) pa_nil)) pa_nil)))))))
      (pss_cons (ps_set (i := 1) scA.nd rfl (Or.inl rfl) (pe_op op_cat (pv 1) (pe_lst (pa_cons (pe_exv_value T.o4.1 T.o4.2.1 T.o4.2.2 hr rfl (T.g 4 (by decide)) (pa_cons (pv 0) pa_nil)) (pa_cons (pe_exv_value T.o5.1 T.o5.2.1 T.o5.2.2 hr rfl (T.g 5 (by decide)) (pa_cons (pv 0) pa_nil)) (pa_cons (pe_exv_value T.o6.1 T.o6.2.1 T.o6.2.2 hr rfl (T.g 6 (by decide)) (pa_cons (pv 0) pa_nil)) (pa_cons (pe_exv_value T.o7.1 T.o7.2.1 T.o7.2.2 hr rfl (T.g 7 (by decide)) (pa_cons (pv 0) pa_nil)) pa_nil)))))))
      (pss_cons (ps_set (i := 1) scA.nd rfl (Or.inl rfl) (pe_op op_cat (pv 1) (pe_lst (pa_cons (pe_exv_value T.o8.1 T.o8.2.1 T.o8.2.2 hr rfl (T.g 8 (by decide)) (pa_cons (pv 0) pa_nil)) (pa_cons (pe_exv_value T.o9.1 T.o9.2.1 T.o9.2.2 hr rfl (T.g 9 (by decide)) (pa_cons (pv 0) pa_nil)) (pa_cons (pe_exv_value T.o10.1 T.o10.2.1 T.o10.2.2 hr rfl (T.g 10 (by decide)) (pa_cons (pv 0) pa_nil)) (pa_cons (pe_exv_value T.o11.1 T.o11.2.1 T.o11.2.2 hr rfl (T.g 11 (by decide)) (pa_cons (pv 0) pa_nil)) pa_nil)))))))
      (pss_cons (ps_set (i := 1) scA.nd rfl (Or.inl rfl) (pe_op op_cat (pv 1) (pe_lst (pa_cons (pe_exv_value T.o12.1 T.o12.2.1 T.o12.2.2 hr rfl (T.g 12 (by decide)) (pa_cons (pv 0) pa_nil)) (pa_cons (pe_exv_value T.o13.1 T.o13.2.1 T.o13.2.2 hr rfl (T.g 13 (by decide)) (pa_cons (pv 0) pa_nil)) (pa_cons (pe_exv_index T.o14.1 T.o14.2.1 T.o14.2.2 hr rfl (T.g 14 (by decide)) (pa_cons (pv 0) pa_nil)) (pa_cons (pe_exv_index T.o15.1 T.o15.2.1 T.o15.2.2 hr rfl (T.g 15 (by decide)) (pa_cons (pv 0) pa_nil)) pa_nil)))))))
      (pss_cons (ps_set (i := 1) scA.nd rfl (Or.inl rfl) (pe_op op_cat (pv 1) (pe_lst (pa_cons (pe_exv_index T.o16.1 T.o16.2.1 T.o16.2.2 hr rfl (T.g 16 (by decide)) (pa_cons (pv 0) pa_nil)) (pa_cons (pe_exv_index T.o17.1 T.o17.2.1 T.o17.2.2 hr rfl (T.g 17 (by decide)) (pa_cons (pv 0) pa_nil)) (pa_cons (pe_exv_index T.o18.1 T.o18.2.1 T.o18.2.2 hr rfl (T.g 18 (by decide)) (pa_cons (pv 0) pa_nil)) (pa_cons (pe_exv_value T.o19.1 T.o19.2.1 T.o19.2.2 hr rfl (T.g 19 (by decide)) (pa_cons (pv 0) pa_nil)) pa_nil)))))))
      (pss_cons (ps_set (i := 1) scA.nd rfl (Or.inl rfl) (pe_op op_cat (pv 1) (pe_lst (pa_cons (pe_exv_value T.o20.1 T.o20.2.1 T.o20.2.2 hr rfl (T.g 20 (by decide)) (pa_cons (pv 0) pa_nil)) (pa_cons (pe_exv_value T.o21.1 T.o21.2.1 T.o21.2.2 hr rfl (T.g 21 (by decide)) (pa_cons (pv 0) pa_nil)) (pa_cons (pe_exv_value T.o22.1 T.o22.2.1 T.o22.2.2 hr rfl (T.g 22 (by decide)) (pa_cons (pv 0) pa_nil)) (pa_cons (pe_exv0 PySem.F.excBase_LookupError T.q23 T.k23 rfl (T.g 23 (by decide))) pa_nil)))))))
      (pss_cons (ps_set (i := 1) scA.nd rfl (Or.inl rfl) (pe_op op_cat (pv 1) (pe_lst (pa_cons (pe_exv_value T.o24.1 T.o24.2.1 T.o24.2.2 hr rfl (T.g 24 (by decide)) (pa_cons (pv 0) pa_nil)) (pa_cons (pe_exv0 PySem.F.excBase_RuntimeError T.q25 T.k25 rfl (T.g 25 (by decide))) (pa_cons (pe_exv_limit T.o26.1 T.o26.2.1 T.o26.2.2 hr rfl (T.g 26 (by decide)) (pa_cons (pv 0) pa_nil)) pa_nil))))))
      (pss_one (ps_ret (pv 1)))))))))), ?_⟩
    refine ⟨Nat.zero_le _, fun p0 n0 => ?_⟩
    have s0 : Same H (upd H p0 (.lst [])) := fun b o e => by rw [upd_ne (ne_of_none e n0)]; exact e
    have e0 : AllAt (upd H p0 (.lst [])) p0 [] := ⟨[], .nil, upd_same⟩
    revert s0 e0
    generalize upd H p0 (.lst []) = H0
    intro s0 e0
    refine ⟨_, rfl, _, rfl, v, rfl, fun a0 d0 ha0 hd0 hda0 => ?_⟩
    have u0 : Same H0 (upd (upd H0 d0 (exd d0 [(("value" : Str), v)])) a0 (exo a0 (Cs 0) (some d0))) := exn_same ha0 hd0
    have x0 : ExcAt (upd (upd H0 d0 (exd d0 [(("value" : Str), v)])) a0 (exo a0 (Cs 0) (some d0))) a0 (Cs 0) := exn_at hda0
    revert u0 x0
    generalize (upd (upd H0 d0 (exd d0 [(("value" : Str), v)])) a0 (exo a0 (Cs 0) (some d0))) = G0
    intro u0 x0
    refine ⟨_, rfl, v, rfl, fun a1 d1 ha1 hd1 hda1 => ?_⟩
    have u1 : Same G0 (upd (upd G0 d1 (exd d1 [(("value" : Str), v)])) a1 (exo a1 (Cs 1) (some d1))) := exn_same ha1 hd1
    have x1 : ExcAt (upd (upd G0 d1 (exd d1 [(("value" : Str), v)])) a1 (exo a1 (Cs 1) (some d1))) a1 (Cs 1) := exn_at hda1
    revert u1 x1
    generalize (upd (upd G0 d1 (exd d1 [(("value" : Str), v)])) a1 (exo a1 (Cs 1) (some d1))) = G1
    intro u1 x1
    refine ⟨_, rfl, v, rfl, fun a2 d2 ha2 hd2 hda2 => ?_⟩
    have u2 : Same G1 (upd (upd G1 d2 (exd d2 [(("value" : Str), v)])) a2 (exo a2 (Cs 2) (some d2))) := exn_same ha2 hd2
    have x2 : ExcAt (upd (upd G1 d2 (exd d2 [(("value" : Str), v)])) a2 (exo a2 (Cs 2) (some d2))) a2 (Cs 2) := exn_at hda2
    revert u2 x2
    generalize (upd (upd G1 d2 (exd d2 [(("value" : Str), v)])) a2 (exo a2 (Cs 2) (some d2))) = G2
    intro u2 x2
    refine ⟨_, rfl, v, rfl, fun a3 d3 ha3 hd3 hda3 => ?_⟩
    have u3 : Same G2 (upd (upd G2 d3 (exd d3 [(("value" : Str), v)])) a3 (exo a3 (Cs 3) (some d3))) := exn_same ha3 hd3
    have x3 : ExcAt (upd (upd G2 d3 (exd d3 [(("value" : Str), v)])) a3 (exo a3 (Cs 3) (some d3))) a3 (Cs 3) := exn_at hda3
    revert u3 x3
    generalize (upd (upd G2 d3 (exd d3 [(("value" : Str), v)])) a3 (exo a3 (Cs 3) (some d3))) = G3
    intro u3 x3
    refine all_grow e0 (u0.trans (u1.trans (u2.trans u3))) (bs := [a0, a1, a2, a3]) (.cons (x0.same (u1.trans (u2.trans u3))) (.cons (x1.same (u2.trans u3)) (.cons (x2.same u3) (.cons x3 .nil)))) (Nat.le_of_ble_eq_true rfl) (Nat.le_of_ble_eq_true rfl) fun H1 p1 t1 n1 e1 => ?_
    have s1 : Same H H1 := s0.trans t1
    replace n1 : H p1 = none := s0.free n1
    refine ⟨_, rfl, _, rfl, v, rfl, fun a0 d0 ha0 hd0 hda0 => ?_⟩
    have u0 : Same H1 (upd (upd H1 d0 (exd d0 [(("value" : Str), v)])) a0 (exo a0 (Cs 4) (some d0))) := exn_same ha0 hd0
    have x0 : ExcAt (upd (upd H1 d0 (exd d0 [(("value" : Str), v)])) a0 (exo a0 (Cs 4) (some d0))) a0 (Cs 4) := exn_at hda0
    revert u0 x0
    generalize (upd (upd H1 d0 (exd d0 [(("value" : Str), v)])) a0 (exo a0 (Cs 4) (some d0))) = G0
    intro u0 x0
    refine ⟨_, rfl, v, rfl, fun a1 d1 ha1 hd1 hda1 => ?_⟩
    have u1 : Same G0 (upd (upd G0 d1 (exd d1 [(("value" : Str), v)])) a1 (exo a1 (Cs 5) (some d1))) := exn_same ha1 hd1
    have x1 : ExcAt (upd (upd G0 d1 (exd d1 [(("value" : Str), v)])) a1 (exo a1 (Cs 5) (some d1))) a1 (Cs 5) := exn_at hda1
    revert u1 x1
    generalize (upd (upd G0 d1 (exd d1 [(("value" : Str), v)])) a1 (exo a1 (Cs 5) (some d1))) = G1
    intro u1 x1
    refine ⟨_, rfl, v, rfl, fun a2 d2 ha2 hd2 hda2 => ?_⟩
    have u2 : Same G1 (upd (upd G1 d2 (exd d2 [(("value" : Str), v)])) a2 (exo a2 (Cs 6) (some d2))) := exn_same ha2 hd2
    have x2 : ExcAt (upd (upd G1 d2 (exd d2 [(("value" : Str), v)])) a2 (exo a2 (Cs 6) (some d2))) a2 (Cs 6) := exn_at hda2
    revert u2 x2
    generalize (upd (upd G1 d2 (exd d2 [(("value" : Str), v)])) a2 (exo a2 (Cs 6) (some d2))) = G2
    intro u2 x2
    refine ⟨_, rfl, v, rfl, fun a3 d3 ha3 hd3 hda3 => ?_⟩
    have u3 : Same G2 (upd (upd G2 d3 (exd d3 [(("value" : Str), v)])) a3 (exo a3 (Cs 7) (some d3))) := exn_same ha3 hd3
    have x3 : ExcAt (upd (upd G2 d3 (exd d3 [(("value" : Str), v)])) a3 (exo a3 (Cs 7) (some d3))) a3 (Cs 7) := exn_at hda3
    revert u3 x3
    generalize (upd (upd G2 d3 (exd d3 [(("value" : Str), v)])) a3 (exo a3 (Cs 7) (some d3))) = G3
    intro u3 x3
    refine all_grow e1 (u0.trans (u1.trans (u2.trans u3))) (bs := [a0, a1, a2, a3]) (.cons (x0.same (u1.trans (u2.trans u3))) (.cons (x1.same (u2.trans u3)) (.cons (x2.same u3) (.cons x3 .nil)))) (Nat.le_of_ble_eq_true rfl) (Nat.le_of_ble_eq_true rfl) fun H2 p2 t2 n2 e2 => ?_
    have s2 : Same H H2 := s1.trans t2
    replace n2 : H p2 = none := s1.free n2
    refine ⟨_, rfl, _, rfl, v, rfl, fun a0 d0 ha0 hd0 hda0 => ?_⟩
    have u0 : Same H2 (upd (upd H2 d0 (exd d0 [(("value" : Str), v)])) a0 (exo a0 (Cs 8) (some d0))) := exn_same ha0 hd0
    have x0 : ExcAt (upd (upd H2 d0 (exd d0 [(("value" : Str), v)])) a0 (exo a0 (Cs 8) (some d0))) a0 (Cs 8) := exn_at hda0
    revert u0 x0
    generalize (upd (upd H2 d0 (exd d0 [(("value" : Str), v)])) a0 (exo a0 (Cs 8) (some d0))) = G0
    intro u0 x0
    refine ⟨_, rfl, v, rfl, fun a1 d1 ha1 hd1 hda1 => ?_⟩
    have u1 : Same G0 (upd (upd G0 d1 (exd d1 [(("value" : Str), v)])) a1 (exo a1 (Cs 9) (some d1))) := exn_same ha1 hd1
    have x1 : ExcAt (upd (upd G0 d1 (exd d1 [(("value" : Str), v)])) a1 (exo a1 (Cs 9) (some d1))) a1 (Cs 9) := exn_at hda1
    revert u1 x1
    generalize (upd (upd G0 d1 (exd d1 [(("value" : Str), v)])) a1 (exo a1 (Cs 9) (some d1))) = G1
    intro u1 x1
    refine ⟨_, rfl, v, rfl, fun a2 d2 ha2 hd2 hda2 => ?_⟩
    have u2 : Same G1 (upd (upd G1 d2 (exd d2 [(("value" : Str), v)])) a2 (exo a2 (Cs 10) (some d2))) := exn_same ha2 hd2
    have x2 : ExcAt (upd (upd G1 d2 (exd d2 [(("value" : Str), v)])) a2 (exo a2 (Cs 10) (some d2))) a2 (Cs 10) := exn_at hda2
    revert u2 x2
    generalize (upd (upd G1 d2 (exd d2 [(("value" : Str), v)])) a2 (exo a2 (Cs 10) (some d2))) = G2
    intro u2 x2
    refine ⟨_, rfl, v, rfl, fun a3 d3 ha3 hd3 hda3 => ?_⟩
    have u3 : Same G2 (upd (upd G2 d3 (exd d3 [(("value" : Str), v)])) a3 (exo a3 (Cs 11) (some d3))) := exn_same ha3 hd3
    have x3 : ExcAt (upd (upd G2 d3 (exd d3 [(("value" : Str), v)])) a3 (exo a3 (Cs 11) (some d3))) a3 (Cs 11) := exn_at hda3
    revert u3 x3
    generalize (upd (upd G2 d3 (exd d3 [(("value" : Str), v)])) a3 (exo a3 (Cs 11) (some d3))) = G3
    intro u3 x3
    refine all_grow e2 (u0.trans (u1.trans (u2.trans u3))) (bs := [a0, a1, a2, a3]) (.cons (x0.same (u1.trans (u2.trans u3))) (.cons (x1.same (u2.trans u3)) (.cons (x2.same u3) (.cons x3 .nil)))) (Nat.le_of_ble_eq_true rfl) (Nat.le_of_ble_eq_true rfl) fun H3 p3 t3 n3 e3 => ?_
    have s3 : Same H H3 := s2.trans t3
    replace n3 : H p3 = none := s2.free n3
    refine ⟨_, rfl, _, rfl, v, rfl, fun a0 d0 ha0 hd0 hda0 => ?_⟩
    have u0 : Same H3 (upd (upd H3 d0 (exd d0 [(("value" : Str), v)])) a0 (exo a0 (Cs 12) (some d0))) := exn_same ha0 hd0
    have x0 : ExcAt (upd (upd H3 d0 (exd d0 [(("value" : Str), v)])) a0 (exo a0 (Cs 12) (some d0))) a0 (Cs 12) := exn_at hda0
    revert u0 x0
    generalize (upd (upd H3 d0 (exd d0 [(("value" : Str), v)])) a0 (exo a0 (Cs 12) (some d0))) = G0
    intro u0 x0
    refine ⟨_, rfl, v, rfl, fun a1 d1 ha1 hd1 hda1 => ?_⟩
    have u1 : Same G0 (upd (upd G0 d1 (exd d1 [(("value" : Str), v)])) a1 (exo a1 (Cs 13) (some d1))) := exn_same ha1 hd1
    have x1 : ExcAt (upd (upd G0 d1 (exd d1 [(("value" : Str), v)])) a1 (exo a1 (Cs 13) (some d1))) a1 (Cs 13) := exn_at hda1
    revert u1 x1
    generalize (upd (upd G0 d1 (exd d1 [(("value" : Str), v)])) a1 (exo a1 (Cs 13) (some d1))) = G1
    intro u1 x1
    refine ⟨_, rfl, v, rfl, fun a2 d2 ha2 hd2 hda2 => ?_⟩
    have u2 : Same G1 (upd (upd G1 d2 (exd d2 [(("index" : Str), v)])) a2 (exo a2 (Cs 14) (some d2))) := exn_same ha2 hd2
    have x2 : ExcAt (upd (upd G1 d2 (exd d2 [(("index" : Str), v)])) a2 (exo a2 (Cs 14) (some d2))) a2 (Cs 14) := exn_at hda2
    revert u2 x2
    generalize (upd (upd G1 d2 (exd d2 [(("index" : Str), v)])) a2 (exo a2 (Cs 14) (some d2))) = G2
    intro u2 x2
    refine ⟨_, rfl, v, rfl, fun a3 d3 ha3 hd3 hda3 => ?_⟩
    have u3 : Same G2 (upd (upd G2 d3 (exd d3 [(("index" : Str), v)])) a3 (exo a3 (Cs 15) (some d3))) := exn_same ha3 hd3
    have x3 : ExcAt (upd (upd G2 d3 (exd d3 [(("index" : Str), v)])) a3 (exo a3 (Cs 15) (some d3))) a3 (Cs 15) := exn_at hda3
    revert u3 x3
    generalize (upd (upd G2 d3 (exd d3 [(("index" : Str), v)])) a3 (exo a3 (Cs 15) (some d3))) = G3
    intro u3 x3
    refine all_grow e3 (u0.trans (u1.trans (u2.trans u3))) (bs := [a0, a1, a2, a3]) (.cons (x0.same (u1.trans (u2.trans u3))) (.cons (x1.same (u2.trans u3)) (.cons (x2.same u3) (.cons x3 .nil)))) (Nat.le_of_ble_eq_true rfl) (Nat.le_of_ble_eq_true rfl) fun H4 p4 t4 n4 e4 => ?_
    have s4 : Same H H4 := s3.trans t4
    replace n4 : H p4 = none := s3.free n4
    refine ⟨_, rfl, _, rfl, v, rfl, fun a0 d0 ha0 hd0 hda0 => ?_⟩
    have u0 : Same H4 (upd (upd H4 d0 (exd d0 [(("index" : Str), v)])) a0 (exo a0 (Cs 16) (some d0))) := exn_same ha0 hd0
    have x0 : ExcAt (upd (upd H4 d0 (exd d0 [(("index" : Str), v)])) a0 (exo a0 (Cs 16) (some d0))) a0 (Cs 16) := exn_at hda0
    revert u0 x0
    generalize (upd (upd H4 d0 (exd d0 [(("index" : Str), v)])) a0 (exo a0 (Cs 16) (some d0))) = G0
    intro u0 x0
    refine ⟨_, rfl, v, rfl, fun a1 d1 ha1 hd1 hda1 => ?_⟩
    have u1 : Same G0 (upd (upd G0 d1 (exd d1 [(("index" : Str), v)])) a1 (exo a1 (Cs 17) (some d1))) := exn_same ha1 hd1
    have x1 : ExcAt (upd (upd G0 d1 (exd d1 [(("index" : Str), v)])) a1 (exo a1 (Cs 17) (some d1))) a1 (Cs 17) := exn_at hda1
    revert u1 x1
    generalize (upd (upd G0 d1 (exd d1 [(("index" : Str), v)])) a1 (exo a1 (Cs 17) (some d1))) = G1
    intro u1 x1
    refine ⟨_, rfl, v, rfl, fun a2 d2 ha2 hd2 hda2 => ?_⟩
    have u2 : Same G1 (upd (upd G1 d2 (exd d2 [(("index" : Str), v)])) a2 (exo a2 (Cs 18) (some d2))) := exn_same ha2 hd2
    have x2 : ExcAt (upd (upd G1 d2 (exd d2 [(("index" : Str), v)])) a2 (exo a2 (Cs 18) (some d2))) a2 (Cs 18) := exn_at hda2
    revert u2 x2
    generalize (upd (upd G1 d2 (exd d2 [(("index" : Str), v)])) a2 (exo a2 (Cs 18) (some d2))) = G2
    intro u2 x2
    refine ⟨_, rfl, v, rfl, fun a3 d3 ha3 hd3 hda3 => ?_⟩
    have u3 : Same G2 (upd (upd G2 d3 (exd d3 [(("value" : Str), v)])) a3 (exo a3 (Cs 19) (some d3))) := exn_same ha3 hd3
    have x3 : ExcAt (upd (upd G2 d3 (exd d3 [(("value" : Str), v)])) a3 (exo a3 (Cs 19) (some d3))) a3 (Cs 19) := exn_at hda3
    revert u3 x3
    generalize (upd (upd G2 d3 (exd d3 [(("value" : Str), v)])) a3 (exo a3 (Cs 19) (some d3))) = G3
    intro u3 x3
    refine all_grow e4 (u0.trans (u1.trans (u2.trans u3))) (bs := [a0, a1, a2, a3]) (.cons (x0.same (u1.trans (u2.trans u3))) (.cons (x1.same (u2.trans u3)) (.cons (x2.same u3) (.cons x3 .nil)))) (Nat.le_of_ble_eq_true rfl) (Nat.le_of_ble_eq_true rfl) fun H5 p5 t5 n5 e5 => ?_
    have s5 : Same H H5 := s4.trans t5
    replace n5 : H p5 = none := s4.free n5
    refine ⟨_, rfl, _, rfl, v, rfl, fun a0 d0 ha0 hd0 hda0 => ?_⟩
    have u0 : Same H5 (upd (upd H5 d0 (exd d0 [(("value" : Str), v)])) a0 (exo a0 (Cs 20) (some d0))) := exn_same ha0 hd0
    have x0 : ExcAt (upd (upd H5 d0 (exd d0 [(("value" : Str), v)])) a0 (exo a0 (Cs 20) (some d0))) a0 (Cs 20) := exn_at hda0
    revert u0 x0
    generalize (upd (upd H5 d0 (exd d0 [(("value" : Str), v)])) a0 (exo a0 (Cs 20) (some d0))) = G0
    intro u0 x0
    refine ⟨_, rfl, v, rfl, fun a1 d1 ha1 hd1 hda1 => ?_⟩
    have u1 : Same G0 (upd (upd G0 d1 (exd d1 [(("value" : Str), v)])) a1 (exo a1 (Cs 21) (some d1))) := exn_same ha1 hd1
    have x1 : ExcAt (upd (upd G0 d1 (exd d1 [(("value" : Str), v)])) a1 (exo a1 (Cs 21) (some d1))) a1 (Cs 21) := exn_at hda1
    revert u1 x1
    generalize (upd (upd G0 d1 (exd d1 [(("value" : Str), v)])) a1 (exo a1 (Cs 21) (some d1))) = G1
    intro u1 x1
    refine ⟨_, rfl, v, rfl, fun a2 d2 ha2 hd2 hda2 => ?_⟩
    have u2 : Same G1 (upd (upd G1 d2 (exd d2 [(("value" : Str), v)])) a2 (exo a2 (Cs 22) (some d2))) := exn_same ha2 hd2
    have x2 : ExcAt (upd (upd G1 d2 (exd d2 [(("value" : Str), v)])) a2 (exo a2 (Cs 22) (some d2))) a2 (Cs 22) := exn_at hda2
    revert u2 x2
    generalize (upd (upd G1 d2 (exd d2 [(("value" : Str), v)])) a2 (exo a2 (Cs 22) (some d2))) = G2
    intro u2 x2
    refine fun a3 ha3 => ?_
    have u3 : Same G2 (upd G2 a3 (exo a3 (Cs 23) none)) := exn0_same ha3
    have x3 : ExcAt (upd G2 a3 (exo a3 (Cs 23) none)) a3 (Cs 23) := .inl upd_same
    revert u3 x3
    generalize (upd G2 a3 (exo a3 (Cs 23) none)) = G3
    intro u3 x3
    refine all_grow e5 (u0.trans (u1.trans (u2.trans u3))) (bs := [a0, a1, a2, a3]) (.cons (x0.same (u1.trans (u2.trans u3))) (.cons (x1.same (u2.trans u3)) (.cons (x2.same u3) (.cons x3 .nil)))) (Nat.le_of_ble_eq_true rfl) (Nat.le_of_ble_eq_true rfl) fun H6 p6 t6 n6 e6 => ?_
    have s6 : Same H H6 := s5.trans t6
    replace n6 : H p6 = none := s5.free n6
    refine ⟨_, rfl, _, rfl, v, rfl, fun a0 d0 ha0 hd0 hda0 => ?_⟩
    have u0 : Same H6 (upd (upd H6 d0 (exd d0 [(("value" : Str), v)])) a0 (exo a0 (Cs 24) (some d0))) := exn_same ha0 hd0
    have x0 : ExcAt (upd (upd H6 d0 (exd d0 [(("value" : Str), v)])) a0 (exo a0 (Cs 24) (some d0))) a0 (Cs 24) := exn_at hda0
    revert u0 x0
    generalize (upd (upd H6 d0 (exd d0 [(("value" : Str), v)])) a0 (exo a0 (Cs 24) (some d0))) = G0
    intro u0 x0
    refine fun a1 ha1 => ?_
    have u1 : Same G0 (upd G0 a1 (exo a1 (Cs 25) none)) := exn0_same ha1
    have x1 : ExcAt (upd G0 a1 (exo a1 (Cs 25) none)) a1 (Cs 25) := .inl upd_same
    revert u1 x1
    generalize (upd G0 a1 (exo a1 (Cs 25) none)) = G1
    intro u1 x1
    refine ⟨_, rfl, v, rfl, fun a2 d2 ha2 hd2 hda2 => ?_⟩
    have u2 : Same G1 (upd (upd G1 d2 (exd d2 [(("limit" : Str), v)])) a2 (exo a2 (Cs 26) (some d2))) := exn_same ha2 hd2
    have x2 : ExcAt (upd (upd G1 d2 (exd d2 [(("limit" : Str), v)])) a2 (exo a2 (Cs 26) (some d2))) a2 (Cs 26) := exn_at hda2
    revert u2 x2
    generalize (upd (upd G1 d2 (exd d2 [(("limit" : Str), v)])) a2 (exo a2 (Cs 26) (some d2))) = G2
    intro u2 x2
    refine all_grow e6 (u0.trans (u1.trans u2)) (bs := [a0, a1, a2]) (.cons (x0.same (u1.trans u2)) (.cons (x1.same u2) (.cons x2 .nil))) (Nat.le_of_ble_eq_true rfl) (Nat.le_of_ble_eq_true rfl) fun H7 p7 t7 n7 e7 => ?_
    have s7 : Same H H7 := s6.trans t7
    replace n7 : H p7 = none := s6.free n7
    exact ⟨_, rfl, k H7 p7 s7 n7 e7⟩
theorem scS : FnScope ["_law_left", "_law_right"] ["_law_left", "_law_right"] (defScope sSame) := ⟨rfl, rfl, rfl, by decide +kernel, rfl, by decide +kernel, by decide +kernel⟩
theorem ok_same {f : Addr} {fd : FuncData} (F : Fun K "_law_same" "_law_same" sSame f fd) (T : Txt K mg Cs Bs fs) : FnOk P w K mg base CX0 1 f fd ["_law_left", "_law_right"] spSame := by
  refine F.ok scS (fun vs H Q E h => ?_) (fun cdv A outer s H vs Q E hr h => ?_)
  · obtain ⟨v, rfl, _⟩ := h
    rfl
  · obtain ⟨v, rfl, hT, q⟩ := h
    refine ⟨_, pss_one (ps_ret (pe_and (pe_cmpR op_eq (pe_callB call_isi (by rfl) T.iN PyProof.Rows.boot_isinstance (pa_cons (pv 0) (pa_cons (pe_bltn (v := .ty "bool") rfl T.nBool (by decide +kernel) rfl) pa_nil)))
      (pe_callB call_isi (by rfl) T.iN PyProof.Rows.boot_isinstance (pa_cons (pv 1) (pa_cons (pe_bltn (v := .ty "bool") rfl T.nBool (by decide +kernel) rfl) pa_nil))) (nomark _)) (pe_one (pe_cmpR (op_eqSelf hr.units) (pv 0) (pv 1) (nomark _))))), ?_⟩
    obtain ⟨t, h1, h2⟩ := hT.ty (K := K)
    refine ⟨_, rfl, _, _, _, _, _, rfl, .ty _, h1, h2, _, rfl, _, _, _, _, _, rfl, .ty _, h1, h2, rfl, _, rfl, ?_⟩
    rw [decide_eq_true rfl, if_pos rfl]
    exact ⟨_, rfl, _, rfl, rfl, hT, q⟩
end
end K39

namespace K39
open PySem L2
open PySem.XV (CF IFc Fn_value Fn_index Fn_limit)
def spGood : Sp := fun vs H Q _ => ∃ v : V, vs = [v] ∧ Thing H v ∧ ∀ H', Same H H' → Q (.bl true) H'
def spLaw (K : PySem.W.Frag) : Sp := fun vs H Q _ => ∃ (a : Addr) (ns : List Int), vs = [.ref a] ∧ SqL K H a (ns.map V.int) ∧ ns.length ≤ 63 ∧ ∀ H', Q (.bl true) H'
theorem fl1 (f : Str) (v : V) : List.lookup f [(f, v)] = some v := by simp [List.lookup]
section
variable {P : Program} {w : World} {K : PySem.W.Frag} {mg : Str → Option Value} {base : Heap} {Cs Bs fs : Nat → Addr}

theorem scF : FnScope ["_law_thing", "_law_told"] ["_law_thing"] (defScope sFields) := ⟨rfl, rfl, rfl, by decide +kernel, rfl, by decide +kernel, by decide +kernel⟩
theorem ok_fields {f : Addr} {fd : FuncData} (F : Fun K "_law_fields" "_law_fields" sFields f fd) (T : Txt K mg Cs Bs fs) : FnOk P w K mg base CX0 2 f fd ["_law_thing"] spFields := by
  refine F.ok scF (fun vs H Q E h => ?_) (fun cdv A outer s H vs Q E hr h => ?_)
  · obtain ⟨v, rfl, _⟩ := h
    rfl
  · obtain ⟨v, rfl, k⟩ := h
    refine ⟨_, pss_cons (ps_set (i := 1) scF.nd rfl (Or.inl rfl) (pe_lst (pa_cons (pe_exf (pe_exv_value T.o0.1 T.o0.2.1 T.o0.2.2 hr rfl (T.g 0 (by decide)) (pa_cons (pv 0) pa_nil))) (pa_cons (pe_exf (pe_exk_value T.o1.1 T.o1.2.1 T.o1.2.2 hr rfl (T.g 1 (by decide)) (pk_cons (pv 0) pk_nil))) (pa_cons (pe_exf (pe_exv_value T.o2.1 T.o2.2.1 T.o2.2.2 hr rfl (T.g 2 (by decide)) (pa_cons (pv 0) pa_nil))) pa_nil)))))
      (pss_cons (ps_set (i := 1) scF.nd rfl (Or.inl rfl) (pe_op op_cat (pv 1) (pe_lst (pa_cons (pe_exf (pe_exv_value T.o3.1 T.o3.2.1 T.o3.2.2 hr rfl (T.g 3 (by decide)) (pa_cons (pv 0) pa_nil))) (pa_cons (pe_exf (pe_exv_value T.o4.1 T.o4.2.1 T.o4.2.2 hr rfl (T.g 4 (by decide)) (pa_cons (pv 0) pa_nil))) (pa_cons (pe_exf (pe_exk_value T.o5.1 T.o5.2.1 T.o5.2.2 hr rfl (T.g 5 (by decide)) (pk_cons (pv 0) pk_nil))) pa_nil))))))
      (pss_cons (ps_set (i := 1) scF.nd rfl (Or.inl rfl) (pe_op op_cat (pv 1) (pe_lst (pa_cons (pe_exf (pe_exv_value T.o6.1 T.o6.2.1 T.o6.2.2 hr rfl (T.g 6 (by decide)) (pa_cons (pv 0) pa_nil))) (pa_cons (pe_exf (pe_exv_value T.o7.1 T.o7.2.1 T.o7.2.2 hr rfl (T.g 7 (by decide)) (pa_cons (pv 0) pa_nil))) (pa_cons (pe_exf (pe_exv_value T.o8.1 T.o8.2.1 T.o8.2.2 hr rfl (T.g 8 (by decide)) (pa_cons (pv 0) pa_nil))) (pa_cons (pe_exf (pe_exv_value T.o9.1 T.o9.2.1 T.o9.2.2 hr rfl (T.g 9 (by decide)) (pa_cons (pv 0) pa_nil))) pa_nil)))))))
      (pss_cons (ps_set (i := 1) scF.nd rfl (Or.inl rfl) (pe_op op_cat (pv 1) (pe_lst (pa_cons (pe_exf (pe_exk_value T.o10.1 T.o10.2.1 T.o10.2.2 hr rfl (T.g 10 (by decide)) (pk_cons (pv 0) pk_nil))) (pa_cons (pe_exf (pe_exv_value T.o11.1 T.o11.2.1 T.o11.2.2 hr rfl (T.g 11 (by decide)) (pa_cons (pv 0) pa_nil))) (pa_cons (pe_exf (pe_exv_value T.o12.1 T.o12.2.1 T.o12.2.2 hr rfl (T.g 12 (by decide)) (pa_cons (pv 0) pa_nil))) pa_nil))))))
      (pss_cons (ps_set (i := 1) scF.nd rfl (Or.inl rfl) (pe_op op_cat (pv 1) (pe_lst (pa_cons (pe_exf (pe_exv_value T.o13.1 T.o13.2.1 T.o13.2.2 hr rfl (T.g 13 (by decide)) (pa_cons (pv 0) pa_nil))) (pa_cons (pe_exf (pe_exv_index T.o14.1 T.o14.2.1 T.o14.2.2 hr rfl (T.g 14 (by decide)) (pa_cons (pv 0) pa_nil))) (pa_cons (pe_exf (pe_exk_index T.o15.1 T.o15.2.1 T.o15.2.2 hr rfl (T.g 15 (by decide)) (pk_cons (pv 0) pk_nil))) pa_nil))))))
      (pss_cons (ps_set (i := 1) scF.nd rfl (Or.inl rfl) (pe_op op_cat (pv 1) (pe_lst (pa_cons (pe_exf (pe_exv_index T.o16.1 T.o16.2.1 T.o16.2.2 hr rfl (T.g 16 (by decide)) (pa_cons (pv 0) pa_nil))) (pa_cons (pe_exf (pe_exv_index T.o17.1 T.o17.2.1 T.o17.2.2 hr rfl (T.g 17 (by decide)) (pa_cons (pv 0) pa_nil))) (pa_cons (pe_exf (pe_exk_index T.o18.1 T.o18.2.1 T.o18.2.2 hr rfl (T.g 18 (by decide)) (pk_cons (pv 0) pk_nil))) pa_nil))))))
      (pss_cons (ps_set (i := 1) scF.nd rfl (Or.inl rfl) (pe_op op_cat (pv 1) (pe_lst (pa_cons (pe_exf (pe_exk_value T.o19.1 T.o19.2.1 T.o19.2.2 hr rfl (T.g 19 (by decide)) (pk_cons (pv 0) pk_nil))) (pa_cons (pe_exf (pe_exv_value T.o20.1 T.o20.2.1 T.o20.2.2 hr rfl (T.g 20 (by decide)) (pa_cons (pv 0) pa_nil))) (pa_cons (pe_exf (pe_exv_value T.o21.1 T.o21.2.1 T.o21.2.2 hr rfl (T.g 21 (by decide)) (pa_cons (pv 0) pa_nil))) pa_nil))))))
      (pss_one (ps_ret (pe_op op_cat (pv 1) (pe_lst (pa_cons (pe_exf (pe_exv_value T.o22.1 T.o22.2.1 T.o22.2.2 hr rfl (T.g 22 (by decide)) (pa_cons (pv 0) pa_nil))) (pa_cons (pe_exf (pe_exk_value T.o24.1 T.o24.2.1 T.o24.2.2 hr rfl (T.g 24 (by decide)) (pk_cons (pv 0) pk_nil))) (pa_cons (pe_exf (pe_exk_limit T.o26.1 T.o26.2.1 T.o26.2.2 hr rfl (T.g 26 (by decide)) (pk_cons (pv 0) pk_nil))) pa_nil))))))))))))), ?_⟩
    refine ⟨_, rfl, v, rfl, fun a0 d0 ha0 hd0 hda0 => ⟨a0, Cs 0, d0, v, _, rfl, T.ec 0 (by decide), T.o0.2.1.noN, upd_same, Eq.trans (upd_ne hda0) upd_same, fl1 _ _, ?_⟩⟩
    have u0 : Same H (upd (upd H d0 (exd d0 [(("value" : Str), v)])) a0 (exo a0 (Cs 0) (some d0))) := exn_same ha0 hd0
    revert u0
    generalize (upd (upd H d0 (exd d0 [(("value" : Str), v)])) a0 (exo a0 (Cs 0) (some d0))) = G0
    intro u0
    refine ⟨_, rfl, v, rfl, fun a1 d1 ha1 hd1 hda1 => ⟨a1, Cs 1, d1, v, _, rfl, T.ec 1 (by decide), T.o1.2.1.noN, upd_same, Eq.trans (upd_ne hda1) upd_same, fl1 _ _, ?_⟩⟩
    have u1 : Same G0 (upd (upd G0 d1 (exd d1 [(("value" : Str), v)])) a1 (exo a1 (Cs 1) (some d1))) := exn_same ha1 hd1
    revert u1
    generalize (upd (upd G0 d1 (exd d1 [(("value" : Str), v)])) a1 (exo a1 (Cs 1) (some d1))) = G1
    intro u1
    refine ⟨_, rfl, v, rfl, fun a2 d2 ha2 hd2 hda2 => ⟨a2, Cs 2, d2, v, _, rfl, T.ec 2 (by decide), T.o2.2.1.noN, upd_same, Eq.trans (upd_ne hda2) upd_same, fl1 _ _, ?_⟩⟩
    have u2 : Same G1 (upd (upd G1 d2 (exd d2 [(("value" : Str), v)])) a2 (exo a2 (Cs 2) (some d2))) := exn_same ha2 hd2
    revert u2
    generalize (upd (upd G1 d2 (exd d2 [(("value" : Str), v)])) a2 (exo a2 (Cs 2) (some d2))) = G2
    intro u2
    refine ⟨by show 3 ≤ sizeLine; decide, fun p1 n1 => ?_⟩
    have s1 : Same H (upd G2 p1 (.lst [v, v, v])) := (u0.trans (u1.trans u2)).trans (exn0_same n1)
    replace n1 : H p1 = none := ((u0.trans (u1.trans u2)) : Same H G2).free n1
    have e1 : (upd G2 p1 (.lst [v, v, v])) p1 = some (.lst (List.replicate 3 v)) := upd_same
    revert s1 e1
    generalize upd G2 p1 (.lst [v, v, v]) = H1
    intro s1 e1
    refine ⟨_, rfl, _, rfl, v, rfl, fun a0 d0 ha0 hd0 hda0 => ⟨a0, Cs 3, d0, v, _, rfl, T.ec 3 (by decide), T.o3.2.1.noN, upd_same, Eq.trans (upd_ne hda0) upd_same, fl1 _ _, ?_⟩⟩
    have u0 : Same H1 (upd (upd H1 d0 (exd d0 [(("value" : Str), v)])) a0 (exo a0 (Cs 3) (some d0))) := exn_same ha0 hd0
    revert u0
    generalize (upd (upd H1 d0 (exd d0 [(("value" : Str), v)])) a0 (exo a0 (Cs 3) (some d0))) = G0
    intro u0
    refine ⟨_, rfl, v, rfl, fun a1 d1 ha1 hd1 hda1 => ⟨a1, Cs 4, d1, v, _, rfl, T.ec 4 (by decide), T.o4.2.1.noN, upd_same, Eq.trans (upd_ne hda1) upd_same, fl1 _ _, ?_⟩⟩
    have u1 : Same G0 (upd (upd G0 d1 (exd d1 [(("value" : Str), v)])) a1 (exo a1 (Cs 4) (some d1))) := exn_same ha1 hd1
    revert u1
    generalize (upd (upd G0 d1 (exd d1 [(("value" : Str), v)])) a1 (exo a1 (Cs 4) (some d1))) = G1
    intro u1
    refine ⟨_, rfl, v, rfl, fun a2 d2 ha2 hd2 hda2 => ⟨a2, Cs 5, d2, v, _, rfl, T.ec 5 (by decide), T.o5.2.1.noN, upd_same, Eq.trans (upd_ne hda2) upd_same, fl1 _ _, ?_⟩⟩
    have u2 : Same G1 (upd (upd G1 d2 (exd d2 [(("value" : Str), v)])) a2 (exo a2 (Cs 5) (some d2))) := exn_same ha2 hd2
    revert u2
    generalize (upd (upd G1 d2 (exd d2 [(("value" : Str), v)])) a2 (exo a2 (Cs 5) (some d2))) = G2
    intro u2
    refine grow_k (((u0.trans (u1.trans u2)) : Same H1 G2) _ _ e1) (by rw [List.length_replicate]; decide) (Nat.le_of_ble_eq_true rfl) fun H2 p2 t2 n2 e2 => ?_
    have s2 : Same H H2 := s1.trans (((u0.trans (u1.trans u2)) : Same H1 G2).trans t2)
    replace n2 : H p2 = none := s1.free (((u0.trans (u1.trans u2)) : Same H1 G2).free n2)
    replace e2 : H2 p2 = some (.lst (List.replicate 6 v)) := e2
    refine ⟨_, rfl, _, rfl, v, rfl, fun a0 d0 ha0 hd0 hda0 => ⟨a0, Cs 6, d0, v, _, rfl, T.ec 6 (by decide), T.o6.2.1.noN, upd_same, Eq.trans (upd_ne hda0) upd_same, fl1 _ _, ?_⟩⟩
    have u0 : Same H2 (upd (upd H2 d0 (exd d0 [(("value" : Str), v)])) a0 (exo a0 (Cs 6) (some d0))) := exn_same ha0 hd0
    revert u0
    generalize (upd (upd H2 d0 (exd d0 [(("value" : Str), v)])) a0 (exo a0 (Cs 6) (some d0))) = G0
    intro u0
    refine ⟨_, rfl, v, rfl, fun a1 d1 ha1 hd1 hda1 => ⟨a1, Cs 7, d1, v, _, rfl, T.ec 7 (by decide), T.o7.2.1.noN, upd_same, Eq.trans (upd_ne hda1) upd_same, fl1 _ _, ?_⟩⟩
    have u1 : Same G0 (upd (upd G0 d1 (exd d1 [(("value" : Str), v)])) a1 (exo a1 (Cs 7) (some d1))) := exn_same ha1 hd1
    revert u1
    generalize (upd (upd G0 d1 (exd d1 [(("value" : Str), v)])) a1 (exo a1 (Cs 7) (some d1))) = G1
    intro u1
    refine ⟨_, rfl, v, rfl, fun a2 d2 ha2 hd2 hda2 => ⟨a2, Cs 8, d2, v, _, rfl, T.ec 8 (by decide), T.o8.2.1.noN, upd_same, Eq.trans (upd_ne hda2) upd_same, fl1 _ _, ?_⟩⟩
    have u2 : Same G1 (upd (upd G1 d2 (exd d2 [(("value" : Str), v)])) a2 (exo a2 (Cs 8) (some d2))) := exn_same ha2 hd2
    revert u2
    generalize (upd (upd G1 d2 (exd d2 [(("value" : Str), v)])) a2 (exo a2 (Cs 8) (some d2))) = G2
    intro u2
    refine ⟨_, rfl, v, rfl, fun a3 d3 ha3 hd3 hda3 => ⟨a3, Cs 9, d3, v, _, rfl, T.ec 9 (by decide), T.o9.2.1.noN, upd_same, Eq.trans (upd_ne hda3) upd_same, fl1 _ _, ?_⟩⟩
    have u3 : Same G2 (upd (upd G2 d3 (exd d3 [(("value" : Str), v)])) a3 (exo a3 (Cs 9) (some d3))) := exn_same ha3 hd3
    revert u3
    generalize (upd (upd G2 d3 (exd d3 [(("value" : Str), v)])) a3 (exo a3 (Cs 9) (some d3))) = G3
    intro u3
    refine grow_k (((u0.trans (u1.trans (u2.trans u3))) : Same H2 G3) _ _ e2) (by rw [List.length_replicate]; decide) (Nat.le_of_ble_eq_true rfl) fun H3 p3 t3 n3 e3 => ?_
    have s3 : Same H H3 := s2.trans (((u0.trans (u1.trans (u2.trans u3))) : Same H2 G3).trans t3)
    replace n3 : H p3 = none := s2.free (((u0.trans (u1.trans (u2.trans u3))) : Same H2 G3).free n3)
    replace e3 : H3 p3 = some (.lst (List.replicate 10 v)) := e3
    refine ⟨_, rfl, _, rfl, v, rfl, fun a0 d0 ha0 hd0 hda0 => ⟨a0, Cs 10, d0, v, _, rfl, T.ec 10 (by decide), T.o10.2.1.noN, upd_same, Eq.trans (upd_ne hda0) upd_same, fl1 _ _, ?_⟩⟩
    have u0 : Same H3 (upd (upd H3 d0 (exd d0 [(("value" : Str), v)])) a0 (exo a0 (Cs 10) (some d0))) := exn_same ha0 hd0
    revert u0
    generalize (upd (upd H3 d0 (exd d0 [(("value" : Str), v)])) a0 (exo a0 (Cs 10) (some d0))) = G0
    intro u0
    refine ⟨_, rfl, v, rfl, fun a1 d1 ha1 hd1 hda1 => ⟨a1, Cs 11, d1, v, _, rfl, T.ec 11 (by decide), T.o11.2.1.noN, upd_same, Eq.trans (upd_ne hda1) upd_same, fl1 _ _, ?_⟩⟩
    have u1 : Same G0 (upd (upd G0 d1 (exd d1 [(("value" : Str), v)])) a1 (exo a1 (Cs 11) (some d1))) := exn_same ha1 hd1
    revert u1
    generalize (upd (upd G0 d1 (exd d1 [(("value" : Str), v)])) a1 (exo a1 (Cs 11) (some d1))) = G1
    intro u1
    refine ⟨_, rfl, v, rfl, fun a2 d2 ha2 hd2 hda2 => ⟨a2, Cs 12, d2, v, _, rfl, T.ec 12 (by decide), T.o12.2.1.noN, upd_same, Eq.trans (upd_ne hda2) upd_same, fl1 _ _, ?_⟩⟩
    have u2 : Same G1 (upd (upd G1 d2 (exd d2 [(("value" : Str), v)])) a2 (exo a2 (Cs 12) (some d2))) := exn_same ha2 hd2
    revert u2
    generalize (upd (upd G1 d2 (exd d2 [(("value" : Str), v)])) a2 (exo a2 (Cs 12) (some d2))) = G2
    intro u2
    refine grow_k (((u0.trans (u1.trans u2)) : Same H3 G2) _ _ e3) (by rw [List.length_replicate]; decide) (Nat.le_of_ble_eq_true rfl) fun H4 p4 t4 n4 e4 => ?_
    have s4 : Same H H4 := s3.trans (((u0.trans (u1.trans u2)) : Same H3 G2).trans t4)
    replace n4 : H p4 = none := s3.free (((u0.trans (u1.trans u2)) : Same H3 G2).free n4)
    replace e4 : H4 p4 = some (.lst (List.replicate 13 v)) := e4
    refine ⟨_, rfl, _, rfl, v, rfl, fun a0 d0 ha0 hd0 hda0 => ⟨a0, Cs 13, d0, v, _, rfl, T.ec 13 (by decide), T.o13.2.1.noN, upd_same, Eq.trans (upd_ne hda0) upd_same, fl1 _ _, ?_⟩⟩
    have u0 : Same H4 (upd (upd H4 d0 (exd d0 [(("value" : Str), v)])) a0 (exo a0 (Cs 13) (some d0))) := exn_same ha0 hd0
    revert u0
    generalize (upd (upd H4 d0 (exd d0 [(("value" : Str), v)])) a0 (exo a0 (Cs 13) (some d0))) = G0
    intro u0
    refine ⟨_, rfl, v, rfl, fun a1 d1 ha1 hd1 hda1 => ⟨a1, Cs 14, d1, v, _, rfl, T.ec 14 (by decide), T.o14.2.1.noN, upd_same, Eq.trans (upd_ne hda1) upd_same, fl1 _ _, ?_⟩⟩
    have u1 : Same G0 (upd (upd G0 d1 (exd d1 [(("index" : Str), v)])) a1 (exo a1 (Cs 14) (some d1))) := exn_same ha1 hd1
    revert u1
    generalize (upd (upd G0 d1 (exd d1 [(("index" : Str), v)])) a1 (exo a1 (Cs 14) (some d1))) = G1
    intro u1
    refine ⟨_, rfl, v, rfl, fun a2 d2 ha2 hd2 hda2 => ⟨a2, Cs 15, d2, v, _, rfl, T.ec 15 (by decide), T.o15.2.1.noN, upd_same, Eq.trans (upd_ne hda2) upd_same, fl1 _ _, ?_⟩⟩
    have u2 : Same G1 (upd (upd G1 d2 (exd d2 [(("index" : Str), v)])) a2 (exo a2 (Cs 15) (some d2))) := exn_same ha2 hd2
    revert u2
    generalize (upd (upd G1 d2 (exd d2 [(("index" : Str), v)])) a2 (exo a2 (Cs 15) (some d2))) = G2
    intro u2
    refine grow_k (((u0.trans (u1.trans u2)) : Same H4 G2) _ _ e4) (by rw [List.length_replicate]; decide) (Nat.le_of_ble_eq_true rfl) fun H5 p5 t5 n5 e5 => ?_
    have s5 : Same H H5 := s4.trans (((u0.trans (u1.trans u2)) : Same H4 G2).trans t5)
    replace n5 : H p5 = none := s4.free (((u0.trans (u1.trans u2)) : Same H4 G2).free n5)
    replace e5 : H5 p5 = some (.lst (List.replicate 16 v)) := e5
    refine ⟨_, rfl, _, rfl, v, rfl, fun a0 d0 ha0 hd0 hda0 => ⟨a0, Cs 16, d0, v, _, rfl, T.ec 16 (by decide), T.o16.2.1.noN, upd_same, Eq.trans (upd_ne hda0) upd_same, fl1 _ _, ?_⟩⟩
    have u0 : Same H5 (upd (upd H5 d0 (exd d0 [(("index" : Str), v)])) a0 (exo a0 (Cs 16) (some d0))) := exn_same ha0 hd0
    revert u0
    generalize (upd (upd H5 d0 (exd d0 [(("index" : Str), v)])) a0 (exo a0 (Cs 16) (some d0))) = G0
    intro u0
    refine ⟨_, rfl, v, rfl, fun a1 d1 ha1 hd1 hda1 => ⟨a1, Cs 17, d1, v, _, rfl, T.ec 17 (by decide), T.o17.2.1.noN, upd_same, Eq.trans (upd_ne hda1) upd_same, fl1 _ _, ?_⟩⟩
    have u1 : Same G0 (upd (upd G0 d1 (exd d1 [(("index" : Str), v)])) a1 (exo a1 (Cs 17) (some d1))) := exn_same ha1 hd1
    revert u1
    generalize (upd (upd G0 d1 (exd d1 [(("index" : Str), v)])) a1 (exo a1 (Cs 17) (some d1))) = G1
    intro u1
    refine ⟨_, rfl, v, rfl, fun a2 d2 ha2 hd2 hda2 => ⟨a2, Cs 18, d2, v, _, rfl, T.ec 18 (by decide), T.o18.2.1.noN, upd_same, Eq.trans (upd_ne hda2) upd_same, fl1 _ _, ?_⟩⟩
    have u2 : Same G1 (upd (upd G1 d2 (exd d2 [(("index" : Str), v)])) a2 (exo a2 (Cs 18) (some d2))) := exn_same ha2 hd2
    revert u2
    generalize (upd (upd G1 d2 (exd d2 [(("index" : Str), v)])) a2 (exo a2 (Cs 18) (some d2))) = G2
    intro u2
    refine grow_k (((u0.trans (u1.trans u2)) : Same H5 G2) _ _ e5) (by rw [List.length_replicate]; decide) (Nat.le_of_ble_eq_true rfl) fun H6 p6 t6 n6 e6 => ?_
    have s6 : Same H H6 := s5.trans (((u0.trans (u1.trans u2)) : Same H5 G2).trans t6)
    replace n6 : H p6 = none := s5.free (((u0.trans (u1.trans u2)) : Same H5 G2).free n6)
    replace e6 : H6 p6 = some (.lst (List.replicate 19 v)) := e6
    refine ⟨_, rfl, _, rfl, v, rfl, fun a0 d0 ha0 hd0 hda0 => ⟨a0, Cs 19, d0, v, _, rfl, T.ec 19 (by decide), T.o19.2.1.noN, upd_same, Eq.trans (upd_ne hda0) upd_same, fl1 _ _, ?_⟩⟩
    have u0 : Same H6 (upd (upd H6 d0 (exd d0 [(("value" : Str), v)])) a0 (exo a0 (Cs 19) (some d0))) := exn_same ha0 hd0
    revert u0
    generalize (upd (upd H6 d0 (exd d0 [(("value" : Str), v)])) a0 (exo a0 (Cs 19) (some d0))) = G0
    intro u0
    refine ⟨_, rfl, v, rfl, fun a1 d1 ha1 hd1 hda1 => ⟨a1, Cs 20, d1, v, _, rfl, T.ec 20 (by decide), T.o20.2.1.noN, upd_same, Eq.trans (upd_ne hda1) upd_same, fl1 _ _, ?_⟩⟩
    have u1 : Same G0 (upd (upd G0 d1 (exd d1 [(("value" : Str), v)])) a1 (exo a1 (Cs 20) (some d1))) := exn_same ha1 hd1
    revert u1
    generalize (upd (upd G0 d1 (exd d1 [(("value" : Str), v)])) a1 (exo a1 (Cs 20) (some d1))) = G1
    intro u1
    refine ⟨_, rfl, v, rfl, fun a2 d2 ha2 hd2 hda2 => ⟨a2, Cs 21, d2, v, _, rfl, T.ec 21 (by decide), T.o21.2.1.noN, upd_same, Eq.trans (upd_ne hda2) upd_same, fl1 _ _, ?_⟩⟩
    have u2 : Same G1 (upd (upd G1 d2 (exd d2 [(("value" : Str), v)])) a2 (exo a2 (Cs 21) (some d2))) := exn_same ha2 hd2
    revert u2
    generalize (upd (upd G1 d2 (exd d2 [(("value" : Str), v)])) a2 (exo a2 (Cs 21) (some d2))) = G2
    intro u2
    refine grow_k (((u0.trans (u1.trans u2)) : Same H6 G2) _ _ e6) (by rw [List.length_replicate]; decide) (Nat.le_of_ble_eq_true rfl) fun H7 p7 t7 n7 e7 => ?_
    have s7 : Same H H7 := s6.trans (((u0.trans (u1.trans u2)) : Same H6 G2).trans t7)
    replace n7 : H p7 = none := s6.free (((u0.trans (u1.trans u2)) : Same H6 G2).free n7)
    replace e7 : H7 p7 = some (.lst (List.replicate 22 v)) := e7
    refine ⟨_, rfl, _, rfl, v, rfl, fun a0 d0 ha0 hd0 hda0 => ⟨a0, Cs 22, d0, v, _, rfl, T.ec 22 (by decide), T.o22.2.1.noN, upd_same, Eq.trans (upd_ne hda0) upd_same, fl1 _ _, ?_⟩⟩
    have u0 : Same H7 (upd (upd H7 d0 (exd d0 [(("value" : Str), v)])) a0 (exo a0 (Cs 22) (some d0))) := exn_same ha0 hd0
    revert u0
    generalize (upd (upd H7 d0 (exd d0 [(("value" : Str), v)])) a0 (exo a0 (Cs 22) (some d0))) = G0
    intro u0
    refine ⟨_, rfl, v, rfl, fun a1 d1 ha1 hd1 hda1 => ⟨a1, Cs 24, d1, v, _, rfl, T.ec 24 (by decide), T.o24.2.1.noN, upd_same, Eq.trans (upd_ne hda1) upd_same, fl1 _ _, ?_⟩⟩
    have u1 : Same G0 (upd (upd G0 d1 (exd d1 [(("value" : Str), v)])) a1 (exo a1 (Cs 24) (some d1))) := exn_same ha1 hd1
    revert u1
    generalize (upd (upd G0 d1 (exd d1 [(("value" : Str), v)])) a1 (exo a1 (Cs 24) (some d1))) = G1
    intro u1
    refine ⟨_, rfl, v, rfl, fun a2 d2 ha2 hd2 hda2 => ⟨a2, Cs 26, d2, v, _, rfl, T.ec 26 (by decide), T.o26.2.1.noN, upd_same, Eq.trans (upd_ne hda2) upd_same, fl1 _ _, ?_⟩⟩
    have u2 : Same G1 (upd (upd G1 d2 (exd d2 [(("limit" : Str), v)])) a2 (exo a2 (Cs 26) (some d2))) := exn_same ha2 hd2
    revert u2
    generalize (upd (upd G1 d2 (exd d2 [(("limit" : Str), v)])) a2 (exo a2 (Cs 26) (some d2))) = G2
    intro u2
    refine grow_k (((u0.trans (u1.trans u2)) : Same H7 G2) _ _ e7) (by rw [List.length_replicate]; decide) (Nat.le_of_ble_eq_true rfl) fun H8 p8 t8 n8 e8 => ?_
    have s8 : Same H H8 := s7.trans (((u0.trans (u1.trans u2)) : Same H7 G2).trans t8)
    replace n8 : H p8 = none := s7.free (((u0.trans (u1.trans u2)) : Same H7 G2).free n8)
    replace e8 : H8 p8 = some (.lst (List.replicate 25 v)) := e8
    exact k H8 p8 s8 n8 e8

/-! ### _law_good -/
theorem scG : FnScope ["_law_thing", "_law_places", "_law_at", "_law_e", "_law_kinds_here", "_law_due", "_law_k", "_law_told"] ["_law_thing"] (defScope sGood) := ⟨rfl, rfl, rfl, by decide +kernel, rfl, by decide +kernel, by decide +kernel⟩
def places : List Int := [0, 0, 0, 0, 0, 0, 0, 0, 0, 0, 0, 0, 0, 0, 0, 0, 0, 0, 0, 1, 1, 1, 1, 1, 2, 2, 3]
theorem places_at {i : Nat} (h : i < 27) : places[i]? = some (bi i : Int) := by
  have : ∀ i, i < 27 → places[i]? = some (bi i : Int) := by decide
  exact this i h
theorem pair_at {H : Hp} : ∀ {as cs : List Addr} {i : Nat}, Paired (ExcAt H) as cs → i < as.length → ∃ a c, as[i]? = some a ∧ cs[i]? = some c ∧ ExcAt H a c
  | _, _, _, .nil, h => absurd h (Nat.not_lt_zero _)
  | a :: _, c :: _, 0, .cons h _, _ => ⟨a, c, rfl, rfl, h⟩
  | _ :: _, _ :: _, i + 1, .cons _ t, h => by
    obtain ⟨a, c, h1, h2, h3⟩ := pair_at (i := i) t (Nat.lt_of_succ_lt_succ h)
    exact ⟨a, c, by simpa using h1, by simpa using h2, h3⟩
theorem kinds_count {i : Nat} (h : i < 27) : (kindsL i).count true = 1 := by
  have : ∀ i, i < 27 → (kindsL i).count true = 1 := by decide
  exact this i h
theorem kinds_at {i : Nat} (h : i < 27) : ((kindsL i).map V.bl)[i]? = some (.bl true) := by
  have : ∀ i, i < 27 → (kindsL i)[i]? = some true := by decide
  rw [List.getElem?_map, this i h]
  rfl
theorem bools_data {K : PySem.W.Frag} {H : Hp} : ∀ bs : List Bool, DpAll K H (bs.map V.bl) (bs.map PyData.bool)
  | [] => .nil
  | b :: bs => .cons (.bl b) (bools_data bs)
theorem bools_eqv : ∀ bs : List Bool, PyData.eqvAll (bs.map PyData.bool) (bs.map PyData.bool) = true
  | [] => by simp [PyData.eqvAll]
  | b :: bs => by
    have ih := bools_eqv bs
    simp [PyData.eqvAll, PyData.eqv, ih]
structure Defs (K : PySem.W.Frag) (mg : Str → Option Value) (fK fA fB fS fF : Addr) (dK dA dB dS dF : FuncData) : Prop where
  FK : Fun K "_law_kinds" "_law_kinds" sKinds fK dK
  FA : Fun K "_law_all" "_law_all" sAll fA dA
  FB : Fun K "_law_bases" "_law_bases" sBases fB dB
  FS : Fun K "_law_same" "_law_same" sSame fS dS
  FF : Fun K "_law_fields" "_law_fields" sFields fF dF
  bK : Binds K dK ["_law_e"] []
  bA : Binds K dA ["_law_thing"] []
  bB : Binds K dB ["_law_e"] []
  bS : Binds K dS ["_law_left", "_law_right"] []
  bF : Binds K dF ["_law_thing"] []
  mK : mg "_law_kinds" = some (.ref fK)
  mA : mg "_law_all" = some (.ref fA)
  mB : mg "_law_bases" = some (.ref fB)
  mS : mg "_law_same" = some (.ref fS)
  mF : mg "_law_fields" = some (.ref fF)
theorem ok_good {f fK fA fB fS fF : Addr} {fd dK dA dB dS dF : FuncData} (F : Fun K "_law_good" "_law_good" sGood f fd) (T : Txt K mg Cs Bs fs) (D : Defs K mg fK fA fB fS fF dK dA dB dS dF) : FnOk P w K mg base CX0 3 f fd ["_law_thing"] spGood := by
  have GK : FnOk P w K mg base CX0 1 fK dK ["_law_e"] (spKinds Cs) := ok_kinds D.FK T
  have GA : FnOk P w K mg base CX0 2 fA dA ["_law_thing"] (spAll Cs) := ok_all D.FA T
  have GB : FnOk P w K mg base CX0 1 fB dB ["_law_e"] (spBases Cs) := ok_bases D.FB T
  have GS : FnOk P w K mg base CX0 1 fS dS ["_law_left", "_law_right"] spSame := ok_same D.FS T
  have GF : FnOk P w K mg base CX0 2 fF dF ["_law_thing"] spFields := ok_fields D.FF T
  refine F.ok scG (fun vs H Q E h => ?_) (fun cdv A outer s H vs Q E hr h => ?_)
  · obtain ⟨v, rfl, _⟩ := h
    rfl
  · obtain ⟨v, rfl, hT, k⟩ := h
    have hr1 : Room 1 _ := hr.mono (by decide)
    refine ⟨_, pss_cons (ps_set (i := 1) scG.nd rfl (Or.inr rfl) (pe_lst (pa_cons (pe_int) (pa_cons (pe_int) (pa_cons (pe_int) (pa_cons (pe_int) (pa_cons (pe_int) (pa_cons (pe_int) (pa_cons (pe_int) (pa_cons (pe_int) (pa_cons (pe_int) (pa_cons (pe_int) (pa_cons (pe_int) (pa_cons (pe_int) (pa_cons (pe_int) (pa_cons (pe_int) (pa_cons (pe_int) (pa_cons (pe_int) (pa_cons (pe_int) (pa_cons (pe_int) (pa_cons (pe_int) (pa_cons (pe_int) (pa_cons (pe_int) (pa_cons (pe_int) (pa_cons (pe_int) (pa_cons (pe_int) (pa_cons (pe_int) (pa_cons (pe_int) (pa_cons (pe_int) pa_nil)))))))))))))))))))))))))))))
      (pss_cons (ps_for PassesOwn.never rfl (pi_enum (by rfl) T.nEnum (pa_cons (pe_call GA hr rfl D.mA D.FA.kp D.bA .nil pass0 (pa_cons (pv 0) pa_nil)) pa_nil))
          (pg_tup rfl (pgs_cons (pg_name (i := 2) scG.nd rfl (Or.inr rfl)) (pgs_cons (pg_name (i := 3) scG.nd rfl (Or.inl rfl)) pgs_nil)))
        (pss_cons (ps_set (i := 4) scG.nd rfl (Or.inl rfl) (pe_call GK hr1 rfl D.mK D.FK.kp D.bK .nil pass0 (pa_cons (pv 3) pa_nil)))
        (pss_cons (ps_setLc (i := 5) (own := [("_law_k", 6)]) (g := gName 6) (tt := tYes) (te := tOp rEq (tOp (rIxL K) (tVar 1) (tVar 2)) (tVar 6)) rfl scG.nd rfl rfl (sw_true rfl rfl rfl (by decide +kernel)) (pi_range1 rfl T.nRange (pa_cons pe_int pa_nil))
            (blkOk_by (own := [("_law_k", 6)]) (N := ["_law_thing", "_law_places", "_law_at", "_law_e", "_law_kinds_here", "_law_due", "_law_k", "_law_told"]) (sc := defScope sGood) (by decide +kernel))
            (fun _ _ _ _ _ => pg_name (i := 6) scG.nd rfl (Or.inl rfl)) (fun _ _ _ _ _ => pts_nil) (fun _ _ _ _ _ => pe_cmpR op_eq (pe_ix ix_list (pv 1) (pv 2) (fun _ _ => rfl)) (pv 6) (nomark _)))
        (pss_one (ps_if (PW.pt (pw_or (pt_cmpR op_ne (pe_bm PySem.F.plainAttrs_list PySem.F.slot_list_count PySem.F.type_list_count mt_lcountB (pv 4) (pa_cons pe_bl pa_nil)) pe_int (nomark _))
            (pw_or (pt_not (pt_val (pe_ix ix_list (pv 4) (pv 2) (fun _ _ => rfl))))
            (pw_or1 (pt_cmpR (op_neD hr.units) (pe_call GB hr1 rfl D.mB D.FB.kp D.bB .nil pass0 (pa_cons (pv 3) pa_nil)) (pe_op op_cat (pv 5) (pv 5)) (nomark _)))))) (pss_one (ps_ret pe_bl)) pss_nil)))))
      (pss_one (ps_ret (pe_callB (cr_all rfl) (by rfl) T.nAll PyProof.Rows.boot_all (pa_cons (pe_lc (own := [("_law_told", 7)]) (g := gName 7) (tt := tYes) (te := tCall spSame [] E0 (tCons (tVar 7) (tCons (tVar 0) tNil))) rfl scG.nd
            (pi_list (pe_call GF hr rfl D.mF D.FF.kp D.bF .nil pass0 (pa_cons (pv 0) pa_nil)))
            (blkOk_by (own := [("_law_told", 7)]) (N := ["_law_thing", "_law_places", "_law_at", "_law_e", "_law_kinds_here", "_law_due", "_law_k", "_law_told"]) (sc := defScope sGood) (by decide +kernel))
            (fun _ _ _ _ _ => pg_name (i := 7) scG.nd rfl (Or.inl rfl)) (fun _ _ _ _ _ => pts_nil) (fun _ _ _ _ _ => pe_call GS hr1 rfl D.mS D.FS.kp D.bS .nil pass0 (pa_cons (pv 7) (pa_cons (pv 0) pa_nil)))) pa_nil))))), ?_⟩
    -- places
    refine ⟨by show 27 ≤ sizeLine; decide, fun pp np => ?_⟩
    have s0 : Same H (upd H pp (.lst (places.map V.int))) := exn0_same np
    have e0 : (upd H pp (.lst (places.map V.int))) pp = some (.lst (places.map V.int)) := upd_same
    refine ⟨_, rfl, v, rfl, fun H1 q sq nq hq => ?_⟩
    obtain ⟨as, hp, hl⟩ := hq
    have hlen : as.length = 27 := by
      have e := Paired.length hp
      rw [List.length_map, List.length_range] at e
      exact e
    have s1 : Same H H1 := fun b o e => sq b o (s0 b o e)
    have e1 : H1 pp = some (.lst (places.map V.int)) := sq _ _ e0
    refine ⟨q, as.map V.ref, rfl, SqL.of hl, for_it walk_enum (fun _ σ H' => ∃ x2 x3 x4 x5 : Option V, σ = [some v, some (.ref pp), x2, x3, x4, x5, none, none] ∧ Same H1 H') ⟨_, _, _, _, rfl, Same.refl _⟩
      (fun _ _ _ _ ⟨_, _, _, _, _, z⟩ => z.seq (SqL.of hl)) ?_ ?_⟩
    · rintro i x σ H2 H3 hi ⟨x2, x3, x4, x5, rfl, z2⟩ ⟨T1, y1, y2, rfl, nT, rfl, h1, h2⟩
      rw [List.length_map, hlen] at hi
      obtain ⟨a, c, ha, hc, hE⟩ := pair_at (i := i) hp (by rw [hlen]; exact hi)
      have ec : c = Cs i := by
        rw [List.getElem?_map, List.getElem?_range hi] at hc
        exact (Option.some.inj hc).symm
      subst ec
      obtain rfl : V.int (i : Nat) = y1 := Option.some.inj h1
      have e2 : V.ref a = y2 := by
        replace h2 : (as.map V.ref)[i]? = some y2 := h2
        rw [List.getElem?_map, ha] at h2
        exact Option.some.inj h2
      subst e2
      refine ⟨T1, [.int (i : Nat), .ref a], rfl, SqT.of upd_same, rfl, _, _, rfl, _, _, rfl, rfl, ?_⟩
      have z3 : Same H1 (upd H2 T1 (.tup [.int (i : Nat), .ref a])) := z2.trans (exn0_same nT)
      revert z3
      generalize upd H2 T1 (.tup [.int (i : Nat), .ref a]) = H3
      intro z3
      have hE3 := hE.same z3
      refine ⟨_, rfl, a, i, rfl, hi, hE3, fun H4 p4 s4 n4 e4 => ?_⟩
      refine ⟨4, rfl, by decide, by decide, fun D1 nD => lc_it (walk_range (lo := 0) (n := 4)) (fun j H' => Same H4 H' ∧ H' D1 = some (.lst ((List.range j).map fun m => V.bl (decide (bi i = m)))))
        ⟨exn0_same nD, upd_same⟩ (fun _ _ _ _ => trivial) ?_ ?_⟩
      · rintro j x H5 H6 hj ⟨z5, e5⟩ ⟨rfl, rfl⟩
        refine ⟨rfl, ?_⟩
        refine ⟨_, rfl, _, rfl, pp, places.map V.int, (i : Nat), .int (bi i : Nat), rfl, rfl, SqL.of (z5 _ _ (s4 _ _ (z3 _ _ e1))), atI_nat (by rw [List.getElem?_map, places_at hi]; rfl), _, rfl, rfl, _, e5, ?_, ?_, ?_⟩
        · rw [List.length_map, List.length_range]
          exact small1000 (by omega)
        · intro b o e
          rw [upd_ne (ne_of_none e nD)]
          exact z5 b o e
        · rw [upd_same, List.range_succ, List.map_append]
          have ed : decide (V.int (bi i : Nat) = V.int (0 + (j : Nat))) = decide (bi i = j) := by
            rw [dec_int]
            by_cases h : bi i = j
            · rw [h]; simp
            · have h' : ¬ ((bi i : Nat) : Int) = 0 + (j : Nat) := by omega
              rw [decide_eq_false h]
              exact beq_eq_false_iff_ne.mpr h'
          rw [ed]
          rfl
      · rintro H5 ⟨z5, e5⟩
        have e4' := z5 _ _ e4
        have hE5 := hE3.same (s4.trans z5)
        have z15 : Same H1 H5 := z3.trans (s4.trans z5)
        refine ⟨_, rfl, .inl ⟨rfl, _, SqL.of e4'⟩, p4, kindsL i, rfl, rfl, SqL.of e4', rfl, _, rfl, iteNS (by rw [kinds_count hi]; rfl) ?_⟩
        refine ⟨_, rfl, _, rfl, p4, _, (i : Nat), .bl true, rfl, rfl, SqL.of e4', atI_nat (kinds_at hi), true, rfl, iteF ?_⟩
        refine ⟨_, rfl, a, i, rfl, hi, hE5, fun H6 p6 s6 n6 e6 => ?_⟩
        have e5' := s6 _ _ e5
        have eb : (List.range 4).map (fun m => V.bl (decide (bi i = m))) = (basesL i).map V.bl := rfl
        rw [eb] at e5'
        refine ⟨_, rfl, _, rfl, D1, D1, _, _, rfl, rfl, e5', e5', by show 4 + 4 ≤ sizeLine; decide, fun p7 n7 => ?_⟩
        have np7 : p6 ≠ p7 := ne_of_none e6 n7
        have z17 : Same H1 (upd H6 p7 (.lst ((basesL i).map V.bl ++ (basesL i).map V.bl))) := z15.trans (s6.trans (exn0_same n7))
        refine ⟨.list ((basesL i ++ basesL i).map PyData.bool), .list ((basesL i ++ basesL i).map PyData.bool), .lst (SqL.of (by rw [upd_ne np7]; exact e6)) (bools_data _), .lst (SqL.of (by rw [upd_same, ← List.map_append])) (bools_data _), rfl, rfl, _, rfl, ?_⟩
        have ev : PyData.eqv (.list ((basesL i ++ basesL i).map PyData.bool)) (.list ((basesL i ++ basesL i).map PyData.bool)) = true := by
          have h := bools_eqv (basesL i ++ basesL i)
          simp only [PyData.eqv]
          exact h
        rw [ev]
        exact iteF ⟨_, _, _, _, rfl, z17⟩
    · rintro σ H2 ⟨x2, x3, x4, x5, rfl, z2⟩
      refine ⟨_, rfl, v, rfl, fun H3 q3 s3 n3 e3 => ⟨q3, rfl, ⟨_, SqL.of e3⟩, fun D1 nD => lc_it (walk_list (K := K) (a := q3) (xs := List.replicate 25 v)) (fun j H' => Same H3 H' ∧ H' D1 = some (.lst ((List.replicate j true).map V.bl)))
        ⟨exn0_same nD, upd_same⟩ (fun _ _ _ z => z.1.seq (SqL.of e3)) ?_ ?_⟩⟩
      · rintro j x H5 H6 hj ⟨z5, e5⟩ ⟨rfl, hx⟩
        have hv : v = x := by
          rw [List.length_replicate] at hj
          rw [List.getElem?_replicate, if_pos hj] at hx
          exact Option.some.inj hx
        subst hv
        refine ⟨rfl, ?_⟩
        refine ⟨_, rfl, _, rfl, v, rfl, hT.same (s1.trans (z2.trans (s3.trans z5))), _, e5, ?_, ?_, ?_⟩
        · rw [List.length_replicate] at hj
          rw [List.length_map, List.length_replicate]
          exact small1000 (by omega)
        · intro b o e
          rw [upd_ne (ne_of_none e nD)]
          exact z5 b o e
        · rw [upd_same, List.replicate_succ', List.map_append]
          rfl
      · rintro H5 ⟨z5, e5⟩
        rw [List.length_replicate] at e5
        exact ⟨D1, List.replicate 25 true, rfl, SqL.of e5, k H5 (s1.trans (z2.trans (s3.trans z5)))⟩
end
end K39

namespace K39
open PySem L2
open PySem.XV (CF IFc Fn_value Fn_index Fn_limit)
theorem str97 (c : Int) : (Str.ofString "a").length + (Str.ofString (toString (c % 97))).length ≤ sizeLine := by
  have h : ∀ m : Nat, m < 97 → (Str.ofString "a").length + (Str.ofString (toString (m : Int))).length ≤ 100 := by decide +kernel
  have e : c % 97 = ((c % 97).toNat : Int) := by omega
  have hm : (c % 97).toNat < 97 := by omega
  rw [e]
  exact Nat.le_trans (h _ hm) (by decide)
theorem log97 (c : Int) : (c % 97).natAbs.log2 < 1920 := by
  have h : ∀ m : Nat, m < 97 → (m : Int).natAbs.log2 < 1920 := by decide +kernel
  have e : c % 97 = ((c % 97).toNat : Int) := by omega
  have hm : (c % 97).toNat < 97 := by omega
  rw [e]
  exact h _ hm
theorem at8 {H : Hp} {x0 x1 x2 x3 x4 x5 x6 x7 : V} (h0 : Thing H x0) (h1 : Thing H x1) (h2 : Thing H x2) (h3 : Thing H x3) (h4 : Thing H x4) (h5 : Thing H x5) (h6 : Thing H x6) (h7 : Thing H x7) (n : Int) :
    ∃ y, atI [x0, x1, x2, x3, x4, x5, x6, x7] (n % 8) = some y ∧ Thing H y := by
  have e : n % 8 = ((n % 8).toNat : Int) := by omega
  have hm : (n % 8).toNat < 8 := by omega
  rw [e]
  generalize (n % 8).toNat = m at hm
  match m, hm with
  | 0, _ => exact ⟨x0, atI_nat rfl, h0⟩
  | 1, _ => exact ⟨x1, atI_nat rfl, h1⟩
  | 2, _ => exact ⟨x2, atI_nat rfl, h2⟩
  | 3, _ => exact ⟨x3, atI_nat rfl, h3⟩
  | 4, _ => exact ⟨x4, atI_nat rfl, h4⟩
  | 5, _ => exact ⟨x5, atI_nat rfl, h5⟩
  | 6, _ => exact ⟨x6, atI_nat rfl, h6⟩
  | 7, _ => exact ⟨x7, atI_nat rfl, h7⟩
  | m + 8, h => exact absurd h (by omega)
theorem cut_int (ns : List Int) (lo hi : Option Int) {i : Nat} {x : V} (h : (cutV (ns.map V.int) lo hi)[i]? = some x) : ∃ n, x = V.int n := by
  have hm : x ∈ cutV (ns.map V.int) lo hi := List.mem_of_getElem? h
  have hm2 : x ∈ ns.map V.int := List.mem_of_mem_drop (List.mem_of_mem_take hm)
  obtain ⟨n, _, e⟩ := List.mem_map.mp hm2
  exact ⟨n, e.symm⟩
structure Lims (mg : Str → Option Value) : Prop where
  m0 : ∃ t, mg "MAX_LOOKS" = some (.int 3 t)
  m1 : ∃ t, mg "MAX_GRID_TIMES" = some (.int 2 t)
  m2 : ∃ t, mg "MAX_PARTS" = some (.int 20 t)
  m3 : ∃ t, mg "MAX_DEPTH" = some (.int 8 t)
  m4 : ∃ t, mg "MAX_STEP" = some (.int 60 t)
  m5 : ∃ t, mg "MAX_DISTANCE" = some (.int 1000000000 t)
  m6 : ∃ t, mg "MAX_COLUMNS" = some (.int 4 t)
section
variable {P : Program} {w : World} {K : PySem.W.Frag} {mg : Str → Option Value} {base : Heap} {Cs Bs fs : Nat → Addr}
theorem scW : FnScope ["_law_script", "_law_limits_here", "_law_at", "_law_cell", "_law_things", "_law_each"] ["_law_script"] (defScope sLaw) := ⟨rfl, rfl, rfl, by decide +kernel, rfl, by decide +kernel, by decide +kernel⟩
theorem ok_law {f fG fK fA fB fS fF : Addr} {fd dG dK dA dB dS dF : FuncData} (F : Fun K "law" "law" sLaw f fd) (T : Txt K mg Cs Bs fs) (D : Defs K mg fK fA fB fS fF dK dA dB dS dF) (M : Lims mg)
    (FG : Fun K "_law_good" "_law_good" sGood fG dG) (bG : Binds K dG ["_law_thing"] []) (mG : mg "_law_good" = some (.ref fG)) : FnOk P w K mg base CX0 4 f fd ["_law_script"] (spLaw K) := by
  have GG : FnOk P w K mg base CX0 3 fG dG ["_law_thing"] spGood := ok_good FG T D
  refine F.ok scW (fun vs H Q E h => ?_) (fun cdv A outer s H vs Q E hr h => ?_)
  · obtain ⟨a, ns, rfl, _⟩ := h
    rfl
  · obtain ⟨a, ns, rfl, hS, hlen, k⟩ := h
    obtain ⟨t0, hm0⟩ := M.m0
    obtain ⟨t1, hm1⟩ := M.m1
    obtain ⟨t2, hm2⟩ := M.m2
    obtain ⟨t3, hm3⟩ := M.m3
    obtain ⟨t4, hm4⟩ := M.m4
    obtain ⟨t5, hm5⟩ := M.m5
    obtain ⟨t6, hm6⟩ := M.m6
    refine ⟨_, pss_cons (ps_set (i := 1) scW.nd rfl (Or.inl rfl) (pe_lst (pa_cons (pe_glob (v := .int 3) rfl hm0 ⟨_, rfl⟩) (pa_cons (pe_glob (v := .int 2) rfl hm1 ⟨_, rfl⟩) (pa_cons (pe_glob (v := .int 20) rfl hm2 ⟨_, rfl⟩) (pa_cons (pe_glob (v := .int 8) rfl hm3 ⟨_, rfl⟩) (pa_cons (pe_glob (v := .int 60) rfl hm4 ⟨_, rfl⟩) (pa_cons (pe_glob (v := .int 1000000000) rfl hm5 ⟨_, rfl⟩) (pa_cons (pe_glob (v := .int 4) rfl hm6 ⟨_, rfl⟩) pa_nil)))))))))
      (pss_cons (ps_if (pt_cmpR (op_neD hr.units) (pv 1) (pe_lst (pa_cons (pe_int) (pa_cons (pe_int) (pa_cons (pe_int) (pa_cons (pe_int) (pa_cons (pe_int) (pa_cons (pe_op op_pow pe_int pe_int) (pa_cons (pe_int) pa_nil)))))))) (nomark _)) (pss_one (ps_ret pe_bl)) pss_nil)
      (pss_cons (ps_for PassesOwn.never rfl (pi_enum (by rfl) T.nEnum (pa_cons (pe_op op_cat (pe_lc (own := [("_law_each", 5)]) (g := gName 5) (tt := tYes) rfl scW.nd (pi_list (pe_slice sl_list (pv 0) po_none (po_some pe_int)))
            (blkOk_by (own := [("_law_each", 5)]) (N := ["_law_script", "_law_limits_here", "_law_at", "_law_cell", "_law_things", "_law_each"]) (sc := defScope sLaw) (by decide +kernel))
            (fun _ _ _ _ _ => pg_name (i := 5) scW.nd rfl (Or.inl rfl)) (fun _ _ _ _ _ => pts_nil)
            (fun _ _ _ _ _ => pe_callB call_abs (by rfl) T.nAbs PyProof.Rows.boot_abs (pa_cons (pe_callTy call_int1 (by rfl) T.nInt PyProof.Rows.boot_int (pa_cons (pv 5) pa_nil)) pa_nil))) (pe_lst (pa_cons (pe_int) (pa_cons (pe_int) pa_nil)))) pa_nil))
          (pg_tup rfl (pgs_cons (pg_name (i := 2) scW.nd rfl (Or.inl rfl)) (pgs_cons (pg_name (i := 3) scW.nd rfl (Or.inl rfl)) pgs_nil)))
        (pss_cons (ps_set (i := 4) scW.nd rfl (Or.inl rfl) (pe_lst (pa_cons (pe_op op_mod (pe_callTy call_int1 (by rfl) T.nInt PyProof.Rows.boot_int (pa_cons (pv 3) pa_nil)) (pe_op op_pow pe_int pe_int)) (pa_cons (pe_op op_add_str pe_str (pe_callTy call_str_int (by rfl) T.nStr PyProof.Rows.boot_str (pa_cons (pe_op op_mod (pe_callTy call_int1 (by rfl) T.nInt PyProof.Rows.boot_int (pa_cons (pv 3) pa_nil)) pe_int) pa_nil))) (pa_cons (pe_non) (pa_cons (pe_bl) (pa_cons (pe_tup (pa_cons pe_int (pa_cons (pe_op op_mod (pe_callTy call_int1 (by rfl) T.nInt PyProof.Rows.boot_int (pa_cons (pv 3) pa_nil)) pe_int) pa_nil))) pa_nil)))))))
        (pss_cons (ps_set (i := 4) scW.nd rfl (Or.inl rfl) (pe_op op_cat (pv 4) (pe_lst (pa_cons (pe_lst (pa_cons (pe_op op_mod (pe_callTy call_int1 (by rfl) T.nInt PyProof.Rows.boot_int (pa_cons (pv 3) pa_nil)) pe_int) pa_nil)) (pa_cons (pe_dnewK) (pa_cons (pe_int) pa_nil))))))
        (pss_one (ps_if (pt_not (pt_val (pe_call GG hr rfl mG FG.kp bG .nil pass0 (pa_cons (pe_ix ix_list (pv 4) (pe_op op_mod (pe_callTy call_int1 (by rfl) T.nInt PyProof.Rows.boot_int (pa_cons (pe_op op_add (pv 3) (pv 2)) pa_nil)) pe_int) (fun _ _ => rfl)) pa_nil)))) (pss_one (ps_ret pe_bl)) pss_nil)))))
      (pss_one (ps_ret pe_bl)))), ?_⟩
    -- the limits
    refine ⟨by show 7 ≤ sizeLine; decide, fun p1 n1 => ?_⟩
    refine ⟨_, rfl, 10, 9, rfl, rfl, ⟨by decide, by decide, by decide⟩, by show 7 ≤ sizeLine; decide, fun p2 n2 => ?_⟩
    have np : p1 ≠ p2 := ne_of_none upd_same n2
    refine ⟨.list [.int 3, .int 2, .int 20, .int 8, .int 60, .int 1000000000, .int 4], .list [.int 3, .int 2, .int 20, .int 8, .int 60, .int (10 ^ (9 : Int).toNat), .int 4],
      .lst (SqL.of (by rw [upd_ne np, upd_same])) (.cons (.int _) (.cons (.int _) (.cons (.int _) (.cons (.int _) (.cons (.int _) (.cons (.int _) (.cons (.int _) .nil))))))),
      .lst (SqL.of upd_same) (.cons (.int _) (.cons (.int _) (.cons (.int _) (.cons (.int _) (.cons (.int _) (.cons (.int _) (.cons (.int _) .nil))))))), rfl, rfl, _, rfl, ?_⟩
    have e10 : (10 : Int) ^ (9 : Int).toNat = 1000000000 := by decide
    have ev : PyData.eqv (.list [.int 3, .int 2, .int 20, .int 8, .int 60, .int 1000000000, .int 4]) (.list [.int 3, .int 2, .int 20, .int 8, .int 60, .int (10 ^ (9 : Int).toNat), .int 4]) = true := by
      rw [e10]
      simp [PyData.eqv, PyData.eqvAll]
    rw [ev]
    refine iteF ?_
    have s2 : Same H (upd (upd H p1 (.lst [.int 3, .int 2, .int 20, .int 8, .int 60, .int 1000000000, .int 4])) p2 (.lst [.int 3, .int 2, .int 20, .int 8, .int 60, .int (10 ^ (9 : Int).toNat), .int 4])) := (exn0_same n1).trans (exn0_same n2)
    revert s2
    generalize upd (upd H p1 (.lst [.int 3, .int 2, .int 20, .int 8, .int 60, .int 1000000000, .int 4])) p2 (.lst [.int 3, .int 2, .int 20, .int 8, .int 60, .int (10 ^ (9 : Int).toNat), .int 4]) = H2
    intro s2
    -- for at, cell in enumerate([..] + [5, 8])
    refine ⟨_, rfl, 6, rfl, a, ns.map V.int, rfl, s2.seq hS, fun p3 n3 => ⟨p3, rfl, ⟨_, SqL.of upd_same⟩, fun D1 nD => lc_it (walk_list (K := K) (a := p3) (xs := cutV (ns.map V.int) none (some 6)))
      (fun i H' => Same (upd H2 p3 (.lst (cutV (ns.map V.int) none (some 6)))) H' ∧ ∃ acc : List Int, acc.length = i ∧ H' D1 = some (.lst (acc.map V.int))) ⟨exn0_same nD, [], rfl, upd_same⟩ (fun _ _ _ z => z.1.seq (SqL.of upd_same)) ?_ ?_⟩⟩
    · rintro i x H3 H4 hi ⟨z3, acc, ea, e3⟩ ⟨rfl, hx⟩
      obtain ⟨n, rfl⟩ := cut_int ns _ _ hx
      refine ⟨rfl, ?_⟩
      refine ⟨_, rfl, .inl ⟨n, rfl, n, rfl, acc.map V.int, e3, ?_, ?_, acc ++ [if n < 0 then -n else n], ?_, ?_⟩⟩
      · rw [List.length_map, ea]
        have hc : (cutV (ns.map V.int) none (some 6)).length ≤ 63 := Nat.le_trans (cutV_length _ _ _) (by rw [List.length_map]; exact hlen)
        exact small1000 (by omega)
      · intro b o e
        rw [upd_ne (ne_of_none e nD)]
        exact z3 b o e
      · rw [List.length_append, ea]
        rfl
      · rw [upd_same, List.map_append]
        rfl
    rintro H3 ⟨z3, acc, ea, e3⟩
    have hc : (cutV (ns.map V.int) none (some 6)).length ≤ 63 := Nat.le_trans (cutV_length _ _ _) (by rw [List.length_map]; exact hlen)
    refine grow_k e3 (by rw [List.length_map, ea]; omega) (Nat.le_of_ble_eq_true rfl) fun H5 q5 t5 n5 e5 => ?_
    refine ⟨q5, _, rfl, SqL.of e5, for_it walk_enum (fun _ σ H' => ∃ x2 x3 x4 : Option V, σ = [some (.ref a), some (.ref p1), x2, x3, x4, none] ∧ Same H5 H') ⟨_, _, _, rfl, Same.refl _⟩ (fun _ _ _ _ ⟨_, _, _, _, z⟩ => z.seq (SqL.of e5)) ?_ ?_⟩
    · rintro i x σ H6 H7 hi ⟨x2, x3, x4, rfl, z6⟩ ⟨T1, y1, y2, rfl, nT, rfl, h1, h2⟩
      obtain rfl : V.int (i : Nat) = y1 := Option.some.inj h1
      obtain ⟨c, rfl⟩ : ∃ c, y2 = V.int c := by
        replace h2 : (acc.map V.int ++ [V.int 5, V.int 8])[i]? = some y2 := h2
        have hm := List.mem_of_getElem? h2
        rcases List.mem_append.mp hm with hm | hm
        · obtain ⟨n, _, e⟩ := List.mem_map.mp hm
          exact ⟨n, e.symm⟩
        · rcases List.mem_cons.mp hm with e | hm
          · exact ⟨5, e⟩
          · exact ⟨8, List.mem_singleton.mp hm⟩
      refine ⟨T1, [.int (i : Nat), .int c], rfl, SqT.of upd_same, rfl, _, _, rfl, _, _, rfl, rfl, ?_⟩
      have z7 : Same H5 (upd H6 T1 (.tup [.int (i : Nat), .int c])) := z6.trans (exn0_same nT)
      revert z7
      generalize upd H6 T1 (.tup [.int (i : Nat), .int c]) = H7
      intro z7
      -- things
      refine ⟨_, rfl, .inl ⟨c, rfl, 10, 60, rfl, rfl, ⟨by decide, by decide, by decide⟩, _, _, rfl, rfl, (by show (0 : Int) < 10 ^ (60 : Int).toNat; decide), ?_⟩⟩
      refine ⟨_, rfl, .inl ⟨c, rfl, c, 97, rfl, rfl, (by show (0 : Int) < 97; decide), c % 97, rfl, log97 c, _, _, rfl, rfl, str97 c, ?_⟩⟩
      refine ⟨_, rfl, .inl ⟨c, rfl, c, 7, rfl, rfl, (by show (0 : Int) < 7; decide), by show 2 ≤ sizeLine; decide, fun tt nt => ⟨by show 5 ≤ sizeLine; decide, fun p6 n6 => ?_⟩⟩⟩
      have hTt := (upd_same : (upd H7 tt (.tup [.int 1, .int (c % 7)])) tt = some (.tup [.int 1, .int (c % 7)]))
      have z8 : Same H5 (upd H7 tt (.tup [.int 1, .int (c % 7)])) := z7.trans (exn0_same nt)
      revert hTt z8 n6
      generalize upd H7 tt (.tup [.int 1, .int (c % 7)]) = H8
      intro n6 hTt z8
      refine ⟨_, rfl, _, rfl, .inl ⟨c, rfl, c, 5, rfl, rfl, (by show (0 : Int) < 5; decide), by show 1 ≤ sizeLine; decide, fun l nl => fun d nd => ?_⟩⟩
      have e6 : (upd (upd (upd H8 p6 (.lst [.int (c % 10 ^ (60 : Int).toNat), .str (Str.ofString "a" ++ Str.ofString (toString (c % 97))), .non, .bl true, .ref tt])) l (.lst [.int (c % 5)])) d (.dK [])) p6 = some (.lst [.int (c % 10 ^ (60 : Int).toNat), .str (Str.ofString "a" ++ Str.ofString (toString (c % 97))), .non, .bl true, .ref tt]) := by
        have h1 : (upd (upd H8 p6 (.lst [.int (c % 10 ^ (60 : Int).toNat), .str (Str.ofString "a" ++ Str.ofString (toString (c % 97))), .non, .bl true, .ref tt])) l (.lst [.int (c % 5)])) p6 = some (.lst [.int (c % 10 ^ (60 : Int).toNat), .str (Str.ofString "a" ++ Str.ofString (toString (c % 97))), .non, .bl true, .ref tt]) := by
          rw [upd_ne (ne_of_none upd_same nl), upd_same]
        rw [upd_ne (ne_of_none h1 nd)]
        exact h1
      have hl : (upd (upd (upd H8 p6 (.lst [.int (c % 10 ^ (60 : Int).toNat), .str (Str.ofString "a" ++ Str.ofString (toString (c % 97))), .non, .bl true, .ref tt])) l (.lst [.int (c % 5)])) d (.dK [])) l = some (.lst [.int (c % 5)]) := by
        rw [upd_ne (ne_of_none upd_same nd), upd_same]
      have hd : (upd (upd (upd H8 p6 (.lst [.int (c % 10 ^ (60 : Int).toNat), .str (Str.ofString "a" ++ Str.ofString (toString (c % 97))), .non, .bl true, .ref tt])) l (.lst [.int (c % 5)])) d (.dK [])) d = some (.dK []) := upd_same
      have s9 : Same H8 (upd (upd (upd H8 p6 (.lst [.int (c % 10 ^ (60 : Int).toNat), .str (Str.ofString "a" ++ Str.ofString (toString (c % 97))), .non, .bl true, .ref tt])) l (.lst [.int (c % 5)])) d (.dK [])) := (exn0_same n6).trans ((exn0_same nl).trans (exn0_same nd))
      revert e6 hl hd s9
      generalize upd (upd (upd H8 p6 (.lst [.int (c % 10 ^ (60 : Int).toNat), .str (Str.ofString "a" ++ Str.ofString (toString (c % 97))), .non, .bl true, .ref tt])) l (.lst [.int (c % 5)])) d (.dK []) = H9
      intro e6 hl hd s9
      refine grow_k e6 (Nat.le_of_ble_eq_true rfl) (Nat.le_of_ble_eq_true rfl) fun H10 q10 t10 n10 e10 => ?_
      obtain ⟨y, hy, hTy⟩ := at8 (H := H10) (.int (c % 10 ^ (60 : Int).toNat)) (.str (Str.ofString "a" ++ Str.ofString (toString (c % 97)))) .non (.bl true) (.tup tt 1 (c % 7) (t10 _ _ (s9 _ _ hTt))) (.lst l (c % 5) (t10 _ _ hl)) (.dic d (t10 _ _ hd)) (.int 1) (c + (i : Nat))
      refine ⟨_, rfl, _, rfl, _, rfl, c, (i : Nat), rfl, rfl, .inl ⟨c + (i : Nat), rfl, c + (i : Nat), 8, rfl, rfl, (by show (0 : Int) < 8; decide), q10, _, _, y, rfl, rfl, SqL.of e10, hy, y, rfl, hTy, fun H11 s11 => ⟨true, rfl, iteF ?_⟩⟩⟩
      exact ⟨_, _, _, rfl, z8.trans (s9.trans (t10.trans s11))⟩
    · rintro σ H6 ⟨x2, x3, x4, rfl, z6⟩
      exact k H6
end
end K39

namespace K39
open PySem L2
open PySem.XV (CF IFc Fn_value Fn_index Fn_limit)
/-! ### what the top has written -/
def LkX (K : PySem.W.Frag) (C B : Addr) (t n : String) : Prop := ∃ nm q N bs sn sub ab col dd k0 k1 k2 k3 k5, K.lookup C = some (excClassObj nm q C N bs (.ref B :: bm t) true sn sub ab col dd k0 k1 k2 k3 k5 n)
def FunX (K : PySem.W.Frag) (x : Str) (st : Stmt) (f : Addr) : Prop := ∃ (oc kV dc pm cd ct : Value) (od an : Option Addr) (sl : Array (Option Value)), K.lookup f = some ⟨oc, od, .func (PySem.W.fnOf x x (defArgs st) (defBody st) (defScope st) .none kV dc pm an cd ct), sl⟩ ∧ PySem.W.codeIn K cd x = true
theorem lkx_mk {K : PySem.W.Frag} {C B : Addr} {t n : String} {nm q : Str} {N : Addr} {bs : List Value} {sn : List Str} {sub : List Value} {ab : Bool} {col : Option Bool} {dd : Option Addr} {k0 k1 k2 k3 k5 : Option Value} (h : K.lookup C = some (excClassObj nm q C N bs (.ref B :: bm t) true sn sub ab col dd k0 k1 k2 k3 k5 n)) : LkX K C B t n := ⟨nm, q, N, bs, sn, sub, ab, col, dd, k0, k1, k2, k3, k5, h⟩
theorem funx_mk {K : PySem.W.Frag} {x : Str} {st : Stmt} {f : Addr} {oc kV dc pm cd ct : Value} {od an : Option Addr} {sl : Array (Option Value)} (l : K.lookup f = some ⟨oc, od, .func (PySem.W.fnOf x x (defArgs st) (defBody st) (defScope st) .none kV dc pm an cd ct), sl⟩) (c : PySem.W.codeIn K cd x = true) : FunX K x st f := ⟨oc, kV, dc, pm, cd, ct, od, an, sl, l, c⟩
theorem fn_value_mk {K : PySem.W.Frag} {fI : Addr} {qn : Str} {oc : Value} {od : Option Addr} {doc pm : Value} {an : Option Addr} {cdv ct : Value} {osl : Array (Option Value)} {p1 p2 q1 q2 q3 q4 : Pos} (l : K.lookup fI = some ⟨oc, od, .func (PySem.W.fnOf "__init__" qn (PySem.XV.iA_value p1 p2) (PySem.XV.iB_value q1 q2 q3 q4) PySem.XV.iS_value .none .none doc pm an cdv ct), osl⟩) (c : PySem.W.codeIn K cdv qn = true) : Fn_value K fI qn := ⟨oc, od, doc, pm, an, cdv, ct, osl, p1, p2, q1, q2, q3, q4, l, c⟩
theorem fn_index_mk {K : PySem.W.Frag} {fI : Addr} {qn : Str} {oc : Value} {od : Option Addr} {doc pm : Value} {an : Option Addr} {cdv ct : Value} {osl : Array (Option Value)} {p1 p2 q1 q2 q3 q4 : Pos} (l : K.lookup fI = some ⟨oc, od, .func (PySem.W.fnOf "__init__" qn (PySem.XV.iA_index p1 p2) (PySem.XV.iB_index q1 q2 q3 q4) PySem.XV.iS_index .none .none doc pm an cdv ct), osl⟩) (c : PySem.W.codeIn K cdv qn = true) : Fn_index K fI qn := ⟨oc, od, doc, pm, an, cdv, ct, osl, p1, p2, q1, q2, q3, q4, l, c⟩
theorem fn_limit_mk {K : PySem.W.Frag} {fI : Addr} {qn : Str} {oc : Value} {od : Option Addr} {doc pm : Value} {an : Option Addr} {cdv ct : Value} {osl : Array (Option Value)} {p1 p2 q1 q2 q3 q4 : Pos} (l : K.lookup fI = some ⟨oc, od, .func (PySem.W.fnOf "__init__" qn (PySem.XV.iA_limit p1 p2) (PySem.XV.iB_limit q1 q2 q3 q4) PySem.XV.iS_limit .none .none doc pm an cdv ct), osl⟩) (c : PySem.W.codeIn K cdv qn = true) : Fn_limit K fI qn := ⟨oc, od, doc, pm, an, cdv, ct, osl, p1, p2, q1, q2, q3, q4, l, c⟩
theorem FunX.fun {K : PySem.W.Frag} {x : Str} {st : Stmt} {f : Addr} (h : FunX K x st f) (k : PySem.W.keepIn K (.ref f) = true) : ∃ fd, Fun K x x st f fd := by
  obtain ⟨oc, kV, dc, pm, cd, ct, od, an, sl, l, c⟩ := h
  exact ⟨_, fun_mk l c k⟩
theorem lk_cls {K : PySem.W.Frag} {C B : Addr} {t n : String} (h : LkX K C B t n) : (∃ cd, PySem.W.clsIn K C = some cd ∧ cd.mro = .ref C :: .ref B :: bm t) ∧ PySem.W.typeIn K (.ref C) = some (.type "type") := by
  obtain ⟨nm, q, N, bs, sn, sub, ab, col, dd, k0, k1, k2, k3, k5, e⟩ := h
  refine ⟨⟨_, by unfold PySem.W.clsIn; rw [e] <;> rfl, rfl⟩, ?_⟩
  show (K.lookup C).map (·.cls) = some (.type "type")
  rw [e] <;> rfl
theorem lk_ok {K : PySem.W.Frag} {C B : Addr} {t n : String} (h : LkX K C B t n) : ((PySem.W.clsIn K C).isSome && PySem.W.typeIn K (.ref C) == some (.type "type")) = true := by
  obtain ⟨⟨cd, e, _⟩, e2⟩ := lk_cls h
  rw [e, e2] <;> rfl
theorem ref_beq (a b : Addr) : ((Value.ref a) == (Value.ref b)) = decide (b = a) := by
  by_cases h : b = a
  · subst h
    simp
  · rw [decide_eq_false h]
    exact beq_eq_false_iff_ne.mpr fun q => h (Value.ref.inj q).symm
theorem bm_ref (t : String) (D : Addr) : (bm t).contains (.ref D) = false := by
  unfold bm
  rfl
theorem kit_ref {K : PySem.W.Frag} {C B D : Addr} {t n : String} (h : LkX K C B t n) (ok : ((PySem.W.clsIn K D).isSome && PySem.W.typeIn K (.ref D) == some (.type "type")) = true) : PySem.W.kitOne K (.ref C) (.ref D) = some (decide (D = C) || decide (D = B)) := by
  obtain ⟨⟨cd, e, em⟩, _⟩ := lk_cls h
  unfold PySem.W.kitOne
  rw [ref_beq]
  by_cases hD : D = C
  · rw [if_pos (decide_eq_true hD), decide_eq_true hD, Bool.true_or]
  · rw [if_neg (by rw [decide_eq_false hD]; exact Bool.false_ne_true)]
    show (if ((PySem.W.clsIn K D).isSome && PySem.W.typeIn K (.ref D) == some (.type "type")) = true then PySem.W.subIn K (.ref C) (.ref D) else none) = _
    rw [if_pos ok]
    show PySem.W.mroIn K C (.ref D) = _
    unfold PySem.W.mroIn
    rw [e, Option.bind_some, em]
    show some ((Value.ref C :: Value.ref B :: bm t).contains (.ref D)) = _
    rw [List.contains_cons, List.contains_cons, bm_ref, Bool.or_false, ref_beq, ref_beq, decide_eq_false hD]
    have e1 : decide (C = D) = false := decide_eq_false fun q => hD q.symm
    have e2 : decide (B = D) = decide (D = B) := by
      by_cases q : B = D
      · rw [decide_eq_true q, decide_eq_true q.symm]
      · rw [decide_eq_false q, decide_eq_false fun z => q z.symm]
    rw [e1, e2]
theorem kit_typ {K : PySem.W.Frag} {C B : Addr} {t n u : String} (h : LkX K C B t n) (hm : PySem.W.kitMeta u = true) : PySem.W.kitOne K (.ref C) (.type u) = some ((bm t).contains (.type u)) := by
  obtain ⟨⟨cd, e, em⟩, _⟩ := lk_cls h
  unfold PySem.W.kitOne
  have e0 : (Value.ref C == Value.type u) = false := beq_eq_false_iff_ne.mpr fun q => nomatch q
  rw [e0, if_neg Bool.false_ne_true]
  show (if PySem.W.kitMeta u = true then PySem.W.subIn K (.ref C) (.type u) else none) = _
  rw [if_pos hm]
  show PySem.W.mroIn K C (.type u) = _
  unfold PySem.W.mroIn
  rw [e, Option.bind_some, em]
  show some ((Value.ref C :: Value.ref B :: bm t).contains (.type u)) = _
  rw [List.contains_cons, List.contains_cons]
  have z1 : (Value.type u == Value.ref C) = false := beq_eq_false_iff_ne.mpr fun q => nomatch q
  have z2 : (Value.type u == Value.ref B) = false := beq_eq_false_iff_ne.mpr fun q => nomatch q
  rw [z1, z2, Bool.false_or, Bool.false_or]
theorem bm_tn : ∀ b, b < 4 → ∀ j, j < 4 → (bm (tn b)).contains (.type (tn j)) = decide (b = j) := by decide +kernel
theorem tn_meta : ∀ j, j < 4 → PySem.W.kitMeta (tn j) = true := by decide +kernel
theorem bi_lt : ∀ i, i < 27 → bi i < 4 := by decide
theorem getD_inj : ∀ {l : List Addr} {i j : Nat}, l.Nodup → i < l.length → j < l.length → l.getD i 0 = l.getD j 0 → i = j := by
  intro l i j nd hi hj e
  rw [List.getD_eq_getElem?_getD, List.getD_eq_getElem?_getD, List.getElem?_eq_getElem hi, List.getElem?_eq_getElem hj] at e
  have e' : l[i] = l[j] := Option.some.inj (by simpa using congrArg some e)
  have pw := List.pairwise_iff_getElem.mp nd
  rcases Nat.lt_trichotomy i j with h | h | h
  · exact absurd e' (pw i j hi hj h)
  · exact h
  · exact absurd e'.symm (pw j i hj hi h)

theorem all_mk {l : PySem.W.OpenLaw} {w : World} {K : PySem.W.Frag} {h : Heap} {mg : Str → Option Value} {fa : Addr} (X : K.In h) (G : h.Ns mainGlobals mg) (hfa : mg "law" = some (.ref fa))
    {C0 C1 C2 C3 C4 C5 C6 C7 C8 C9 C10 C11 C12 C13 C14 C15 C16 C17 C18 C19 C20 C21 C22 C23 C24 C25 C26 B0 B1 B2 B3 f0 f1 f2 f3 f4 f5 f6 f7 f8 f9 f10 f11 f12 f13 f14 f15 f16 f17 f18 f19 f20 f21 f22 f24 f26 fK fA fB fS fF fG fL : Addr} {t0 t1 t2 t3 t4 t5 t6 : Tok}
    (g0 : PySem.W.nsIn K mainGlobals "InvalidName" = some (some (.ref C0)))
    (g1 : PySem.W.nsIn K mainGlobals "InvalidTime" = some (some (.ref C1)))
    (g2 : PySem.W.nsIn K mainGlobals "InvalidNumber" = some (some (.ref C2)))
    (g3 : PySem.W.nsIn K mainGlobals "InvalidWithin" = some (some (.ref C3)))
    (g4 : PySem.W.nsIn K mainGlobals "InvalidStrict" = some (some (.ref C4)))
    (g5 : PySem.W.nsIn K mainGlobals "InvalidText" = some (some (.ref C5)))
    (g6 : PySem.W.nsIn K mainGlobals "InvalidGrid" = some (some (.ref C6)))
    (g7 : PySem.W.nsIn K mainGlobals "NotATime" = some (some (.ref C7)))
    (g8 : PySem.W.nsIn K mainGlobals "NotALook" = some (some (.ref C8)))
    (g9 : PySem.W.nsIn K mainGlobals "NotAReader" = some (some (.ref C9)))
    (g10 : PySem.W.nsIn K mainGlobals "NotATable" = some (some (.ref C10)))
    (g11 : PySem.W.nsIn K mainGlobals "NotASetting" = some (some (.ref C11)))
    (g12 : PySem.W.nsIn K mainGlobals "NotAPlan" = some (some (.ref C12)))
    (g13 : PySem.W.nsIn K mainGlobals "NotAStore" = some (some (.ref C13)))
    (g14 : PySem.W.nsIn K mainGlobals "InvalidRows" = some (some (.ref C14)))
    (g15 : PySem.W.nsIn K mainGlobals "InvalidApart" = some (some (.ref C15)))
    (g16 : PySem.W.nsIn K mainGlobals "InvalidFeeds" = some (some (.ref C16)))
    (g17 : PySem.W.nsIn K mainGlobals "InvalidColumns" = some (some (.ref C17)))
    (g18 : PySem.W.nsIn K mainGlobals "InvalidDeed" = some (some (.ref C18)))
    (g19 : PySem.W.nsIn K mainGlobals "MissingRow" = some (some (.ref C19)))
    (g20 : PySem.W.nsIn K mainGlobals "NoSuchPart" = some (some (.ref C20)))
    (g21 : PySem.W.nsIn K mainGlobals "NeverRead" = some (some (.ref C21)))
    (g22 : PySem.W.nsIn K mainGlobals "NeverChanged" = some (some (.ref C22)))
    (g23 : PySem.W.nsIn K mainGlobals "NothingToUndo" = some (some (.ref C23)))
    (g24 : PySem.W.nsIn K mainGlobals "NotKept" = some (some (.ref C24)))
    (g25 : PySem.W.nsIn K mainGlobals "NoGrid" = some (some (.ref C25)))
    (g26 : PySem.W.nsIn K mainGlobals "TooMany" = some (some (.ref C26)))
    (h0 : PySem.W.nsIn K mainGlobals "LatestError" = some (some (.ref B0)))
    (h1 : PySem.W.nsIn K mainGlobals "StateError" = some (some (.ref B1)))
    (h2 : PySem.W.nsIn K mainGlobals "RuleError" = some (some (.ref B2)))
    (h3 : PySem.W.nsIn K mainGlobals "LimitError" = some (some (.ref B3)))
    (ib0 : PySem.W.isClsIn K B0 = true)
    (tb0 : PySem.W.typeIn K (.ref B0) = some (.type "type"))
    (ib1 : PySem.W.isClsIn K B1 = true)
    (tb1 : PySem.W.typeIn K (.ref B1) = some (.type "type"))
    (ib2 : PySem.W.isClsIn K B2 = true)
    (tb2 : PySem.W.typeIn K (.ref B2) = some (.type "type"))
    (ib3 : PySem.W.isClsIn K B3 = true)
    (tb3 : PySem.W.typeIn K (.ref B3) = some (.type "type"))
    (x0 : LkX K C0 B0 "ValueError" "ValueError.__new__")
    (kc0 : PySem.W.keepIn K (.ref C0) = true)
    (ga0 : PySem.W.findIn K (.ref C0) "__getattribute__" = some (some (.builtin "BaseException.__getattribute__")))
    (gt0 : PySem.W.findIn K (.ref C0) "__getattr__" = some none)
    (sb0 : PySem.W.subIn K (.ref C0) (.type "BaseException") = some true)
    (hd0 : PySem.W.hasDictIn K C0 = true)
    (hc0 : PySem.W.findIn K (.ref C0) "__class__" = some (some (.builtin "object.__class__")))
    (mo0 : PySem.W.mroIn K C0 (.type "object") = some true)
    (sa0 : PySem.W.findIn K (.ref C0) "__setattr__" = some (some (.builtin "object.__setattr__")))
    (no0 : PySem.W.findIn K (.ref C0) "value" = some none)
    (ic0 : PySem.W.findIn K (.ref C0) "__init__" = some (some (.ref f0)))
    (ti0 : PySem.W.typeIn K (.ref f0) = some (.type "function"))
    (fn0 : Fn_value K f0 "InvalidName.__init__")
    (x1 : LkX K C1 B0 "ValueError" "ValueError.__new__")
    (kc1 : PySem.W.keepIn K (.ref C1) = true)
    (ga1 : PySem.W.findIn K (.ref C1) "__getattribute__" = some (some (.builtin "BaseException.__getattribute__")))
    (gt1 : PySem.W.findIn K (.ref C1) "__getattr__" = some none)
    (sb1 : PySem.W.subIn K (.ref C1) (.type "BaseException") = some true)
    (hd1 : PySem.W.hasDictIn K C1 = true)
    (hc1 : PySem.W.findIn K (.ref C1) "__class__" = some (some (.builtin "object.__class__")))
    (mo1 : PySem.W.mroIn K C1 (.type "object") = some true)
    (sa1 : PySem.W.findIn K (.ref C1) "__setattr__" = some (some (.builtin "object.__setattr__")))
    (no1 : PySem.W.findIn K (.ref C1) "value" = some none)
    (ic1 : PySem.W.findIn K (.ref C1) "__init__" = some (some (.ref f1)))
    (ti1 : PySem.W.typeIn K (.ref f1) = some (.type "function"))
    (fn1 : Fn_value K f1 "InvalidTime.__init__")
    (x2 : LkX K C2 B0 "ValueError" "ValueError.__new__")
    (kc2 : PySem.W.keepIn K (.ref C2) = true)
    (ga2 : PySem.W.findIn K (.ref C2) "__getattribute__" = some (some (.builtin "BaseException.__getattribute__")))
    (gt2 : PySem.W.findIn K (.ref C2) "__getattr__" = some none)
    (sb2 : PySem.W.subIn K (.ref C2) (.type "BaseException") = some true)
    (hd2 : PySem.W.hasDictIn K C2 = true)
    (hc2 : PySem.W.findIn K (.ref C2) "__class__" = some (some (.builtin "object.__class__")))
    (mo2 : PySem.W.mroIn K C2 (.type "object") = some true)
    (sa2 : PySem.W.findIn K (.ref C2) "__setattr__" = some (some (.builtin "object.__setattr__")))
    (no2 : PySem.W.findIn K (.ref C2) "value" = some none)
    (ic2 : PySem.W.findIn K (.ref C2) "__init__" = some (some (.ref f2)))
    (ti2 : PySem.W.typeIn K (.ref f2) = some (.type "function"))
    (fn2 : Fn_value K f2 "InvalidNumber.__init__")
    (x3 : LkX K C3 B0 "ValueError" "ValueError.__new__")
    (kc3 : PySem.W.keepIn K (.ref C3) = true)
    (ga3 : PySem.W.findIn K (.ref C3) "__getattribute__" = some (some (.builtin "BaseException.__getattribute__")))
    (gt3 : PySem.W.findIn K (.ref C3) "__getattr__" = some none)
    (sb3 : PySem.W.subIn K (.ref C3) (.type "BaseException") = some true)
    (hd3 : PySem.W.hasDictIn K C3 = true)
    (hc3 : PySem.W.findIn K (.ref C3) "__class__" = some (some (.builtin "object.__class__")))
    (mo3 : PySem.W.mroIn K C3 (.type "object") = some true)
    (sa3 : PySem.W.findIn K (.ref C3) "__setattr__" = some (some (.builtin "object.__setattr__")))
    (no3 : PySem.W.findIn K (.ref C3) "value" = some none)
    (ic3 : PySem.W.findIn K (.ref C3) "__init__" = some (some (.ref f3)))
    (ti3 : PySem.W.typeIn K (.ref f3) = some (.type "function"))
    (fn3 : Fn_value K f3 "InvalidWithin.__init__")
    (x4 : LkX K C4 B0 "ValueError" "ValueError.__new__")
    (kc4 : PySem.W.keepIn K (.ref C4) = true)
    (ga4 : PySem.W.findIn K (.ref C4) "__getattribute__" = some (some (.builtin "BaseException.__getattribute__")))
    (gt4 : PySem.W.findIn K (.ref C4) "__getattr__" = some none)
    (sb4 : PySem.W.subIn K (.ref C4) (.type "BaseException") = some true)
    (hd4 : PySem.W.hasDictIn K C4 = true)
    (hc4 : PySem.W.findIn K (.ref C4) "__class__" = some (some (.builtin "object.__class__")))
    (mo4 : PySem.W.mroIn K C4 (.type "object") = some true)
    (sa4 : PySem.W.findIn K (.ref C4) "__setattr__" = some (some (.builtin "object.__setattr__")))
    (no4 : PySem.W.findIn K (.ref C4) "value" = some none)
    (ic4 : PySem.W.findIn K (.ref C4) "__init__" = some (some (.ref f4)))
    (ti4 : PySem.W.typeIn K (.ref f4) = some (.type "function"))
    (fn4 : Fn_value K f4 "InvalidStrict.__init__")
    (x5 : LkX K C5 B0 "ValueError" "ValueError.__new__")
    (kc5 : PySem.W.keepIn K (.ref C5) = true)
    (ga5 : PySem.W.findIn K (.ref C5) "__getattribute__" = some (some (.builtin "BaseException.__getattribute__")))
    (gt5 : PySem.W.findIn K (.ref C5) "__getattr__" = some none)
    (sb5 : PySem.W.subIn K (.ref C5) (.type "BaseException") = some true)
    (hd5 : PySem.W.hasDictIn K C5 = true)
    (hc5 : PySem.W.findIn K (.ref C5) "__class__" = some (some (.builtin "object.__class__")))
    (mo5 : PySem.W.mroIn K C5 (.type "object") = some true)
    (sa5 : PySem.W.findIn K (.ref C5) "__setattr__" = some (some (.builtin "object.__setattr__")))
    (no5 : PySem.W.findIn K (.ref C5) "value" = some none)
    (ic5 : PySem.W.findIn K (.ref C5) "__init__" = some (some (.ref f5)))
    (ti5 : PySem.W.typeIn K (.ref f5) = some (.type "function"))
    (fn5 : Fn_value K f5 "InvalidText.__init__")
    (x6 : LkX K C6 B0 "ValueError" "ValueError.__new__")
    (kc6 : PySem.W.keepIn K (.ref C6) = true)
    (ga6 : PySem.W.findIn K (.ref C6) "__getattribute__" = some (some (.builtin "BaseException.__getattribute__")))
    (gt6 : PySem.W.findIn K (.ref C6) "__getattr__" = some none)
    (sb6 : PySem.W.subIn K (.ref C6) (.type "BaseException") = some true)
    (hd6 : PySem.W.hasDictIn K C6 = true)
    (hc6 : PySem.W.findIn K (.ref C6) "__class__" = some (some (.builtin "object.__class__")))
    (mo6 : PySem.W.mroIn K C6 (.type "object") = some true)
    (sa6 : PySem.W.findIn K (.ref C6) "__setattr__" = some (some (.builtin "object.__setattr__")))
    (no6 : PySem.W.findIn K (.ref C6) "value" = some none)
    (ic6 : PySem.W.findIn K (.ref C6) "__init__" = some (some (.ref f6)))
    (ti6 : PySem.W.typeIn K (.ref f6) = some (.type "function"))
    (fn6 : Fn_value K f6 "InvalidGrid.__init__")
    (x7 : LkX K C7 B0 "ValueError" "ValueError.__new__")
    (kc7 : PySem.W.keepIn K (.ref C7) = true)
    (ga7 : PySem.W.findIn K (.ref C7) "__getattribute__" = some (some (.builtin "BaseException.__getattribute__")))
    (gt7 : PySem.W.findIn K (.ref C7) "__getattr__" = some none)
    (sb7 : PySem.W.subIn K (.ref C7) (.type "BaseException") = some true)
    (hd7 : PySem.W.hasDictIn K C7 = true)
    (hc7 : PySem.W.findIn K (.ref C7) "__class__" = some (some (.builtin "object.__class__")))
    (mo7 : PySem.W.mroIn K C7 (.type "object") = some true)
    (sa7 : PySem.W.findIn K (.ref C7) "__setattr__" = some (some (.builtin "object.__setattr__")))
    (no7 : PySem.W.findIn K (.ref C7) "value" = some none)
    (ic7 : PySem.W.findIn K (.ref C7) "__init__" = some (some (.ref f7)))
    (ti7 : PySem.W.typeIn K (.ref f7) = some (.type "function"))
    (fn7 : Fn_value K f7 "NotATime.__init__")
    (x8 : LkX K C8 B0 "ValueError" "ValueError.__new__")
    (kc8 : PySem.W.keepIn K (.ref C8) = true)
    (ga8 : PySem.W.findIn K (.ref C8) "__getattribute__" = some (some (.builtin "BaseException.__getattribute__")))
    (gt8 : PySem.W.findIn K (.ref C8) "__getattr__" = some none)
    (sb8 : PySem.W.subIn K (.ref C8) (.type "BaseException") = some true)
    (hd8 : PySem.W.hasDictIn K C8 = true)
    (hc8 : PySem.W.findIn K (.ref C8) "__class__" = some (some (.builtin "object.__class__")))
    (mo8 : PySem.W.mroIn K C8 (.type "object") = some true)
    (sa8 : PySem.W.findIn K (.ref C8) "__setattr__" = some (some (.builtin "object.__setattr__")))
    (no8 : PySem.W.findIn K (.ref C8) "value" = some none)
    (ic8 : PySem.W.findIn K (.ref C8) "__init__" = some (some (.ref f8)))
    (ti8 : PySem.W.typeIn K (.ref f8) = some (.type "function"))
    (fn8 : Fn_value K f8 "NotALook.__init__")
    (x9 : LkX K C9 B0 "ValueError" "ValueError.__new__")
    (kc9 : PySem.W.keepIn K (.ref C9) = true)
    (ga9 : PySem.W.findIn K (.ref C9) "__getattribute__" = some (some (.builtin "BaseException.__getattribute__")))
    (gt9 : PySem.W.findIn K (.ref C9) "__getattr__" = some none)
    (sb9 : PySem.W.subIn K (.ref C9) (.type "BaseException") = some true)
    (hd9 : PySem.W.hasDictIn K C9 = true)
    (hc9 : PySem.W.findIn K (.ref C9) "__class__" = some (some (.builtin "object.__class__")))
    (mo9 : PySem.W.mroIn K C9 (.type "object") = some true)
    (sa9 : PySem.W.findIn K (.ref C9) "__setattr__" = some (some (.builtin "object.__setattr__")))
    (no9 : PySem.W.findIn K (.ref C9) "value" = some none)
    (ic9 : PySem.W.findIn K (.ref C9) "__init__" = some (some (.ref f9)))
    (ti9 : PySem.W.typeIn K (.ref f9) = some (.type "function"))
    (fn9 : Fn_value K f9 "NotAReader.__init__")
    (x10 : LkX K C10 B0 "ValueError" "ValueError.__new__")
    (kc10 : PySem.W.keepIn K (.ref C10) = true)
    (ga10 : PySem.W.findIn K (.ref C10) "__getattribute__" = some (some (.builtin "BaseException.__getattribute__")))
    (gt10 : PySem.W.findIn K (.ref C10) "__getattr__" = some none)
    (sb10 : PySem.W.subIn K (.ref C10) (.type "BaseException") = some true)
    (hd10 : PySem.W.hasDictIn K C10 = true)
    (hc10 : PySem.W.findIn K (.ref C10) "__class__" = some (some (.builtin "object.__class__")))
    (mo10 : PySem.W.mroIn K C10 (.type "object") = some true)
    (sa10 : PySem.W.findIn K (.ref C10) "__setattr__" = some (some (.builtin "object.__setattr__")))
    (no10 : PySem.W.findIn K (.ref C10) "value" = some none)
    (ic10 : PySem.W.findIn K (.ref C10) "__init__" = some (some (.ref f10)))
    (ti10 : PySem.W.typeIn K (.ref f10) = some (.type "function"))
    (fn10 : Fn_value K f10 "NotATable.__init__")
    (x11 : LkX K C11 B0 "ValueError" "ValueError.__new__")
    (kc11 : PySem.W.keepIn K (.ref C11) = true)
    (ga11 : PySem.W.findIn K (.ref C11) "__getattribute__" = some (some (.builtin "BaseException.__getattribute__")))
    (gt11 : PySem.W.findIn K (.ref C11) "__getattr__" = some none)
    (sb11 : PySem.W.subIn K (.ref C11) (.type "BaseException") = some true)
    (hd11 : PySem.W.hasDictIn K C11 = true)
    (hc11 : PySem.W.findIn K (.ref C11) "__class__" = some (some (.builtin "object.__class__")))
    (mo11 : PySem.W.mroIn K C11 (.type "object") = some true)
    (sa11 : PySem.W.findIn K (.ref C11) "__setattr__" = some (some (.builtin "object.__setattr__")))
    (no11 : PySem.W.findIn K (.ref C11) "value" = some none)
    (ic11 : PySem.W.findIn K (.ref C11) "__init__" = some (some (.ref f11)))
    (ti11 : PySem.W.typeIn K (.ref f11) = some (.type "function"))
    (fn11 : Fn_value K f11 "NotASetting.__init__")
    (x12 : LkX K C12 B0 "ValueError" "ValueError.__new__")
    (kc12 : PySem.W.keepIn K (.ref C12) = true)
    (ga12 : PySem.W.findIn K (.ref C12) "__getattribute__" = some (some (.builtin "BaseException.__getattribute__")))
    (gt12 : PySem.W.findIn K (.ref C12) "__getattr__" = some none)
    (sb12 : PySem.W.subIn K (.ref C12) (.type "BaseException") = some true)
    (hd12 : PySem.W.hasDictIn K C12 = true)
    (hc12 : PySem.W.findIn K (.ref C12) "__class__" = some (some (.builtin "object.__class__")))
    (mo12 : PySem.W.mroIn K C12 (.type "object") = some true)
    (sa12 : PySem.W.findIn K (.ref C12) "__setattr__" = some (some (.builtin "object.__setattr__")))
    (no12 : PySem.W.findIn K (.ref C12) "value" = some none)
    (ic12 : PySem.W.findIn K (.ref C12) "__init__" = some (some (.ref f12)))
    (ti12 : PySem.W.typeIn K (.ref f12) = some (.type "function"))
    (fn12 : Fn_value K f12 "NotAPlan.__init__")
    (x13 : LkX K C13 B0 "ValueError" "ValueError.__new__")
    (kc13 : PySem.W.keepIn K (.ref C13) = true)
    (ga13 : PySem.W.findIn K (.ref C13) "__getattribute__" = some (some (.builtin "BaseException.__getattribute__")))
    (gt13 : PySem.W.findIn K (.ref C13) "__getattr__" = some none)
    (sb13 : PySem.W.subIn K (.ref C13) (.type "BaseException") = some true)
    (hd13 : PySem.W.hasDictIn K C13 = true)
    (hc13 : PySem.W.findIn K (.ref C13) "__class__" = some (some (.builtin "object.__class__")))
    (mo13 : PySem.W.mroIn K C13 (.type "object") = some true)
    (sa13 : PySem.W.findIn K (.ref C13) "__setattr__" = some (some (.builtin "object.__setattr__")))
    (no13 : PySem.W.findIn K (.ref C13) "value" = some none)
    (ic13 : PySem.W.findIn K (.ref C13) "__init__" = some (some (.ref f13)))
    (ti13 : PySem.W.typeIn K (.ref f13) = some (.type "function"))
    (fn13 : Fn_value K f13 "NotAStore.__init__")
    (x14 : LkX K C14 B0 "ValueError" "ValueError.__new__")
    (kc14 : PySem.W.keepIn K (.ref C14) = true)
    (ga14 : PySem.W.findIn K (.ref C14) "__getattribute__" = some (some (.builtin "BaseException.__getattribute__")))
    (gt14 : PySem.W.findIn K (.ref C14) "__getattr__" = some none)
    (sb14 : PySem.W.subIn K (.ref C14) (.type "BaseException") = some true)
    (hd14 : PySem.W.hasDictIn K C14 = true)
    (hc14 : PySem.W.findIn K (.ref C14) "__class__" = some (some (.builtin "object.__class__")))
    (mo14 : PySem.W.mroIn K C14 (.type "object") = some true)
    (sa14 : PySem.W.findIn K (.ref C14) "__setattr__" = some (some (.builtin "object.__setattr__")))
    (no14 : PySem.W.findIn K (.ref C14) "index" = some none)
    (ic14 : PySem.W.findIn K (.ref C14) "__init__" = some (some (.ref f14)))
    (ti14 : PySem.W.typeIn K (.ref f14) = some (.type "function"))
    (fn14 : Fn_index K f14 "InvalidRows.__init__")
    (x15 : LkX K C15 B0 "ValueError" "ValueError.__new__")
    (kc15 : PySem.W.keepIn K (.ref C15) = true)
    (ga15 : PySem.W.findIn K (.ref C15) "__getattribute__" = some (some (.builtin "BaseException.__getattribute__")))
    (gt15 : PySem.W.findIn K (.ref C15) "__getattr__" = some none)
    (sb15 : PySem.W.subIn K (.ref C15) (.type "BaseException") = some true)
    (hd15 : PySem.W.hasDictIn K C15 = true)
    (hc15 : PySem.W.findIn K (.ref C15) "__class__" = some (some (.builtin "object.__class__")))
    (mo15 : PySem.W.mroIn K C15 (.type "object") = some true)
    (sa15 : PySem.W.findIn K (.ref C15) "__setattr__" = some (some (.builtin "object.__setattr__")))
    (no15 : PySem.W.findIn K (.ref C15) "index" = some none)
    (ic15 : PySem.W.findIn K (.ref C15) "__init__" = some (some (.ref f15)))
    (ti15 : PySem.W.typeIn K (.ref f15) = some (.type "function"))
    (fn15 : Fn_index K f15 "InvalidApart.__init__")
    (x16 : LkX K C16 B0 "ValueError" "ValueError.__new__")
    (kc16 : PySem.W.keepIn K (.ref C16) = true)
    (ga16 : PySem.W.findIn K (.ref C16) "__getattribute__" = some (some (.builtin "BaseException.__getattribute__")))
    (gt16 : PySem.W.findIn K (.ref C16) "__getattr__" = some none)
    (sb16 : PySem.W.subIn K (.ref C16) (.type "BaseException") = some true)
    (hd16 : PySem.W.hasDictIn K C16 = true)
    (hc16 : PySem.W.findIn K (.ref C16) "__class__" = some (some (.builtin "object.__class__")))
    (mo16 : PySem.W.mroIn K C16 (.type "object") = some true)
    (sa16 : PySem.W.findIn K (.ref C16) "__setattr__" = some (some (.builtin "object.__setattr__")))
    (no16 : PySem.W.findIn K (.ref C16) "index" = some none)
    (ic16 : PySem.W.findIn K (.ref C16) "__init__" = some (some (.ref f16)))
    (ti16 : PySem.W.typeIn K (.ref f16) = some (.type "function"))
    (fn16 : Fn_index K f16 "InvalidFeeds.__init__")
    (x17 : LkX K C17 B0 "ValueError" "ValueError.__new__")
    (kc17 : PySem.W.keepIn K (.ref C17) = true)
    (ga17 : PySem.W.findIn K (.ref C17) "__getattribute__" = some (some (.builtin "BaseException.__getattribute__")))
    (gt17 : PySem.W.findIn K (.ref C17) "__getattr__" = some none)
    (sb17 : PySem.W.subIn K (.ref C17) (.type "BaseException") = some true)
    (hd17 : PySem.W.hasDictIn K C17 = true)
    (hc17 : PySem.W.findIn K (.ref C17) "__class__" = some (some (.builtin "object.__class__")))
    (mo17 : PySem.W.mroIn K C17 (.type "object") = some true)
    (sa17 : PySem.W.findIn K (.ref C17) "__setattr__" = some (some (.builtin "object.__setattr__")))
    (no17 : PySem.W.findIn K (.ref C17) "index" = some none)
    (ic17 : PySem.W.findIn K (.ref C17) "__init__" = some (some (.ref f17)))
    (ti17 : PySem.W.typeIn K (.ref f17) = some (.type "function"))
    (fn17 : Fn_index K f17 "InvalidColumns.__init__")
    (x18 : LkX K C18 B0 "ValueError" "ValueError.__new__")
    (kc18 : PySem.W.keepIn K (.ref C18) = true)
    (ga18 : PySem.W.findIn K (.ref C18) "__getattribute__" = some (some (.builtin "BaseException.__getattribute__")))
    (gt18 : PySem.W.findIn K (.ref C18) "__getattr__" = some none)
    (sb18 : PySem.W.subIn K (.ref C18) (.type "BaseException") = some true)
    (hd18 : PySem.W.hasDictIn K C18 = true)
    (hc18 : PySem.W.findIn K (.ref C18) "__class__" = some (some (.builtin "object.__class__")))
    (mo18 : PySem.W.mroIn K C18 (.type "object") = some true)
    (sa18 : PySem.W.findIn K (.ref C18) "__setattr__" = some (some (.builtin "object.__setattr__")))
    (no18 : PySem.W.findIn K (.ref C18) "index" = some none)
    (ic18 : PySem.W.findIn K (.ref C18) "__init__" = some (some (.ref f18)))
    (ti18 : PySem.W.typeIn K (.ref f18) = some (.type "function"))
    (fn18 : Fn_index K f18 "InvalidDeed.__init__")
    (x19 : LkX K C19 B1 "LookupError" "LookupError.__new__")
    (kc19 : PySem.W.keepIn K (.ref C19) = true)
    (ga19 : PySem.W.findIn K (.ref C19) "__getattribute__" = some (some (.builtin "BaseException.__getattribute__")))
    (gt19 : PySem.W.findIn K (.ref C19) "__getattr__" = some none)
    (sb19 : PySem.W.subIn K (.ref C19) (.type "BaseException") = some true)
    (hd19 : PySem.W.hasDictIn K C19 = true)
    (hc19 : PySem.W.findIn K (.ref C19) "__class__" = some (some (.builtin "object.__class__")))
    (mo19 : PySem.W.mroIn K C19 (.type "object") = some true)
    (sa19 : PySem.W.findIn K (.ref C19) "__setattr__" = some (some (.builtin "object.__setattr__")))
    (no19 : PySem.W.findIn K (.ref C19) "value" = some none)
    (ic19 : PySem.W.findIn K (.ref C19) "__init__" = some (some (.ref f19)))
    (ti19 : PySem.W.typeIn K (.ref f19) = some (.type "function"))
    (fn19 : Fn_value K f19 "MissingRow.__init__")
    (x20 : LkX K C20 B1 "LookupError" "LookupError.__new__")
    (kc20 : PySem.W.keepIn K (.ref C20) = true)
    (ga20 : PySem.W.findIn K (.ref C20) "__getattribute__" = some (some (.builtin "BaseException.__getattribute__")))
    (gt20 : PySem.W.findIn K (.ref C20) "__getattr__" = some none)
    (sb20 : PySem.W.subIn K (.ref C20) (.type "BaseException") = some true)
    (hd20 : PySem.W.hasDictIn K C20 = true)
    (hc20 : PySem.W.findIn K (.ref C20) "__class__" = some (some (.builtin "object.__class__")))
    (mo20 : PySem.W.mroIn K C20 (.type "object") = some true)
    (sa20 : PySem.W.findIn K (.ref C20) "__setattr__" = some (some (.builtin "object.__setattr__")))
    (no20 : PySem.W.findIn K (.ref C20) "value" = some none)
    (ic20 : PySem.W.findIn K (.ref C20) "__init__" = some (some (.ref f20)))
    (ti20 : PySem.W.typeIn K (.ref f20) = some (.type "function"))
    (fn20 : Fn_value K f20 "NoSuchPart.__init__")
    (x21 : LkX K C21 B1 "LookupError" "LookupError.__new__")
    (kc21 : PySem.W.keepIn K (.ref C21) = true)
    (ga21 : PySem.W.findIn K (.ref C21) "__getattribute__" = some (some (.builtin "BaseException.__getattribute__")))
    (gt21 : PySem.W.findIn K (.ref C21) "__getattr__" = some none)
    (sb21 : PySem.W.subIn K (.ref C21) (.type "BaseException") = some true)
    (hd21 : PySem.W.hasDictIn K C21 = true)
    (hc21 : PySem.W.findIn K (.ref C21) "__class__" = some (some (.builtin "object.__class__")))
    (mo21 : PySem.W.mroIn K C21 (.type "object") = some true)
    (sa21 : PySem.W.findIn K (.ref C21) "__setattr__" = some (some (.builtin "object.__setattr__")))
    (no21 : PySem.W.findIn K (.ref C21) "value" = some none)
    (ic21 : PySem.W.findIn K (.ref C21) "__init__" = some (some (.ref f21)))
    (ti21 : PySem.W.typeIn K (.ref f21) = some (.type "function"))
    (fn21 : Fn_value K f21 "NeverRead.__init__")
    (x22 : LkX K C22 B1 "LookupError" "LookupError.__new__")
    (kc22 : PySem.W.keepIn K (.ref C22) = true)
    (ga22 : PySem.W.findIn K (.ref C22) "__getattribute__" = some (some (.builtin "BaseException.__getattribute__")))
    (gt22 : PySem.W.findIn K (.ref C22) "__getattr__" = some none)
    (sb22 : PySem.W.subIn K (.ref C22) (.type "BaseException") = some true)
    (hd22 : PySem.W.hasDictIn K C22 = true)
    (hc22 : PySem.W.findIn K (.ref C22) "__class__" = some (some (.builtin "object.__class__")))
    (mo22 : PySem.W.mroIn K C22 (.type "object") = some true)
    (sa22 : PySem.W.findIn K (.ref C22) "__setattr__" = some (some (.builtin "object.__setattr__")))
    (no22 : PySem.W.findIn K (.ref C22) "value" = some none)
    (ic22 : PySem.W.findIn K (.ref C22) "__init__" = some (some (.ref f22)))
    (ti22 : PySem.W.typeIn K (.ref f22) = some (.type "function"))
    (fn22 : Fn_value K f22 "NeverChanged.__init__")
    (x23 : LkX K C23 B1 "LookupError" "LookupError.__new__")
    (kc23 : PySem.W.keepIn K (.ref C23) = true)
    (ga23 : PySem.W.findIn K (.ref C23) "__getattribute__" = some (some (.builtin "BaseException.__getattribute__")))
    (gt23 : PySem.W.findIn K (.ref C23) "__getattr__" = some none)
    (sb23 : PySem.W.subIn K (.ref C23) (.type "BaseException") = some true)
    (hd23 : PySem.W.hasDictIn K C23 = true)
    (hc23 : PySem.W.findIn K (.ref C23) "__class__" = some (some (.builtin "object.__class__")))
    (mo23 : PySem.W.mroIn K C23 (.type "object") = some true)
    (q23 : PySem.W.excIn K C23 (bm "LookupError") "LookupError.__new__" = true)
    (x24 : LkX K C24 B2 "RuntimeError" "RuntimeError.__new__")
    (kc24 : PySem.W.keepIn K (.ref C24) = true)
    (ga24 : PySem.W.findIn K (.ref C24) "__getattribute__" = some (some (.builtin "BaseException.__getattribute__")))
    (gt24 : PySem.W.findIn K (.ref C24) "__getattr__" = some none)
    (sb24 : PySem.W.subIn K (.ref C24) (.type "BaseException") = some true)
    (hd24 : PySem.W.hasDictIn K C24 = true)
    (hc24 : PySem.W.findIn K (.ref C24) "__class__" = some (some (.builtin "object.__class__")))
    (mo24 : PySem.W.mroIn K C24 (.type "object") = some true)
    (sa24 : PySem.W.findIn K (.ref C24) "__setattr__" = some (some (.builtin "object.__setattr__")))
    (no24 : PySem.W.findIn K (.ref C24) "value" = some none)
    (ic24 : PySem.W.findIn K (.ref C24) "__init__" = some (some (.ref f24)))
    (ti24 : PySem.W.typeIn K (.ref f24) = some (.type "function"))
    (fn24 : Fn_value K f24 "NotKept.__init__")
    (x25 : LkX K C25 B2 "RuntimeError" "RuntimeError.__new__")
    (kc25 : PySem.W.keepIn K (.ref C25) = true)
    (ga25 : PySem.W.findIn K (.ref C25) "__getattribute__" = some (some (.builtin "BaseException.__getattribute__")))
    (gt25 : PySem.W.findIn K (.ref C25) "__getattr__" = some none)
    (sb25 : PySem.W.subIn K (.ref C25) (.type "BaseException") = some true)
    (hd25 : PySem.W.hasDictIn K C25 = true)
    (hc25 : PySem.W.findIn K (.ref C25) "__class__" = some (some (.builtin "object.__class__")))
    (mo25 : PySem.W.mroIn K C25 (.type "object") = some true)
    (q25 : PySem.W.excIn K C25 (bm "RuntimeError") "RuntimeError.__new__" = true)
    (x26 : LkX K C26 B3 "ArithmeticError" "ArithmeticError.__new__")
    (kc26 : PySem.W.keepIn K (.ref C26) = true)
    (ga26 : PySem.W.findIn K (.ref C26) "__getattribute__" = some (some (.builtin "BaseException.__getattribute__")))
    (gt26 : PySem.W.findIn K (.ref C26) "__getattr__" = some none)
    (sb26 : PySem.W.subIn K (.ref C26) (.type "BaseException") = some true)
    (hd26 : PySem.W.hasDictIn K C26 = true)
    (hc26 : PySem.W.findIn K (.ref C26) "__class__" = some (some (.builtin "object.__class__")))
    (mo26 : PySem.W.mroIn K C26 (.type "object") = some true)
    (sa26 : PySem.W.findIn K (.ref C26) "__setattr__" = some (some (.builtin "object.__setattr__")))
    (no26 : PySem.W.findIn K (.ref C26) "limit" = some none)
    (ic26 : PySem.W.findIn K (.ref C26) "__init__" = some (some (.ref f26)))
    (ti26 : PySem.W.typeIn K (.ref f26) = some (.type "function"))
    (fn26 : Fn_limit K f26 "TooMany.__init__")
    (cn : PySem.W.specialIn K (.builtin "object.__class__") "__get__" = some (some (.builtin "getset_descriptor.__get__")))
    (ct : PySem.W.takesIn K (.builtin "object.__class__") = some true)
    (z_iN : PySem.W.nsIn K mainGlobals "isinstance" = some none)
    (z_n0 : PySem.W.nsIn K mainGlobals "ValueError" = some none)
    (z_n1 : PySem.W.nsIn K mainGlobals "LookupError" = some none)
    (z_n2 : PySem.W.nsIn K mainGlobals "RuntimeError" = some none)
    (z_n3 : PySem.W.nsIn K mainGlobals "ArithmeticError" = some none)
    (z_nBool : PySem.W.nsIn K mainGlobals "bool" = some none)
    (z_nEnum : PySem.W.nsIn K mainGlobals "enumerate" = some none)
    (z_nRange : PySem.W.nsIn K mainGlobals "range" = some none)
    (z_nAll : PySem.W.nsIn K mainGlobals "all" = some none)
    (z_nAbs : PySem.W.nsIn K mainGlobals "abs" = some none)
    (z_nInt : PySem.W.nsIn K mainGlobals "int" = some none)
    (z_nStr : PySem.W.nsIn K mainGlobals "str" = some none)
    (l0 : PySem.W.nsIn K mainGlobals "MAX_LOOKS" = some (some (.int 3 t0)))
    (l1 : PySem.W.nsIn K mainGlobals "MAX_GRID_TIMES" = some (some (.int 2 t1)))
    (l2 : PySem.W.nsIn K mainGlobals "MAX_PARTS" = some (some (.int 20 t2)))
    (l3 : PySem.W.nsIn K mainGlobals "MAX_DEPTH" = some (some (.int 8 t3)))
    (l4 : PySem.W.nsIn K mainGlobals "MAX_STEP" = some (some (.int 60 t4)))
    (l5 : PySem.W.nsIn K mainGlobals "MAX_DISTANCE" = some (some (.int 1000000000 t5)))
    (l6 : PySem.W.nsIn K mainGlobals "MAX_COLUMNS" = some (some (.int 4 t6)))
    (dK : PySem.W.nsIn K mainGlobals "_law_kinds" = some (some (.ref fK)))
    (eK : FunX K "_law_kinds" sKinds fK)
    (kK : PySem.W.keepIn K (.ref fK) = true)
    (dA : PySem.W.nsIn K mainGlobals "_law_all" = some (some (.ref fA)))
    (eA : FunX K "_law_all" sAll fA)
    (kA : PySem.W.keepIn K (.ref fA) = true)
    (dB : PySem.W.nsIn K mainGlobals "_law_bases" = some (some (.ref fB)))
    (eB : FunX K "_law_bases" sBases fB)
    (kB : PySem.W.keepIn K (.ref fB) = true)
    (dS : PySem.W.nsIn K mainGlobals "_law_same" = some (some (.ref fS)))
    (eS : FunX K "_law_same" sSame fS)
    (kS : PySem.W.keepIn K (.ref fS) = true)
    (dF : PySem.W.nsIn K mainGlobals "_law_fields" = some (some (.ref fF)))
    (eF : FunX K "_law_fields" sFields fF)
    (kF : PySem.W.keepIn K (.ref fF) = true)
    (dG : PySem.W.nsIn K mainGlobals "_law_good" = some (some (.ref fG)))
    (eG : FunX K "_law_good" sGood fG)
    (kG : PySem.W.keepIn K (.ref fG) = true)
    (dL : PySem.W.nsIn K mainGlobals "law" = some (some (.ref fL)))
    (eL : FunX K "law" sLaw fL)
    (kL : PySem.W.keepIn K (.ref fL) = true)
    (nd : ([C0, C1, C2, C3, C4, C5, C6, C7, C8, C9, C10, C11, C12, C13, C14, C15, C16, C17, C18, C19, C20, C21, C22, C23, C24, C25, C26, B0, B1, B2, B3] : List Addr).Nodup)
    : ∃ fd : FuncData, (∀ (s : Shared) (v : Value), BindsTo s fd ⟨[v], []⟩ [("_law_script", v)]) ∧ ∀ base : Heap, K.In base → base.Ns mainGlobals mg → FnOk l.prog w K mg base CX0 4 fa fd ["_law_script"] (spLaw K) := by
  have e := hfa.symm.trans (PySem.W.mg_of X G dL)
  cases e
  obtain ⟨As, hAs⟩ : ∃ As : List Addr, As = [C0, C1, C2, C3, C4, C5, C6, C7, C8, C9, C10, C11, C12, C13, C14, C15, C16, C17, C18, C19, C20, C21, C22, C23, C24, C25, C26, B0, B1, B2, B3] := ⟨_, rfl⟩
  have hlen : As.length = 31 := by rw [hAs]; rfl
  rw [← hAs] at nd
  have okB : ∀ j, j < 4 → ((PySem.W.clsIn K (As.getD (27 + j) 0)).isSome && PySem.W.typeIn K (.ref (As.getD (27 + j) 0)) == some (.type "type")) = true := by
    intro j hj
    rw [hAs]
    match j, hj with
    | 0, _ => show ((PySem.W.clsIn K B0).isSome && PySem.W.typeIn K (.ref B0) == some (.type "type")) = true; rw [tb0, show (PySem.W.clsIn K B0).isSome = true from ib0] <;> rfl
    | 1, _ => show ((PySem.W.clsIn K B1).isSome && PySem.W.typeIn K (.ref B1) == some (.type "type")) = true; rw [tb1, show (PySem.W.clsIn K B1).isSome = true from ib1] <;> rfl
    | 2, _ => show ((PySem.W.clsIn K B2).isSome && PySem.W.typeIn K (.ref B2) == some (.type "type")) = true; rw [tb2, show (PySem.W.clsIn K B2).isSome = true from ib2] <;> rfl
    | 3, _ => show ((PySem.W.clsIn K B3).isSome && PySem.W.typeIn K (.ref B3) == some (.type "type")) = true; rw [tb3, show (PySem.W.clsIn K B3).isSome = true from ib3] <;> rfl
    | j + 4, h => exact absurd h (by omega)
  have hx : ∀ i, i < 27 → ∃ n, LkX K (As.getD i 0) (As.getD (27 + bi i) 0) (tn (bi i)) n := by
    intro i hi
    rw [hAs]
    match i, hi with
    | 0, _ => exact ⟨_, x0⟩
    | 1, _ => exact ⟨_, x1⟩
    | 2, _ => exact ⟨_, x2⟩
    | 3, _ => exact ⟨_, x3⟩
    | 4, _ => exact ⟨_, x4⟩
    | 5, _ => exact ⟨_, x5⟩
    | 6, _ => exact ⟨_, x6⟩
    | 7, _ => exact ⟨_, x7⟩
    | 8, _ => exact ⟨_, x8⟩
    | 9, _ => exact ⟨_, x9⟩
    | 10, _ => exact ⟨_, x10⟩
    | 11, _ => exact ⟨_, x11⟩
    | 12, _ => exact ⟨_, x12⟩
    | 13, _ => exact ⟨_, x13⟩
    | 14, _ => exact ⟨_, x14⟩
    | 15, _ => exact ⟨_, x15⟩
    | 16, _ => exact ⟨_, x16⟩
    | 17, _ => exact ⟨_, x17⟩
    | 18, _ => exact ⟨_, x18⟩
    | 19, _ => exact ⟨_, x19⟩
    | 20, _ => exact ⟨_, x20⟩
    | 21, _ => exact ⟨_, x21⟩
    | 22, _ => exact ⟨_, x22⟩
    | 23, _ => exact ⟨_, x23⟩
    | 24, _ => exact ⟨_, x24⟩
    | 25, _ => exact ⟨_, x25⟩
    | 26, _ => exact ⟨_, x26⟩
    | i + 27, h => exact absurd h (by omega)
  have T : Txt K mg (fun i => As.getD i 0) (fun j => As.getD (27 + j) 0) (fun i => ([f0, f1, f2, f3, f4, f5, f6, f7, f8, f9, f10, f11, f12, f13, f14, f15, f16, f17, f18, f19, f20, f21, f22, 0, f24, 0, f26] : List Addr).getD i 0) := {
    g := by
      intro i hi
      show mg (nm i) = some (.ref (As.getD i 0))
      rw [hAs]
      match i, hi with
      | 0, _ => exact PySem.W.mg_of X G g0
      | 1, _ => exact PySem.W.mg_of X G g1
      | 2, _ => exact PySem.W.mg_of X G g2
      | 3, _ => exact PySem.W.mg_of X G g3
      | 4, _ => exact PySem.W.mg_of X G g4
      | 5, _ => exact PySem.W.mg_of X G g5
      | 6, _ => exact PySem.W.mg_of X G g6
      | 7, _ => exact PySem.W.mg_of X G g7
      | 8, _ => exact PySem.W.mg_of X G g8
      | 9, _ => exact PySem.W.mg_of X G g9
      | 10, _ => exact PySem.W.mg_of X G g10
      | 11, _ => exact PySem.W.mg_of X G g11
      | 12, _ => exact PySem.W.mg_of X G g12
      | 13, _ => exact PySem.W.mg_of X G g13
      | 14, _ => exact PySem.W.mg_of X G g14
      | 15, _ => exact PySem.W.mg_of X G g15
      | 16, _ => exact PySem.W.mg_of X G g16
      | 17, _ => exact PySem.W.mg_of X G g17
      | 18, _ => exact PySem.W.mg_of X G g18
      | 19, _ => exact PySem.W.mg_of X G g19
      | 20, _ => exact PySem.W.mg_of X G g20
      | 21, _ => exact PySem.W.mg_of X G g21
      | 22, _ => exact PySem.W.mg_of X G g22
      | 23, _ => exact PySem.W.mg_of X G g23
      | 24, _ => exact PySem.W.mg_of X G g24
      | 25, _ => exact PySem.W.mg_of X G g25
      | 26, _ => exact PySem.W.mg_of X G g26
      | i + 27, h => exact absurd h (by omega)
    gB := by
      intro i hi
      show mg (nmB i) = some (.ref (As.getD (27 + i) 0))
      rw [hAs]
      match i, hi with
      | 0, _ => exact PySem.W.mg_of X G h0
      | 1, _ => exact PySem.W.mg_of X G h1
      | 2, _ => exact PySem.W.mg_of X G h2
      | 3, _ => exact PySem.W.mg_of X G h3
      | i + 4, h => exact absurd h (by omega)
    ec := by
      intro i hi
      show ExcC K (As.getD i 0)
      rw [hAs]
      match i, hi with
      | 0, _ => exact ⟨ga0, gt0, sb0, hd0, hc0, cn, ct, mo0⟩
      | 1, _ => exact ⟨ga1, gt1, sb1, hd1, hc1, cn, ct, mo1⟩
      | 2, _ => exact ⟨ga2, gt2, sb2, hd2, hc2, cn, ct, mo2⟩
      | 3, _ => exact ⟨ga3, gt3, sb3, hd3, hc3, cn, ct, mo3⟩
      | 4, _ => exact ⟨ga4, gt4, sb4, hd4, hc4, cn, ct, mo4⟩
      | 5, _ => exact ⟨ga5, gt5, sb5, hd5, hc5, cn, ct, mo5⟩
      | 6, _ => exact ⟨ga6, gt6, sb6, hd6, hc6, cn, ct, mo6⟩
      | 7, _ => exact ⟨ga7, gt7, sb7, hd7, hc7, cn, ct, mo7⟩
      | 8, _ => exact ⟨ga8, gt8, sb8, hd8, hc8, cn, ct, mo8⟩
      | 9, _ => exact ⟨ga9, gt9, sb9, hd9, hc9, cn, ct, mo9⟩
      | 10, _ => exact ⟨ga10, gt10, sb10, hd10, hc10, cn, ct, mo10⟩
      | 11, _ => exact ⟨ga11, gt11, sb11, hd11, hc11, cn, ct, mo11⟩
      | 12, _ => exact ⟨ga12, gt12, sb12, hd12, hc12, cn, ct, mo12⟩
      | 13, _ => exact ⟨ga13, gt13, sb13, hd13, hc13, cn, ct, mo13⟩
      | 14, _ => exact ⟨ga14, gt14, sb14, hd14, hc14, cn, ct, mo14⟩
      | 15, _ => exact ⟨ga15, gt15, sb15, hd15, hc15, cn, ct, mo15⟩
      | 16, _ => exact ⟨ga16, gt16, sb16, hd16, hc16, cn, ct, mo16⟩
      | 17, _ => exact ⟨ga17, gt17, sb17, hd17, hc17, cn, ct, mo17⟩
      | 18, _ => exact ⟨ga18, gt18, sb18, hd18, hc18, cn, ct, mo18⟩
      | 19, _ => exact ⟨ga19, gt19, sb19, hd19, hc19, cn, ct, mo19⟩
      | 20, _ => exact ⟨ga20, gt20, sb20, hd20, hc20, cn, ct, mo20⟩
      | 21, _ => exact ⟨ga21, gt21, sb21, hd21, hc21, cn, ct, mo21⟩
      | 22, _ => exact ⟨ga22, gt22, sb22, hd22, hc22, cn, ct, mo22⟩
      | 23, _ => exact ⟨ga23, gt23, sb23, hd23, hc23, cn, ct, mo23⟩
      | 24, _ => exact ⟨ga24, gt24, sb24, hd24, hc24, cn, ct, mo24⟩
      | 25, _ => exact ⟨ga25, gt25, sb25, hd25, hc25, cn, ct, mo25⟩
      | 26, _ => exact ⟨ga26, gt26, sb26, hd26, hc26, cn, ct, mo26⟩
      | i + 27, h => exact absurd h (by omega)
    kit := by
      intro i hi j hj
      obtain ⟨n, z⟩ := hx i hi
      obtain ⟨n', z'⟩ := hx j hj
      show PySem.W.kitOne K (.ref (As.getD i 0)) (.ref (As.getD j 0)) = some (decide (i = j))
      rw [kit_ref z (lk_ok z')]
      have h2 : decide (As.getD j 0 = As.getD (27 + bi i) 0) = false := decide_eq_false fun q => by
        have b4 := bi_lt i hi
        have := getD_inj nd (by omega) (by omega) q
        omega
      rw [h2, Bool.or_false]
      by_cases q : i = j
      · subst q
        simp
      · rw [decide_eq_false q, decide_eq_false fun z => q (getD_inj nd (by omega) (by omega) z).symm]
    kitB := by
      intro i hi j hj
      obtain ⟨n, z⟩ := hx i hi
      show PySem.W.kitOne K (.ref (As.getD i 0)) (.ref (As.getD (27 + j) 0)) = some (decide (bi i = j))
      rw [kit_ref z (okB j hj)]
      have b4 := bi_lt i hi
      have h2 : decide (As.getD (27 + j) 0 = As.getD i 0) = false := decide_eq_false fun q => by
        have := getD_inj nd (by omega) (by omega) q
        omega
      rw [h2, Bool.false_or]
      by_cases q : bi i = j
      · rw [q]
        simp
      · rw [decide_eq_false q, decide_eq_false fun z => q (by have := getD_inj nd (by omega) (by omega) z; omega)]
    kitT := by
      intro i hi j hj
      obtain ⟨n, z⟩ := hx i hi
      show PySem.W.kitOne K (.ref (As.getD i 0)) (.type (tn j)) = some (decide (bi i = j))
      rw [kit_typ z (tn_meta j hj), bm_tn _ (bi_lt i hi) j hj]
    o0 := by
      rw [hAs]
      exact ⟨⟨PySem.F.excBase_ValueError, PySem.F.store_ValueError, x0, kc0, rfl⟩, ⟨sa0, no0, ic0, ti0⟩, fn0⟩
    o1 := by
      rw [hAs]
      exact ⟨⟨PySem.F.excBase_ValueError, PySem.F.store_ValueError, x1, kc1, rfl⟩, ⟨sa1, no1, ic1, ti1⟩, fn1⟩
    o2 := by
      rw [hAs]
      exact ⟨⟨PySem.F.excBase_ValueError, PySem.F.store_ValueError, x2, kc2, rfl⟩, ⟨sa2, no2, ic2, ti2⟩, fn2⟩
    o3 := by
      rw [hAs]
      exact ⟨⟨PySem.F.excBase_ValueError, PySem.F.store_ValueError, x3, kc3, rfl⟩, ⟨sa3, no3, ic3, ti3⟩, fn3⟩
    o4 := by
      rw [hAs]
      exact ⟨⟨PySem.F.excBase_ValueError, PySem.F.store_ValueError, x4, kc4, rfl⟩, ⟨sa4, no4, ic4, ti4⟩, fn4⟩
    o5 := by
      rw [hAs]
      exact ⟨⟨PySem.F.excBase_ValueError, PySem.F.store_ValueError, x5, kc5, rfl⟩, ⟨sa5, no5, ic5, ti5⟩, fn5⟩
    o6 := by
      rw [hAs]
      exact ⟨⟨PySem.F.excBase_ValueError, PySem.F.store_ValueError, x6, kc6, rfl⟩, ⟨sa6, no6, ic6, ti6⟩, fn6⟩
    o7 := by
      rw [hAs]
      exact ⟨⟨PySem.F.excBase_ValueError, PySem.F.store_ValueError, x7, kc7, rfl⟩, ⟨sa7, no7, ic7, ti7⟩, fn7⟩
    o8 := by
      rw [hAs]
      exact ⟨⟨PySem.F.excBase_ValueError, PySem.F.store_ValueError, x8, kc8, rfl⟩, ⟨sa8, no8, ic8, ti8⟩, fn8⟩
    o9 := by
      rw [hAs]
      exact ⟨⟨PySem.F.excBase_ValueError, PySem.F.store_ValueError, x9, kc9, rfl⟩, ⟨sa9, no9, ic9, ti9⟩, fn9⟩
    o10 := by
      rw [hAs]
      exact ⟨⟨PySem.F.excBase_ValueError, PySem.F.store_ValueError, x10, kc10, rfl⟩, ⟨sa10, no10, ic10, ti10⟩, fn10⟩
    o11 := by
      rw [hAs]
      exact ⟨⟨PySem.F.excBase_ValueError, PySem.F.store_ValueError, x11, kc11, rfl⟩, ⟨sa11, no11, ic11, ti11⟩, fn11⟩
    o12 := by
      rw [hAs]
      exact ⟨⟨PySem.F.excBase_ValueError, PySem.F.store_ValueError, x12, kc12, rfl⟩, ⟨sa12, no12, ic12, ti12⟩, fn12⟩
    o13 := by
      rw [hAs]
      exact ⟨⟨PySem.F.excBase_ValueError, PySem.F.store_ValueError, x13, kc13, rfl⟩, ⟨sa13, no13, ic13, ti13⟩, fn13⟩
    o14 := by
      rw [hAs]
      exact ⟨⟨PySem.F.excBase_ValueError, PySem.F.store_ValueError, x14, kc14, rfl⟩, ⟨sa14, no14, ic14, ti14⟩, fn14⟩
    o15 := by
      rw [hAs]
      exact ⟨⟨PySem.F.excBase_ValueError, PySem.F.store_ValueError, x15, kc15, rfl⟩, ⟨sa15, no15, ic15, ti15⟩, fn15⟩
    o16 := by
      rw [hAs]
      exact ⟨⟨PySem.F.excBase_ValueError, PySem.F.store_ValueError, x16, kc16, rfl⟩, ⟨sa16, no16, ic16, ti16⟩, fn16⟩
    o17 := by
      rw [hAs]
      exact ⟨⟨PySem.F.excBase_ValueError, PySem.F.store_ValueError, x17, kc17, rfl⟩, ⟨sa17, no17, ic17, ti17⟩, fn17⟩
    o18 := by
      rw [hAs]
      exact ⟨⟨PySem.F.excBase_ValueError, PySem.F.store_ValueError, x18, kc18, rfl⟩, ⟨sa18, no18, ic18, ti18⟩, fn18⟩
    o19 := by
      rw [hAs]
      exact ⟨⟨PySem.F.excBase_LookupError, PySem.F.store_LookupError, x19, kc19, rfl⟩, ⟨sa19, no19, ic19, ti19⟩, fn19⟩
    o20 := by
      rw [hAs]
      exact ⟨⟨PySem.F.excBase_LookupError, PySem.F.store_LookupError, x20, kc20, rfl⟩, ⟨sa20, no20, ic20, ti20⟩, fn20⟩
    o21 := by
      rw [hAs]
      exact ⟨⟨PySem.F.excBase_LookupError, PySem.F.store_LookupError, x21, kc21, rfl⟩, ⟨sa21, no21, ic21, ti21⟩, fn21⟩
    o22 := by
      rw [hAs]
      exact ⟨⟨PySem.F.excBase_LookupError, PySem.F.store_LookupError, x22, kc22, rfl⟩, ⟨sa22, no22, ic22, ti22⟩, fn22⟩
    q23 := by
      show PySem.W.excIn K (As.getD 23 0) (bm "LookupError") "LookupError.__new__" = true
      rw [hAs]
      exact q23
    k23 := by
      show PySem.W.keepIn K (.ref (As.getD 23 0)) = true
      rw [hAs]
      exact kc23
    o24 := by
      rw [hAs]
      exact ⟨⟨PySem.F.excBase_RuntimeError, PySem.F.store_RuntimeError, x24, kc24, rfl⟩, ⟨sa24, no24, ic24, ti24⟩, fn24⟩
    q25 := by
      show PySem.W.excIn K (As.getD 25 0) (bm "RuntimeError") "RuntimeError.__new__" = true
      rw [hAs]
      exact q25
    k25 := by
      show PySem.W.keepIn K (.ref (As.getD 25 0)) = true
      rw [hAs]
      exact kc25
    o26 := by
      rw [hAs]
      exact ⟨⟨PySem.F.excBase_ArithmeticError, PySem.F.store_ArithmeticError, x26, kc26, rfl⟩, ⟨sa26, no26, ic26, ti26⟩, fn26⟩
    iN := PySem.W.mg_none_of X G z_iN
    n0 := PySem.W.mg_none_of X G z_n0
    n1 := PySem.W.mg_none_of X G z_n1
    n2 := PySem.W.mg_none_of X G z_n2
    n3 := PySem.W.mg_none_of X G z_n3
    nBool := PySem.W.mg_none_of X G z_nBool
    nEnum := PySem.W.mg_none_of X G z_nEnum
    nRange := PySem.W.mg_none_of X G z_nRange
    nAll := PySem.W.mg_none_of X G z_nAll
    nAbs := PySem.W.mg_none_of X G z_nAbs
    nInt := PySem.W.mg_none_of X G z_nInt
    nStr := PySem.W.mg_none_of X G z_nStr
  }
  obtain ⟨fdK, FK⟩ := FunX.fun eK kK
  have bK := FK.binds (ps := ["_law_e"]) fun _ _ _ _ _ _ us hl => match us, hl with | [_], _ => rfl
  obtain ⟨fdA, FA⟩ := FunX.fun eA kA
  have bA := FA.binds (ps := ["_law_thing"]) fun _ _ _ _ _ _ us hl => match us, hl with | [_], _ => rfl
  obtain ⟨fdB, FB⟩ := FunX.fun eB kB
  have bB := FB.binds (ps := ["_law_e"]) fun _ _ _ _ _ _ us hl => match us, hl with | [_], _ => rfl
  obtain ⟨fdS, FS⟩ := FunX.fun eS kS
  have bS := FS.binds (ps := ["_law_left", "_law_right"]) fun _ _ _ _ _ _ us hl => match us, hl with | [_, _], _ => rfl
  obtain ⟨fdF, FF⟩ := FunX.fun eF kF
  have bF := FF.binds (ps := ["_law_thing"]) fun _ _ _ _ _ _ us hl => match us, hl with | [_], _ => rfl
  obtain ⟨fdG, FG⟩ := FunX.fun eG kG
  have bG := FG.binds (ps := ["_law_thing"]) fun _ _ _ _ _ _ us hl => match us, hl with | [_], _ => rfl
  obtain ⟨fdL, FL⟩ := FunX.fun eL kL
  have bL := FL.binds (ps := ["_law_script"]) fun _ _ _ _ _ _ us hl => match us, hl with | [_], _ => rfl
  have D : Defs K mg fK fA fB fS fF fdK fdA fdB fdS fdF := ⟨FK, FA, FB, FS, FF, bK, bA, bB, bS, bF, PySem.W.mg_of X G dK, PySem.W.mg_of X G dA, PySem.W.mg_of X G dB, PySem.W.mg_of X G dS, PySem.W.mg_of X G dF⟩
  have M : Lims mg := ⟨⟨_, PySem.W.mg_of X G l0⟩, ⟨_, PySem.W.mg_of X G l1⟩, ⟨_, PySem.W.mg_of X G l2⟩, ⟨_, PySem.W.mg_of X G l3⟩, ⟨_, PySem.W.mg_of X G l4⟩, ⟨_, PySem.W.mg_of X G l5⟩, ⟨_, PySem.W.mg_of X G l6⟩⟩
  refine ⟨fdL, fun s v => ?_, fun base _ _ => ok_law FL T D M FG bG (PySem.W.mg_of X G dG)⟩
  obtain ⟨oc, od, kV, doc, pm, an, cdv, ct, osl, rfl, lk, hcd⟩ := FL.ex
  exact .of_eq rfl
theorem walk {l : PySem.W.OpenLaw} {q : Program} {loose : List Str} {XP : (Str → Option Value) → Heap → Prop} {YP : World → Heap → Prop} {d : DefRec} {K : Params → PySem.W.Frag} (hn : l.most = some 63) (hdf : d.params.defaults = [])
    (hY : ∀ (w : World) (h : Heap), YP w h → (K w.params).In h)
    (F : ∀ (w : World) (mg : Str → Option Value) (fa : Addr) (h : Heap), (K w.params).In h → h.Ns mainGlobals mg → mg d.name = some (.ref fa) →
      ∃ fd : FuncData, (∀ (s : Shared) (u : Value), BindsTo s fd ⟨[u], []⟩ [("_law_script", u)]) ∧ ∀ base : Heap, (K w.params).In base → base.Ns mainGlobals mg → FnOk l.prog w (K w.params) mg base CX0 4 fa fd ["_law_script"] (spLaw (K w.params))) :
    PySem.W.WalkO q loose XP YP l.row.toRowW d [] (fun f vs => PySem.call f vs) :=
  L2.walk_of (n := 63) (k := 4) (x := "_law_script") (CX := fun _ => CX0) (sp := fun w => spLaw (K w.params)) hn (by decide) hdf ⟨rfl, by decide, by decide⟩ hY F (fun _ _ a ns hl _ hS => ⟨a, ns, rfl, hS, hl, fun _ => rfl⟩) fun _ _ _ _ _ z => z
end K39

open PySem PySem.W PyProof.Rows
set_option maxRecDepth 100000 in
set_option maxHeartbeats 0 in
theorem PySem.Challenge.cw_latestrows_k39_errors_and_limits_holds : PySem.Challenge.rw_latestrows_k39_errors_and_limits.Holds := by
  w_on; o_law; k_head; (case hw => w_witness2)
  k_fill
  refine K39.walk (l := PySem.Challenge.rw_latestrows_k39_errors_and_limits) rfl rfl (fun w h Y => PySem.W.kIn_of Y) ?F
  case F =>
    intro w mg fa h KX G hmg
    refine' K39.all_mk KX G hmg ?hy_g0 ?hy_g1 ?hy_g2 ?hy_g3 ?hy_g4 ?hy_g5 ?hy_g6 ?hy_g7 ?hy_g8 ?hy_g9 ?hy_g10 ?hy_g11 ?hy_g12 ?hy_g13 ?hy_g14 ?hy_g15 ?hy_g16 ?hy_g17 ?hy_g18 ?hy_g19 ?hy_g20 ?hy_g21 ?hy_g22 ?hy_g23 ?hy_g24 ?hy_g25 ?hy_g26 ?hy_h0 ?hy_h1 ?hy_h2 ?hy_h3 ?hy_ib0 ?hy_tb0 ?hy_ib1 ?hy_tb1 ?hy_ib2 ?hy_tb2 ?hy_ib3 ?hy_tb3 ?hy_x0 ?hy_kc0 ?hy_ga0 ?hy_gt0 ?hy_sb0 ?hy_hd0 ?hy_hc0 ?hy_mo0 ?hy_sa0 ?hy_no0 ?hy_ic0 ?hy_ti0 ?hy_fn0 ?hy_x1 ?hy_kc1 ?hy_ga1 ?hy_gt1 ?hy_sb1 ?hy_hd1 ?hy_hc1 ?hy_mo1 ?hy_sa1 ?hy_no1 ?hy_ic1 ?hy_ti1 ?hy_fn1 ?hy_x2 ?hy_kc2 ?hy_ga2 ?hy_gt2 ?hy_sb2 ?hy_hd2 ?hy_hc2 ?hy_mo2 ?hy_sa2 ?hy_no2 ?hy_ic2 ?hy_ti2 ?hy_fn2 ?hy_x3 ?hy_kc3 ?hy_ga3 ?hy_gt3 ?hy_sb3 ?hy_hd3 ?hy_hc3 ?hy_mo3 ?hy_sa3 ?hy_no3 ?hy_ic3 ?hy_ti3 ?hy_fn3 ?hy_x4 ?hy_kc4 ?hy_ga4 ?hy_gt4 ?hy_sb4 ?hy_hd4 ?hy_hc4 ?hy_mo4 ?hy_sa4 ?hy_no4 ?hy_ic4 ?hy_ti4 ?hy_fn4 ?hy_x5 ?hy_kc5 ?hy_ga5 ?hy_gt5 ?hy_sb5 ?hy_hd5 ?hy_hc5 ?hy_mo5 ?hy_sa5 ?hy_no5 ?hy_ic5 ?hy_ti5 ?hy_fn5 ?hy_x6 ?hy_kc6 ?hy_ga6 ?hy_gt6 ?hy_sb6 ?hy_hd6 ?hy_hc6 ?hy_mo6 ?hy_sa6 ?hy_no6 ?hy_ic6 ?hy_ti6 ?hy_fn6 ?hy_x7 ?hy_kc7 ?hy_ga7 ?hy_gt7 ?hy_sb7 ?hy_hd7 ?hy_hc7 ?hy_mo7 ?hy_sa7 ?hy_no7 ?hy_ic7 ?hy_ti7 ?hy_fn7 ?hy_x8 ?hy_kc8 ?hy_ga8 ?hy_gt8 ?hy_sb8 ?hy_hd8 ?hy_hc8 ?hy_mo8 ?hy_sa8 ?hy_no8 ?hy_ic8 ?hy_ti8 ?hy_fn8 ?hy_x9 ?hy_kc9 ?hy_ga9 ?hy_gt9 ?hy_sb9 ?hy_hd9 ?hy_hc9 ?hy_mo9 ?hy_sa9 ?hy_no9 ?hy_ic9 ?hy_ti9 ?hy_fn9 ?hy_x10 ?hy_kc10 ?hy_ga10 ?hy_gt10 ?hy_sb10 ?hy_hd10 ?hy_hc10 ?hy_mo10 ?hy_sa10 ?hy_no10 ?hy_ic10 ?hy_ti10 ?hy_fn10 ?hy_x11 ?hy_kc11 ?hy_ga11 ?hy_gt11 ?hy_sb11 ?hy_hd11 ?hy_hc11 ?hy_mo11 ?hy_sa11 ?hy_no11 ?hy_ic11 ?hy_ti11 ?hy_fn11 ?hy_x12 ?hy_kc12 ?hy_ga12 ?hy_gt12 ?hy_sb12 ?hy_hd12 ?hy_hc12 ?hy_mo12 ?hy_sa12 ?hy_no12 ?hy_ic12 ?hy_ti12 ?hy_fn12 ?hy_x13 ?hy_kc13 ?hy_ga13 ?hy_gt13 ?hy_sb13 ?hy_hd13 ?hy_hc13 ?hy_mo13 ?hy_sa13 ?hy_no13 ?hy_ic13 ?hy_ti13 ?hy_fn13 ?hy_x14 ?hy_kc14 ?hy_ga14 ?hy_gt14 ?hy_sb14 ?hy_hd14 ?hy_hc14 ?hy_mo14 ?hy_sa14 ?hy_no14 ?hy_ic14 ?hy_ti14 ?hy_fn14 ?hy_x15 ?hy_kc15 ?hy_ga15 ?hy_gt15 ?hy_sb15 ?hy_hd15 ?hy_hc15 ?hy_mo15 ?hy_sa15 ?hy_no15 ?hy_ic15 ?hy_ti15 ?hy_fn15 ?hy_x16 ?hy_kc16 ?hy_ga16 ?hy_gt16 ?hy_sb16 ?hy_hd16 ?hy_hc16 ?hy_mo16 ?hy_sa16 ?hy_no16 ?hy_ic16 ?hy_ti16 ?hy_fn16 ?hy_x17 ?hy_kc17 ?hy_ga17 ?hy_gt17 ?hy_sb17 ?hy_hd17 ?hy_hc17 ?hy_mo17 ?hy_sa17 ?hy_no17 ?hy_ic17 ?hy_ti17 ?hy_fn17 ?hy_x18 ?hy_kc18 ?hy_ga18 ?hy_gt18 ?hy_sb18 ?hy_hd18 ?hy_hc18 ?hy_mo18 ?hy_sa18 ?hy_no18 ?hy_ic18 ?hy_ti18 ?hy_fn18 ?hy_x19 ?hy_kc19 ?hy_ga19 ?hy_gt19 ?hy_sb19 ?hy_hd19 ?hy_hc19 ?hy_mo19 ?hy_sa19 ?hy_no19 ?hy_ic19 ?hy_ti19 ?hy_fn19 ?hy_x20 ?hy_kc20 ?hy_ga20 ?hy_gt20 ?hy_sb20 ?hy_hd20 ?hy_hc20 ?hy_mo20 ?hy_sa20 ?hy_no20 ?hy_ic20 ?hy_ti20 ?hy_fn20 ?hy_x21 ?hy_kc21 ?hy_ga21 ?hy_gt21 ?hy_sb21 ?hy_hd21 ?hy_hc21 ?hy_mo21 ?hy_sa21 ?hy_no21 ?hy_ic21 ?hy_ti21 ?hy_fn21 ?hy_x22 ?hy_kc22 ?hy_ga22 ?hy_gt22 ?hy_sb22 ?hy_hd22 ?hy_hc22 ?hy_mo22 ?hy_sa22 ?hy_no22 ?hy_ic22 ?hy_ti22 ?hy_fn22 ?hy_x23 ?hy_kc23 ?hy_ga23 ?hy_gt23 ?hy_sb23 ?hy_hd23 ?hy_hc23 ?hy_mo23 ?hy_q23 ?hy_x24 ?hy_kc24 ?hy_ga24 ?hy_gt24 ?hy_sb24 ?hy_hd24 ?hy_hc24 ?hy_mo24 ?hy_sa24 ?hy_no24 ?hy_ic24 ?hy_ti24 ?hy_fn24 ?hy_x25 ?hy_kc25 ?hy_ga25 ?hy_gt25 ?hy_sb25 ?hy_hd25 ?hy_hc25 ?hy_mo25 ?hy_q25 ?hy_x26 ?hy_kc26 ?hy_ga26 ?hy_gt26 ?hy_sb26 ?hy_hd26 ?hy_hc26 ?hy_mo26 ?hy_sa26 ?hy_no26 ?hy_ic26 ?hy_ti26 ?hy_fn26 ?hy_cn ?hy_ct ?hy_z_iN ?hy_z_n0 ?hy_z_n1 ?hy_z_n2 ?hy_z_n3 ?hy_z_nBool ?hy_z_nEnum ?hy_z_nRange ?hy_z_nAll ?hy_z_nAbs ?hy_z_nInt ?hy_z_nStr ?hy_l0 ?hy_l1 ?hy_l2 ?hy_l3 ?hy_l4 ?hy_l5 ?hy_l6 ?hy_dK ?hy_eK ?hy_kK ?hy_dA ?hy_eA ?hy_kA ?hy_dB ?hy_eB ?hy_kB ?hy_dS ?hy_eS ?hy_kS ?hy_dF ?hy_eF ?hy_kF ?hy_dG ?hy_eG ?hy_kG ?hy_dL ?hy_eL ?hy_kL ?hy_nd
    (case hy_g0 => k_is)
    (case hy_g1 => k_is)
    (case hy_g2 => k_is)
    (case hy_g3 => k_is)
    (case hy_g4 => k_is)
    (case hy_g5 => k_is)
    (case hy_g6 => k_is)
    (case hy_g7 => k_is)
    (case hy_g8 => k_is)
    (case hy_g9 => k_is)
    (case hy_g10 => k_is)
    (case hy_g11 => k_is)
    (case hy_g12 => k_is)
    (case hy_g13 => k_is)
    (case hy_g14 => k_is)
    (case hy_g15 => k_is)
    (case hy_g16 => k_is)
    (case hy_g17 => k_is)
    (case hy_g18 => k_is)
    (case hy_g19 => k_is)
    (case hy_g20 => k_is)
    (case hy_g21 => k_is)
    (case hy_g22 => k_is)
    (case hy_g23 => k_is)
    (case hy_g24 => k_is)
    (case hy_g25 => k_is)
    (case hy_g26 => k_is)
    (case hy_h0 => k_is)
    (case hy_h1 => k_is)
    (case hy_h2 => k_is)
    (case hy_h3 => k_is)
    (case hy_ib0 => k_is)
    (case hy_tb0 => k_is)
    (case hy_ib1 => k_is)
    (case hy_tb1 => k_is)
    (case hy_ib2 => k_is)
    (case hy_tb2 => k_is)
    (case hy_ib3 => k_is)
    (case hy_tb3 => k_is)
    (case hy_x0 => (refine' K39.lkx_mk ?hz_xy0; (case hz_xy0 => k_is)))
    (case hy_kc0 => k_is)
    (case hy_ga0 => k_is)
    (case hy_gt0 => k_is)
    (case hy_sb0 => k_is)
    (case hy_hd0 => k_is)
    (case hy_hc0 => k_is)
    (case hy_mo0 => k_is)
    (case hy_sa0 => k_is)
    (case hy_no0 => k_is)
    (case hy_ic0 => k_is)
    (case hy_ti0 => k_is)
    (case hy_fn0 => (refine' K39.fn_value_mk ?hz_fy0 ?hz_fz0; (case hz_fy0 => k_is); (case hz_fz0 => k_is)))
    (case hy_x1 => (refine' K39.lkx_mk ?hz_xy1; (case hz_xy1 => k_is)))
    (case hy_kc1 => k_is)
    (case hy_ga1 => k_is)
    (case hy_gt1 => k_is)
    (case hy_sb1 => k_is)
    (case hy_hd1 => k_is)
    (case hy_hc1 => k_is)
    (case hy_mo1 => k_is)
    (case hy_sa1 => k_is)
    (case hy_no1 => k_is)
    (case hy_ic1 => k_is)
    (case hy_ti1 => k_is)
    (case hy_fn1 => (refine' K39.fn_value_mk ?hz_fy1 ?hz_fz1; (case hz_fy1 => k_is); (case hz_fz1 => k_is)))
    (case hy_x2 => (refine' K39.lkx_mk ?hz_xy2; (case hz_xy2 => k_is)))
    (case hy_kc2 => k_is)
    (case hy_ga2 => k_is)
    (case hy_gt2 => k_is)
    (case hy_sb2 => k_is)
    (case hy_hd2 => k_is)
    (case hy_hc2 => k_is)
    (case hy_mo2 => k_is)
    (case hy_sa2 => k_is)
    (case hy_no2 => k_is)
    (case hy_ic2 => k_is)
    (case hy_ti2 => k_is)
    (case hy_fn2 => (refine' K39.fn_value_mk ?hz_fy2 ?hz_fz2; (case hz_fy2 => k_is); (case hz_fz2 => k_is)))
    (case hy_x3 => (refine' K39.lkx_mk ?hz_xy3; (case hz_xy3 => k_is)))
    (case hy_kc3 => k_is)
    (case hy_ga3 => k_is)
    (case hy_gt3 => k_is)
    (case hy_sb3 => k_is)
    (case hy_hd3 => k_is)
    (case hy_hc3 => k_is)
    (case hy_mo3 => k_is)
    (case hy_sa3 => k_is)
    (case hy_no3 => k_is)
    (case hy_ic3 => k_is)
    (case hy_ti3 => k_is)
    (case hy_fn3 => (refine' K39.fn_value_mk ?hz_fy3 ?hz_fz3; (case hz_fy3 => k_is); (case hz_fz3 => k_is)))
    (case hy_x4 => (refine' K39.lkx_mk ?hz_xy4; (case hz_xy4 => k_is)))
    (case hy_kc4 => k_is)
    (case hy_ga4 => k_is)
    (case hy_gt4 => k_is)
    (case hy_sb4 => k_is)
    (case hy_hd4 => k_is)
    (case hy_hc4 => k_is)
    (case hy_mo4 => k_is)
    (case hy_sa4 => k_is)
    (case hy_no4 => k_is)
    (case hy_ic4 => k_is)
    (case hy_ti4 => k_is)
    (case hy_fn4 => (refine' K39.fn_value_mk ?hz_fy4 ?hz_fz4; (case hz_fy4 => k_is); (case hz_fz4 => k_is)))
    (case hy_x5 => (refine' K39.lkx_mk ?hz_xy5; (case hz_xy5 => k_is)))
    (case hy_kc5 => k_is)
    (case hy_ga5 => k_is)
    (case hy_gt5 => k_is)
    (case hy_sb5 => k_is)
    (case hy_hd5 => k_is)
    (case hy_hc5 => k_is)
    (case hy_mo5 => k_is)
    (case hy_sa5 => k_is)
    (case hy_no5 => k_is)
    (case hy_ic5 => k_is)
    (case hy_ti5 => k_is)
    (case hy_fn5 => (refine' K39.fn_value_mk ?hz_fy5 ?hz_fz5; (case hz_fy5 => k_is); (case hz_fz5 => k_is)))
    (case hy_x6 => (refine' K39.lkx_mk ?hz_xy6; (case hz_xy6 => k_is)))
    (case hy_kc6 => k_is)
    (case hy_ga6 => k_is)
    (case hy_gt6 => k_is)
    (case hy_sb6 => k_is)
    (case hy_hd6 => k_is)
    (case hy_hc6 => k_is)
    (case hy_mo6 => k_is)
    (case hy_sa6 => k_is)
    (case hy_no6 => k_is)
    (case hy_ic6 => k_is)
    (case hy_ti6 => k_is)
    (case hy_fn6 => (refine' K39.fn_value_mk ?hz_fy6 ?hz_fz6; (case hz_fy6 => k_is); (case hz_fz6 => k_is)))
    (case hy_x7 => (refine' K39.lkx_mk ?hz_xy7; (case hz_xy7 => k_is)))
    (case hy_kc7 => k_is)
    (case hy_ga7 => k_is)
    (case hy_gt7 => k_is)
    (case hy_sb7 => k_is)
    (case hy_hd7 => k_is)
    (case hy_hc7 => k_is)
    (case hy_mo7 => k_is)
    (case hy_sa7 => k_is)
    (case hy_no7 => k_is)
    (case hy_ic7 => k_is)
    (case hy_ti7 => k_is)
    (case hy_fn7 => (refine' K39.fn_value_mk ?hz_fy7 ?hz_fz7; (case hz_fy7 => k_is); (case hz_fz7 => k_is)))
    (case hy_x8 => (refine' K39.lkx_mk ?hz_xy8; (case hz_xy8 => k_is)))
    (case hy_kc8 => k_is)
    (case hy_ga8 => k_is)
    (case hy_gt8 => k_is)
    (case hy_sb8 => k_is)
    (case hy_hd8 => k_is)
    (case hy_hc8 => k_is)
    (case hy_mo8 => k_is)
    (case hy_sa8 => k_is)
    (case hy_no8 => k_is)
    (case hy_ic8 => k_is)
    (case hy_ti8 => k_is)
    (case hy_fn8 => (refine' K39.fn_value_mk ?hz_fy8 ?hz_fz8; (case hz_fy8 => k_is); (case hz_fz8 => k_is)))
    (case hy_x9 => (refine' K39.lkx_mk ?hz_xy9; (case hz_xy9 => k_is)))
    (case hy_kc9 => k_is)
    (case hy_ga9 => k_is)
    (case hy_gt9 => k_is)
    (case hy_sb9 => k_is)
    (case hy_hd9 => k_is)
    (case hy_hc9 => k_is)
    (case hy_mo9 => k_is)
    (case hy_sa9 => k_is)
    (case hy_no9 => k_is)
    (case hy_ic9 => k_is)
    (case hy_ti9 => k_is)
    (case hy_fn9 => (refine' K39.fn_value_mk ?hz_fy9 ?hz_fz9; (case hz_fy9 => k_is); (case hz_fz9 => k_is)))
    (case hy_x10 => (refine' K39.lkx_mk ?hz_xy10; (case hz_xy10 => k_is)))
    (case hy_kc10 => k_is)
    (case hy_ga10 => k_is)
    (case hy_gt10 => k_is)
    (case hy_sb10 => k_is)
    (case hy_hd10 => k_is)
    (case hy_hc10 => k_is)
    (case hy_mo10 => k_is)
    (case hy_sa10 => k_is)
    (case hy_no10 => k_is)
    (case hy_ic10 => k_is)
    (case hy_ti10 => k_is)
    (case hy_fn10 => (refine' K39.fn_value_mk ?hz_fy10 ?hz_fz10; (case hz_fy10 => k_is); (case hz_fz10 => k_is)))
    (case hy_x11 => (refine' K39.lkx_mk ?hz_xy11; (case hz_xy11 => k_is)))
    (case hy_kc11 => k_is)
    (case hy_ga11 => k_is)
    (case hy_gt11 => k_is)
    (case hy_sb11 => k_is)
    (case hy_hd11 => k_is)
    (case hy_hc11 => k_is)
    (case hy_mo11 => k_is)
    (case hy_sa11 => k_is)
    (case hy_no11 => k_is)
    (case hy_ic11 => k_is)
    (case hy_ti11 => k_is)
    (case hy_fn11 => (refine' K39.fn_value_mk ?hz_fy11 ?hz_fz11; (case hz_fy11 => k_is); (case hz_fz11 => k_is)))
    (case hy_x12 => (refine' K39.lkx_mk ?hz_xy12; (case hz_xy12 => k_is)))
    (case hy_kc12 => k_is)
    (case hy_ga12 => k_is)
    (case hy_gt12 => k_is)
    (case hy_sb12 => k_is)
    (case hy_hd12 => k_is)
    (case hy_hc12 => k_is)
    (case hy_mo12 => k_is)
    (case hy_sa12 => k_is)
    (case hy_no12 => k_is)
    (case hy_ic12 => k_is)
    (case hy_ti12 => k_is)
    (case hy_fn12 => (refine' K39.fn_value_mk ?hz_fy12 ?hz_fz12; (case hz_fy12 => k_is); (case hz_fz12 => k_is)))
    (case hy_x13 => (refine' K39.lkx_mk ?hz_xy13; (case hz_xy13 => k_is)))
    (case hy_kc13 => k_is)
    (case hy_ga13 => k_is)
    (case hy_gt13 => k_is)
    (case hy_sb13 => k_is)
    (case hy_hd13 => k_is)
    (case hy_hc13 => k_is)
    (case hy_mo13 => k_is)
    (case hy_sa13 => k_is)
    (case hy_no13 => k_is)
    (case hy_ic13 => k_is)
    (case hy_ti13 => k_is)
    (case hy_fn13 => (refine' K39.fn_value_mk ?hz_fy13 ?hz_fz13; (case hz_fy13 => k_is); (case hz_fz13 => k_is)))
    (case hy_x14 => (refine' K39.lkx_mk ?hz_xy14; (case hz_xy14 => k_is)))
    (case hy_kc14 => k_is)
    (case hy_ga14 => k_is)
    (case hy_gt14 => k_is)
    (case hy_sb14 => k_is)
    (case hy_hd14 => k_is)
    (case hy_hc14 => k_is)
    (case hy_mo14 => k_is)
    (case hy_sa14 => k_is)
    (case hy_no14 => k_is)
    (case hy_ic14 => k_is)
    (case hy_ti14 => k_is)
    (case hy_fn14 => (refine' K39.fn_index_mk ?hz_fy14 ?hz_fz14; (case hz_fy14 => k_is); (case hz_fz14 => k_is)))
    (case hy_x15 => (refine' K39.lkx_mk ?hz_xy15; (case hz_xy15 => k_is)))
    (case hy_kc15 => k_is)
    (case hy_ga15 => k_is)
    (case hy_gt15 => k_is)
    (case hy_sb15 => k_is)
    (case hy_hd15 => k_is)
    (case hy_hc15 => k_is)
    (case hy_mo15 => k_is)
    (case hy_sa15 => k_is)
    (case hy_no15 => k_is)
    (case hy_ic15 => k_is)
    (case hy_ti15 => k_is)
    (case hy_fn15 => (refine' K39.fn_index_mk ?hz_fy15 ?hz_fz15; (case hz_fy15 => k_is); (case hz_fz15 => k_is)))
    (case hy_x16 => (refine' K39.lkx_mk ?hz_xy16; (case hz_xy16 => k_is)))
    (case hy_kc16 => k_is)
    (case hy_ga16 => k_is)
    (case hy_gt16 => k_is)
    (case hy_sb16 => k_is)
    (case hy_hd16 => k_is)
    (case hy_hc16 => k_is)
    (case hy_mo16 => k_is)
    (case hy_sa16 => k_is)
    (case hy_no16 => k_is)
    (case hy_ic16 => k_is)
    (case hy_ti16 => k_is)
    (case hy_fn16 => (refine' K39.fn_index_mk ?hz_fy16 ?hz_fz16; (case hz_fy16 => k_is); (case hz_fz16 => k_is)))
    (case hy_x17 => (refine' K39.lkx_mk ?hz_xy17; (case hz_xy17 => k_is)))
    (case hy_kc17 => k_is)
    (case hy_ga17 => k_is)
    (case hy_gt17 => k_is)
    (case hy_sb17 => k_is)
    (case hy_hd17 => k_is)
    (case hy_hc17 => k_is)
    (case hy_mo17 => k_is)
    (case hy_sa17 => k_is)
    (case hy_no17 => k_is)
    (case hy_ic17 => k_is)
    (case hy_ti17 => k_is)
    (case hy_fn17 => (refine' K39.fn_index_mk ?hz_fy17 ?hz_fz17; (case hz_fy17 => k_is); (case hz_fz17 => k_is)))
    (case hy_x18 => (refine' K39.lkx_mk ?hz_xy18; (case hz_xy18 => k_is)))
    (case hy_kc18 => k_is)
    (case hy_ga18 => k_is)
    (case hy_gt18 => k_is)
    (case hy_sb18 => k_is)
    (case hy_hd18 => k_is)
    (case hy_hc18 => k_is)
    (case hy_mo18 => k_is)
    (case hy_sa18 => k_is)
    (case hy_no18 => k_is)
    (case hy_ic18 => k_is)
    (case hy_ti18 => k_is)
    (case hy_fn18 => (refine' K39.fn_index_mk ?hz_fy18 ?hz_fz18; (case hz_fy18 => k_is); (case hz_fz18 => k_is)))
    (case hy_x19 => (refine' K39.lkx_mk ?hz_xy19; (case hz_xy19 => k_is)))
    (case hy_kc19 => k_is)
    (case hy_ga19 => k_is)
    (case hy_gt19 => k_is)
    (case hy_sb19 => k_is)
    (case hy_hd19 => k_is)
    (case hy_hc19 => k_is)
    (case hy_mo19 => k_is)
    (case hy_sa19 => k_is)
    (case hy_no19 => k_is)
    (case hy_ic19 => k_is)
    (case hy_ti19 => k_is)
    (case hy_fn19 => (refine' K39.fn_value_mk ?hz_fy19 ?hz_fz19; (case hz_fy19 => k_is); (case hz_fz19 => k_is)))
    (case hy_x20 => (refine' K39.lkx_mk ?hz_xy20; (case hz_xy20 => k_is)))
    (case hy_kc20 => k_is)
    (case hy_ga20 => k_is)
    (case hy_gt20 => k_is)
    (case hy_sb20 => k_is)
    (case hy_hd20 => k_is)
    (case hy_hc20 => k_is)
    (case hy_mo20 => k_is)
    (case hy_sa20 => k_is)
    (case hy_no20 => k_is)
    (case hy_ic20 => k_is)
    (case hy_ti20 => k_is)
    (case hy_fn20 => (refine' K39.fn_value_mk ?hz_fy20 ?hz_fz20; (case hz_fy20 => k_is); (case hz_fz20 => k_is)))
    (case hy_x21 => (refine' K39.lkx_mk ?hz_xy21; (case hz_xy21 => k_is)))
    (case hy_kc21 => k_is)
    (case hy_ga21 => k_is)
    (case hy_gt21 => k_is)
    (case hy_sb21 => k_is)
    (case hy_hd21 => k_is)
    (case hy_hc21 => k_is)
    (case hy_mo21 => k_is)
    (case hy_sa21 => k_is)
    (case hy_no21 => k_is)
    (case hy_ic21 => k_is)
    (case hy_ti21 => k_is)
    (case hy_fn21 => (refine' K39.fn_value_mk ?hz_fy21 ?hz_fz21; (case hz_fy21 => k_is); (case hz_fz21 => k_is)))
    (case hy_x22 => (refine' K39.lkx_mk ?hz_xy22; (case hz_xy22 => k_is)))
    (case hy_kc22 => k_is)
    (case hy_ga22 => k_is)
    (case hy_gt22 => k_is)
    (case hy_sb22 => k_is)
    (case hy_hd22 => k_is)
    (case hy_hc22 => k_is)
    (case hy_mo22 => k_is)
    (case hy_sa22 => k_is)
    (case hy_no22 => k_is)
    (case hy_ic22 => k_is)
    (case hy_ti22 => k_is)
    (case hy_fn22 => (refine' K39.fn_value_mk ?hz_fy22 ?hz_fz22; (case hz_fy22 => k_is); (case hz_fz22 => k_is)))
    (case hy_x23 => (refine' K39.lkx_mk ?hz_xy23; (case hz_xy23 => k_is)))
    (case hy_kc23 => k_is)
    (case hy_ga23 => k_is)
    (case hy_gt23 => k_is)
    (case hy_sb23 => k_is)
    (case hy_hd23 => k_is)
    (case hy_hc23 => k_is)
    (case hy_mo23 => k_is)
    (case hy_q23 => first | k_exc | k_is | kernel_rfl)
    (case hy_x24 => (refine' K39.lkx_mk ?hz_xy24; (case hz_xy24 => k_is)))
    (case hy_kc24 => k_is)
    (case hy_ga24 => k_is)
    (case hy_gt24 => k_is)
    (case hy_sb24 => k_is)
    (case hy_hd24 => k_is)
    (case hy_hc24 => k_is)
    (case hy_mo24 => k_is)
    (case hy_sa24 => k_is)
    (case hy_no24 => k_is)
    (case hy_ic24 => k_is)
    (case hy_ti24 => k_is)
    (case hy_fn24 => (refine' K39.fn_value_mk ?hz_fy24 ?hz_fz24; (case hz_fy24 => k_is); (case hz_fz24 => k_is)))
    (case hy_x25 => (refine' K39.lkx_mk ?hz_xy25; (case hz_xy25 => k_is)))
    (case hy_kc25 => k_is)
    (case hy_ga25 => k_is)
    (case hy_gt25 => k_is)
    (case hy_sb25 => k_is)
    (case hy_hd25 => k_is)
    (case hy_hc25 => k_is)
    (case hy_mo25 => k_is)
    (case hy_q25 => first | k_exc | k_is | kernel_rfl)
    (case hy_x26 => (refine' K39.lkx_mk ?hz_xy26; (case hz_xy26 => k_is)))
    (case hy_kc26 => k_is)
    (case hy_ga26 => k_is)
    (case hy_gt26 => k_is)
    (case hy_sb26 => k_is)
    (case hy_hd26 => k_is)
    (case hy_hc26 => k_is)
    (case hy_mo26 => k_is)
    (case hy_sa26 => k_is)
    (case hy_no26 => k_is)
    (case hy_ic26 => k_is)
    (case hy_ti26 => k_is)
    (case hy_fn26 => (refine' K39.fn_limit_mk ?hz_fy26 ?hz_fz26; (case hz_fy26 => k_is); (case hz_fz26 => k_is)))
    (case hy_cn => k_is)
    (case hy_ct => k_is)
    (case hy_z_iN => k_is)
    (case hy_z_n0 => k_is)
    (case hy_z_n1 => k_is)
    (case hy_z_n2 => k_is)
    (case hy_z_n3 => k_is)
    (case hy_z_nBool => k_is)
    (case hy_z_nEnum => k_is)
    (case hy_z_nRange => k_is)
    (case hy_z_nAll => k_is)
    (case hy_z_nAbs => k_is)
    (case hy_z_nInt => k_is)
    (case hy_z_nStr => k_is)
    (case hy_l0 => k_is)
    (case hy_l1 => k_is)
    (case hy_l2 => k_is)
    (case hy_l3 => k_is)
    (case hy_l4 => k_is)
    (case hy_l5 => k_is)
    (case hy_l6 => k_is)
    (case hy_dK => k_is)
    (case hy_eK => (refine' K39.funx_mk ?hz_eyK ?hz_ezK; (case hz_eyK => k_is); (case hz_ezK => k_is)))
    (case hy_kK => k_is)
    (case hy_dA => k_is)
    (case hy_eA => (refine' K39.funx_mk ?hz_eyA ?hz_ezA; (case hz_eyA => k_is); (case hz_ezA => k_is)))
    (case hy_kA => k_is)
    (case hy_dB => k_is)
    (case hy_eB => (refine' K39.funx_mk ?hz_eyB ?hz_ezB; (case hz_eyB => k_is); (case hz_ezB => k_is)))
    (case hy_kB => k_is)
    (case hy_dS => k_is)
    (case hy_eS => (refine' K39.funx_mk ?hz_eyS ?hz_ezS; (case hz_eyS => k_is); (case hz_ezS => k_is)))
    (case hy_kS => k_is)
    (case hy_dF => k_is)
    (case hy_eF => (refine' K39.funx_mk ?hz_eyF ?hz_ezF; (case hz_eyF => k_is); (case hz_ezF => k_is)))
    (case hy_kF => k_is)
    (case hy_dG => k_is)
    (case hy_eG => (refine' K39.funx_mk ?hz_eyG ?hz_ezG; (case hz_eyG => k_is); (case hz_ezG => k_is)))
    (case hy_kG => k_is)
    (case hy_dL => k_is)
    (case hy_eL => (refine' K39.funx_mk ?hz_eyL ?hz_ezL; (case hz_eyL => k_is); (case hz_ezL => k_is)))
    (case hy_kL => k_is)
    (case hy_nd => decide)
#print axioms PySem.Challenge.cw_latestrows_k39_errors_and_limits_holds
