import PyProof.Rows.All
import Wide.All
import OpenK.AllK
import Wide.FinOn
import HandS.Head2
import HandS.HeadHook4
import HandS.Words
import PyProof.EqAt
import PyProof.EqKinds
import PyProof.TupleCall
import KE.KExcInit
import KE.KExcIs
import HandS.ForMost
import HandS.Exc
import HandS.ExcInit
import HandS.ExcIs
import HandS.ExcValue
import HandS.IsInst
import HandS.Walk
import HandS.Set
import HandS.SetFor
import HandS.Strs
import PyProof.Rows.SortShellAny
import HandS.Deep
import HandS.Text
import HandS.SetBool
import PyProof.TupleOfSeq
import HandS.SortOrd
import HandS.SortRule
import KE.GoesMore
import PyProof.Draws
import PyProof.EnumMake
import HandS.Iter
import HandS.Star
import HandS.SlotsOwn
import PyProof.ListNew
import HandS.ClsMeth
import HandS.Defaults
import HandS.DictTup
import PyProof.ReprRoads
import PyProof.ReprLen
import PyProof.CallFns
import HandS.Ends
import HandS.TupAny
import HandS.Lambda
import KE.KTryMore
import KE.KExcHand
import HandS.ExcCtx
import HandS.Hot
import PyProof.ListRange
import HandS.Conv
import HandS.FStr
import KE.KStar
import HandS.TupLe
import HandS.DictComp
import KE.KCallOwn
import HandS.MakeKwOnly
import KE.KOpsOwn
import HandS.RaiseMore
import HandS.EndTab
import KE.KNest
import PySem.Challenge.RW_latestrows_k04_times_and_looks_made
set_option Elab.async false
set_option linter.all false
set_option maxRecDepth 100000
set_option maxHeartbeats 8000000
/-! a head's facts by one Bool of one's own, the defs by their statements, the tables of those that make lambdas -/
namespace HdX
open PySem PySem.Spec PyProof.Rows L2 He
/-- a def: where it stands, its name, qualified name, statement -/
structure FnA where
  at_ : PySem.W.Frag → Addr
  name : Str
  qual : Str
  st : Stmt
def FnA.val (d : FnA) : FnV := some (d.name, d.qual, defArgs d.st, .stmts (defBody d.st), defScope d.st, mainGlobals, [], .none, builtinsNs)
def fnObsA (K : PySem.W.Frag) (d : FnA) : FnV := match K.lookup (d.at_ K) with
  | some ⟨_, _, .func fd, _⟩ => some (fd.name, fd.qualname, fd.params, fd.body, fd.scope, fd.globals, fd.closure, fd.defaults, fd.builtins)
  | _ => none
def codeB (K : PySem.W.Frag) (a : Addr) (q : Str) : Bool := match K.lookup a with
  | some ⟨_, _, .func fd, _⟩ => PySem.W.codeIn K fd.code q
  | _ => false
theorem fnA_ok {K : PySem.W.Frag} {d : FnA} (e : fnObsA K d = d.val) (c : codeB K (d.at_ K) d.qual = true) :
    ∃ (oc kV dc pm cd ct : Value) (od an : Option Addr) (sl : Array (Option Value)), K.lookup (d.at_ K) = some ⟨oc, od, .func (PySem.W.fnOf d.name d.qual (defArgs d.st) (defBody d.st) (defScope d.st) .none kV dc pm an cd ct), sl⟩ ∧ PySem.W.codeIn K cd d.qual = true := by
  unfold codeB at c
  unfold fnObsA at e
  cases q : K.lookup (d.at_ K) with
  | none =>
    rw [q] at c
    cases c
  | some o =>
    obtain ⟨oc, od, dt, osl⟩ := o
    rw [q] at c e
    cases dt with
    | func fd =>
      obtain ⟨n1, n2, n3, n4, n5, n6, n7, n8, n9, n10, n11, n12, n13, n14, n15⟩ := fd
      have e2 : (some (n1, n2, n3, n4, n5, n6, n7, n8, n15) : FnV) = some (d.name, d.qual, defArgs d.st, .stmts (defBody d.st), defScope d.st, mainGlobals, [], .none, builtinsNs) := e
      simp only [Option.some.injEq, Prod.mk.injEq] at e2
      obtain ⟨h1, h2, h3, h4, h5, h6, h7, h8, h9⟩ := e2
      subst h1 h2 h3 h4 h5 h6 h7 h8 h9
      exact ⟨oc, n9, n10, n11, n13, n14, od, n12, osl, rfl, c⟩
    | _ => cases c
/-- a def's code object and its table -/
def codeAt (K : PySem.W.Frag) (a : Addr) : Addr := match K.lookup a with
  | some ⟨_, _, .func fd, _⟩ => (match fd.code with
    | .ref c => c
    | _ => 0)
  | _ => 0
def tabA (K : PySem.W.Frag) (f : PySem.W.Frag → Addr) : Addr × Addr := (codeAt K (f K), tabOf K (codeAt K (f K)))
def tabsA (g : Addr → Option Obj) (tf : List (PySem.W.Frag → Addr)) (K : PySem.W.Frag) : Bool := tf.all fun f => PySem.W.codeHdIn K (tabA K f).1 (tabA K f).2 && (match g (tabA K f).2 with
  | some o => emptyTab o
  | none => false)
/-- what is told -/
structure SaysK (fn : List FnA) (tf : List (PySem.W.Frag → Addr)) (ex : PySem.W.Frag → Bool) (h : Heap) (K : PySem.W.Frag) : Prop where
  more : ex K = true
  defs : ∀ d ∈ fn, fnObsA K d = d.val ∧ codeB K (d.at_ K) d.qual = true
  hd : ∀ f ∈ tf, PySem.W.codeHdIn K (tabA K f).1 (tabA K f).2 = true
  out : ∀ f ∈ tf, K.lookup (tabA K f).2 = none
  empty : ∀ f ∈ tf, h.get? (tabA K f).2 = some { cls := .none, data := .fields #[] }
abbrev AlK : Type := Bool × List FnV
def obsK (as : List Addr) (fn : List FnA) (tf : List (PySem.W.Frag → Addr)) (ex : PySem.W.Frag → Bool) (g : Addr → Option Obj) : AlK :=
  (ex (frT g as) && (tabsA g tf (frT g as) && fn.all fun d => codeB (frT g as) (d.at_ (frT g as)) d.qual), fn.map fun d => fnObsA (frT g as) d)
def valK (fn : List FnA) : AlK := (true, fn.map FnA.val)
theorem saysK_of {as : List Addr} {fn : List FnA} {tf : List (PySem.W.Frag → Addr)} {ex : PySem.W.Frag → Bool} {h : Heap} (e : obsK as fn tf ex h.get? = valK fn) : SaysK fn tf ex h (frT h.get? as) := by
  have e1 : fn.map (fun d => fnObsA (frT h.get? as) d) = fn.map FnA.val := congrArg (fun z : AlK => z.2) e
  have e2 : (ex (frT h.get? as) && (tabsA h.get? tf (frT h.get? as) && fn.all fun d => codeB (frT h.get? as) (d.at_ (frT h.get? as)) d.qual)) = true := congrArg (fun z : AlK => z.1) e
  obtain ⟨h1, h2⟩ := ba e2
  obtain ⟨h3, h4⟩ := ba h2
  have key : ∀ f ∈ tf, PySem.W.codeHdIn (frT h.get? as) (tabA (frT h.get? as) f).1 (tabA (frT h.get? as) f).2 = true ∧ ∃ o, h.get? (tabA (frT h.get? as) f).2 = some o ∧ emptyTab o = true := fun f hf => by
    obtain ⟨h5, h6⟩ := ba (List.all_eq_true.mp h3 f hf)
    refine ⟨h5, ?_⟩
    cases q : h.get? (tabA (frT h.get? as) f).2 with
    | none =>
      rw [q] at h6
      cases h6
    | some o =>
      rw [q] at h6
      exact ⟨o, rfl, h6⟩
  refine ⟨h1, fun d hd => ⟨?_, List.all_eq_true.mp h4 d hd⟩, fun f hf => (key f hf).1, fun f hf => ?_, fun f hf => ?_⟩
  · obtain ⟨i, hi, z⟩ := List.mem_iff_getElem.mp hd
    have z2 : (fn.map fun d => fnObsA (frT h.get? as) d)[i]? = (fn.map FnA.val)[i]? := by rw [e1]
    rw [List.getElem?_map, List.getElem?_map, List.getElem?_eq_getElem hi, z] at z2
    exact Option.some.inj z2
  · obtain ⟨_, o, q, z⟩ := key f hf
    exact frT_none q z
  · obtain ⟨_, o, q, z⟩ := key f hf
    rw [q, emptyTab_eq z]
def hookK (as : List Addr) (fn : List FnA) (tf : List (PySem.W.Frag → Addr)) (ex : PySem.W.Frag → Bool) : PySem.W.Hook where
  α := AlK
  obs := fun s => obsK as fn tf ex s.heap.get?
  val := fun _ => valK fn
  says := fun _ h => ∃ K : PySem.W.Frag, K.In h ∧ SaysK fn tf ex h K
  of := fun _ _ e => ⟨_, frT_in, saysK_of e⟩
  keeps := fun _ _ _ ⟨K, hK, c⟩ k => ⟨K, PySem.W.Frag.In.keeps hK k, ⟨c.more, c.defs, c.hd, c.out, fun p hp => k _ _ (c.empty p hp)⟩⟩
theorem obsK_eq {as : List Addr} {fn : List FnA} {tf : List (PySem.W.Frag → Addr)} {ex : PySem.W.Frag → Bool} {g : Addr → Option Obj} {s : Shared} (h : ∀ a, g a = s.heap.get? a) : obsK as fn tf ex g = (hookK as fn tf ex).obs s := by
  have e : g = s.heap.get? := funext h
  rw [e] <;> rfl
/-- addresses by names -/
def gA (x : Str) : PySem.W.Frag → Addr := fun K => ga K x
def mA (c m : Str) : PySem.W.Frag → Addr := fun K => ma K (ga K c) m
/-- a static method's def -/
def sA (c m : Str) : PySem.W.Frag → Addr := fun K => match PySem.W.recIn K (ma K (ga K c) m) "staticmethod" with
  | some (.ref g :: _) => g
  | _ => 0
end HdX


/-! own exception classes over any base, as values: made by position and by name, asked by isinstance, their field read -/
namespace PySem
namespace XV
open PySem.W PySem.Calls PyProof.Rows PySem.HandSPX Builtin.ObjectAttr Builtin
/-! ### the first field that is stored on a new exception: its dict is made then -/
section
variable {prog : Program} {w : World} {A : Around} {R : Result → Shared → Prop} {K : Frag} {x C : Addr} {fv : Array Value} {f : Str} {u : Value} {tk : Tok} {b0 : String} {bmB : List Value}
theorem first_field (SF : StoreFacts b0 bmB "object.__setattr__" "object") {s : Shared} (X : K.In s.heap) (hx : s.heap.get? x = some { cls := .ref C, data := .fields fv }) (over : excOver K C bmB = true) (no : takerIn K C f = some none) (hd : hasDictIn K C = true)
    (next : ∀ G n dx, (∀ b o, b ≠ x → s.heap.get? b = some o → G.get? b = some o) → s.heap.objs.size ≤ dx → dx ≠ x → G.get? x = some { cls := .ref C, dict := some dx, data := .fields fv } →
      G.Ns1 dx (fun y => if y = f then some u else none) → R (.ok (.ret .none)) { s with heap := G, toks := n }) :
    codeAny (model prog w) A (.call (.builtin "object.__setattr__") ⟨[.ref x, .str f tk, u], []⟩) R s := by
  refine osa_openX SF X (ox := { cls := .ref C, data := .fields fv }) (od := none) ⟨hx, rfl, rfl, trivial⟩ over no fun lazy => ?_
  obtain ⟨cd, hcd, dct⟩ := any_some hd
  have isC : Looks (model prog w) s.heap (classData C) cd := looks_clsIn X hcd
  obtain ⟨hp, g, dr, tt, os⟩ := s
  have nx : x ≠ hp.objs.size := Nat.ne_of_lt (Heap.lt_size hx)
  show wpAny _ _ (storeInOwnDict (.ref x) (.ref C) (.str f tk) f u lazy) _ _ _
  obtain ⟨c1, c2, c3, c4, c5, c6, c7, c8, c9, c10, c11⟩ := cd
  obtain rfl : c6 = true := dct
  unfold storeInOwnDict
  unfold ownDictForStores
  repeat (first
    | with_reducible refine isC.at ?_
    | with_reducible refine store_in_new ?_ ?_
    | with_reducible refine wpAny_loadPart_at hx ?_
    | wp_step)
  · refine ⟨{ cls := .type "dict", data := .dict #[] }, #[], 0, ?_, rfl, fun e q => absurd q (by simp), fun _ => rfl⟩
    rw [Heap.get?_update_ne _ _ _ _ nx.symm]
    exact Heap.get?_push_at rfl rfl
  · intro G n dict same
    have grown : ∀ {b : Addr} {o : Obj}, hp.get? b = some o → (hp.push { cls := .type "dict", data := .dict #[] }).get? b = some o := fun q => Heap.get?_push_of_some _ q
    refine next G n hp.objs.size (fun b o ne q => ?_) (Nat.le_refl _) nx.symm ?_ dict
    · rw [same.2 b (Nat.ne_of_lt (Heap.lt_size q)), Heap.get?_update_ne _ _ _ _ ne]
      exact grown q
    · rw [same.2 x nx]
      exact Heap.get?_update_self _ (grown hx) rfl
end
/-! ### C(..) with values and keywords: the library's call has values alone -/
section
variable {prog : Program} {w : World} {A : Around} {R : Result → Shared → Prop} {h : Heap} {g : Array GenState} {dr : Drawn} {tt : Nat} {os : OsState}
variable {nm q : Str} {C N fI : Addr} {bs bm bmB : List Value} {sn : List Str} {sub : List Value} {ab : Bool} {col : Option Bool} {dd : Option Addr} {k0 k1 k2 k3 k5 : Option Value} {B newId initId : String} {vs : List Value} {kw : List (Str × Value)}
/-- what the class is an heir of -/
theorem heir (same : ∀ X : String, bm.contains (.type X) = bmB.contains (.type X)) (X : String) : (Value.ref C :: bm).contains (.type X) = bmB.contains (.type X) := by
  have e : (Value.type X == Value.ref C) = false := beq_eq_false_iff_ne.mpr fun z => nomatch z
  rw [List.contains_cons, e, Bool.false_or, same]
/-- the new object, its arguments kept, the keywords let go -/
theorem born (F : ExcBaseFacts B newId initId bmB) (same : ∀ X : String, bm.contains (.type X) = bmB.contains (.type X)) (hC : h.get? C = some (excClassObj nm q C N bs bm true sn sub ab col dd k0 k1 k2 k3 k5 newId)) (few : vs.length ≤ sizeLine)
    (next : R (.ok (.ret (.ref (h.objs.size + 1)))) ⟨(h.push (kdv_tup vs)).push (excO C h.objs.size), g, dr, tt, os⟩) :
    codeAny (model prog w) A (.builtin newId ⟨.ref C :: vs, kw⟩) R ⟨h, g, dr, tt, os⟩ := by
  have ends := F.ends
  have isB : (Value.ref C :: bm).contains (.type B) = true := (heir same B).trans F.hasB
  have notA : (Value.ref C :: bm).contains (.type "AttributeError") = false := (heir same _).trans F.noAttr
  have notN : (Value.ref C :: bm).contains (.type "NameError") = false := (heir same _).trans F.noName
  refine codeAny_builtinAt F.entry ?_
  unfold «BaseException.__new__»
  refine wpAt_bind ?_
  show wpAt _ _ _ (stack >>= fun _ => _) _ _ _
  refine wpAt_bind (wpAt_stack fun _ _ => ?_)
  refine wpAt_of_wpAny ?_
  wp_walk
  refine wpAt_of_wpAny ?_
  rw [F.owner]
  repeat (first
    | (with_reducible refine wpAny_isSubtype_exc hC ?_; first | rw [isB] | rw [notN] | rw [notA])
    | with_reducible refine wpAny_loadPart_at hC ?_
    | with_reducible refine wpAny_madeHere_exc F.canon hC ?_
    | wp_step)
  show R _ _
  rw [Heap.size_push]
  exact next
/-- the check ahead of it -/
theorem born_check {M : Model} {E : Value → Shared → Prop} {Q : Unit → Shared → Prop} (F : ExcBaseFacts B newId initId bmB) (same : ∀ X : String, bm.contains (.type X) = bmB.contains (.type X)) (hC : h.get? C = some (excClassObj nm q C N bs bm true sn sub ab col dd k0 k1 k2 k3 k5 newId))
    (next : Q () ⟨h, g, dr, tt, os⟩) : wpAny M A (checkBuiltinCall newId ⟨.ref C :: vs, kw⟩) Q E ⟨h, g, dr, tt, os⟩ := by
  have star := F.noStar
  have isB : (Value.ref C :: bm).contains (.type B) = true := (heir same B).trans F.hasB
  simp only [F.newRow, F.newKind, F.newSplit, checkBuiltinCall]
  repeat (first
    | refine wpAny_madeBy_exc hC ?_
    | refine wpAny_staticBase_exc hC ?_
    | (refine wpAny_isSubtype_exc hC ?_; rw [isB])
    | refine wpAny_loadPart_at hC ?_
    | simp only [if_false, Bool.false_eq_true, bne_self_eq_false]
    | wp_step)
  exact next
/-- born, then handed to its own __init__ -/
theorem call_kw (F : ExcBaseFacts B newId initId bmB) (same : ∀ X : String, bm.contains (.type X) = bmB.contains (.type X)) (hC : h.get? C = some (excClassObj nm q C N bs bm true sn sub ab col dd k0 k1 k2 k3 k5 newId))
    (ini : Looks (model prog w) h (typeLookup (.ref C) "__init__") (some (.ref fI))) (bnd : ∀ self, Looks (model prog w) h (bindSpecial (.ref fI) self) (.ref fI, [self])) (few : vs.length ≤ sizeLine)
    (go : codeAny (model prog w) (A.under (.builtin "type.__call__" ⟨.ref C :: vs, kw⟩)) (.call (.ref fI) ⟨.ref (h.objs.size + 1) :: vs, kw⟩) (InitBack (h.objs.size + 1) R) ⟨(h.push (kdv_tup vs)).push (excO C h.objs.size), g, dr, tt, os⟩) :
    codeAny (model prog w) A (.call (.ref C) ⟨vs, kw⟩) R ⟨h, g, dr, tt, os⟩ := by
  have grown : ∀ b o, h.get? b = some o → ((h.push (kdv_tup vs)).push (excO C h.objs.size)).get? b = some o := fun b o e => Heap.get?_push_of_some _ (Heap.get?_push_of_some _ e)
  have there : ((h.push (kdv_tup vs)).push (excO C h.objs.size)).get? (h.objs.size + 1) = some (excO C h.objs.size) := by heap_get
  have isType : (⟨h, g, dr, tt, os⟩ : Shared).TypeIs (.ref C) "type" := ⟨_, hC, rfl⟩
  have lk := tc_lookup
  have bd := tc_bind (.ref C)
  refine codeAny_of_tree ?_
  show wpAny _ _ (callAny (.ref C) ⟨vs, kw⟩) _ _ _
  repeat (any_goals (first | with_reducible refine wpAny_loadPart_at hC ?_ | assumption | wp_step))
  refine ⟨rfl, codeAny_call_builtin_at (Code.quiet_builtin _ (by decide +kernel)) entry_typeCall (wpAny_check_type_call_sub hC ?_)⟩
  repeat (first | with_reducible refine wpAny_madeBy_exc hC ?_ | with_reducible refine wpAny_loadPart_at hC ?_ | wp_step)
  refine codeAny_call_builtin_code (Code.quiet_builtin _ F.quiet) (born_check F same hC (born F same hC few ?_))
  show wpAny _ _ _ _ _ ⟨(h.push (kdv_tup vs)).push (excO C h.objs.size), g, dr, tt, os⟩
  have hC2 := grown _ _ hC
  have itself : (Value.ref C :: bm).contains (.ref C) = true := by simp only [List.contains_cons, beq_self_eq_true, Bool.true_or]
  unfold isInstance
  repeat (first | with_reducible refine wpAny_loadPart_at there ?_ | (with_reducible refine wpAny_isSubtype_exc hC2 ?_; rw [itself]) | wp_step)
  show wpAny _ _ (typeLookup (.ref C) "__init__") _ _ _
  refine (ini.keeps grown).at (wpAny_holding (wpAny_bind (((bnd (.ref (h.objs.size + 1))).keeps grown).at ?_)))
  refine wpAny_bind (wpAny_call (codeAny_mono go fun back s' z => ?_))
  cases back with
  | error e => exact z
  | ok fl =>
    cases fl with
    | ret v =>
      obtain ⟨rfl, z⟩ := z
      first
        | (wp_walk; exact z)
        | exact wpAny_pure (wpAny_pure z)
    | next => exact z.elim
    | brk => exact z.elim
    | cont => exact z.elim
end
end XV
end PySem


namespace PySem
namespace XV
open PySem.W PySem.Calls PyProof.Rows PySem.HandSPX
/-! ### what the written part says of an own exception class -/
/-- the class at C, its one own base at B, then the built-in bmB -/
structure CF (K : Frag) (C B : Addr) (bn newId initId : String) (bmB : List Value) : Prop where
  fac : ExcBaseFacts bn newId initId bmB
  sto : StoreFacts bn bmB "object.__setattr__" "object"
  cls : ∃ nm q N bs sn sub ab col dd k0 k1 k2 k3 k5, K.lookup C = some (excClassObj nm q C N bs (.ref B :: bmB) true sn sub ab col dd k0 k1 k2 k3 k5 newId)
  kC : keepIn K (.ref C) = true
  tail : excTail bmB (.ref B :: bmB) = true
/-- its own __init__ that stores the field f; how an attribute is read -/
structure IFc (K : Frag) (C fI : Addr) (f : Str) : Prop where
  sa : findIn K (.ref C) "__setattr__" = some (some (.builtin "object.__setattr__"))
  noN : findIn K (.ref C) f = some none
  iC : findIn K (.ref C) "__init__" = some (some (.ref fI))
  tI : typeIn K (.ref fI) = some (.type "function")
/-- what __init__ leaves of a fresh exception at x -/
structure InitEnd (h h' : Heap) (x C dx t1 : Addr) (f : Str) (v : Value) : Prop where
  keep : ∀ b o, b ≠ x → h.get? b = some o → h'.get? b = some o
  obj : h'.get? x = some { cls := .ref C, dict := some dx, data := .fields #[.ref t1, .none, .none, .none, .bool false, .none] }
  dbig : h.objs.size ≤ dx
  dne : dx ≠ x
  ns : h'.Ns1 dx (fun y => if y = f then some v else none)
/-- a made exception at e, its dict at d -/
structure Made (h h' : Heap) (e C d t1 : Addr) (f : Str) (v : Value) : Prop where
  keep : ∀ b o, h.get? b = some o → h'.get? b = some o
  new : h.objs.size ≤ e
  obj : h'.get? e = some { cls := .ref C, dict := some d, data := .fields #[.ref t1, .none, .none, .none, .bool false, .none] }
  dbig : h.objs.size ≤ d
  dne : d ≠ e
  ns : h'.Ns1 d (fun y => if y = f then some v else none)
theorem one_size (v : Value) : [v].length ≤ sizeLine := by
  rw [sizeLine_eq]
  exact (by decide : 1 ≤ 16777216)
theorem ldC {M : Model} {s : Shared} {name : Str} {scope : Scope} {L a : Addr} {cd : Value} {m : Str → Option Value} {x : Str} {pos : Pos} {v : Value} {Q : Value → Shared → Prop} {A : Around} {E : Value → Shared → Prop} (hn : s.heap.Ns L m) (hv : m x = some v) (h : Q v s)
    (hk : scope.kind = .function := by rfl) (hl : (envOfC name scope L a cd).kindOf x = some .local := by rfl) (hd : (x == ("__debug__" : Str)) = false := by decide) :
    wpAny M A (eval (.Name x pos) (envOfC name scope L a cd)) Q E s := wpAny_Name (wpAny_loadName_local hk hl hn hv h) hd

/-! ### the field value -/
def iA_value (p1 p2 : Pos) : Arguments := { posonlyargs := [], args := [{ arg := "self", annotation := none, pos := p1 }, { arg := "value", annotation := none, pos := p2 }], vararg := none, kwonlyargs := [], kw_defaults := [], kwarg := none, defaults := [] }
def iB_value (q1 q2 q3 q4 : Pos) : List Stmt := [.Assign [.Attribute (.Name "self" q1) "value" q2] (.Name "value" q3) q4]
def iS_value : Scope := { kind := .function, names := [(PySem.Str.ofString "self", .local), (PySem.Str.ofString "value", .local)], isGenerator := false, isCoroutine := false, more := [] }
def Fn_value (K : Frag) (fI : Addr) (qn : Str) : Prop := ∃ (oc : Value) (od : Option Addr) (doc pm : Value) (an : Option Addr) (cdv ct : Value) (osl : Array (Option Value)) (p1 p2 q1 q2 q3 q4 : Pos),
    K.lookup fI = some ⟨oc, od, .func (fnOf "__init__" qn (iA_value p1 p2) (iB_value q1 q2 q3 q4) iS_value .none .none doc pm an cdv ct), osl⟩ ∧ codeIn K cdv qn = true
section
variable {prog : Program} {w : World} {A : Around} {E : Value → Shared → Prop} {R : Result → Shared → Prop} {s : Shared} {K : Frag} {C B fI : Addr} {bn newId initId : String} {bmB : List Value} {qn : Str}
theorem init_value (T : CF K C B bn newId initId bmB) (T2 : IFc K C fI "value") (T3 : Fn_value K fI qn) {x t0 : Addr} {v : Value} {args : Args} (X : K.In s.heap) (hlim : s.heap.NoLimit) (hx : s.heap.get? x = some (excO C t0)) (hroom : A.depth < recursionLimit)
    (ha : args = ⟨[.ref x, v], []⟩ ∨ args = ⟨[.ref x], [(("value" : Str), v)]⟩)
    (hq : ∀ h' tk dx, InitEnd s.heap h' x C dx t0 "value" v → R (.ok (.ret .none)) { s with heap := h', toks := tk }) :
    codeAny (model prog w) A (.call (.ref fI) args) R s := by
  obtain ⟨oc, od, doc, pm, an, cdv, ct, osl, p1, p2, q1, q2, q3, q4, ho, hcd⟩ := T3
  obtain ⟨nm, q, N, bs, sn, sub, ab, col, dd, k0, k1, k2, k3, k5, hC⟩ := T.cls
  have hcl : clsIn K C = some { name := nm, bases := bs, mro := .ref C :: .ref B :: bmB, ns := N, qualname := q, hasDict := true, slotNames := sn, subclasses := sub, abstract := ab, collection := col, hasDel := false } := by unfold clsIn; rw [hC] <;> rfl
  have hbind : BindsTo s (fnOf "__init__" qn (iA_value p1 p2) (iB_value q1 q2 q3 q4) iS_value .none .none doc pm an cdv ct) args [("self", .ref x), ("value", v)] := by
    rcases ha with rfl | rfl
    · exact BindsTo.of_eq (by first | rfl | with_unfolding_all rfl)
    · exact BindsTo.of_eq (by first | rfl | with_unfolding_all rfl)
  refine Att.call_fn (binds := [("self", .ref x), ("value", v)]) X hlim ho hcd hroom hbind (by first | rfl | decide | with_unfolding_all rfl) (fun s₁ IC => ?_) rfl rfl rfl
  obtain ⟨h₁, tk₁, rfl⟩ := IC.toInCall.same
  have k : ∀ b o, s.heap.get? b = some o → h₁.get? b = some o := IC.toInCall.keep
  have hn := IC.toInCall.ns
  have hxL : s.heap.objs.size ≠ x := Nat.ne_of_gt (Heap.lt_size hx)
  have X₁ : K.In h₁ := X.keeps k
  have hx₁ := k _ _ hx
  show wpAny _ _ (execs _ _) _ _ _
  refine wpAny_execs_cons (plainObj_wpAny_Assign_Attribute ?_)
  refine ldC (v := v) hn (by first | rfl | with_unfolding_all rfl | kernel_rfl) (ldC (v := .ref x) hn (by first | rfl | with_unfolding_all rfl | kernel_rfl) ?_)
  refine set_plain X₁ (ox := excO C t0) (od := none) ⟨hx₁, rfl, rfl, trivial⟩ T2.sa ?_
  have over : excOver K C bmB = true := by
    unfold excOver
    rw [hcl]
    show (C == C && excTail bmB (.ref B :: bmB)) = true
    rw [beq_self_eq_true, Bool.true_and]
    exact T.tail
  have noT : takerIn K C "value" = some none := by
    unfold takerIn
    rw [T2.noN] <;> rfl
  have hdc : hasDictIn K C = true := by
    unfold hasDictIn
    rw [hcl] <;> rfl
  refine first_field (prog := prog) (w := w) (u := v) (f := "value") (tk := tk₁) (x := x) (C := C) (s := { s with heap := h₁, toks := tk₁ + 1 }) T.sto X₁ hx₁ over noT hdc (fun h₃ tk₃ dx k₃ dn dne hx₃ hn₃ => ?_)
  · show wpAny _ _ (execs _ _) _ _ _
    have z : s.heap.objs.size < h₁.objs.size := hn.lt
    exact wpAny_execs_nil (hq h₃ tk₃ dx ⟨fun b o hb e => k₃ b o hb (k b o e), hx₃, Nat.le_of_lt (Nat.lt_of_lt_of_le z dn), dne, hn₃⟩)
theorem made_value (T : CF K C B bn newId initId bmB) (T2 : IFc K C fI "value") (T3 : Fn_value K fI qn) {v : Value} {rest : List Value} {kw : List (Str × Value)} (X : K.In s.heap) (hlim : s.heap.NoLimit) (hroom : A.depth + 1 < recursionLimit)
    (ha : (rest = [v] ∧ kw = []) ∨ (rest = [] ∧ kw = [(("value" : Str), v)]))
    (hq : ∀ h' tk e d t1, Made s.heap h' e C d t1 "value" v → R (.ok (.ret (.ref e))) { s with heap := h', toks := tk }) :
    codeAny (model prog w) A (.call (.ref C) ⟨rest, kw⟩) R s := by
  obtain ⟨nm, q, N, bs, sn, sub, ab, col, dd, k0, k1, k2, k3, k5, hC⟩ := T.cls
  obtain ⟨hp, g, dr, tk, os⟩ := s
  have k : ∀ b o, hp.get? b = some o → ((hp.push (kdv_tup rest)).push (excO C hp.objs.size)).get? b = some o := fun b o e => Heap.get?_push_of_some _ (Heap.get?_push_of_some _ e)
  have hget : ((hp.push (kdv_tup rest)).push (excO C hp.objs.size)).get? (hp.objs.size + 1) = some (excO C hp.objs.size) := by heap_get
  have hrest : rest.length ≤ sizeLine := by
    rcases ha with ⟨rfl, _⟩ | ⟨rfl, _⟩
    · exact one_size v
    · exact Nat.zero_le _
  refine call_kw T.fac (fun Y => List.contains_cons.trans rfl) (X _ _ hC) (looks_findIn X T2.iC) (fun self => bind_fn X self T2.tI) hrest ?_
  refine init_value (s := ⟨(hp.push (kdv_tup rest)).push (excO C hp.objs.size), g, dr, tk, os⟩) (v := v) T T2 T3 (X.keeps k) (hlim.keeps k) hget ?_ ?_ fun h' tk' dx ⟨k', hx, dn, dne, hns⟩ => ?_
  · show A.depth + 1 < recursionLimit
    exact hroom
  · rcases ha with ⟨rfl, rfl⟩ | ⟨rfl, rfl⟩
    · exact .inl rfl
    · exact .inr rfl
  · have old : ∀ b o, hp.get? b = some o → h'.get? b = some o := fun b o e => k' b o (Nat.ne_of_lt (Nat.lt_succ_of_lt (Heap.lt_size e))) (k b o e)
    have z : hp.objs.size + 1 + 1 ≤ dx := by
      first
        | (simpa only [Heap.size_push] using dn)
        | exact dn
        | (have q := dn; rw [Heap.size_push, Heap.size_push] at q; exact q)
    exact ⟨rfl, hq h' tk' (hp.objs.size + 1) dx _ ⟨old, Nat.le_succ _, hx, Nat.le_trans (Nat.le_trans (Nat.le_succ _) (Nat.le_succ _)) z, dne, hns⟩⟩
end

/-! ### the field index -/
def iA_index (p1 p2 : Pos) : Arguments := { posonlyargs := [], args := [{ arg := "self", annotation := none, pos := p1 }, { arg := "index", annotation := none, pos := p2 }], vararg := none, kwonlyargs := [], kw_defaults := [], kwarg := none, defaults := [] }
def iB_index (q1 q2 q3 q4 : Pos) : List Stmt := [.Assign [.Attribute (.Name "self" q1) "index" q2] (.Name "index" q3) q4]
def iS_index : Scope := { kind := .function, names := [(PySem.Str.ofString "self", .local), (PySem.Str.ofString "index", .local)], isGenerator := false, isCoroutine := false, more := [] }
def Fn_index (K : Frag) (fI : Addr) (qn : Str) : Prop := ∃ (oc : Value) (od : Option Addr) (doc pm : Value) (an : Option Addr) (cdv ct : Value) (osl : Array (Option Value)) (p1 p2 q1 q2 q3 q4 : Pos),
    K.lookup fI = some ⟨oc, od, .func (fnOf "__init__" qn (iA_index p1 p2) (iB_index q1 q2 q3 q4) iS_index .none .none doc pm an cdv ct), osl⟩ ∧ codeIn K cdv qn = true
section
variable {prog : Program} {w : World} {A : Around} {E : Value → Shared → Prop} {R : Result → Shared → Prop} {s : Shared} {K : Frag} {C B fI : Addr} {bn newId initId : String} {bmB : List Value} {qn : Str}
theorem init_index (T : CF K C B bn newId initId bmB) (T2 : IFc K C fI "index") (T3 : Fn_index K fI qn) {x t0 : Addr} {v : Value} {args : Args} (X : K.In s.heap) (hlim : s.heap.NoLimit) (hx : s.heap.get? x = some (excO C t0)) (hroom : A.depth < recursionLimit)
    (ha : args = ⟨[.ref x, v], []⟩ ∨ args = ⟨[.ref x], [(("index" : Str), v)]⟩)
    (hq : ∀ h' tk dx, InitEnd s.heap h' x C dx t0 "index" v → R (.ok (.ret .none)) { s with heap := h', toks := tk }) :
    codeAny (model prog w) A (.call (.ref fI) args) R s := by
  obtain ⟨oc, od, doc, pm, an, cdv, ct, osl, p1, p2, q1, q2, q3, q4, ho, hcd⟩ := T3
  obtain ⟨nm, q, N, bs, sn, sub, ab, col, dd, k0, k1, k2, k3, k5, hC⟩ := T.cls
  have hcl : clsIn K C = some { name := nm, bases := bs, mro := .ref C :: .ref B :: bmB, ns := N, qualname := q, hasDict := true, slotNames := sn, subclasses := sub, abstract := ab, collection := col, hasDel := false } := by unfold clsIn; rw [hC] <;> rfl
  have hbind : BindsTo s (fnOf "__init__" qn (iA_index p1 p2) (iB_index q1 q2 q3 q4) iS_index .none .none doc pm an cdv ct) args [("self", .ref x), ("index", v)] := by
    rcases ha with rfl | rfl
    · exact BindsTo.of_eq (by first | rfl | with_unfolding_all rfl)
    · exact BindsTo.of_eq (by first | rfl | with_unfolding_all rfl)
  refine Att.call_fn (binds := [("self", .ref x), ("index", v)]) X hlim ho hcd hroom hbind (by first | rfl | decide | with_unfolding_all rfl) (fun s₁ IC => ?_) rfl rfl rfl
  obtain ⟨h₁, tk₁, rfl⟩ := IC.toInCall.same
  have k : ∀ b o, s.heap.get? b = some o → h₁.get? b = some o := IC.toInCall.keep
  have hn := IC.toInCall.ns
  have hxL : s.heap.objs.size ≠ x := Nat.ne_of_gt (Heap.lt_size hx)
  have X₁ : K.In h₁ := X.keeps k
  have hx₁ := k _ _ hx
  show wpAny _ _ (execs _ _) _ _ _
  refine wpAny_execs_cons (plainObj_wpAny_Assign_Attribute ?_)
  refine ldC (v := v) hn (by first | rfl | with_unfolding_all rfl | kernel_rfl) (ldC (v := .ref x) hn (by first | rfl | with_unfolding_all rfl | kernel_rfl) ?_)
  refine set_plain X₁ (ox := excO C t0) (od := none) ⟨hx₁, rfl, rfl, trivial⟩ T2.sa ?_
  have over : excOver K C bmB = true := by
    unfold excOver
    rw [hcl]
    show (C == C && excTail bmB (.ref B :: bmB)) = true
    rw [beq_self_eq_true, Bool.true_and]
    exact T.tail
  have noT : takerIn K C "index" = some none := by
    unfold takerIn
    rw [T2.noN] <;> rfl
  have hdc : hasDictIn K C = true := by
    unfold hasDictIn
    rw [hcl] <;> rfl
  refine first_field (prog := prog) (w := w) (u := v) (f := "index") (tk := tk₁) (x := x) (C := C) (s := { s with heap := h₁, toks := tk₁ + 1 }) T.sto X₁ hx₁ over noT hdc (fun h₃ tk₃ dx k₃ dn dne hx₃ hn₃ => ?_)
  · show wpAny _ _ (execs _ _) _ _ _
    have z : s.heap.objs.size < h₁.objs.size := hn.lt
    exact wpAny_execs_nil (hq h₃ tk₃ dx ⟨fun b o hb e => k₃ b o hb (k b o e), hx₃, Nat.le_of_lt (Nat.lt_of_lt_of_le z dn), dne, hn₃⟩)
theorem made_index (T : CF K C B bn newId initId bmB) (T2 : IFc K C fI "index") (T3 : Fn_index K fI qn) {v : Value} {rest : List Value} {kw : List (Str × Value)} (X : K.In s.heap) (hlim : s.heap.NoLimit) (hroom : A.depth + 1 < recursionLimit)
    (ha : (rest = [v] ∧ kw = []) ∨ (rest = [] ∧ kw = [(("index" : Str), v)]))
    (hq : ∀ h' tk e d t1, Made s.heap h' e C d t1 "index" v → R (.ok (.ret (.ref e))) { s with heap := h', toks := tk }) :
    codeAny (model prog w) A (.call (.ref C) ⟨rest, kw⟩) R s := by
  obtain ⟨nm, q, N, bs, sn, sub, ab, col, dd, k0, k1, k2, k3, k5, hC⟩ := T.cls
  obtain ⟨hp, g, dr, tk, os⟩ := s
  have k : ∀ b o, hp.get? b = some o → ((hp.push (kdv_tup rest)).push (excO C hp.objs.size)).get? b = some o := fun b o e => Heap.get?_push_of_some _ (Heap.get?_push_of_some _ e)
  have hget : ((hp.push (kdv_tup rest)).push (excO C hp.objs.size)).get? (hp.objs.size + 1) = some (excO C hp.objs.size) := by heap_get
  have hrest : rest.length ≤ sizeLine := by
    rcases ha with ⟨rfl, _⟩ | ⟨rfl, _⟩
    · exact one_size v
    · exact Nat.zero_le _
  refine call_kw T.fac (fun Y => List.contains_cons.trans rfl) (X _ _ hC) (looks_findIn X T2.iC) (fun self => bind_fn X self T2.tI) hrest ?_
  refine init_index (s := ⟨(hp.push (kdv_tup rest)).push (excO C hp.objs.size), g, dr, tk, os⟩) (v := v) T T2 T3 (X.keeps k) (hlim.keeps k) hget ?_ ?_ fun h' tk' dx ⟨k', hx, dn, dne, hns⟩ => ?_
  · show A.depth + 1 < recursionLimit
    exact hroom
  · rcases ha with ⟨rfl, rfl⟩ | ⟨rfl, rfl⟩
    · exact .inl rfl
    · exact .inr rfl
  · have old : ∀ b o, hp.get? b = some o → h'.get? b = some o := fun b o e => k' b o (Nat.ne_of_lt (Nat.lt_succ_of_lt (Heap.lt_size e))) (k b o e)
    have z : hp.objs.size + 1 + 1 ≤ dx := by
      first
        | (simpa only [Heap.size_push] using dn)
        | exact dn
        | (have q := dn; rw [Heap.size_push, Heap.size_push] at q; exact q)
    exact ⟨rfl, hq h' tk' (hp.objs.size + 1) dx _ ⟨old, Nat.le_succ _, hx, Nat.le_trans (Nat.le_trans (Nat.le_succ _) (Nat.le_succ _)) z, dne, hns⟩⟩
end

/-! ### the field limit -/
def iA_limit (p1 p2 : Pos) : Arguments := { posonlyargs := [], args := [{ arg := "self", annotation := none, pos := p1 }, { arg := "limit", annotation := none, pos := p2 }], vararg := none, kwonlyargs := [], kw_defaults := [], kwarg := none, defaults := [] }
def iB_limit (q1 q2 q3 q4 : Pos) : List Stmt := [.Assign [.Attribute (.Name "self" q1) "limit" q2] (.Name "limit" q3) q4]
def iS_limit : Scope := { kind := .function, names := [(PySem.Str.ofString "self", .local), (PySem.Str.ofString "limit", .local)], isGenerator := false, isCoroutine := false, more := [] }
def Fn_limit (K : Frag) (fI : Addr) (qn : Str) : Prop := ∃ (oc : Value) (od : Option Addr) (doc pm : Value) (an : Option Addr) (cdv ct : Value) (osl : Array (Option Value)) (p1 p2 q1 q2 q3 q4 : Pos),
    K.lookup fI = some ⟨oc, od, .func (fnOf "__init__" qn (iA_limit p1 p2) (iB_limit q1 q2 q3 q4) iS_limit .none .none doc pm an cdv ct), osl⟩ ∧ codeIn K cdv qn = true
section
variable {prog : Program} {w : World} {A : Around} {E : Value → Shared → Prop} {R : Result → Shared → Prop} {s : Shared} {K : Frag} {C B fI : Addr} {bn newId initId : String} {bmB : List Value} {qn : Str}
theorem init_limit (T : CF K C B bn newId initId bmB) (T2 : IFc K C fI "limit") (T3 : Fn_limit K fI qn) {x t0 : Addr} {v : Value} {args : Args} (X : K.In s.heap) (hlim : s.heap.NoLimit) (hx : s.heap.get? x = some (excO C t0)) (hroom : A.depth < recursionLimit)
    (ha : args = ⟨[.ref x, v], []⟩ ∨ args = ⟨[.ref x], [(("limit" : Str), v)]⟩)
    (hq : ∀ h' tk dx, InitEnd s.heap h' x C dx t0 "limit" v → R (.ok (.ret .none)) { s with heap := h', toks := tk }) :
    codeAny (model prog w) A (.call (.ref fI) args) R s := by
  obtain ⟨oc, od, doc, pm, an, cdv, ct, osl, p1, p2, q1, q2, q3, q4, ho, hcd⟩ := T3
  obtain ⟨nm, q, N, bs, sn, sub, ab, col, dd, k0, k1, k2, k3, k5, hC⟩ := T.cls
  have hcl : clsIn K C = some { name := nm, bases := bs, mro := .ref C :: .ref B :: bmB, ns := N, qualname := q, hasDict := true, slotNames := sn, subclasses := sub, abstract := ab, collection := col, hasDel := false } := by unfold clsIn; rw [hC] <;> rfl
  have hbind : BindsTo s (fnOf "__init__" qn (iA_limit p1 p2) (iB_limit q1 q2 q3 q4) iS_limit .none .none doc pm an cdv ct) args [("self", .ref x), ("limit", v)] := by
    rcases ha with rfl | rfl
    · exact BindsTo.of_eq (by first | rfl | with_unfolding_all rfl)
    · exact BindsTo.of_eq (by first | rfl | with_unfolding_all rfl)
  refine Att.call_fn (binds := [("self", .ref x), ("limit", v)]) X hlim ho hcd hroom hbind (by first | rfl | decide | with_unfolding_all rfl) (fun s₁ IC => ?_) rfl rfl rfl
  obtain ⟨h₁, tk₁, rfl⟩ := IC.toInCall.same
  have k : ∀ b o, s.heap.get? b = some o → h₁.get? b = some o := IC.toInCall.keep
  have hn := IC.toInCall.ns
  have hxL : s.heap.objs.size ≠ x := Nat.ne_of_gt (Heap.lt_size hx)
  have X₁ : K.In h₁ := X.keeps k
  have hx₁ := k _ _ hx
  show wpAny _ _ (execs _ _) _ _ _
  refine wpAny_execs_cons (plainObj_wpAny_Assign_Attribute ?_)
  refine ldC (v := v) hn (by first | rfl | with_unfolding_all rfl | kernel_rfl) (ldC (v := .ref x) hn (by first | rfl | with_unfolding_all rfl | kernel_rfl) ?_)
  refine set_plain X₁ (ox := excO C t0) (od := none) ⟨hx₁, rfl, rfl, trivial⟩ T2.sa ?_
  have over : excOver K C bmB = true := by
    unfold excOver
    rw [hcl]
    show (C == C && excTail bmB (.ref B :: bmB)) = true
    rw [beq_self_eq_true, Bool.true_and]
    exact T.tail
  have noT : takerIn K C "limit" = some none := by
    unfold takerIn
    rw [T2.noN] <;> rfl
  have hdc : hasDictIn K C = true := by
    unfold hasDictIn
    rw [hcl] <;> rfl
  refine first_field (prog := prog) (w := w) (u := v) (f := "limit") (tk := tk₁) (x := x) (C := C) (s := { s with heap := h₁, toks := tk₁ + 1 }) T.sto X₁ hx₁ over noT hdc (fun h₃ tk₃ dx k₃ dn dne hx₃ hn₃ => ?_)
  · show wpAny _ _ (execs _ _) _ _ _
    have z : s.heap.objs.size < h₁.objs.size := hn.lt
    exact wpAny_execs_nil (hq h₃ tk₃ dx ⟨fun b o hb e => k₃ b o hb (k b o e), hx₃, Nat.le_of_lt (Nat.lt_of_lt_of_le z dn), dne, hn₃⟩)
theorem made_limit (T : CF K C B bn newId initId bmB) (T2 : IFc K C fI "limit") (T3 : Fn_limit K fI qn) {v : Value} {rest : List Value} {kw : List (Str × Value)} (X : K.In s.heap) (hlim : s.heap.NoLimit) (hroom : A.depth + 1 < recursionLimit)
    (ha : (rest = [v] ∧ kw = []) ∨ (rest = [] ∧ kw = [(("limit" : Str), v)]))
    (hq : ∀ h' tk e d t1, Made s.heap h' e C d t1 "limit" v → R (.ok (.ret (.ref e))) { s with heap := h', toks := tk }) :
    codeAny (model prog w) A (.call (.ref C) ⟨rest, kw⟩) R s := by
  obtain ⟨nm, q, N, bs, sn, sub, ab, col, dd, k0, k1, k2, k3, k5, hC⟩ := T.cls
  obtain ⟨hp, g, dr, tk, os⟩ := s
  have k : ∀ b o, hp.get? b = some o → ((hp.push (kdv_tup rest)).push (excO C hp.objs.size)).get? b = some o := fun b o e => Heap.get?_push_of_some _ (Heap.get?_push_of_some _ e)
  have hget : ((hp.push (kdv_tup rest)).push (excO C hp.objs.size)).get? (hp.objs.size + 1) = some (excO C hp.objs.size) := by heap_get
  have hrest : rest.length ≤ sizeLine := by
    rcases ha with ⟨rfl, _⟩ | ⟨rfl, _⟩
    · exact one_size v
    · exact Nat.zero_le _
  refine call_kw T.fac (fun Y => List.contains_cons.trans rfl) (X _ _ hC) (looks_findIn X T2.iC) (fun self => bind_fn X self T2.tI) hrest ?_
  refine init_limit (s := ⟨(hp.push (kdv_tup rest)).push (excO C hp.objs.size), g, dr, tk, os⟩) (v := v) T T2 T3 (X.keeps k) (hlim.keeps k) hget ?_ ?_ fun h' tk' dx ⟨k', hx, dn, dne, hns⟩ => ?_
  · show A.depth + 1 < recursionLimit
    exact hroom
  · rcases ha with ⟨rfl, rfl⟩ | ⟨rfl, rfl⟩
    · exact .inl rfl
    · exact .inr rfl
  · have old : ∀ b o, hp.get? b = some o → h'.get? b = some o := fun b o e => k' b o (Nat.ne_of_lt (Nat.lt_succ_of_lt (Heap.lt_size e))) (k b o e)
    have z : hp.objs.size + 1 + 1 ≤ dx := by
      first
        | (simpa only [Heap.size_push] using dn)
        | exact dn
        | (have q := dn; rw [Heap.size_push, Heap.size_push] at q; exact q)
    exact ⟨rfl, hq h' tk' (hp.objs.size + 1) dx _ ⟨old, Nat.le_succ _, hx, Nat.le_trans (Nat.le_trans (Nat.le_succ _) (Nat.le_succ _)) z, dne, hns⟩⟩
end
end XV
end PySem


/-! errors, defaults of keywords, told by one Bool each -/
namespace HdX
open PySem PySem.Spec PyProof.Rows L2 He
/-- the class at C is an exception's, its base at B -/
def lkxB (K : PySem.W.Frag) (C B : Addr) (ms : List Value) (made : String) : Bool := match K.lookup C with
  | some ⟨.type "type", _, .cls z, ss⟩ => (match z.mro, ss.toList with
    | .ref A :: rest, [_, _, _, _, some (.builtin y), _] => decide (A = C) && (decide (y = made) && (!z.hasDel && (z.hasDict && decide (rest = .ref B :: ms))))
    | _, _ => false)
  | _ => false
theorem lkx_of {K : PySem.W.Frag} {C B : Addr} {ms : List Value} {made : String} (t : lkxB K C B ms made = true) : ∃ a1 a2 a3 a4 a5 a6 a7 a8 a9 b0 b1 b2 b3 b5, K.lookup C = some (excClassObj a1 a2 C a3 a4 (.ref B :: ms) true a5 a6 a7 a8 a9 b0 b1 b2 b3 b5 made) := by
  unfold lkxB at t
  split at t
  case h_2 => cases t
  case h_1 w9 z ss at_ =>
    split at t
    case h_2 => cases t
    case h_1 A rest b0 b1 b2 b3 y b5 em es =>
      obtain ⟨g1, t⟩ := ba t
      obtain ⟨g2, t⟩ := ba t
      obtain ⟨g3, t⟩ := ba t
      obtain ⟨g4, t⟩ := ba t
      have g1 := of_decide_eq_true g1
      have g2 := of_decide_eq_true g2
      have g5 := of_decide_eq_true t
      have g3 : z.hasDel = false := by simpa using g3
      cases z with
      | mk z1 z2 z3 z4 z5 z6 z7 z8 z9 y1 y2 =>
        have em : z3 = .ref A :: rest := em
        have g3 : y2 = false := g3
        have g4 : z6 = true := g4
        subst em g3 g4 g5 g1 g2
        have ess : ss = #[b0, b1, b2, b3, some (.builtin y), b5] := Array.toList_inj.mp es
        subst ess
        exact ⟨z1, z5, z4, z2, z7, z8, z9, y1, w9, b0, b1, b2, b3, b5, at_⟩
/-- no defaults of keywords -/
def kvB (K : PySem.W.Frag) (a : Addr) : Bool := match K.lookup a with
  | some ⟨_, _, .func fd, _⟩ => decide (fd.kwdefaults = .none)
  | _ => false
/-- within and strict have theirs -/
def kwB (K : PySem.W.Frag) (a : Addr) : Bool := match K.lookup a with
  | some ⟨_, _, .func fd, _⟩ => (match fd.kwdefaults with
    | .ref D => eqO (PySem.W.nsIn K D "within") (some (some .none)) && eqO (PySem.W.nsIn K D "strict") (some (some (.bool false)))
    | _ => false)
  | _ => false
theorem kv_of {K : PySem.W.Frag} {a : Addr} {oc kV dc pm cd ct : Value} {od an : Option Addr} {sl : Array (Option Value)} {x q : Str} {A : Arguments} {b : List Stmt} {s : Scope} (l : K.lookup a = some ⟨oc, od, .func (PySem.W.fnOf x q A b s .none kV dc pm an cd ct), sl⟩) (h : kvB K a = true) : kV = .none := by
  unfold kvB at h
  rw [l] at h
  exact of_decide_eq_true h
theorem kw_of {K : PySem.W.Frag} {a : Addr} {oc kV dc pm cd ct : Value} {od an : Option Addr} {sl : Array (Option Value)} {x q : Str} {A : Arguments} {b : List Stmt} {s : Scope} (l : K.lookup a = some ⟨oc, od, .func (PySem.W.fnOf x q A b s .none kV dc pm an cd ct), sl⟩) (h : kwB K a = true) : ∃ D, kV = .ref D ∧ PySem.W.nsIn K D "within" = some (some .none) ∧ PySem.W.nsIn K D "strict" = some (some (.bool false)) := by
  unfold kwB at h
  rw [l] at h
  dsimp only [PySem.W.fnOf] at h
  cases kV with
  | ref D =>
    obtain ⟨h1, h2⟩ := ba h
    exact ⟨D, rfl, eqO_ok h1, eqO_ok h2⟩
  | _ => cases h
theorem allAt {l : List Bool} (h : l.all id = true) (i : Nat) {b : Bool} (e : l[i]? = some b) : b = true := List.all_eq_true.mp h b (List.mem_of_getElem? e)
theorem fun_of {K : PySem.W.Frag} {d : FnA} (e : fnObsA K d = d.val ∧ codeB K (d.at_ K) d.qual = true) (kp : PySem.W.keepIn K (.ref (d.at_ K)) = true) : ∃ fd, Fun K d.name d.qual d.st (d.at_ K) fd := by
  obtain ⟨oc, kV, dc, pm, cd, ct, od, an, sl, l, c⟩ := fnA_ok e.1 e.2
  exact ⟨_, ⟨oc, od, kV, dc, pm, an, cd, ct, sl, rfl, l, c⟩, kp⟩
end HdX


/-! a head's facts in several runs, joined -/
namespace HdX
open PySem PySem.Spec PyProof.Rows L2 He HandSHeadRun
/-- the facts alone, of one more run -/
def FactEq (r : PySem.W.OpenRow) (as : List Addr) (M : Nat) (ex : PySem.W.Frag → Bool) (w : World) : Prop := ∀ os : OsState, (endF (stepQ (denQ tabQ) r.prog w) M r.prog w os).map (fun s => ex (frT (getT s) as)) = some true
theorem run_join {r : PySem.W.OpenRow} {q : Program} {as : List Addr} {M : Nat} {fn : List FnA} {tf : List (PySem.W.Frag → Addr)} {ex1 ex2 : PySem.W.Frag → Bool} {loose : List PySem.Str} {w : World}
    (a : RunEq r q (hookK as fn tf ex1) (fun s => obsK as fn tf ex1 (getT s)) M loose w) (b : FactEq r as M ex2 w) : RunEq r q (hookK as fn tf fun K => ex1 K && ex2 K) (fun s => obsK as fn tf (fun K => ex1 K && ex2 K) (getT s)) M loose w := by
  intro os
  have a := a os
  have b := b os
  generalize endF (stepQ (denQ tabQ) r.prog w) M r.prog w os = z at a b ⊢
  cases z with
  | none => cases a
  | some s =>
    rw [Option.map_some] at a b ⊢
    have a := Option.some.inj a
    have b := Option.some.inj b
    have a1 := congrArg (fun x => x.1) a
    have a2 := congrArg (fun x => x.2.1) a
    have a3 := congrArg (fun x => x.2.2) a
    dsimp only at a1 a2 a3
    rw [a1, a2]
    have c1 : (ex1 (frT (getT s) as) && (tabsA (getT s) tf (frT (getT s) as) && fn.all fun d => codeB (frT (getT s) as) (d.at_ (frT (getT s) as)) d.qual)) = true := congrArg (fun x : AlK => x.1) a3
    have c2 : fn.map (fun d => fnObsA (frT (getT s) as) d) = fn.map FnA.val := congrArg (fun x : AlK => x.2) a3
    have e : obsK as fn tf (fun K => ex1 K && ex2 K) (getT s) = valK fn := by
      unfold obsK valK
      have b2 : (fun K => ex1 K && ex2 K) (frT (getT s) as) = ex1 (frT (getT s) as) := by
        show (ex1 _ && ex2 _) = _
        rw [b, Bool.and_true]
      rw [c2, b2, c1]
    exact congrArg (fun x => some (true, PySem.W.openGood q loose, x)) e
/-- the defs alone, of one more run -/
def FnEq (r : PySem.W.OpenRow) (as : List Addr) (M : Nat) (fn : List FnA) (w : World) : Prop := ∀ os : OsState, (endF (stepQ (denQ tabQ) r.prog w) M r.prog w os).map (fun s => (fn.map (fun d => fnObsA (frT (getT s) as) d), fn.all fun d => codeB (frT (getT s) as) (d.at_ (frT (getT s) as)) d.qual)) = some (fn.map FnA.val, true)
theorem run_fn {r : PySem.W.OpenRow} {q : Program} {as : List Addr} {M : Nat} {fn fn2 : List FnA} {tf : List (PySem.W.Frag → Addr)} {ex1 : PySem.W.Frag → Bool} {loose : List PySem.Str} {w : World}
    (a : RunEq r q (hookK as fn tf ex1) (fun s => obsK as fn tf ex1 (getT s)) M loose w) (b : FnEq r as M fn2 w) : RunEq r q (hookK as (fn ++ fn2) tf ex1) (fun s => obsK as (fn ++ fn2) tf ex1 (getT s)) M loose w := by
  intro os
  have a := a os
  have b := b os
  generalize endF (stepQ (denQ tabQ) r.prog w) M r.prog w os = z at a b ⊢
  cases z with
  | none => cases a
  | some s =>
    rw [Option.map_some] at a b ⊢
    have a := Option.some.inj a
    have b := Option.some.inj b
    have a1 := congrArg (fun x => x.1) a
    have a2 := congrArg (fun x => x.2.1) a
    have a3 := congrArg (fun x => x.2.2) a
    have b1 := congrArg (fun x => x.1) b
    have b2 := congrArg (fun x => x.2) b
    dsimp only at a1 a2 a3 b1 b2
    rw [a1, a2]
    have c1 : (ex1 (frT (getT s) as) && (tabsA (getT s) tf (frT (getT s) as) && fn.all fun d => codeB (frT (getT s) as) (d.at_ (frT (getT s) as)) d.qual)) = true := congrArg (fun x : AlK => x.1) a3
    have c2 : fn.map (fun d => fnObsA (frT (getT s) as) d) = fn.map FnA.val := congrArg (fun x : AlK => x.2) a3
    have e : obsK as (fn ++ fn2) tf ex1 (getT s) = valK (fn ++ fn2) := by
      unfold obsK valK
      rw [List.map_append, List.map_append, List.all_append, c2, b1, b2, Bool.and_true, c1]
    exact congrArg (fun x => some (true, PySem.W.openGood q loose, x)) e

open PySem.W PySem.Calls in
def LookEq (r : PySem.W.OpenRow) (M : Nat) (w : World) : Prop := ∀ os : OsState, (endF (stepQ (denQ tabQ) r.prog w) M r.prog w os).map (fun s => HandSHeadRun.looksF r.prog (boot_heap w.params) s.abs) = some true

open PySem.W PySem.Calls in
def SeenEq (r : PySem.W.OpenRow) (q : Program) (M : Nat) (loose : List PySem.Str) (w : World) : Prop := ∀ os : OsState, (endF (stepQ (denQ tabQ) r.prog w) M r.prog w os).map (fun s => HandSHeadRun.seenQ q loose (importedModules r.prog.main.body) (fun s => PySem.W.xlAt q [] s && PySem.W.recOk r.toRowW.records s) s.abs) = some (PySem.W.openGood q loose)
/-- the tables, alone -/
def TabEq (r : PySem.W.OpenRow) (as : List Addr) (M : Nat) (tf : List (PySem.W.Frag → Addr)) (w : World) : Prop := ∀ os : OsState, (endF (stepQ (denQ tabQ) r.prog w) M r.prog w os).map (fun s => tabsA (getT s) tf (frT (getT s) as)) = some true
theorem run_base {r : PySem.W.OpenRow} {q : Program} {as : List Addr} {M : Nat} {tf : List (PySem.W.Frag → Addr)} {loose : List PySem.Str} {w : World} (a : LookEq r M w) (b : SeenEq r q M loose w) (c : TabEq r as M tf w) : RunEq r q (hookK as [] tf fun _ => true) (fun s => obsK as [] tf (fun _ => true) (getT s)) M loose w := by
  intro os
  have a := a os
  have b := b os
  have c := c os
  generalize endF (stepQ (denQ tabQ) r.prog w) M r.prog w os = z at a b c ⊢
  cases z with
  | none => cases a
  | some s =>
    rw [Option.map_some] at a b c ⊢
    have a := Option.some.inj a
    have b := Option.some.inj b
    have c := Option.some.inj c
    rw [a, b]
    have e : obsK as [] tf (fun _ => true) (getT s) = valK [] := by
      unfold obsK valK
      rw [c]
      rfl
    exact congrArg (fun x => some (true, PySem.W.openGood q loose, x)) e
theorem tab_nil {r : PySem.W.OpenRow} {as : List Addr} {M : Nat} {w : World} (a : LookEq r M w) : TabEq r as M [] w := by
  intro os
  have a := a os
  generalize endF (stepQ (denQ tabQ) r.prog w) M r.prog w os = z at a ⊢
  cases z with
  | none => cases a
  | some s => rfl
end HdX


namespace K04
open PySem PySem.Spec PyProof.Rows L2 He HdX
def htop (i : Nat) : Stmt := PySem.Challenge.pw_latestrows_k04_times_and_looks_made.main.body.getD i (.Pass ⟨0, 0, 0, 0⟩)
abbrev R : PySem.W.OpenRow := PySem.W.OpenLaw.row PySem.Challenge.rw_latestrows_k04_times_and_looks_made
def loose0 : List Str := ["_wall", "__name__", "LatestError", "LimitError", "InvalidName", "InvalidNumber", "InvalidWithin", "InvalidStrict", "NotATime", "NotALook", "TooMany", "MAX_DEPTH", "MAX_DISTANCE", "MAX_NAME", "is_integer", "is_name", "_is_letter", "_is_digit", "integer_text", "check_name", "Time", "Look", "check_reader_time", "check_look", "in_order", "_check_depth", "_check_shift", "_check_look_parts", "_look_text", "_shifted_back"]
def loose1 : List Str := ["Now", "Shift", "Floor", "Ceil", "RowTime", "Before", "After", "_law_number", "_law_source", "_law_pick", "_law_one", "_law_tag", "_law_tags", "_law_said", "_law_deep", "_law_inside", "_law_moment", "_law_peek", "_law_pool", "_law_time_made", "_law_look_made", "_law_shown", "_law_due", "_law_made", "_law_peek_right", "_law_right", "_law_by_hand"]
def asL : List Addr := [3, 31, 44, 64, 83, 102, 121, 140, 159, 178, 230, 244, 368, 436, 504, 572, 640, 695, 750, 6, 0, 30, 43, 63, 82, 101, 120, 139, 158, 177, 229, 243, 367, 435, 503, 571, 639, 694, 749, 650, 705, 4, 32, 45, 231, 232, 245, 246, 21, 187, 192, 199, 206, 213, 220, 255, 262, 267, 274, 281, 288, 295, 302, 759, 766, 773, 780, 785, 790, 797, 804, 811, 816, 823, 830, 837, 844, 849, 856, 863, 870, 875, 880, 885, 19, 61, 80, 99, 118, 137, 156, 175, 185, 190, 197, 204, 211, 218, 253, 260, 265, 272, 279, 286, 293, 300, 316, 323, 330, 337, 344, 351, 358, 365, 384, 391, 398, 405, 412, 419, 426, 433, 452, 459, 466, 473, 480, 487, 494, 501, 520, 527, 534, 541, 548, 555, 562, 569, 588, 595, 602, 609, 616, 623, 630, 637, 657, 664, 671, 678, 685, 692, 712, 719, 726, 733, 740, 747, 757, 764, 771, 778, 783, 788, 795, 802, 809, 814, 821, 828, 835, 842, 847, 854, 861, 868, 873, 878, 883, 59, 78, 97, 116, 135, 154, 173, 314, 321, 328, 335, 342, 349, 356, 363, 382, 389, 396, 403, 410, 417, 424, 431, 450, 457, 464, 471, 478, 485, 492, 499, 518, 525, 532, 539, 546, 553, 560, 567, 586, 593, 600, 607, 614, 621, 628, 635, 655, 662, 669, 676, 683, 690, 710, 717, 724, 731, 738, 745, 20, 186, 191, 198, 205, 212, 219, 254, 261, 266, 273, 280, 287, 294, 301, 758, 765, 772, 779, 784, 789, 796, 803, 810, 815, 822, 829, 836, 843, 848, 855, 862, 869, 874, 879, 884, 60, 79, 98, 117, 136, 155, 174, 315, 322, 329, 336, 343, 350, 357, 364, 383, 390, 397, 404, 411, 418, 425, 432, 451, 458, 465, 472, 479, 486, 493, 500, 519, 526, 533, 540, 547, 554, 561, 568, 587, 594, 601, 608, 615, 622, 629, 636, 656, 663, 670, 677, 684, 691, 711, 718, 725, 732, 739, 746, 15, 17, 18, 29, 42, 62, 81, 100, 119, 138, 157, 176, 181, 183, 184, 188, 193, 195, 196, 200, 202, 203, 207, 209, 210, 214, 216, 217, 228, 242, 249, 251, 252, 256, 258, 259, 263, 268, 270, 271, 275, 277, 278, 282, 284, 285, 289, 291, 292, 296, 298, 299, 366, 434, 502, 570, 638, 693, 748, 753, 755, 756, 760, 762, 763, 767, 769, 770, 774, 776, 777, 781, 786, 791, 793, 794, 798, 800, 801, 805, 807, 808, 812, 817, 819, 820, 824, 826, 827, 831, 833, 834, 838, 840, 841, 845, 850, 852, 853, 857, 859, 860, 864, 866, 867, 871, 876, 881, 55, 57, 58, 74, 76, 77, 93, 95, 96, 112, 114, 115, 131, 133, 134, 150, 152, 153, 169, 171, 172, 310, 312, 313, 317, 319, 320, 324, 326, 327, 331, 333, 334, 338, 340, 341, 345, 347, 348, 352, 354, 355, 359, 361, 362, 378, 380, 381, 385, 387, 388, 392, 394, 395, 399, 401, 402, 406, 408, 409, 413, 415, 416, 420, 422, 423, 427, 429, 430, 446, 448, 449, 453, 455, 456, 460, 462, 463, 467, 469, 470, 474, 476, 477, 481, 483, 484, 488, 490, 491, 495, 497, 498, 514, 516, 517, 521, 523, 524, 528, 530, 531, 535, 537, 538, 542, 544, 545, 549, 551, 552, 556, 558, 559, 563, 565, 566, 582, 584, 585, 589, 591, 592, 596, 598, 599, 603, 605, 606, 610, 612, 613, 617, 619, 620, 624, 626, 627, 631, 633, 634, 651, 653, 654, 658, 660, 661, 665, 667, 668, 672, 674, 675, 679, 681, 682, 686, 688, 689, 706, 708, 709, 713, 715, 716, 720, 722, 723, 727, 729, 730, 734, 736, 737, 741, 743, 744]
def loose : List Str := loose0 ++ loose1
def fn0 : List FnA := [⟨gA "is_integer", "is_integer", "is_integer", htop 15⟩,
  ⟨gA "is_name", "is_name", "is_name", htop 16⟩,
  ⟨gA "_is_letter", "_is_letter", "_is_letter", htop 17⟩,
  ⟨gA "_is_digit", "_is_digit", "_is_digit", htop 18⟩,
  ⟨gA "integer_text", "integer_text", "integer_text", htop 19⟩,
  ⟨gA "check_name", "check_name", "check_name", htop 20⟩,
  ⟨gA "check_reader_time", "check_reader_time", "check_reader_time", htop 24⟩,
  ⟨gA "check_look", "check_look", "check_look", htop 25⟩,
  ⟨gA "in_order", "in_order", "in_order", htop 26⟩,
  ⟨gA "_check_depth", "_check_depth", "_check_depth", htop 27⟩,
  ⟨gA "_check_shift", "_check_shift", "_check_shift", htop 28⟩,
  ⟨gA "_check_look_parts", "_check_look_parts", "_check_look_parts", htop 29⟩,
  ⟨gA "_look_text", "_look_text", "_look_text", htop 30⟩,
  ⟨gA "_shifted_back", "_shifted_back", "_shifted_back", htop 31⟩,
  ⟨gA "_law_number", "_law_number", "_law_number", htop 40⟩,
  ⟨gA "_law_source", "_law_source", "_law_source", htop 41⟩,
  ⟨gA "_law_pick", "_law_pick", "_law_pick", htop 42⟩,
  ⟨gA "_law_one", "_law_one", "_law_one", htop 43⟩,
  ⟨gA "_law_tag", "_law_tag", "_law_tag", htop 44⟩,
  ⟨gA "_law_tags", "_law_tags", "_law_tags", htop 45⟩,
  ⟨gA "_law_said", "_law_said", "_law_said", htop 46⟩,
  ⟨gA "_law_deep", "_law_deep", "_law_deep", htop 47⟩,
  ⟨gA "_law_inside", "_law_inside", "_law_inside", htop 48⟩,
  ⟨gA "_law_moment", "_law_moment", "_law_moment", htop 49⟩,
  ⟨gA "_law_peek", "_law_peek", "_law_peek", htop 50⟩,
  ⟨gA "_law_pool", "_law_pool", "_law_pool", htop 51⟩,
  ⟨gA "_law_time_made", "_law_time_made", "_law_time_made", htop 52⟩,
  ⟨gA "_law_look_made", "_law_look_made", "_law_look_made", htop 53⟩,
  ⟨gA "_law_shown", "_law_shown", "_law_shown", htop 54⟩,
  ⟨gA "_law_due", "_law_due", "_law_due", htop 55⟩,
  ⟨gA "_law_made", "_law_made", "_law_made", htop 56⟩,
  ⟨gA "_law_peek_right", "_law_peek_right", "_law_peek_right", htop 57⟩,
  ⟨gA "_law_right", "_law_right", "_law_right", htop 58⟩,
  ⟨gA "_law_by_hand", "_law_by_hand", "_law_by_hand", htop 59⟩,
  ⟨gA "law", "law", "law", htop 60⟩,
  ⟨mA "Now" "__init__", "__init__", "Now.__init__", inClass (htop 32) 0⟩,
  ⟨mA "Now" "__eq__", "__eq__", "Now.__eq__", inClass (htop 32) 5⟩,
  ⟨mA "Now" "__str__", "__str__", "Now.__str__", inClass (htop 32) 6⟩,
  ⟨mA "Now" "__repr__", "__repr__", "Now.__repr__", inClass (htop 32) 7⟩,
  ⟨mA "Now" "__sub__", "__sub__", "Now.__sub__", inClass (htop 32) 4⟩,
  ⟨mA "Shift" "__init__", "__init__", "Shift.__init__", inClass (htop 33) 0⟩,
  ⟨mA "Shift" "__eq__", "__eq__", "Shift.__eq__", inClass (htop 33) 5⟩,
  ⟨mA "Shift" "__str__", "__str__", "Shift.__str__", inClass (htop 33) 6⟩,
  ⟨mA "Shift" "__repr__", "__repr__", "Shift.__repr__", inClass (htop 33) 7⟩,
  ⟨mA "Floor" "__init__", "__init__", "Floor.__init__", inClass (htop 34) 0⟩,
  ⟨mA "Floor" "__eq__", "__eq__", "Floor.__eq__", inClass (htop 34) 5⟩,
  ⟨mA "Floor" "__str__", "__str__", "Floor.__str__", inClass (htop 34) 6⟩,
  ⟨mA "Floor" "__repr__", "__repr__", "Floor.__repr__", inClass (htop 34) 7⟩,
  ⟨mA "Ceil" "__init__", "__init__", "Ceil.__init__", inClass (htop 35) 0⟩,
  ⟨mA "Ceil" "__eq__", "__eq__", "Ceil.__eq__", inClass (htop 35) 5⟩,
  ⟨mA "Ceil" "__str__", "__str__", "Ceil.__str__", inClass (htop 35) 6⟩,
  ⟨mA "Ceil" "__repr__", "__repr__", "Ceil.__repr__", inClass (htop 35) 7⟩,
  ⟨mA "RowTime" "__init__", "__init__", "RowTime.__init__", inClass (htop 36) 0⟩,
  ⟨mA "RowTime" "__eq__", "__eq__", "RowTime.__eq__", inClass (htop 36) 5⟩,
  ⟨mA "RowTime" "__str__", "__str__", "RowTime.__str__", inClass (htop 36) 6⟩,
  ⟨mA "RowTime" "__repr__", "__repr__", "RowTime.__repr__", inClass (htop 36) 7⟩,
  ⟨mA "RowTime" "__add__", "__add__", "RowTime.__add__", inClass (htop 36) 3⟩,
  ⟨mA "Before" "__init__", "__init__", "Before.__init__", inClass (htop 37) 0⟩,
  ⟨mA "Before" "__eq__", "__eq__", "Before.__eq__", inClass (htop 37) 3⟩,
  ⟨mA "Before" "__str__", "__str__", "Before.__str__", inClass (htop 37) 4⟩,
  ⟨mA "Before" "__repr__", "__repr__", "Before.__repr__", inClass (htop 37) 5⟩,
  ⟨mA "After" "__init__", "__init__", "After.__init__", inClass (htop 38) 0⟩,
  ⟨mA "After" "__eq__", "__eq__", "After.__eq__", inClass (htop 38) 3⟩,
  ⟨mA "After" "__str__", "__str__", "After.__str__", inClass (htop 38) 4⟩,
  ⟨mA "After" "__repr__", "__repr__", "After.__repr__", inClass (htop 38) 5⟩,
  ⟨mA "InvalidName" "__init__", "__init__", "InvalidName.__init__", inClass (htop 4) 0⟩,
  ⟨mA "InvalidNumber" "__init__", "__init__", "InvalidNumber.__init__", inClass (htop 5) 0⟩,
  ⟨mA "InvalidWithin" "__init__", "__init__", "InvalidWithin.__init__", inClass (htop 6) 0⟩,
  ⟨mA "InvalidStrict" "__init__", "__init__", "InvalidStrict.__init__", inClass (htop 7) 0⟩,
  ⟨mA "NotATime" "__init__", "__init__", "NotATime.__init__", inClass (htop 8) 0⟩,
  ⟨mA "NotALook" "__init__", "__init__", "NotALook.__init__", inClass (htop 9) 0⟩,
  ⟨mA "TooMany" "__init__", "__init__", "TooMany.__init__", inClass (htop 10) 0⟩]
def fn : List FnA := ([] ++ fn0)
def aeBase : List Value := [.type "ArithmeticError", .type "Exception", .type "BaseException", .type "object"]
def ex0 (K : PySem.W.Frag) : List Bool := [(Fa.glo "is_integer").ok K,
  (Fa.keep "is_integer").ok K,
  (Fa.glo "is_name").ok K,
  (Fa.keep "is_name").ok K,
  (Fa.glo "_is_letter").ok K,
  (Fa.keep "_is_letter").ok K,
  (Fa.glo "_is_digit").ok K,
  (Fa.keep "_is_digit").ok K,
  (Fa.glo "integer_text").ok K,
  (Fa.keep "integer_text").ok K,
  (Fa.glo "check_name").ok K,
  (Fa.keep "check_name").ok K,
  (Fa.glo "check_reader_time").ok K,
  (Fa.keep "check_reader_time").ok K,
  (Fa.glo "check_look").ok K,
  (Fa.keep "check_look").ok K,
  (Fa.glo "in_order").ok K,
  (Fa.keep "in_order").ok K,
  (Fa.glo "_check_depth").ok K,
  (Fa.keep "_check_depth").ok K,
  (Fa.glo "_check_shift").ok K,
  (Fa.keep "_check_shift").ok K,
  (Fa.glo "_check_look_parts").ok K,
  (Fa.keep "_check_look_parts").ok K,
  (Fa.glo "_look_text").ok K,
  (Fa.keep "_look_text").ok K,
  (Fa.glo "_shifted_back").ok K,
  (Fa.keep "_shifted_back").ok K,
  (Fa.glo "_law_number").ok K,
  (Fa.keep "_law_number").ok K]
def ex1 (K : PySem.W.Frag) : List Bool := [(Fa.glo "_law_source").ok K,
  (Fa.keep "_law_source").ok K,
  (Fa.glo "_law_pick").ok K,
  (Fa.keep "_law_pick").ok K,
  (Fa.glo "_law_one").ok K,
  (Fa.keep "_law_one").ok K,
  (Fa.glo "_law_tag").ok K,
  (Fa.keep "_law_tag").ok K,
  (Fa.glo "_law_tags").ok K,
  (Fa.keep "_law_tags").ok K,
  (Fa.glo "_law_said").ok K,
  (Fa.keep "_law_said").ok K,
  (Fa.glo "_law_deep").ok K,
  (Fa.keep "_law_deep").ok K,
  (Fa.glo "_law_inside").ok K,
  (Fa.keep "_law_inside").ok K,
  (Fa.glo "_law_moment").ok K,
  (Fa.keep "_law_moment").ok K,
  (Fa.glo "_law_peek").ok K,
  (Fa.keep "_law_peek").ok K,
  (Fa.glo "_law_pool").ok K,
  (Fa.keep "_law_pool").ok K,
  (Fa.glo "_law_time_made").ok K,
  (Fa.keep "_law_time_made").ok K,
  (Fa.glo "_law_look_made").ok K,
  (Fa.keep "_law_look_made").ok K,
  (Fa.glo "_law_shown").ok K,
  (Fa.keep "_law_shown").ok K,
  (Fa.glo "_law_due").ok K,
  (Fa.keep "_law_due").ok K]
def ex2 (K : PySem.W.Frag) : List Bool := [(Fa.glo "_law_made").ok K,
  (Fa.keep "_law_made").ok K,
  (Fa.glo "_law_peek_right").ok K,
  (Fa.keep "_law_peek_right").ok K,
  (Fa.glo "_law_right").ok K,
  (Fa.keep "_law_right").ok K,
  (Fa.glo "_law_by_hand").ok K,
  (Fa.keep "_law_by_hand").ok K,
  (Fa.glo "law").ok K,
  (Fa.keep "law").ok K,
  (Fa.glo "Now").ok K,
  (Fa.cls "Now").ok K,
  (Fa.mkr "Now").ok K,
  (Fa.noat "Now" "text").ok K,
  (Fa.noat "Now" "depth").ok K,
  (Fa.noat "Now" "looks").ok K,
  (Fa.noat "Now" "grid_times").ok K,
  (Fa.noat "Now" "time").ok K,
  (Fa.noat "Now" "by").ok K,
  (Fa.noat "Now" "look").ok K,
  (Fa.noat "Now" "feed").ok K,
  (Fa.noat "Now" "within").ok K,
  (Fa.noat "Now" "strict").ok K,
  (Fa.meth "Now" "__init__").ok K,
  (Fa.meth "Now" "__eq__").ok K,
  (Fa.meth "Now" "__str__").ok K,
  (Fa.meth "Now" "__repr__").ok K,
  (Fa.meth "Now" "__sub__").ok K,
  (Fa.glo "Shift").ok K,
  (Fa.cls "Shift").ok K]
def ex3 (K : PySem.W.Frag) : List Bool := [(Fa.mkr "Shift").ok K,
  (Fa.noat "Shift" "text").ok K,
  (Fa.noat "Shift" "depth").ok K,
  (Fa.noat "Shift" "looks").ok K,
  (Fa.noat "Shift" "grid_times").ok K,
  (Fa.noat "Shift" "time").ok K,
  (Fa.noat "Shift" "by").ok K,
  (Fa.noat "Shift" "look").ok K,
  (Fa.noat "Shift" "feed").ok K,
  (Fa.noat "Shift" "within").ok K,
  (Fa.noat "Shift" "strict").ok K,
  (Fa.meth "Shift" "__init__").ok K,
  (Fa.meth "Shift" "__eq__").ok K,
  (Fa.meth "Shift" "__str__").ok K,
  (Fa.meth "Shift" "__repr__").ok K,
  (Fa.glo "Floor").ok K,
  (Fa.cls "Floor").ok K,
  (Fa.mkr "Floor").ok K,
  (Fa.noat "Floor" "text").ok K,
  (Fa.noat "Floor" "depth").ok K,
  (Fa.noat "Floor" "looks").ok K,
  (Fa.noat "Floor" "grid_times").ok K,
  (Fa.noat "Floor" "time").ok K,
  (Fa.noat "Floor" "by").ok K,
  (Fa.noat "Floor" "look").ok K,
  (Fa.noat "Floor" "feed").ok K,
  (Fa.noat "Floor" "within").ok K,
  (Fa.noat "Floor" "strict").ok K,
  (Fa.meth "Floor" "__init__").ok K,
  (Fa.meth "Floor" "__eq__").ok K]
def ex4 (K : PySem.W.Frag) : List Bool := [(Fa.meth "Floor" "__str__").ok K,
  (Fa.meth "Floor" "__repr__").ok K,
  (Fa.glo "Ceil").ok K,
  (Fa.cls "Ceil").ok K,
  (Fa.mkr "Ceil").ok K,
  (Fa.noat "Ceil" "text").ok K,
  (Fa.noat "Ceil" "depth").ok K,
  (Fa.noat "Ceil" "looks").ok K,
  (Fa.noat "Ceil" "grid_times").ok K,
  (Fa.noat "Ceil" "time").ok K,
  (Fa.noat "Ceil" "by").ok K,
  (Fa.noat "Ceil" "look").ok K,
  (Fa.noat "Ceil" "feed").ok K,
  (Fa.noat "Ceil" "within").ok K,
  (Fa.noat "Ceil" "strict").ok K,
  (Fa.meth "Ceil" "__init__").ok K,
  (Fa.meth "Ceil" "__eq__").ok K,
  (Fa.meth "Ceil" "__str__").ok K,
  (Fa.meth "Ceil" "__repr__").ok K,
  (Fa.glo "RowTime").ok K,
  (Fa.cls "RowTime").ok K,
  (Fa.mkr "RowTime").ok K,
  (Fa.noat "RowTime" "text").ok K,
  (Fa.noat "RowTime" "depth").ok K,
  (Fa.noat "RowTime" "looks").ok K,
  (Fa.noat "RowTime" "grid_times").ok K,
  (Fa.noat "RowTime" "time").ok K,
  (Fa.noat "RowTime" "by").ok K,
  (Fa.noat "RowTime" "look").ok K,
  (Fa.noat "RowTime" "feed").ok K]
def ex5 (K : PySem.W.Frag) : List Bool := [(Fa.noat "RowTime" "within").ok K,
  (Fa.noat "RowTime" "strict").ok K,
  (Fa.meth "RowTime" "__init__").ok K,
  (Fa.meth "RowTime" "__eq__").ok K,
  (Fa.meth "RowTime" "__str__").ok K,
  (Fa.meth "RowTime" "__repr__").ok K,
  (Fa.meth "RowTime" "__add__").ok K,
  (Fa.glo "Before").ok K,
  (Fa.cls "Before").ok K,
  (Fa.mkr "Before").ok K,
  (Fa.noat "Before" "text").ok K,
  (Fa.noat "Before" "depth").ok K,
  (Fa.noat "Before" "looks").ok K,
  (Fa.noat "Before" "grid_times").ok K,
  (Fa.noat "Before" "time").ok K,
  (Fa.noat "Before" "by").ok K,
  (Fa.noat "Before" "look").ok K,
  (Fa.noat "Before" "feed").ok K,
  (Fa.noat "Before" "within").ok K,
  (Fa.noat "Before" "strict").ok K,
  (Fa.meth "Before" "__init__").ok K,
  (Fa.meth "Before" "__eq__").ok K,
  (Fa.meth "Before" "__str__").ok K,
  (Fa.meth "Before" "__repr__").ok K,
  (Fa.glo "After").ok K,
  (Fa.cls "After").ok K,
  (Fa.mkr "After").ok K,
  (Fa.noat "After" "text").ok K,
  (Fa.noat "After" "depth").ok K,
  (Fa.noat "After" "looks").ok K]
def ex6 (K : PySem.W.Frag) : List Bool := [(Fa.noat "After" "grid_times").ok K,
  (Fa.noat "After" "time").ok K,
  (Fa.noat "After" "by").ok K,
  (Fa.noat "After" "look").ok K,
  (Fa.noat "After" "feed").ok K,
  (Fa.noat "After" "within").ok K,
  (Fa.noat "After" "strict").ok K,
  (Fa.meth "After" "__init__").ok K,
  (Fa.meth "After" "__eq__").ok K,
  (Fa.meth "After" "__str__").ok K,
  (Fa.meth "After" "__repr__").ok K,
  (Fa.free "len").ok K,
  (Fa.free "int").ok K,
  (Fa.free "abs").ok K,
  (Fa.free "range").ok K,
  (Fa.free "str").ok K,
  (Fa.free "bool").ok K,
  (Fa.free "all").ok K,
  (Fa.free "tuple").ok K,
  (Fa.free "list").ok K,
  (Fa.free "isinstance").ok K,
  (Fa.free "repr").ok K,
  (Fa.free "sorted").ok K,
  (Fa.free "set").ok K,
  (Fa.free "max").ok K,
  (Fa.free "min").ok K,
  (Fa.int "MAX_DEPTH" 8).ok K,
  (Fa.int "MAX_DISTANCE" 1000000000).ok K,
  (Fa.int "MAX_NAME" 8).ok K,
  decide (PySem.W.kitOne K (.ref (ga K "Now")) (.ref (ga K "Now")) = some true)]
def ex7 (K : PySem.W.Frag) : List Bool := [decide (PySem.W.kitOne K (.ref (ga K "Now")) (.ref (ga K "Shift")) = some false),
  decide (PySem.W.kitOne K (.ref (ga K "Now")) (.ref (ga K "Floor")) = some false),
  decide (PySem.W.kitOne K (.ref (ga K "Now")) (.ref (ga K "Ceil")) = some false),
  decide (PySem.W.kitOne K (.ref (ga K "Now")) (.ref (ga K "RowTime")) = some false),
  decide (PySem.W.kitOne K (.ref (ga K "Now")) (.ref (ga K "Before")) = some false),
  decide (PySem.W.kitOne K (.ref (ga K "Now")) (.ref (ga K "After")) = some false),
  decide (PySem.W.kitOne K (.ref (ga K "Now")) (.ref (ga K "Time")) = some true),
  decide (PySem.W.kitOne K (.ref (ga K "Now")) (.ref (ga K "Look")) = some false),
  PySem.W.notFirst K (ga K "Now") (.ref (ga K "Now")),
  PySem.W.notFirst K (ga K "Now") (.ref (ga K "Shift")),
  PySem.W.notFirst K (ga K "Now") (.ref (ga K "Floor")),
  PySem.W.notFirst K (ga K "Now") (.ref (ga K "Ceil")),
  PySem.W.notFirst K (ga K "Now") (.ref (ga K "RowTime")),
  PySem.W.notFirst K (ga K "Now") (.ref (ga K "Before")),
  PySem.W.notFirst K (ga K "Now") (.ref (ga K "After")),
  decide (PySem.W.kitOne K (.type "str") (.ref (ga K "Now")) = some false),
  PySem.W.notFirst K (ga K "Now") (.type "str"),
  decide (PySem.W.kitOne K (.type "tuple") (.ref (ga K "Now")) = some false),
  PySem.W.notFirst K (ga K "Now") (.type "tuple"),
  (Fa.noat "Now" "__bool__").ok K,
  (Fa.noat "Now" "__len__").ok K,
  eqO (PySem.W.findIn K (.ref (ga K "Now")) "__ne__") (some (some (.builtin "object.__ne__"))),
  eqO (PySem.W.findIn K (.ref (ga K "Now")) "__class__") (some (some (.builtin "object.__class__"))),
  decide (PySem.W.mroIn K (ga K "Now") (.type "object") = some true),
  decide (PySem.W.kitOne K (.ref (ga K "Shift")) (.ref (ga K "Now")) = some false),
  decide (PySem.W.kitOne K (.ref (ga K "Shift")) (.ref (ga K "Shift")) = some true),
  decide (PySem.W.kitOne K (.ref (ga K "Shift")) (.ref (ga K "Floor")) = some false),
  decide (PySem.W.kitOne K (.ref (ga K "Shift")) (.ref (ga K "Ceil")) = some false),
  decide (PySem.W.kitOne K (.ref (ga K "Shift")) (.ref (ga K "RowTime")) = some false),
  decide (PySem.W.kitOne K (.ref (ga K "Shift")) (.ref (ga K "Before")) = some false)]
def ex8 (K : PySem.W.Frag) : List Bool := [decide (PySem.W.kitOne K (.ref (ga K "Shift")) (.ref (ga K "After")) = some false),
  decide (PySem.W.kitOne K (.ref (ga K "Shift")) (.ref (ga K "Time")) = some true),
  decide (PySem.W.kitOne K (.ref (ga K "Shift")) (.ref (ga K "Look")) = some false),
  PySem.W.notFirst K (ga K "Shift") (.ref (ga K "Now")),
  PySem.W.notFirst K (ga K "Shift") (.ref (ga K "Shift")),
  PySem.W.notFirst K (ga K "Shift") (.ref (ga K "Floor")),
  PySem.W.notFirst K (ga K "Shift") (.ref (ga K "Ceil")),
  PySem.W.notFirst K (ga K "Shift") (.ref (ga K "RowTime")),
  PySem.W.notFirst K (ga K "Shift") (.ref (ga K "Before")),
  PySem.W.notFirst K (ga K "Shift") (.ref (ga K "After")),
  decide (PySem.W.kitOne K (.type "str") (.ref (ga K "Shift")) = some false),
  PySem.W.notFirst K (ga K "Shift") (.type "str"),
  decide (PySem.W.kitOne K (.type "tuple") (.ref (ga K "Shift")) = some false),
  PySem.W.notFirst K (ga K "Shift") (.type "tuple"),
  (Fa.noat "Shift" "__bool__").ok K,
  (Fa.noat "Shift" "__len__").ok K,
  eqO (PySem.W.findIn K (.ref (ga K "Shift")) "__ne__") (some (some (.builtin "object.__ne__"))),
  eqO (PySem.W.findIn K (.ref (ga K "Shift")) "__class__") (some (some (.builtin "object.__class__"))),
  decide (PySem.W.mroIn K (ga K "Shift") (.type "object") = some true),
  decide (PySem.W.kitOne K (.ref (ga K "Floor")) (.ref (ga K "Now")) = some false),
  decide (PySem.W.kitOne K (.ref (ga K "Floor")) (.ref (ga K "Shift")) = some false),
  decide (PySem.W.kitOne K (.ref (ga K "Floor")) (.ref (ga K "Floor")) = some true),
  decide (PySem.W.kitOne K (.ref (ga K "Floor")) (.ref (ga K "Ceil")) = some false),
  decide (PySem.W.kitOne K (.ref (ga K "Floor")) (.ref (ga K "RowTime")) = some false),
  decide (PySem.W.kitOne K (.ref (ga K "Floor")) (.ref (ga K "Before")) = some false),
  decide (PySem.W.kitOne K (.ref (ga K "Floor")) (.ref (ga K "After")) = some false),
  decide (PySem.W.kitOne K (.ref (ga K "Floor")) (.ref (ga K "Time")) = some true),
  decide (PySem.W.kitOne K (.ref (ga K "Floor")) (.ref (ga K "Look")) = some false),
  PySem.W.notFirst K (ga K "Floor") (.ref (ga K "Now")),
  PySem.W.notFirst K (ga K "Floor") (.ref (ga K "Shift"))]
def ex9 (K : PySem.W.Frag) : List Bool := [PySem.W.notFirst K (ga K "Floor") (.ref (ga K "Floor")),
  PySem.W.notFirst K (ga K "Floor") (.ref (ga K "Ceil")),
  PySem.W.notFirst K (ga K "Floor") (.ref (ga K "RowTime")),
  PySem.W.notFirst K (ga K "Floor") (.ref (ga K "Before")),
  PySem.W.notFirst K (ga K "Floor") (.ref (ga K "After")),
  decide (PySem.W.kitOne K (.type "str") (.ref (ga K "Floor")) = some false),
  PySem.W.notFirst K (ga K "Floor") (.type "str"),
  decide (PySem.W.kitOne K (.type "tuple") (.ref (ga K "Floor")) = some false),
  PySem.W.notFirst K (ga K "Floor") (.type "tuple"),
  (Fa.noat "Floor" "__bool__").ok K,
  (Fa.noat "Floor" "__len__").ok K,
  eqO (PySem.W.findIn K (.ref (ga K "Floor")) "__ne__") (some (some (.builtin "object.__ne__"))),
  eqO (PySem.W.findIn K (.ref (ga K "Floor")) "__class__") (some (some (.builtin "object.__class__"))),
  decide (PySem.W.mroIn K (ga K "Floor") (.type "object") = some true),
  decide (PySem.W.kitOne K (.ref (ga K "Ceil")) (.ref (ga K "Now")) = some false),
  decide (PySem.W.kitOne K (.ref (ga K "Ceil")) (.ref (ga K "Shift")) = some false),
  decide (PySem.W.kitOne K (.ref (ga K "Ceil")) (.ref (ga K "Floor")) = some false),
  decide (PySem.W.kitOne K (.ref (ga K "Ceil")) (.ref (ga K "Ceil")) = some true),
  decide (PySem.W.kitOne K (.ref (ga K "Ceil")) (.ref (ga K "RowTime")) = some false),
  decide (PySem.W.kitOne K (.ref (ga K "Ceil")) (.ref (ga K "Before")) = some false),
  decide (PySem.W.kitOne K (.ref (ga K "Ceil")) (.ref (ga K "After")) = some false),
  decide (PySem.W.kitOne K (.ref (ga K "Ceil")) (.ref (ga K "Time")) = some true),
  decide (PySem.W.kitOne K (.ref (ga K "Ceil")) (.ref (ga K "Look")) = some false),
  PySem.W.notFirst K (ga K "Ceil") (.ref (ga K "Now")),
  PySem.W.notFirst K (ga K "Ceil") (.ref (ga K "Shift")),
  PySem.W.notFirst K (ga K "Ceil") (.ref (ga K "Floor")),
  PySem.W.notFirst K (ga K "Ceil") (.ref (ga K "Ceil")),
  PySem.W.notFirst K (ga K "Ceil") (.ref (ga K "RowTime")),
  PySem.W.notFirst K (ga K "Ceil") (.ref (ga K "Before")),
  PySem.W.notFirst K (ga K "Ceil") (.ref (ga K "After"))]
def ex10 (K : PySem.W.Frag) : List Bool := [decide (PySem.W.kitOne K (.type "str") (.ref (ga K "Ceil")) = some false),
  PySem.W.notFirst K (ga K "Ceil") (.type "str"),
  decide (PySem.W.kitOne K (.type "tuple") (.ref (ga K "Ceil")) = some false),
  PySem.W.notFirst K (ga K "Ceil") (.type "tuple"),
  (Fa.noat "Ceil" "__bool__").ok K,
  (Fa.noat "Ceil" "__len__").ok K,
  eqO (PySem.W.findIn K (.ref (ga K "Ceil")) "__ne__") (some (some (.builtin "object.__ne__"))),
  eqO (PySem.W.findIn K (.ref (ga K "Ceil")) "__class__") (some (some (.builtin "object.__class__"))),
  decide (PySem.W.mroIn K (ga K "Ceil") (.type "object") = some true),
  decide (PySem.W.kitOne K (.ref (ga K "RowTime")) (.ref (ga K "Now")) = some false),
  decide (PySem.W.kitOne K (.ref (ga K "RowTime")) (.ref (ga K "Shift")) = some false),
  decide (PySem.W.kitOne K (.ref (ga K "RowTime")) (.ref (ga K "Floor")) = some false),
  decide (PySem.W.kitOne K (.ref (ga K "RowTime")) (.ref (ga K "Ceil")) = some false),
  decide (PySem.W.kitOne K (.ref (ga K "RowTime")) (.ref (ga K "RowTime")) = some true),
  decide (PySem.W.kitOne K (.ref (ga K "RowTime")) (.ref (ga K "Before")) = some false),
  decide (PySem.W.kitOne K (.ref (ga K "RowTime")) (.ref (ga K "After")) = some false),
  decide (PySem.W.kitOne K (.ref (ga K "RowTime")) (.ref (ga K "Time")) = some true),
  decide (PySem.W.kitOne K (.ref (ga K "RowTime")) (.ref (ga K "Look")) = some false),
  PySem.W.notFirst K (ga K "RowTime") (.ref (ga K "Now")),
  PySem.W.notFirst K (ga K "RowTime") (.ref (ga K "Shift")),
  PySem.W.notFirst K (ga K "RowTime") (.ref (ga K "Floor")),
  PySem.W.notFirst K (ga K "RowTime") (.ref (ga K "Ceil")),
  PySem.W.notFirst K (ga K "RowTime") (.ref (ga K "RowTime")),
  PySem.W.notFirst K (ga K "RowTime") (.ref (ga K "Before")),
  PySem.W.notFirst K (ga K "RowTime") (.ref (ga K "After")),
  decide (PySem.W.kitOne K (.type "str") (.ref (ga K "RowTime")) = some false),
  PySem.W.notFirst K (ga K "RowTime") (.type "str"),
  decide (PySem.W.kitOne K (.type "tuple") (.ref (ga K "RowTime")) = some false),
  PySem.W.notFirst K (ga K "RowTime") (.type "tuple"),
  (Fa.noat "RowTime" "__bool__").ok K]
def ex11 (K : PySem.W.Frag) : List Bool := [(Fa.noat "RowTime" "__len__").ok K,
  eqO (PySem.W.findIn K (.ref (ga K "RowTime")) "__ne__") (some (some (.builtin "object.__ne__"))),
  eqO (PySem.W.findIn K (.ref (ga K "RowTime")) "__class__") (some (some (.builtin "object.__class__"))),
  decide (PySem.W.mroIn K (ga K "RowTime") (.type "object") = some true),
  decide (PySem.W.kitOne K (.ref (ga K "Before")) (.ref (ga K "Now")) = some false),
  decide (PySem.W.kitOne K (.ref (ga K "Before")) (.ref (ga K "Shift")) = some false),
  decide (PySem.W.kitOne K (.ref (ga K "Before")) (.ref (ga K "Floor")) = some false),
  decide (PySem.W.kitOne K (.ref (ga K "Before")) (.ref (ga K "Ceil")) = some false),
  decide (PySem.W.kitOne K (.ref (ga K "Before")) (.ref (ga K "RowTime")) = some false),
  decide (PySem.W.kitOne K (.ref (ga K "Before")) (.ref (ga K "Before")) = some true),
  decide (PySem.W.kitOne K (.ref (ga K "Before")) (.ref (ga K "After")) = some false),
  decide (PySem.W.kitOne K (.ref (ga K "Before")) (.ref (ga K "Time")) = some false),
  decide (PySem.W.kitOne K (.ref (ga K "Before")) (.ref (ga K "Look")) = some true),
  PySem.W.notFirst K (ga K "Before") (.ref (ga K "Now")),
  PySem.W.notFirst K (ga K "Before") (.ref (ga K "Shift")),
  PySem.W.notFirst K (ga K "Before") (.ref (ga K "Floor")),
  PySem.W.notFirst K (ga K "Before") (.ref (ga K "Ceil")),
  PySem.W.notFirst K (ga K "Before") (.ref (ga K "RowTime")),
  PySem.W.notFirst K (ga K "Before") (.ref (ga K "Before")),
  PySem.W.notFirst K (ga K "Before") (.ref (ga K "After")),
  decide (PySem.W.kitOne K (.type "str") (.ref (ga K "Before")) = some false),
  PySem.W.notFirst K (ga K "Before") (.type "str"),
  decide (PySem.W.kitOne K (.type "tuple") (.ref (ga K "Before")) = some false),
  PySem.W.notFirst K (ga K "Before") (.type "tuple"),
  (Fa.noat "Before" "__bool__").ok K,
  (Fa.noat "Before" "__len__").ok K,
  eqO (PySem.W.findIn K (.ref (ga K "Before")) "__ne__") (some (some (.builtin "object.__ne__"))),
  eqO (PySem.W.findIn K (.ref (ga K "Before")) "__class__") (some (some (.builtin "object.__class__"))),
  decide (PySem.W.mroIn K (ga K "Before") (.type "object") = some true),
  decide (PySem.W.kitOne K (.ref (ga K "After")) (.ref (ga K "Now")) = some false)]
def ex12 (K : PySem.W.Frag) : List Bool := [decide (PySem.W.kitOne K (.ref (ga K "After")) (.ref (ga K "Shift")) = some false),
  decide (PySem.W.kitOne K (.ref (ga K "After")) (.ref (ga K "Floor")) = some false),
  decide (PySem.W.kitOne K (.ref (ga K "After")) (.ref (ga K "Ceil")) = some false),
  decide (PySem.W.kitOne K (.ref (ga K "After")) (.ref (ga K "RowTime")) = some false),
  decide (PySem.W.kitOne K (.ref (ga K "After")) (.ref (ga K "Before")) = some false),
  decide (PySem.W.kitOne K (.ref (ga K "After")) (.ref (ga K "After")) = some true),
  decide (PySem.W.kitOne K (.ref (ga K "After")) (.ref (ga K "Time")) = some false),
  decide (PySem.W.kitOne K (.ref (ga K "After")) (.ref (ga K "Look")) = some true),
  PySem.W.notFirst K (ga K "After") (.ref (ga K "Now")),
  PySem.W.notFirst K (ga K "After") (.ref (ga K "Shift")),
  PySem.W.notFirst K (ga K "After") (.ref (ga K "Floor")),
  PySem.W.notFirst K (ga K "After") (.ref (ga K "Ceil")),
  PySem.W.notFirst K (ga K "After") (.ref (ga K "RowTime")),
  PySem.W.notFirst K (ga K "After") (.ref (ga K "Before")),
  PySem.W.notFirst K (ga K "After") (.ref (ga K "After")),
  decide (PySem.W.kitOne K (.type "str") (.ref (ga K "After")) = some false),
  PySem.W.notFirst K (ga K "After") (.type "str"),
  decide (PySem.W.kitOne K (.type "tuple") (.ref (ga K "After")) = some false),
  PySem.W.notFirst K (ga K "After") (.type "tuple"),
  (Fa.noat "After" "__bool__").ok K,
  (Fa.noat "After" "__len__").ok K,
  eqO (PySem.W.findIn K (.ref (ga K "After")) "__ne__") (some (some (.builtin "object.__ne__"))),
  eqO (PySem.W.findIn K (.ref (ga K "After")) "__class__") (some (some (.builtin "object.__class__"))),
  decide (PySem.W.mroIn K (ga K "After") (.type "object") = some true),
  (Fa.glo "Time").ok K,
  (Fa.glo "Look").ok K,
  eqO (PySem.W.specialIn K (.builtin "object.__class__") "__get__") (some (some (.builtin "getset_descriptor.__get__"))),
  decide (PySem.W.takesIn K (.builtin "object.__class__") = some true),
  (Fa.glo "InvalidName").ok K,
  (Fa.keep "InvalidName").ok K]
def ex13 (K : PySem.W.Frag) : List Bool := [lkxB K (ga K "InvalidName") (ga K "LatestError") veBase "ValueError.__new__",
  decide (PySem.W.subIn K (.ref (ga K "InvalidName")) (.type "BaseException") = some true),
  decide (PySem.W.typeIn K (.ref (ga K "InvalidName")) = some (.type "type")),
  eqO (PySem.W.findIn K (.ref (ga K "InvalidName")) "__setattr__") (some (some (.builtin "object.__setattr__"))),
  eqO (PySem.W.findIn K (.ref (ga K "InvalidName")) "value") (some none),
  (Fa.meth "InvalidName" "__init__").ok K,
  kvB K (mA "InvalidName" "__init__" K),
  (Fa.glo "InvalidNumber").ok K,
  (Fa.keep "InvalidNumber").ok K,
  lkxB K (ga K "InvalidNumber") (ga K "LatestError") veBase "ValueError.__new__",
  decide (PySem.W.subIn K (.ref (ga K "InvalidNumber")) (.type "BaseException") = some true),
  decide (PySem.W.typeIn K (.ref (ga K "InvalidNumber")) = some (.type "type")),
  eqO (PySem.W.findIn K (.ref (ga K "InvalidNumber")) "__setattr__") (some (some (.builtin "object.__setattr__"))),
  eqO (PySem.W.findIn K (.ref (ga K "InvalidNumber")) "value") (some none),
  (Fa.meth "InvalidNumber" "__init__").ok K,
  kvB K (mA "InvalidNumber" "__init__" K),
  (Fa.glo "InvalidWithin").ok K,
  (Fa.keep "InvalidWithin").ok K,
  lkxB K (ga K "InvalidWithin") (ga K "LatestError") veBase "ValueError.__new__",
  decide (PySem.W.subIn K (.ref (ga K "InvalidWithin")) (.type "BaseException") = some true),
  decide (PySem.W.typeIn K (.ref (ga K "InvalidWithin")) = some (.type "type")),
  eqO (PySem.W.findIn K (.ref (ga K "InvalidWithin")) "__setattr__") (some (some (.builtin "object.__setattr__"))),
  eqO (PySem.W.findIn K (.ref (ga K "InvalidWithin")) "value") (some none),
  (Fa.meth "InvalidWithin" "__init__").ok K,
  kvB K (mA "InvalidWithin" "__init__" K),
  (Fa.glo "InvalidStrict").ok K,
  (Fa.keep "InvalidStrict").ok K,
  lkxB K (ga K "InvalidStrict") (ga K "LatestError") veBase "ValueError.__new__",
  decide (PySem.W.subIn K (.ref (ga K "InvalidStrict")) (.type "BaseException") = some true),
  decide (PySem.W.typeIn K (.ref (ga K "InvalidStrict")) = some (.type "type"))]
def ex14 (K : PySem.W.Frag) : List Bool := [eqO (PySem.W.findIn K (.ref (ga K "InvalidStrict")) "__setattr__") (some (some (.builtin "object.__setattr__"))),
  eqO (PySem.W.findIn K (.ref (ga K "InvalidStrict")) "value") (some none),
  (Fa.meth "InvalidStrict" "__init__").ok K,
  kvB K (mA "InvalidStrict" "__init__" K),
  (Fa.glo "NotATime").ok K,
  (Fa.keep "NotATime").ok K,
  lkxB K (ga K "NotATime") (ga K "LatestError") veBase "ValueError.__new__",
  decide (PySem.W.subIn K (.ref (ga K "NotATime")) (.type "BaseException") = some true),
  decide (PySem.W.typeIn K (.ref (ga K "NotATime")) = some (.type "type")),
  eqO (PySem.W.findIn K (.ref (ga K "NotATime")) "__setattr__") (some (some (.builtin "object.__setattr__"))),
  eqO (PySem.W.findIn K (.ref (ga K "NotATime")) "value") (some none),
  (Fa.meth "NotATime" "__init__").ok K,
  kvB K (mA "NotATime" "__init__" K),
  (Fa.glo "NotALook").ok K,
  (Fa.keep "NotALook").ok K,
  lkxB K (ga K "NotALook") (ga K "LatestError") veBase "ValueError.__new__",
  decide (PySem.W.subIn K (.ref (ga K "NotALook")) (.type "BaseException") = some true),
  decide (PySem.W.typeIn K (.ref (ga K "NotALook")) = some (.type "type")),
  eqO (PySem.W.findIn K (.ref (ga K "NotALook")) "__setattr__") (some (some (.builtin "object.__setattr__"))),
  eqO (PySem.W.findIn K (.ref (ga K "NotALook")) "value") (some none),
  (Fa.meth "NotALook" "__init__").ok K,
  kvB K (mA "NotALook" "__init__" K),
  (Fa.glo "TooMany").ok K,
  (Fa.keep "TooMany").ok K,
  lkxB K (ga K "TooMany") (ga K "LimitError") aeBase "ArithmeticError.__new__",
  decide (PySem.W.subIn K (.ref (ga K "TooMany")) (.type "BaseException") = some true),
  decide (PySem.W.typeIn K (.ref (ga K "TooMany")) = some (.type "type")),
  eqO (PySem.W.findIn K (.ref (ga K "TooMany")) "__setattr__") (some (some (.builtin "object.__setattr__"))),
  eqO (PySem.W.findIn K (.ref (ga K "TooMany")) "limit") (some none),
  (Fa.meth "TooMany" "__init__").ok K]
def ex15 (K : PySem.W.Frag) : List Bool := [kvB K (mA "TooMany" "__init__" K),
  kwB K (mA "Before" "__init__" K),
  kwB K (mA "After" "__init__" K),
  PySem.W.selfFirst K (ga K "Now"),
  eqO (PySem.W.findIn K (.ref (ga K "Now")) (dunderR "sub")) (some none),
  (PySem.W.findIn K (.type "int") (PySem.dunder "sub")).isSome,
  (PySem.W.findIn K (.type "int") (dunderR "sub")).isSome,
  decide (PySem.W.subIn K (.type "int") (.ref (ga K "Now")) = some false),
  PySem.W.selfFirst K (ga K "RowTime"),
  eqO (PySem.W.findIn K (.ref (ga K "RowTime")) (dunderR "add")) (some none),
  (PySem.W.findIn K (.type "int") (PySem.dunder "add")).isSome,
  (PySem.W.findIn K (.type "int") (dunderR "add")).isSome,
  decide (PySem.W.subIn K (.type "int") (.ref (ga K "RowTime")) = some false)]
def ex (K : PySem.W.Frag) : Bool := (ex0 K).all id && (ex1 K).all id && (ex2 K).all id && (ex3 K).all id && (ex4 K).all id && (ex5 K).all id && (ex6 K).all id && (ex7 K).all id && (ex8 K).all id && (ex9 K).all id && (ex10 K).all id && (ex11 K).all id && (ex12 K).all id && (ex13 K).all id && (ex14 K).all id && (ex15 K).all id
def tf : List (PySem.W.Frag → Addr) := []
def exP1 (K : PySem.W.Frag) : Bool := (ex0 K).all id && (ex1 K).all id && (ex2 K).all id && (ex3 K).all id && (ex4 K).all id && (ex5 K).all id && (ex6 K).all id && (ex7 K).all id && (ex8 K).all id && (ex9 K).all id && (ex10 K).all id && (ex11 K).all id && (ex12 K).all id && (ex13 K).all id && (ex14 K).all id && (ex15 K).all id
theorem runL (w : World) : LookEq R 60000 w := by
  intro os
  kernel_rfl
theorem runS (w : World) : SeenEq R (PySem.W.view R.prog [60]) 60000 loose w := by
  intro os
  kernel_rfl
theorem run1 (w : World) : FactEq R asL 60000 exP1 w := by
  intro os
  kernel_rfl
theorem runF0 (w : World) : FnEq R asL 60000 fn0 w := by
  intro os
  kernel_rfl
def exA : PySem.W.Frag → Bool := (fun K => (fun _ => true) K && exP1 K)
theorem exA_ex {K : PySem.W.Frag} (h : exA K = true) : ex K = true := by
  simp only [exA, exP1, Bool.and_eq_true, true_and] at h
  simp only [ex, Bool.and_eq_true]
  simpa only [and_assoc] using h
abbrev hk : PySem.W.Hook := hookK asL fn tf exA
def ob (s : PySem.W.SharedT) : AlK := obsK asL fn tf exA (HandSHeadRun.getT s)
theorem ob_eq (s : PySem.W.SharedT) : ob s = hk.obs s.abs := obsK_eq (HandSHeadRun.getT_eq s)
theorem run (w : World) : HandSHeadRun.RunEq R (PySem.W.view R.prog [60]) hk ob 60000 loose w := (run_join (run_fn (run_base (runL w) (runS w) (tab_nil (runL w))) (runF0 w)) (run1 w))
end K04


/-! what the laws' own drawing defs give: a source (a list of three ints), picks, names -/
namespace Rng
open PySem L2
/-- the heaps agree but at p -/
def But (p : Addr) (H H' : Hp) : Prop := ∀ c o, c ≠ p → H c = some o → H' c = some o
theorem But.refl (p : Addr) (H : Hp) : But p H H := fun _ _ _ h => h
theorem But.trans {p : Addr} {H H1 H2 : Hp} (a : But p H H1) (b : But p H1 H2) : But p H H2 := fun c o n h => b c o n (a c o n h)
theorem _root_.L2.Same.but {H H' : Hp} (s : Same H H') (p : Addr) : But p H H' := fun c o _ h => s c o h
theorem But.put {p : Addr} {H : Hp} {o : HO} : But p H (upd H p o) := fun c u n h => by rw [upd_ne n]; exact h
theorem But.seq {p a : Addr} {K : PySem.W.Frag} {H H' : Hp} {xs : List V} (s : But p H H') (n : ∀ o, H a = some o → a ≠ p) (h : SqL K H a xs) : SqL K H' a xs := by
  rcases h with (h | ⟨o, h⟩) | h
  · exact .inl (.inl (s _ _ (n _ h) h))
  · exact .inl (.inr ⟨o, s _ _ (n _ h) h⟩)
  · exact .inr h
theorem same_put {H : Hp} {a : Addr} {o : HO} (n : H a = none) : Same H (upd H a o) := fun b u e => by
  rw [upd_ne (ne_of_none e n)]
  exact e
/-- a source that has been picked from at most b times -/
def Src (H : Hp) (p : Addr) (b : Nat) : Prop := ∃ A B t : Int, H p = some (.lst [.int A, .int B, .int t]) ∧ 0 ≤ A ∧ 0 ≤ B ∧ B < 2147483423 ∧ 0 ≤ t ∧ t ≤ (b : Int)
theorem Src.mono {H : Hp} {p : Addr} {b c : Nat} (h : Src H p b) (k : b ≤ c) : Src H p c := by
  obtain ⟨A, B, t, h1, h2, h3, h4, h5, h6⟩ := h
  exact ⟨A, B, t, h1, h2, h3, h4, h5, by omega⟩
theorem Src.same {H H' : Hp} {p : Addr} {b : Nat} (h : Src H p b) (s : Same H H') : Src H' p b := by
  obtain ⟨A, B, t, h1, h2⟩ := h
  exact ⟨A, B, t, s _ _ h1, h2⟩
theorem Src.some {H : Hp} {p : Addr} {b : Nat} (h : Src H p b) : ∃ xs, H p = some (.lst xs) := by
  obtain ⟨A, B, t, h1, _⟩ := h
  exact ⟨_, h1⟩
theorem Src.ne {H : Hp} {p a : Addr} {b : Nat} (h : Src H p b) (n : H a = none) : a ≠ p := fun z => by
  obtain ⟨xs, e⟩ := h.some
  rw [z, e] at n
  cases n
/-! ### names -/
def low (c : Nat) : Bool := decide (97 ≤ c) && decide (c ≤ 122)
def dig (c : Nat) : Bool := decide (48 ≤ c) && decide (c ≤ 57)
/-- one to eight small letters and digits, a letter first -/
def isName (z : Str) : Bool := decide (z.cps.toList.length ≤ 8) && (match z.cps.toList with
  | c :: r => low c && r.all fun d => low d || dig d
  | [] => false)
/-! ### promises -/
def spNumber (K : PySem.W.Frag) : Sp := fun vs H Q _ => ∃ (a : Addr) (ns : List Int) (k : Int), vs = [.ref a, .int k] ∧ SqL K H a (ns.map V.int) ∧ ns.length ≤ 63 ∧ 0 ≤ k ∧ k ≤ 100 ∧ ∀ z H', Same H H' → Q (.int z) H'
def spSource : Sp := fun vs H Q _ => ∃ c : Int, vs = [.int c] ∧ ∀ p H', Same H H' → H p = none → Src H' p 0 → Q (.ref p) H'
def spPick : Sp := fun vs H Q _ => ∃ (p : Addr) (m : Int) (b : Nat), vs = [.ref p, .int m] ∧ Src H p b ∧ b ≤ 1000000 ∧ 0 < m ∧ m < 1073741824 ∧ ∀ d H', 0 ≤ d → d < m → But p H H' → Src H' p (b + 1) → Q (.int d) H'
def spOne (K : PySem.W.Frag) : Sp := fun vs H Q _ => ∃ (p : Addr) (x : V) (b : Nat), vs = [.ref p, x] ∧ Src H p b ∧ b ≤ 1000000 ∧
  ((∃ (l : Addr) (xs : List V), x = .ref l ∧ l ≠ p ∧ SqL K H l xs ∧ 0 < xs.length ∧ xs.length ≤ 1000 ∧ ∀ y H', y ∈ xs → But p H H' → Src H' p (b + 1) → Q y H') ∨
   (∃ z : Str, x = .str z ∧ 0 < z.length ∧ z.length ≤ 1000 ∧ ∀ c H', c ∈ z.cps.toList → But p H H' → Src H' p (b + 1) → Q (.str ⟨#[c]⟩) H'))
def spTag : Sp := fun vs H Q _ => ∃ (p : Addr) (b : Nat), vs = [.ref p] ∧ Src H p b ∧ b ≤ 900000 ∧ ∀ z H', isName z = true → But p H H' → Src H' p (b + 12) → Q (.str z) H'
def spTags : Sp := fun vs H Q _ => ∃ (p : Addr) (m b : Nat), vs = [.ref p, .int m] ∧ 1 ≤ m ∧ m ≤ 9 ∧ Src H p b ∧ b ≤ 800000 ∧
  ∀ (l : Addr) (zs : List Str) (H' : Hp), zs.length = m → zs.Nodup → (∀ z ∈ zs, isName z = true) → But p H H' → H l = none → l ≠ p → H' l = some (.lst (zs.map V.str)) → Src H' p (b + 200) → Q (.ref l) H'
/-! ### arithmetic of a pick -/
theorem pow3 {B t : Int} (h0 : 0 ≤ B) (h1 : B < 2147483423) (h2 : 0 ≤ t) (h3 : t ≤ 1000001) : CPow (B + t * 7919) 3 := by
  refine ⟨by decide, by decide, ?_⟩
  omega
theorem atI_at {α : Type} {xs : List α} {d : Int} (h0 : 0 ≤ d) (h : d.toNat < xs.length) : atI xs d = some xs[d.toNat] := by
  have e := atI_nat (List.getElem?_eq_getElem h)
  rwa [Int.toNat_of_nonneg h0] at e
theorem cut_ints (ns : List Int) (lo hi : Option Int) : ∃ ms : List Int, cutV (ns.map V.int) lo hi = ms.map V.int := by
  unfold cutV
  exact ⟨_, by rw [← List.map_drop, ← List.map_take]⟩
theorem joinL_nil : ∀ l : List (List Nat), TL.joinL [] l = l.flatten
  | [] => rfl
  | [x] => by simp [TL.joinL]
  | x :: y :: r => by
    have ih := joinL_nil (y :: r)
    simp only [TL.joinL, ih, List.flatten_cons, List.nil_append]
/-- a sign that may stand in a name behind the first one -/
def sign1 (z : Str) : Prop := ∃ d, z.cps.toList = [d] ∧ (low d || dig d) = true
theorem flat_signs : ∀ zs : List Str, (∀ z ∈ zs, sign1 z) → (zs.map TL.tl).flatten.length = zs.length ∧ (zs.map TL.tl).flatten.all (fun d => low d || dig d) = true
  | [], _ => ⟨rfl, rfl⟩
  | z :: zs, h => by
    obtain ⟨d, e, hd⟩ := h z List.mem_cons_self
    obtain ⟨h1, h2⟩ := flat_signs zs fun y hy => h y (List.mem_cons_of_mem _ hy)
    have e' : TL.tl z = [d] := e
    rw [List.map_cons, List.flatten_cons, e']
    refine ⟨by rw [List.length_append, h1]; simp; omega, ?_⟩
    rw [List.all_append, h2]
    simp [hd]
theorem name_mk {c : Nat} {zs : List Str} (hc : low c = true) (hz : ∀ z ∈ zs, sign1 z) (hl : zs.length ≤ 7) : isName (⟨#[c]⟩ ++ Txt.join (Str.ofString "") zs) = true := by
  obtain ⟨h1, h2⟩ := flat_signs zs hz
  have e : ((⟨#[c]⟩ : Str) ++ Txt.join (Str.ofString "") zs).cps.toList = c :: (zs.map TL.tl).flatten := by
    show TL.tl ((⟨#[c]⟩ : Str) ++ Txt.join (Str.ofString "") zs) = _
    rw [TL.tl_append, TL.join_eq, TL.tl_join, show TL.tl (Str.ofString "") = [] from rfl, joinL_nil]
    rfl
  unfold isName
  rw [e, List.length_cons, h1]
  simp only [hc, h2, Bool.and_true, Bool.true_and, decide_eq_true_eq]
  omega
theorem sign_sum : ∀ zs : List Str, (∀ z ∈ zs, sign1 z) → (zs.map (·.length)).sum = zs.length
  | [], _ => rfl
  | z :: zs, h => by
    obtain ⟨d, e, _⟩ := h z List.mem_cons_self
    have ih := sign_sum zs fun y hy => h y (List.mem_cons_of_mem _ hy)
    have e' : z.length = 1 := by
      show z.cps.size = 1
      rw [← Array.length_toList, e]
      rfl
    rw [List.map_cons, List.sum_cons, ih, e', List.length_cons]
    omega
/-! ### different names -/
theorem len_sub {α : Type} [DecidableEq α] : ∀ (xs ys : List α), xs.Nodup → (∀ x ∈ xs, x ∈ ys) → xs.length ≤ ys.length
  | [], _, _, _ => Nat.zero_le _
  | x :: xs, ys, nd, h => by
    have hx : x ∈ ys := h x List.mem_cons_self
    obtain ⟨n1, n2⟩ := List.nodup_cons.mp nd
    have ih := len_sub xs (ys.erase x) n2 fun y hy => by
      have ne : y ≠ x := fun z => n1 (z ▸ hy)
      exact (List.mem_erase_of_ne ne).mpr (h y (List.mem_cons_of_mem _ hy))
    have hl := List.length_erase_of_mem hx
    have hp : 0 < ys.length := List.length_pos_of_mem hx
    rw [List.length_cons]
    omega
/-- the name z cut to six signs with a digit behind it -/
def cand (z : Str) (j : Nat) : Str := cutS z none (some 6) ++ Str.ofString (toString ((0 : Int) + (j : Int)))
theorem digit_tl : ∀ j : Nat, j < 9 → TL.tl (Str.ofString (toString ((0 : Int) + (j : Int)))) = [48 + j] := by decide +kernel
theorem cut_tl (z : Str) : TL.tl (cutS z none (some 6)) = (TL.tl z).take 6 := by
  have e : (TL.tl z).length = z.length := rfl
  show ((z.cps.toList.drop 0).take (min 6 z.length - 0)) = z.cps.toList.take 6
  rw [List.drop_zero, Nat.sub_zero, ← List.take_take]
  congr 1
  exact List.take_of_length_le (Nat.le_of_eq e)
theorem cand_tl {z : Str} {j : Nat} (h : j < 9) : TL.tl (cand z j) = (TL.tl z).take 6 ++ [48 + j] := by
  unfold cand
  rw [TL.tl_append, cut_tl, digit_tl j h]
theorem str_ext {x y : Str} (h : TL.tl x = TL.tl y) : x = y := by
  obtain ⟨⟨a⟩⟩ := x
  obtain ⟨⟨b⟩⟩ := y
  have h' : a = b := h
  rw [h']
theorem cand_inj {z : Str} {i j : Nat} (hi : i < 9) (hj : j < 9) (e : cand z i = cand z j) : i = j := by
  have h : TL.tl (cand z i) = TL.tl (cand z j) := by rw [e]
  rw [cand_tl hi, cand_tl hj] at h
  have h2 := List.append_cancel_left h
  have h3 := (List.cons.inj h2).1
  omega
theorem cand_name {z : Str} {j : Nat} (hz : isName z = true) (h : j < 9) : isName (cand z j) = true := by
  have e : (cand z j).cps.toList = z.cps.toList.take 6 ++ [48 + j] := cand_tl h
  unfold isName at hz ⊢
  rw [e]
  cases hc : z.cps.toList with
  | nil =>
    rw [hc] at hz
    simp at hz
  | cons c r =>
    rw [hc] at hz
    simp only [Bool.and_eq_true, decide_eq_true_eq, List.all_eq_true] at hz
    obtain ⟨_, h1, h2⟩ := hz
    have e6 : (c :: r).take 6 = c :: r.take 5 := rfl
    rw [e6, List.cons_append]
    simp only [Bool.and_eq_true, decide_eq_true_eq, List.all_eq_true]
    refine ⟨?_, h1, fun d hd => ?_⟩
    · rw [List.length_cons, List.length_append, List.length_take, List.length_singleton]
      omega
    · rcases List.mem_append.mp hd with hd | hd
      · exact h2 d (List.mem_of_mem_take hd)
      · obtain rfl := List.mem_singleton.mp hd
        simp only [dig, Bool.or_eq_true, Bool.and_eq_true, decide_eq_true_eq]
        exact .inr ⟨by omega, by omega⟩
theorem cands_nodup {z : Str} {m : Nat} (hm : m ≤ 9) : ((List.range m).map (cand z)).Nodup := by
  refine List.pairwise_map.mpr (List.pairwise_iff_getElem.mpr fun i j hi hj hij e => ?_)
  rw [List.length_range] at hi hj
  rw [List.getElem_range, List.getElem_range] at e
  have := cand_inj (by omega) (by omega) e
  omega
/-- one of the spare names is new -/
theorem spare_new {z : Str} {m : Nat} {zs : List Str} (hm : m ≤ 9) (h : zs.length < m) : ∃ y r, (z :: (List.range m).map (cand z)).filter (fun y => !decide (y ∈ zs)) = y :: r := by
  cases e : (z :: (List.range m).map (cand z)).filter (fun y => !decide (y ∈ zs)) with
  | cons y r => exact ⟨y, r, rfl⟩
  | nil =>
    have all : ∀ y ∈ (List.range m).map (cand z), y ∈ zs := fun y hy => by
      have q := List.filter_eq_nil_iff.mp e y (List.mem_cons_of_mem _ hy)
      simpa using q
    have := len_sub _ _ (cands_nodup hm) all
    rw [List.length_map, List.length_range] at this
    omega
theorem spare_is {z : Str} {m : Nat} {zs r : List Str} {y : Str} (hm : m ≤ 9) (hz : isName z = true) (e : (z :: (List.range m).map (cand z)).filter (fun y => !decide (y ∈ zs)) = y :: r) : isName y = true ∧ y ∉ zs := by
  have hy : y ∈ (z :: (List.range m).map (cand z)).filter (fun y => !decide (y ∈ zs)) := by rw [e]; exact List.mem_cons_self
  obtain ⟨h1, h2⟩ := List.mem_filter.mp hy
  refine ⟨?_, by simpa using h2⟩
  rcases List.mem_cons.mp h1 with rfl | h1
  · exact hz
  · obtain ⟨j, hj, rfl⟩ := List.mem_map.mp h1
    exact cand_name hz (by have := List.mem_range.mp hj; omega)
theorem inV_strs (x : Str) : ∀ zs : List Str, inV (.str x) (zs.map V.str) = decide (x ∈ zs)
  | [] => rfl
  | z :: zs => by
    have ih := inV_strs x zs
    unfold inV at ih ⊢
    rw [List.map_cons, List.any_cons, ih]
    show ((z == x) || _) = _
    by_cases e : z = x
    · subst e
      simp
    · have e' : ¬ x = z := fun q => e q.symm
      simp [e, e']
theorem flat_strsN (zs : List Str) : (zs.map V.str).all flatV = true := by
  rw [List.all_map]
  exact List.all_eq_true.mpr fun _ _ => rfl
end Rng


/-! sets of things of one kind that can be walked: what they hold, told as a list in the order in which it came -/
namespace Bag
open PySem PySem.Spec PyProof.Rows L2
/-- what is known when one more is met -/
def met {κ : Type} [DecidableEq κ] (ks : List κ) (k : κ) : List κ := if k ∈ ks then ks else ks ++ [k]
theorem met_nodup {κ : Type} [DecidableEq κ] {ks : List κ} {k : κ} (h : ks.Nodup) : (met ks k).Nodup := by
  unfold met
  split
  · exact h
  · rename_i n
    refine List.nodup_append.mpr ⟨h, List.nodup_cons.mpr ⟨List.not_mem_nil, List.nodup_nil⟩, fun a ha c hc e => ?_⟩
    obtain rfl := List.mem_singleton.mp hc
    exact n (e ▸ ha)
theorem mem_met {κ : Type} [DecidableEq κ] {ks : List κ} {k j : κ} : j ∈ met ks k ↔ j ∈ ks ∨ j = k := by
  unfold met
  split
  · rename_i m
    exact ⟨.inl, fun h => h.elim id fun e => e ▸ m⟩
  · rw [List.mem_append, List.mem_singleton]
theorem met_len {κ : Type} [DecidableEq κ] {ks : List κ} {k : κ} : (met ks k).length ≤ ks.length + 1 := by
  unfold met
  split
  · omega
  · rw [List.length_append]
    exact Nat.le_refl _
section
variable {P : Program} {w : World} {κ : Type} [DecidableEq κ] {kd : KeyKind P w κ}
theorem items_turn {js : List κ} {vs us : List Value} (p : us.Perm vs) (h : ItemsAre kd js vs) : ∃ is, is.Perm js ∧ ItemsAre kd is us := by
  induction p generalizing js with
  | nil => exact ⟨js, .refl _, h⟩
  | cons v p ih =>
    cases h with
    | cons a b =>
      obtain ⟨is, q, r⟩ := ih b
      exact ⟨_, q.cons _, .cons a r⟩
  | swap x y l =>
    cases h with
    | cons a b =>
      cases b with
      | cons b c => exact ⟨_, .swap _ _ _, .cons b (.cons a c)⟩
  | trans p q ih1 ih2 =>
    obtain ⟨i1, q1, r1⟩ := ih2 h
    obtain ⟨i2, q2, r2⟩ := ih1 r1
    exact ⟨i2, q2.trans q1, r2⟩
theorem items_len {js : List κ} {vs : List Value} (h : ItemsAre kd js vs) : js.length = vs.length := by
  induction h with
  | nil => rfl
  | cons _ _ ih => rw [List.length_cons, List.length_cons, ih]
theorem items_mem {js : List κ} {vs : List Value} (h : ItemsAre kd js vs) (k : κ) : k ∈ js ↔ ∃ v ∈ vs, kd.is k v = true := by
  induction h with
  | nil => exact ⟨fun z => (nomatch z), fun ⟨_, z, _⟩ => (nomatch z)⟩
  | cons a _ ih =>
    rw [List.mem_cons, ih]
    constructor
    · rintro (rfl | ⟨v, hv, e⟩)
      · exact ⟨_, List.mem_cons_self, a⟩
      · exact ⟨v, List.mem_cons_of_mem _ hv, e⟩
    · rintro ⟨v, hv, e⟩
      rcases List.mem_cons.mp hv with rfl | hv
      · exact .inl (kd.inj _ _ _ e a)
      · exact .inr ⟨v, hv, e⟩
/-- a set's table with the things ks -/
structure Tbl (kd : KeyKind P w κ) (ks : List κ) (es : Array (Int × Value)) (t : SetTable) : Prop where
  good : ElemsOf kd es.toList
  keys : ∃ js, js.Perm ks ∧ ItemsAre kd js (es.toList.map (·.2))
  nd : ks.Nodup
  small : es.size < scanBound
  fits : t.fits es.size = true
  ris : Ris t.place.toList
  led : w.params.followText "set-order" = true ∨ t.led = true
theorem Tbl.size {ks : List κ} {es : Array (Int × Value)} {t : SetTable} (T : Tbl kd ks es t) : es.size = ks.length := by
  obtain ⟨js, p, i⟩ := T.keys
  rw [← p.length_eq, items_len i, List.length_map, Array.length_toList]
theorem Tbl.mem {ks : List κ} {es : Array (Int × Value)} {t : SetTable} (T : Tbl kd ks es t) (k : κ) : k ∈ ks ↔ ∃ e ∈ es.toList, kd.is k e.2 = true := by
  obtain ⟨js, p, i⟩ := T.keys
  rw [← p.mem_iff, items_mem i]
  constructor
  · rintro ⟨v, hv, e⟩
    obtain ⟨x, hx, rfl⟩ := List.mem_map.mp hv
    exact ⟨x, hx, e⟩
  · rintro ⟨x, hx, e⟩
    exact ⟨_, List.mem_map.mpr ⟨x, hx, rfl⟩, e⟩
theorem Tbl.turn {ks : List κ} {es es' : Array (Int × Value)} {t t' : SetTable} (T : Tbl kd ks es t) (p : es'.toList.Perm es.toList) (hf : t'.fits es'.size = true) (hr : Ris t'.place.toList) (hl : t'.led = t.led) : Tbl kd ks es' t' := by
  obtain ⟨js, pj, i⟩ := T.keys
  obtain ⟨is, q, r⟩ := items_turn (p.map (·.2)) i
  have sz : es'.size = es.size := by rw [← Array.length_toList, p.length_eq, Array.length_toList]
  exact ⟨fun e he => T.good e (p.mem_iff.mp he), ⟨is, q.trans pj, r⟩, T.nd, sz ▸ T.small, hf, hr, T.led.imp id fun z => hl ▸ z⟩
theorem Tbl.put {ks : List κ} {es es' : Array (Int × Value)} {t t' : SetTable} (T : Tbl kd ks es t) {k : κ} {v : Value} (hk : kd.is k v = true) (hs : v.scannable = true) (hn : k ∉ ks) (room : ks.length + 1 < scanBound)
    (p : es'.toList.Perm ((kd.hash k, v) :: es.toList)) (hf : t'.fits es'.size = true) (hr : Ris t'.place.toList) (hl : t'.led = t.led) : Tbl kd (ks ++ [k]) es' t' := by
  obtain ⟨js, pj, i⟩ := T.keys
  obtain ⟨is, q, r⟩ := items_turn (p.map (·.2)) (ItemsAre.cons (ks := js) (k := k) hk i)
  have sz : es'.size = ks.length + 1 := by rw [← Array.length_toList, p.length_eq, List.length_cons, Array.length_toList, T.size]
  refine ⟨fun e he => ?_, ⟨is, q.trans ((pj.cons k).trans (List.perm_append_singleton k ks).symm), r⟩, ?_, sz ▸ room, hf, hr, T.led.imp id fun z => hl ▸ z⟩
  · rcases List.mem_cons.mp (p.mem_iff.mp he) with z | z
    · rw [z]
      exact ⟨⟨k, hk, rfl⟩, hs⟩
    · exact T.good e z
  · have := met_nodup (k := k) T.nd
    unfold met at this
    rwa [if_neg hn] at this
/-- the set at a holds ks -/
def Bg (kd : KeyKind P w κ) (h : Heap) (a : Addr) (ks : List κ) : Prop := ∃ o es ep t, h.get? a = some o ∧ o.ExactSet ∧ o.data = .set es ep t ∧ Tbl kd ks es t
theorem Bg.at {h h' : Heap} {a : Addr} {ks : List κ} (B : Bg kd h a ks) (k : ∀ o, h.get? a = some o → h'.get? a = some o) : Bg kd h' a ks := by
  obtain ⟨o, es, ep, t, e, r⟩ := B
  exact ⟨o, es, ep, t, k o e, r⟩
theorem Bg.obj {h : Heap} {a : Addr} {ks : List κ} (B : Bg kd h a ks) : ∃ o, h.get? a = some o ∧ o.cls = .type "set" := by
  obtain ⟨o, es, ep, t, e, x, _⟩ := B
  exact ⟨o, e, x.1⟩
variable {A : Around} {E : Value → Shared → Prop} {s : Shared} {a : Addr} {ks : List κ}
/-- what stands at the end of an addition: the table stored, laid anew where it is too full -/
theorem tail_put {ring : Bool → Sem Unit} (hg : ∀ (b : Bool) (z : Shared) (W : Unit → Shared → Prop), W () z → wpAny (model P w) A (ring b) W E z) {o : Obj} {es : Array (Int × Value)} {ep : Nat} {t : SetTable}
    (ho : s.heap.get? a = some o) (hx : o.ExactSet) (hd : o.data = .set es ep t) {e1 : Array (Int × Value)} {t1 : SetTable} {ls : List κ} (T : Tbl kd ls e1 t1) {old : Bool} {R : Option Bool → Shared → Prop}
    (hR : ∀ h', Heap.SameBut a s.heap h' → Bg kd h' a ls → R (some true) { s with heap := h' }) :
    wpAny (model P w) A (do
        storeSet a e1 t1
        if (!old && t1.tooFull) = true then do
            ring (relayAll t1 e1 (SetTable.grown e1.size)).2.2
            storeSet a (relayAll t1 e1 (SetTable.grown e1.size)).1 (relayAll t1 e1 (SetTable.grown e1.size)).2.1
            pure (some true)
          else pure (some true)) R E s := by
  have k1 := store_at (es' := e1) (t' := t1) ho hd
  have b1 := Heap.SameBut.update s.heap a (Obj.putSet e1 t1)
  refine wpAny_bind (wpAny_storeSet_of ho hd ?_ (fits_of_scanBound T.small))
  by_cases c : (!old && t1.tooFull) = true
  · rw [if_pos c]
    have T2 := T.turn (relayAll_perm t1 e1 (SetTable.grown e1.size)) (relayAll_fits t1 e1 (SetTable.grown e1.size)) (relayAll_ris t1 e1 (SetTable.grown e1.size)) (relayAll_led t1 e1 (SetTable.grown e1.size))
    generalize relayAll t1 e1 (SetTable.grown e1.size) = Y at T2 ⊢
    obtain ⟨e2, t2, gave⟩ := Y
    refine wpAny_bind (hg _ _ _ (wpAny_bind (wpAny_storeSet_of k1 rfl ?_ (fits_of_scanBound T2.small))))
    exact wpAny_pure (hR _ (b1.trans (Heap.SameBut.update _ a _)) ⟨_, _, _, _, store_at k1 rfl, hx, rfl, T2⟩)
  · rw [if_neg c]
    exact wpAny_pure (hR _ b1 ⟨_, _, _, _, k1, hx, rfl, T⟩)
theorem put_hashed {k : κ} {v : Value} {Q : Bool → Shared → Prop} (B : Bg kd s.heap a ks) (hk : kd.is k v = true) (hs : v.scannable = true) (room : ks.length + 1 < scanBound)
    (hQ : ∀ h' b, Heap.SameBut a s.heap h' → Bg kd h' a (met ks k) → Q b { s with heap := h' }) : wpAny (model P w) A (setAddHashed a v (kd.hash k)) Q E s := by
  obtain ⟨o, es, ep, t, ho, hx, hd, T⟩ := id B
  unfold setAddHashed setAddHashedIn
  refine wpAny_holding (wpAny_bind (wpAny_setState_of ho hd T.fits ?_))
  dsimp only
  rw [byScan_of hs T.small T.good]
  simp only [↓reduceIte]
  unfold setAddByScan
  refine wpAny_bind (wpAny_bind (wpAny_rule (wpAny_bind (wpAny_setScan_of hk ho hd T.fits T.good ?_))))
  by_cases hm : k ∈ ks
  · obtain ⟨e, he, ek⟩ := (T.mem k).mp hm
    cases hf : es.toList.findIdx? (fun e => kd.is k e.2) with
    | none => exact absurd ek (Bool.eq_false_iff.mp (List.findIdx?_eq_none_iff.mp hf e he))
    | some j =>
      dsimp only
      refine wpAny_pure (wpAny_pure (hQ s.heap _ (Heap.SameBut.refl a s.heap) ?_))
      unfold met
      rwa [if_pos hm]
  · cases hf : es.toList.findIdx? (fun e => kd.is k e.2) with
    | some j =>
      obtain ⟨hj, ej, _⟩ := List.findIdx?_eq_some_iff_getElem.mp hf
      exact absurd ((T.mem k).mpr ⟨_, List.getElem_mem hj, ej⟩) hm
    | none =>
      dsimp only
      have quiet : ∀ (b : Bool) (z : Shared) (W : Unit → Shared → Prop), W () z → wpAny (model P w) A (match b with | true => rule "set.scan.the-table-gave-way" | false => pure ()) W E z := fun b z W q => by
        cases b
        · exact wpAny_pure q
        · exact wpAny_rule q
      have pm := layNew_perm t es (kd.hash k) v
      have hf1 := layNew_fits t es (kd.hash k) v
      have hr1 := layNew_ris t es (kd.hash k) v T.ris
      have hl1 := layNew_led t es (kd.hash k) v
      generalize layNew t es (kd.hash k) v = Y at pm hf1 hr1 hl1 ⊢
      obtain ⟨e1, t1, old, gave⟩ := Y
      dsimp only at pm hf1 hr1 hl1 ⊢
      rw [Array.toList_push] at pm
      have p1 : e1.toList.Perm ((kd.hash k, v) :: es.toList) := pm.trans (List.perm_append_singleton _ _)
      have fin : ∀ h', Heap.SameBut a s.heap h' → Bg kd h' a (ks ++ [k]) → Q true { s with heap := h' } := fun h' sb b => by
        refine hQ h' _ sb ?_
        unfold met
        rwa [if_neg hm]
      refine wpAny_bind (quiet _ _ _ ?_)
      split
      · refine wpAny_bind ?_
        rw [hashByValue_scannable 8 hs]
        refine wpAny_pure ?_
        refine tail_put ?_ ho hx hd (T.put hk hs hm room p1 ?_ ?_ ?_) fun h' sb b => wpAny_pure (fin h' sb b)
        · exact fun b z W q => quiet b z W q
        · first | (split <;> first | exact hf1 | exact SetTable.fits_plain_off hf1) | exact hf1
        · first | (split <;> exact hr1) | exact hr1
        · first | (split <;> exact hl1) | exact hl1
      · refine wpAny_bind (wpAny_pure ?_)
        simp only [↓reduceIte]
        exact tail_put (fun b z W q => quiet b z W q) ho hx hd (T.put hk hs hm room p1 hf1 hr1 hl1) fun h' sb b => wpAny_pure (fin h' sb b)
end
end Bag


/-! set(xs) of a list, sorted(set) of texts -/
namespace Bag
open PySem PySem.Spec PyProof.Rows L2
/-- the different ones of a list, as they come first -/
def firsts {κ : Type} [DecidableEq κ] (xs : List κ) : List κ := xs.foldl met []
theorem firsts_snoc {κ : Type} [DecidableEq κ] (xs : List κ) (k : κ) : firsts (xs ++ [k]) = met (firsts xs) k := by
  unfold firsts
  rw [List.foldl_append]
  rfl
theorem firsts_take {κ : Type} [DecidableEq κ] {xs : List κ} {i : Nat} {k : κ} (h : xs[i]? = some k) : firsts (xs.take (i + 1)) = met (firsts (xs.take i)) k := by
  rw [List.take_add_one, h]
  exact firsts_snoc _ _
theorem firsts_len {κ : Type} [DecidableEq κ] : ∀ (n : Nat) (xs : List κ), xs.length = n → (firsts xs).length ≤ n
  | 0, xs, h => by
    rw [List.length_eq_zero_iff.mp h]
    exact Nat.le_refl _
  | n + 1, xs, h => by
    have hne : xs ≠ [] := fun z => by rw [z] at h; cases h
    have e := List.dropLast_concat_getLast hne
    have ih := firsts_len n xs.dropLast (by rw [List.length_dropLast, h]; rfl)
    rw [← e, firsts_snoc]
    exact Nat.le_trans met_len (Nat.succ_le_succ ih)
theorem firsts_nodup {κ : Type} [DecidableEq κ] (xs : List κ) : (firsts xs).Nodup := by
  have : ∀ (xs ks : List κ), ks.Nodup → (xs.foldl met ks).Nodup := fun xs => by
    induction xs with
    | nil => exact fun ks h => h
    | cons x xs ih => exact fun ks h => ih _ (met_nodup h)
  exact this xs [] List.nodup_nil
theorem mem_firsts {κ : Type} [DecidableEq κ] (xs : List κ) (k : κ) : k ∈ firsts xs ↔ k ∈ xs := by
  have : ∀ (xs ks : List κ), k ∈ xs.foldl met ks ↔ k ∈ ks ∨ k ∈ xs := fun xs => by
    induction xs with
    | nil => exact fun ks => ⟨.inl, fun h => h.elim id fun z => (nomatch z)⟩
    | cons x xs ih =>
      intro ks
      rw [List.foldl_cons, ih, mem_met, List.mem_cons, or_assoc]
  have h := this xs []
  show k ∈ xs.foldl met [] ↔ _
  rw [h]
  exact ⟨fun z => z.elim (fun z => (nomatch z)) id, .inr⟩
section
variable {P : Program} {w : World} {κ : Type} [DecidableEq κ] {kd : KeyKind P w κ} {A : Around} {s : Shared}
theorem empty_tbl (kd : KeyKind P w κ) : Tbl kd [] #[] (.fresh 0 0 (!w.params.followText "set-order")) where
  good := fun e h => by simp at h
  keys := ⟨[], .refl _, .nil⟩
  nd := List.nodup_nil
  small := by decide
  fits := by rfl
  ris := List.Pairwise.nil
  led := by
    show _ ∨ (!w.params.followText "set-order") = true
    cases w.params.followText "set-order" <;> simp
def emptyObj (w : World) : Obj := { cls := .type "set", dict := none, data := .set #[] 0 (.fresh 0 0 (!w.params.followText "set-order")) }
theorem empty_bg {h : Heap} {a : Addr} (e : h.get? a = some (emptyObj w)) : Bg kd h a [] := ⟨_, _, _, _, e, ⟨rfl, rfl, rfl⟩, rfl, empty_tbl kd⟩
/-- the turns of set(xs) -/
theorem turns {I S : Addr} {fp wr : List Addr} {G : Array GenState → Array GenState → Prop} {n : Nat} {Pv : Nat → Value → Prop} {St : Nat → Shared → Prop} {R : Result → Shared → Prop} (W : WalksS P w A.in1 I fp wr G n Pv St) (nS : S ∉ fp)
    (xs : List κ) (hn : xs.length = n) (room : n + 1 < scanBound) (hv : ∀ i v, Pv i v → ∃ k, xs[i]? = some k ∧ kd.is k v = true ∧ v.scannable = true) (left : Nat) :
    ∀ (i : Nat) (s : Shared), i + left = n → St i s → Bg kd s.heap S (firsts (xs.take i)) → (∀ z, Moved (S :: wr) G s z → Bg kd z.heap S (firsts xs) → R (.ok (.ret .none)) z) →
      codeAny (model P w) A (.builtin "set.update.loop" ⟨[.ref S, .ref I], []⟩) R s := by
  have nW : S ∉ wr := fun z => nS (W.sub _ z)
  have more : ∀ b ∈ wr, b ∈ S :: wr := fun b hb => List.mem_cons_of_mem _ hb
  induction left with
  | zero =>
    intro i s e st B r
    obtain rfl : i = n := e
    rw [← hn, List.take_length] at B
    refine codeAny_builtin F.entry_set_update_loop ?_
    rw [Around.under_plainId F.plain_set_update_loop _]
    show wpAny _ A.in1 (pyNext (.ref I) >>= _) _ _ s
    refine wpAny_bind (W.done s _ _ st fun z m => ?_)
    show wpAny _ A.in1 (ret Value.none) _ _ z
    exact wpAny_pure (r z (m.mono more) (B.at fun o e => m.heap S o nW e))
  | succ left ih =>
    intro i s e st B r
    refine codeAny_builtin F.entry_set_update_loop ?_
    rw [Around.under_plainId F.plain_set_update_loop _]
    show wpAny _ A.in1 (pyNext (.ref I) >>= _) _ _ s
    refine wpAny_bind (W.item i s _ _ (by omega) st fun v z p st1 m => ?_)
    obtain ⟨k, hk, kv, sc⟩ := hv i v p
    have B1 := B.at (h' := z.heap) fun o e => m.heap S o nW e
    show wpAny _ A.in1 (holding [v] (setAdd S v) >>= _) _ _ z
    refine wpAny_bind (wpAny_holding ?_)
    unfold setAdd
    refine wpAny_holding (wpAny_bind (kd.pyHash kv ?_))
    have ln := firsts_len _ (xs.take i) rfl
    rw [List.length_take] at ln
    refine put_hashed (s := { z with toks := z.toks + 1 }) B1 kv sc (by omega) fun h' b sb B2 => ?_
    rw [← firsts_take hk] at B2
    refine wpAny_pure ⟨plainId_quiet F.plain_set_update_loop _, ih (i + 1) _ (by omega) (W.frame _ z _ _ st1 (Nat.le_succ _) fun c hc o e => ?_) B2 fun y my By => ?_⟩
    · exact (sb.2 c fun q => nS (q ▸ hc)).trans e
    · exact r y (Moved.trans W.gtrans ((m.mono more).then_heap (Nat.le_succ _) fun c o hc e => (sb.2 c fun q => hc (q ▸ List.mem_cons_self)).trans e) my) By
set_option maxHeartbeats 8000000 in
/-- set(xs), xs a list -/
theorem set_of_list {E : Value → Shared → Prop} {l : Addr} {us : Array Value} {xs : List κ} {Q : Value → Shared → Prop} (hh : A.handled = none) (hl : s.heap.IsList l us) (hi : ItemsAre kd xs us.toList) (sc : ∀ v ∈ us.toList, v.scannable = true) (room : xs.length + 1 < scanBound)
    (h : ∀ (h' : Heap) (tk : Nat), Bg kd h' s.heap.objs.size (firsts xs) → (∀ b o, s.heap.get? b = some o → h'.get? b = some o) → Q (.ref s.heap.objs.size) { s with heap := h', toks := tk }) :
    wpAny (model P w) A (call (.type "set") [.ref l]) Q E s := by
  have hsz : us.size = xs.length := by rw [items_len hi, Array.length_toList]
  obtain ⟨c, tl, hmro⟩ := F.called_set.mro
  have hmade := F.called_set.made
  have hsub := F.called_set.sub
  refine wpAny_call (codeAny_of_tree ?_)
  show wpAny _ _ (callAny (.type "set") _) _ _ _
  refine wpAny_pure ⟨Code.quiet_builtin _ (by decide +kernel), codeAny_builtin F.entry_type_call ?_⟩
  rw [Around.under_plain (weight_type_call_type "set" [.ref l] []) rfl]
  have h1 := F.called_set.notType
  have h2 := F.called_set.canCreate
  have hct := F.typeCall_set_1 (.ref l)
  repeat (any_goals (first | assumption | wp_step))
  refine codeAny_mono (code_set_led1 (.ref l) (E := E) (Q₁ := fun u z => u = .ref s.heap.objs.size ∧ z = { s with heap := s.heap.push (emptyObj w) }) ⟨rfl, rfl⟩) fun r z hr => ?_
  cases r with
  | error e => exact hr
  | ok fl =>
    cases fl with
    | ret u =>
      obtain ⟨rfl, rfl⟩ := hr
      have at0 : (s.heap.push (emptyObj w)).get? s.heap.objs.size = some (emptyObj w) := Heap.get?_push_size _ rfl
      have hT : Shared.TypeIs { s with heap := s.heap.push (emptyObj w) } (.ref s.heap.objs.size) "set" := ⟨_, at0, rfl⟩
      have hli := F.called_set.init.lookup
      have hbi := F.called_set.init.bind (.ref s.heap.objs.size)
      repeat (any_goals (first | assumption | wp_step))
      refine codeAny_mono (codeAny_call_builtin (R := wants (fun r y => r = .none ∧ ∃ h' tk, y = { s with heap := h', toks := tk } ∧ Bg kd h' s.heap.objs.size (firsts xs) ∧ (∀ b o, s.heap.get? b = some o → h'.get? b = some o)) E) F.called_set.init.plain F.entry_set_init (check_set_init_1 hT ?_)) fun r2 y hy => ?_
      · obtain ⟨⟨oc, od, odt, osl⟩, hol, hcl, nl, hdl⟩ := hl
        simp only at hcl hdl
        subst hcl
        subst hdl
        have hol1 : (s.heap.push (emptyObj w)).get? l = some { cls := .type "list", dict := od, data := .seq us nl, slots := osl } := Heap.get?_push_of_some _ hol
        have hl1 : (s.heap.push (emptyObj w)).IsList l us := ⟨_, hol1, rfl, nl, rfl⟩
        have q1 := F.sub_list_set
        have q2 := F.sub_list_frozenset
        have q3 : (Value.type "list" == Value.type "dict") = false := by decide
        unfold Builtin.«set.__init__» noKeywords Builtin.Frozenset.updateFrom
        generalize hPI : pyIter = PI
        wp_walk
        subst hPI
        refine wpAny_pyIter_list hl1 (wpAny_bind (wpAny_runValue ?_))
        have lt : l < s.heap.objs.size := Heap.lt_size hol
        have h3 : A.in1.in1.in1.handled = none := by simp [hh]
        have z1 : (s.heap.push (emptyObj w)).objs.size = s.heap.objs.size + 1 := Heap.size_push ..
        refine turns (kd := kd) ((Walks.list h3 (s.heap.push (emptyObj w)).objs.size l (by rw [z1]; exact Nat.ne_of_lt (Nat.lt_succ_of_lt lt)) us).toS) (S := s.heap.objs.size) ?_ xs hsz.symm (hsz ▸ room) (fun i v hv => ?_) us.size 0 _ (Nat.zero_add _) ⟨⟨_, Heap.get?_push_size _ rfl, rfl, rfl⟩, hl1.push _⟩ ?_ fun y m B => ?_
        · rw [z1]
          simp only [List.mem_cons, List.not_mem_nil, or_false, not_or]
          exact ⟨Nat.ne_of_lt (Nat.lt_succ_self _), Nat.ne_of_gt lt⟩
        · have hv' : us.toList[i]? = some v := by rw [Array.getElem?_toList]; exact hv
          clear h hh hol hol1 hl1
          have gen : ∀ {js : List κ} {vs : List Value} (i : Nat), ItemsAre kd js vs → vs[i]? = some v → ∃ k, js[i]? = some k ∧ kd.is k v = true := fun {js vs} i q => by
            induction q generalizing i with
            | nil => intro e; simp at e
            | cons a b ih =>
              intro e
              cases i with
              | zero =>
                obtain rfl := Option.some.inj e
                exact ⟨_, rfl, a⟩
              | succ i => exact ih i e
          obtain ⟨k, e1, e2⟩ := gen i hi hv'
          exact ⟨k, e1, e2, sc v (List.mem_of_getElem? hv')⟩
        · exact empty_bg (Heap.get?_push_of_some _ at0)
        · obtain ⟨h', g2, d2, tk, os⟩ := y
          obtain rfl : g2 = s.gens := m.gens
          obtain rfl : d2 = s.drawn := m.drawn
          obtain rfl : os = s.os := m.os
          refine wpAny_pure ?_
          show wpAny _ _ (ret Value.none) _ _ _
          refine wpAny_pure ⟨rfl, h', tk, rfl, B, fun b o e => ?_⟩
          have lb : b < s.heap.objs.size := Heap.lt_size e
          refine m.heap b o (fun z => ?_) (Heap.get?_push_of_some _ (Heap.get?_push_of_some _ e))
          rcases List.mem_cons.mp z with z | z
          · exact absurd z (Nat.ne_of_lt lb)
          · have q := List.mem_singleton.mp z
            rw [z1] at q
            exact absurd q (Nat.ne_of_lt (Nat.lt_succ_of_lt lb))
      · cases r2 with
        | error e => exact hy
        | ok f2 =>
          cases f2 with
          | ret u =>
            obtain ⟨rfl, h', tk, rfl, B, k⟩ := hy
            repeat (any_goals (first | assumption | wp_step))
            exact h _ _ B k
          | _ => exact hy.elim
    | _ => exact hr.elim
end
end Bag


/-! sorted(set) of texts; sets of texts as tracked things -/
namespace Bag
open PySem PySem.Spec PyProof.Rows L2
section
variable {P : Program} {w : World} {A : Around} {E : Value → Shared → Prop} {s : Shared}
theorem strs_are {js : List Str} {vs : List Value} (h : ItemsAre (PySem.strKind P w) js vs) : StrsAre vs js := by
  induction h with
  | nil => exact .nil
  | cons a _ ih =>
    obtain ⟨t, rfl⟩ := Value.isStrOf_shape a
    exact .cons _ t ih
theorem are_strs {js : List Str} {vs : List Value} (h : StrsAre vs js) : ItemsAre (PySem.strKind P w) js vs := by
  induction h with
  | nil => exact .nil
  | cons y t _ ih => exact .cons (strKind_is P w y t) ih
theorem scan_strs {js : List Str} {vs : List Value} (h : StrsAre vs js) : ∀ v ∈ vs, v.scannable = true := by
  induction h with
  | nil => exact fun v z => (nomatch z)
  | cons y t _ ih => exact fun v z => (List.mem_cons.mp z).elim (fun e => by rw [e]; rfl) (ih v)
theorem sorted_bag {ks : List Str} {a : Addr} {Q : Value → Shared → Prop} (B : Bg (PySem.strKind P w) s.heap a ks) (hh : A.handled = none)
    (h : ∀ z p (out : Array Value) (c : Nat) (ys : List Str), (∀ b o, s.heap.get? b = some o → z.heap.get? b = some o) → z.gens = s.gens → z.os = s.os → s.heap.objs.size ≤ p → z.heap.get? p = some (seqObj "list" out c) → StrsAre out.toList ys → ys.Perm ks → sortedS ys = true → Q (.ref p) z) :
    wpAny (model P w) A (call (.builtin "sorted") [.ref a]) Q E s := by
  obtain ⟨o, es, ep, t, ho, hx, hd, T⟩ := B
  refine Calls.call_function_entry kind_sorted plain_sorted entry_sorted (args_sorted1 _) ?_
  unfold Builtin.«sorted»
  refine wpAny_bind (m := checkCount "sorted" 1 1 _) (wpAny_pure ?_)
  refine wpAny_bind (collect_set (A := A.in1) hh ⟨o, ho, hx.1, hd⟩ T.fits T.small T.ris T.led fun y vs k hz g1 o1 pm => ?_)
  obtain ⟨js, pj, ij⟩ := T.keys
  obtain ⟨is, q, ii⟩ := items_turn pm ij
  have sa := strs_are ii
  have ln : vs.length ≤ sizeLine := by
    rw [pm.length_eq, List.length_map, Array.length_toList]
    exact fits_of_scanBound T.small
  refine wpAny_bind (wpAny_newList ?_ ln)
  have ol : (y.heap.push (seqObj "list" vs.toArray 0)).get? y.heap.objs.size = some (seqObj "list" vs.toArray 0) := Heap.get?_push_size _ rfl
  refine wpAny_bind (wpAny_holding (wpAny_call_entry slot_list_sort ⟨_, ol, rfl⟩ entry_list_sort
    (list_sort_treeKAny PyProof.Rows.strKind_oneLt ol sa.keysOf (fun v₁ v₂ rest e => keyKind_strs (by rw [← e]; exact sa)) ln fun st hp hs => ⟨_, rfl, ?_⟩) (args_list_sort _)))
  obtain ⟨ys, h1, h2, h3⟩ := sorted_out_str sa hp hs
  obtain ⟨c, hc⟩ := sortedHeap_at (vs := vs) (out := (arrOf st).map (·.2)) ol
  refine wpAny_pure ⟨_, rfl, h _ y.heap.objs.size _ c ys (fun b u e => ?_) g1 o1 hz hc h1 (h2.trans (q.trans pj)) h3⟩
  have lt := Heap.lt_size (k b u e)
  show (sortedHeap (y.heap.push (seqObj "list" vs.toArray 0)) y.heap.objs.size vs _).get? b = some u
  rw [sortedHeap_old (Nat.ne_of_lt lt) (by rw [size_push']; exact Nat.lt_succ_of_lt lt)]
  exact Heap.get?_push_of_some _ (k b u e)
end
/-- the set of texts at a -/
def BagO (P : Program) (w : World) (a : Addr) (ks : List Str) : HO := .ext fun h => Bg (PySem.strKind P w) h a ks
theorem bagO_ok {P : Program} {w : World} {H : Hp} {h : Heap} {a : Addr} {ks : List Str} (B : Bg (PySem.strKind P w) h a ks) : ObjOk P w H h a (BagO P w a ks) := by
  obtain ⟨o, e, _⟩ := B.obj
  exact ⟨B, ⟨o, e⟩, fun _ _ b k => Bg.at b k⟩
section
variable {X : Cx} {pins : List (Addr × Obj)} {σ : L2.St} {H : Hp} {s : Shared}
theorem bagO_get {a : Addr} {ks : List Str} (I : Inv X pins σ H s) (e : H a = some (BagO X.prog X.w a ks)) : Bg (PySem.strKind X.prog X.w) s.heap a ks := (I.hok a _ e).1
/-- set(xs), xs a list of texts -/
def rSetS (K : PySem.W.Frag) (P : Program) (w : World) : List V → Hp → VK → Prop := fun vs H Q => ∃ (l : Addr) (xs : List Str), vs = [V.ref l] ∧ SqL K H l (xs.map V.str) ∧ xs.length + 1 < scanBound ∧ ∀ p, H p = none → Q (.ref p) (upd H p (BagO P w p (firsts xs)))
theorem cr_setS (hc : X.calm = true) : CallR X (.type "set") (rSetS X.K X.prog X.w) := by
  intro pins s σ H vs us Q I r h
  obtain ⟨l, xs, rfl, hl, room, q⟩ := h
  rw [Vals.ref1 r]
  obtain ⟨its, rv, pl, _⟩ := I.list hl
  have sa : StrsAre its.toArray.toList xs := by simpa using rv.strs
  refine set_of_list (kd := PySem.strKind X.prog X.w) (I.ok.hd hc) pl.isList (are_strs sa) (scan_strs sa) room fun h' tk B k => ?_
  exact ⟨.ref _, upd H s.heap.objs.size (BagO X.prog X.w s.heap.objs.size (firsts xs)), I.laid (t' := tk) k (Nat.le_refl _) (bagO_ok B), rfl, q _ (I.hok.fresh (Nat.le_refl _))⟩
/-- sorted(s), s a set of texts -/
def rSortBag (P : Program) (w : World) : List V → Hp → VK → Prop := fun vs H Q => ∃ (a : Addr) (ks : List Str), vs = [V.ref a] ∧ H a = some (BagO P w a ks) ∧ ∀ ys p, ys.Perm ks → sortedS ys = true → H p = none → Q (.ref p) (upd H p (.lst (ys.map V.str)))
theorem cr_sortBag (hc : X.calm = true) : CallR X (.builtin "sorted") (rSortBag X.prog X.w) := by
  intro pins s σ H vs us Q I r h
  obtain ⟨a, ks, rfl, ha, q⟩ := h
  rw [Vals.ref1 r]
  have B := bagO_get I ha
  refine sorted_bag B (I.ok.hd hc) fun z p out c ys k g o hp hg hs pm so => ?_
  have hn : H p = none := I.hok.fresh hp
  have ln : (ys.map V.str).length ≤ sizeLine := by
    obtain ⟨_, es, _, _, _, _, _, T⟩ := B
    rw [List.length_map, pm.length_eq, ← T.size]
    exact fits_of_scanBound T.small
  have J : Inv X pins σ (upd H p (.lst (ys.map V.str))) { s with heap := z.heap, gens := z.gens, drawn := z.drawn, toks := z.toks } :=
    I.call (ch := []) (Un.laid k hp hn) (I.hok.laid k hp ⟨ln, out.toList, c, vals_of_strs hs, hg⟩) (by rw [g]; exact I.bare) (fun _ z => nomatch z)
  have e : z = { s with heap := z.heap, gens := z.gens, drawn := z.drawn, toks := z.toks } := by
    cases z
    cases s
    cases o
    rfl
  rw [e]
  exact ⟨.ref p, _, J, rfl, q ys p pm so hn⟩
/-- set.add of a text -/
theorem add_bag {E : Value → Shared → Prop} {D : Addr} {ks : List Str} {y : Str} {u : Value} {Q : Value → Shared → Prop} (I : Inv X pins σ H s) (hD : H D = some (BagO X.prog X.w D ks)) (ru : RelV (.str y) u) (room : ks.length + 1 < scanBound)
    (h : ∀ z, Inv X pins σ (upd H D (BagO X.prog X.w D (met ks y))) z → Q .none z) : wpAny (model X.prog X.w) X.A (call (.builtin "set.add") [.ref D, u]) Q E s := by
  have B := bagO_get I hD
  obtain ⟨o, ho, hc⟩ := B.obj
  obtain ⟨t, rfl⟩ : ∃ t, u = Value.str y t := ru
  refine wpAny_call_entry F.slot_set_add ⟨o, ho, hc⟩ F.entry_set_add ?_ (F.args_set_add_2 _ _)
  unfold Builtin.«set.add» Builtin.Frozenset.oneOther
  simp only [List.isEmpty_nil, bind_assoc]
  unfold Builtin.Frozenset.addrOf setAdd
  refine wpAny_bind (wpAny_pure ?_)
  try dsimp only
  refine wpAny_bind (wpAny_pure ?_)
  try dsimp only
  refine wpAny_bind (wpAny_holding (wpAny_bind ((PySem.strKind X.prog X.w).pyHash (strKind_is X.prog X.w y t) ?_)))
  refine put_hashed (s := { s with toks := s.toks + 1 }) B (strKind_is X.prog X.w y t) rfl room fun h' b sb B2 => ?_
  show wpAny _ _ (ret Value.none) _ _ _
  obtain ⟨o2, ho2, _⟩ := B2.obj
  exact wpAny_pure ⟨_, rfl, h _ (I.write (e := D) (t' := s.toks + 1) (by rw [hD]; trivial) (.inl rfl) (fun b u hb hu => (sb.2 b hb).trans hu) ⟨_, ho2⟩ (bagO_ok B2))⟩
end
end Bag


/-! lists of tuples: rows and places -/
namespace Rng
open PySem L2
/-- vs are tuples, what f says of each of as -/
inductive TupsAt {α : Type} (f : α → List V) (H : Hp) : List V → List α → Prop
  | nil : TupsAt f H [] []
  | cons {p : Addr} {a : α} {vs : List V} {as : List α} : H p = some (.tup (f a)) → TupsAt f H vs as → TupsAt f H (.ref p :: vs) (a :: as)
section
variable {α : Type} {f : α → List V} {H H' : Hp} {vs us : List V} {as bs : List α} {p : Addr}
theorem TupsAt.len (h : TupsAt f H vs as) : vs.length = as.length := by
  induction h with
  | nil => rfl
  | cons _ _ ih => rw [List.length_cons, List.length_cons, ih]
theorem TupsAt.keep (h : TupsAt f H vs as) (k : ∀ c ys, H c = some (.tup ys) → H' c = some (.tup ys)) : TupsAt f H' vs as := by
  induction h with
  | nil => exact .nil
  | cons e _ ih => exact .cons (k _ _ e) ih
theorem TupsAt.but (h : TupsAt f H vs as) (b : But p H H') (n : ∀ ys, H p ≠ some (.tup ys)) : TupsAt f H' vs as := h.keep fun c ys e => b c _ (fun z => n ys (z ▸ e)) e
theorem TupsAt.same (h : TupsAt f H vs as) (s : Same H H') : TupsAt f H' vs as := h.keep fun c ys e => s c _ e
theorem TupsAt.put {xs ys : List V} (h : TupsAt f H vs as) (e : H p = some (.lst xs)) : TupsAt f (upd H p (.lst ys)) vs as := h.keep fun c zs k => by
  rw [upd_ne (fun z => by rw [z, e] at k; cases k)]
  exact k
theorem TupsAt.snoc {a : α} (h : TupsAt f H vs as) (e : H p = some (.tup (f a))) : TupsAt f H (vs ++ [.ref p]) (as ++ [a]) := by
  induction h with
  | nil => exact .cons e .nil
  | cons k _ ih => exact .cons k ih
theorem TupsAt.get {i : Nat} {v : V} (h : TupsAt f H vs as) (e : vs[i]? = some v) : ∃ a q, as[i]? = some a ∧ v = .ref q ∧ H q = some (.tup (f a)) := by
  induction h generalizing i with
  | nil => simp at e
  | cons k _ ih =>
    cases i with
    | zero =>
      obtain rfl := Option.some.inj e
      exact ⟨_, _, rfl, rfl, k⟩
    | succ i => exact ih e
theorem TupsAt.erase {i : Nat} (h : TupsAt f H vs as) : TupsAt f H (vs.eraseIdx i) (as.eraseIdx i) := by
  induction h generalizing i with
  | nil => exact .nil
  | cons k r ih =>
    cases i with
    | zero => exact r
    | succ i => exact .cons k ih
/-- a permutation of the things is one of the values -/
theorem TupsAt.perm (p : us.Perm vs) (h : TupsAt f H vs as) : ∃ bs, bs.Perm as ∧ TupsAt f H us bs := by
  induction p generalizing as with
  | nil => exact ⟨as, .refl _, h⟩
  | cons v p ih =>
    cases h with
    | cons a b =>
      obtain ⟨is, q, r⟩ := ih b
      exact ⟨_, q.cons _, .cons a r⟩
  | swap x y l =>
    cases h with
    | cons a b =>
      cases b with
      | cons b c => exact ⟨_, .swap _ _ _, .cons b (.cons a c)⟩
  | trans p q ih1 ih2 =>
    obtain ⟨i1, q1, r1⟩ := ih2 h
    obtain ⟨i2, q2, r2⟩ := ih1 r1
    exact ⟨i2, q2.trans q1, r2⟩
theorem TupsAt.data {K : PySem.W.Frag} {g : α → List PyData} (h : TupsAt f H vs as) (fg : ∀ a, DpAll K H (f a) (g a)) : DpAll K H vs (as.map fun a => .tuple (g a)) := by
  induction h with
  | nil => exact .nil
  | cons e _ ih => exact .cons (.tup (SqT.of e) (fg _)) ih
end
/-! ### rows and places -/
abbrev Row : Type := Str × Int × Int
abbrev Plc : Type := Str × Int
def rowV (r : Row) : List V := [.str r.1, .int r.2.1, .int r.2.2]
def plcV (q : Plc) : List V := [.str q.1, .int q.2]
def plcOf (r : Row) : Plc := (r.1, r.2.1)
def rowD (r : Row) : List PyData := [.str r.1, .int r.2.1, .int r.2.2]
def plcD (q : Plc) : List PyData := [.str q.1, .int q.2]
theorem row_data {K : PySem.W.Frag} {H : Hp} (r : Row) : DpAll K H (rowV r) (rowD r) := .cons (.str _) (.cons (.int _) (.cons (.int _) .nil))
theorem plc_data {K : PySem.W.Frag} {H : Hp} (q : Plc) : DpAll K H (plcV q) (plcD q) := .cons (.str _) (.cons (.int _) .nil)
theorem str_beq (x y : Str) : (x == y) = decide (x = y) := by
  by_cases e : x = y
  · subst e; simp
  · simp [e]
theorem plc_eqv (x y : Plc) : PyData.eqv (.tuple (plcD x)) (.tuple (plcD y)) = decide (x = y) := by
  obtain ⟨a, i⟩ := x
  obtain ⟨b, j⟩ := y
  unfold plcD
  simp only [PyData.eqv, PyData.eqvAll, Bool.and_true]
  rw [str_beq]
  by_cases e : a = b <;> by_cases e2 : i = j <;> simp [e, e2]
theorem row_eqv (x y : Row) : PyData.eqv (.tuple (rowD x)) (.tuple (rowD y)) = decide (x = y) := by
  obtain ⟨a, i, m⟩ := x
  obtain ⟨b, j, n⟩ := y
  unfold rowD
  simp only [PyData.eqv, PyData.eqvAll, Bool.and_true]
  rw [str_beq]
  by_cases e : a = b <;> by_cases e2 : i = j <;> by_cases e3 : m = n <;> simp [e, e2, e3]
theorem name_ok {z : Str} (h : isName z = true) : PyData.strOk z = true := by
  unfold isName at h
  unfold PyData.strOk
  simp only [Bool.and_eq_true, decide_eq_true_eq] at h
  have all : ∀ c ∈ z.cps.toList, c < 123 := by
    cases e : z.cps.toList with
    | nil => exact fun c hc => (nomatch hc)
    | cons c r =>
      rw [e] at h
      simp only [Bool.and_eq_true, List.all_eq_true, low, dig, Bool.or_eq_true, decide_eq_true_eq] at h
      intro d hd
      rcases List.mem_cons.mp hd with rfl | hd
      · omega
      · have := h.2.2 d hd
        omega
  rw [← Array.all_toList]
  exact List.all_eq_true.mpr fun c hc => decide_eq_true (Nat.lt_trans (all c hc) (by decide))
theorem plcs_lay : ∀ qs : List Plc, (∀ q ∈ qs, PyData.strOk q.1 = true) → PyData.canLayAll0 (qs.map fun q => .tuple (plcD q)) = true
  | [], _ => by simp [PyData.canLayAll0]
  | q :: qs, h => by
    have h1 := h q List.mem_cons_self
    have h2 := plcs_lay qs fun x hx => h x (List.mem_cons_of_mem _ hx)
    unfold plcD at h2 ⊢
    simp [PyData.canLayAll0, PyData.canLay0, h1, h2]
theorem plcs_deep : ∀ qs : List Plc, PyData.depthAll (qs.map fun q => .tuple (plcD q)) ≤ 1
  | [] => by simp [PyData.depthAll]
  | q :: qs => by
    have := plcs_deep qs
    unfold plcD at this ⊢
    simp only [List.map_cons, PyData.depthAll, PyData.depth]
    omega
theorem plcs_shaped (qs : List Plc) (h : ∀ q ∈ qs, PyData.strOk q.1 = true) : SeqAt.shaped (.list (qs.map fun q => .tuple (plcD q))) = true := by
  have := plcs_deep qs
  unfold SeqAt.shaped
  rw [Bool.and_eq_true, decide_eq_true_eq]
  refine ⟨by simp only [PyData.canLay0]; exact plcs_lay qs h, ?_⟩
  simp only [PyData.depth]
  omega
theorem plc_shaped (q : Plc) (h : PyData.strOk q.1 = true) : SeqAt.shaped (.tuple (plcD q)) = true := by
  unfold SeqAt.shaped
  simp [PyData.canLay0, PyData.canLayAll0, PyData.depth, PyData.depthAll, plcD, h]
theorem rows_lay : ∀ rs : List Row, (∀ q ∈ rs, PyData.strOk q.1 = true) → PyData.canLayAll0 (rs.map fun r => .tuple (rowD r)) = true
  | [], _ => by simp [PyData.canLayAll0]
  | r :: rs, h => by
    have h1 := h r List.mem_cons_self
    have h2 := rows_lay rs fun x hx => h x (List.mem_cons_of_mem _ hx)
    unfold rowD at h2 ⊢
    simp [PyData.canLayAll0, PyData.canLay0, h1, h2]
theorem rows_deep : ∀ rs : List Row, PyData.depthAll (rs.map fun r => .tuple (rowD r)) ≤ 1
  | [] => by simp [PyData.depthAll]
  | r :: rs => by
    have := rows_deep rs
    unfold rowD at this ⊢
    simp only [List.map_cons, PyData.depthAll, PyData.depth]
    omega
theorem rows_shaped (rs : List Row) (h : ∀ q ∈ rs, PyData.strOk q.1 = true) : SeqAt.shaped (.list (rs.map fun r => .tuple (rowD r))) = true ∧ SeqAt.shaped (.tuple (rs.map fun r => .tuple (rowD r))) = true := by
  have d := rows_deep rs
  have l := rows_lay rs h
  unfold SeqAt.shaped
  rw [Bool.and_eq_true, decide_eq_true_eq, Bool.and_eq_true, decide_eq_true_eq]
  refine ⟨⟨by simp only [PyData.canLay0]; exact l, ?_⟩, by simp only [PyData.canLay0]; exact l, ?_⟩
  · simp only [PyData.depth]
    omega
  · simp only [PyData.depth]
    omega
theorem row_shaped (r : Row) (h : PyData.strOk r.1 = true) : SeqAt.shaped (.tuple (rowD r)) = true := by
  unfold SeqAt.shaped
  simp [PyData.canLay0, PyData.canLayAll0, PyData.depth, PyData.depthAll, rowD, h]
theorem any_plc (qs : List Plc) (q : Plc) : ((qs.map fun q => PyData.tuple (plcD q)).any fun z => PyData.eqv z (.tuple (plcD q))) = decide (q ∈ qs) := by
  induction qs with
  | nil => rfl
  | cons x qs ih =>
    rw [List.map_cons, List.any_cons, ih, plc_eqv]
    by_cases e : x = q
    · subst e; simp
    · have e' : ¬ q = x := fun z => e z.symm
      simp [e, e']
theorem any_row (rs : List Row) (r : Row) : ((rs.map fun r => PyData.tuple (rowD r)).any fun z => PyData.eqv z (.tuple (rowD r))) = decide (r ∈ rs) := by
  induction rs with
  | nil => rfl
  | cons x rs ih =>
    rw [List.map_cons, List.any_cons, ih, row_eqv]
    by_cases e : x = r
    · subst e; simp
    · have e' : ¬ r = x := fun z => e z.symm
      simp [e, e']
/-- what the laws' rows are: one of the names, a small time, a value below 10 ** 26 -/
structure RowsOk (zs : List Str) (m : Nat) (rs : List Row) : Prop where
  len : rs.length ≤ m
  nd : (rs.map plcOf).Nodup
  nm : ∀ r ∈ rs, r.1 ∈ zs
  tm : ∀ r ∈ rs, -10 ≤ r.2.1 ∧ r.2.1 ≤ 20
  vl : ∀ r ∈ rs, -10 ^ 25 ≤ r.2.2 ∧ r.2.2 ≤ 10 ^ 25
def spLines (K : PySem.W.Frag) : Sp := fun vs H Q _ => ∃ (p l : Addr) (m b : Nat) (zs : List Str), vs = [.ref p, .ref l, .int m] ∧ m ≤ 20 ∧ Src H p b ∧ b ≤ 800000 ∧ l ≠ p ∧ SqL K H l (zs.map V.str) ∧ 0 < zs.length ∧ zs.length ≤ 1000 ∧ (∀ z ∈ zs, isName z = true) ∧
  ∀ (q : Addr) (us : List V) (rs : List Row) (H' : Hp), RowsOk zs m rs → TupsAt rowV H' us rs → But p H H' → H q = none → q ≠ p → H' q = some (.lst us) → Src H' p (b + 100) → Q (.ref q) H'
def spMixed : Sp := fun vs H Q _ => ∃ (p l : Addr) (b : Nat) (xs : List V), vs = [.ref p, .ref l] ∧ l ≠ p ∧ Src H p b ∧ b ≤ 800000 ∧ H l = some (.lst xs) ∧ xs.length ≤ 100 ∧
  ∀ (q : Addr) (ys : List V) (H' : Hp), ys.Perm xs → But p H H' → H q = none → q ≠ p → H' q = some (.lst ys) → Src H' p (b + xs.length) → Q (.ref q) H'
end Rng


namespace Rng
open PySem L2
theorem one_lt (c d : Nat) : decide ([c] < [d]) = decide (c < d) := by
  have : ([c] < [d]) ↔ c < d := by simp [List.cons_lt_cons_iff]
  exact decide_eq_decide.mpr this
theorem low_is (c : Nat) : low c = (!decide ([c] < [97]) && !decide ([122] < [c])) := by
  rw [one_lt, one_lt]
  unfold low
  by_cases h1 : 97 ≤ c <;> by_cases h2 : c ≤ 122 <;> simp [h1, h2, Nat.not_lt, Nat.lt_of_not_le] <;> omega
theorem dig_is (c : Nat) : dig c = (!decide ([c] < [48]) && !decide ([57] < [c])) := by
  rw [one_lt, one_lt]
  unfold dig
  by_cases h1 : 48 ≤ c <;> by_cases h2 : c ≤ 57 <;> simp [h1, h2, Nat.not_lt, Nat.lt_of_not_le] <;> omega
def spSign (g : Nat → Bool) : Sp := fun vs H Q _ => ∃ c : Nat, vs = [.str ⟨#[c]⟩] ∧ Q (.bl (g c)) H
/-- whether a value is a whole number, no truth value -/
def IntB (K : PySem.W.Frag) (H : Hp) (v : V) (b : Bool) : Prop := ∃ t b1 b2, TyX K H v t ∧ PySem.W.kitOne K t (.type "int") = some b1 ∧ PySem.W.kitOne K t (.type "bool") = some b2 ∧ b = (b1 && !b2)
theorem IntB.int {K : PySem.W.Frag} {H : Hp} (i : Int) : IntB K H (.int i) true := ⟨.type "int", true, false, .base (.int i), kit_ty (by decide +kernel), kit_ty (by decide +kernel), rfl⟩
theorem IntB.bl {K : PySem.W.Frag} {H : Hp} (b : Bool) : IntB K H (.bl b) false := ⟨.type "bool", true, true, .base (.bl b), kit_ty (by decide +kernel), kit_ty (by decide +kernel), rfl⟩
theorem IntB.non {K : PySem.W.Frag} {H : Hp} : IntB K H .non false := ⟨.type "NoneType", false, false, .base .non, kit_ty (by decide +kernel), kit_ty (by decide +kernel), rfl⟩
theorem IntB.str {K : PySem.W.Frag} {H : Hp} (z : Str) : IntB K H (.str z) false := ⟨.type "str", false, false, .base (.str z), kit_ty (by decide +kernel), kit_ty (by decide +kernel), rfl⟩
theorem IntB.lst {K : PySem.W.Frag} {H : Hp} {a : Addr} {xs : List V} (e : H a = some (.lst xs)) : IntB K H (.ref a) false := ⟨.type "list", false, false, .base (.lst e), kit_ty (by decide +kernel), kit_ty (by decide +kernel), rfl⟩
theorem IntB.dK {K : PySem.W.Frag} {H : Hp} {a : Addr} {kvs : List (Key × V)} (e : H a = some (.dK kvs)) : IntB K H (.ref a) false := ⟨.type "dict", false, false, .base (.dK e), kit_ty (by decide +kernel), kit_ty (by decide +kernel), rfl⟩
def spInteger (K : PySem.W.Frag) : Sp := fun vs H Q _ => ∃ (v : V) (b : Bool), vs = [v] ∧ IntB K H v b ∧ Q (.bl b) H
/-- whether a value is a name -/
def NameB (K : PySem.W.Frag) (H : Hp) (v : V) (b : Bool) : Prop := (∃ z : Str, v = .str z ∧ z.length ≤ 16777216 ∧ b = isName z) ∨ ∃ t, TyX K H v t ∧ PySem.W.kitOne K t (.type "str") = some false ∧ b = false
def spIsName (K : PySem.W.Frag) : Sp := fun vs H Q _ => ∃ (v : V) (b : Bool), vs = [v] ∧ NameB K H v b ∧ ∀ H', Same H H' → Q (.bl b) H'
/-- whether a value is a row -/
def RowB (K : PySem.W.Frag) (H : Hp) (v : V) (b : Bool) : Prop :=
  (∃ t, TyX K H v t ∧ PySem.W.kitOne K t (.type "tuple") = some false ∧ b = false) ∨ (∃ p xs, v = .ref p ∧ H p = some (.tup xs) ∧ xs.length ≠ 3 ∧ b = false) ∨
  ∃ p x y z b1 b2 b3, v = .ref p ∧ H p = some (.tup [x, y, z]) ∧ NameB K H x b1 ∧ (∀ H', Same H H' → IntB K H' y b2) ∧ (∀ H', Same H H' → IntB K H' z b3) ∧ b = (b1 && (b2 && b3))
def spIsRow (K : PySem.W.Frag) : Sp := fun vs H Q _ => ∃ (v : V) (b : Bool), vs = [v] ∧ RowB K H v b ∧ ∀ H', Same H H' → Q (.bl b) H'
end Rng


/-! {e for x in xs}, e a text -/
namespace Bag
open PySem PySem.Spec PyProof.Rows L2
/-- one turn: the text goes into the set at D -/
def put1 (P : Program) (w : World) (D : Addr) (te : TE) (σ : L2.St) (H : Hp) (Nx : Hp → Prop) : Prop :=
  te σ H fun y H' => ∃ (z : Str) (ks : List Str), y = .str z ∧ H' D = some (BagO P w D ks) ∧ ks.length + 1 < scanBound ∧ Nx (upd H' D (BagO P w D (met ks z)))
def tBag (P : Program) (w : World) (wi : TI) (g : TG) (tt : TT) (te : TE) (vs : List Nat) : TE := fun σ H Q => wi σ H fun J H1 => ∀ D, H1 D = none → ∃ W : Nat → Nat → Hp → Prop, (∃ m, W 0 m (upd H1 D (BagO P w D []))) ∧
  ∀ i m H, W i m H → (J.stop i H ∧ Q (.ref D) H) ∨ (J.go i H ∧ ∃ Nx : Hp → Prop, (∀ H', Nx H' → ∃ m', m' < m ∧ W (i + 1) m' H') ∧
    ∀ x H', J.yld i H x H' → g x (wipe σ vs) H' fun σ2 H2 => wipe σ2 vs = wipe σ vs ∧ tt σ2 H2 fun b H3 => if b = true then put1 P w D te σ2 H3 Nx else Nx H3)
section
variable {X : Cx} {elt tg iter : Expr} {ifs : List Expr} {scope : Scope} {own : List (PySem.Str × Nat)} {pos : Pos} {wi : TI} {g : TG} {tt : TT} {te : TE}
theorem pe_bag (hc : X.calm = true) (hN : X.N.Nodup) (hi : PI X tg iter wi) (ok : BlkOk X.N X.env.scope scope own)
    (hg : ∀ (s : Shared) (H : Hp) (C : Addr) (cl : List (PySem.Str × Addr)) (fp : List Addr), PG (X.blk s H scope (compEnvC scope cl C X.env) fp) tg g) (ht : ∀ (s : Shared) (H : Hp) (C : Addr) (cl : List (PySem.Str × Addr)) (fp : List Addr), PTs (X.blk s H scope (compEnvC scope cl C X.env) fp) ifs tt)
    (he : ∀ (s : Shared) (H : Hp) (C : Addr) (cl : List (PySem.Str × Addr)) (fp : List Addr), PE (X.blk s H scope (compEnvC scope cl C X.env) fp) elt te) (hs : ∀ x, foldedSetIterable iter X.env x = pure x := by intro _; rfl) :
    PE X (.SetComp elt [⟨tg, iter, ifs, 0⟩] scope pos) (tBag X.prog X.w wi g tt te (own.map (·.2))) := by
  refine ⟨fun pins s σ H Q I h => ?_⟩
  rw [PpSet.eval_SetComp]
  refine wpAny_comprehension_free (use := none) rfl hs (closure_ok fun y hy e => (ok.free y hy e).elim (fun k => I.ok.has _ (.inl k)) fun k => I.ok.has _ (.inr k)) ok.kind (fun y hy e => by rw [ok.uniq y hy, e]) ?_
  refine thn (hi.run pins s σ H _ I h) fun xv s1 hx => thn hx fun itv s2 ⟨it, fp, tn, J, H2, e, I2, T, st2, f2, q⟩ => ?_
  subst e
  refine PpSet.newSet_ok (newEnv_comp ?_)
  -- the set
  obtain ⟨D, hD⟩ : ∃ D, s2.heap.objs.size = D := ⟨_, rfl⟩
  obtain ⟨W, ⟨m0, w0⟩, turn⟩ := q D (I2.hok.fresh (Nat.le_of_eq hD))
  obtain ⟨s3, hs3⟩ : ∃ s3 : Shared, { s2 with heap := s2.heap.push (emptyObj X.w) } = s3 := ⟨_, rfl⟩
  have hp3 : s3.heap = s2.heap.push (emptyObj X.w) := by rw [← hs3]
  obtain ⟨H3, hH3⟩ : ∃ H3, upd H2 D (BagO X.prog X.w D []) = H3 := ⟨_, rfl⟩
  have I3 : Inv X pins σ H3 s3 := by
    rw [← hs3, ← hH3]
    exact I2.laid (t' := s2.toks) (fun b o e => Heap.get?_push_of_some _ e) (Nat.le_of_eq hD) (bagO_ok (empty_bg (by rw [← hD]; exact Heap.get?_push_size _ rfl)))
  have old : ∀ b ∈ fp, b < s2.heap.objs.size := fun b hb => by
    obtain ⟨o, e, _⟩ := T.obj _ _ st2 b hb
    exact Heap.lt_size e
  have f3 : ∀ b ∈ fp, FpOk X pins H3 b ∧ b < s3.heap.objs.size := fun b hb => by
    have lt := old b hb
    refine ⟨⟨?_, (f2 b hb).2⟩, by rw [hp3, Heap.size_push]; exact Nat.lt_succ_of_lt lt⟩
    rw [← hH3, upd_ne (by rw [← hD]; exact Nat.ne_of_lt lt)]
    exact (f2 b hb).1
  have st3 : tn 0 s3.heap := T.keep _ _ _ st2 fun b _ o e => by rw [hp3]; exact Heap.get?_push_of_some _ e
  rw [hH3] at w0
  -- the block
  have I4 := block_start I3 ok hN f3
  have pg := hg s3 H3 s3.heap.objs.size (cellsFrom (s3.heap.objs.size + 1) scope.names (cloFrom X.env.cells scope.names [])) fp
  have pt := ht s3 H3 s3.heap.objs.size (cellsFrom (s3.heap.objs.size + 1) scope.names (cloFrom X.env.cells scope.names [])) fp
  have pe := he s3 H3 s3.heap.objs.size (cellsFrom (s3.heap.objs.size + 1) scope.names (cloFrom X.env.cells scope.names [])) fp
  have hsz : (s2.heap.push (emptyObj X.w)).objs.size = s3.heap.objs.size := by rw [hp3]
  have goal : ∀ ce : Env, compEnvC scope (cellsFrom (s3.heap.objs.size + 1) scope.names (cloFrom X.env.cells scope.names [])) s3.heap.objs.size X.env = ce →
      codeAny (model X.prog X.w) X.A (.compStart (.SetComp elt [⟨tg, iter, ifs, 0⟩] scope pos) 0 (.ref it) (.ref D) ce) (compPost (model X.prog X.w) X.A X.xe none (EP X pins σ Q) (.ref D) s3.heap.objs.size)
        { s3 with heap := pushCells (s3.heap.push { cls := .type "dict", data := .dict #[] }) scope.names } := fun ce hce => by
    rw [hce] at I4 pg pt pe
    have cl : ce.locals = s3.heap.objs.size := by rw [← hce]; rfl
    obtain ⟨s4, hs4⟩ : ∃ s4 : Shared, { s3 with heap := pushCells (s3.heap.push { cls := .type "dict", data := .dict #[] }) scope.names } = s4 := ⟨_, rfl⟩
    rw [hs4] at I4 ⊢
    have st4 : tn 0 s4.heap := T.keep _ _ _ st3 fun b _ o e => by rw [← hs4]; exact pushCells_keeps _ _ _ _ (Heap.get?_push_of_some _ e)
    have fpok : ∀ {σ' : L2.St} {H' : Hp} {z : Shared}, Inv (X.blk s3 H3 scope ce fp) [] σ' H' z → (∀ b ∈ fp, H' b = none) → ∀ b ∈ fp, FpOk (X.blk s3 H3 scope ce fp) [] H' b := fun {σ' H' z} J n b hb =>
      ⟨n b hb, (J.ok.exf b hb).1, J.ok.exfs b hb, .inl hb, fun x c e => (J.ok.exf b hb).2 x c e, fun p hp => absurd (show p ∈ ([] : List (Addr × Obj)) ++ [] from hp) (by simp)⟩
    refine PpSet.codeAny_compStart_set ?loop (T.self X.A 0 _ _ _ st4 ?loop)
    refine PpSet.compLoopS_any (fun n z => ∃ i H', Inv (X.blk s3 H3 scope ce fp) [] (wipe σ (own.map (·.2))) H' z ∧ tn i z.heap ∧ (∀ b ∈ fp, H' b = none) ∧ W i n H') ?_ m0 ⟨0, H3, I4, st4, fun b hb => (f3 b hb).1.1, w0⟩
    rintro n s5 ⟨i, H5, I5, st5, n5, w5⟩
    rcases turn i n H5 w5 with ⟨stop, done⟩ | ⟨go, Nx, hNx, step⟩
    · refine thnF (T.done (X.blk s3 H3 scope ce fp) rfl rfl rfl hc i [] s5 _ H5 (fun _ _ => False) I5 (fpok I5 n5) st5 stop) fun r s6 ⟨hr, I6⟩ => ?_
      subst hr
      have I7 : Inv X pins σ H5 s6 := I3.call' (ch := fp) I6.os I6.base I6.hok I6.bare fun b hb => ⟨(f3 b hb).1.2.2.2.1, (f3 b hb).1.2.1, (f3 b hb).1.2.2.2.2.1, (f3 b hb).1.2.2.2.2.2⟩
      have free : H5 ce.locals = none := I6.free
      obtain ⟨m, hn, _⟩ := I6.loc
      have hn : s6.heap.Ns ce.locals m := hn
      rw [cl] at hn free
      refine ⟨m, hn, fun h'' sb => ?_⟩
      obtain ⟨p0, p1, p2, p3, p4, p5⟩ := I3.fpOk (Nat.le_refl _) free
      exact ⟨.ref D, H5, I7.turned (t' := s6.toks) (fun b o hb e => (sb.2 b hb).trans e) p0 p1 p3 p4 p5, rfl, done⟩
    · refine thnF (T.item (X.blk s3 H3 scope ce fp) rfl rfl rfl hc i [] s5 _ H5 (fun _ _ => False) I5 (fpok I5 n5) st5 go) fun r s6 ⟨u, hr, h6⟩ => ?_
      subst hr
      refine thnF h6 fun _ s7 ⟨x, H7, I7, r7, y7, st7, n7⟩ => ?_
      refine thnF (pg.run _ s7 _ H7 x u _ (I7.pinned (fpok I7 n7) (T.obj _ _ st7)) r7 (step x H7 y7)) fun _ s8 ⟨σ8, H8, I8, hw8, q8⟩ => ?_
      refine thnF (pt.run _ s8 σ8 H8 _ I8 q8) fun b s9 ⟨H9, I9, q9⟩ => ?_
      have next : ∀ {z : Shared} {H' : Hp}, Inv (X.blk s3 H3 scope ce fp) ([] ++ pinsAt fp s7.heap) σ8 H' z → Nx H' → ∃ m, m < n ∧ ∃ i H', Inv (X.blk s3 H3 scope ce fp) [] (wipe σ (own.map (·.2))) H' z ∧ tn i z.heap ∧ (∀ b ∈ fp, H' b = none) ∧ W i m H' := fun {z H'} J nx => by
        obtain ⟨m', lt, w'⟩ := hNx H' nx
        have pin : ∀ b ∈ fp, ∀ o, s7.heap.get? b = some o → z.heap.get? b = some o ∧ H' b = none := fun b hb o e =>
          let k := J.pin (b, o) (List.mem_append_right _ (List.mem_append_right _ (mem_pinsAt hb e)))
          ⟨k.1, k.2.1⟩
        refine ⟨m', lt, i + 1, H', (J.unpinned (pins := [])).weak (by rw [← hw8, wipe_length]) (fun j v e => ?_), T.keep _ _ _ st7 fun b hb o e => (pin b hb o e).1, fun b hb => ?_, w'⟩
        · rw [← hw8] at e
          exact (wipe_some e).1
        · obtain ⟨o, e, _⟩ := T.obj _ _ st7 b hb
          exact (pin b hb o e).2
      cases b with
      | false =>
        simp only [Bool.false_eq_true, if_false] at q9 ⊢
        exact next I9 q9
      | true =>
        simp only [if_true] at q9 ⊢
        unfold put1 at q9
        refine thnF (pe.run _ s9 σ8 H9 _ I9 q9) fun u s10 ⟨yv, H10, I10, r10, y, ks, ey, at10, room, nx⟩ => ?_
        subst ey
        exact add_bag (X := X.blk s3 H3 scope ce fp) I10 at10 r10 room fun s11 I11 => next I11 nx
  have g0 := goal _ rfl
  show codeAny _ _ (.compStart (.SetComp elt [⟨tg, iter, ifs, 0⟩] scope pos) 0 (.ref it) (.ref s2.heap.objs.size) (compEnvC scope (cellsFrom ((s2.heap.push (emptyObj X.w)).objs.size + 1) scope.names (cloFrom X.env.cells scope.names [])) (s2.heap.push (emptyObj X.w)).objs.size X.env)) (compPost (model X.prog X.w) X.A X.xe none (EP X pins σ Q) (.ref s2.heap.objs.size) (s2.heap.push (emptyObj X.w)).objs.size)
    { s2 with heap := pushCells ((s2.heap.push (emptyObj X.w)).push { cls := .type "dict", data := .dict #[] }) scope.names }
  rw [hsz, hD]
  rw [← hs3] at g0
  simp only [hsz] at g0 ⊢
  exact g0
end
/-- over any walk -/
theorem bag_it {P : Program} {w : World} {J : It} {n : Nat} {G : Hp → Prop} {Y : Nat → Hp → V → Hp → Prop} (wk : L2.Walk J n G Y) {g : TG} {tt : TT} {te : TE} {vs : List Nat} {σ : L2.St} {H1 : Hp} {D : Addr} {Qd : Hp → Prop} (Pv : Nat → Hp → Prop)
    (h0 : Pv 0 (upd H1 D (BagO P w D []))) (hG : ∀ i H, i ≤ n → Pv i H → G H)
    (hs : ∀ i x H H', i < n → Pv i H → Y i H x H' → g x (wipe σ vs) H' fun σ2 H2 => wipe σ2 vs = wipe σ vs ∧ tt σ2 H2 fun b H3 => if b = true then put1 P w D te σ2 H3 (Pv (i + 1)) else Pv (i + 1) H3) (hd : ∀ H, Pv n H → Qd H) :
    ∃ W : Nat → Nat → Hp → Prop, (∃ m, W 0 m (upd H1 D (BagO P w D []))) ∧ ∀ i m H, W i m H → (J.stop i H ∧ Qd H) ∨ (J.go i H ∧ ∃ Nx : Hp → Prop, (∀ H', Nx H' → ∃ m', m' < m ∧ W (i + 1) m' H') ∧
      ∀ x H', J.yld i H x H' → g x (wipe σ vs) H' fun σ2 H2 => wipe σ2 vs = wipe σ vs ∧ tt σ2 H2 fun b H3 => if b = true then put1 P w D te σ2 H3 Nx else Nx H3) := by
  refine ⟨fun i m H => i + m = n ∧ Pv i H, ⟨n, Nat.zero_add _, h0⟩, fun i m H ⟨e, p⟩ => ?_⟩
  have c := hG i H (by omega) p
  cases m with
  | zero =>
    obtain rfl : i = n := e
    exact .inl ⟨wk.stops H c, hd H p⟩
  | succ m => exact .inr ⟨wk.goes i H (by omega) c, Pv (i + 1), fun H' p' => ⟨m, Nat.lt_succ_self m, by omega, p'⟩, fun x H' y => hs i x H H' (by omega) p (wk.yields i H x H' (by omega) c y)⟩
end Bag


/-! sorted(rows), rows a list or a tuple of (text, int, int) -/
namespace Rng
open PySem PySem.Spec PyProof.Rows L2 SrtO
def ltR (p q : Row) : Bool := if p.1 = q.1 then (if p.2.1 = q.2.1 then decide (p.2.2 < q.2.2) else decide (p.2.1 < q.2.1)) else decide (p.1.cps.toList < q.1.cps.toList)
theorem txt_ne {x y : Str} (h : x ≠ y) : x.cps.toList < y.cps.toList ∨ y.cps.toList < x.cps.toList := by
  by_cases c : x.cps.toList < y.cps.toList
  · exact .inl c
  · by_cases d : y.cps.toList < x.cps.toList
    · exact .inr d
    · exact absurd (str_ext (List.le_antisymm (List.not_lt.mp d) (List.not_lt.mp c))) h
theorem ltR_asym {p q : Row} (h : ltR p q = true) : ltR q p = false := by
  unfold ltR at h ⊢
  by_cases a : p.1 = q.1
  · rw [if_pos a] at h
    rw [if_pos a.symm]
    by_cases b : p.2.1 = q.2.1
    · rw [if_pos b, decide_eq_true_eq] at h
      rw [if_pos b.symm, decide_eq_false_iff_not]
      omega
    · rw [if_neg b, decide_eq_true_eq] at h
      rw [if_neg (Ne.symm b), decide_eq_false_iff_not]
      omega
  · rw [if_neg a, decide_eq_true_eq] at h
    rw [if_neg (Ne.symm a), decide_eq_false_iff_not]
    exact List.lt_asymm h
theorem ltR_eq {p q : Row} (h1 : ltR p q = false) (h2 : ltR q p = false) : p = q := by
  unfold ltR at h1 h2
  by_cases a : p.1 = q.1
  · rw [if_pos a] at h1
    rw [if_pos a.symm] at h2
    by_cases b : p.2.1 = q.2.1
    · rw [if_pos b, decide_eq_false_iff_not] at h1
      rw [if_pos b.symm, decide_eq_false_iff_not] at h2
      obtain ⟨x, y, z⟩ := p
      obtain ⟨x', y', z'⟩ := q
      have : z = z' := by
        show z = z'
        have e1 : ¬ z < z' := h1
        have e2 : ¬ z' < z := h2
        omega
      have a' : x = x' := a
      have b' : y = y' := b
      rw [a', b', this]
    · rw [if_neg b, decide_eq_false_iff_not] at h1
      rw [if_neg (Ne.symm b), decide_eq_false_iff_not] at h2
      omega
  · rw [if_neg a, decide_eq_false_iff_not] at h1
    rw [if_neg (Ne.symm a), decide_eq_false_iff_not] at h2
    exact ((txt_ne a).elim h1 h2).elim
theorem ltR_no {p q : Row} : ltR q p = false ↔ (p.1.cps.toList < q.1.cps.toList ∨ (p.1 = q.1 ∧ (p.2.1 < q.2.1 ∨ (p.2.1 = q.2.1 ∧ p.2.2 ≤ q.2.2)))) := by
  unfold ltR
  by_cases a : q.1 = p.1
  · rw [if_pos a]
    have irr : ¬ p.1.cps.toList < q.1.cps.toList := by rw [a]; exact List.lt_irrefl _
    by_cases b : q.2.1 = p.2.1
    · rw [if_pos b, decide_eq_false_iff_not]
      constructor
      · exact fun h => .inr ⟨a.symm, .inr ⟨b.symm, by omega⟩⟩
      · rintro (h | ⟨_, h | ⟨_, h⟩⟩)
        · exact absurd h irr
        · omega
        · omega
    · rw [if_neg b, decide_eq_false_iff_not]
      constructor
      · exact fun h => .inr ⟨a.symm, .inl (by omega)⟩
      · rintro (h | ⟨_, h | ⟨h, _⟩⟩)
        · exact absurd h irr
        · omega
        · exact absurd h.symm b
  · rw [if_neg a, decide_eq_false_iff_not]
    constructor
    · exact fun h => .inl ((txt_ne a).resolve_left h)
    · rintro (h | ⟨h, _⟩)
      · exact List.lt_asymm h
      · exact absurd h.symm a
theorem ltR_tr {p q r : Row} (h1 : ltR q p = false) (h2 : ltR r q = false) : ltR r p = false := by
  rw [ltR_no] at h1 h2 ⊢
  rcases h1 with h1 | ⟨a1, h1⟩
  · rcases h2 with h2 | ⟨a2, _⟩
    · exact .inl (List.lt_trans h1 h2)
    · exact .inl (a2 ▸ h1)
  · rcases h2 with h2 | ⟨a2, h2⟩
    · exact .inl (a1 ▸ h2)
    · exact .inr ⟨a1.trans a2, by omega⟩
theorem swoR {α : Type} (k : α → Row) : Swo fun v u => ltR (k v) (k u) := ⟨fun _ _ h => ltR_asym h, fun _ _ _ h1 h2 => ltR_tr h1 h2⟩
/-- sorted rows are the only ones of their kind -/
theorem sorted_one : ∀ {as bs : List Row}, as.Perm bs → as.Pairwise (fun p q => ltR q p = false) → bs.Pairwise (fun p q => ltR q p = false) → as = bs
  | [], bs, h, _, _ => (List.nil_perm.mp h).symm
  | a :: as, [], h, _, _ => absurd h.length_eq (by simp)
  | a :: as, b :: bs, h, ha, hb => by
    obtain ⟨a1, a2⟩ := List.pairwise_cons.mp ha
    obtain ⟨b1, b2⟩ := List.pairwise_cons.mp hb
    have e : a = b := by
      have m1 : a ∈ b :: bs := h.mem_iff.mp List.mem_cons_self
      have m2 : b ∈ a :: as := h.mem_iff.mpr List.mem_cons_self
      rcases List.mem_cons.mp m1 with e | m1
      · exact e
      · rcases List.mem_cons.mp m2 with e | m2
        · exact e.symm
        · exact ltR_eq (b1 a m1) (a1 b m2)
    subst e
    rw [sorted_one h.cons_inv a2 b2]
/-! ### at the library's level -/
def IsRow (h : Heap) (v : Value) (r : Row) : Prop := ∃ a o t u x n, v = .ref a ∧ h.get? a = some o ∧ o.cls = .type "tuple" ∧ o.data = .seq #[.str r.1 t, .int r.2.1 u, .int r.2.2 x] n
theorem IsRow.keeps {h h' : Heap} {v : Value} {r : Row} (p : IsRow h v r) (k : ∀ b o, h.get? b = some o → o.cls = .type "tuple" → h'.get? b = some o) : IsRow h' v r := by
  obtain ⟨a, o, t, u, x, n, e, ho, hc, hd⟩ := p
  exact ⟨a, o, t, u, x, n, e, k _ _ ho hc, hc, hd⟩
section
variable {prog : Program} {w : World} {A : Around} {E : Value → Shared → Prop} {s : Shared}
theorem row_cmp {vs : List Value} {k : Value → Row} (hp : ∀ v ∈ vs, IsRow s.heap v (k v)) : SrtO.Cmp prog w A s (tuples' true) (fun p => p.1 ∈ vs) (lt2 fun v u => ltR (k v) (k u)) := by
  intro p q hm hm'
  have h1 := hp _ hm
  have h2 := hp _ hm'
  show wpAny (model prog w) A (keyLt' (tuples' true) p.1 q.1) (fun r s' => s' = s ∧ r = ltR (k p.1) (k q.1)) (fun _ _ => False) s
  unfold ltR
  generalize k p.1 = r at h1 ⊢
  generalize k q.1 = r' at h2 ⊢
  obtain ⟨x, y, z⟩ := r
  obtain ⟨x', y', z'⟩ := r'
  obtain ⟨a, o, t, u, m, n, e, ho, hc, hd⟩ := h1
  obtain ⟨a', o', t', u', m', n', e', ho', hc', hd'⟩ := h2
  rw [e, e']
  refine PySem.W.kat_lt ho hd ho' hd' ?_
  show PySem.W.KatLex prog w A true (decide (3 < 3)) _ [(.str x t, .str x' t'), (.int y u, .int y' u'), (.int z m, .int z' m')] 0 s
  refine PySem.W.kat_cons (SeqAt.EqAt.str_str x t x' t' prog w _ _ ?_)
  refine PySem.W.kat_go (fun e1 => ?_) (fun e1 => ?_)
  · have ex : x = x' := by simpa using e1
    refine PySem.W.kat_yes (PySem.W.kat_cons (SeqAt.EqAt.int_int y u y' u' prog w _ _ ?_))
    refine PySem.W.kat_go (fun e2 => ?_) (fun e2 => ?_)
    · have ey : y = y' := by simpa using e2
      refine PySem.W.kat_yes (PySem.W.kat_cons (SeqAt.EqAt.int_int z m z' m' prog w _ _ ?_))
      refine PySem.W.kat_go (fun e3 => ?_) (fun e3 => ?_)
      · have ez : z = z' := by simpa using e3
        refine PySem.W.kat_yes (PySem.W.kat_nil ⟨rfl, ?_⟩)
        show decide (3 < 3) = _
        rw [if_pos ex, if_pos ey, ez]
        simp
      · refine PySem.W.kat_no (PySem.W.kat_one _ _ (PyProof.Rows.lt_int ?_))
        refine (show s = s ∧ decide (z < z') = _ from ⟨rfl, ?_⟩)
        rw [if_pos ex, if_pos ey]
    · have ey : ¬ y = y' := by simpa using e2
      refine PySem.W.kat_no (PySem.W.kat_one _ _ (PyProof.Rows.lt_int ?_))
      refine (show s = s ∧ decide (y < y') = _ from ⟨rfl, ?_⟩)
      rw [if_pos ex, if_neg ey]
  · have ex : ¬ x = x' := by simpa using e1
    refine PySem.W.kat_no (oneLt_str ?_)
    refine ⟨rfl, ?_⟩
    rw [if_neg ex]
theorem row_firsts {h : Heap} : ∀ {vs : List Value}, (∀ v ∈ vs, ∃ r, IsRow h v r) → ∃ fs : List Value, PySem.W.KatTups h vs fs ∧ fs.length = vs.length ∧ ∀ f ∈ fs, ∃ x t, f = Value.str x t
  | [], _ => ⟨[], PySem.W.KatTups.nil, rfl, fun _ hm => (nomatch hm)⟩
  | v :: vs, hp => by
    obtain ⟨fs, h1, h2, h3⟩ := row_firsts (vs := vs) fun u hm => hp u (List.mem_cons_of_mem _ hm)
    obtain ⟨r, a, o, t, u, x, n, rfl, ho, hc, hd⟩ := hp v List.mem_cons_self
    exact ⟨.str r.1 t :: fs, PySem.W.KatTups.cons ho hc hd rfl h1, by rw [List.length_cons, List.length_cons, h2], fun f hm => (List.mem_cons.mp hm).elim (fun e => ⟨_, _, e⟩) (h3 f)⟩
theorem rows_sortable {a : Addr} {vs : List Value} {k : Value → Row} (h0 : 0 < vs.length) (hp : ∀ v ∈ vs, IsRow s.heap v (k v)) (ha : ∀ o, s.heap.get? a = some o → o.cls ≠ .type "tuple") : SortableO prog w A s a vs fun v u => ltR (k v) (k u) := by
  intro h' keep
  have hp' : ∀ v ∈ vs, IsRow h' v (k v) := fun v hm => (hp v hm).keeps fun b o e c => keep b o (fun z => ha o (z ▸ e) c) e
  obtain ⟨fs, h1, h2, h3⟩ := row_firsts fun v hm => ⟨_, hp' v hm⟩
  refine ⟨tuples' true, fun Q E hq => ?_, row_cmp hp'⟩
  refine PySem.W.kat_kind (T := .type "str") h1 (by omega) (fun f hm => ?_) (by rfl) ?_
  · obtain ⟨x, t, rfl⟩ := h3 f hm
    exact PySem.W.Looks.now
  · have e : (Value.type "str" != Value.type "tuple") = true := by first | decide +kernel | rfl | decide
    rw [e]
    exact hq
/-- a list or tuple gathered: a new list behind all that stands -/
theorem gather {l : Addr} {T : String} {o : Obj} {us : Array Value} {n : Nat} {Q : List Value → Shared → Prop} (hT : T = "list" ∨ T = "tuple") (ho : s.heap.get? l = some o) (hc : o.cls = .type T) (hd : o.data = .seq us n) (hz : us.size ≤ sizeLine)
    (h : ∀ h', (∀ b u, s.heap.get? b = some u → h'.get? b = some u) → s.heap.objs.size ≤ h'.objs.size → Q us.toList { s with heap := h' }) : wpAny (model prog w) A (collect (.ref l)) Q E s := by
  unfold collect
  refine wpAny_bind (wpAny_runValue (codeAny_builtin PySem.F.entry_proto_collect ?_))
  rw [Around.under_plainId PySem.F.plain_proto_collect _]
  show wpAny _ A.in1 (newList [] >>= fun z => again (.builtin "list.__iadd__" ⟨[z, .ref l], []⟩)) _ _ s
  refine wpAny_bind (wpAny_newObj_type (wpAny_pure ⟨plainId_quiet PySem.F.plain_list_iadd _, codeAny_builtin PySem.F.entry_list_iadd ?_⟩))
  rw [Around.under_plainId PySem.F.plain_list_iadd _]
  obtain ⟨h1, e1⟩ : ∃ h1, s.heap.push { cls := .type "list", data := .seq ([] : List Value).toArray } = h1 := ⟨_, rfl⟩
  have new : h1.get? s.heap.objs.size = some { cls := .type "list", data := .seq #[] 0 } := by rw [← e1]; exact Heap.get?_push_size _ rfl
  have k1 : ∀ b u, s.heap.get? b = some u → h1.get? b = some u := fun b u e => by rw [← e1]; exact Heap.get?_push_of_some _ e
  have z1 : h1.objs.size = s.heap.objs.size + 1 := by rw [← e1]; exact size_push' _ _
  show wpAny _ A.in1 (Builtin.List.listExtendWith (.ref s.heap.objs.size) (.ref l) (.ref s.heap.objs.size)) _ _ _
  rw [e1]
  have fin : wpAny (model prog w) A (match Value.ref s.heap.objs.size with
      | Value.ref a => do
        match (← load a).data with
          | Data.seq xs _ => pure xs.toList
          | _ => unsupported "internal:collect"
      | _ => unsupported "internal:collect") Q E { s with heap := h1.update s.heap.objs.size (Obj.mapSeq (· ++ us)) } := by
    show wpAny _ A (load s.heap.objs.size >>= _) _ _ _
    refine wpAny_bind (wpAny_load (Heap.get?_update_self (Obj.mapSeq (· ++ us)) new rfl) (wpAny_pure ?_))
    show Q ((#[] : Array Value) ++ us).toList _
    rw [show ((#[] : Array Value) ++ us).toList = us.toList by simp]
    exact h _ (fun b u e => (Heap.get?_update_other _ _ (Nat.ne_of_gt (Heap.lt_size e))).trans (k1 b u e)) (by rw [Heap.size_update, z1]; exact Nat.le_succ _)
  refine wpAny_mono (wpAny_extend_seq (hsz := hz) (A := A) (R := fun r z => r = .ok (.ret (.ref s.heap.objs.size)) ∧ z = { s with heap := h1.update s.heap.objs.size (Obj.mapSeq (· ++ us)) }) (s := { s with heap := h1 }) _ l _ 0 hT new (k1 _ _ ho) hc hd ⟨rfl, rfl⟩) (fun f z hz => ?_) fun e z hz => absurd hz.1 (by simp)
  cases f with
  | done f =>
    obtain ⟨e, rfl⟩ := hz
    cases e
    exact fin
  | again c => exact ⟨hz.1, codeAny_mono hz.2 fun r y hr => by obtain ⟨rfl, rfl⟩ := hr; exact fin⟩
/-- sorted of a list or tuple of rows -/
theorem sorted_rows {l : Addr} {T : String} {o : Obj} {vs : List Value} {n : Nat} {k : Value → Row} {Q : Value → Shared → Prop} (hT : T = "list" ∨ T = "tuple") (ho : s.heap.get? l = some o) (hc : o.cls = .type T) (hd : o.data = .seq vs.toArray n) (hz : vs.length ≤ sizeLine) (hp : ∀ v ∈ vs, IsRow s.heap v (k v))
    (h : ∀ (h' : Heap) (d : Addr) (out : List Value), Srtd (fun v u => ltR (k v) (k u)) out → out.Perm vs → (∀ b o, s.heap.get? b = some o → h'.get? b = some o) → s.heap.objs.size ≤ d → (∃ c, h'.get? d = some (seqObj "list" out.toArray c)) → Q (.ref d) { s with heap := h' }) :
    wpAny (model prog w) A (call (.builtin "sorted") [.ref l]) Q E s := by
  refine Calls.call_function_entry kind_sorted plain_sorted entry_sorted (args_sorted1 _) ?_
  unfold Builtin.«sorted»
  refine wpAny_bind (m := checkCount "sorted" 1 1 _) (wpAny_pure ?_)
  refine wpAny_bind (gather hT ho hc hd (by rw [List.size_toArray]; exact hz) fun h1 k1 sz => ?_)
  rw [List.toList_toArray]
  refine wpAny_bind (wpAny_newList ?_ hz)
  have ol : (h1.push (seqObj "list" vs.toArray 0)).get? h1.objs.size = some (seqObj "list" vs.toArray 0) := Heap.get?_push_size _ rfl
  refine wpAny_bind (wpAny_holding (wpAny_call_entry slot_list_sort ⟨_, ol, rfl⟩ entry_list_sort (list_sort_ord (swoR k) ol hz (fun h2 => ?_) fun out hs hb => ⟨_, rfl, ?_⟩) (args_list_sort _)))
  · refine rows_sortable (s := { s with heap := h1.push (seqObj "list" vs.toArray 0) }) (by omega) (fun v hm => (hp v hm).keeps fun b o e _ => Heap.get?_push_of_some _ (k1 b o e)) fun o e c => ?_
    have e' : some o = some (seqObj "list" vs.toArray 0) := e.symm.trans ol
    cases e'
    exact absurd (Value.type.inj c) (by decide)
  · refine wpAny_pure ⟨_, rfl, h _ _ out hs hb.perm (fun b u e => ?_) sz (sortedHeap_at ol)⟩
    have lt := Heap.lt_size (k1 b u e)
    show (sortedHeap (h1.push (seqObj "list" vs.toArray 0)) h1.objs.size vs _).get? b = some u
    rw [sortedHeap_old (Nat.ne_of_lt lt) (by rw [size_push']; exact Nat.lt_succ_of_lt lt)]
    exact Heap.get?_push_of_some _ (k1 b u e)
end
/-! ### the rule -/
def rowAtV (H : Hp) : V → Row
  | .ref p => match H p with
    | some (.tup [.str z, .int t, .int a]) => (z, t, a)
    | _ => (Str.empty, 0, 0)
  | _ => (Str.empty, 0, 0)
theorem rowAtV_is {H : Hp} {p : Addr} {r : Row} (e : H p = some (.tup (rowV r))) : rowAtV H (.ref p) = r := by
  show (match H p with | some (.tup [.str z, .int t, .int a]) => (z, t, a) | _ => (Str.empty, 0, 0)) = r
  rw [e]
  rfl
theorem tups_rows {H : Hp} {vs : List V} {rs : List Row} (h : TupsAt rowV H vs rs) : rs = vs.map (rowAtV H) := by
  induction h with
  | nil => rfl
  | cons e _ ih => rw [List.map_cons, rowAtV_is e, ← ih]
theorem tups_refs {H : Hp} {vs : List V} {rs : List Row} (h : TupsAt rowV H vs rs) : ∀ v ∈ vs, ∃ t, v = V.ref t := by
  induction h with
  | nil => exact fun v z => (nomatch z)
  | cons e _ ih => exact fun v z => (List.mem_cons.mp z).elim (fun e => ⟨_, e⟩) (ih v)
def rSortRows (K : PySem.W.Frag) : List V → Hp → VK → Prop := fun vs H Q => ∃ (a : Addr) (xs : List V) (rs : List Row), vs = [V.ref a] ∧ (SqL K H a xs ∨ SqT K H a xs) ∧ TupsAt rowV H xs rs ∧
  ∀ (ys : List V) (ss : List Row) (p : Addr), ss.Perm rs → ss.Pairwise (fun q r => ltR r q = false) → TupsAt rowV H ys ss → H p = none → Q (.ref p) (upd H p (.lst ys))
section
variable {X : Cx}
theorem cr_sortRows : CallR X (.builtin "sorted") (rSortRows X.K) := by
  intro pins s σ H vs us Q I r h
  obtain ⟨a, xs, rs, rfl, hs, ht, q⟩ := h
  rw [Vals.ref1 r]
  have got : ∃ (T : String) (o : Obj) (its : List Value) (n : Nat), (T = "list" ∨ T = "tuple") ∧ s.heap.get? a = some o ∧ o.cls = .type T ∧ o.data = .seq its.toArray n ∧ Vals xs its ∧ its.length ≤ sizeLine := by
    rcases hs with hs | hs
    · obtain ⟨its, rv, pl, hz⟩ := I.list hs
      obtain ⟨o, ho, hc, n, hd⟩ := pl.isList
      exact ⟨_, o, its, n, .inl rfl, ho, hc, hd, rv, by rw [← rv.length]; exact hz⟩
    · obtain ⟨its, rv, ⟨o, ho, hc, n, hd⟩, hz⟩ := I.tuple hs
      exact ⟨_, o, its, n, .inr rfl, ho, hc, hd, rv, by rw [← rv.length]; exact hz⟩
  obtain ⟨T, o, its, n, hT, ho, hc, hd, rv, hz⟩ := got
  obtain ⟨e1, e2⟩ := refs_back rv (tups_refs ht)
  have row : ∀ v ∈ its, IsRow s.heap v (rowAtV H (backV v)) := fun v hv => by
    obtain ⟨t, rfl⟩ := e2 v hv
    have hm : V.ref t ∈ xs := by rw [e1]; exact List.mem_map.mpr ⟨_, hv, rfl⟩
    obtain ⟨i, hi⟩ := List.getElem?_of_mem hm
    obtain ⟨r, q, _, eq, hq⟩ := ht.get hi
    cases eq
    obtain ⟨_, its2, r2, o2, ho2, hc2, n2, hd2⟩ := I.hok _ _ hq
    have hk : rowAtV H (backV (.ref t)) = r := rowAtV_is hq
    rw [hk]
    cases r2 with
    | cons r1 r2 =>
      cases r2 with
      | cons r2 r3 =>
        cases r3 with
        | cons r3 r4 =>
          cases r4
          obtain ⟨t1, rfl⟩ := r1
          obtain ⟨t2, rfl⟩ := r2
          obtain ⟨t3, rfl⟩ := r3
          exact ⟨t, o2, t1, t2, t3, n2, rfl, ho2, hc2, hd2⟩
  refine sorted_rows hT ho hc hd hz row fun h' d out so pm kp hd' hn => ?_
  have h3 : ∀ u ∈ out, ∃ a, u = Value.ref a := fun u hu => e2 u (pm.mem_iff.mp hu)
  obtain ⟨c, hn⟩ := hn
  have pv : (out.map backV).Perm xs := by
    rw [e1]
    exact pm.map backV
  obtain ⟨ss, ps, ts⟩ := ht.perm pv
  refine ⟨.ref d, upd H d (.lst (out.map backV)), I.laid (t' := s.toks) kp hd' ⟨?_, out, c, vals_back h3, hn⟩, rfl, q _ ss d ps ?_ ts (I.hok.fresh hd')⟩
  · rw [List.length_map, pm.length_eq]
    exact hz
  · rw [tups_rows ts, List.map_map]
    exact List.pairwise_map.mpr so
end
end Rng


/-! for i, x in enumerate(t), t a tuple -/
namespace En1
open PySem PySem.Spec PyProof.Rows L2
open Sem (wp)
open AutoSeq1 (wpAny_loadPart')
theorem meets_new (l : Addr) (us : Array Value) (n : Nat) (dct : Option Addr) (sl : Array (Option Value)) :
    Meets (Builtin.«enumerate.__new__» ⟨[.type "enumerate", .ref l], []⟩) (fun _ R s => s.heap.get? l = some { cls := .type "tuple", dict := dct, data := .seq us n, slots := sl } ∧
      R (.ok (.ret (.ref (s.heap.push { cls := .type "tuple_iterator", data := .fields #[.ref l, .int 0 0] }).objs.size)))
        { s with heap := (s.heap.push { cls := .type "tuple_iterator", data := .fields #[.ref l, .int 0 0] }).push { cls := .type "enumerate", data := .fields #[.none, .bool false, .ref s.heap.objs.size, rawInt 0, .none, .none] } }) :=
  .of_wp fun prog w A R s h => by
    obtain ⟨hp, g, d, tk, os⟩ := s
    obtain ⟨hl, h⟩ := h
    have hsub := sub_enumerate
    have hL : Heap.IsTuple (Shared.heap ⟨hp, g, d, tk, os⟩) l us := ⟨_, hl, rfl, n, rfl⟩
    wp_walk using wpAny_loadPart' hl
    refine wpAny_stack_any fun st => wpAny_pure ?_
    split
    · rename_i c _ _ _ _ _
      cases (c == Value.type "enumerate")
      · wp_walk using wpAny_loadPart' hl, wpAny_pyIter_tuple hL
        exact ⟨_, rfl, h⟩
      · wp_walk using wpAny_loadPart' hl, wpAny_pyIter_tuple hL
        exact ⟨_, rfl, h⟩
    · wp_walk using wpAny_loadPart' hl, wpAny_pyIter_tuple hL
      exact ⟨_, rfl, h⟩
section
variable {prog : Program} {w : World} {A : Around} {E : Value → Shared → Prop} {s : Shared}
theorem call_enum {l : Addr} {us : Array Value} {Q : Value → Shared → Prop} (hL : s.heap.IsTuple l us)
    (h : ∀ h', IsEnum h' (s.heap.objs.size + 1) s.heap.objs.size 0 .none → h'.IsTupleIter s.heap.objs.size l 0 → (∀ b o, s.heap.get? b = some o → h'.get? b = some o) → Q (.ref (s.heap.objs.size + 1)) { s with heap := h' }) :
    wpAny (model prog w) A (call (.type "enumerate") [.ref l]) Q E s := by
  obtain ⟨⟨c, dct, dt, sl⟩, hl, hc, n, hd⟩ := hL
  obtain rfl : c = .type "tuple" := hc
  obtain rfl : dt = .seq us n := hd
  refine callType_new PySem.F.called_enumerate (by decide) (PySem.F.typeCall_enumerate_1 _) (PySem.F.newCall_enumerate_1 _) (fun obj => PySem.F.args_object_init_2 obj _) PySem.F.entry_enumerate_new (meets_new l us n dct sl) ⟨hl, ?_⟩
  have hz : (s.heap.push { cls := .type "tuple_iterator", data := .fields #[.ref l, .int 0 0] }).objs.size = s.heap.objs.size + 1 := Heap.size_push ..
  show _ ∧ _
  rw [hz]
  have he : IsEnum ((s.heap.push { cls := .type "tuple_iterator", data := .fields #[.ref l, .int 0 0] }).push { cls := .type "enumerate", data := .fields #[.none, .bool false, .ref s.heap.objs.size, rawInt 0, .none, .none] }) (s.heap.objs.size + 1) s.heap.objs.size 0 .none := by
    have q := Heap.get?_push_size (s.heap.push { cls := .type "tuple_iterator", data := .fields #[.ref l, .int 0 0] }) (o := { cls := .type "enumerate", data := .fields #[.none, .bool false, .ref s.heap.objs.size, rawInt 0, .none, .none] }) rfl
    rw [hz] at q
    exact q
  exact ⟨⟨_, he, rfl⟩, h _ he ⟨_, Heap.get?_push_of_some _ (Heap.get?_push_size _ rfl), rfl, rfl⟩ fun b o x => Heap.get?_push_of_some _ (Heap.get?_push_of_some _ x)⟩
end
/-- the turns: a new pair of the number and the item -/
def Itn (K : PySem.W.Frag) (a : Addr) : It :=
  ⟨fun i H => ∃ (xs : List V) (x : V), SqT K H a xs ∧ xs[i]? = some x, fun i H v H' => ∃ T x, v = .ref T ∧ H T = none ∧ H' = upd H T (.tup [.int (i : Nat), x]) ∧ ∀ xs, SqT K H a xs → xs[i]? = some x, fun i H => ∃ xs : List V, SqT K H a xs ∧ xs.length ≤ i⟩
theorem turn_enumT {P : Program} {w : World} {K : PySem.W.Frag} {elts : List Expr} {kk : Nat} {tpos : Pos} (a e it : Addr) :
    Turn P w K (.Tuple elts kk tpos) (Itn K a) [e, it] e (fun i h => (∃ old, IsEnum h e it ((i : Nat) : Int) old) ∧ h.IsTupleIter it a i ∧ e ≠ it) where
  mem := by simp
  obj := fun i h st b hb => by
    obtain ⟨⟨old, he⟩, ⟨o, ho, hc, hd⟩, _⟩ := st
    rcases (show b = e ∨ b = it by simpa using hb) with rfl | rfl
    · exact ⟨_, he, fun v q => nomatch q⟩
    · exact ⟨o, ho, fun v q => by rw [hd] at q; cases q⟩
  keep := fun i h h' st k => let ⟨⟨old, he⟩, hi, hne⟩ := st; ⟨⟨old, k e (by simp) _ he⟩, hi.at fun o q => k it (by simp) o q, hne⟩
  item := by
    intro X hP hw hK hc i pins s σ H E I hf st hg
    subst hP hw hK
    obtain ⟨⟨old, he⟩, hit, hne⟩ := st
    obtain ⟨xs, x, hq, hx⟩ := hg
    obtain ⟨its, rv, p, hz⟩ := I.tuple hq
    obtain ⟨u, hu, ru⟩ := rv.get hx
    have hel : e < s.heap.objs.size := Heap.lt_size he
    have hil : it < s.heap.objs.size := by obtain ⟨_, q, _⟩ := hit; exact Heap.lt_size q
    have tp : s.heap.IsTuple a its.toArray := p
    obtain ⟨oa, ha, hca, _⟩ := tp
    have nea : e ≠ a := fun z => by
      rw [← z, he] at ha
      cases ha
      exact absurd (Value.type.inj hca) (by decide)
    have nia : a ≠ it := fun z => by
      obtain ⟨oi, hi, hci, _⟩ := hit
      rw [← z, ha] at hi
      cases hi
      rw [hca] at hci
      exact absurd (Value.type.inj hci) (by decide)
    have lt : i < its.toArray.size := by simpa using (List.getElem?_eq_some_iff.mp hu).1
    refine wpAny_pyNext_enum_itemD (Draws.tuple (A := X.A.in1) (I.ok.hd hc) it a nia its.toArray) he ⟨hit, p⟩ lt hne (by simp [hne, nea]) fun y h' tk hy ho hit' hT hsz hk => ?_
    have hy' : its[i]? = some y := by simpa using hy
    rw [hu] at hy'
    obtain rfl := Option.some.inj hy'
    refine ⟨_, rfl, wpAny_letOwnedTupleGo_enum (s := { s with heap := h', toks := tk + 1 }) ho fun h'' he' sb => ?_⟩
    have hT2 : h''.get? s.heap.objs.size = some { cls := .type "tuple", data := .seq #[.int i tk, u] } := (sb.2 _ (Nat.ne_of_gt hel)).trans hT
    have new : ObjOk X.prog X.w (upd H s.heap.objs.size (.tup [.int (i : Nat), x])) h'' s.heap.objs.size (.tup [.int (i : Nat), x]) := ⟨by show 2 ≤ sizeLine; decide, [.int i tk, u], .cons ⟨_, rfl⟩ (.cons ru .nil), ⟨_, hT2, rfl, _, rfl⟩⟩
    have I1 : Inv X pins σ (upd H s.heap.objs.size (.tup [.int (i : Nat), x])) { s with heap := h'', toks := tk + 1 } :=
      I.turnedNew (ch := [e, it]) (fun b ob hb q => (sb.2 b (fun z => hb (by simp [z]))).trans (hk b ob (fun z => hb (by simp [z])) (fun z => hb (by simp [z])) q)) hf (Nat.le_refl _) new
    refine ⟨.ref s.heap.objs.size, _, I1, rfl, ⟨_, x, rfl, I.hok.fresh (Nat.le_refl _), rfl, fun ys hy => by rw [I.tuple_inj hy hq]; exact hx⟩, ⟨⟨u, ?_⟩, hit'.1.at fun o q => (sb.2 it (Ne.symm hne)).trans q, hne⟩, fun b hb => ?_⟩
    · rw [show ((i + 1 : Nat) : Int) = (i : Int) + 1 by omega]
      exact he'
    · have hb' : b < s.heap.objs.size := by
        rcases (show b = e ∨ b = it by simpa using hb) with rfl | rfl
        · exact hel
        · exact hil
      rw [upd_ne (Nat.ne_of_lt hb')]
      exact (hf b hb).1
  done := by
    intro X hP hw hK hc i pins s σ H E I hf st hg
    subst hP hw hK
    obtain ⟨⟨old, he⟩, hit, hne⟩ := st
    obtain ⟨xs, hq, hx⟩ := hg
    obtain ⟨its, rv, p, hz⟩ := I.tuple hq
    obtain ⟨f0, f1, f2, f3, f4, f5⟩ := hf it (by simp)
    have hl := rv.length
    unfold pyNext
    have hT : s.TypeIs (.ref e) "enumerate" := ⟨_, he, rfl⟩
    refine wpAny_bind (wpAny_attempt (wpAny_callSpecial?_slot (name := Str.ofString "__next__") hT PySem.F.slot_enumerate_next (wpAny_call_entry PySem.F.slot_enumerate_next hT PySem.F.entry_enumerate_next ?_ (PySem.F.args_enumerate_next_1 _))))
    show wpAny _ _ (field (.ref e) 2 >>= _) _ _ _
    refine wpAny_bind (wpAny_field he rfl (x := .ref it) rfl ?_)
    refine wpAny_bind (wpAny_nextOf_tuple_end (I.ok.hd hc) hit p (by simp; omega) fun h' x he' hx' => ?_)
    obtain ⟨o, ho, hc'⟩ := hx'
    refine wpAny_bind (wpAny_isInstance (T := "StopIteration") (b := true) ⟨o, ho, hc'⟩ isSubtype_stop (wpAny_pure ?_))
    exact ⟨rfl, I.turned (t' := s.toks) (fun b o hb q => he' b o hb q) f0 f1 f3 f4 f5⟩
  self := fun A i s Q E st h => let ⟨⟨_, he⟩, _⟩ := st; wpAny_pyIter_enum he h
def iEnumT (K : PySem.W.Frag) (ta : TA) : TI := fun σ H R => ta σ H fun vs H1 => ∃ a xs, vs = [.ref a] ∧ SqT K H1 a xs ∧ R (Itn K a) H1
theorem pi_enumT {X : Cx} {e : Expr} {ta : TA} {p pos tpos : Pos} {elts : List Expr} {kk : Nat} (hg : Gl X "enumerate") (hm : X.mg "enumerate" = none) (ha : PA X [e] ta) (hs : starEach [e] X.env = [(false, eval e X.env)] := by rfl) :
    PI X (.Tuple elts kk tpos) (.Call (.Name "enumerate" p) [e] [] pos) (iEnumT X.K ta) := by
  refine ⟨fun pins s σ H R I h => Call_ (ld_blt I hg hm boot_enumerate (PyProof.Rows.callWith_type1 (thn (ha.run pos pins s σ H _ I h) fun us s1 ⟨vs, H1, I1, r1, a, xs, ex, hq, q⟩ => ?_) hs rfl))⟩
  subst ex
  rw [Vals.ref1 r1]
  obtain ⟨its, rv, p', hz⟩ := I1.tuple hq
  refine call_enum p' fun h' he hit hk => wpAny_pyIter_enum he ?_
  refine ⟨s1.heap.objs.size + 1, [s1.heap.objs.size + 1, s1.heap.objs.size], _, _, H1, rfl, I1.kept (t' := s1.toks) hk, turn_enumT a (s1.heap.objs.size + 1) s1.heap.objs.size, ⟨⟨.none, he⟩, hit, Nat.succ_ne_self _⟩, fun b hb => ?_, q⟩
  have hle : s1.heap.objs.size ≤ b := by
    rcases (show b = s1.heap.objs.size + 1 ∨ b = s1.heap.objs.size by simpa using hb) with rfl | rfl
    · exact Nat.le_succ _
    · exact Nat.le_refl _
  exact I1.fpOk hle (I1.hok.fresh hle)
theorem walk_enumT {K : PySem.W.Frag} {a : Addr} {xs : List V} : Walk (Itn K a) xs.length (fun H => SqT K H a xs) (YPair (fun i => some (.int (i : Nat))) (fun i => xs[i]?)) := by
  refine ⟨fun i _ hi q => ⟨xs, xs[i], q, by simp [hi]⟩, fun _ q => ⟨xs, q, Nat.le_refl _⟩, fun i H v H' _ q y => ?_⟩
  obtain ⟨T, x, h1, h2, h3, h4⟩ := y
  exact ⟨T, .int (i : Nat), x, h1, h2, h3, rfl, h4 xs q⟩
end En1


/-! instances of an own class: x in o, len(o), bool(o), repr(o), o == y, o != y by the class's own defs -/
namespace Own1
open PySem PySem.Spec PyProof.Rows L2
section
variable {prog : Program} {w : World} {A : Around} {E : Value → Shared → Prop} {s : Shared} {K : PySem.W.Frag} {x C f : Addr} {ox : Obj} {od : Option Obj} {b tb : Value}
/-- len as it is run within a truth test -/
theorem len_code {Q : Value → Shared → Prop} (X : K.In s.heap) (I : PySem.W.InstAt s.heap x ox C od) (hs : PySem.W.findIn K (.ref C) "__len__" = some (some (.ref f))) (hf : PySem.W.isFn K (.ref f) = true)
    (h : wpAny (model prog w) A.in1 (call (.ref f) [.ref x]) (fun r z => ∃ (n : Nat) (t : Tok), r = .int n t ∧ (n : Int) < 2 ^ 62 ∧ ∀ u k, Q (.int n u) { z with toks := k }) E s) :
    codeAny (model prog w) A (.builtin "len" ⟨[.ref x], []⟩) (wants Q E) s := by
  refine codeAny_builtin entry_len ?_
  rw [Around.under_plainId plain_len _]
  unfold Builtin.«len»
  refine wpAny_bind (m := oneArg "len" _) (wpAny_pure ?_)
  refine wpAny_bind (m := callSpecial? (.ref x) (Str.ofString "__len__")) (PySem.W.special_fn X I hs (beq_iff_eq.mp hf) (wpAny_mono h (fun r z ⟨n, t, e, hn, q⟩ => ?_) fun _ _ y => y))
  subst e
  refine wpAny_bind (wpAny_holding (wpAny_pure (wpAny_bind (wpAny_letGo ?_))))
  show wpAny _ _ (if (n : Int) < 0 then _ else _) _ _ _
  rw [if_neg (by omega)]
  show wpAny _ _ (if (n : Int) ≥ 2 ^ 63 then _ else _) _ _ _
  rw [if_neg (by omega)]
  exact wpAny_bind (wpAny_mkInt (wpAny_pure (q _ _)))
/-- the truth of an instance that has a length alone -/
theorem truth_len {Q : Bool → Shared → Prop} (X : K.In s.heap) (I : PySem.W.InstAt s.heap x ox C od) (hb : PySem.W.findIn K (.ref C) "__bool__" = some none) (hs : PySem.W.findIn K (.ref C) "__len__" = some (some (.ref f))) (hf : PySem.W.isFn K (.ref f) = true)
    (h : wpAny (model prog w) A.in1 (call (.ref f) [.ref x]) (fun r z => ∃ (n : Nat) (t : Tok), r = .int n t ∧ (n : Int) < 2 ^ 62 ∧ ∀ k, Q ((n : Int) != 0) { z with toks := k }) E s) : wpAny (model prog w) A (truthy (.ref x)) Q E s := by
  unfold truthy
  refine wpAny_bind (m := callSpecial? (.ref x) (Str.ofString "__bool__")) (wpAny_bind (wpAny_bind (I.type.here ((PySem.W.looks_findIn X hb).here (wpAny_pure ?_)))))
  refine wpAny_bind (wpAny_bind (I.type.here ((PySem.W.looks_findIn X hs).here ?_)))
  show wpAny _ _ (if (some (Value.ref f)).isNone = true then _ else _) _ _ _
  rw [if_neg (by simp)]
  refine wpAny_bind (wpAny_runValue (len_code (Q := fun v z => wpAny (model prog w) A (match v with | .int n _ => pure (n != 0) | _ => unsupported "internal:truth.len") Q E z) X I hs hf (wpAny_mono h (fun r z ⟨n, t, e, hn, q⟩ => ⟨n, t, e, hn, fun u k => wpAny_pure (q k)⟩) fun _ _ y => y)))
/-- bool(o) -/
theorem bool_own {Q : Value → Shared → Prop} (X : K.In s.heap) (I : PySem.W.InstAt s.heap x ox C od) (hb : PySem.W.findIn K (.ref C) "__bool__" = some none) (hs : PySem.W.findIn K (.ref C) "__len__" = some (some (.ref f))) (hf : PySem.W.isFn K (.ref f) = true)
    (h : wpAny (model prog w) A.in1.in1.in1 (call (.ref f) [.ref x]) (fun r z => ∃ (n : Nat) (t : Tok), r = .int n t ∧ (n : Int) < 2 ^ 62 ∧ ∀ k, Q (.bool ((n : Int) != 0)) { z with toks := k }) E s) : wpAny (model prog w) A (call (.type "bool") [.ref x]) Q E s := by
  refine callType_codes (T := "bool") (Bi := Builtin.«object.__init__») (Q₁ := fun r z => ∃ b : Bool, r = .bool b ∧ Q r z) PySem.F.called_bool (PySem.F.typeCall_bool_1 _) PySem.F.entry_object_init ?_ ?_
  · refine codeAny_of_tree ?_
    show wpAny _ A.in1.in1 (do checkBuiltinCall "bool.__new__" ⟨[.type "bool", .ref x], []⟩; again (.builtin "bool.__new__" ⟨[.type "bool", .ref x], []⟩)) _ _ s
    refine wpAny_bind (wpAny_of_eq (PySem.F.newCall_bool_1 _) (wpAny_pure ⟨plainId_quiet (by decide +kernel) _, codeAny_builtin PySem.F.entry_bool_new ?_⟩))
    rw [Around.under_plainId (by decide +kernel) _]
    unfold Builtin.«bool.__new__»
    have f1 := PySem.F.conv_sub_bool
    refine wpAny_bind (wpAny_of_eq (a := true) (by rfl) ?_)
    refine PySem.W.KFB.if_not rfl ?_
    refine wpAny_bind (wpAny_of_eq (a := true) f1 ?_)
    refine PySem.W.KFB.if_not rfl ?_
    refine wpAny_bind (wpAny_of_eq (a := [Value.ref x]) (by rfl) ?_)
    refine wpAny_bind (truth_len X I hb hs hf (wpAny_mono h (fun r z ⟨n, t, e, hn, q⟩ => ⟨n, t, e, hn, fun k => ?_⟩) fun _ _ y => y))
    exact wpAny_pure ⟨_, rfl, q k⟩
  · rintro obj s₁ ⟨b, rfl, hq⟩
    exact ⟨PySem.typeIs_bool _ _, PySem.F.args_object_init_2 _ _, object_init_meets PySem.F.called_bool.init.lookup PySem.F.called_bool.made (by decide) prog w A.in1 _ s₁ ⟨PySem.typeIs_bool _ _, rfl, hq⟩⟩
/-- a special that is a built-in's -/
theorem bound_bltn {name : Str} {id : String} {args : List Value} {Q : Option Value → Shared → Prop} (X : K.In s.heap) (I : PySem.W.InstAt s.heap x ox C od) (hs : PySem.W.findIn K (.ref C) name = some (some (.builtin id))) (hb : ∀ self, bindSpecial (.builtin id) self = pure (.builtin id, [self]))
    (h : wpAny (model prog w) A (call (.builtin id) (.ref x :: args)) (fun v => Q (some v)) E s) : wpAny (model prog w) A (callSpecialIfBound? (.ref x) name args) Q E s := by
  simp only [callSpecialIfBound?, bindSpecialIfBound?]
  refine wpAny_holding (wpAny_bind (wpAny_bind (wpAny_bind (I.type.here ((PySem.W.looks_findIn X hs).here ?_)))))
  have fin : wpAny (model prog w) A (call (.builtin id) ([.ref x] ++ args) >>= fun v => pure (some v)) Q E s := wpAny_bind (wpAny_mono h (fun v z q => wpAny_pure q) fun _ _ q => q)
  refine wpAny_bind (wpAny_askSetting (wpAny_ite ?_))
  split
  · exact wpAny_bind ((PySem.W.Looks.of_pure (hb _)).here (wpAny_pure (by exact fin)))
  · exact wpAny_tryCatch (wpAny_bind ((PySem.W.Looks.of_pure (hb _)).here (wpAny_pure (by exact fin))))
/-- o != y where the class has == alone -/
theorem ne_own {Q : Value → Shared → Prop} (hu : A.units + 1 < cLine) (X : K.In s.heap) (I : PySem.W.InstAt s.heap x ox C od) (hb : PySem.W.Looks (model prog w) s.heap (typeOf b) tb) (hn : PySem.W.notFirst K C tb = true)
    (hne : PySem.W.findIn K (.ref C) "__ne__" = some (some (.builtin "object.__ne__"))) (hs : PySem.W.findIn K (.ref C) "__eq__" = some (some (.ref f))) (hf : PySem.W.isFn K (.ref f) = true) (hm : PySem.W.mroIn K C (.type "object") = some true)
    (h : wpAny (model prog w) A.in1 (call (.ref f) [.ref x, b]) (fun r z => ∃ k : Bool, r = .bool k ∧ ∀ t, Q (.bool (!k)) { z with toks := t }) E s) : wpAny (model prog w) A (richCompare .NotEq (.ref x) b) Q E s := by
  have one : wpAny (model prog w) A (tryCompare (.ref x) "__ne__" b) (fun r z => ∃ v, r = some v ∧ Q v z) E s := by
    unfold tryCompare
    refine wpAny_bind (bound_bltn X I hne PySem.F.slot_object_ne.bind (wpAny_call (codeAny_call_builtin PySem.F.slot_object_ne.plain PySem.F.cmpEntry_ne (PySem.W.check_slot (i := "object.__ne__") (owner := "object") (n := "__ne__") (by decide +kernel) (by decide +kernel) (I.type.andThen (PySem.W.looks_mroIn X hm)) (PySem.F.cmpArgs_ne _ _) ?_))))
    unfold Builtin.«object.__ne__»
    refine wpAny_bind (m := slotArgs "__ne__" 1 _) (wpAny_pure ?_)
    refine wpAny_bind (m := cRoomFor _ _) (wpAny_cRoomFor hu ?_)
    refine wpAny_bind (m := callSpecialIfBound? (.ref x) (Str.ofString "__eq__") _) (PySem.W.ifBound_K X I hs hf (wpAny_mono h (fun r z ⟨k, e, q⟩ => ?_) fun _ _ y => y))
    subst e
    refine wpAny_bind (wpAny_truthy_bool (wpAny_pure (wpAny_pure ⟨_, rfl, q z.toks⟩)))
  unfold richCompare
  simp only [oneThing_ref]
  refine wpAny_holding (wpAny_bind (wpAny_cRoomFor (Nat.lt_of_succ_lt hu) ?_))
  rw [cmpInfo_NotEq]
  dsimp only
  refine wpAny_bind (I.type.here (wpAny_bind (hb.here ?_)))
  split
  · rename_i q
    have e : PySem.W.subIn K tb (.ref C) = some false := by
      rcases Bool.or_eq_true_iff.mp hn with e | e
      · rw [beq_iff_eq.mp e] at q; simp at q
      · exact beq_iff_eq.mp e
    refine wpAny_bind ((PySem.W.looks_subIn X e).here ?_)
    simp only [Bool.false_eq_true, if_false]
    exact wpAny_bind (wpAny_mono one (fun r z ⟨v, e, q⟩ => by subst e; exact wpAny_pure q) fun _ _ e => e)
  · refine wpAny_bind (wpAny_pure ?_)
    simp only [Bool.false_eq_true, if_false]
    exact wpAny_bind (wpAny_mono one (fun r z ⟨v, e, q⟩ => by subst e; exact wpAny_pure q) fun _ _ e => e)
end
/-! ### as rules -/
/-- what a class with own dunders has -/
structure Dun (K : PySem.W.Frag) (C : Addr) (m : Str) (f : Addr) : Prop where
  at_ : PySem.W.findIn K (.ref C) m = some (some (.ref f))
  fn : PySem.W.isFn K (.ref f) = true
section
variable {X : Cx} {pins : List (Addr × Obj)} {σ : L2.St} {H : Hp} {s : Shared} {CX : CXT} {n : Nat} {sp : Sp} {E : XK} {C f : Addr}
theorem ins_at {a dx : Addr} {fs : List (Str × V)} (I : Inv X pins σ H s) (h : H a = some (.ins C dx fs)) : ∃ ox od, PySem.W.InstAt s.heap a ox C od := by
  obtain ⟨mA, O, _⟩ := ins_get I.hok h
  obtain ⟨od, J, _⟩ := O.look
  exact ⟨_, _, J⟩
/-- x in o, x not in o -/
def rInO (C : Addr) (sp : Sp) (E : XK) (neg : Bool) : R2 := fun x y H Q => ∃ a dx fs, y = .ref a ∧ H a = some (.ins C dx fs) ∧ sp [y, x] H (fun z H' => ∃ b, z = .bl b ∧ Q (.bl (if neg then !b else b)) H') E
theorem op_inO (d : Dun X.K C "__contains__" f) (F : FnR X.prog X.w X.K X.mg X.base CX n f sp) (hr : Room n X.A) (hx : Passes CX X E) : OpR X (compareOp .In) (rInO C sp E false) := by
  intro pins s σ H x y v u Q I rx ry h
  obtain ⟨a, dx, fs, rfl, ha, q⟩ := h
  cases (show u = Value.ref a from ry)
  obtain ⟨ox, od, J⟩ := ins_at I ha
  obtain ⟨m, hF⟩ := I.fr
  refine PySem.W.in_K hF I.ok.mod.kin J d.at_ d.fn (wpAny_mono (wpAny_call (run_fnR (us := [.ref a, v]) (vs := [.ref a, x]) F hr hx I (.cons rfl (.cons rx .nil)) q)) (fun r z ⟨y, H', I', ry, b, ey, qy⟩ => ?_) fun _ _ y => y)
  subst ey
  cases (show r = Value.bool b from ry)
  exact wpAny_truthy_bool ⟨.bl b, H', I', rfl, qy⟩
theorem op_notInO (d : Dun X.K C "__contains__" f) (F : FnR X.prog X.w X.K X.mg X.base CX n f sp) (hr : Room n X.A) (hx : Passes CX X E) : OpR X (compareOp .NotIn) (rInO C sp E true) := by
  intro pins s σ H x y v u Q I rx ry h
  obtain ⟨a, dx, fs, rfl, ha, q⟩ := h
  cases (show u = Value.ref a from ry)
  obtain ⟨ox, od, J⟩ := ins_at I ha
  obtain ⟨m, hF⟩ := I.fr
  refine PySem.W.notIn_K hF I.ok.mod.kin J d.at_ d.fn (wpAny_mono (wpAny_call (run_fnR (us := [.ref a, v]) (vs := [.ref a, x]) F hr hx I (.cons rfl (.cons rx .nil)) q)) (fun r z ⟨y, H', I', ry, b, ey, qy⟩ => ?_) fun _ _ y => y)
  subst ey
  cases (show r = Value.bool b from ry)
  exact wpAny_truthy_bool ⟨.bl (!b), H', I', rfl, qy⟩
/-- the callee runs somewhat deeper -/
theorem run_in {A : Around} {Q : VK} {us : List Value} {vs : List V} (F : FnR X.prog X.w X.K X.mg X.base CX n f sp) (hr : Room n A) (e0 : Env0 X.prog X.w X.K X.mg X.base A X.stack s H) (hx : Passes CX X E) (I : Inv X pins σ H s) (r : Vals vs us) (h : sp vs H Q E) :
    wpAny (model X.prog X.w) A (call (.ref f) us) (EP X pins σ Q) X.xe s := wpAny_call (SlX.run_at F hr e0 hx I r h)
/-- len(o) -/
def rLenO (C : Addr) (sp : Sp) (E : XK) : List V → Hp → VK → Prop := fun xs H Q => ∃ a dx fs, xs = [V.ref a] ∧ H a = some (.ins C dx fs) ∧ sp [.ref a] H (fun z H' => ∃ k : Nat, z = .int k ∧ (k : Int) < 2 ^ 62 ∧ Q (.int k) H') E
theorem call_lenO (d : Dun X.K C "__len__" f) (F : FnR X.prog X.w X.K X.mg X.base CX n f sp) (hr : Room (n + 1) X.A) (hx : Passes CX X E) : CallR X (.builtin "len") (rLenO C sp E) := by
  intro pins s σ H xs us Q I r h
  obtain ⟨a, dx, fs, rfl, ha, q⟩ := h
  rw [Vals.ref1 r]
  obtain ⟨ox, od, J⟩ := ins_at I ha
  obtain ⟨m, hF⟩ := I.fr
  refine PySem.W.len_K hF I.ok.mod.kin J d.at_ d.fn (wpAny_mono (run_in (us := [.ref a]) (vs := [.ref a]) F hr.in1 I.env0.in1 hx I (.cons rfl .nil) q) (fun r z ⟨y, H', I', ry, k, ey, hk, qy⟩ => ?_) fun _ _ y => y)
  subst ey
  obtain ⟨t, e⟩ := (show ∃ t, r = Value.int k t from ry)
  subst e
  exact ⟨⟨by omega, by omega⟩, .int k, H', I'.tok _, ⟨_, rfl⟩, qy⟩
/-- repr(o) -/
def rReprO (C : Addr) (sp : Sp) (E : XK) : List V → Hp → VK → Prop := fun xs H Q => ∃ a dx fs, xs = [V.ref a] ∧ H a = some (.ins C dx fs) ∧ sp [.ref a] H (fun z H' => ∃ y, z = .str y ∧ Q (.str y) H') E
theorem call_reprO (d : Dun X.K C "__repr__" f) (F : FnR X.prog X.w X.K X.mg X.base CX n f sp) (hr : Room (n + 1) X.A) (hx : Passes CX X E) : CallR X (.builtin "repr") (rReprO C sp E) := by
  intro pins s σ H xs us Q I r h
  obtain ⟨a, dx, fs, rfl, ha, q⟩ := h
  rw [Vals.ref1 r]
  obtain ⟨ox, od, J⟩ := ins_at I ha
  obtain ⟨m, hF⟩ := I.fr
  refine PySem.W.repr_K hr.in1.units0 hF I.ok.mod.kin J d.at_ d.fn (wpAny_mono (run_in (us := [.ref a]) (vs := [.ref a]) F hr.in1 I.env0.in1 hx I (.cons rfl .nil) q) (fun r z ⟨y, H', I', ry, k, ey, qy⟩ => ?_) fun _ _ y => y)
  subst ey
  obtain ⟨t, e⟩ := (show ∃ t, r = Value.str k t from ry)
  subst e
  exact ⟨.str k, H', I', ⟨t, rfl⟩, qy⟩
/-- bool(o), by its length -/
def rBoolO (C : Addr) (sp : Sp) (E : XK) : List V → Hp → VK → Prop := fun xs H Q => ∃ a dx fs, xs = [V.ref a] ∧ H a = some (.ins C dx fs) ∧ sp [.ref a] H (fun z H' => ∃ k : Nat, z = .int k ∧ (k : Int) < 2 ^ 62 ∧ Q (.bl ((k : Int) != 0)) H') E
theorem call_boolO (nb : PySem.W.findIn X.K (.ref C) "__bool__" = some none) (d : Dun X.K C "__len__" f) (F : FnR X.prog X.w X.K X.mg X.base CX n f sp) (hr : Room (n + 3) X.A) (hx : Passes CX X E) : CallR X (.type "bool") (rBoolO C sp E) := by
  intro pins s σ H xs us Q I r h
  obtain ⟨a, dx, fs, rfl, ha, q⟩ := h
  rw [Vals.ref1 r]
  obtain ⟨ox, od, J⟩ := ins_at I ha
  have hr3 : Room n X.A.in1.in1.in1 := ((show Room (n + 2) X.A.in1 from Room.in1 hr).in1).in1
  refine bool_own I.kIn J nb d.at_ d.fn (wpAny_mono (run_in (us := [.ref a]) (vs := [.ref a]) F hr3 I.env0.in1.in1.in1 hx I (.cons rfl .nil) q) (fun r z ⟨y, H', I', ry, k, ey, hk, qy⟩ => ?_) fun _ _ y => y)
  subst ey
  obtain ⟨t, e⟩ := (show ∃ t, r = Value.int k t from ry)
  subst e
  exact ⟨k, t, rfl, hk, fun u => ⟨.bl ((k : Int) != 0), H', I'.tok _, rfl, qy⟩⟩
/-- o == y, y anything of a known type -/
def rEqO (K : PySem.W.Frag) (C : Addr) (sp : Sp) (E : XK) : R2 := fun x y H Q => ∃ a dx fs t, x = .ref a ∧ H a = some (.ins C dx fs) ∧ TyX K H y t ∧ PySem.W.notFirst K C t = true ∧ sp [x, y] H Q E
theorem op_eqO (d : Dun X.K C "__eq__" f) (F : FnR X.prog X.w X.K X.mg X.base CX n f sp) (hr : Room n X.A) (hx : Passes CX X E) : OpR X (compareOp .Eq) (rEqO X.K C sp E) := by
  intro pins s σ H x y v u Q I rx ry h
  obtain ⟨a, dx, fs, t, rfl, ha, ty, nf, q⟩ := h
  cases (show v = Value.ref a from rx)
  obtain ⟨ox, od, J⟩ := ins_at I ha
  obtain ⟨P, Z, p, _⟩ := kit_of I ry ty
  obtain ⟨m, hF⟩ := I.fr
  show wpAny (model X.prog X.w) X.A (richCompare .Eq (.ref a) u) (EP X pins σ Q) X.xe s
  refine PySem.W.cmp_K (op := .Eq) (tb := t) hr.units0 hF I.ok.mod.kin J (Z.ty _ _ I.kIn p) nf d.at_ d.fn ?_
  refine wpAny_mono (wpAny_call (run_fnR (us := [.ref a, u]) (vs := [.ref a, y]) F hr hx I (.cons rfl (.cons ry .nil)) q)) (fun r z ⟨y', H', I', rz, qz⟩ => ?_) fun _ _ x => x
  exact SlX.cmpback rz ⟨y', H', I', rz, qz⟩
/-- o != y -/
def rNeO (K : PySem.W.Frag) (C : Addr) (sp : Sp) (E : XK) : R2 := fun x y H Q => ∃ a dx fs t, x = .ref a ∧ H a = some (.ins C dx fs) ∧ TyX K H y t ∧ PySem.W.notFirst K C t = true ∧ sp [x, y] H (fun z H' => ∃ b, z = .bl b ∧ Q (.bl (!b)) H') E
theorem op_neO (ne : PySem.W.findIn X.K (.ref C) "__ne__" = some (some (.builtin "object.__ne__"))) (hm : PySem.W.mroIn X.K C (.type "object") = some true) (d : Dun X.K C "__eq__" f) (F : FnR X.prog X.w X.K X.mg X.base CX n f sp) (hr : Room (n + 1) X.A) (hx : Passes CX X E) :
    OpR X (compareOp .NotEq) (rNeO X.K C sp E) := by
  intro pins s σ H x y v u Q I rx ry h
  obtain ⟨a, dx, fs, t, rfl, ha, ty, nf, q⟩ := h
  cases (show v = Value.ref a from rx)
  obtain ⟨ox, od, J⟩ := ins_at I ha
  obtain ⟨P, Z, p, _⟩ := kit_of I ry ty
  show wpAny (model X.prog X.w) X.A (richCompare .NotEq (.ref a) u) (EP X pins σ Q) X.xe s
  refine ne_own hr.in1.units0 I.kIn J (Z.ty _ _ I.kIn p) nf ne d.at_ d.fn hm ?_
  refine wpAny_mono (run_in (us := [.ref a, u]) (vs := [.ref a, y]) F hr.in1 I.env0.in1 hx I (.cons rfl (.cons ry .nil)) q) (fun r z ⟨y', H', I', rz, b, eb, qz⟩ => ?_) fun _ _ x => x
  subst eb
  cases (show r = Value.bool b from rz)
  exact ⟨b, rfl, fun t => ⟨.bl (!b), H', I'.tok _, rfl, qz⟩⟩
end
end Own1


/-! C(), C(*xs) of a class whose __init__ takes a star; C.m(e), C.m(k = e) of a static method -/
namespace Mk1
open PySem PySem.Spec PyProof.Rows L2 ClX StX
section
variable {X : Cx} {CX : CXT} {k : Nat} {f C : Addr} {sp : Sp} {E : XK} {x : Str} {e : Expr} {te : TE} {p pos q : Pos}
/-- C() -/
theorem pe_makeR0 (M : Mk X.K C f) (F : FnR X.prog X.w X.K X.mg X.base CX k f sp) (hr : Room (k + 1) X.A) (hg : Gl X x) (hm : X.mg x = some (.ref C)) (hx : Passes CX X E) (hdb : (x == ("__debug__" : Str)) = false := by decide) : PE X (.Call (.Name x p) [] [] pos) (tMakeR C sp E tNil) :=
  ⟨fun pins s σ H Q I h => wpAny_Call_Name_kw (ld_glob I hg hm (PySem.W.callWith_K0 I.kIn M.kp (run_makeR (us := []) (vs := []) M F hr hx I .nil h)) hdb)⟩
/-- C(*xs) -/
def tMakeS (K : PySem.W.Frag) (C : Addr) (sp : Sp) (E : XK) (te : TE) : TE := fun σ H Q => te σ H fun y H1 => ∃ a xs, y = V.ref a ∧ (SqT K H1 a xs ∨ SqL K H1 a xs) ∧ ∀ x dx, H1 x = Option.none → H1 dx = Option.none → dx ≠ x →
  sp (V.ref x :: xs) (upd (upd H1 dx (.own x)) x (.ins C dx [])) (fun v H2 => v = .non ∧ Q (.ref x) H2) E
theorem pe_makeS (M : Mk X.K C f) (F : FnR X.prog X.w X.K X.mg X.base CX k f sp) (hr : Room (k + 1) X.A) (hg : Gl X x) (hm : X.mg x = some (.ref C)) (hx : Passes CX X E) (he : PE X e te) (hdb : (x == ("__debug__" : Str)) = false := by decide)
    (hst : starEach [.Starred e q] X.env = [(true, eval e X.env)] := by rfl) : PE X (.Call (.Name x p) [.Starred e q] [] pos) (tMakeS X.K C sp E te) := by
  refine ⟨fun pins s σ H Q I h => wpAny_Call_Name_kw (ld_glob I hg hm ?_ hdb)⟩
  refine PySem.W.callWith_S (h₀ := X.base) I.ok.mod.kin M.kp (thn (he.run pins s σ H _ I h) fun v s1 ⟨y, H1, I1, ry, a, xs, ey, hxs, w⟩ => ?_) hst
  subst ey
  obtain rfl : v = Value.ref a := ry
  exact star_any I1 hxs fun us s2 I2 rv => ⟨I2.kIn, run_makeR M F hr hx I2 rv w⟩
end
/-- C.m is a static method: its record at p, its def at g -/
structure SMet (K : PySem.W.Frag) (C : Addr) (mc : Value) (m : Str) (p g : Addr) : Prop where
  at_ : PySem.W.findCls K (.ref C) mc m = some (.get (.builtin "staticmethod.__get__") (.ref p) .none (.ref C))
  rc : ∃ rest, PySem.W.recIn K p "staticmethod" = some (.ref g :: rest)
  kp : PySem.W.keepIn K (.ref g) = true
section
variable {X : Cx} {pins : List (Addr × Obj)} {σ : L2.St} {H : Hp} {s : Shared} {C p g : Addr} {mc : Value} {m : Str} {A : Around} {E : Value → Shared → Prop}
theorem get_static {pl : Sem Bool} {Q : Value × List Value → Shared → Prop} (I : Inv X pins σ H s) (r : CRead X.K C mc) (k : SMet X.K C mc m p g) (h : ∀ z, Inv X pins σ H z → Q (.ref g, []) z) : wpAny (model X.prog X.w) A (getMethod (.ref C) m pl) Q E s := by
  obtain ⟨rest, hp⟩ := k.rc
  refine PySem.W.method_cls I.kIn r.ga (PySem.W.cls_bind I.kIn r.rd k.at_ (wpAny_call (PySem.W.sm_get (s := { s with toks := s.toks + 1 }) I.kIn hp (PySem.W.handed_on rfl ?_))))
  exact h _ (I.tok _)
end
section
variable {X : Cx} {CX : CXT} {k n : Nat} {C p g : Addr} {mc : Value} {sp : Sp} {E : XK} {o e : Expr} {es : List Expr} {m : Str} {pos apos : Pos} {ta : TE} {t tk : TA} {pl : Sem Bool} {fd : FuncData} {ps ks : List Str} {kws : List Keyword} {gu : List Value → List Value → List Value} {gV : List V → List V → List V}
def tSMeth (C : Addr) (sp : Sp) (E : XK) (ta : TE) (t : TA) : TE := fun σ H Q => ta σ H fun x H1 => x = .ref C ∧ t σ H1 fun vs H2 => sp vs H2 Q E
/-- C.m(e, ..) -/
theorem pe_smeth (he : PE X o ta) (r : CRead X.K C mc) (c : SMet X.K C mc m p g) (F : FnR X.prog X.w X.K X.mg X.base CX k g sp) (hr : Room k X.A) (hx : Passes CX X E) (ha : PA X (e :: es) t)
    (hst : starEach (e :: es) X.env = (false, eval e X.env) :: starEach es X.env := by rfl) (hpl : (backTo pos (starEach es X.env)).any (·.1) = false := by rfl)
    (ht : eval (.Call (.Attribute o m apos) (e :: es) [] pos) X.env = (do
      let ov ← eval o X.env
      standAt apos.atName
      let (f, first) ← holding [ov] (getMethod ov m pl)
      callWith pos f first (backTo pos (starEach (e :: es) X.env)) (backToKw pos (keywordEach [] X.env))) := by rfl) : PE X (.Call (.Attribute o m apos) (e :: es) [] pos) (tSMeth C sp E ta t) := by
  refine ⟨fun pins s σ H Q I h => PySem.W.methodCall_KW (pl := pl) (thn (he.run pins s σ H _ I h) fun u s1 ⟨x, H1, I1, rx, ex, w⟩ => ?_) ht⟩
  subst ex
  obtain rfl : u = Value.ref C := rx
  refine get_static I1 r c fun s2 I2 => ?_
  exact PySem.W.callWith_K (h₀ := X.base) I2.ok.mod.kin c.kp (thn (ha.run pos pins s2 σ H1 _ I2 w) fun us s3 ⟨vs, H2, I3, rv, w2⟩ => ⟨I3.kIn, wpAny_call (run_fnR F hr hx I3 rv w2)⟩) hst hpl
/-- C.m(k = e, ..) -/
def tSMethK (C : Addr) (n : Nat) (sp : Sp) (gV : List V → List V → List V) (E : XK) (ta : TE) (tk : TA) : TE := fun σ H Q => ta σ H fun x H1 => x = .ref C ∧ tk σ H1 fun zs H2 => zs.length = n ∧ sp (gV [] zs) H2 Q E
theorem pe_smethK (he : PE X o ta) (r : CRead X.K C mc) (c : SMet X.K C mc m p g) (F : FnOk X.prog X.w X.K X.mg X.base CX k g fd ps sp) (hr : Room k X.A) (hb : KBn X.K fd ps 0 ks gu gV) (hx : Passes CX X E) (hkw : PK X kws tk)
    (hall : (backToKw pos (keywordEach kws X.env)).all (·.1.isSome) = true := by rfl) (hks : (backToKw pos (keywordEach kws X.env)).filterMap (·.1) = ks := by rfl)
    (hpl : ((backTo pos (starEach [] X.env)).any (·.1) || (backToKw pos (keywordEach kws X.env)).any (·.1.isNone)) = false := by rfl)
    (ht : eval (.Call (.Attribute o m apos) [] kws pos) X.env = (do
      let ov ← eval o X.env
      standAt apos.atName
      let (f, first) ← holding [ov] (getMethod ov m pl)
      callWith pos f first (backTo pos (starEach [] X.env)) (backToKw pos (keywordEach kws X.env))) := by rfl) : PE X (.Call (.Attribute o m apos) [] kws pos) (tSMethK C ks.length sp gV E ta tk) := by
  refine ⟨fun pins s σ H Q I h => PySem.W.methodCall_KW (pl := pl) (thn (he.run pins s σ H _ I h) fun u s1 ⟨x, H1, I1, rx, ex, w⟩ => ?_) ht⟩
  subst ex
  obtain rfl : u = Value.ref C := rx
  refine get_static I1 r c fun s2 I2 => ?_
  refine PySem.W.callWith_KW0 (h₀ := X.base) I2.ok.mod.kin c.kp hall (thn (hkw.run pos pins s2 σ H1 _ I2 w) fun ws s3 ⟨zs, H2, I3, rz, hz, w2⟩ => ⟨I3.kIn, ?_⟩) hpl
  rw [hks]
  have lz : ws.length = ks.length := rz.length.symm.trans hz
  refine wpAny_call (codeAny_mono (F.run X.A X.stack s3 H2 ⟨[] ++ [], ks.zip ws⟩ (gu [] ws) (gV [] zs) Q E hr I3.env0 (hb.to s3 [] ws I3.kIn rfl lz) (hb.rel .nil rz) w2) fun r z hq => ?_)
  cases r with
  | error e => exact hx pins σ H2 s3 e z I3 hq
  | ok fl =>
    cases fl with
    | ret u => exact I3.after hq
    | next => exact False.elim hq
    | brk => exact False.elim hq
    | cont => exact False.elim hq
end
end Mk1


namespace Rng
open PySem L2 Bag
/-- the fields of a table, in their order -/
def fieldsOf (p q d : Addr) : List (Str × V) := [("rows", .ref p), ("feeds", .ref q), ("_by_place", .ref d)]
theorem fields_put (p q d : Addr) : putF "_by_place" (.ref d) (putF "feeds" (.ref q) (putF "rows" (.ref p) [])) = fieldsOf p q d := by
  unfold fieldsOf
  have e1 : ("rows" : Str) ≠ "feeds" := by decide
  have e2 : ("rows" : Str) ≠ "_by_place" := by decide
  have e3 : ("feeds" : Str) ≠ "_by_place" := by decide
  simp only [putF, if_neg e1, if_neg e2, if_neg e3]
theorem fields_two (p q : Addr) : putF "feeds" (.ref q) (putF "rows" (.ref p) []) = ([("rows", .ref p), ("feeds", .ref q)] : List (Str × V)) := by
  have e1 : ("rows" : Str) ≠ "feeds" := by decide
  simp only [putF, if_neg e1]
/-- the table at o: its rows, its feeds -/
def TabAt (C : Addr) (H : Hp) (o : Addr) (ss : List Row) (fs : List Str) : Prop := ∃ dx p q d ys, H o = some (.ins C dx (fieldsOf p q d)) ∧ H p = some (.tup ys) ∧ TupsAt rowV H ys ss ∧ H q = some (.tup (fs.map V.str))
/-- what a table of rows has: the rows in order, their feeds in order -/
structure TabOf (rs ss : List Row) (fs : List Str) : Prop where
  perm : ss.Perm rs
  ord : ss.Pairwise fun p q => ltR q p = false
  fperm : fs.Perm (firsts (rs.map (·.1)))
  ford : PyProof.Rows.sortedS fs = true
/-- rows that a table takes -/
structure Good (rs : List Row) : Prop where
  len : rs.length ≤ 100
  nd : (rs.map plcOf).Nodup
  nm : ∀ r ∈ rs, isName r.1 = true
def spInit (C : Addr) : Sp := fun vs H Q _ => ∃ (o t dx : Addr) (xs : List V) (rs : List Row), vs = [.ref o, .ref t] ∧ H o = some (.ins C dx []) ∧ H t = some (.tup xs) ∧ TupsAt rowV H xs rs ∧ Good rs ∧
  ∀ (ss : List Row) (fs : List Str) (H' : Hp), TabOf rs ss fs → TabAt C H' o ss fs → But o H H' → Q .non H'
def keyOf (r : Row) : List Key := [Sum.inr r.1, Sum.inl r.2.1]
theorem key_vals (r : Row) : (keyOf r).map kV = plcV (plcOf r) := rfl
theorem key_inj {r s : Row} (h : keyOf r = keyOf s) : plcOf r = plcOf s := by
  unfold keyOf at h
  injection h with h1 h2
  injection h2 with h2 h3
  injection h1 with h1
  injection h2 with h2
  unfold plcOf
  rw [h1, h2]
theorem not_there (rs : List Row) (r : Row) (h : plcOf r ∉ rs.map plcOf) : valV (rs.map fun s => (keyOf s, V.int s.2.2)) (keyOf r) = none := by
  induction rs with
  | nil => rfl
  | cons s rs ih =>
    rw [List.map_cons, valV_neg fun e => h (by rw [List.map_cons, key_inj e]; exact List.mem_cons_self)]
    exact ih fun m => h (List.mem_cons_of_mem _ m)
/-- what the class of tables is -/
structure Tc (K : PySem.W.Frag) (C : Addr) : Prop where
  cl : Cls K C
  nR : NoAttr K C "rows"
  nF : NoAttr K C "feeds"
  nP : NoAttr K C "_by_place"
end Rng


/-! defs that are called where no repr is under way: what they promise then, their calls, the end; repr of data -/
namespace Gd
open PySem PySem.Spec PyProof.Rows L2
/-- as FnOk, where no repr is under way -/
structure FnG (P : Program) (w : World) (K : PySem.W.Frag) (mg : Str → Option Value) (base : Heap) (k : Nat) (f : Addr) (fd : FuncData) (ps : List Str) (sp : Sp) : Prop where
  len : ∀ vs H Q E, sp vs H Q E → vs.length = ps.length
  run : ∀ (A : Around) (outer : List Env) (s : Shared) (H : Hp) (args : Args) (us : List Value) (vs : List V) (Q : VK) (E : XK), A.guards = some [] → Room k A → Env0 P w K mg base A outer s H → BindsTo s fd args (ps.zip us) → Vals vs us → sp vs H Q E →
    codeAny (model P w) A (.call (.ref f) args) (CR CX0 outer P w H s Q E) s
section
variable {P : Program} {w : World} {K : PySem.W.Frag} {mg : Str → Option Value} {base : Heap} {j k : Nat} {f : Addr} {fd : FuncData} {N ps : List Str} {sp : Sp}
theorem FnG.mono (F : FnG P w K mg base j f fd ps sp) (h : j ≤ k) : FnG P w K mg base k f fd ps sp := ⟨F.len, fun A outer s H args us vs Q E hq hr => F.run A outer s H args us vs Q E hq (hr.mono h)⟩
theorem _root_.L2.FnOk.toG (F : FnOk P w K mg base CX0 k f fd ps sp) : FnG P w K mg base k f fd ps sp := ⟨F.len, fun A outer s H args us vs Q E _ hr => F.run A outer s H args us vs Q E hr⟩
/-- a def by its body, which may count on that no repr is under way -/
theorem _root_.L2.Fun.okG {x qual : Str} {st : Stmt} (F : Fun K x qual st f fd) (S : FnScope N ps (defScope st)) (len : ∀ vs H Q E, sp vs H Q E → vs.length = ps.length)
    (body : ∀ (cdv : Value) (A : Around) (outer : List Env) (s : Shared) (H : Hp) (vs : List V) (Q : VK) (E : XK), (A.deeper (envOfC qual (defScope st) s.heap.objs.size f cdv)).guards = some [] → Room k (A.deeper (envOfC qual (defScope st) s.heap.objs.size f cdv)) → sp vs H Q E →
      ∃ t, PSs (cxOf CX0 P w K mg base N qual (defScope st) f cdv A outer s H E).nox (defBody st) t ∧ t { nx := fun _ H' => Q .non H', rt := Q } (start N vs) H) : FnG P w K mg base (k + 1) f fd ps sp := by
  obtain ⟨oc, od, kV, doc, pm, an, cdv, ct, osl, rfl, lk, hcd⟩ := F.ex
  refine ⟨len, fun A outer s H args us vs Q E hq hr e0 hb rv hsp => ?_⟩
  have KX : K.In s.heap := e0.mod.kin.keeps fun b o e => (e0.bs b o e).1
  have lim : s.heap.NoLimit := e0.mod.nolimit.keeps fun b o e => (e0.bs b o e).1
  refine codeAny_call_function hr.depth (KX _ _ lk) rfl S.co S.gen rfl (PySem.W.codeRec_of KX hcd) (hb _ _ _ _ ?_)
  refine wpAny_newFunctionEnv_cells S.kind (fun ⟨n, v⟩ hy => ?_) fun env he s1 x => ?_
  · rcases S.par n (List.of_mem_zip hy).1 with q | q
    · exact .inl q
    · exact .inr ⟨q, PySem.W.cellsFrom_some _ _ _ (.inl q)⟩
  subst he
  obtain ⟨t, ht, rd⟩ := body cdv A outer s H vs Q E hq (hr.deeper _) hsp
  refine ⟨lim.keeps x.toInCall.keep, codeAny_func (wpAny_mono (ht.nox.run [] s1 (start N vs) H _ (inv_start S hr.hd e0 (len _ _ _ _ hsp) rv x) rd) (fun fl z hz => ?_) fun e z hz => hz)⟩
  cases fl with
  | ret u =>
    obtain ⟨v, σ', H', J, r, q⟩ := hz
    exact ⟨v, H', J.os, J.bare, J.base, J.hok, r, q⟩
  | next =>
    obtain ⟨σ', H', J, q⟩ := hz
    exact ⟨V.non, H', J.os, J.bare, J.base, J.hok, rfl, q⟩
  | brk =>
    obtain ⟨_, _, _, q⟩ := hz
    exact q.elim
  | cont =>
    obtain ⟨_, _, _, q⟩ := hz
    exact q.elim
end
section
variable {X : Cx} {k : Nat} {f : Addr} {fd : FuncData} {ps : List Str} {sp : Sp} {dvs : List V} {ds : List Value} {E : XK} {x : Str} {p pos : Pos} {e : Expr} {es : List Expr} {t : TA}
theorem run_g {pins : List (Addr × Obj)} {σ : L2.St} {H : Hp} {s : Shared} {Q : VK} {us : List Value} {vs : List V} (F : FnG X.prog X.w X.K X.mg X.base k f fd ps sp) (hq : X.A.guards = some []) (hr : Room k X.A) (hb : Binds X.K fd ps ds) (hd : Vals dvs ds)
    (I : Inv X pins σ H s) (r : Vals vs us) (h : sp (vs ++ dvs) H Q E) : wpAny (model X.prog X.w) X.A (call (.ref f) us) (EP X pins σ Q) X.xe s := by
  have rr : Vals (vs ++ dvs) (us ++ ds) := r.append hd
  refine wpAny_call (codeAny_mono (F.run X.A X.stack s H ⟨us, []⟩ (us ++ ds) (vs ++ dvs) Q E hq hr I.env0 (hb s us I.kIn (by rw [← rr.length]; exact F.len _ _ _ _ h)) rr h) fun r z hz => ?_)
  cases r with
  | error e => exact False.elim hz
  | ok fl =>
    cases fl with
    | ret u => exact I.after hz
    | next => exact False.elim hz
    | brk => exact False.elim hz
    | cont => exact False.elim hz
/-- f(e, ..) -/
theorem pe_callG (F : FnG X.prog X.w X.K X.mg X.base k f fd ps sp) (hq : X.A.guards = some []) (hr : Room k X.A) (hg : Gl X x) (hm : X.mg x = some (.ref f)) (hk : PySem.W.keepIn X.K (.ref f) = true) (hb : Binds X.K fd ps ds) (hd : Vals dvs ds)
    (ha : PA X (e :: es) t) (hdb : (x == ("__debug__" : Str)) = false := by decide) (he : starEach (e :: es) X.env = (false, eval e X.env) :: starEach es X.env := by rfl) (hpl : (backTo pos (starEach es X.env)).any (·.1) = false := by rfl) :
    PE X (.Call (.Name x p) (e :: es) [] pos) (tCall sp dvs E t) :=
  ⟨fun pins s σ H Q I h => wpAny_Call_Name_kw (ld_glob I hg hm (PySem.W.callWith_K (h₀ := X.base) I.ok.mod.kin hk (thn (ha.run pos pins s σ H _ I h) fun us s1 ⟨vs, H1, I1, r, q⟩ => ⟨I1.kIn, run_g F hq hr hb hd I1 r q⟩) he hpl) hdb)⟩
/-- f() -/
theorem pe_callG0 (F : FnG X.prog X.w X.K X.mg X.base k f fd ps sp) (hq : X.A.guards = some []) (hr : Room k X.A) (hg : Gl X x) (hm : X.mg x = some (.ref f)) (hk : PySem.W.keepIn X.K (.ref f) = true) (hb : Binds X.K fd ps ds) (hd : Vals dvs ds)
    (hdb : (x == ("__debug__" : Str)) = false := by decide) : PE X (.Call (.Name x p) [] [] pos) (tCall sp dvs E tNil) :=
  ⟨fun pins s σ H Q I h => wpAny_Call_Name_kw (ld_glob I hg hm (PySem.W.callWith_K0 I.kIn hk (run_g (us := []) F hq hr hb hd I .nil h)) hdb)⟩
/-- data that a repr shows: no great text, number, nesting -/
structure Fits (m p : Nat) (d : PyData) : Prop where
  short : d.leavesShort 201 = true
  shows : d.showable = true
  size : d.weight ≤ m
  deep : d.depth ≤ p
mutual
theorem dp_plain {K : PySem.W.Frag} {H : Hp} : ∀ (d : PyData) (v : V), Dp K H v d → d.hasDict = false
  | .none, _, _ => rfl
  | .bool _, _, _ => rfl
  | .int _, _, _ => rfl
  | .str _, _, _ => rfl
  | .list ds, _, h => by
    cases h with
    | lst _ a =>
      simp only [PyData.hasDict]
      exact dps_plain ds _ a
  | .tuple ds, _, h => by
    cases h with
    | tup _ a =>
      simp only [PyData.hasDict]
      exact dps_plain ds _ a
  | .dict _, _, h => by cases h
theorem dps_plain {K : PySem.W.Frag} {H : Hp} : ∀ (ds : List PyData) (vs : List V), DpAll K H vs ds → PyData.hasDictAll ds = false
  | [], _, _ => rfl
  | d :: ds, _, h => by
    cases h with
    | cons a b => simp only [PyData.hasDictAll, dp_plain d _ a, dps_plain ds _ b, Bool.or_self]
end
theorem Fits.len {m p : Nat} {d : PyData} (f : Fits m p d) (hm : m ≤ 80000) : d.shown.length ≤ sizeLine := by
  have h := PyData.shown_le 201 (by decide) d f.short
  have := f.size
  rw [sizeLine_eq]
  omega
/-- repr(x), x data -/
def rRepr (K : PySem.W.Frag) : List V → Hp → VK → Prop := fun vs H Q => ∃ (v : V) (d : PyData), vs = [v] ∧ Dp K H v d ∧ Fits 80000 40 d ∧ Q (.str d.shown) H
theorem cr_repr (hq : X.A.guards = some []) (hu : X.A.units + 64 < cLine) : CallR X (.builtin "repr") (rRepr X.K) := by
  intro pins s σ H vs us Q I r h
  obtain ⟨v, d, rfl, hd, f, q⟩ := h
  have ln := f.len (Nat.le_refl _)
  have sh := f.shows
  have dp := f.deep
  obtain ⟨u, rfl, ru⟩ := vals1 r
  obtain ⟨as, rd⟩ := Dp.reads I d v u hd ru
  have hn := dp_plain d v hd
  have fin : ∀ (t : Tok) (z : Shared), Inv X pins σ H z → EP X pins σ Q (.str d.shown t) z := fun t z J => ⟨.str d.shown, H, J, ⟨t, rfl⟩, q⟩
  cases rd with
  | none => exact PySem.P.repr_of_none (fin _ _ (I.tok _))
  | bool b => exact PySem.P.repr_of_bool (fin _ _ (I.tok _))
  | int i t => exact PySem.P.repr_of_int (by simpa [PyData.showable] using sh) (fin _ _ (I.tok _))
  | str x t => exact PySem.P.repr_of_str (fin _ _ (I.tok _)) (by simpa only [PyData.shown] using ln)
  | list h1 h2 h3 h4 => exact repr_of_reads' (.list h1 h2 h3 h4) sh (fun z => by rw [hn] at z; cases z) hq (by omega) (fun _ _ e => e) (fun h' u tk k => fin _ _ (I.kept k)) ln
  | tuple h1 h2 h3 h4 => exact repr_of_reads' (.tuple h1 h2 h3 h4) sh (fun z => by rw [hn] at z; cases z) hq (by omega) (fun _ _ e => e) (fun h' u tk k => fin _ _ (I.kept k)) ln
  | dict h1 h2 h3 h4 h5 => cases hd
end
/-! ### the end -/
theorem call_top {P : Program} {w : World} {K : PySem.W.Frag} {mg mb : Str → Option Value} {k : Nat} {fa a : Addr} {fd : FuncData} {x : Str} {sp : Sp} {s : Shared} {us : List Value} {ns : List Int} (KX : K.In s.heap) (hg : s.heap.Ns mainGlobals mg) (hb : s.heap.Ns builtinsNs mb)
    (hbb : ∀ x : Str, x ≠ "__name__" → mb x = bootBuiltins x) (hlim : s.heap.NoLimit) (g0 : s.gens = #[]) (ha : s.heap.get? a = some { cls := .type "list", data := .seq us.toArray }) (hi : IntsAre us ns) (hl : ns.length ≤ sizeLine) (hr : Room k callerA)
    (F : ∀ base : Heap, K.In base → base.Ns mainGlobals mg → FnG P w K mg base k fa fd [x] sp) (bind : ∀ (s : Shared) (u : Value), BindsTo s fd ⟨[u], []⟩ [(x, u)])
    (hsp : ∀ H : Hp, SqL K H a (ns.map V.int) → sp [.ref a] H (fun v _ => v = .bl true) fun _ _ _ => False) :
    codeAny (model P w) callerA (.call (.ref fa) ⟨[.ref a], []⟩) (fun r z => r = .ok (.ret (.bool true)) ∧ OldK s.heap z.heap ∧ z.os = s.os ∧ AllBare z.gens) s := by
  have rv := vals_ints hi
  -- only the script may be tracked
  have main : ∀ H : Hp, (∀ b u, H b = some u → b = a ∧ ∃ o xs, u = .frz o (.lst xs)) → (H a ≠ none → K.lookup a = none) → SqL K H a (ns.map V.int) → HOk P w H s.heap →
      codeAny (model P w) callerA (.call (.ref fa) ⟨[.ref a], []⟩) (fun r z => r = .ok (.ret (.bool true)) ∧ OldK s.heap z.heap ∧ z.os = s.os ∧ AllBare z.gens) s := by
    intro H only hK hS hok
    have keep : ∀ {b : Addr} {o : Obj}, s.heap.get? b = some o → H b = none → (hidT s.heap H).get? b = some o := fun e n => hidT_get e n
    have dictNone : ∀ {b : Addr} {o : Obj} {es : Array DictEntry} {ep : Nat}, s.heap.get? b = some o → o.data = .dict es ep → H b = none := fun {b o es ep} e d => by
      cases q : H b with
      | none => rfl
      | some u =>
        rw [(only b u q).1, ha] at e
        cases e
        cases (show Data.seq us.toArray _ = Data.dict es ep from d)
    have ns' : ∀ {b : Addr} {m : Str → Option Value}, s.heap.Ns b m → (hidT s.heap H).Ns b m := fun {b m} ⟨o, es, ep, e, d, r⟩ => ⟨o, es, ep, keep e (dictNone e d), d, r⟩
    have KB : K.In (hidT s.heap H) := fun b o e => keep (KX b o e) (by
      cases q : H b with
      | none => rfl
      | some u =>
        have eb := (only b u q).1
        rw [eb] at e q
        rw [hK (by rw [q]; exact fun z => nomatch z)] at e
        cases e)
    have e0 : Env0 P w K mg (hidT s.heap H) callerA [] s H := ⟨rfl, ⟨KB, ns' hg, ⟨mb, ns' hb, hbb⟩, let ⟨mc, h1, h2⟩ := hlim; ⟨mc, ns' h1, h2⟩⟩, fun b o e => of_hidT e, Nat.le_of_eq (hidT_size _ _), trivial, fun b hb => absurd (show b ∈ ([] : List Addr) from hb) (by simp), hok, .of_eq g0⟩
    refine codeAny_mono ((F _ KB (ns' hg)).run callerA [] s H ⟨[.ref a], []⟩ [.ref a] [.ref a] _ _ rfl hr e0 (bind s (.ref a)) (.cons rfl .nil) (hsp H hS)) fun r z hz => ?_
    cases r with
    | error e => exact False.elim hz
    | ok fl =>
      cases fl with
      | next => exact False.elim hz
      | brk => exact False.elim hz
      | cont => exact False.elim hz
      | ret u =>
        obtain ⟨v, H', os, bare, un, hok', ru, q⟩ := hz
        obtain rfl : v = .bl true := q
        obtain rfl : u = Value.bool true := ru
        refine ⟨rfl, OldK.of_keep fun b o e => ?_, os, bare⟩
        cases q : H b with
        | none => exact un.keep b o e q (fun z => absurd (show b ∈ ([] : List Addr) from z) (by simp)) (by simp)
        | some u =>
          obtain ⟨_, ob, xs, rfl⟩ := only b u q
          have e1 := (hok b _ q).1
          have e2 := (hok' b _ (un.frzs b ob _ q)).1
          rw [e] at e1
          cases e1
          exact e2
  have ln : (ns.map V.int).length ≤ sizeLine := by rw [List.length_map]; exact hl
  cases hk : K.lookup a with
  | some o =>
    have e := KX a o hk
    rw [ha] at e
    cases e
    exact main (fun _ => none) (fun b u z => by cases (show (none : Option HO) = some u from z)) (fun z => absurd rfl z) (.inr ⟨_, us.toArray, _, hk, rfl, rfl, rfl, by rw [List.size_toArray, hi.length]; exact hl, by simpa using rv⟩) fun b u z => by cases (show (none : Option HO) = some u from z)
  | none =>
    refine main (fun b => if b = a then some (.frz { cls := .type "list", data := .seq us.toArray } (.lst (ns.map V.int))) else none) (fun b u z => ?_) (fun _ => hk) (.inl (.inr ⟨_, if_pos rfl⟩)) fun b u z => ?_
    · by_cases c : b = a
      · exact ⟨c, _, _, (Option.some.inj ((if_pos c).symm.trans z)).symm⟩
      · cases (if_neg c).symm.trans z
    · by_cases c : b = a
      · cases (if_pos c).symm.trans z
        subst c
        exact ⟨ha, ln, us, _, rv, ha⟩
      · cases (if_neg c).symm.trans z
/-- the case hc of k_head -/
theorem walk_g {l : PySem.W.OpenLaw} {n k : Nat} {q : Program} {loose : List Str} {XP : (Str → Option Value) → Heap → Prop} {YP : World → Heap → Prop} {d : DefRec} {K : Params → PySem.W.Frag} {sp : World → Sp} {x : Str} (hn : l.most = some n) (hn2 : n ≤ sizeLine) (hdf : d.params.defaults = []) (hr : Room k callerA)
    (hY : ∀ (w : World) (h : Heap), YP w h → (K w.params).In h)
    (F : ∀ (w : World) (mg : Str → Option Value) (fa : Addr) (h : Heap), (K w.params).In h → h.Ns mainGlobals mg → mg d.name = some (.ref fa) →
      ∃ fd : FuncData, (∀ (s : Shared) (u : Value), BindsTo s fd ⟨[u], []⟩ [(x, u)]) ∧ ∀ base : Heap, (K w.params).In base → base.Ns mainGlobals mg → FnG l.prog w (K w.params) mg base k fa fd [x] (sp w))
    (hsp : ∀ (w : World) (H : Hp) (a : Addr) (ns : List Int), ns.length ≤ n → SqL (K w.params) H a (ns.map V.int) → sp w [.ref a] H (fun v _ => v = .bl true) fun _ _ _ => False) :
    PySem.W.WalkO q loose XP YP l.row.toRowW d [] (fun f vs => PySem.call f vs) := by
  refine Att.attach_call hn hdf fun w s₀ s₁ mg mb fa o pm cd doc a vs ns G Y ho hd hcd hmg hobj hints hlen hg => ?_
  have KX := hY w _ Y
  obtain ⟨fd, hb, hF⟩ := F w mg fa _ KX G.T.g hmg
  exact call_top KX G.T.g G.T.b G.T.builtins G.T.nolimit hg hobj hints (Nat.le_trans hlen hn2) hr hF hb fun H hS => hsp w H a ns hlen hS
end Gd


/-! lines, some of them wrong: what is a line's cell, what a line, where the first wrong one stands -/
namespace Rng
open PySem L2 Bag Gd LamX
/-- lists stay lists, tuples and dicts stay as they are -/
def Kin (H H' : Hp) : Prop := ∀ a, (∀ xs, H a = some (.lst xs) → ∃ ys, H' a = some (.lst ys)) ∧ (∀ xs, H a = some (.tup xs) → H' a = some (.tup xs)) ∧ ∀ kvs, H a = some (.dK kvs) → H' a = some (.dK kvs)
theorem Kin.refl (H : Hp) : Kin H H := fun _ => ⟨fun xs e => ⟨xs, e⟩, fun _ e => e, fun _ e => e⟩
theorem Kin.trans {H H1 H2 : Hp} (a : Kin H H1) (b : Kin H1 H2) : Kin H H2 := fun c => ⟨fun xs e => by
  obtain ⟨ys, e1⟩ := (a c).1 xs e
  exact (b c).1 ys e1, fun xs e => (b c).2.1 xs ((a c).2.1 xs e), fun kvs e => (b c).2.2 kvs ((a c).2.2 kvs e)⟩
theorem _root_.L2.Same.kin {H H' : Hp} (s : Same H H') : Kin H H' := fun _ => ⟨fun xs e => ⟨xs, s _ _ e⟩, fun _ e => s _ _ e, fun _ e => s _ _ e⟩
theorem _root_.LamX.ExtN.kin {H H' : Hp} (s : ExtN H H') : Kin H H' := fun _ => ⟨fun xs e => ⟨xs, s _ _ e fun _ z => (nomatch z)⟩, fun _ e => s _ _ e fun _ z => (nomatch z), fun _ e => s _ _ e fun _ z => (nomatch z)⟩
theorem But.kin {c : Addr} {H H' : Hp} (b : But c H H') (h : ∀ u, H c = some u → ∃ xs, u = .lst xs) (h' : H c ≠ none → ∃ ys, H' c = some (.lst ys)) : Kin H H' := fun a => by
  by_cases e : a = c
  · subst e
    refine ⟨fun xs e => h' (by rw [e]; exact fun z => nomatch z), fun xs e => ?_, fun kvs e => ?_⟩
    · obtain ⟨_, z⟩ := h _ e
      cases z
    · obtain ⟨_, z⟩ := h _ e
      cases z
  · exact ⟨fun xs q => ⟨xs, b _ _ e q⟩, fun _ q => b _ _ e q, fun _ q => b _ _ e q⟩
theorem TupsAt.kin {α : Type} {f : α → List V} {H H' : Hp} {vs : List V} {as : List α} (h : TupsAt f H vs as) (k : Kin H H') : TupsAt f H' vs as := h.keep fun c ys e => (k c).2.1 ys e
/-- a cell of a line -/
inductive Cell (H : Hp) : V → Prop
  | non : Cell H .non
  | bl (b : Bool) : Cell H (.bl b)
  | int (i : Int) : Cell H (.int i)
  | str {z : Str} : z.length ≤ 1000 → Cell H (.str z)
  | lst {a : Addr} {xs : List V} : H a = some (.lst xs) → Cell H (.ref a)
  | dK {a : Addr} {kvs : List (Key × V)} : H a = some (.dK kvs) → Cell H (.ref a)
  | tup {a : Addr} {xs : List V} : H a = some (.tup xs) → Cell H (.ref a)
theorem Cell.kin {H H' : Hp} {v : V} (h : Cell H v) (k : Kin H H') : Cell H' v := by
  cases h with
  | non => exact .non
  | bl b => exact .bl b
  | int i => exact .int i
  | str h => exact .str h
  | lst e =>
    obtain ⟨ys, e⟩ := (k _).1 _ e
    exact .lst e
  | dK e => exact .dK ((k _).2.2 _ e)
  | tup e => exact .tup ((k _).2.1 _ e)
def nameV : V → Bool
  | .str z => isName z
  | _ => false
def intV : V → Bool
  | .int _ => true
  | _ => false
theorem IntB.tup {K : PySem.W.Frag} {H : Hp} {a : Addr} {xs : List V} (e : H a = some (.tup xs)) : IntB K H (.ref a) false := ⟨.type "tuple", false, false, .base (.tup e), kit_ty (by decide +kernel), kit_ty (by decide +kernel), rfl⟩
theorem Cell.isInt {K : PySem.W.Frag} {H : Hp} {v : V} (h : Cell H v) : IntB K H v (intV v) := by
  cases h with
  | non => exact .non
  | bl b => exact .bl b
  | int i => exact .int i
  | str h => exact .str _
  | lst e => exact .lst e
  | dK e => exact .dK e
  | tup e => exact .tup e
theorem Cell.isName {K : PySem.W.Frag} {H : Hp} {v : V} (h : Cell H v) : NameB K H v (nameV v) := by
  cases h with
  | non => exact .inr ⟨_, .base .non, kit_ty (by decide +kernel), rfl⟩
  | bl b => exact .inr ⟨_, .base (.bl b), kit_ty (by decide +kernel), rfl⟩
  | int i => exact .inr ⟨_, .base (.int i), kit_ty (by decide +kernel), rfl⟩
  | str h => exact .inl ⟨_, rfl, Nat.le_trans h (by decide), rfl⟩
  | lst e => exact .inr ⟨_, .base (.lst e), kit_ty (by decide +kernel), rfl⟩
  | dK e => exact .inr ⟨_, .base (.dK e), kit_ty (by decide +kernel), rfl⟩
  | tup e => exact .inr ⟨_, .base (.tup e), kit_ty (by decide +kernel), rfl⟩
/-- no tuple -/
inductive NoTup (H : Hp) : V → Prop
  | non : NoTup H .non
  | bl (b : Bool) : NoTup H (.bl b)
  | int (i : Int) : NoTup H (.int i)
  | str (z : Str) : NoTup H (.str z)
  | lst {a : Addr} {xs : List V} : H a = some (.lst xs) → NoTup H (.ref a)
  | dK {a : Addr} {kvs : List (Key × V)} : H a = some (.dK kvs) → NoTup H (.ref a)
theorem NoTup.kin {H H' : Hp} {v : V} (h : NoTup H v) (k : Kin H H') : NoTup H' v := by
  cases h with
  | non => exact .non
  | bl b => exact .bl b
  | int i => exact .int i
  | str h => exact .str _
  | lst e =>
    obtain ⟨ys, e⟩ := (k _).1 _ e
    exact .lst e
  | dK e => exact .dK ((k _).2.2 _ e)
theorem NoTup.ty {K : PySem.W.Frag} {H : Hp} {v : V} (h : NoTup H v) : ∃ t, TyX K H v t ∧ PySem.W.kitOne K t (.type "tuple") = some false := by
  cases h with
  | non => exact ⟨_, .base .non, kit_ty (by decide +kernel)⟩
  | bl b => exact ⟨_, .base (.bl b), kit_ty (by decide +kernel)⟩
  | int i => exact ⟨_, .base (.int i), kit_ty (by decide +kernel)⟩
  | str h => exact ⟨_, .base (.str _), kit_ty (by decide +kernel)⟩
  | lst e => exact ⟨_, .base (.lst e), kit_ty (by decide +kernel)⟩
  | dK e => exact ⟨_, .base (.dK e), kit_ty (by decide +kernel)⟩
/-- a line: a row, or none -/
inductive Line (H : Hp) : V → Option Row → Prop
  | row {p : Addr} {r : Row} : H p = some (.tup (rowV r)) → isName r.1 = true → Line H (.ref p) (some r)
  | no {v : V} : NoTup H v → Line H v none
  | short {p : Addr} {xs : List V} : H p = some (.tup xs) → xs.length ≠ 3 → Line H (.ref p) none
  | three {p : Addr} {x y z : V} : H p = some (.tup [x, y, z]) → Cell H x → Cell H y → Cell H z → (nameV x && (intV y && intV z)) = false → Line H (.ref p) none
theorem Line.kin {H H' : Hp} {v : V} {o : Option Row} (h : Line H v o) (k : Kin H H') : Line H' v o := by
  cases h with
  | row e n => exact .row ((k _).2.1 _ e) n
  | no h => exact .no (h.kin k)
  | short e n => exact .short ((k _).2.1 _ e) n
  | three e a b c n => exact .three ((k _).2.1 _ e) (a.kin k) (b.kin k) (c.kin k) n
/-- three cells in a tuple are a line -/
theorem line3 {H : Hp} {p : Addr} {x y z : V} (e : H p = some (.tup [x, y, z])) (a : Cell H x) (b : Cell H y) (c : Cell H z) : ∃ o, Line H (.ref p) o := by
  cases h : (nameV x && (intV y && intV z)) with
  | false => exact ⟨_, .three e a b c h⟩
  | true =>
    simp only [Bool.and_eq_true] at h
    obtain ⟨h1, h2, h3⟩ := h
    cases x with
    | str n =>
      cases y with
      | int i =>
        cases z with
        | int j => exact ⟨some (n, i, j), .row e h1⟩
        | _ => cases h3
      | _ => cases h2
    | _ => cases h1
theorem Line.rowB {K : PySem.W.Frag} {H : Hp} {v : V} {o : Option Row} (h : Line H v o) : RowB K H v o.isSome := by
  cases h with
  | row e n =>
    refine .inr (.inr ⟨_, _, _, _, true, true, true, rfl, e, .inl ⟨_, rfl, ?_, n.symm⟩, fun _ _ => .int _, fun _ _ => .int _, rfl⟩)
    unfold Rng.isName at n
    simp only [Bool.and_eq_true, decide_eq_true_eq] at n
    exact Nat.le_trans n.1 (by decide)
  | no h =>
    obtain ⟨t, ty, k⟩ := h.ty (K := K)
    exact .inl ⟨t, ty, k, rfl⟩
  | short e n => exact .inr (.inl ⟨_, _, rfl, e, n, rfl⟩)
  | three e a b c n => exact .inr (.inr ⟨_, _, _, _, _, _, _, rfl, e, a.isName, fun _ s => (b.kin s.kin).isInt, fun _ s => (c.kin s.kin).isInt, n.symm⟩)
/-- lines, one after the other -/
inductive Lines (H : Hp) : List V → List (Option Row) → Prop
  | nil : Lines H [] []
  | cons {v : V} {o : Option Row} {vs : List V} {os : List (Option Row)} : Line H v o → Lines H vs os → Lines H (v :: vs) (o :: os)
section
variable {H H' : Hp} {vs : List V} {os : List (Option Row)}
theorem Lines.kin (h : Lines H vs os) (k : Kin H H') : Lines H' vs os := by
  induction h with
  | nil => exact .nil
  | cons a _ ih => exact .cons (a.kin k) ih
theorem Lines.len (h : Lines H vs os) : vs.length = os.length := by
  induction h with
  | nil => rfl
  | cons _ _ ih => rw [List.length_cons, List.length_cons, ih]
theorem Lines.get {i : Nat} {v : V} (h : Lines H vs os) (e : vs[i]? = some v) : ∃ o, os[i]? = some o ∧ Line H v o := by
  induction h generalizing i with
  | nil => simp at e
  | cons k _ ih =>
    cases i with
    | zero =>
      obtain rfl := Option.some.inj e
      exact ⟨_, rfl, k⟩
    | succ i => exact ih e
theorem Lines.set {i : Nat} {v : V} {o : Option Row} (h : Lines H vs os) (l : Line H v o) : Lines H (vs.set i v) (os.set i o) := by
  induction h generalizing i with
  | nil => exact .nil
  | cons k r ih =>
    cases i with
    | zero => exact .cons l r
    | succ i => exact .cons k ih
theorem lines_of {rs : List Row} (h : TupsAt rowV H vs rs) (n : ∀ r ∈ rs, isName r.1 = true) : Lines H vs (rs.map some) := by
  induction h with
  | nil => exact .nil
  | cons e _ ih => exact .cons (.row e (n _ List.mem_cons_self)) (ih fun r hr => n r (List.mem_cons_of_mem _ hr))
theorem Lines.take (h : Lines H vs os) (i : Nat) : Lines H (vs.take i) (os.take i) := by
  induction h generalizing i with
  | nil => rw [List.take_nil, List.take_nil]; exact .nil
  | cons k _ ih =>
    cases i with
    | zero => exact .nil
    | succ i => exact .cons k (ih i)
/-- where all are rows -/
theorem Lines.rows {rs : List Row} (h : Lines H vs (rs.map some)) : TupsAt rowV H vs rs ∧ ∀ r ∈ rs, isName r.1 = true := by
  induction rs generalizing vs with
  | nil =>
    cases h
    exact ⟨.nil, fun _ h => nomatch h⟩
  | cons r rs ih =>
    cases h with
    | cons a b =>
      obtain ⟨t, n⟩ := ih b
      cases a with
      | row e m => exact ⟨.cons e t, fun x hx => (List.mem_cons.mp hx).elim (fun z => z ▸ m) fun hx => n x hx⟩
end
/-- the first i lines are these rows, no two at one place -/
def Fine (os : List (Option Row)) (i : Nat) (rs : List Row) : Prop := os.take i = rs.map some ∧ (rs.map plcOf).Nodup
/-- the first wrong line stands at k -/
def BadAt (os : List (Option Row)) (k : Nat) : Prop := ∃ rs, Fine os k rs ∧ (os[k]? = some none ∨ ∃ r, os[k]? = some (some r) ∧ plcOf r ∈ rs.map plcOf)
/-- none is wrong -/
def AllFine (os : List (Option Row)) (rs : List Row) : Prop := os = rs.map some ∧ (rs.map plcOf).Nodup
theorem Fine.step {os : List (Option Row)} {i : Nat} {rs : List Row} {r : Row} (f : Fine os i rs) (e : os[i]? = some (some r)) (n : plcOf r ∉ rs.map plcOf) : Fine os (i + 1) (rs ++ [r]) := by
  refine ⟨by rw [List.take_add_one, e, f.1, List.map_append]; rfl, ?_⟩
  rw [List.map_append]
  refine List.nodup_append.mpr ⟨f.2, by simp, fun x hx y hy z => ?_⟩
  obtain rfl := List.mem_singleton.mp hy
  exact n (z ▸ hx)
theorem Fine.all {os : List (Option Row)} {i : Nat} {rs : List Row} (f : Fine os i rs) (h : os.length ≤ i) : AllFine os rs := ⟨by rw [← f.1, List.take_of_length_le h], f.2⟩
theorem Fine.len {os : List (Option Row)} {i : Nat} {rs : List Row} (f : Fine os i rs) (h : i ≤ os.length) : rs.length = i := by
  have := congrArg List.length f.1
  rw [List.length_take, List.length_map] at this
  omega
theorem map_some_inj : ∀ {rs ss : List Row}, rs.map some = ss.map some → rs = ss
  | [], [], _ => rfl
  | [], _ :: _, h => by simp at h
  | _ :: _, [], h => by simp at h
  | r :: rs, s :: ss, h => by
    rw [List.map_cons, List.map_cons] at h
    injection h with h1 h2
    injection h1 with h1
    rw [h1, map_some_inj h2]
theorem AllFine.one {os : List (Option Row)} {rs ss : List Row} (a : AllFine os rs) (b : AllFine os ss) : rs = ss := map_some_inj (a.1.symm.trans b.1)
/-- what is wrong isn't fine -/
theorem BadAt.fine {os : List (Option Row)} {k m : Nat} {ss : List Row} (b : BadAt os k) (f : Fine os m ss) : m ≤ k := by
  obtain ⟨rs, fr, h⟩ := b
  refine Nat.le_of_not_lt fun lt => ?_
  have at_ : (os.take m)[k]? = os[k]? := List.getElem?_take_of_lt lt
  rw [f.1, List.getElem?_map] at at_
  rcases h with h | ⟨r, h, hm⟩
  · rw [h] at at_
    cases e : ss[k]? with
    | none => rw [e] at at_; cases at_
    | some s => rw [e] at at_; cases at_
  · rw [h] at at_
    cases e : ss[k]? with
    | none => rw [e] at at_; cases at_
    | some s =>
      rw [e] at at_
      obtain rfl : s = r := by
        have := Option.some.inj at_
        exact Option.some.inj this
      have tk : rs.map some = (ss.take k).map some := by
        rw [List.map_take, ← f.1, List.take_take, Nat.min_eq_left (Nat.le_of_lt lt), fr.1]
      have er := map_some_inj tk
      have sp : ss = ss.take k ++ s :: ss.drop (k + 1) := by
        have hlt : k < ss.length := (List.getElem?_eq_some_iff.mp e).1
        have := (List.getElem?_eq_some_iff.mp e).2
        rw [← this, ← List.drop_eq_getElem_cons hlt, List.take_append_drop]
      have nd := f.2
      rw [sp, List.map_append] at nd
      rw [er] at hm
      exact (List.nodup_append.mp nd).2.2 _ hm _ (by rw [List.map_cons]; exact List.mem_cons_self) rfl
theorem BadAt.one {os : List (Option Row)} {k m : Nat} (a : BadAt os k) (b : BadAt os m) : k = m := by
  obtain ⟨rs, f, _⟩ := id a
  obtain ⟨ss, g, _⟩ := id b
  exact Nat.le_antisymm (b.fine f) (a.fine g)
theorem BadAt.not {os : List (Option Row)} {k : Nat} {rs : List Row} (a : BadAt os k) (b : AllFine os rs) : False := by
  have lt : k < os.length := by
    obtain ⟨_, _, h⟩ := a
    rcases h with h | ⟨_, h, _⟩
    · exact (List.getElem?_eq_some_iff.mp h).1
    · exact (List.getElem?_eq_some_iff.mp h).1
  have := a.fine (m := os.length) ⟨by rw [List.take_length]; exact b.1, b.2⟩
  omega
theorem BadAt.lt {os : List (Option Row)} {k : Nat} (a : BadAt os k) : k < os.length := by
  obtain ⟨_, _, h⟩ := a
  rcases h with h | ⟨_, h, _⟩
  · exact (List.getElem?_eq_some_iff.mp h).1
  · exact (List.getElem?_eq_some_iff.mp h).1
end Rng


namespace Rng
open PySem L2 Bag Gd LamX
/-! ### small letters, digits -/
theorem letters_are : (Str.ofString "abcdefghijklmnopqrstuvwxyz").cps.toList = List.range' 97 26 := by decide +kernel
theorem digits_are : (Str.ofString "abcdefghijklmnopqrstuvwxyz" ++ Str.ofString "0123456789").cps.toList = List.range' 97 26 ++ List.range' 48 10 := by decide +kernel
theorem in_letters (c : Nat) : decide (c ∈ (Str.ofString "abcdefghijklmnopqrstuvwxyz").cps.toList) = low c := by
  rw [letters_are]
  unfold low
  rw [← Bool.decide_and]
  refine decide_eq_decide.mpr ?_
  rw [List.mem_range'_1]
  omega
theorem in_signs (c : Nat) : decide (c ∈ (Str.ofString "abcdefghijklmnopqrstuvwxyz" ++ Str.ofString "0123456789").cps.toList) = (low c || dig c) := by
  rw [digits_are]
  unfold low dig
  rw [← Bool.decide_and, ← Bool.decide_and, ← Bool.decide_or]
  refine decide_eq_decide.mpr ?_
  rw [List.mem_append, List.mem_range'_1, List.mem_range'_1]
  omega
theorem name_len {z : Str} (n : isName z = true) : z.length ≤ 1000 := by
  unfold isName at n
  simp only [Bool.and_eq_true, decide_eq_true_eq] at n
  exact Nat.le_trans n.1 (by decide)
theorem Line.forms {H : Hp} {v : V} {o : Option Row} (h : Line H v o) : (NoTup H v ∧ o = none) ∨ (∃ p xs, v = .ref p ∧ H p = some (.tup xs) ∧ xs.length ≠ 3 ∧ o = none) ∨
    ∃ p x y z, v = .ref p ∧ H p = some (.tup [x, y, z]) ∧ Cell H x ∧ Cell H y ∧ Cell H z ∧ o.isSome = (nameV x && (intV y && intV z)) := by
  cases h with
  | no h => exact .inl ⟨h, rfl⟩
  | short e n => exact .inr (.inl ⟨_, _, rfl, e, n, rfl⟩)
  | row e n => exact .inr (.inr ⟨_, _, _, _, rfl, e, .str (name_len n), .int _, .int _, by show true = (isName _ && _); rw [n]; rfl⟩)
  | three e a b c n => exact .inr (.inr ⟨_, _, _, _, rfl, e, a, b, c, n.symm⟩)
def spTagQ : Sp := fun vs H Q _ => ∃ v : V, vs = [v] ∧ Cell H v ∧ ∀ H', Same H H' → Q (.bl (nameV v)) H'
def spWholeQ : Sp := fun vs H Q _ => ∃ v : V, vs = [v] ∧ Cell H v ∧ Q (.bl (intV v)) H
def spLineQ : Sp := fun vs H Q _ => ∃ (v : V) (o : Option Row), vs = [v] ∧ Line H v o ∧ ∀ H', Same H H' → Q (.bl o.isSome) H'
/-- the first two cells of a row -/
theorem cut_row (r : Row) : cutV (rowV r) none (some 2) = plcV (plcOf r) := rfl
theorem not_whole (r : Row) : ¬ (HT.sIx (rowV r).length 0 none = 0 ∧ HT.sIx (rowV r).length (rowV r).length (some 2) = (rowV r).length) := by
  show ¬ (HT.sIx 3 0 none = 0 ∧ HT.sIx 3 3 (some 2) = 3)
  decide
theorem cut_take {xs : List V} {i : Nat} (h : i ≤ xs.length) : cutV xs none (some (i : Int)) = xs.take i := by
  unfold cutV
  rw [HT.sIx_nat, HT.sIx_none, Nat.min_eq_left h, Nat.sub_zero, List.drop_zero]
def spDueQ : Sp := fun vs H Q _ => ∃ (l : Addr) (ws : List V) (os : List (Option Row)), vs = [.ref l] ∧ H l = some (.lst ws) ∧ Lines H ws os ∧ os.length ≤ 20 ∧
  (∀ (k : Nat) (H' : Hp), BadAt os k → Same H H' → Q (.int k) H') ∧ ∀ (rs : List Row) (H' : Hp), AllFine os rs → Same H H' → Q (.int (-1)) H'
end Rng


/-! try .. except (four classes) as a name; the caught exception is tracked like any other object -/
namespace Tr4
open PySem PySem.Spec PyProof.Rows L2
/-- a caught exception: its class, its dict, no context -/
def exq (a : Addr) (cls : Value) (d : Option Addr) : HO := .ext fun h => ∃ (o : Obj) (vs : Array Value), h.get? a = some o ∧ L2N.Zn cls d o ∧ o.data = .fields vs
theorem exq_ok {P : Program} {w : World} {H : Hp} {h : Heap} {a : Addr} {cls : Value} {d : Option Addr} {o : Obj} {vs : Array Value} (e : h.get? a = some o) (z : L2N.Zn cls d o) (f : o.data = .fields vs) : ObjOk P w H h a (exq a cls d) :=
  ⟨⟨o, vs, e, z, f⟩, ⟨o, e⟩, fun _ _ ⟨o', v', q, r⟩ k => ⟨o', v', k o' q, r⟩⟩
theorem exq_at {P : Program} {w : World} {H : Hp} {h : Heap} {a : Addr} {cls : Value} {d : Option Addr} (x : HOk P w H h) (e : H a = some (exq a cls d)) : ∃ (o : Obj) (vs : Array Value), h.get? a = some o ∧ L2N.Zn cls d o ∧ o.data = .fields vs := (x a _ e).1
theorem fly_push {B h : Heap} {l : List Env} {a : Addr} {Z : Obj → Prop} {o : Obj} (f : HandSPX.FlyingZ B l a Z h) : HandSPX.FlyingZ B l a Z (h.push o) := by
  obtain ⟨f1, f2, f3, x, vs, T, oT, ts, g1, g2, g3, g4, g5, g6, g7, g8⟩ := f
  have k : ∀ b u, h.get? b = some u → (h.push o).get? b = some u := fun _ _ z => Heap.get?_push_of_some _ z
  exact ⟨fun b u z => k _ _ (f1 b u z), f2, f3.of_keeps fun b u z _ => ⟨u, k _ _ z, rfl⟩, x, vs, T, oT, ts, k _ _ g1, g2, g3, g4, g5, g6, k _ _ g7, g8⟩
theorem up_push {h : Heap} {o : Obj} : h.UpToSlots (h.push o) := Heap.UpToSlots.of_keeps fun _ _ z => Heap.get?_push_of_some _ z
section
variable {X : Cx} {pins : List (Addr × Obj)} {σ : L2.St} {H : Hp} {s : Shared} {a : Addr}
/-- an object that came up since the entry and is an exception may be tracked -/
theorem tracked {cls : Value} {d : Option Addr} {o : Obj} {vs : Array Value} (J : Inv X pins σ H s) (h0 : X.s_0.heap.get? a = none) (na : H a = none) (e : s.heap.get? a = some o) (z : L2N.Zn cls d o) (f : o.data = .fields vs)
    (np : ∀ p ∈ X.pn ++ pins, p.1 ≠ a) (nL : X.env.locals ≠ a) : Inv X pins σ (upd H a (exq a cls d)) s where
  ok := J.ok
  os := J.os
  bare := J.bare
  base := {
    keep := J.base.keep
    slot := J.base.slot
    free := fun b u q n x => by
      have ne : b ≠ a := fun c => by rw [c, h0] at q; cases q
      rw [upd_ne ne]
      exact J.base.free b u q n x
    there := J.base.there
    tups := fun b xs q => by
      have t := J.base.tups b xs q
      rw [upd_ne (ne_of_none t na)]
      exact t
    frzs := fun b u xs q => by
      have t := J.base.frzs b u xs q
      rw [upd_ne (ne_of_none t na)]
      exact t
    tbls := fun b ps q => by
      obtain ⟨m, t⟩ := J.base.tbls b ps q
      exact ⟨m, by rw [upd_ne (ne_of_none t na)]; exact t⟩ }
  loc := J.loc
  cell := J.cell
  free := by
    rw [upd_ne nL]
    exact J.free
  freeC := fun x c q => by
    obtain ⟨v, oc, g, gd⟩ := J.cell x c q
    have ne : c ≠ a := fun y => by
      rw [y, e] at g
      cases g
      rw [f] at gd
      cases gd
    rw [upd_ne ne]
    exact J.freeC x c q
  pin := fun p hp => by
    obtain ⟨p1, p2, p3⟩ := J.pin p hp
    exact ⟨p1, by rw [upd_ne (np p hp)]; exact p2, p3⟩
  hok := J.hok.laidN (fun _ _ y => y) na (exq_ok e z f)
  len := J.len
/-- in a suite, nothing of it pinned -/
theorem inSuite (J : Inv X pins σ H s) : Inv (X.suite a (X.pn ++ pins)) [] σ H s :=
  ⟨J.ok.suite a _, J.os, J.bare, J.base, J.loc, J.cell, J.free, J.freeC, fun p hp => J.pin p (by rwa [List.append_nil] at hp), J.hok, J.len⟩
theorem ofSuite (ok : X.Ok) (J : Inv (X.suite a (X.pn ++ pins)) [] σ H s) : Inv X pins σ H s :=
  ⟨ok, J.os, J.bare, J.base, J.loc, J.cell, J.free, J.freeC, fun p hp => J.pin p (by rwa [List.append_nil]), J.hok, J.len⟩
theorem name_in {E : Value → Shared → Prop} {Q : Value → Shared → Prop} {x : Str} {c : Value} {p : Pos} (J : Inv X pins σ H s) (n : Names X x c) (q : Q c s) : wpAny (model X.prog X.w) X.A (eval (.Name x p) X.env) Q E s := by
  obtain ⟨g, db, m | ⟨m, v, nn⟩⟩ := n
  · exact ld_glob J g m q db
  · exact ld_blt J g m v q nn db
abbrev four (c1 c2 c3 c4 : Value) : Obj := { cls := .type "tuple", data := .seq [c1, c2, c3, c4].toArray }
theorem names4 {E : Value → Shared → Prop} {Q : Value → Shared → Prop} {x1 x2 x3 x4 : Str} {c1 c2 c3 c4 : Value} {p1 p2 p3 p4 p : Pos} {j : Nat} (J : Inv X pins σ H s) (m1 : Names X x1 c1) (m2 : Names X x2 c2) (m3 : Names X x3 c3) (m4 : Names X x4 c4)
    (q : Q (.ref s.heap.objs.size) { s with heap := s.heap.push (four c1 c2 c3 c4) }) : wpAny (model X.prog X.w) X.A (eval (.Tuple [.Name x1 p1, .Name x2 p2, .Name x3 p3, .Name x4 p4] j p) X.env) Q E s := by
  refine wpAny_Tuple (wpAny_items_cons (name_in J m1 (wpAny_items_cons (name_in J m2 (wpAny_items_cons (name_in J m3 (wpAny_items_cons (name_in J m4 (wpAny_items_nil ?_)))))))))
  exact ⟨by size_fits, q⟩
end
/-- what 'except (c1, c2, c3, c4) as n' wishes of an exception of the body: n stands in slot i, the exception is tracked -/
def wAs4 (K : PySem.W.Frag) (cs : List Value) (i : Nat) (ts : Addr → Value → Option Addr → TS) (Wout : WX) (D : Ends) : WX := fun cls d σ H => ∃ b, PySem.W.exmAny K cls cs = some b ∧ (b = false → Wout cls d σ H) ∧
  (b = true → ∀ a, H a = none → ts a cls d { rt := D.rt, nx := fun σ' => D.nx (σ'.set i none), bk := fun σ' => D.bk (σ'.set i none), ct := fun σ' => D.ct (σ'.set i none) } (σ.set i (some (.ref a))) (upd H a (exq a cls d)))
section
variable {X : Cx} {x1 x2 x3 x4 n : Str} {c1 c2 c3 c4 : Value} {i j : Nat} {body suite : List Stmt} {first : Stmt} {p1 p2 p3 p4 tp hp pos : Pos} {tb : WX → TS} {ts : Addr → Value → Option Addr → TS} {Wout : WX}
theorem ps_try4 (fr : X.env.frame = some X.env.locals) (st : X.stack = X.env :: X.outer) (nex : X.ex = []) (tk : L2N.Takes X Wout) (nd : X.N.Nodup) (at_ : X.N[i]? = some n) (lc : X.env.kindOf n = some .local) (m1 : Names X x1 c1) (m2 : Names X x2 c2) (m3 : Names X x3 c3) (m4 : Names X x4 c4)
    (su : ∀ (a : Addr) (cls : Value) (d : Option Addr) (pn : List (Addr × Obj)), PSs (X.suite a pn) (first :: suite) (ts a cls d))
    (bd : ∀ (W : WX) (pn : List (Addr × Obj)) (xe : Value → Shared → Prop), L2N.Takes (X.tr pn xe) W → PassesOwn (model X.prog X.w) X.A X.env xe → PSs (X.tr pn xe) body (tb W)) :
    PS X (.Try body [.ExceptHandler (some (.Tuple [.Name x1 p1, .Name x2 p2, .Name x3 p3, .Name x4 p4] j tp)) (some n) (first :: suite) hp] [] [] pos) (fun D σ H => tb (wAs4 X.K [c1, c2, c3, c4] i ts Wout D) D σ H) := by
  refine ⟨fun pins s σ H D I h => wpAny_Try_except ?_⟩
  have hA : X.A.frames = some (X.env :: X.outer) := st ▸ I.ok.frames
  have done : ∀ f s1, SP (X.tr (X.pn ++ pins) fun e s₁ => wpAny (model X.prog X.w) X.A (noteFrame e X.env) (fun _ s₂ => wpAny (model X.prog X.w) X.A (setFlight e none) (fun _ s₃ => wpAny (model X.prog X.w) X.A (handleBy e X.env [.ExceptHandler (some (.Tuple [.Name x1 p1, .Name x2 p2, .Name x3 p3, .Name x4 p4] j tp)) (some n) (first :: suite) hp]) (SP X pins D) X.xe s₃) X.xe s₂) X.xe s₁) [] D f s1 → SP X pins D f s1 := by
    intro f s1 q
    cases f with
    | ret v => obtain ⟨y, σ', H', K', r, z⟩ := q; exact ⟨y, σ', H', K'.ofTry I.ok, r, z⟩
    | next => obtain ⟨σ', H', K', z⟩ := q; exact ⟨σ', H', K'.ofTry I.ok, z⟩
    | brk => obtain ⟨σ', H', K', z⟩ := q; exact ⟨σ', H', K'.ofTry I.ok, z⟩
    | cont => obtain ⟨σ', H', K', z⟩ := q; exact ⟨σ', H', K'.ofTry I.ok, z⟩
  refine wpAny_mono ((bd (wAs4 X.K [c1, c2, c3, c4] i ts Wout D) (X.pn ++ pins) _ (fun u s1 flown => ?_) PassesOwn.looking).run [] s σ H D (I.toTry _) h) (fun f s1 q => ?_) (fun _ _ z => z)
  · obtain ⟨a, B, sI, pins', σ1, H1, cls, d, rfl, J0, nb, up, sky, na, os, ag, b, any, no, yes⟩ := flown
    have J : Inv X pins σ1 H1 sI := J0.ofTry I.ok
    refine L2N.Sky.land L2N.Zn.steady hA fr (st ▸ sky) fun h3 fl up3 => ?_
    have land : ∀ {h : Heap}, HandSPX.FlyingZ B (X.env :: X.outer) a (L2N.Zn cls d) h → sI.heap.UpToSlots h → Inv X pins σ1 H1 { s1 with heap := h } := fun f u => J.landed nb f.1 u os ag
    have noF : a ∉ frs (X.env :: X.outer) := fun m => by
      obtain ⟨o, vs, e, _, dt⟩ := fl.there
      obtain ⟨_, o', e', nf⟩ := fl.2.2.1.mem m
      rw [e] at e'
      cases e'
      exact nf _ dt
    have nL : X.env.locals ≠ a := fun c => noF (List.mem_filterMap.mpr ⟨X.env, List.mem_cons_self, by rw [fr, c]⟩)
    have gone : sI.heap.get? a = none := by
      cases e : sI.heap.get? a with
      | none => rfl
      | some o =>
        have z := nb a o e (st ▸ noF)
        rw [fl.2.1] at z
        cases z
    have was : X.s_0.heap.get? a = none := by
      cases e : X.s_0.heap.get? a with
      | none => rfl
      | some o =>
        obtain ⟨o', z⟩ := J.base.there a o e (by rw [nex]; exact List.not_mem_nil)
        rw [gone] at z
        cases z
    have np : ∀ p ∈ X.pn ++ pins, p.1 ≠ a := fun p m c => by
      have z := (J.pin p m).1
      rw [c, gone] at z
      cases z
    have S := inSuite (a := a) (land fl (up.trans up3))
    refine PySem.W.exc_clause_as (names4 (X := X.suite a (X.pn ++ pins)) S m1 m2 m3 m4 ⟨b, ?_, ?_⟩)
    · have kp : ∀ c u, h3.get? c = some u → (h3.push (four c1 c2 c3 c4)).get? c = some u := fun _ _ z => Heap.get?_push_of_some _ z
      obtain ⟨o, vs, e, zz, dt⟩ := fl.there
      have ty : PySem.W.Looks (model X.prog X.w) h3 (typeOf (.ref a)) cls := fun A Q E s k q => wpAny_typeOf_ref (k _ _ e) (by rw [zz.1]; exact q)
      exact PySem.W.exm_tup4 (S.kIn.keeps kp) (ty.keeps kp) (Heap.get?_push_size h3 rfl) any
    · have fl4 := fly_push (o := four c1 c2 c3 c4) fl
      have up4 := (up.trans up3).trans (up_push (o := four c1 c2 c3 c4))
      dsimp only
      revert fl4 up4
      generalize h3.push (four c1 c2 c3 c4) = h4
      intro fl4 up4
      cases b with
      | true =>
        rw [if_pos rfl]
        refine HandSPX.lands_againZ fl4 fun h5 fl5 up5 => ?_
        obtain ⟨o, vs, e, zz, dt⟩ := fl5.there
        have T := inSuite (a := a) (tracked (land fl5 (up4.trans up5)) was na e zz dt np nL)
        refine store_ok (X := X.suite a (X.pn ++ pins)) (v := .ref a) T nd at_ (.inl lc) rfl (fun s5 T5 => ?_) (.inr lc)
        have fin : ∀ {σ6 : L2.St} {H6 : Hp} {s6 : Shared} {Q : Shared → Prop}, Inv (X.suite a (X.pn ++ pins)) [] σ6 H6 s6 → (∀ s7, Inv X pins (σ6.set i none) H6 s7 → Q s7) →
            wpAny (model X.prog X.w) X.A (do bindName X.env n .none; unbindBehindTheSuite X.env n hp) (fun _ s7 => Q s7) X.xe s6 := fun T6 q => gone_ok (ofSuite I.ok T6) nd at_ lc q
        refine wpAny_mono ((su a cls d (X.pn ++ pins)).run [] s5 _ _ _ T5 (yes rfl a na)) (fun f s6 q => ?_) (fun _ _ z => False.elim z)
        cases f with
        | ret v => obtain ⟨y, σ6, H6, T6, r, z⟩ := q; exact fin T6 fun s7 U => ⟨y, _, H6, U, r, z⟩
        | next => obtain ⟨σ6, H6, T6, z⟩ := q; exact fin T6 fun s7 U => ⟨_, H6, U, z⟩
        | brk => obtain ⟨σ6, H6, T6, z⟩ := q; exact fin T6 fun s7 U => ⟨_, H6, U, z⟩
        | cont => obtain ⟨σ6, H6, T6, z⟩ := q; exact fin T6 fun s7 U => ⟨_, H6, U, z⟩
      | false =>
        rw [if_neg Bool.false_ne_true]
        refine wpAny_handleBy_nil ?_
        obtain ⟨k1, k2, k3, o, vs, T, oT, us, e, zz, dt, e1, rest⟩ := id fl4
        have out : wpAny (model X.prog X.w) X.A (setFlight (.ref a) X.env.frame) (fun _ s4 => wpAny (model X.prog X.w) X.A (throw (.ref a) : Sem Flow) (SP X pins D) X.xe s4) X.xe { s1 with heap := h4 } := by
          rw [fr]
          refine HandSPX.setFlight_upZ fl4 fun h5 hh up5 => wpAny_throw (tk _ _ ⟨a, B, sI, pins, σ1, H1, cls, d, rfl, J, nb, up4.trans up5, .inr (.inr (by rw [st]; exact hh)), na, os, ag, no rfl⟩)
        unfold PySem.passOn
        refine wpAny_bind (wpAny_field e dt e1 ?_)
        rw [if_neg (show ¬ ((Value.ref T == Value.none) = true) from by simp)]
        first
          | exact wpAny_bind out
          | exact wpAny_bind (wpAny_pure (wpAny_bind out))
  · have q' := done f s1 q
    cases f with
    | next => exact wpAny_execs_nil q'
    | ret v => exact q'
    | brk => exact q'
    | cont => exact q'
end
end Tr4


namespace L2
open PySem PySem.Spec PyProof.Rows
/-- at a an exception of the class at C: no dict yet, or one that is tracked, too -/
def ExcAt (H : Hp) (a C : Addr) : Prop := H a = some (exo a C none) ∨ ∃ d fs, H a = some (exo a C (some d)) ∧ H d = some (exd d fs)
theorem ExcAt.same {H H' : Hp} {a C : Addr} (h : ExcAt H a C) (q : ∀ b o, H b = some o → H' b = some o) : ExcAt H' a C := by
  rcases h with h | ⟨d, fs, h1, h2⟩
  · exact .inl (q _ _ h)
  · exact .inr ⟨d, fs, q _ _ h1, q _ _ h2⟩
section
variable {X : Cx} {pins : List (Addr × Obj)} {σ : St} {H : Hp} {s : Shared}
theorem ExcAt.inst {a C : Addr} (I : Inv X pins σ H s) (h : ExcAt H a C) : ∃ ox od, PySem.W.InstAt s.heap a ox C od := by
  rcases h with h | ⟨d, fs, h1, h2⟩
  · obtain ⟨t1, e⟩ := exo_at I.hok h
    exact ⟨_, none, e, rfl, rfl, trivial⟩
  · obtain ⟨t1, e⟩ := exo_at I.hok h1
    obtain ⟨mA, hns, _⟩ := exd_at I.hok h2
    obtain ⟨od, ho, _⟩ := lookIn_ns hns
    exact ⟨_, some od, e, rfl, rfl, ho⟩
/-- isinstance(e, c) of such an exception -/
def rIsX (K : PySem.W.Frag) : List V → Hp → VK → Prop := fun xs H Q => ∃ (a C : Addr) (c : V) (u : Value) (b : Bool), xs = [.ref a, c] ∧ ExcAt H a C ∧ ExcC K C ∧ ClsV c u ∧ PySem.W.kitOne K (.ref C) u = some b ∧ Q (.bl b) H
end
section
variable {X : Cx}
theorem call_isX : CallR X (.builtin "isinstance") (rIsX X.K) := by
  intro pins s σ H xs us Q I r h
  obtain ⟨a, D, c, u, b, rfl, he, C, k, e, q⟩ := h
  obtain ⟨u1, u2, rfl, r1, r2⟩ := vals2 r
  have e2 := k.eq r2
  subst e2
  cases (show u1 = Value.ref a from r1)
  obtain ⟨ox, od, J⟩ := he.inst I
  exact PySem.W.kia_one (PySem.W.kitx_exc (by obtain ⟨cd, hc, _⟩ := PySem.W.any_some C.hd; rw [hc]; rfl) C.hg C.hk C.hs C.ha C.hn C.ht C.hm) I.kIn J e (fun z => nomatch z) fun tk => ⟨.bl b, H, I.tok tk, rfl, q⟩
/-- e.f of such an exception -/
def tExF (K : PySem.W.Frag) (f : Str) (te : TE) : TE := fun σ H Q => te σ H fun x H1 => ∃ (a C d : Addr) (v : V) (fs : List (Str × V)), x = .ref a ∧ ExcC K C ∧ PySem.W.findIn K (.ref C) f = some none ∧ H1 a = some (exo a C (some d)) ∧ H1 d = some (exd d fs) ∧ fs.lookup f = some v ∧ Q v H1
theorem pe_exf {e : Expr} {te : TE} {f : Str} {pos : Pos} (he : PE X e te) (hb : attributeBase e f X.env (eval e X.env) = eval e X.env := by rfl) : PE X (.Attribute e f pos) (tExF X.K f te) := by
  refine ⟨fun pins s σ H Q I h => ?_⟩
  refine attr_of hb (thn (he.run pins s σ H _ I h) fun u s1 hh => ?_)
  obtain ⟨x, H1, I1, rx, a, C, d, v, fs, ex, T, hno, ea, ed, hl, q⟩ := hh
  subst ex
  obtain rfl : u = Value.ref a := rx
  obtain ⟨t1, ho⟩ := exo_at I1.hok ea
  obtain ⟨mA, hns, rel⟩ := exd_at I1.hok ed
  obtain ⟨od, hod, hlk⟩ := lookIn_ns hns
  obtain ⟨y, hy, ry⟩ := RelO.some_of (v := v) (o := mA f) (by rw [← hl]; exact rel f)
  have J : PySem.W.InstAt s1.heap a { cls := .ref C, dict := some d, data := .fields #[.ref t1, .none, .none, .none, .bool false, .none] } C (some od) := ⟨ho, rfl, rfl, hod⟩
  exact HandSPX.exc_get I1.kIn J T.hg T.hk T.hs (PySem.W.findObj_own T.hd hno rfl (by rw [hlk, hy])) (handed_of ry) ⟨v, H1, I1.tok _, ry, q⟩
/-- a new exception of the class C whose field f holds what e gives -/
def tExV (C : Addr) (f : Str) (ta : TA) : TE := fun σ H Q => ta σ H fun vs H1 => ∃ v, vs = [v] ∧ ∀ a d, H1 a = none → H1 d = none → d ≠ a → Q (.ref a) (upd (upd H1 d (exd d [(f, v)])) a (exo a C (some d)))
theorem exv_end {pins : List (Addr × Obj)} {σ : St} {H1 : Hp} {hp h' : Heap} {g : Array GenState} {dr : Drawn} {tk tk' : Nat} {os : OsState} {e d C t1 : Addr} {f : Str} {y : V} {u : Value} {Q : VK}
    (I : Inv X pins σ H1 ⟨hp, g, dr, tk, os⟩) (M : PySem.XV.Made hp h' e C d t1 f u) (ry : RelV y u) (q : ∀ a d, H1 a = none → H1 d = none → d ≠ a → Q (.ref a) (upd (upd H1 d (exd d [(f, y)])) a (exo a C (some d)))) :
    EP X pins σ Q (.ref e) ⟨h', g, dr, tk', os⟩ := by
  have hne : H1 e = none := I.hok.fresh M.new
  have hnd : H1 d = none := I.hok.fresh M.dbig
  have nd : ∀ {b : Addr} {o : Obj}, hp.get? b = some o → b ≠ d := fun {b o} z => Nat.ne_of_lt (Nat.lt_of_lt_of_le (Heap.lt_size z) M.dbig)
  have ne : ∀ {b : Addr} {o : Obj}, hp.get? b = some o → b ≠ e := fun {b o} z => Nat.ne_of_lt (Nat.lt_of_lt_of_le (Heap.lt_size z) M.new)
  have U : Un X.fs [] H1 (upd (upd H1 d (exd d [(f, y)])) e (exo e C (some d))) hp h' := {
    keep := fun b o z n _ _ => M.keep b o z
    slot := fun b o z n _ _ => ⟨o.slots, M.keep b o z⟩
    free := fun b o z n _ => by rw [upd_ne (ne z), upd_ne (nd z)]; exact n
    there := fun b o z _ => ⟨o, M.keep b o z⟩
    tups := fun b xs z => by rw [upd_ne (ne_of_none z hne), upd_ne (ne_of_none z hnd)]; exact z
    frzs := fun b o v z => by rw [upd_ne (ne_of_none z hne), upd_ne (ne_of_none z hnd)]; exact z
    tbls := fun b ps z => ⟨#[], by rw [upd_ne (ne_of_none z hne), upd_ne (ne_of_none z hnd), z]; simp⟩ }
  have J : Inv X pins σ (upd (upd H1 d (exd d [(f, y)])) e (exo e C (some d))) ⟨h', g, dr, tk', os⟩ := by
    refine I.un (t' := tk') U fun b o z => ?_
    by_cases hb : b = e
    · subst hb
      rw [upd_same] at z
      cases z
      exact exo_ok M.obj
    · rw [upd_ne hb] at z
      by_cases hd : b = d
      · subst hd
        rw [upd_same] at z
        cases z
        exact exd_ok M.ns (relO_put (fs := []) ry fun g => True.intro)
      · rw [upd_ne hd] at z
        exact (I.hok b o z).stay (fun c v _ w => M.keep c v w) (fun c hc => by rw [upd_ne (ne_of_none hc hne), upd_ne (ne_of_none hc hnd)]; exact hc) (fun c xs hc => by rw [upd_ne (ne_of_none hc hne), upd_ne (ne_of_none hc hnd)]; exact hc)
  exact ⟨.ref e, _, J, rfl, q e d hne hnd M.dne⟩
end
section
variable {X : Cx} {C B fI : Addr} {bn newId initId : String} {bmB : List Value} {qn x : Str} {k : Nat} {a : Expr} {ta : TA} {p pos kpos : Pos}
/-- C(), no own __init__ -/
theorem pe_exv0 (F : ExcBaseFacts bn newId initId bmB) (q : PySem.W.excIn X.K C bmB newId = true) (kC : PySem.W.keepIn X.K (.ref C) = true) (hg : Gl X x) (hm : X.mg x = some (.ref C)) (hdb : (x == ("__debug__" : Str)) = false := by decide) :
    PE X (.Call (.Name x p) [] [] pos) (fun σ H Q => ∀ a, H a = none → Q (.ref a) (upd H a (exo a C none))) := by
  refine ⟨fun pins s σ H Q I h => ?_⟩
  refine wpAny_Call_Name_kw (ld_glob I hg hm ?_ hdb)
  refine PySem.W.callWith_K0 I.kIn kC ?_
  show wpAny _ _ (call (.ref C) []) _ _ _
  obtain ⟨bm, N, nm, qn, bs, hdct, sn, sub, ab, col, dd, k0, k1, k2, k3, k5, mN, hC, hN, hni, T⟩ := exc_obj I.kIn q
  obtain ⟨hp, g, d, t, os⟩ := s
  refine wpAny_call_exc_subT F T hC hN hni (fun h' a hm => ?_) (Nat.zero_le _)
  have hn : H a = none := I.hok.gone hm.new
  obtain ⟨t, ht, _, _⟩ := hm.there
  exact ⟨.ref a, upd H a (exo a C none), I.laidN hm.keeps hm.new hn (exo_ok ht), rfl, h a hn⟩

/-- C(e) -/
theorem pe_exv_value (T : PySem.XV.CF X.K C B bn newId initId bmB) (T2 : PySem.XV.IFc X.K C fI "value") (T3 : PySem.XV.Fn_value X.K fI qn) (hr : Room k X.A) (hg : Gl X x) (hm : X.mg x = some (.ref C)) (ha : PA X [a] ta) (hdb : (x == ("__debug__" : Str)) = false := by decide)
    (he : starEach (a :: []) X.env = (false, eval a X.env) :: starEach [] X.env := by rfl) (hpl : (backTo pos (starEach [] X.env)).any (·.1) = false := by rfl) :
    PE X (.Call (.Name x p) [a] [] pos) (tExV C "value" ta) := by
  refine ⟨fun pins s σ H Q I h => ?_⟩
  refine wpAny_Call_Name_kw (ld_glob I hg hm ?_ hdb)
  refine PySem.W.callWith_K (h₀ := X.base) I.ok.mod.kin T.kC (thn (ha.run pos pins s σ H _ I h) fun us s1 hh => ?_) he hpl
  obtain ⟨vs, H1, I1, r1, v, ev, q1⟩ := hh
  subst ev
  refine ⟨I1.kIn, ?_⟩
  cases r1 with
  | cons rv rn =>
    rename_i v' us'
    cases rn
    show wpAny _ _ (call (.ref C) [v']) _ _ _
    have hlim := I1.nolimit
    obtain ⟨hp, g, dr, tk, os⟩ := s1
    refine wpAny_call (PySem.XV.made_value T T2 T3 (v := v') I1.kIn hlim (by have := hr.dp; omega) (.inl ⟨rfl, rfl⟩) fun h' tk' e d t1 M => ?_)
    exact exv_end I1 M rv q1
/-- C(value=e) -/
theorem pe_exk_value (T : PySem.XV.CF X.K C B bn newId initId bmB) (T2 : PySem.XV.IFc X.K C fI "value") (T3 : PySem.XV.Fn_value X.K fI qn) (hr : Room k X.A) (hg : Gl X x) (hm : X.mg x = some (.ref C)) (ha : PK X [⟨some "value", a, kpos⟩] ta) (hdb : (x == ("__debug__" : Str)) = false := by decide)
    (hall : (backToKw pos (keywordEach [⟨some "value", a, kpos⟩] X.env)).all (·.1.isSome) = true := by rfl) (hks : (backToKw pos (keywordEach [⟨some "value", a, kpos⟩] X.env)).filterMap (·.1) = [("value" : Str)] := by rfl)
    (hpl : ((backTo pos (starEach [] X.env)).any (·.1) || (backToKw pos (keywordEach [⟨some "value", a, kpos⟩] X.env)).any (·.1.isNone)) = false := by rfl) :
    PE X (.Call (.Name x p) [] [⟨some "value", a, kpos⟩] pos) (tExV C "value" ta) := by
  refine ⟨fun pins s σ H Q I h => ?_⟩
  refine wpAny_Call_Name_kw (ld_glob I hg hm ?_ hdb)
  refine PySem.W.callWith_KW0 (h₀ := X.base) I.ok.mod.kin T.kC hall ?_ hpl
  refine thn (ha.run pos pins s σ H _ I h) fun ws s1 hh => ?_
  obtain ⟨vs, H1, I1, r1, v, ev, q1⟩ := hh
  subst ev
  refine ⟨I1.kIn, ?_⟩
  rw [hks]
  cases r1 with
  | cons rv rn =>
    rename_i v' us'
    cases rn
    show wpAny _ _ (call (.ref C) [] [(("value" : Str), v')]) _ _ _
    have hlim := I1.nolimit
    obtain ⟨hp, g, dr, tk, os⟩ := s1
    refine wpAny_call (PySem.XV.made_value T T2 T3 (v := v') I1.kIn hlim (by have := hr.dp; omega) (.inr ⟨rfl, rfl⟩) fun h' tk' e d t1 M => ?_)
    exact exv_end I1 M rv q1

/-- C(e) -/
theorem pe_exv_index (T : PySem.XV.CF X.K C B bn newId initId bmB) (T2 : PySem.XV.IFc X.K C fI "index") (T3 : PySem.XV.Fn_index X.K fI qn) (hr : Room k X.A) (hg : Gl X x) (hm : X.mg x = some (.ref C)) (ha : PA X [a] ta) (hdb : (x == ("__debug__" : Str)) = false := by decide)
    (he : starEach (a :: []) X.env = (false, eval a X.env) :: starEach [] X.env := by rfl) (hpl : (backTo pos (starEach [] X.env)).any (·.1) = false := by rfl) :
    PE X (.Call (.Name x p) [a] [] pos) (tExV C "index" ta) := by
  refine ⟨fun pins s σ H Q I h => ?_⟩
  refine wpAny_Call_Name_kw (ld_glob I hg hm ?_ hdb)
  refine PySem.W.callWith_K (h₀ := X.base) I.ok.mod.kin T.kC (thn (ha.run pos pins s σ H _ I h) fun us s1 hh => ?_) he hpl
  obtain ⟨vs, H1, I1, r1, v, ev, q1⟩ := hh
  subst ev
  refine ⟨I1.kIn, ?_⟩
  cases r1 with
  | cons rv rn =>
    rename_i v' us'
    cases rn
    show wpAny _ _ (call (.ref C) [v']) _ _ _
    have hlim := I1.nolimit
    obtain ⟨hp, g, dr, tk, os⟩ := s1
    refine wpAny_call (PySem.XV.made_index T T2 T3 (v := v') I1.kIn hlim (by have := hr.dp; omega) (.inl ⟨rfl, rfl⟩) fun h' tk' e d t1 M => ?_)
    exact exv_end I1 M rv q1
/-- C(index=e) -/
theorem pe_exk_index (T : PySem.XV.CF X.K C B bn newId initId bmB) (T2 : PySem.XV.IFc X.K C fI "index") (T3 : PySem.XV.Fn_index X.K fI qn) (hr : Room k X.A) (hg : Gl X x) (hm : X.mg x = some (.ref C)) (ha : PK X [⟨some "index", a, kpos⟩] ta) (hdb : (x == ("__debug__" : Str)) = false := by decide)
    (hall : (backToKw pos (keywordEach [⟨some "index", a, kpos⟩] X.env)).all (·.1.isSome) = true := by rfl) (hks : (backToKw pos (keywordEach [⟨some "index", a, kpos⟩] X.env)).filterMap (·.1) = [("index" : Str)] := by rfl)
    (hpl : ((backTo pos (starEach [] X.env)).any (·.1) || (backToKw pos (keywordEach [⟨some "index", a, kpos⟩] X.env)).any (·.1.isNone)) = false := by rfl) :
    PE X (.Call (.Name x p) [] [⟨some "index", a, kpos⟩] pos) (tExV C "index" ta) := by
  refine ⟨fun pins s σ H Q I h => ?_⟩
  refine wpAny_Call_Name_kw (ld_glob I hg hm ?_ hdb)
  refine PySem.W.callWith_KW0 (h₀ := X.base) I.ok.mod.kin T.kC hall ?_ hpl
  refine thn (ha.run pos pins s σ H _ I h) fun ws s1 hh => ?_
  obtain ⟨vs, H1, I1, r1, v, ev, q1⟩ := hh
  subst ev
  refine ⟨I1.kIn, ?_⟩
  rw [hks]
  cases r1 with
  | cons rv rn =>
    rename_i v' us'
    cases rn
    show wpAny _ _ (call (.ref C) [] [(("index" : Str), v')]) _ _ _
    have hlim := I1.nolimit
    obtain ⟨hp, g, dr, tk, os⟩ := s1
    refine wpAny_call (PySem.XV.made_index T T2 T3 (v := v') I1.kIn hlim (by have := hr.dp; omega) (.inr ⟨rfl, rfl⟩) fun h' tk' e d t1 M => ?_)
    exact exv_end I1 M rv q1

/-- C(e) -/
theorem pe_exv_limit (T : PySem.XV.CF X.K C B bn newId initId bmB) (T2 : PySem.XV.IFc X.K C fI "limit") (T3 : PySem.XV.Fn_limit X.K fI qn) (hr : Room k X.A) (hg : Gl X x) (hm : X.mg x = some (.ref C)) (ha : PA X [a] ta) (hdb : (x == ("__debug__" : Str)) = false := by decide)
    (he : starEach (a :: []) X.env = (false, eval a X.env) :: starEach [] X.env := by rfl) (hpl : (backTo pos (starEach [] X.env)).any (·.1) = false := by rfl) :
    PE X (.Call (.Name x p) [a] [] pos) (tExV C "limit" ta) := by
  refine ⟨fun pins s σ H Q I h => ?_⟩
  refine wpAny_Call_Name_kw (ld_glob I hg hm ?_ hdb)
  refine PySem.W.callWith_K (h₀ := X.base) I.ok.mod.kin T.kC (thn (ha.run pos pins s σ H _ I h) fun us s1 hh => ?_) he hpl
  obtain ⟨vs, H1, I1, r1, v, ev, q1⟩ := hh
  subst ev
  refine ⟨I1.kIn, ?_⟩
  cases r1 with
  | cons rv rn =>
    rename_i v' us'
    cases rn
    show wpAny _ _ (call (.ref C) [v']) _ _ _
    have hlim := I1.nolimit
    obtain ⟨hp, g, dr, tk, os⟩ := s1
    refine wpAny_call (PySem.XV.made_limit T T2 T3 (v := v') I1.kIn hlim (by have := hr.dp; omega) (.inl ⟨rfl, rfl⟩) fun h' tk' e d t1 M => ?_)
    exact exv_end I1 M rv q1
/-- C(limit=e) -/
theorem pe_exk_limit (T : PySem.XV.CF X.K C B bn newId initId bmB) (T2 : PySem.XV.IFc X.K C fI "limit") (T3 : PySem.XV.Fn_limit X.K fI qn) (hr : Room k X.A) (hg : Gl X x) (hm : X.mg x = some (.ref C)) (ha : PK X [⟨some "limit", a, kpos⟩] ta) (hdb : (x == ("__debug__" : Str)) = false := by decide)
    (hall : (backToKw pos (keywordEach [⟨some "limit", a, kpos⟩] X.env)).all (·.1.isSome) = true := by rfl) (hks : (backToKw pos (keywordEach [⟨some "limit", a, kpos⟩] X.env)).filterMap (·.1) = [("limit" : Str)] := by rfl)
    (hpl : ((backTo pos (starEach [] X.env)).any (·.1) || (backToKw pos (keywordEach [⟨some "limit", a, kpos⟩] X.env)).any (·.1.isNone)) = false := by rfl) :
    PE X (.Call (.Name x p) [] [⟨some "limit", a, kpos⟩] pos) (tExV C "limit" ta) := by
  refine ⟨fun pins s σ H Q I h => ?_⟩
  refine wpAny_Call_Name_kw (ld_glob I hg hm ?_ hdb)
  refine PySem.W.callWith_KW0 (h₀ := X.base) I.ok.mod.kin T.kC hall ?_ hpl
  refine thn (ha.run pos pins s σ H _ I h) fun ws s1 hh => ?_
  obtain ⟨vs, H1, I1, r1, v, ev, q1⟩ := hh
  subst ev
  refine ⟨I1.kIn, ?_⟩
  rw [hks]
  cases r1 with
  | cons rv rn =>
    rename_i v' us'
    cases rn
    show wpAny _ _ (call (.ref C) [] [(("limit" : Str), v')]) _ _ _
    have hlim := I1.nolimit
    obtain ⟨hp, g, dr, tk, os⟩ := s1
    refine wpAny_call (PySem.XV.made_limit T T2 T3 (v := v') I1.kIn hlim (by have := hr.dp; omega) (.inr ⟨rfl, rfl⟩) fun h' tk' e d t1 M => ?_)
    exact exv_end I1 M rv q1
end
end L2


namespace Tr4
open PySem PySem.Spec PyProof.Rows L2
/-- a caught exception of the class at C with the fields fs (no dict: none) -/
def Caught (H : Hp) (a C : Addr) (fs : List (Str × V)) : Prop := (∃ d, H a = some (exq a (.ref C) (some d)) ∧ H d = some (exd d fs)) ∨ (fs = [] ∧ H a = some (exq a (.ref C) none))
theorem Caught.same {H H' : Hp} {a C : Addr} {fs : List (Str × V)} (c : Caught H a C fs) (s : ∀ b o, H b = some o → H' b = some o) : Caught H' a C fs := by
  rcases c with ⟨d, h1, h2⟩ | ⟨e, h⟩
  · exact .inl ⟨d, s _ _ h1, s _ _ h2⟩
  · exact .inr ⟨e, s _ _ h⟩
section
variable {X : Cx} {pins : List (Addr × Obj)} {σ : L2.St} {H : Hp} {s : Shared} {a C : Addr} {fs : List (Str × V)}
theorem Caught.inst (c : Caught H a C fs) (I : Inv X pins σ H s) : ∃ ox od, PySem.W.InstAt s.heap a ox C od ∧ ∀ f v, fs.lookup f = some v → ∃ oo u, od = some oo ∧ PySem.W.lookIn f oo = some (some u) ∧ RelV v u := by
  rcases c with ⟨d, h1, h2⟩ | ⟨rfl, h⟩
  · obtain ⟨o, vs, e, z, dt⟩ := exq_at I.hok h1
    obtain ⟨m, hns, rel⟩ := exd_at I.hok h2
    obtain ⟨oo, ho, lk⟩ := lookIn_ns hns
    refine ⟨o, some oo, ⟨e, z.1, by unfold PySem.W.notCls; rw [dt] <;> rfl, by rw [z.2.1]; exact ho⟩, fun f v hv => ?_⟩
    obtain ⟨u, hu, ru⟩ := RelO.some_of (v := v) (o := m f) (by rw [← hv]; exact rel f)
    exact ⟨oo, u, rfl, by rw [lk, hu], ru⟩
  · obtain ⟨o, vs, e, z, dt⟩ := exq_at I.hok h
    exact ⟨o, none, ⟨e, z.1, by unfold PySem.W.notCls; rw [dt] <;> rfl, by rw [z.2.1]; trivial⟩, fun f v hv => nomatch hv⟩
end
section
variable {X : Cx}
/-- isinstance(e, c) of a caught exception -/
def rIsQ (K : PySem.W.Frag) : List V → Hp → VK → Prop := fun xs H Q => ∃ (a C : Addr) (fs : List (Str × V)) (c : V) (u : Value) (b : Bool), xs = [.ref a, c] ∧ Caught H a C fs ∧ ExcC K C ∧ ClsV c u ∧ PySem.W.kitOne K (.ref C) u = some b ∧ Q (.bl b) H
theorem call_isQ : CallR X (.builtin "isinstance") (rIsQ X.K) := by
  intro pins s σ H xs us Q I r h
  obtain ⟨a, C, fs, c, u, b, rfl, cg, T, k, e, q⟩ := h
  obtain ⟨u1, u2, rfl, r1, r2⟩ := vals2 r
  have e2 := k.eq r2
  subst e2
  cases (show u1 = Value.ref a from r1)
  obtain ⟨ox, od, J, _⟩ := cg.inst I
  exact PySem.W.kia_one (PySem.W.kitx_exc (by obtain ⟨cd, hc, _⟩ := PySem.W.any_some T.hd; rw [hc]; rfl) T.hg T.hk T.hs T.ha T.hn T.ht T.hm) I.kIn J e (fun z => nomatch z) fun tk => ⟨.bl b, H, I.tok tk, rfl, q⟩
/-- e.f of a caught exception -/
def tQf (K : PySem.W.Frag) (f : Str) (te : TE) : TE := fun σ H Q => te σ H fun x H1 => ∃ (a C : Addr) (fs : List (Str × V)) (v : V), x = .ref a ∧ Caught H1 a C fs ∧ ExcC K C ∧ PySem.W.findIn K (.ref C) f = some none ∧ fs.lookup f = some v ∧ Q v H1
theorem pe_qf {e : Expr} {te : TE} {f : Str} {pos : Pos} (he : PE X e te) (hb : attributeBase e f X.env (eval e X.env) = eval e X.env := by rfl) : PE X (.Attribute e f pos) (tQf X.K f te) := by
  refine ⟨fun pins s σ H Q I h => ?_⟩
  refine attr_of hb (thn (he.run pins s σ H _ I h) fun u s1 hh => ?_)
  obtain ⟨x, H1, I1, rx, a, C, fs, v, ex, cg, T, no, hl, q⟩ := hh
  subst ex
  obtain rfl : u = Value.ref a := rx
  obtain ⟨ox, od, J, look⟩ := cg.inst I1
  obtain ⟨oo, u, rfl, lk, ru⟩ := look f v hl
  exact HandSPX.exc_get I1.kIn J T.hg T.hk T.hs (PySem.W.findObj_own T.hd no rfl lk) (handed_of ru) ⟨v, H1, I1.tok _, ru, q⟩
/-- raise of a value that is a new own exception with a dict -/
theorem pmk_val {e : Expr} {te : TE} (hx : X.ex = []) (he : PE X e te) :
    L2N.PMk X e (fun σ H Q => te σ H fun x H1 => ∃ (a C d : Addr) (fs : List (Str × V)), x = .ref a ∧ H1 a = some (exo a C (some d)) ∧ H1 d = some (exd d fs) ∧ Fr0 X.H_0 a ∧ Raises X (.ref C) ∧ Q (.ref C) (some d) (delH H1 a)) := by
  intro pins s σ H Q I h
  refine wpAny_mono (he.run pins s σ H _ I h) (fun u s1 hu => ?_) fun _ _ x => x
  obtain ⟨v, H1, I1, r1, a, C, d, fs, rfl, ha, hd, h0, hr, q⟩ := hu
  cases r1
  obtain ⟨t1, ho⟩ := exo_at I1.hok ha
  obtain ⟨G, gs, ga, J⟩ := I1.untrack ha h0 hx
  refine ⟨a, _, _, { s1 with heap := G }, delH H1 a, .ref C, some d, rfl, J, gs, ga, ho, ⟨rfl, rfl, fun vs z => ?_⟩, rfl, rfl, delH_same, rfl, I1.bare, hr, q⟩
  cases z
  rfl
/-- .. without -/
theorem pmk_val0 {e : Expr} {te : TE} (hx : X.ex = []) (he : PE X e te) :
    L2N.PMk X e (fun σ H Q => te σ H fun x H1 => ∃ (a C : Addr), x = .ref a ∧ H1 a = some (exo a C none) ∧ Fr0 X.H_0 a ∧ Raises X (.ref C) ∧ Q (.ref C) none (delH H1 a)) := by
  intro pins s σ H Q I h
  refine wpAny_mono (he.run pins s σ H _ I h) (fun u s1 hu => ?_) fun _ _ x => x
  obtain ⟨v, H1, I1, r1, a, C, rfl, ha, h0, hr, q⟩ := hu
  cases r1
  obtain ⟨t1, ho⟩ := exo_at I1.hok ha
  obtain ⟨G, gs, ga, J⟩ := I1.untrack ha h0 hx
  refine ⟨a, _, _, { s1 with heap := G }, delH H1 a, .ref C, none, rfl, J, gs, ga, ho, ⟨rfl, rfl, fun vs z => ?_⟩, rfl, rfl, delH_same, rfl, I1.bare, hr, q⟩
  cases z
  rfl
end
end Tr4


/-! defs that an except suite calls: an exception is handled, no repr is under way, nothing is raised -/
namespace Tr4
open PySem PySem.Spec PyProof.Rows L2
abbrev hot (A : Around) (a : Addr) : Around := A.mark (some (.ref a))
structure FnQ (P : Program) (w : World) (K : PySem.W.Frag) (mg : Str → Option Value) (base : Heap) (k : Nat) (f : Addr) (fd : FuncData) (ps : List Str) (sp : Sp) : Prop where
  len : ∀ vs H Q E, sp vs H Q E → vs.length = ps.length
  run : ∀ (B : Around) (a : Addr) (outer : List Env) (s : Shared) (H : Hp) (args : Args) (us : List Value) (vs : List V) (Q : VK) (E : XK), B.guards = some [] → Room k B → Env0 P w K mg base B outer s H → BindsTo s fd args (ps.zip us) → Vals vs us → sp vs H Q E →
    codeAny (model P w) (hot B a) (.call (.ref f) args) (CR CX0 outer P w H s Q E) s
section
variable {P : Program} {w : World} {K : PySem.W.Frag} {mg : Str → Option Value} {base : Heap} {j k : Nat} {f : Addr} {fd : FuncData} {N ps : List Str} {sp : Sp}
theorem FnQ.mono (F : FnQ P w K mg base j f fd ps sp) (h : j ≤ k) : FnQ P w K mg base k f fd ps sp := ⟨F.len, fun B a outer s H args us vs Q E hq hr => F.run B a outer s H args us vs Q E hq (hr.mono h)⟩
/-- a def by its body, read in the context of a suite -/
theorem _root_.L2.Fun.okQ {x qual : Str} {st : Stmt} (F : Fun K x qual st f fd) (S : FnScope N ps (defScope st)) (len : ∀ vs H Q E, sp vs H Q E → vs.length = ps.length)
    (body : ∀ (cdv : Value) (B : Around) (a : Addr) (outer : List Env) (s : Shared) (H : Hp) (vs : List V) (Q : VK) (E : XK), (B.deeper (envOfC qual (defScope st) s.heap.objs.size f cdv)).guards = some [] → Room k (B.deeper (envOfC qual (defScope st) s.heap.objs.size f cdv)) → sp vs H Q E →
      ∃ t, PSs ((cxOf CX0 P w K mg base N qual (defScope st) f cdv B outer s H E).suite a []) (defBody st) t ∧ t { nx := fun _ H' => Q .non H', rt := Q } (start N vs) H) : FnQ P w K mg base (k + 1) f fd ps sp := by
  obtain ⟨oc, od, kV, doc, pm, an, cdv, ct, osl, rfl, lk, hcd⟩ := F.ex
  refine ⟨len, fun B a outer s H args us vs Q E hq hr e0 hb rv hsp => ?_⟩
  have KX : K.In s.heap := e0.mod.kin.keeps fun b o e => (e0.bs b o e).1
  have lim : s.heap.NoLimit := e0.mod.nolimit.keeps fun b o e => (e0.bs b o e).1
  refine codeAny_call_function (show (hot B a).depth < _ from hr.depth) (KX _ _ lk) rfl S.co S.gen rfl (PySem.W.codeRec_of KX hcd) (hb _ _ _ _ ?_)
  refine wpAny_newFunctionEnv_cells S.kind (fun ⟨n, v⟩ hy => ?_) fun env he s1 x => ?_
  · rcases S.par n (List.of_mem_zip hy).1 with q | q
    · exact .inl q
    · exact .inr ⟨q, PySem.W.cellsFrom_some _ _ _ (.inl q)⟩
  subst he
  obtain ⟨t, ht, rd⟩ := body cdv B a outer s H vs Q E hq (hr.deeper _) hsp
  have J := inSuite (a := a) (inv_start (CX := CX0) (E := E) S hr.hd e0 (len _ _ _ _ hsp) rv x)
  refine ⟨lim.keeps x.toInCall.keep, codeAny_func (wpAny_mono (ht.run [] s1 (start N vs) H _ J rd) (fun fl z hz => ?_) fun e z hz => hz.elim)⟩
  cases fl with
  | ret u =>
    obtain ⟨v, σ', H', J, r, q⟩ := hz
    exact ⟨v, H', J.os, J.bare, J.base, J.hok, r, q⟩
  | next =>
    obtain ⟨σ', H', J, q⟩ := hz
    exact ⟨V.non, H', J.os, J.bare, J.base, J.hok, rfl, q⟩
  | brk =>
    obtain ⟨_, _, _, q⟩ := hz
    exact q.elim
  | cont =>
    obtain ⟨_, _, _, q⟩ := hz
    exact q.elim
end
section
variable {X : Cx} {k : Nat} {a f : Addr} {fd : FuncData} {ps : List Str} {sp : Sp} {dvs : List V} {ds : List Value} {E : XK} {x : Str} {p pos : Pos} {e : Expr} {es : List Expr} {t : TA} {pn : List (Addr × Obj)}
/-- f(e, ..) in a suite -/
theorem pe_callQ (F : FnQ X.prog X.w X.K X.mg X.base k f fd ps sp) (hq : X.A.guards = some []) (hr : Room k X.A) (hg : Gl X x) (hm : X.mg x = some (.ref f)) (hk : PySem.W.keepIn X.K (.ref f) = true) (hb : Binds X.K fd ps ds) (hd : Vals dvs ds)
    (ha : PA (X.suite a pn) (e :: es) t) (hdb : (x == ("__debug__" : Str)) = false := by decide) (he : starEach (e :: es) X.env = (false, eval e X.env) :: starEach es X.env := by rfl) (hpl : (backTo pos (starEach es X.env)).any (·.1) = false := by rfl) :
    PE (X.suite a pn) (.Call (.Name x p) (e :: es) [] pos) (tCall sp dvs E t) := by
  refine ⟨fun pins s σ H Q I h => wpAny_Call_Name_kw (ld_glob I hg hm (PySem.W.callWith_K (h₀ := X.base) I.ok.mod.kin hk (thn (ha.run pos pins s σ H _ I h) fun us s1 ⟨vs, H1, I1, r, q⟩ => ⟨I1.kIn, ?_⟩) he hpl) hdb)⟩
  have rr : Vals (vs ++ dvs) (us ++ ds) := r.append hd
  have v0 : Env0 X.prog X.w X.K X.mg X.base (hot X.A a) X.stack s1 H1 := I1.env0
  have v1 : Env0 X.prog X.w X.K X.mg X.base X.A X.stack s1 H1 := ⟨v0.frames, v0.mod, v0.bs, v0.bsz, v0.funs, v0.frf, v0.hok, v0.bare⟩
  refine wpAny_call (codeAny_mono (F.run X.A a X.stack s1 H1 ⟨us, []⟩ (us ++ ds) (vs ++ dvs) Q E hq hr v1 (hb s1 us I1.kIn (by rw [← rr.length]; exact F.len _ _ _ _ q)) rr q) fun r z hz => ?_)
  cases r with
  | error e => exact False.elim hz
  | ok fl =>
    cases fl with
    | ret u => exact I1.after hz
    | next => exact False.elim hz
    | brk => exact False.elim hz
    | cont => exact False.elim hz
end
end Tr4


/-! list(range(..)) while an exception is handled -/
namespace PySem
namespace Hl
open Sem (wp)
def Cool (x : Addr) (h : Heap) : Prop := ∃ (o : Obj) (vs : Array Value), h.get? x = some o ∧ o.data = .fields vs ∧ vs[2]? = some .none
theorem walk_hot {prog : Program} {w : World} {A : Around} {x : Addr} (hh : A.handled = some (.ref x)) {it : Addr} (ne : it ≠ x) (lo : Int) (n : Nat) :
    Walks prog w A it [it, x] [it] n (fun i v => ∃ t, v = .int (lo + i * 1) t) (fun i h => IsRangeIter h it (lo + (i : Nat) * 1) ((n : Int) - (i : Nat)) 1 ∧ Cool x h) := by
  refine ⟨fun b hb => List.mem_cons.mpr (.inl (List.mem_singleton.mp hb)), fun i h h' ⟨k1, o, vs, k2, k3⟩ k => ⟨k it List.mem_cons_self _ k1, o, vs, k x (List.mem_cons_of_mem _ List.mem_cons_self) _ k2, k3⟩, fun i s Q E hi st q => ?_, fun s Q E st q => ?_, fun i s Q E st q => wpAny_pyIter_rangeiter st.1 q⟩
  · obtain ⟨k1, o, vs, k2, k3⟩ := st
    refine wpAny_pyNext_range_item k1 (by omega) fun h' hit' sb => ?_
    have a1 : lo + ((i + 1 : Nat) : Int) * 1 = lo + (i : Int) * 1 + 1 := by omega
    have a2 : (n : Int) - ((i + 1 : Nat) : Int) = (n : Int) - (i : Int) - 1 := by omega
    have old : ∀ b u, b ≠ it → s.heap.get? b = some u → h'.get? b = some u := fun b u nb e => sb.extBut b u nb e
    refine q _ h' _ ⟨_, rfl⟩ ⟨?_, o, vs, old x o (Ne.symm ne) k2, k3⟩ fun b u nb e => old b u (fun z => nb (List.mem_singleton.mpr z)) e
    rw [a1, a2]
    exact hit'
  · obtain ⟨k1, k2⟩ := st
    exact HotX.pyNext_range_end_hot ⟨hh, k2⟩ k1 (by omega) fun h' ex => q h' s.toks fun b u _ e => ex b u e
section
variable {prog : Program} {w : World} {A : Around} {E : Value → Shared → Prop} {s : Shared} {r x : Addr} {lo hi : Int} {t u v : Tok} {n : Nat}
theorem ext_hot {R : Result → Shared → Prop} (hh : A.handled = some (.ref x)) (cool : Cool x s.heap) (rg : IsRange s.heap r lo hi 1 t u v) (sm : Builtin.Range.small lo hi 1 = true) (sz : Builtin.Range.rangeSize lo hi 1 = n) (le : n ≤ 16777216)
    (D : Addr) (given : Value) (cap : Nat) (at_ : s.heap.get? D = some { cls := .type "list", data := .seq #[] cap })
    (fin : ∀ h' tk its c', (∀ b o, b ≠ D → s.heap.get? b = some o → h'.get? b = some o) → h'.get? D = some { cls := .type "list", dict := none, data := .seq its c', slots := #[] } → ItemsOf (fun i v => ∃ t, v = .int (lo + i * 1) t) its n → R (.ok (.ret given)) { s with heap := h', toks := tk }) :
    wpAny (model prog w) A.in1 (Builtin.List.listExtendWith (.ref D) (.ref r) given) (fun f z => match f with | .done y => R (.ok y) z | .again c => c.quiet = true ∧ codeAny (model prog w) A c R z) (fun e z => R (.error e) z) s := by
  have cool0 := cool
  obtain ⟨xo, xv, x1, x2, x3⟩ := cool
  have dr : D ≠ r := fun c => by rw [c, rg] at at_; simp at at_
  have dx : D ≠ x := fun c => by
    rw [c, x1] at at_
    cases at_
    cases x2
  have lt : ∀ {b o}, s.heap.get? b = some o → b ≠ s.heap.objs.size := fun e => Nat.ne_of_lt (Heap.lt_size e)
  have out : D ∉ [s.heap.objs.size, x] := fun m => by
    rcases List.mem_cons.mp m with c | m
    · exact lt at_ c
    · exact dx (List.mem_singleton.mp m)
  have W := (walk_hot (prog := prog) (w := w) (A := A.in1) hh (it := s.heap.objs.size) (Ne.symm (lt x1)) lo n).toS
  have loop : ∀ (h : Heap) (c1 tk : Nat), IsRangeIter h s.heap.objs.size (lo + ((0 : Nat) : Int) * 1) ((n : Int) - ((0 : Nat) : Int)) 1 → (∀ b o, b ≠ D → s.heap.get? b = some o → h.get? b = some o) → h.get? D = some { cls := .type "list", data := .seq #[] c1 } →
      codeAny (model prog w) A (.builtin "list.extend.loop" ⟨[.ref D, .ref s.heap.objs.size, given], []⟩) R { s with heap := h, toks := tk } := by
    intro h c1 tk iter keep here
    refine codeAny_extend_loopS W (by rw [sizeLine_eq]; omega) D out given n 0 _ #[] c1 rfl (Nat.zero_le _) ⟨iter, xo, xv, keep x xo (Ne.symm dx) x1, x2, x3⟩ here (ItemsOf.nil _) fun z its c' mv there items => ?_
    rw [mv.eq_with]
    refine fin z.heap z.toks its c' (fun b o nb e => mv.heap b o (fun m => ?_) (keep b o nb e)) there items
    rcases List.mem_cons.mp m with c | m
    · exact nb c
    · exact lt e (List.mem_singleton.mp m)
  unfold Builtin.List.listExtendWith
  refine wpAny_bind (wpAny_typeOf (T := "range") ⟨_, rg, rfl⟩ ?_)
  have g1 : Builtin.List.listSameRef (.ref D) (.ref r) = false := by simp [Builtin.List.listSameRef, dr]
  have g2 : (Value.type "range" == Value.type "list") = false := by decide
  have g3 : (Value.type "range" == Value.type "tuple") = false := by decide
  simp only [g1, g2, g3, Bool.or_false, Bool.false_eq_true, if_false]
  refine wpAny_bind (wpAny_pyIter_range rg sm (wpAny_bind (wpAny_holding (wpAny_hint_range (n := n) (Heap.get?_push_of_some _ rg) sz (by omega) ?_))))
  have iter : IsRangeIter (s.heap.push { cls := .type "range_iterator", data := .fields #[rawInt lo, rawInt (Builtin.Range.rangeSize lo hi 1), rawInt 1] }) s.heap.objs.size (lo + ((0 : Nat) : Int) * 1) ((n : Int) - ((0 : Nat) : Int)) 1 := by
    show IsRangeIter _ _ _ _ _
    rw [sz]
    simpa using Heap.get?_push_size _ rfl
  have here := Heap.get?_push_of_some { cls := .type "range_iterator", data := .fields #[rawInt lo, rawInt (Builtin.Range.rangeSize lo hi 1), rawInt 1] } at_
  refine wpAny_ite_split (fun _ => ?_) (fun _ => wpAny_pure ⟨plainId_quiet F.plain_extend_loop _, loop _ cap _ iter (fun b o _ e => Heap.get?_push_of_some _ e) here⟩)
  refine wpAny_bind (wpAny_rule (wpAny_bind ?_))
  show wpAny _ _ (updateSeq D (·.push .none) >>= fun _ => updateSeq D (·.pop)) _ _ _
  have here2 := Heap.get?_update_self (Obj.mapSeq (·.push Value.none)) here rfl
  have here3 := Heap.get?_update_self (Obj.mapSeq (·.pop)) here2 rfl
  refine wpAny_bind (wpAny_updateSeq here rfl (wpAny_updateSeq (hz := by seq_fits) here2 rfl (wpAny_pure ⟨plainId_quiet F.plain_extend_loop _, loop _ _ _ ?_ (fun b o nb e => ?_) here3⟩)))
  · exact (Heap.get?_update_other _ _ (lt at_)).trans ((Heap.get?_update_other _ _ (lt at_)).trans iter)
  · exact (Heap.get?_update_other _ _ nb.symm).trans ((Heap.get?_update_other _ _ nb.symm).trans (Heap.get?_push_of_some _ e))
theorem list_hot {Q : Value → Shared → Prop} (hh : A.handled = some (.ref x)) (cool : Cool x s.heap) (rg : IsRange s.heap r lo hi 1 t u v) (sm : Builtin.Range.small lo hi 1 = true) (sz : Builtin.Range.rangeSize lo hi 1 = n) (le : n ≤ 16777216)
    (q : ∀ h' tk its c', (∀ b o, s.heap.get? b = some o → h'.get? b = some o) → h'.get? s.heap.objs.size = some { cls := .type "list", dict := none, data := .seq its c', slots := #[] } → ItemsOf (fun i v => ∃ t, v = .int (lo + i * 1) t) its n → Q (.ref s.heap.objs.size) { s with heap := h', toks := tk }) :
    wpAny (model prog w) A (call (.type "list") [.ref r]) Q E s := by
  refine callType_codes (Q₁ := fun o z => o = .ref s.heap.objs.size ∧ z = { s with heap := s.heap.push { cls := .type "list", data := .seq #[] } }) F.called_list (F.typeCall_list_1 _) F.entry_list_init (code_list_new _ ⟨rfl, rfl⟩) fun o z hz => ?_
  obtain ⟨rfl, rfl⟩ := hz
  have new : (s.heap.push { cls := .type "list", data := .seq #[] }).get? s.heap.objs.size = some { cls := .type "list", data := .seq #[] } := Heap.get?_push_size _ rfl
  have ndr : s.heap.objs.size ≠ r := Nat.ne_of_gt (Heap.lt_size rg)
  obtain ⟨xo, xv, x1, x2⟩ := cool
  have ndx : s.heap.objs.size ≠ x := Nat.ne_of_gt (Heap.lt_size x1)
  have oth : ∀ b o, b ≠ s.heap.objs.size → (s.heap.push { cls := .type "list", data := .seq #[] }).get? b = some o → ((s.heap.push { cls := .type "list", data := .seq #[] }).update s.heap.objs.size (Obj.mapSeq (fun _ => (#[] : Array Value)))).get? b = some o := fun b o nb e => (Heap.get?_update_other _ _ nb.symm).trans e
  refine ⟨⟨_, new, rfl⟩, F.args_list_init_2 _ _, ?_⟩
  show wpAny _ _ (do let old ← Builtin.List.listItems (.ref s.heap.objs.size); Builtin.List.listUpdate (.ref s.heap.objs.size) (fun _ => #[]); letGo old.toList.reverse; Builtin.List.listExtendWith (.ref s.heap.objs.size) (.ref r) .none) _ _ _
  refine wpAny_bind ?_
  unfold Builtin.List.listItems
  refine wpAny_bind (wpAny_seqItems new rfl (wpAny_pure ?_))
  show wpAny _ _ (updateSeq s.heap.objs.size (fun _ => #[]) >>= fun _ => letGo (#[] : Array Value).toList.reverse >>= fun _ => Builtin.List.listExtendWith (.ref s.heap.objs.size) (.ref r) .none) _ _ _
  refine wpAny_bind (wpAny_updateSeq new rfl (wpAny_bind (wpAny_letGo ?_)))
  refine ext_hot (A := A.in1) hh ⟨xo, xv, oth _ _ ndx.symm (Heap.get?_push_of_some _ x1), x2⟩ (oth _ _ ndr.symm (Heap.get?_push_of_some _ rg)) sm sz le s.heap.objs.size .none _ (Heap.get?_update_self _ new rfl) fun h' tk its c' k there items => ⟨rfl, ?_⟩
  exact q h' tk its c' (fun b o e => k b o (Nat.ne_of_lt (Heap.lt_size e)) (oth b o (Nat.ne_of_lt (Heap.lt_size e)) (Heap.get?_push_of_some _ e))) there items
end
end Hl
end PySem
namespace Tr4
open PySem PySem.Spec PyProof.Rows L2
section
variable {X : Cx} {a : Addr} {pn : List (Addr × Obj)} {e : Expr} {te : L2.St → Hp → (Int → Int → Hp → Prop) → Prop}
/-- list(range(..)) in a suite, the caught exception tracked -/
def tLstRgQ (a : Addr) (te : L2.St → Hp → (Int → Int → Hp → Prop) → Prop) : TE := fun σ H Q => te σ H fun lo hi H1 => RgOk lo hi ∧ (∃ cls d, H1 a = some (exq a cls d)) ∧ ∀ q, H1 q = none → Q (.ref q) (upd H1 q (.lst (rgV lo hi)))
theorem pe_listRgQ {p pos : Pos} (hg : Gl X "list") (hm : X.mg "list" = none) (he : PRg (X.suite a pn) e te) (na : starEach [e] X.env = (false, eval e X.env) :: starEach [] X.env := by rfl) : PE (X.suite a pn) (.Call (.Name "list" p) [e] [] pos) (tLstRgQ a te) := by
  refine ⟨fun pins s σ H Q I h => ?_⟩
  refine Call_ (ld_blt I hg hm boot_list (PyProof.Rows.callWith_type1 (args_cons (thn (he pins s σ H _ I h) fun x s1 ⟨r, lo, hi, t, u, v, H1, ex, hr, I1, ok, ⟨cls, d, tracked⟩, q⟩ => args_nil ?_) na) na))
  subst ex
  obtain ⟨b1, b2, b3, b4, b5⟩ := ok
  obtain ⟨o, vs, g1, g2, g3⟩ := exq_at I1.hok tracked
  refine Hl.list_hot (n := (hi - lo).toNat) (x := a) rfl ⟨o, vs, g1, g3, g2.2.2 vs g3⟩ hr (small_one b1 b2 b3 b4) (rangeSize_nat lo hi) (by omega) fun h' tk its c' k there items => ?_
  refine ⟨.ref s1.heap.objs.size, _, I1.laid k (Nat.le_refl _) (show ObjOk X.prog X.w _ _ _ (.lst (rgV lo hi)) from ⟨by rw [rgV_length, sizeLine_eq]; omega, its.toList, c', vals_rg items, ?_⟩), rfl, q _ (I1.hok.fresh (Nat.le_refl _))⟩
  rw [Array.toArray_toList]
  exact there
end
end Tr4


/-! a lambda without parameters handed to a def that tries it; what it raises has no context -/
namespace Tr4
open PySem PySem.Spec PyProof.Rows L2 LamX
section
variable {X : Cx} {pins : List (Addr × Obj)} {σ : L2.St} {H HZ : Hp} {s s1 : Shared}
/-- the context of the lambda's body -/
def lamN (X : Cx) (A : Around) (outer : List Env) (s : Shared) (H : Hp) (E : XK) (scope : Scope) (f c : Addr) : Cx := (lamCx X A outer s H E scope f c).tr [] fun e z =>
  wpAny (model X.prog X.w) (A.deeper (lamEnv X scope s.heap.objs.size f c)) (leaving (lamEnv X scope s.heap.objs.size f c) e) (fun _ y => L2N.CX X.prog X.w outer H s E e y) (fun e' y => L2N.CX X.prog X.w outer H s E e' y) z
abbrev tried (X : Cx) (Ng : List Str) (q : Str) (sg : Scope) (g : Addr) (cd : Value) (s : Shared) (H : Hp) (pn : List (Addr × Obj)) (xe : Value → Shared → Prop) : Cx := (cxOf CX0 X.prog X.w X.K X.mg X.base Ng q sg g cd X.A X.stack s H E0).tr pn xe
/-- x(), in the def that got the lambda -/
theorem pe_actN {Ng : List Str} {q : Str} {sg : Scope} {g f c : Addr} {cd pm ct : Value} {params : Arguments} {body : Expr} {scope : Scope} {k i : Nat} {x : Str} {pn : List (Addr × Obj)} {xe : Value → Shared → Prop} {W : WX} {tb : XK → TE} {p1 p2 : Pos}
    (I : Inv X pins σ H s) (L : LamS X.env.scope scope) (at_ : s.heap.get? f = some (PySem.W.kla_obj "<lambda>" (X.env.qual ++ "<lambda>") params body scope (cloFrom X.env.cells scope.names []) pm c ct)) (un : H f = none) (nf : f ∉ frs X.stack)
    (bi : bindArgs (PySem.W.kla_fn "<lambda>" (X.env.qual ++ "<lambda>") params body scope (cloFrom X.env.cells scope.names []) pm (.ref c) ct) ⟨[], []⟩ = pure []) (tk : L2N.Takes (tried X Ng q sg g cd s H pn xe) W)
    (hr : Room (k + 1) (X.A.deeper (envOfC q sg s.heap.objs.size g cd))) (bd : ∀ (A : Around) (outer : List Env) (s : Shared) (H : Hp) (E : XK), Room k (A.deeper (lamEnv X scope s.heap.objs.size f c)) → PE (lamN X A outer s H E scope f c) body (tb E))
    (hN : Ng[i]? = some x) (hv : Vis sg x) (d1 : (x == ("__debug__" : Str)) = false := by decide) (d2 : (x == ("__classdict__" : Str)) = false := by decide) :
    PE (tried X Ng q sg g cd s H pn xe) (.Call (.Name x p1) [] [] p2) (fun τ G Q => τ[i]? = some (some (.ref f)) ∧ G c = some (CodeO c (X.env.qual ++ "<lambda>")) ∧ ∃ (E : XK) (R : VK), (∀ cls d G1, E cls d G1 → W cls d τ G1) ∧ (∀ v G1, R v G1 → Q v G1) ∧ tb E σ G R) := by
  refine ⟨fun pinz z τ G Q J ⟨here, code, E, R, hE, hR, rd⟩ => ?_⟩
  refine wpAny_Call_Name_kw (thn ((pe_var (pos := p1) (i := i) hN hv d1 d2).run pinz z τ G (fun v G1 => v = .ref f ∧ G1 = G) J ⟨.ref f, here, rfl, rfl⟩) fun u y ⟨v, G1, J1, rv, ev, eG⟩ => ?_)
  subst ev
  subst eG
  obtain rfl : u = Value.ref f := rv
  have fy := J1.base.keep f _ at_ un nf (fun m => nomatch (show f ∈ ([] : List Addr) from m))
  refine PySem.W.callWith_F0 ⟨_, _, _, _, fy⟩ ?_
  obtain ⟨⟨oc, vs, t, k1, k2, k3⟩, _, _⟩ := J1.hok c _ code
  have run : codeAny (model X.prog X.w) (X.A.deeper (envOfC q sg s.heap.objs.size g cd)) (.call (.ref f) ⟨[], []⟩) (CR (L2N.CX X.prog X.w) (envOfC q sg s.heap.objs.size g cd :: X.stack) X.prog X.w G1 y Q E) y := by
    refine PySem.W.kla_callFunE hr.depth fy rfl L.co L.gen rfl ⟨c, oc, vs, t, rfl, k1, k2, k3⟩ ?_
    rw [bi]
    refine wpAny_pure (wpAny_newFunctionEnv (fun n hn => (L.own n hn).2) (fun n hn => absurd hn (by simp)) (fun h1 ns sb => ⟨J1.nolimit.fresh _ sb, ?_⟩) L.kind)
    have kp : ∀ b o, y.heap.get? b = some o → h1.get? b = some o := fun b o e => sb.extBut b o (Nat.ne_of_lt (Heap.lt_size e)) (Heap.get?_push_of_some _ e)
    have st := lam_start2 (E := E) (f := f) (c' := c) (tk := y.toks + ([] : List (Str × Value)).length) I L J1.env0 hr.hd J1.base ns kp
    have U := st.toTry fun e z => wpAny (model X.prog X.w) ((X.A.deeper (envOfC q sg s.heap.objs.size g cd)).deeper (lamEnv X scope y.heap.objs.size f c)) (leaving (lamEnv X scope y.heap.objs.size f c) e) (fun _ y' => L2N.CX X.prog X.w (envOfC q sg s.heap.objs.size g cd :: X.stack) G1 y E e y') (fun e' y' => L2N.CX X.prog X.w (envOfC q sg s.heap.objs.size g cd :: X.stack) G1 y E e' y') z
    refine PySem.W.kla_codeExpr (wpAny_mono ((bd _ _ y G1 E (hr.deeper _)).run [] _ _ G1 R U rd) (fun v z hq => ?_) fun e z hq => hq)
    obtain ⟨v', G2, J2, r2, q2⟩ := hq
    exact ⟨v', G2, J2.os, J2.bare, J2.base, J2.hok, r2, hR _ _ q2⟩
  refine wpAny_call (codeAny_mono run fun r z hq => ?_)
  cases r with
  | error e => exact tk _ _ (L2N.XE.of_call J1 hE hq)
  | ok fl =>
    cases fl with
    | ret u => exact J1.after hq
    | next => exact False.elim hq
    | brk => exact False.elim hq
    | cont => exact False.elim hq
end
end Tr4


namespace Tr4
open PySem PySem.Spec PyProof.Rows L2 LamX
/-- the def g (name x, one parameter a) that calls what it got: TT: what it makes of the lambda's reading -/
def GivesN (X : Cx) (k : Nat) (Ng : List Str) (x : Str) (sg : Scope) (g : Addr) (cd : Value) (bg : List Stmt) (a : Str) (q : Str) (TT : (XK → Hp → VK → Prop) → Hp → VK → Prop) : Prop :=
  ∀ (f c : Addr) (s : Shared) (H : Hp) (Q : VK) (rd : XK → Hp → VK → Prop), (X.A.deeper (envOfC x sg s.heap.objs.size g cd)).guards = some [] → Room k (X.A.deeper (envOfC x sg s.heap.objs.size g cd)) →
    (∀ (W : WX) (pn : List (Addr × Obj)) (xe : Value → Shared → Prop) (p1 p2 : Pos), L2N.Takes (tried X Ng x sg g cd s H pn xe) W →
      PE (tried X Ng x sg g cd s H pn xe) (.Call (.Name a p1) [] [] p2) (fun τ G R => τ[0]? = some (some (.ref f)) ∧ G c = some (CodeO c q) ∧ ∃ (E : XK) (R' : VK), (∀ cls d G1, E cls d G1 → W cls d τ G1) ∧ (∀ v G1, R' v G1 → R v G1) ∧ rd E G R')) →
    H c = some (CodeO c q) → TT rd H Q →
    ∃ t, PSs (cxOf CX0 X.prog X.w X.K X.mg X.base Ng x sg g cd X.A X.stack s H E0).nox bg t ∧ t { nx := fun _ H' => Q .non H', rt := Q } (L2.start Ng [.ref f]) H
section
variable {X : Cx}
/-- x(lambda: body) -/
theorem pe_lamN {T : List (Addr × Str)} {TT : (XK → Hp → VK → Prop) → Hp → VK → Prop} {x a : Str} {g c P : Addr} {j k : Nat} {st : Stmt} {fd : FuncData} {Ng : List Str} {params : Arguments} {body : Expr} {scope : Scope} {t : XK → TE} {p lp pos : Pos}
    (hq : X.A.guards = some []) (hr : Room (k + 2) X.A) (hg : Gl X x) (hm : X.mg x = some (.ref g)) (F : Fun X.K x x st g fd) (hb : Binds X.K fd [a] []) (S : FnScope Ng [a] (defScope st)) (h0 : Ng[0]? = some a) (va : Vis (defScope st) a)
    (G : ∀ cd, GivesN X (k + 1) Ng x (defScope st) g cd (defBody st) a (X.env.qual ++ "<lambda>") TT) (TB : TabB X.base X.mg c P) (hc : X.env.code = .ref c) (mT : (P, X.env.qual ++ "<lambda>") ∈ T) (uT : ∀ p ∈ T, p.1 = P → p.2 = X.env.qual ++ "<lambda>") (L : LamS X.env.scope scope) (df : defaultsOf params X.env = ([], []))
    (bi : ∀ (q : Str) (cl : List (Str × Addr)) (pm cv ct : Value), bindArgs (PySem.W.kla_fn "<lambda>" q params body scope cl pm cv ct) ⟨[], []⟩ = pure [])
    (bd : ∀ (A : Around) (outer : List Env) (s : Shared) (H : Hp) (E : XK) (f c' : Addr), Room k (A.deeper (lamEnv X scope s.heap.objs.size f c')) → PE (lamN X A outer s H E scope f c') body (t E))
    (db : (x == ("__debug__" : Str)) = false := by decide) (d1 : (a == ("__debug__" : Str)) = false := by decide) (d2 : (a == ("__classdict__" : Str)) = false := by decide) :
    PE X (.Call (.Name x p) [.Lambda params body scope lp] [] pos) (tLam T TT t) := by
  obtain ⟨oc, od, kV, doc, pm0, an, cdv, ct, osl, rfl, lk, hcd⟩ := F.ex
  refine ⟨fun pins s σ H Q I ⟨hT, h⟩ => wpAny_Call_Name_kw (ld_glob I hg hm (PySem.W.callWith_K (h₀ := X.base) I.ok.mod.kin F.kp ?_ (by rfl) (by rfl)) db)⟩
  show wpAny _ _ (spliced ((false, eval (.Lambda params body scope lp) X.env) :: backTo pos (starEach [] X.env))) _ _ s
  refine Calls.spliced_cons (lam_make2 I TB hc mT uT hT df (L.has I.ok) fun f c' pm ct' H1 z I1 eN T1 hf fn nf co => Calls.spliced_nil ⟨I1.kIn, ?_⟩)
  have run : codeAny (model X.prog X.w) X.A (.call (.ref g) ⟨[.ref f], []⟩) (CR CX0 X.stack X.prog X.w H1 z Q E0) z := by
    refine run_ofS (N := Ng) (ps := [a]) (us := [.ref f]) (vs := [.ref f]) lk hcd S hr I1.env0 (hb z [.ref f] I1.kIn rfl) (.cons rfl .nil) rfl fun hr1 => ?_
    obtain ⟨t', h1, h2⟩ := G cdv f c' z H1 Q (fun E G' R => t E σ G' R) hq hr1 (fun W pn xe p1 p2 tk => pe_actN (i := 0) (tb := t) I1 L hf fn nf (bi _ _ _ _ _) tk hr1 (fun A outer s H E hr2 => bd A outer s H E f c' hr2) h0 va d1 d2) co (h H1 eN T1)
    exact ⟨t', h1.nox, h2⟩
  refine wpAny_call (codeAny_mono run fun r y hy => ?_)
  cases r with
  | error e => exact (show False from hy).elim
  | ok fl =>
    cases fl with
    | ret u => exact I1.after hy
    | next => exact False.elim hy
    | brk => exact False.elim hy
    | cont => exact False.elim hy
end
end Tr4


/-! defs that raise (nothing is handled): a def by its body, raise C(e) of an own class with one field, calls of such defs -/
namespace Tr4
open PySem PySem.Spec PyProof.Rows L2 StX
theorem cxUpN {P : Program} {w : World} : CXUp (L2N.CX P w) := by
  intro outer s H s2 H2 E e s' un kp ho h
  obtain ⟨a, B, G, cls, d, ea, fl, ok, ub, na, os, ag, he⟩ := h
  have tb : ∀ b (ps : Array Value), H b = some (.tbl ps) → ∃ m : Array Value, G b = some (.tbl (ps ++ m)) := fun b ps q => by
    obtain ⟨m1, e1⟩ := un.tbls b ps q
    obtain ⟨m2, e2⟩ := ub.tbls b _ e1
    exact ⟨m1 ++ m2, by rw [e2, Array.append_assoc]⟩
  exact ⟨a, B, G, cls, d, ea, fl, ok, {
    keep := fun b o q n hb => ub.keep b o (kp b o q) (un.free b o q n (by simp)) hb
    slot := fun b o q hb => ub.slot b o (kp b o q) hb
    free := fun b o q n => ub.free b o (kp b o q) (un.free b o q n (by simp))
    there := fun b o q hb => ub.there b o (kp b o q) hb
    tups := fun b xs q => ub.tups b xs (un.tups b xs q)
    frzs := fun b o xs q => ub.frzs b o xs (un.frzs b o xs q)
    tbls := tb }, na, os.trans ho, ag, he⟩
section
variable {P : Program} {w : World} {K : PySem.W.Frag} {mg : Str → Option Value} {base : Heap}
/-- a def that may raise, by its body -/
theorem _root_.L2.Fun.okN {x qual : Str} {st : Stmt} {f : Addr} {fd : FuncData} {N ps : List Str} {k : Nat} {sp : Sp} (F : Fun K x qual st f fd) (S : FnScope N ps (defScope st)) (len : ∀ vs H Q E, sp vs H Q E → vs.length = ps.length)
    (body : ∀ (cdv : Value) (A : Around) (outer : List Env) (s : Shared) (H : Hp) (vs : List V) (Q : VK) (E : XK), Room k (A.deeper (envOfC qual (defScope st) s.heap.objs.size f cdv)) → sp vs H Q E →
      ∃ t, PSs (cxOf (L2N.CX P w) P w K mg base N qual (defScope st) f cdv A outer s H E) (defBody st) t ∧ t { nx := fun _ H' => Q .non H', rt := Q } (start N vs) H) : FnOk P w K mg base (L2N.CX P w) (k + 1) f fd ps sp := by
  obtain ⟨oc, od, kV, doc, pm, an, cdv, ct, osl, e, lk, hcd⟩ := F.ex
  subst e
  exact fn_of lk hcd S len fun A outer s H vs Q E hr h => body cdv A outer s H vs Q E hr h
theorem takesN {N : List Str} {q : Str} {sc : Scope} {f : Addr} {cd : Value} {A : Around} {outer : List Env} {s : Shared} {H : Hp} {E : XK} : L2N.Takes (cxOf (L2N.CX P w) P w K mg base N q sc f cd A outer s H E) (fun cls d _ G => E cls d G) := L2N.takes_of rfl rfl rfl rfl
theorem passesN {N : List Str} {q : Str} {sc : Scope} {f : Addr} {cd : Value} {A : Around} {outer : List Env} {s : Shared} {H : Hp} {E : XK} : Passes (L2N.CX P w) (cxOf (L2N.CX P w) P w K mg base N q sc f cd A outer s H E) E := L2N.passes_call (W := fun cls d _ G => E cls d G) takesN fun _ _ _ _ h => h
end
/-- an own exception class with the one field index -/
structure ErrI (K : PySem.W.Frag) (C : Addr) : Prop where
  made : ∃ (B fI : Addr) (bn ni ii : String) (bmB : List Value) (qn : Str), PySem.XV.CF K C B bn ni ii bmB ∧ PySem.XV.IFc K C fI "index" ∧ PySem.XV.Fn_index K fI qn
  sb : PySem.W.subIn K (.ref C) (.type "BaseException") = some true
  ty : PySem.W.typeIn K (.ref C) = some (.type "type")
/-- .. value -/
structure ErrV (K : PySem.W.Frag) (C : Addr) : Prop where
  made : ∃ (B fI : Addr) (bn ni ii : String) (bmB : List Value) (qn : Str), PySem.XV.CF K C B bn ni ii bmB ∧ PySem.XV.IFc K C fI "value" ∧ PySem.XV.Fn_value K fI qn
  sb : PySem.W.subIn K (.ref C) (.type "BaseException") = some true
  ty : PySem.W.typeIn K (.ref C) = some (.type "type")
/-- .. limit -/
structure ErrL (K : PySem.W.Frag) (C : Addr) : Prop where
  made : ∃ (B fI : Addr) (bn ni ii : String) (bmB : List Value) (qn : Str), PySem.XV.CF K C B bn ni ii bmB ∧ PySem.XV.IFc K C fI "limit" ∧ PySem.XV.Fn_limit K fI qn
  sb : PySem.W.subIn K (.ref C) (.type "BaseException") = some true
  ty : PySem.W.typeIn K (.ref C) = some (.type "type")
section
variable {X : Cx} {C : Addr} {x f : Str} {k : Nat} {a : Expr} {ta : TA} {p pos rpos : Pos} {W : WX}
/-- a reading of arguments that may be weakened -/
def tWeak (ta : TA) : TA := fun σ H Q => ∃ Q0 : List V → Hp → Prop, ta σ H Q0 ∧ ∀ vs G, Q0 vs G → Q vs G
theorem pa_weak {es : List Expr} (h : PA X es ta) : PA X es (tWeak ta) := ⟨fun pos pins s σ H Q I ⟨Q0, h0, k⟩ => wpAny_mono (h.run pos pins s σ H Q0 I h0) (fun us z ⟨vs, G, J, r, q⟩ => ⟨vs, G, J, r, k _ _ q⟩) fun _ _ z => z⟩
/-- what raise C(e) asks: the dict of the exception is new -/
def tRaise (X : Cx) (C : Addr) (f : Str) (W : WX) (ta : TA) : TS := fun _ σ H => ta σ H fun vs H1 => ∃ v, vs = [v] ∧ (∀ a, H1 a = none → Fr0 X.H_0 a) ∧ ∀ d, H1 d = none → W (.ref C) (some d) σ (upd H1 d (exd d [(f, v)]))
theorem raise_by (hc : X.calm = true) (hx : X.ex = []) (tk : L2N.Takes X W) (r : Raises X (.ref C)) (he : PE X (.Call (.Name x p) [a] [] pos) (tExV C f (tWeak ta))) : PS X (.Raise (some (.Call (.Name x p) [a] [] pos)) none rpos) (tRaise X C f W ta) := by
  refine ⟨fun pins s σ H D I h => (L2N.ps_raise hc tk (pmk_val hx he)).run pins s σ H D I ⟨_, h, ?_⟩⟩
  rintro vs H1 ⟨v, e, h0, w⟩
  refine ⟨v, e, fun o d no nd ne => ⟨o, C, d, _, rfl, upd_same, (by rw [upd_ne ne]; exact upd_same), h0 o no, r, ?_⟩⟩
  have z : (upd H1 d (exd d [(f, v)])) o = none := by rw [upd_ne (Ne.symm ne)]; exact no
  rw [delH_new z]
  exact w d nd
/-- raise C(e), the field index -/
theorem ps_raiseI (hc : X.calm = true) (hx : X.ex = []) (tk : L2N.Takes X W) (T : ErrI X.K C) (hr : Room k X.A) (hg : Gl X x) (hm : X.mg x = some (.ref C)) (ha : PA X [a] ta) (hdb : (x == ("__debug__" : Str)) = false := by decide)
    (he : starEach (a :: []) X.env = (false, eval a X.env) :: starEach [] X.env := by rfl) (hpl : (backTo pos (starEach [] X.env)).any (·.1) = false := by rfl) : PS X (.Raise (some (.Call (.Name x p) [a] [] pos)) none rpos) (tRaise X C "index" W ta) := by
  obtain ⟨B, fI, bn, ni, ii, bmB, qn, T1, T2, T3⟩ := T.made
  exact raise_by hc hx tk (raises_own T.sb T.ty) (pe_exv_index T1 T2 T3 hr hg hm (pa_weak ha) hdb he hpl)
/-- .. value -/
theorem ps_raiseV (hc : X.calm = true) (hx : X.ex = []) (tk : L2N.Takes X W) (T : ErrV X.K C) (hr : Room k X.A) (hg : Gl X x) (hm : X.mg x = some (.ref C)) (ha : PA X [a] ta) (hdb : (x == ("__debug__" : Str)) = false := by decide)
    (he : starEach (a :: []) X.env = (false, eval a X.env) :: starEach [] X.env := by rfl) (hpl : (backTo pos (starEach [] X.env)).any (·.1) = false := by rfl) : PS X (.Raise (some (.Call (.Name x p) [a] [] pos)) none rpos) (tRaise X C "value" W ta) := by
  obtain ⟨B, fI, bn, ni, ii, bmB, qn, T1, T2, T3⟩ := T.made
  exact raise_by hc hx tk (raises_own T.sb T.ty) (pe_exv_value T1 T2 T3 hr hg hm (pa_weak ha) hdb he hpl)
/-- .. limit -/
theorem ps_raiseL (hc : X.calm = true) (hx : X.ex = []) (tk : L2N.Takes X W) (T : ErrL X.K C) (hr : Room k X.A) (hg : Gl X x) (hm : X.mg x = some (.ref C)) (ha : PA X [a] ta) (hdb : (x == ("__debug__" : Str)) = false := by decide)
    (he : starEach (a :: []) X.env = (false, eval a X.env) :: starEach [] X.env := by rfl) (hpl : (backTo pos (starEach [] X.env)).any (·.1) = false := by rfl) : PS X (.Raise (some (.Call (.Name x p) [a] [] pos)) none rpos) (tRaise X C "limit" W ta) := by
  obtain ⟨B, fI, bn, ni, ii, bmB, qn, T1, T2, T3⟩ := T.made
  exact raise_by hc hx tk (raises_own T.sb T.ty) (pe_exv_limit T1 T2 T3 hr hg hm (pa_weak ha) hdb he hpl)
/-- nothing new was tracked at the entry -/
theorem fr0_of {H H1 : Hp} (s : ∀ b o, H b = some o → (∀ ps, o ≠ .tbl ps) → H1 b ≠ none) : ∀ a, H1 a = none → Fr0 H a := fun a n o e => by
  cases o with
  | tbl ps => exact ⟨ps, rfl⟩
  | _ => exact absurd n (s a _ e fun _ z => nomatch z)
end
end Tr4


/-! a def that stands and keeps its promise, in one datum; its calls -/
namespace Cal
open PySem PySem.Spec PyProof.Rows L2 Gd
theorem passC {P : Program} {w : World} {X : Cx} : Passes (L2N.CX P w) X E0 := fun _ _ _ _ _ _ _ h => by
  obtain ⟨_, _, _, _, _, _, _, _, _, _, _, _, z⟩ := h
  exact z.elim
/-- the built-in names that are free at the top -/
structure Nb (mg : Str → Option Value) : Prop where
  len : mg "len" = none
  int : mg "int" = none
  abs : mg "abs" = none
  range : mg "range" = none
  str : mg "str" = none
  bool : mg "bool" = none
  all : mg "all" = none
  tuple : mg "tuple" = none
  list : mg "list" = none
  isinstance : mg "isinstance" = none
  repr : mg "repr" = none
  sorted : mg "sorted" = none
  set : mg "set" = none
  max : mg "max" = none
  min : mg "min" = none
/-- a def of the top stands -/
structure Df (K : PySem.W.Frag) (mg : Str → Option Value) (x : Str) (st : Stmt) : Prop where
  ex : ∃ f fd, mg x = some (.ref f) ∧ Fun K x x st f fd
/-- .. and keeps a promise -/
structure Cl (P : Program) (w : World) (K : PySem.W.Frag) (mg : Str → Option Value) (base : Heap) (CX : CXT) (k : Nat) (x : Str) (ps : List Str) (sp : Sp) : Prop where
  ex : ∃ f fd, mg x = some (.ref f) ∧ PySem.W.keepIn K (.ref f) = true ∧ Binds K fd ps [] ∧ FnOk P w K mg base CX k f fd ps sp
structure ClG (P : Program) (w : World) (K : PySem.W.Frag) (mg : Str → Option Value) (base : Heap) (k : Nat) (x : Str) (ps : List Str) (sp : Sp) : Prop where
  ex : ∃ f fd, mg x = some (.ref f) ∧ PySem.W.keepIn K (.ref f) = true ∧ Binds K fd ps [] ∧ FnG P w K mg base k f fd ps sp
section
variable {P : Program} {w : World} {K : PySem.W.Frag} {mg : Str → Option Value} {base : Heap} {CX : CXT} {k j : Nat} {x : Str} {st : Stmt} {N ps : List Str} {sp sp' : Sp}
theorem Cl.mono (C : Cl P w K mg base CX j x ps sp) (h : j ≤ k) : Cl P w K mg base CX k x ps sp := by
  obtain ⟨f, fd, a, b, c, d⟩ := C.ex
  exact ⟨f, fd, a, b, c, ⟨d.len, fun A outer s H args us vs Q E hr => d.run A outer s H args us vs Q E (hr.mono h)⟩⟩
theorem Cl.toG (C : Cl P w K mg base CX0 k x ps sp) : ClG P w K mg base k x ps sp := by
  obtain ⟨f, fd, a, b, c, d⟩ := C.ex
  exact ⟨f, fd, a, b, c, d.toG⟩
/-- a weaker promise -/
theorem Cl.imp (C : Cl P w K mg base CX k x ps sp) (h : ∀ vs H Q E, sp' vs H Q E → sp vs H Q E) : Cl P w K mg base CX k x ps sp' := by
  obtain ⟨f, fd, a, b, c, d⟩ := C.ex
  exact ⟨f, fd, a, b, c, ⟨fun vs H Q E z => d.len vs H Q E (h _ _ _ _ z), fun A outer s H args us vs Q E hr e0 hb hv z => d.run A outer s H args us vs Q E hr e0 hb hv (h _ _ _ _ z)⟩⟩
theorem Df.cl (D : Df K mg x st) (S : FnScope N ps (defScope st)) (hb : ∀ (kV doc pm : Value) (an : Option Addr) (cdv ct : Value) (us : List Value), us.length = ps.length → bindArgs (PySem.W.fnOf x x (defArgs st) (defBody st) (defScope st) .none kV doc pm an cdv ct) ⟨us, []⟩ = pure (ps.zip us))
    (len : ∀ vs H Q E, sp vs H Q E → vs.length = ps.length)
    (body : ∀ (f : Addr) (cdv : Value) (A : Around) (outer : List Env) (s : Shared) (H : Hp) (vs : List V) (Q : VK) (E : XK), Room k (A.deeper (envOfC x (defScope st) s.heap.objs.size f cdv)) → sp vs H Q E →
      ∃ t, PSs (cxOf CX0 P w K mg base N x (defScope st) f cdv A outer s H E).nox (defBody st) t ∧ t { nx := fun _ H' => Q .non H', rt := Q } (start N vs) H) : Cl P w K mg base CX0 (k + 1) x ps sp := by
  obtain ⟨f, fd, m, F⟩ := D.ex
  exact ⟨f, fd, m, F.kp, F.binds hb, F.ok S len (body f)⟩
theorem Df.clN (D : Df K mg x st) (S : FnScope N ps (defScope st)) (hb : ∀ (kV doc pm : Value) (an : Option Addr) (cdv ct : Value) (us : List Value), us.length = ps.length → bindArgs (PySem.W.fnOf x x (defArgs st) (defBody st) (defScope st) .none kV doc pm an cdv ct) ⟨us, []⟩ = pure (ps.zip us))
    (len : ∀ vs H Q E, sp vs H Q E → vs.length = ps.length)
    (body : ∀ (f : Addr) (cdv : Value) (A : Around) (outer : List Env) (s : Shared) (H : Hp) (vs : List V) (Q : VK) (E : XK), Room k (A.deeper (envOfC x (defScope st) s.heap.objs.size f cdv)) → sp vs H Q E →
      ∃ t, PSs (cxOf (L2N.CX P w) P w K mg base N x (defScope st) f cdv A outer s H E) (defBody st) t ∧ t { nx := fun _ H' => Q .non H', rt := Q } (start N vs) H) : Cl P w K mg base (L2N.CX P w) (k + 1) x ps sp := by
  obtain ⟨f, fd, m, F⟩ := D.ex
  exact ⟨f, fd, m, F.kp, F.binds hb, F.okN S len (body f)⟩
theorem Df.clG (D : Df K mg x st) (S : FnScope N ps (defScope st)) (hb : ∀ (kV doc pm : Value) (an : Option Addr) (cdv ct : Value) (us : List Value), us.length = ps.length → bindArgs (PySem.W.fnOf x x (defArgs st) (defBody st) (defScope st) .none kV doc pm an cdv ct) ⟨us, []⟩ = pure (ps.zip us))
    (len : ∀ vs H Q E, sp vs H Q E → vs.length = ps.length)
    (body : ∀ (f : Addr) (cdv : Value) (A : Around) (outer : List Env) (s : Shared) (H : Hp) (vs : List V) (Q : VK) (E : XK), (A.deeper (envOfC x (defScope st) s.heap.objs.size f cdv)).guards = some [] → Room k (A.deeper (envOfC x (defScope st) s.heap.objs.size f cdv)) → sp vs H Q E →
      ∃ t, PSs (cxOf CX0 P w K mg base N x (defScope st) f cdv A outer s H E).nox (defBody st) t ∧ t { nx := fun _ H' => Q .non H', rt := Q } (start N vs) H) : ClG P w K mg base (k + 1) x ps sp := by
  obtain ⟨f, fd, m, F⟩ := D.ex
  exact ⟨f, fd, m, F.kp, F.binds hb, F.okG S len (body f)⟩
end
section
variable {X : Cx} {CX : CXT} {k : Nat} {ps : List Str} {sp : Sp} {E : XK} {x : Str} {p pos : Pos} {e : Expr} {es : List Expr} {t : TA}
/-- f(e, ..) -/
theorem pe_c (C : Cl X.prog X.w X.K X.mg X.base CX k x ps sp) (hr : Room k X.A) (hg : Gl X x) (hx : Passes CX X E)
    (ha : PA X (e :: es) t) (hdb : (x == ("__debug__" : Str)) = false := by decide) (he : starEach (e :: es) X.env = (false, eval e X.env) :: starEach es X.env := by rfl) (hpl : (backTo pos (starEach es X.env)).any (·.1) = false := by rfl) :
    PE X (.Call (.Name x p) (e :: es) [] pos) (tCall sp [] E t) := by
  obtain ⟨f, fd, m, kp, b, F⟩ := C.ex
  exact pe_call F hr hg m kp b .nil hx ha hdb he hpl
/-- f() -/
theorem pe_c0 (C : Cl X.prog X.w X.K X.mg X.base CX k x ps sp) (hr : Room k X.A) (hg : Gl X x) (hx : Passes CX X E) (hdb : (x == ("__debug__" : Str)) = false := by decide) :
    PE X (.Call (.Name x p) [] [] pos) (tCall sp [] E tNil) := by
  obtain ⟨f, fd, m, kp, b, F⟩ := C.ex
  exact pe_call0 F hr hg m kp b .nil hx hdb
theorem pe_cG (C : ClG X.prog X.w X.K X.mg X.base k x ps sp) (hq : X.A.guards = some []) (hr : Room k X.A) (hg : Gl X x)
    (ha : PA X (e :: es) t) (hdb : (x == ("__debug__" : Str)) = false := by decide) (he : starEach (e :: es) X.env = (false, eval e X.env) :: starEach es X.env := by rfl) (hpl : (backTo pos (starEach es X.env)).any (·.1) = false := by rfl) :
    PE X (.Call (.Name x p) (e :: es) [] pos) (tCall sp [] E0 t) := by
  obtain ⟨f, fd, m, kp, b, F⟩ := C.ex
  exact pe_callG (E := E0) F hq hr hg m kp b .nil ha hdb he hpl
theorem pe_cG0 (C : ClG X.prog X.w X.K X.mg X.base k x ps sp) (hq : X.A.guards = some []) (hr : Room k X.A) (hg : Gl X x) (hdb : (x == ("__debug__" : Str)) = false := by decide) :
    PE X (.Call (.Name x p) [] [] pos) (tCall sp [] E0 tNil) := by
  obtain ⟨f, fd, m, kp, b, F⟩ := C.ex
  exact pe_callG0 (E := E0) F hq hr hg m kp b .nil hdb
end
/-! ### methods of a class -/
structure Mt (P : Program) (w : World) (K : PySem.W.Frag) (mg : Str → Option Value) (base : Heap) (CX : CXT) (k : Nat) (C : Addr) (m : Str) (ps : List Str) (sp : Sp) : Prop where
  ex : ∃ f fd, Meth K C m f ∧ Binds K fd ps [] ∧ FnOk P w K mg base CX k f fd ps sp
/-- a method's def stands -/
structure Dm (K : PySem.W.Frag) (C : Addr) (cn m : Str) (st : Stmt) : Prop where
  ex : ∃ f fd, Meth K C m f ∧ Fun K m (cn ++ "." ++ m) st f fd
end Cal


namespace K04
open PySem L2 Rng
/-! ### the text by places -/
def top (i : Nat) : Stmt := PySem.Challenge.pw_latestrows_k04_times_and_looks_made.main.body.getD i (.Pass ⟨0, 0, 0, 0⟩)
abbrev sNumber : Stmt := top 40
abbrev sSource : Stmt := top 41
abbrev sPick : Stmt := top 42
abbrev sOne : Stmt := top 43
abbrev sTag : Stmt := top 44
abbrev sTags : Stmt := top 45
/-- the built-in names that the drawing defs use, free at the top -/
structure Bt (mg : Str → Option Value) : Prop where
  nLen : mg "len" = none
  nInt : mg "int" = none
  nAbs : mg "abs" = none
  nRange : mg "range" = none
  nStr : mg "str" = none
section
variable {P : Program} {w : World} {K : PySem.W.Frag} {mg : Str → Option Value} {base : Heap}

theorem scNumber : FnScope ["_law_script", "_law_k", "_law_made_here", "_law_cell"] ["_law_script", "_law_k"] (defScope sNumber) := ⟨rfl, rfl, rfl, by decide +kernel, rfl, by decide +kernel, by decide +kernel⟩
theorem ok_number {f : Addr} {fd : FuncData} (F : Fun K "_law_number" "_law_number" sNumber f fd) (T : Bt mg) : FnOk P w K mg base CX0 1 f fd ["_law_script", "_law_k"] (spNumber K) := by
  refine F.ok scNumber (fun vs H Q E h => ?_) (fun cdv A outer s H vs Q E hr h => ?_)
  · obtain ⟨a, ns, k, rfl, _⟩ := h
    rfl
  · obtain ⟨a, ns, k, rfl, hS, hlen, k0, k1, q⟩ := h
    refine ⟨_, pss_cons (ps_if (pt_cmpR op_lt (pv 1) (pe_callB call_len_seq (by rfl) T.nLen PySem.boot_len (pa_cons (pv 0) pa_nil)) (nomark _)) (pss_one (ps_ret (pe_ix ix_list (pv 0) (pv 1) (fun _ _ => rfl)))) pss_nil)
      (pss_cons (ps_set (i := 2) scNumber.nd rfl (Or.inl rfl) (pe_op op_mul (pe_op op_mul pe_int (pe_op op_add (pv 1) pe_int)) (pe_op op_add (pv 1) pe_int)))
      (pss_cons (ps_for PassesOwn.never rfl (pi_list (pe_slice sl_list (pv 0) po_none (po_some pe_int))) (pg_name (i := 3) scNumber.nd rfl (Or.inl rfl))
        (pss_one (ps_set (i := 2) scNumber.nd rfl (Or.inl rfl) (pe_op op_mod (pe_callTy call_int1 (by rfl) T.nInt PyProof.Rows.boot_int (pa_cons (pe_op op_add (pe_op op_add (pe_op op_mul (pv 2) pe_int) (pv 3)) (pv 1)) pa_nil)) pe_int))))
      (pss_one (ps_ret (pv 2))))), ?_⟩
    refine ⟨_, rfl, _, rfl, a, _, rfl, .inl hS, _, _, rfl, rfl, _, rfl, ite2 (fun c => ?_) (fun c => ?_)⟩
    · have c' : k < (ns.length : Int) := by
        have z := of_decide_eq_true c
        rw [List.length_map] at z
        exact z
      have e : k = ((k.toNat : Nat) : Int) := by omega
      have hk : k.toNat < ns.length := by omega
      refine ⟨_, rfl, _, rfl, a, _, k, .int (ns[k.toNat]), rfl, rfl, hS, ?_, q _ _ (Same.refl _)⟩
      rw [atI_at k0 (by rw [List.length_map]; exact hk), List.getElem_map]
    · refine ⟨_, rfl, _, _, rfl, rfl, _, _, rfl, rfl, .inl ⟨by decide, by decide⟩, _, rfl, _, _, rfl, rfl, _, _, rfl, rfl, .inr ⟨by omega, by omega⟩, ?_⟩
      obtain ⟨ms, em⟩ := cut_ints ns none (some 5)
      refine ⟨_, rfl, 5, rfl, a, _, rfl, hS, fun p np => ?_⟩
      rw [em]
      refine ⟨p, rfl, ⟨_, SqL.of upd_same⟩, for_it (walk_list (K := K) (a := p) (xs := ms.map V.int)) (fun _ σ H' => ∃ (z : Int) (v : Option V), σ = [some (.ref a), some (.int k), some (.int z), v] ∧ Same (upd H p (.lst (ms.map V.int))) H')
        ⟨_, _, rfl, Same.refl _⟩ (fun _ _ _ _ ⟨_, _, _, z⟩ => z.seq (SqL.of upd_same)) ?_ ?_⟩
      · rintro i x σ H1 H2 hi ⟨z, v, rfl, s1⟩ ⟨rfl, hx⟩
        obtain ⟨n, rfl⟩ : ∃ n, x = V.int n := by
          rw [List.getElem?_map] at hx
          cases e : ms[i]? with
          | none => rw [e] at hx; cases hx
          | some n => rw [e] at hx; exact ⟨n, (Option.some.inj hx).symm⟩
        refine ⟨_, rfl, _, _, rfl, rfl, .inr ⟨by decide, by decide⟩, _, rfl, _, _, rfl, rfl, _, rfl, _, _, rfl, rfl, .inl ⟨_, rfl, _, _, rfl, rfl, (by show (0 : Int) < 2147483423; decide), ?_⟩⟩
        exact ⟨_, _, rfl, s1⟩
      · rintro σ H1 ⟨z, v, rfl, s1⟩
        exact ⟨_, rfl, q _ _ ((same_put np).trans s1)⟩

theorem scSource : FnScope ["_law_cell"] ["_law_cell"] (defScope sSource) := ⟨rfl, rfl, rfl, by decide +kernel, rfl, by decide +kernel, by decide +kernel⟩
theorem ok_source {f : Addr} {fd : FuncData} (F : Fun K "_law_source" "_law_source" sSource f fd) (T : Bt mg) : FnOk P w K mg base CX0 1 f fd ["_law_cell"] spSource := by
  refine F.ok scSource (fun vs H Q E h => ?_) (fun cdv A outer s H vs Q E hr h => ?_)
  · obtain ⟨c, rfl, _⟩ := h
    rfl
  · obtain ⟨c, rfl, q⟩ := h
    refine ⟨_, pss_one (ps_ret (pe_lst (pa_cons (pe_ifExp (PW.pt (pw_or (pt_cmpR op_lt (pv 0) pe_int (nomark _)) (pw_or1 (pt_cmpR op_ge (pv 0) (pe_op op_pow pe_int pe_int) (nomark _)))))
      (pe_callB call_abs (by rfl) T.nAbs PyProof.Rows.boot_abs (pa_cons (pv 0) pa_nil)) pe_int) (pa_cons (pe_op op_mod (pe_callTy call_int1 (by rfl) T.nInt PyProof.Rows.boot_int (pa_cons (pv 0) pa_nil)) pe_int) (pa_cons pe_int pa_nil))))), ?_⟩
    have fin : ∀ A0 : Int, 0 ≤ A0 → (∃ v, ([some (V.int c)] : St)[0]? = some (some v) ∧ ((∃ i, [v] = [V.int i] ∧ ∃ i' j, V.int i = .int i' ∧ V.int 2147483423 = .int j ∧ 0 < j ∧ ([V.int A0, V.int (i' % j), V.int 0].length ≤ sizeLine ∧ ∀ p, H p = none → Q (.ref p) (upd H p (.lst [V.int A0, V.int (i' % j), V.int 0])))) ∨
        ∃ k, [v] = [V.bl k] ∧ ∃ i' j, V.int (if k then 1 else 0) = .int i' ∧ V.int 2147483423 = .int j ∧ 0 < j ∧ ([V.int A0, V.int (i' % j), V.int 0].length ≤ sizeLine ∧ ∀ p, H p = none → Q (.ref p) (upd H p (.lst [V.int A0, V.int (i' % j), V.int 0]))))) := fun A0 h0 =>
      ⟨_, rfl, .inl ⟨c, rfl, c, 2147483423, rfl, rfl, by decide, by show 3 ≤ sizeLine; decide, fun p np => q p _ (same_put np) np ⟨A0, c % 2147483423, 0, upd_same, h0, by omega, by omega, by omega, by omega⟩⟩⟩
    refine ⟨_, rfl, _, _, rfl, rfl, _, rfl, ite2 (fun c1 => ?_) (fun c1 => ?_)⟩
    · exact ⟨_, rfl, _, rfl, fin _ (by split <;> omega)⟩
    · refine ⟨_, rfl, 10, 18, rfl, rfl, ⟨by decide, by decide, by decide⟩, _, _, rfl, rfl, _, rfl, ite2 (fun c2 => ?_) (fun c2 => ?_)⟩
      · exact ⟨_, rfl, _, rfl, fin _ (by split <;> omega)⟩
      · exact fin 0 (by omega)

theorem scPick : FnScope ["_law_source_here", "_law_many", "_law_digit", "_law_turn", "_law_mixed"] ["_law_source_here", "_law_many"] (defScope sPick) := ⟨rfl, rfl, rfl, by decide +kernel, rfl, by decide +kernel, by decide +kernel⟩
theorem ok_pick {f : Addr} {fd : FuncData} (F : Fun K "_law_pick" "_law_pick" sPick f fd) (T : Bt mg) : FnOk P w K mg base CX0 1 f fd ["_law_source_here", "_law_many"] spPick := by
  refine F.ok scPick (fun vs H Q E h => ?_) (fun cdv A outer s H vs Q E hr h => ?_)
  · obtain ⟨p, m, b, rfl, _⟩ := h
    rfl
  · obtain ⟨p, m, b, rfl, ⟨A0, B0, t0, e0, hA, hB, hB2, ht, ht2⟩, hb, m0, m1, q⟩ := h
    refine ⟨_, pss_cons (ps_asg (pe_op op_add (pe_ix ix_list (pv 0) pe_int (fun _ _ => rfl)) pe_int) (pg_sub (pv 0) pe_int set_list))
      (pss_cons (ps_if (pt_cmpR op_gt (pe_ix ix_list (pv 0) pe_int (fun _ _ => rfl)) pe_int (nomark _))
        (pss_cons (ps_set (i := 2) scPick.nd rfl (Or.inl rfl) (pe_op op_mod (pe_callTy call_int1 (by rfl) T.nInt PyProof.Rows.boot_int (pa_cons (pe_ix ix_list (pv 0) pe_int (fun _ _ => rfl)) pa_nil)) (pv 1)))
        (pss_cons (ps_asg (pe_op op_fdiv (pe_ix ix_list (pv 0) pe_int (fun _ _ => rfl)) (pv 1)) (pg_sub (pv 0) pe_int set_list))
        (pss_one (ps_ret (pv 2))))) pss_nil)
      (pss_cons (ps_set (i := 3) scPick.nd rfl (Or.inl rfl) (pe_ix ix_list (pv 0) pe_int (fun _ _ => rfl)))
      (pss_cons (ps_set (i := 4) scPick.nd rfl (Or.inl rfl) (pe_callTy call_int1 (by rfl) T.nInt PyProof.Rows.boot_int (pa_cons (pe_op op_add (pe_ix ix_list (pv 0) pe_int (fun _ _ => rfl)) (pe_op op_mul (pv 3) pe_int)) pa_nil)))
      (pss_cons (ps_asg (pe_op op_mod (pe_callTy call_int1 (by rfl) T.nInt PyProof.Rows.boot_int (pa_cons (pe_op op_add (pe_op op_pow (pv 4) pe_int) (pe_op op_mul pe_int (pv 3))) pa_nil)) pe_int) (pg_sub (pv 0) pe_int set_list))
      (pss_one (ps_ret (pe_op op_mod (pe_callTy call_int1 (by rfl) T.nInt PyProof.Rows.boot_int (pa_cons (pe_op op_fdiv (pe_ix ix_list (pv 0) pe_int (fun _ _ => rfl)) pe_int) pa_nil)) (pv 1)))))))), ?_⟩
    refine ⟨_, rfl, p, _, 2, _, rfl, rfl, SqL.of e0, rfl, _, _, rfl, rfl, _, rfl, p, _, 2, 2, rfl, rfl, e0, rfl, ?_⟩
    have e1 : (upd H p (.lst [.int A0, .int B0, .int (t0 + 1)])) p = some (.lst [.int A0, .int B0, .int (t0 + 1)]) := upd_same
    have b1 : But p H (upd H p (.lst [.int A0, .int B0, .int (t0 + 1)])) := But.put
    show (tSeq _ _) _ _ (upd H p (.lst [.int A0, .int B0, .int (t0 + 1)]))
    revert e1 b1
    generalize upd H p (.lst [.int A0, .int B0, .int (t0 + 1)]) = H1
    intro e1 b1
    refine ⟨_, rfl, p, _, 0, _, rfl, rfl, SqL.of e1, rfl, _, _, rfl, rfl, _, rfl, ite2 (fun c => ?_) (fun c => ?_)⟩
    · have c0 : 0 < A0 := of_decide_eq_true c
      refine ⟨_, rfl, p, _, 0, _, rfl, rfl, SqL.of e1, rfl, .inl ⟨A0, rfl, _, rfl, _, _, rfl, rfl, m0, ?_⟩⟩
      refine ⟨_, rfl, p, _, 0, _, rfl, rfl, SqL.of e1, rfl, _, rfl, _, _, rfl, rfl, ⟨m0, m1⟩, _, rfl, p, _, 0, 0, rfl, rfl, e1, rfl, ?_⟩
      refine ⟨_, rfl, q _ _ (Int.emod_nonneg _ (by omega)) (Int.emod_lt_of_pos _ m0) (b1.trans But.put) ⟨A0 / m, B0, t0 + 1, upd_same, Int.ediv_nonneg (by omega) (by omega), hB, hB2, by omega, by omega⟩⟩
    · refine ⟨_, rfl, p, _, 2, _, rfl, rfl, SqL.of e1, rfl, ?_⟩
      refine ⟨_, rfl, p, _, 1, _, rfl, rfl, SqL.of e1, rfl, _, rfl, _, _, rfl, rfl, .inr ⟨by decide, by decide⟩, _, _, rfl, rfl, .inl ⟨_, rfl, ?_⟩⟩
      refine ⟨_, rfl, _, _, rfl, rfl, pow3 hB hB2 (by omega) (by omega), _, rfl, _, _, rfl, rfl, .inl ⟨by decide, by decide⟩, _, _, rfl, rfl, .inl ⟨_, rfl, _, _, rfl, rfl, (by show (0 : Int) < 2147483423; decide), ?_⟩⟩
      refine ⟨_, rfl, p, _, 1, 1, rfl, rfl, e1, rfl, ?_⟩
      refine ⟨_, rfl, p, _, 1, _, rfl, rfl, SqL.of upd_same, rfl, _, _, rfl, rfl, ⟨by decide, by decide⟩, .inl ⟨_, rfl, _, rfl, _, _, rfl, rfl, m0, ?_⟩⟩
      exact q _ _ (Int.emod_nonneg _ (by omega)) (Int.emod_lt_of_pos _ m0) (b1.trans But.put) ⟨A0, _, t0 + 1, upd_same, hA, Int.emod_nonneg _ (by decide), Int.emod_lt_of_pos _ (by decide), by omega, by omega⟩

theorem scOne : FnScope ["_law_source_here", "_law_things"] ["_law_source_here", "_law_things"] (defScope sOne) := ⟨rfl, rfl, rfl, by decide +kernel, rfl, by decide +kernel, by decide +kernel⟩
theorem ok_one {f fP : Addr} {fd dP : FuncData} (F : Fun K "_law_one" "_law_one" sOne f fd) (T : Bt mg) (FP : Fun K "_law_pick" "_law_pick" sPick fP dP) (bP : Binds K dP ["_law_source_here", "_law_many"] []) (mP : mg "_law_pick" = some (.ref fP)) : FnOk P w K mg base CX0 2 f fd ["_law_source_here", "_law_things"] (spOne K) := by
  have GP : FnOk P w K mg base CX0 1 fP dP ["_law_source_here", "_law_many"] spPick := ok_pick FP T
  refine F.ok scOne (fun vs H Q E h => ?_) (fun cdv A outer s H vs Q E hr h => ?_)
  · obtain ⟨p, x, b, rfl, _⟩ := h
    rfl
  · obtain ⟨p, x, b, rfl, hs, hb, h⟩ := h
    refine ⟨_, pss_one (ps_ret (pe_ix ix_seq (pv 1) (pe_call GP hr rfl mP FP.kp bP .nil pass0 (pa_cons (pv 0) (pa_cons (pe_callB call_len (by rfl) T.nLen PySem.boot_len (pa_cons (pv 1) pa_nil)) pa_nil))) (fun _ _ => rfl))), ?_⟩
    rcases h with ⟨l, xs, rfl, nl, hl, x0, x1, q⟩ | ⟨z, rfl, z0, z1, q⟩
    · refine ⟨_, rfl, _, rfl, _, rfl, _, _, rfl, .inl ⟨_, hl, rfl⟩, p, _, b, rfl, hs, hb, by omega, by omega, fun d H' d0 d1 hB hS => ?_⟩
      have hd : d.toNat < xs.length := by omega
      have e : d = ((d.toNat : Nat) : Int) := by omega
      refine .inl ⟨l, xs, d, xs[d.toNat], rfl, rfl, hB.seq (fun _ _ => nl) hl, ?_, q _ _ (List.getElem_mem hd) hB hS⟩
      exact atI_at d0 hd
    · refine ⟨_, rfl, _, rfl, _, rfl, _, _, rfl, ⟨Nat.le_of_lt (small1000 z1), rfl⟩, p, _, b, rfl, hs, hb, by omega, by omega, fun d H' d0 d1 hB hS => ?_⟩
      have hd : d.toNat < z.cps.toList.length := by
        have ez : z.cps.toList.length = z.length := rfl
        omega
      have e : d = ((d.toNat : Nat) : Int) := by omega
      refine .inr (.inr ⟨z, d, z.cps.toList[d.toNat], rfl, rfl, Nat.le_of_lt (small1000 z1), ?_, q _ _ (List.getElem_mem hd) hB hS⟩)
      exact atI_at d0 hd
end
section
variable {P : Program} {w : World} {K : PySem.W.Frag} {mg : Str → Option Value} {base : Heap}
def words : List Str := ["now", "strict", "before", "after", "time", "value", "any", "at", "on", "apart"]
theorem words_ok : ∀ z ∈ words, isName z = true := by decide +kernel
theorem letters_ok : ∀ c ∈ (Str.ofString "abcdefghijklmnopqrstuvwxyz").cps.toList, low c = true := by decide +kernel
theorem signs_ok : ∀ c ∈ (Str.ofString "abcdefghijklmnopqrstuvwxyz" ++ Str.ofString "0123456789").cps.toList, (low c || dig c) = true := by decide +kernel
theorem scTag : FnScope ["_law_source_here", "_law_small", "_law_signs", "_law_k"] ["_law_source_here"] (defScope sTag) := ⟨rfl, rfl, rfl, by decide +kernel, rfl, by decide +kernel, by decide +kernel⟩
theorem ok_tag {f fP fO : Addr} {fd dP dO : FuncData} (F : Fun K "_law_tag" "_law_tag" sTag f fd) (T : Bt mg) (FP : Fun K "_law_pick" "_law_pick" sPick fP dP) (bP : Binds K dP ["_law_source_here", "_law_many"] []) (mP : mg "_law_pick" = some (.ref fP))
    (FO : Fun K "_law_one" "_law_one" sOne fO dO) (bO : Binds K dO ["_law_source_here", "_law_things"] []) (mO : mg "_law_one" = some (.ref fO)) : FnOk P w K mg base CX0 3 f fd ["_law_source_here"] spTag := by
  have GP : FnOk P w K mg base CX0 1 fP dP ["_law_source_here", "_law_many"] spPick := ok_pick FP T
  have GO : FnOk P w K mg base CX0 2 fO dO ["_law_source_here", "_law_things"] (spOne K) := ok_one FO T FP bP mP
  refine F.ok scTag (fun vs H Q E h => ?_) (fun cdv A outer s H vs Q E hr h => ?_)
  · obtain ⟨p, b, rfl, _⟩ := h
    rfl
  · obtain ⟨p, b, rfl, hs, hb, q⟩ := h
    have hr1 : Room 1 _ := hr.mono (by decide)
    refine ⟨_, pss_cons (ps_if (pt_cmpR op_eq (pe_call GP hr1 rfl mP FP.kp bP .nil pass0 (pa_cons (pv 0) (pa_cons pe_int pa_nil))) pe_int (nomark _))
        (pss_one (ps_ret (pe_call GO hr rfl mO FO.kp bO .nil pass0 (pa_cons (pv 0) (pa_cons (pe_lst (pa_cons (pe_str) (pa_cons (pe_str) (pa_cons (pe_str) (pa_cons (pe_str) (pa_cons (pe_str) (pa_cons (pe_str) (pa_cons (pe_str) (pa_cons (pe_str) (pa_cons (pe_str) (pa_cons (pe_str) pa_nil))))))))))) pa_nil))))) pss_nil)
      (pss_cons (ps_set (i := 1) scTag.nd rfl (Or.inr rfl) pe_str)
      (pss_cons (ps_setLc (i := 2) (own := [("_law_k", 3)]) (g := gName 3) (tt := tYes) rfl scTag.nd rfl rfl (sw_true rfl rfl rfl (by decide +kernel)) (pi_range1 rfl T.nRange (pa_cons (pe_call GO hr rfl mO FO.kp bO .nil pass0 (pa_cons (pv 0) (pa_cons (pe_lst (pa_cons (pe_int) (pa_cons (pe_int) (pa_cons (pe_int) (pa_cons (pe_int) (pa_cons (pe_int) pa_nil)))))) pa_nil))) pa_nil))
          (blkOk_by (own := [("_law_k", 3)]) (N := ["_law_source_here", "_law_small", "_law_signs", "_law_k"]) (sc := defScope sTag) (by decide +kernel)) (fun _ _ _ _ _ => pg_name (i := 3) scTag.nd rfl (Or.inl rfl)) (fun _ _ _ _ _ => pts_nil)
          (fun _ _ _ _ _ => pe_call GO hr rfl mO FO.kp bO .nil pass0 (pa_cons (pv 0) (pa_cons (pe_op op_add_str (pv 1) pe_str) pa_nil))))
      (pss_one (ps_ret (pe_op op_add_str (pe_call GO hr rfl mO FO.kp bO .nil pass0 (pa_cons (pv 0) (pa_cons (pv 1) pa_nil))) (pe_join pe_str (pv 2))))))), ?_⟩
    refine ⟨_, rfl, p, 3, b, rfl, hs, by omega, by decide, by decide, fun d H1 d0 d1 B1 S1 => ⟨rfl, _, rfl, ite2 (fun c => ?_) (fun c => ?_)⟩⟩
    · refine ⟨_, rfl, by show 10 ≤ sizeLine; decide, fun l nl => ⟨p, .ref l, b + 1, rfl, S1.same (same_put nl), by omega, .inl ⟨l, _, rfl, S1.ne nl, SqL.of upd_same, by show 0 < 10; decide, by show 10 ≤ 1000; decide, fun y H2 hy B2 S2 => ?_⟩⟩⟩
      have hy' : y ∈ words.map V.str := hy
      obtain ⟨z, hz, rfl⟩ := List.mem_map.mp hy'
      exact q z H2 (words_ok z hz) (B1.trans ((Same.but (same_put nl) p).trans B2)) (S2.mono (by omega))
    · refine ⟨_, rfl, by show 5 ≤ sizeLine; decide, fun l nl => ⟨p, .ref l, b + 1, rfl, S1.same (same_put nl), by omega, .inl ⟨l, _, rfl, S1.ne nl, SqL.of upd_same, by show 0 < 5; decide, by show 5 ≤ 1000; decide, fun y H2 hy B2 S2 => ?_⟩⟩⟩
      have hy' : y ∈ ([0, 0, 1, 2, 7] : List Int).map V.int := hy
      obtain ⟨n, hn, rfl⟩ := List.mem_map.mp hy'
      have n0 : 0 ≤ n ∧ n ≤ 7 := by
        have : ∀ n ∈ ([0, 0, 1, 2, 7] : List Int), 0 ≤ n ∧ n ≤ 7 := by decide
        exact this n hn
      have B12 : But p H H2 := B1.trans ((Same.but (same_put nl) p).trans B2)
      refine ⟨n, rfl, by omega, by omega, fun D nD => lc_it (walk_range (lo := 0) (n := n.toNat)) (fun j H' => But p H2 H' ∧ Src H' p (b + 2 + j) ∧ ∃ zs : List Str, zs.length = j ∧ (∀ z ∈ zs, sign1 z) ∧ H' D = some (.lst (zs.map V.str)))
        ⟨Same.but (same_put nD) p, S2.same (same_put nD), [], rfl, (fun _ h => nomatch h), upd_same⟩ (fun _ _ _ _ => trivial) ?_ ?_⟩
      · rintro j x H3 H4 hj ⟨B3, S3, zs, lz, hz, e3⟩ ⟨rfl, rfl⟩
        have nDp : D ≠ p := S2.ne nD
        refine ⟨rfl, ?_⟩
        refine ⟨_, rfl, _, rfl, _, _, rfl, rfl, by show 26 + 10 ≤ sizeLine; decide, p, .str _, b + 2 + j, rfl, S3, by omega, .inr ⟨_, rfl, by decide +kernel, by decide +kernel, fun c H5 hc B5 S5 => ⟨zs.map V.str, B5 _ _ nDp e3, ?_, ?_, ?_, zs ++ [⟨#[c]⟩], ?_, ?_, ?_⟩⟩⟩
        · rw [List.length_map]
          exact small1000 (by omega)
        · intro a o na e
          rw [upd_ne (ne_of_none e nD)]
          exact B5 _ _ na (B3 _ _ na e)
        · obtain ⟨A0, B0, t0, e0, r⟩ := S5
          exact ⟨A0, B0, t0, by rw [upd_ne nDp.symm]; exact e0, r⟩
        · rw [List.length_append, lz]
          rfl
        · intro z h
          rcases List.mem_append.mp h with h | h
          · exact hz z h
          · obtain rfl := List.mem_singleton.mp h
            exact ⟨c, rfl, signs_ok c hc⟩
        · rw [upd_same, List.map_append]
          rfl
      · rintro H3 ⟨B3, S3, zs, lz, hz, e3⟩
        have nDp : D ≠ p := S2.ne nD
        refine ⟨_, rfl, _, rfl, p, .str _, b + 2 + n.toNat, rfl, S3, by omega, .inr ⟨_, rfl, by decide +kernel, by decide +kernel, fun c H5 hc B5 S5 => ?_⟩⟩
        refine ⟨⟨_, rfl⟩, _, rfl, Str.ofString "", D, zs, rfl, rfl, .inl (SqL.of (B5 _ _ nDp e3)), ?_, _, _, rfl, rfl, ?_, ?_⟩
        · rw [sign_sum zs hz, show (Str.ofString "").length = 0 from rfl]
          omega
        · have hj : (Txt.join (Str.ofString "") zs).length ≤ 7 := by
            obtain ⟨h1, _⟩ := flat_signs zs hz
            show (Txt.join (Str.ofString "") zs).cps.size ≤ 7
            rw [← Array.length_toList]
            show (TL.tl (Txt.join (Str.ofString "") zs)).length ≤ 7
            rw [TL.join_eq, TL.tl_join, show TL.tl (Str.ofString "") = [] from rfl, joinL_nil, h1]
            omega
          show 1 + _ ≤ _
          have : 8 ≤ sizeLine := by decide
          omega
        · exact q _ H5 (name_mk (letters_ok c hc) hz (by omega)) (B12.trans (B3.trans B5)) (S5.mono (by omega))
end
section
variable {P : Program} {w : World} {K : PySem.W.Frag} {mg : Str → Option Value} {base : Heap}
theorem scTags : FnScope ["_law_source_here", "_law_many", "_law_found", "_law_k", "_law_tag_here", "_law_spare", "_law_j", "_law_each"] ["_law_source_here", "_law_many"] (defScope sTags) := ⟨rfl, rfl, rfl, by decide +kernel, rfl, by decide +kernel, by decide +kernel⟩
theorem ok_tags {f fP fO fT : Addr} {fd dP dO dT : FuncData} (F : Fun K "_law_tags" "_law_tags" sTags f fd) (T : Bt mg) (FP : Fun K "_law_pick" "_law_pick" sPick fP dP) (bP : Binds K dP ["_law_source_here", "_law_many"] []) (mP : mg "_law_pick" = some (.ref fP))
    (FO : Fun K "_law_one" "_law_one" sOne fO dO) (bO : Binds K dO ["_law_source_here", "_law_things"] []) (mO : mg "_law_one" = some (.ref fO))
    (FT : Fun K "_law_tag" "_law_tag" sTag fT dT) (bT : Binds K dT ["_law_source_here"] []) (mT : mg "_law_tag" = some (.ref fT)) : FnOk P w K mg base CX0 4 f fd ["_law_source_here", "_law_many"] spTags := by
  have GT : FnOk P w K mg base CX0 3 fT dT ["_law_source_here"] spTag := ok_tag FT T FP bP mP FO bO mO
  refine F.ok scTags (fun vs H Q E h => ?_) (fun cdv A outer s H vs Q E hr h => ?_)
  · obtain ⟨p, m, b, rfl, _⟩ := h
    rfl
  · obtain ⟨p, m, b, rfl, m0, m1, hs, hb, q⟩ := h
    refine ⟨_, pss_cons (ps_set (i := 2) scTags.nd rfl (Or.inr rfl) (pe_lst pa_nil))
      (pss_cons (ps_for PassesOwn.never rfl (pi_range1 rfl T.nRange (pa_cons (pv 1) pa_nil)) (pg_name (i := 3) scTags.nd rfl (Or.inl rfl))
        (pss_cons (ps_set (i := 4) scTags.nd rfl (Or.inr rfl) (pe_call GT hr rfl mT FT.kp bT .nil pass0 (pa_cons (pv 0) pa_nil)))
        (pss_cons (ps_set (i := 5) scTags.nd rfl (Or.inl rfl) (pe_op op_cat (pe_lst (pa_cons (pv 4) pa_nil)) (pe_lc (own := [("_law_j", 6)]) (g := gName 6) (tt := tYes) rfl scTags.nd (pi_range1 rfl T.nRange (pa_cons (pv 1) pa_nil))
            (blkOk_by (own := [("_law_j", 6)]) (N := ["_law_source_here", "_law_many", "_law_found", "_law_k", "_law_tag_here", "_law_spare", "_law_j", "_law_each"]) (sc := defScope sTags) (by decide +kernel)) (fun _ _ _ _ _ => pg_name (i := 6) scTags.nd rfl (Or.inl rfl)) (fun _ _ _ _ _ => pts_nil)
            (fun _ _ _ _ _ => pe_op op_add_str (pe_slice sl_str (pv 4) po_none (po_some pe_int)) (pe_callTy call_str_int (by rfl) T.nStr PyProof.Rows.boot_str (pa_cons (pv 6) pa_nil))))))
        (pss_one (ps_expr (pe_bm PySem.F.plainAttrs_list PySem.F.slot_list_append PySem.F.type_list_append mt_append (pv 2) (pa_cons (pe_ix ix_list (pe_lc (own := [("_law_each", 7)]) (g := gName 7) (tt := tTest (tOp (rIn K true) (tVar 7) (tVar 2))) rfl scTags.nd (pi_list (pv 5))
            (blkOk_by (own := [("_law_each", 7)]) (N := ["_law_source_here", "_law_many", "_law_found", "_law_k", "_law_tag_here", "_law_spare", "_law_j", "_law_each"]) (sc := defScope sTags) (by decide +kernel)) (fun _ _ _ _ _ => pg_name (i := 7) scTags.nd rfl (Or.inl rfl)) (fun _ _ _ _ _ => pts_one (pt_cmpR op_notIn_seq (pv 7) (pv 2) (by rfl)))
            (fun _ _ _ _ _ => pv 7)) pe_int (fun _ _ => rfl)) pa_nil)))))))
      (pss_one (ps_ret (pv 2)))), ?_⟩
    refine ⟨Nat.zero_le _, fun l nl => ?_⟩
    have nlp : l ≠ p := hs.ne nl
    refine ⟨_, rfl, m, rfl, by omega, by omega, for_it (walk_range (lo := 0) (n := (m : Int).toNat)) (fun i σ H' => ∃ (x3 x4 x5 : Option V) (zs : List Str), σ = [some (.ref p), some (.int m), some (.ref l), x3, x4, x5, none, none] ∧ But p H H' ∧ Src H' p (b + 12 * i) ∧
        zs.length = i ∧ zs.Nodup ∧ (∀ z ∈ zs, isName z = true) ∧ H' l = some (.lst (zs.map V.str)))
      ⟨_, _, _, [], rfl, Same.but (same_put nl) p, hs.same (same_put nl), rfl, List.nodup_nil, (fun _ h => nomatch h), upd_same⟩ (fun _ _ _ _ _ => trivial) ?_ ?_⟩
    · rintro i x σ H1 H2 hi ⟨x3, x4, x5, zs, rfl, B1, S1, lz, nz, hz, e1⟩ ⟨rfl, rfl⟩
      have hi' : i < m := by omega
      refine ⟨_, rfl, p, b + 12 * i, rfl, S1, by omega, fun z H3 hn B3 S3 => ?_⟩
      have e3 := B3 _ _ nlp e1
      have B13 := B1.trans B3
      refine ⟨_, rfl, by show 1 ≤ sizeLine; decide, fun l1 n1 => ?_⟩
      refine ⟨_, rfl, m, rfl, by omega, by omega, fun D nD => lc_it (walk_range (lo := 0) (n := (m : Int).toNat)) (fun j H' => Same (upd H3 l1 (.lst [.str z])) H' ∧ H' D = some (.lst (((List.range j).map (cand z)).map V.str)))
        ⟨same_put nD, upd_same⟩ (fun _ _ _ _ => trivial) ?_ ?_⟩
      · rintro j y H4 H5 hj ⟨s4, e4⟩ ⟨rfl, rfl⟩
        have hj9 : j < 9 := by omega
        have zl : z.length ≤ 8 := by
          have h8 := hn
          unfold isName at h8
          simp only [Bool.and_eq_true, decide_eq_true_eq] at h8
          exact h8.1
        refine ⟨rfl, ?_⟩
        refine ⟨_, rfl, 6, rfl, z, rfl, ?_, _, rfl, 0 + (j : Int), rfl, ?_, _, _, rfl, rfl, ?_, ((List.range j).map (cand z)).map V.str, e4, ?_, ?_, ?_⟩
        · have : 8 ≤ sizeLine := by decide
          omega
        · have : ∀ j : Nat, j < 9 → ((0 : Int) + (j : Int)).natAbs.log2 < 1920 := by decide
          exact this j hj9
        · have h1 : (cutS z none (some 6)).length ≤ 6 := by
            show (TL.tl (cutS z none (some 6))).length ≤ 6
            rw [cut_tl, List.length_take]
            omega
          have h2 : (Str.ofString (toString ((0 : Int) + (j : Int)))).length = 1 := by
            show (TL.tl (Str.ofString (toString ((0 : Int) + (j : Int))))).length = 1
            rw [digit_tl j hj9]
            rfl
          have : 8 ≤ sizeLine := by decide
          omega
        · rw [List.length_map, List.length_map, List.length_range]
          exact small1000 (by omega)
        · intro a o e
          rw [upd_ne (ne_of_none e nD)]
          exact s4 a o e
        · rw [upd_same, List.range_succ, List.map_append, List.map_append]
          rfl
      · rintro H4 ⟨s4, e4⟩
        have em : ((m : Int)).toNat = m := rfl
        rw [em] at e4
        refine ⟨l1, D, _, _, rfl, rfl, s4 _ _ upd_same, e4, ?_, fun p2 n2 => ?_⟩
        · rw [List.length_map, List.length_map, List.length_range]
          exact Nat.le_of_lt (small1000 (by show 1 + m ≤ 1000; omega))
        have s34 : Same H3 (upd H4 p2 (.lst ([.str z] ++ ((List.range m).map (cand z)).map V.str))) := (same_put n1).trans (s4.trans (same_put n2))
        have e2 : (upd H4 p2 (.lst ([.str z] ++ ((List.range m).map (cand z)).map V.str))) p2 = some (.lst ((z :: (List.range m).map (cand z)).map V.str)) := upd_same
        revert s34 e2
        generalize upd H4 p2 (.lst ([.str z] ++ ((List.range m).map (cand z)).map V.str)) = H5
        intro s34 e2
        have el5 := s34 _ _ e3
        obtain ⟨y0, r0, ef⟩ := spare_new (z := z) (zs := zs) m1 (by omega)
        obtain ⟨hy1, hy2⟩ := spare_is m1 hn ef
        refine ⟨_, rfl, .inl ⟨rfl, _, SqL.of el5⟩, _, rfl, p2, rfl, ⟨_, SqL.of e2⟩, fun D2 nD2 => lc_it (walk_list (K := K) (a := p2) (xs := (z :: (List.range m).map (cand z)).map V.str))
          (fun j H' => Same H5 H' ∧ H' D2 = some (.lst ((((z :: (List.range m).map (cand z)).take j).filter fun y => !decide (y ∈ zs)).map V.str))) ⟨same_put nD2, upd_same⟩ (fun _ _ _ h => h.1.seq (SqL.of e2)) ?_ ?_⟩
        · rintro j y H6 H7 hj ⟨s6, e6⟩ ⟨rfl, hy⟩
          rw [List.getElem?_map] at hy
          obtain ⟨y, hy', rfl⟩ : ∃ y', (z :: (List.range m).map (cand z))[j]? = some y' ∧ y = V.str y' := by
            cases e : (z :: (List.range m).map (cand z))[j]? with
            | none => rw [e] at hy; cases hy
            | some y' => rw [e] at hy; exact ⟨y', rfl, (Option.some.inj hy).symm⟩
          have tk : (z :: (List.range m).map (cand z)).take (j + 1) = (z :: (List.range m).map (cand z)).take j ++ [y] := by
            rw [List.take_add_one, hy']
            rfl
          refine ⟨rfl, _, rfl, _, rfl, l, _, rfl, .inl (SqL.of (s6 _ _ el5)), rfl, flat_strsN zs, _, rfl, ?_⟩
          show if (!inV (.str y) (zs.map V.str)) = true then _ else _
          rw [inV_strs]
          by_cases hm : y ∈ zs
          · rw [decide_eq_true hm]
            refine iteF ⟨s6, ?_⟩
            rw [tk, List.filter_append, e6]
            simp [hm]
          · rw [decide_eq_false hm]
            refine ⟨_, rfl, _, e6, ?_, ?_, ?_⟩
            · rw [List.length_map]
              refine small1000 (Nat.le_trans (List.length_filter_le _ _) ?_)
              rw [List.length_take, List.length_cons, List.length_map, List.length_range]
              omega
            · intro a o e
              rw [upd_ne (ne_of_none e nD2)]
              exact s6 a o e
            · rw [upd_same, tk, List.filter_append, List.map_append]
              simp [hm]
        · rintro H6 ⟨s6, e6⟩
          rw [List.length_map, List.take_length, ef] at e6
          have el6 := s6 _ _ el5
          refine ⟨D2, _, 0, .str y0, rfl, rfl, SqL.of e6, atI_nat (j := 0) rfl, l, _, _, rfl, rfl, el6, ?_, ?_⟩
          · rw [List.length_map]
            exact small1000 (by omega)
          · have S6 : Src H6 p (b + 12 * (i + 1)) := (S3.same (s34.trans s6)).mono (by omega)
            refine ⟨_, _, _, zs ++ [y0], rfl, fun a o na e => ?_, ?_, ?_, ?_, ?_, ?_⟩
            · rw [upd_ne (ne_of_none e nl)]
              exact (s34.trans s6) _ _ (B13 a o na e)
            · obtain ⟨A0, B0, t0, e0, r⟩ := S6
              exact ⟨A0, B0, t0, by rw [upd_ne nlp.symm]; exact e0, r⟩
            · rw [List.length_append, lz]
              rfl
            · refine List.nodup_append.mpr ⟨nz, List.nodup_cons.mpr ⟨List.not_mem_nil, List.nodup_nil⟩, fun a ha c hc e => ?_⟩
              obtain rfl := List.mem_singleton.mp hc
              exact hy2 (e ▸ ha)
            · intro y hy
              rcases List.mem_append.mp hy with hy | hy
              · exact hz y hy
              · obtain rfl := List.mem_singleton.mp hy
                exact hy1
            · rw [upd_same, List.map_append]
              rfl
    · rintro σ H1 ⟨x3, x4, x5, zs, rfl, B1, S1, lz, nz, hz, e1⟩
      exact ⟨_, rfl, q l zs H1 lz nz hz B1 nl nlp e1 (S1.mono (by have em : ((m : Int)).toNat = m := rfl; omega))⟩
end
abbrev sInteger : Stmt := top 15
abbrev sName : Stmt := top 16
abbrev sLetter : Stmt := top 17
abbrev sDigit : Stmt := top 18
structure Kt (mg : Str → Option Value) : Prop where
  nIsi : mg "isinstance" = none
  nInt : mg "int" = none
  nBool : mg "bool" = none
  nStr : mg "str" = none
  nLen : mg "len" = none
  nAll : mg "all" = none
  nTuple : mg "tuple" = none
section
variable {P : Program} {w : World} {K : PySem.W.Frag} {mg : Str → Option Value} {base : Heap}
theorem scLetter : FnScope ["sign"] ["sign"] (defScope sLetter) := ⟨rfl, rfl, rfl, by decide +kernel, rfl, by decide +kernel, by decide +kernel⟩
theorem scDigit : FnScope ["sign"] ["sign"] (defScope sDigit) := ⟨rfl, rfl, rfl, by decide +kernel, rfl, by decide +kernel, by decide +kernel⟩
theorem ok_letter {f : Addr} {fd : FuncData} (F : Fun K "_is_letter" "_is_letter" sLetter f fd) : FnOk P w K mg base CX0 1 f fd ["sign"] (spSign low) := by
  refine F.ok scLetter (fun vs H Q E h => ?_) (fun cdv A outer s H vs Q E hr h => ?_)
  · obtain ⟨c, rfl, _⟩ := h
    rfl
  · obtain ⟨c, rfl, q⟩ := h
    refine ⟨_, pss_one (ps_ret (pe_chain op_le_str op_le_str pe_str (pv 0) pe_str)), ?_⟩
    refine ⟨_, rfl, _, _, rfl, rfl, _, rfl, ?_⟩
    rw [low_is] at q
    by_cases h1 : decide ([c] < [97]) = true
    · have e : (!decide ([c] < [97])) = false := by rw [h1]; rfl
      rw [e, Bool.false_and] at q
      show if (!decide ([c] < [97])) = true then _ else _
      rw [e]
      exact q
    · have e : (!decide ([c] < [97])) = true := by rw [Bool.eq_false_iff.mpr h1]; rfl
      rw [e, Bool.true_and] at q
      show if (!decide ([c] < [97])) = true then _ else _
      rw [e]
      exact ⟨_, _, rfl, rfl, q⟩
theorem ok_digit {f : Addr} {fd : FuncData} (F : Fun K "_is_digit" "_is_digit" sDigit f fd) : FnOk P w K mg base CX0 1 f fd ["sign"] (spSign dig) := by
  refine F.ok scDigit (fun vs H Q E h => ?_) (fun cdv A outer s H vs Q E hr h => ?_)
  · obtain ⟨c, rfl, _⟩ := h
    rfl
  · obtain ⟨c, rfl, q⟩ := h
    refine ⟨_, pss_one (ps_ret (pe_chain op_le_str op_le_str pe_str (pv 0) pe_str)), ?_⟩
    refine ⟨_, rfl, _, _, rfl, rfl, _, rfl, ?_⟩
    rw [dig_is] at q
    by_cases h1 : decide ([c] < [48]) = true
    · have e : (!decide ([c] < [48])) = false := by rw [h1]; rfl
      rw [e, Bool.false_and] at q
      show if (!decide ([c] < [48])) = true then _ else _
      rw [e]
      exact q
    · have e : (!decide ([c] < [48])) = true := by rw [Bool.eq_false_iff.mpr h1]; rfl
      rw [e, Bool.true_and] at q
      show if (!decide ([c] < [48])) = true then _ else _
      rw [e]
      exact ⟨_, _, rfl, rfl, q⟩
theorem scInteger : FnScope ["value"] ["value"] (defScope sInteger) := ⟨rfl, rfl, rfl, by decide +kernel, rfl, by decide +kernel, by decide +kernel⟩
theorem ok_integer {f : Addr} {fd : FuncData} (F : Fun K "is_integer" "is_integer" sInteger f fd) (T : Kt mg) : FnOk P w K mg base CX0 1 f fd ["value"] (spInteger K) := by
  refine F.ok scInteger (fun vs H Q E h => ?_) (fun cdv A outer s H vs Q E hr h => ?_)
  · obtain ⟨v, b, rfl, _⟩ := h
    rfl
  · obtain ⟨v, b, rfl, ⟨t, b1, b2, ty, k1, k2, rfl⟩, q⟩ := h
    refine ⟨_, pss_one (ps_ret (pe_and (pe_callB call_isi (by rfl) T.nIsi (by decide +kernel) (pa_cons (pv 0) (pa_cons (pe_bltn (v := .ty "int") (by rfl) T.nInt (by decide +kernel) rfl) pa_nil))) (pe_one (pe_not (pe_callB call_isi (by rfl) T.nIsi (by decide +kernel) (pa_cons (pv 0) (pa_cons (pe_bltn (v := .ty "bool") (by rfl) T.nBool (by decide +kernel) rfl) pa_nil))))))), ?_⟩
    refine ⟨v, rfl, v, _, t, _, b1, rfl, .ty "int", ty, k1, b1, rfl, ?_⟩
    cases b1 with
    | false => exact q
    | true => exact ⟨v, rfl, v, _, t, _, b2, rfl, .ty "bool", ty, k2, b2, rfl, q⟩
theorem scName : FnScope ["value", "sign"] ["value"] (defScope sName) := ⟨rfl, rfl, rfl, by decide +kernel, rfl, by decide +kernel, by decide +kernel⟩
theorem ok_name {f fL fD : Addr} {fd dL dD : FuncData} {mt : Tok} (F : Fun K "is_name" "is_name" sName f fd) (T : Kt mg) (mMax : mg "MAX_NAME" = some (.int 8 mt)) (FL : Fun K "_is_letter" "_is_letter" sLetter fL dL) (bL : Binds K dL ["sign"] []) (mL : mg "_is_letter" = some (.ref fL))
    (FD : Fun K "_is_digit" "_is_digit" sDigit fD dD) (bD : Binds K dD ["sign"] []) (mD : mg "_is_digit" = some (.ref fD)) : FnOk P w K mg base CX0 2 f fd ["value"] (spIsName K) := by
  have GL : FnOk P w K mg base CX0 1 fL dL ["sign"] (spSign low) := ok_letter FL
  have GD : FnOk P w K mg base CX0 1 fD dD ["sign"] (spSign dig) := ok_digit FD
  refine F.ok scName (fun vs H Q E h => ?_) (fun cdv A outer s H vs Q E hr h => ?_)
  · obtain ⟨v, b, rfl, _⟩ := h
    rfl
  · obtain ⟨v, b, rfl, hb, q⟩ := h
    refine ⟨_, pss_cons (ps_if (PW.pt (pw_or (pt_not (pt_val (pe_callB call_isi (by rfl) T.nIsi (by decide +kernel) (pa_cons (pv 0) (pa_cons (pe_bltn (v := .ty "str") (by rfl) T.nStr (by decide +kernel) rfl) pa_nil))))) (pw_or1 (pt_not (pt_chain op_le op_le pe_int (pe_callB call_len_str (by rfl) T.nLen PySem.boot_len (pa_cons (pv 0) pa_nil)) (pe_glob (v := .int 8) rfl mMax ⟨mt, rfl⟩)))))) (pss_one (ps_ret pe_bl)) pss_nil)
      (pss_one (ps_ret (pe_and (pe_call GL hr rfl mL FL.kp bL .nil pass0 (pa_cons (pe_ix ix_str (pv 0) pe_int (fun _ _ => rfl)) pa_nil)) (pe_one (pe_callB (cr_all rfl) (by rfl) T.nAll (by decide +kernel) (pa_cons
        (pe_lc (own := [("sign", 1)]) (g := gName 1) (tt := tYes) rfl scName.nd (pi_str (pv 0)) (blkOk_by (own := [("sign", 1)]) (N := ["value", "sign"]) (sc := defScope sName) (by decide +kernel)) (fun _ _ _ _ _ => pg_name (i := 1) scName.nd rfl (Or.inl rfl)) (fun _ _ _ _ _ => pts_nil)
          (fun _ _ _ _ _ => pe_or (pe_call GL hr rfl mL FL.kp bL .nil pass0 (pa_cons (pv 1) pa_nil)) (pe_one (pe_call GD hr rfl mD FD.kp bD .nil pass0 (pa_cons (pv 1) pa_nil))))) pa_nil)))))), ?_⟩
    rcases hb with ⟨z, rfl, hz, rfl⟩ | ⟨t, ty, k, rfl⟩
    · refine ⟨_, rfl, _, _, _, _, true, rfl, .ty "str", .base (.str z), kit_ty (by decide +kernel), true, rfl, ?_⟩
      show if (!true) = true then _ else _
      refine iteF ⟨_, rfl, z, rfl, by rw [sizeLine_eq]; exact hz, _, _, rfl, rfl, _, rfl, ?_⟩
      have lz : z.cps.toList.length = z.length := rfl
      by_cases c1 : (1 : Int) ≤ (z.length : Int)
      · rw [decide_eq_true c1]
        refine iteT ⟨_, _, rfl, rfl, _, rfl, ?_⟩
        by_cases c2 : (z.length : Int) ≤ 8
        · rw [decide_eq_true c2]
          show if (!true) = true then _ else _
          refine iteF ?_
          obtain ⟨c, r, ez⟩ : ∃ c r, z.cps.toList = c :: r := by
            cases e : z.cps.toList with
            | nil =>
              rw [e] at lz
              simp at lz
              omega
            | cons c r => exact ⟨c, r, rfl⟩
          have nm : isName z = (low c && r.all fun d => low d || dig d) := by
            unfold isName
            rw [ez]
            have : (c :: r).length ≤ 8 := by rw [← ez, lz]; omega
            rw [decide_eq_true this, Bool.true_and]
          rw [nm] at q
          refine ⟨_, rfl, z, 0, c, rfl, rfl, by rw [sizeLine_eq]; exact hz, by rw [ez]; exact atI_nat (j := 0) rfl, c, rfl, low c, rfl, ?_⟩
          by_cases hl : low c = true
          · rw [hl] at q ⊢
            refine iteT ⟨_, rfl, z, rfl, fun D nD => lc_it (walk_str (z := z)) (fun i H' => Same H H' ∧ H' D = some (.lst (((z.cps.toList.take i).map fun d => low d || dig d).map V.bl))) ⟨same_put nD, upd_same⟩ (fun _ _ _ _ => trivial) ?_ ?_⟩
            · rintro i x H1 H2 hi ⟨s1, e1⟩ ⟨rfl, d, hd, rfl⟩
              have hd' : z.cps.toList[i]? = some d := by rw [Array.getElem?_toList]; exact hd
              have hsz : i < z.cps.toList.length := (List.getElem?_eq_some_iff.mp hd').1
              have tk : z.cps.toList.take (i + 1) = z.cps.toList.take i ++ [d] := by
                rw [List.take_add_one, hd']
                rfl
              have done : ∃ acc, H2 D = some (.lst acc) ∧ acc.length < sizeLine ∧ Same H (upd H2 D (.lst (acc ++ [V.bl (low d || dig d)]))) ∧ (upd H2 D (.lst (acc ++ [V.bl (low d || dig d)]))) D = some (.lst (((z.cps.toList.take (i + 1)).map fun d => low d || dig d).map V.bl)) := by
                refine ⟨_, e1, ?_, ?_, ?_⟩
                · rw [List.length_map, List.length_map, List.length_take]
                  exact small1000 (by omega)
                · intro a o e
                  rw [upd_ne (ne_of_none e nD)]
                  exact s1 a o e
                · rw [upd_same, tk, List.map_append, List.map_append]
                  rfl
              refine ⟨rfl, _, rfl, d, rfl, low d, rfl, ?_⟩
              by_cases h1 : low d = true
              · rw [h1, Bool.true_or] at done
                rw [h1]
                exact iteT done
              · rw [Bool.eq_false_iff.mpr h1, Bool.false_or] at done
                rw [Bool.eq_false_iff.mpr h1]
                exact iteF ⟨_, rfl, d, rfl, done⟩
            · rintro H1 ⟨s1, e1⟩
              have et : z.cps.toList.take z.cps.size = z.cps.toList := List.take_of_length_le (Nat.le_of_eq (by simp))
              rw [et] at e1
              refine ⟨D, _, rfl, SqL.of e1, ?_⟩
              have al : ((z.cps.toList.map fun d => low d || dig d).all id) = (true && r.all fun d => low d || dig d) := by
                rw [ez, List.map_cons, List.all_cons, List.all_map, hl]
                rfl
              rw [al]
              exact q H1 s1
          · rw [Bool.eq_false_iff.mpr hl] at q ⊢
            exact iteF (q H (Same.refl _))
        · rw [decide_eq_false c2]
          show if (!false) = true then _ else _
          refine iteT ?_
          have nm : isName z = false := by
            unfold isName
            have : ¬ z.cps.toList.length ≤ 8 := by rw [lz]; omega
            simp only [this, decide_false, Bool.false_and]
          rw [nm] at q
          exact q H (Same.refl _)
      · rw [decide_eq_false c1]
        refine iteF ⟨_, rfl, ?_⟩
        show if (!false) = true then _ else _
        refine iteT ?_
        have nm : isName z = false := by
          unfold isName
          have : z.cps.toList = [] := List.length_eq_zero_iff.mp (by rw [lz]; omega)
          rw [this]
          rfl
        rw [nm] at q
        exact q H (Same.refl _)
    · refine ⟨v, rfl, v, _, t, _, false, rfl, .ty "str", ty, k, false, rfl, ?_⟩
      exact q H (Same.refl _)
end
/-! the same in one datum each -/
section
open Cal
variable {P : Program} {w : World} {K : PySem.W.Frag} {mg : Str → Option Value} {base : Heap}
theorem nb_bt (B : Nb mg) : Bt mg := ⟨B.len, B.int, B.abs, B.range, B.str⟩
theorem nb_kt (B : Nb mg) : Kt mg := ⟨B.isinstance, B.int, B.bool, B.str, B.len, B.all, B.tuple⟩
theorem c_number (D : Df K mg "_law_number" sNumber) (B : Nb mg) : Cl P w K mg base CX0 1 "_law_number" ["_law_script", "_law_k"] (spNumber K) := by
  obtain ⟨f, fd, m, F⟩ := D.ex
  exact ⟨f, fd, m, F.kp, F.binds (fun _ _ _ _ _ _ us hl => match us, hl with | [_, _], _ => rfl), ok_number F (nb_bt B)⟩
theorem c_source (D : Df K mg "_law_source" sSource) (B : Nb mg) : Cl P w K mg base CX0 1 "_law_source" ["_law_cell"] spSource := by
  obtain ⟨f, fd, m, F⟩ := D.ex
  exact ⟨f, fd, m, F.kp, F.binds (fun _ _ _ _ _ _ us hl => match us, hl with | [_], _ => rfl), ok_source F (nb_bt B)⟩
theorem c_pick (D : Df K mg "_law_pick" sPick) (B : Nb mg) : Cl P w K mg base CX0 1 "_law_pick" ["_law_source_here", "_law_many"] spPick := by
  obtain ⟨f, fd, m, F⟩ := D.ex
  exact ⟨f, fd, m, F.kp, F.binds (fun _ _ _ _ _ _ us hl => match us, hl with | [_, _], _ => rfl), ok_pick F (nb_bt B)⟩
theorem c_one (D : Df K mg "_law_one" sOne) (B : Nb mg) (Dpick : Df K mg "_law_pick" sPick) : Cl P w K mg base CX0 2 "_law_one" ["_law_source_here", "_law_things"] (spOne K) := by
  obtain ⟨f, fd, m, F⟩ := D.ex
  obtain ⟨fpick, dpick, mpick, Fpick⟩ := Dpick.ex
  exact ⟨f, fd, m, F.kp, F.binds (fun _ _ _ _ _ _ us hl => match us, hl with | [_, _], _ => rfl), ok_one F (nb_bt B) Fpick (Fpick.binds (fun _ _ _ _ _ _ us hl => match us, hl with | [_, _], _ => rfl)) mpick⟩
theorem c_tags (D : Df K mg "_law_tags" sTags) (B : Nb mg) (Dpick : Df K mg "_law_pick" sPick) (Done : Df K mg "_law_one" sOne) (Dtag : Df K mg "_law_tag" sTag) : Cl P w K mg base CX0 4 "_law_tags" ["_law_source_here", "_law_many"] spTags := by
  obtain ⟨f, fd, m, F⟩ := D.ex
  obtain ⟨fpick, dpick, mpick, Fpick⟩ := Dpick.ex
  obtain ⟨fone, done, mone, Fone⟩ := Done.ex
  obtain ⟨ftag, dtag, mtag, Ftag⟩ := Dtag.ex
  exact ⟨f, fd, m, F.kp, F.binds (fun _ _ _ _ _ _ us hl => match us, hl with | [_, _], _ => rfl), ok_tags F (nb_bt B) Fpick (Fpick.binds (fun _ _ _ _ _ _ us hl => match us, hl with | [_, _], _ => rfl)) mpick Fone (Fone.binds (fun _ _ _ _ _ _ us hl => match us, hl with | [_, _], _ => rfl)) mone Ftag (Ftag.binds (fun _ _ _ _ _ _ us hl => match us, hl with | [_], _ => rfl)) mtag⟩
theorem c_is_integer (D : Df K mg "is_integer" sInteger) (B : Nb mg) : Cl P w K mg base CX0 1 "is_integer" ["value"] (spInteger K) := by
  obtain ⟨f, fd, m, F⟩ := D.ex
  exact ⟨f, fd, m, F.kp, F.binds (fun _ _ _ _ _ _ us hl => match us, hl with | [_], _ => rfl), ok_integer F (nb_kt B)⟩
theorem c_is_name (D : Df K mg "is_name" sName) (B : Nb mg) (D_is_letter : Df K mg "_is_letter" sLetter) (D_is_digit : Df K mg "_is_digit" sDigit) {mt : Tok} (mM : mg "MAX_NAME" = some (.int 8 mt)) : Cl P w K mg base CX0 2 "is_name" ["value"] (spIsName K) := by
  obtain ⟨f, fd, m, F⟩ := D.ex
  obtain ⟨f_is_letter, d_is_letter, m_is_letter, F_is_letter⟩ := D_is_letter.ex
  obtain ⟨f_is_digit, d_is_digit, m_is_digit, F_is_digit⟩ := D_is_digit.ex
  exact ⟨f, fd, m, F.kp, F.binds (fun _ _ _ _ _ _ us hl => match us, hl with | [_], _ => rfl), ok_name F (nb_kt B) mM F_is_letter (F_is_letter.binds (fun _ _ _ _ _ _ us hl => match us, hl with | [_], _ => rfl)) m_is_letter F_is_digit (F_is_digit.binds (fun _ _ _ _ _ _ us hl => match us, hl with | [_], _ => rfl)) m_is_digit⟩
end
end K04


namespace Rng
open PySem L2 Bag Gd LamX
def spBent : Sp := fun vs H Q _ => ∃ (p l : Addr) (b i : Nat) (us : List V) (rs : List Row), vs = [.ref p, .ref l, .int (i : Nat)] ∧ Src H p b ∧ b ≤ 800000 ∧ l ≠ p ∧ H l = some (.lst us) ∧ TupsAt rowV H us rs ∧ (∀ r ∈ rs, isName r.1 = true) ∧ rs.length ≤ 20 ∧ i < rs.length ∧
  ∀ (v : V) (o : Option Row) (H' : Hp), Line H' v o → But p H H' → Src H' p (b + 10) → Q v H'
theorem Src.kinB {H H' : Hp} {p : Addr} {b c : Nat} (h' : Src H' p c) (h : Src H p b) (k : But p H H') : Kin H H' := k.kin (fun u e => by
  obtain ⟨xs, e'⟩ := h.some
  rw [e] at e'
  exact ⟨xs, Option.some.inj e'⟩) fun _ => h'.some
end Rng


/-! sorted texts are the only ones of their kind -/
namespace Tm
open PySem L2 Bag Rng
/-- sorted names are the only ones of their kind -/
def asN (z : Str) : Row := (z, 0, 0)
theorem asN_lt {x y : Str} (h : (!PySem.Spec.ltCps x.cps.toList y.cps.toList) = true) : ltR (asN x) (asN y) = false := by
  unfold ltR asN
  by_cases e : x = y
  · rw [if_pos e, if_pos rfl]
    exact decide_eq_false (Int.lt_irrefl 0)
  · rw [if_neg e]
    rw [PyProof.Rows.ltCps_eq] at h
    simpa using h
theorem rising_pw : ∀ (l : List Str) (p : Str), PyProof.Rows.risingS p l = true → ((p :: l).map asN).Pairwise (fun p q => ltR q p = false)
  | [], p, _ => List.pairwise_singleton _ _
  | x :: r, p, h => by
    unfold PyProof.Rows.risingS at h
    rw [Bool.and_eq_true] at h
    have ih := rising_pw r x h.2
    have h1 := asN_lt h.1
    rw [List.map_cons]
    refine List.pairwise_cons.mpr ⟨fun q hq => ?_, ih⟩
    rw [List.map_cons] at hq ih
    rcases List.mem_cons.mp hq with rfl | hq
    · exact h1
    · exact ltR_tr h1 ((List.pairwise_cons.mp ih).1 q hq)
theorem sorted_pw : ∀ l : List Str, PyProof.Rows.sortedS l = true → (l.map asN).Pairwise (fun p q => ltR q p = false)
  | [], _ => List.Pairwise.nil
  | x :: r, h => rising_pw r x h
theorem names_one {as bs : List Str} (p : as.Perm bs) (ha : PyProof.Rows.sortedS as = true) (hb : PyProof.Rows.sortedS bs = true) : as = bs := by
  have := congrArg (List.map Prod.fst) (sorted_one (p.map asN) (sorted_pw as ha) (sorted_pw bs hb))
  rw [List.map_map, List.map_map] at this
  have e : (Prod.fst ∘ asN : Str → Str) = id := rfl
  rwa [e, List.map_id, List.map_id] at this
end Tm


/-! times and looks as trees: their texts, depths, looks, grid times -/
namespace Tm
open PySem PySem.Spec PyProof.Rows L2 Rng
inductive Tr where
  | now
  | shift (t : Tr) (n : Int)
  | floor (t : Tr)
  | ceil (t : Tr)
  | row (l : Tr)
  | look (a : Bool) (f : Str) (t : Tr) (w : Option Int) (s : Bool)
def intT (n : Int) : Str := Str.ofString (toString n)
def wordL (a : Bool) : Str := if a then "after" else "before"
def wrap (w : Str) (sides : List Str) : Str := w ++ "(" ++ Txt.join ", " sides ++ ")"
def boundT : Option Int → List Str
  | none => []
  | some n => [intT n]
def strictT (s : Bool) : List Str := if s then ["strict"] else []
def Tr.txt : Tr → Str
  | .now => "now"
  | .shift t n => wrap "shift" [t.txt, intT n]
  | .floor t => wrap "floor" [t.txt]
  | .ceil t => wrap "ceil" [t.txt]
  | .row l => wrap "time" [l.txt]
  | .look a f t w s => wrap (wordL a) ([f, t.txt] ++ boundT w ++ strictT s)
def Tr.dep : Tr → Nat
  | .now => 1
  | .shift t _ => t.dep + 1
  | .floor t => t.dep + 1
  | .ceil t => t.dep + 1
  | .row l => l.dep + 1
  | .look _ _ t _ _ => t.dep
def Tr.hgt : Tr → Nat
  | .now => 1
  | .shift t _ => t.hgt + 1
  | .floor t => t.hgt + 1
  | .ceil t => t.hgt + 1
  | .row l => l.hgt + 1
  | .look _ _ t _ _ => t.hgt + 1
def Tr.isLook : Tr → Bool
  | .look .. => true
  | _ => false
/-- the class: Now, Shift, Floor, Ceil, RowTime, Before, After -/
def Tr.ci : Tr → Nat
  | .now => 0
  | .shift _ _ => 1
  | .floor _ => 2
  | .ceil _ => 3
  | .row _ => 4
  | .look a _ _ _ _ => if a then 6 else 5
def Tr.lks : Tr → List Str
  | .now => []
  | .shift t _ => t.lks
  | .floor t => t.lks
  | .ceil t => t.lks
  | .row l => l.lks
  | .look a f t w s => (Tr.look a f t w s).txt :: t.lks
def Tr.gds : Tr → List Str
  | .now => []
  | .shift t _ => t.gds
  | .floor t => (Tr.floor t).txt :: t.gds
  | .ceil t => (Tr.ceil t).txt :: t.gds
  | .row l => l.gds
  | .look _ _ t _ _ => t.gds
/-- right numbers, names and kinds -/
def Tr.ok : Tr → Prop
  | .now => True
  | .shift t n => t.isLook = false ∧ t.ok ∧ -1000000000 ≤ n ∧ n ≤ 1000000000
  | .floor t => t.isLook = false ∧ t.ok
  | .ceil t => t.isLook = false ∧ t.ok
  | .row l => l.isLook = true ∧ l.ok
  | .look _ f t w _ => isName f = true ∧ t.isLook = false ∧ t.ok ∧ ∀ n, w = some n → 0 ≤ n ∧ n ≤ 1000000000
theorem Tr.ci_lt (t : Tr) : t.ci < 7 := by
  cases t with
  | look a f t w s => cases a <;> exact of_decide_eq_true rfl
  | _ => exact of_decide_eq_true rfl
theorem Tr.ci_look (t : Tr) : (decide (t.ci < 5)) = !t.isLook := by
  cases t with
  | look a f t w s => cases a <;> rfl
  | _ => rfl
theorem Tr.dep_pos (t : Tr) : 1 ≤ t.dep := by
  induction t with
  | now => exact Nat.le_refl 1
  | shift t n ih => exact Nat.le_succ_of_le ih
  | floor t ih => exact Nat.le_succ_of_le ih
  | ceil t ih => exact Nat.le_succ_of_le ih
  | row l ih => exact Nat.le_succ_of_le ih
  | look a f t w s ih => exact ih
/-- look and time in turn -/
theorem Tr.hgt_le : ∀ t : Tr, t.ok → t.hgt + (if t.isLook then 0 else 1) ≤ 2 * t.dep
  | .now, _ => by decide
  | .shift t n, h => by have := hgt_le t h.2.1; rw [h.1] at this; simp only [Tr.hgt, Tr.dep, Tr.isLook] at this ⊢; simp only [Bool.false_eq_true, if_false] at this ⊢; omega
  | .floor t, h => by have := hgt_le t h.2; rw [h.1] at this; simp only [Tr.hgt, Tr.dep, Tr.isLook] at this ⊢; simp only [Bool.false_eq_true, if_false] at this ⊢; omega
  | .ceil t, h => by have := hgt_le t h.2; rw [h.1] at this; simp only [Tr.hgt, Tr.dep, Tr.isLook] at this ⊢; simp only [Bool.false_eq_true, if_false] at this ⊢; omega
  | .row l, h => by have := hgt_le l h.2; rw [h.1] at this; simp only [Tr.hgt, Tr.dep, Tr.isLook] at this ⊢; simp only [Bool.false_eq_true, if_false, if_true] at this ⊢; omega
  | .look a f t w s, h => by have := hgt_le t h.2.2.1; rw [h.2.1] at this; simp only [Tr.hgt, Tr.dep, Tr.isLook] at this ⊢; simp only [Bool.false_eq_true, if_false, if_true] at this ⊢; omega
/-! ### texts -/
theorem app_len (a b : Str) : (a ++ b).length = a.length + b.length := by
  show (a ++ b).cps.size = a.cps.size + b.cps.size
  rw [Str.cps_append, Array.size_append]
theorem str_ext {a b : Str} (h : TL.tl a = TL.tl b) : a = b := by
  cases a with
  | mk a =>
    cases b with
    | mk b => exact congrArg Str.mk (Array.toList_inj.mp h)
theorem intT_len {n : Int} (h1 : -1000000000 ≤ n) (h2 : n ≤ 1000000000) : (intT n).length ≤ 40 := by
  have l : n.natAbs.log2 < 30 := by
    by_cases z : n.natAbs = 0
    · rw [z]; decide
    · exact (Nat.log2_lt z).mpr (by omega)
  have e := int_text_length_le (k := 30) (by decide) l
  show (Str.ofString (toString n)).length ≤ 40
  rw [PySem.ofString_length]
  omega
/-- how long the sides are, with what stands between -/
def sumL : List Str → Nat
  | [] => 0
  | x :: r => x.length + 2 + sumL r
theorem join_len : ∀ l : List Str, (Txt.join ", " l).length ≤ sumL l := by
  intro l
  rw [TL.join_eq]
  induction l with
  | nil => exact Nat.le_refl 0
  | cons x r ih =>
    cases r with
    | nil => simp only [sumL]; exact Nat.le_add_right _ _
    | cons y r =>
      show (x ++ ", " ++ Str.join ", " (y :: r)).length ≤ x.length + 2 + sumL (y :: r)
      rw [app_len, app_len]
      have e : (", " : Str).length = 2 := by decide
      omega
theorem sumL_app (a b : List Str) : sumL (a ++ b) = sumL a + sumL b := by
  induction a with
  | nil => simp [sumL]
  | cons x r ih => simp only [List.cons_append, sumL, ih]; omega
theorem wrap_len (w : Str) (l : List Str) : (wrap w l).length ≤ w.length + 2 + sumL l := by
  unfold wrap
  rw [app_len, app_len, app_len]
  have e1 : ("(" : Str).length = 1 := by decide
  have e2 : (")" : Str).length = 1 := by decide
  have := join_len l
  omega
theorem name8 {z : Str} (h : isName z = true) : z.length ≤ 8 := by
  unfold isName at h
  rw [Bool.and_eq_true, decide_eq_true_eq] at h
  have : z.cps.toList.length = z.length := Array.length_toList
  omega
theorem boundT_len {w : Option Int} (h : ∀ n, w = some n → 0 ≤ n ∧ n ≤ 1000000000) : sumL (boundT w) ≤ 42 := by
  cases w with
  | none => exact Nat.zero_le _
  | some n =>
    have := h n rfl
    have := intT_len (n := n) (by omega) (by omega)
    simp only [boundT, sumL]
    omega
theorem sumL_eq (l : List Str) : (l.map fun x => x.length).sum + l.length * (", " : Str).length = sumL l := by
  have e : (", " : Str).length = 2 := by decide
  rw [e]
  induction l with
  | nil => rfl
  | cons x r ih => simp only [List.map_cons, List.sum_cons, List.length_cons, sumL]; omega
theorem Tr.txt_len : ∀ t : Tr, t.ok → t.txt.length + (if t.isLook then 0 else 100) ≤ 200 * t.dep
  | .now, _ => by decide
  | .shift t n, h => by
    have i := txt_len t h.2.1
    have a := wrap_len "shift" [t.txt, intT n]
    have b := intT_len h.2.2.1 h.2.2.2
    have c : ("shift" : Str).length = 5 := by decide
    rw [h.1] at i
    simp only [Tr.txt, Tr.dep, Tr.isLook, sumL] at *
    simp only [Bool.false_eq_true, if_false] at *
    omega
  | .floor t, h => by
    have i := txt_len t h.2
    have a := wrap_len "floor" [t.txt]
    have c : ("floor" : Str).length = 5 := by decide
    rw [h.1] at i
    simp only [Tr.txt, Tr.dep, Tr.isLook, sumL] at *
    simp only [Bool.false_eq_true, if_false] at *
    omega
  | .ceil t, h => by
    have i := txt_len t h.2
    have a := wrap_len "ceil" [t.txt]
    have c : ("ceil" : Str).length = 4 := by decide
    rw [h.1] at i
    simp only [Tr.txt, Tr.dep, Tr.isLook, sumL] at *
    simp only [Bool.false_eq_true, if_false] at *
    omega
  | .row l, h => by
    have i := txt_len l h.2
    have a := wrap_len "time" [l.txt]
    have c : ("time" : Str).length = 4 := by decide
    rw [h.1] at i
    simp only [Tr.txt, Tr.dep, Tr.isLook, sumL] at *
    simp only [Bool.false_eq_true, if_false, if_true] at *
    omega
  | .look a f t w s, h => by
    have i := txt_len t h.2.2.1
    have a1 := wrap_len (wordL a) ([f, t.txt] ++ boundT w ++ strictT s)
    have n8 := name8 h.1
    have c : (wordL a).length ≤ 6 := by cases a <;> decide
    have b : sumL (boundT w) ≤ 42 := by
      cases w with
      | none => exact Nat.zero_le _
      | some n =>
        have := h.2.2.2 n rfl
        have := intT_len (n := n) (by omega) (by omega)
        simp only [boundT, sumL]
        omega
    have d : sumL (strictT s) ≤ 8 := by cases s <;> decide
    rw [sumL_app, sumL_app] at a1
    rw [h.2.1] at i
    simp only [Tr.txt, Tr.dep, Tr.isLook, sumL] at *
    simp only [Bool.false_eq_true, if_false, if_true] at *
    omega
theorem Tr.txt_le {t : Tr} (h : t.ok) {d : Nat} (hd : t.dep ≤ d) : t.txt.length ≤ 200 * d := by
  have := t.txt_len h
  have : 200 * t.dep ≤ 200 * d := Nat.mul_le_mul_left _ hd
  omega
theorem Tr.lks_len (t : Tr) : t.lks.length ≤ t.hgt := by
  induction t with
  | now => exact Nat.zero_le _
  | shift t n ih => exact Nat.le_succ_of_le ih
  | floor t ih => exact Nat.le_succ_of_le ih
  | ceil t ih => exact Nat.le_succ_of_le ih
  | row l ih => exact Nat.le_succ_of_le ih
  | look a f t w s ih => exact Nat.succ_le_succ ih
theorem Tr.gds_len (t : Tr) : t.gds.length ≤ t.hgt := by
  induction t with
  | now => exact Nat.zero_le _
  | shift t n ih => exact Nat.le_succ_of_le ih
  | floor t ih => exact Nat.succ_le_succ ih
  | ceil t ih => exact Nat.succ_le_succ ih
  | row l ih => exact Nat.le_succ_of_le ih
  | look a f t w s ih => exact Nat.le_succ_of_le ih
/-! ### texts in order, once each -/
structure IsSS (zs l : List Str) : Prop where
  ord : PyProof.Rows.sortedS zs = true
  one : zs.Nodup
  mem : ∀ z, z ∈ zs ↔ z ∈ l
theorem IsSS.same {zs ys l : List Str} (a : IsSS zs l) (b : IsSS ys l) : zs = ys :=
  names_one ((List.perm_ext_iff_of_nodup a.one b.one).mpr fun z => (a.mem z).trans (b.mem z).symm) a.ord b.ord
theorem IsSS.of {zs l m : List Str} (a : IsSS zs l) (h : ∀ z, z ∈ l ↔ z ∈ m) : IsSS zs m := ⟨a.ord, a.one, fun z => (a.mem z).trans (h z)⟩
end Tm


namespace Rng
open PySem L2 Bag
theorem TabAt.but {C : Addr} {H H' : Hp} {o c : Addr} {ss : List Row} {fs : List Str} (T : TabAt C H o ss fs) (b : But c H H') (h : (∃ zs, H c = some (.lst zs)) ∨ H c = none) : TabAt C H' o ss fs := by
  obtain ⟨dx, p, q, d, ys, h1, h2, h3, h4⟩ := T
  have ne : ∀ {x : Addr} {u : HO}, H x = some u → (∀ zs, u ≠ .lst zs) → x ≠ c := fun {x u} e n z => by
    rw [z] at e
    rcases h with ⟨zs, k⟩ | k
    · rw [k] at e
      exact n zs (Option.some.inj e).symm
    · rw [k] at e
      cases e
  exact ⟨dx, p, q, d, ys, b _ _ (ne h1 fun _ z => by cases z) h1, b _ _ (ne h2 fun _ z => by cases z) h2, h3.but b (fun ys e => by
    rcases h with ⟨zs, k⟩ | k
    · rw [k] at e; cases e
    · rw [k] at e; cases e), b _ _ (ne h4 fun _ z => by cases z) h4⟩
theorem TabAt.same {C : Addr} {H H' : Hp} {o : Addr} {ss : List Row} {fs : List Str} (T : TabAt C H o ss fs) (s : Same H H') : TabAt C H' o ss fs := by
  obtain ⟨dx, p, q, d, ys, h1, h2, h3, h4⟩ := T
  exact ⟨dx, p, q, d, ys, s _ _ h1, s _ _ h2, h3.same s, s _ _ h4⟩
theorem rows_eqv : ∀ rs ss : List Row, PyData.eqvAll (rs.map fun r => .tuple (rowD r)) (ss.map fun r => .tuple (rowD r)) = decide (rs = ss)
  | [], [] => rfl
  | [], s :: ss => by simp [PyData.eqvAll]
  | r :: rs, [] => by simp [PyData.eqvAll]
  | r :: rs, s :: ss => by
    rw [List.map_cons, List.map_cons, PyData.eqvAll, row_eqv, rows_eqv rs ss]
    by_cases a : r = s <;> by_cases b : rs = ss <;> simp [a, b]
/-- what a new table promises -/
def spMade (C : Addr) (rs : List Row) (H : Hp) (Q : VK) : Prop := ∀ (o : Addr) (ss : List Row) (fs : List Str) (H' : Hp), TabOf rs ss fs → TabAt C H' o ss fs → H o = none → Same H H' → Q (.ref o) H'
theorem made_at {C : Addr} {H : Hp} {xs : List V} {rs : List Row} {Q : VK} {E : XK} (tr : TupsAt rowV H xs rs) (G : Good rs) (q : spMade C rs H Q) (x dx : Addr) (nx : H x = none) (nd : H dx = none) (ne : dx ≠ x) :
    ∃ ws rest, V.ref x :: xs = ws ++ rest ∧ ws.length = (["self"] : List Str).length ∧ rest.length ≤ sizeLine ∧ ∀ p, (upd (upd H dx (.own x)) x (.ins C dx [])) p = Option.none →
      spInit C (ws ++ [V.ref p]) (upd (upd (upd H dx (.own x)) x (.ins C dx [])) p (.tup rest)) (fun v H2 => v = .non ∧ Q (.ref x) H2) E := by
  refine ⟨[V.ref x], xs, rfl, rfl, ?_, fun p np => ?_⟩
  · rw [tr.len, sizeLine_eq]
    have := G.len
    omega
  have s1 : Same H (upd (upd H dx (.own x)) x (.ins C dx [])) := fun a o e => by rw [upd_ne (ne_of_none e nx), upd_ne (ne_of_none e nd)]; exact e
  have s2 := s1.trans (same_put (o := .tup xs) np)
  have npx : x ≠ p := fun z => by rw [← z, upd_same] at np; cases np
  refine ⟨x, p, dx, xs, rs, rfl, by rw [upd_ne npx]; exact upd_same, upd_same, tr.same s2, G, fun ss fs H' T A b => ⟨rfl, q x ss fs H' T A nx fun a o e => b a o (fun z => by rw [z, nx] at e; cases e) (s2 a o e)⟩⟩
def spOf (C : Addr) : Sp := fun vs H Q _ => ∃ (t : Addr) (xs : List V) (rs : List Row), vs = [.ref t] ∧ H t = some (.tup xs) ∧ TupsAt rowV H xs rs ∧ Good rs ∧ spMade C rs H Q
def spTable (C : Addr) : Sp := fun vs H Q _ => ∃ (l : Addr) (xs : List V) (rs : List Row), vs = [.ref l] ∧ H l = some (.lst xs) ∧ TupsAt rowV H xs rs ∧ Good rs ∧ spMade C rs H Q
def spLenT (C : Addr) : Sp := fun vs H Q _ => ∃ (o : Addr) (ss : List Row) (fs : List Str), vs = [.ref o] ∧ TabAt C H o ss fs ∧ Q (.int ss.length) H
/-- a table's text -/
def titleOf (n : Nat) : Str := Str.ofString "Table(" ++ Str.ofString (toString (n : Int)) ++ Str.ofString " rows)"
def spReprT (C : Addr) : Sp := fun vs H Q _ => ∃ (o : Addr) (ss : List Row) (fs : List Str), vs = [.ref o] ∧ TabAt C H o ss fs ∧ ss.length ≤ 1000 ∧ Q (.str (titleOf ss.length)) H
def spInT (K : PySem.W.Frag) (C : Addr) : Sp := fun vs H Q _ => ∃ (o : Addr) (x : V) (ss : List Row) (fs : List Str), vs = [.ref o, x] ∧ TabAt C H o ss fs ∧ (∀ r ∈ ss, isName r.1 = true) ∧
  ((RowB K H x false ∧ ∀ H', Same H H' → Q (.bl false) H') ∨ ∃ p r, x = .ref p ∧ H p = some (.tup (rowV r)) ∧ isName r.1 = true ∧ ∀ H', Same H H' → Q (.bl (decide (r ∈ ss))) H')
def spEqT (K : PySem.W.Frag) (C : Addr) : Sp := fun vs H Q _ => ∃ (o : Addr) (y : V) (ss : List Row) (fs : List Str), vs = [.ref o, y] ∧ TabAt C H o ss fs ∧ (∀ r ∈ ss, isName r.1 = true) ∧
  ((∃ o2 ss2 fs2, y = .ref o2 ∧ TabAt C H o2 ss2 fs2 ∧ (∀ r ∈ ss2, isName r.1 = true) ∧ Q (.bl (decide (ss = ss2))) H) ∨ ∃ t, TyX K H y t ∧ PySem.W.kitOne K t (.ref C) = some false ∧ Q (.bl false) H)
theorem row_name {K : PySem.W.Frag} {H : Hp} {p : Addr} {r : Row} (e : H p = some (.tup (rowV r))) (n : isName r.1 = true) : RowB K H (.ref p) true := by
  refine .inr (.inr ⟨p, _, _, _, true, true, true, rfl, e, .inl ⟨r.1, rfl, ?_, n.symm⟩, fun _ _ => .int _, fun _ _ => .int _, rfl⟩)
  unfold isName at n
  simp only [Bool.and_eq_true, decide_eq_true_eq] at n
  exact Nat.le_trans (show r.1.length ≤ 8 from n.1) (by decide)
/-- x in t, t a tuple of data -/
def rInT (K : PySem.W.Frag) : R2 := fun x y H Q => ∃ d ds, Dp K H x d ∧ Dp K H y (.tuple ds) ∧ SeqAt.shaped d = true ∧ SeqAt.shaped (.tuple ds) = true ∧ Q (.bl (ds.any fun z => PyData.eqv z d)) H
theorem op_inT {X : Cx} (hu : X.A.units + 65 < cLine) : OpR X (compareOp .In) (rInT X.K) := by
  intro pins s σ H x y v u Q I rx ry h
  obtain ⟨d, ds, hd, he, sd, se, q⟩ := h
  obtain ⟨as, r1⟩ := Dp.reads I d x v hd rx
  obtain ⟨bs, r2⟩ := Dp.reads I (.tuple ds) y u he ry
  refine SeqAt.in_tuple_reads r2 r1 (by have := SeqAt.canLay_of_shaped se; simpa only [PyData.canLay0] using this) (SeqAt.canLay_of_shaped sd) ?_ ⟨.bl _, H, I, rfl, q⟩
  have h1 := SeqAt.depth_of_shaped sd
  have h2 : min (PyData.depthAll ds) d.depth ≤ d.depth := Nat.min_le_right _ _
  omega
/-- what isinstance asks of the class of tables -/
structure Ti (K : PySem.W.Frag) (C : Addr) : Prop where
  ca : PySem.W.findIn K (.ref C) "__class__" = some (some (.builtin "object.__class__"))
  cn : PySem.W.specialIn K (.builtin "object.__class__") "__get__" = some (some (.builtin "getset_descriptor.__get__"))
  ct : PySem.W.takesIn K (.builtin "object.__class__") = some true
  cm : PySem.W.mroIn K C (.type "object") = some true
theorem own_kit {K : PySem.W.Frag} {C : Addr} : PySem.W.kitOne K (.ref C) (.ref C) = some true := by
  unfold PySem.W.kitOne
  rw [if_pos (by simp)]
end Rng


/-! times and looks as objects; trees as tuples -/
namespace Tm
open PySem PySem.Spec PyProof.Rows L2 Rng
/-- instances and tuples stay -/
structure Kp (H H' : Hp) : Prop where
  ins : ∀ a C dx fs z, H a = some (.ins C dx fs) → fs.lookup ("text" : Str) = some (.str z) → H' a = some (.ins C dx fs)
  tup : ∀ a xs, H a = some (.tup xs) → H' a = some (.tup xs)
theorem Kp.refl (H : Hp) : Kp H H := ⟨fun _ _ _ _ _ h _ => h, fun _ _ h => h⟩
theorem Kp.trans {H H1 H2 : Hp} (a : Kp H H1) (b : Kp H1 H2) : Kp H H2 := ⟨fun c C dx fs z h k => b.ins _ _ _ _ _ (a.ins _ _ _ _ _ h k) k, fun c xs h => b.tup _ _ (a.tup _ _ h)⟩
theorem _root_.L2.Same.kp {H H' : Hp} (s : Same H H') : Kp H H' := ⟨fun _ _ _ _ _ h _ => s _ _ h, fun _ _ h => s _ _ h⟩
theorem kp_but {p : Addr} {H H' : Hp} (b : But p H H') (h : ∃ xs, H p = some (.lst xs)) : Kp H H' := by
  obtain ⟨xs, e⟩ := h
  refine ⟨fun a C dx fs _ h _ => b _ _ (fun z => ?_) h, fun a ys h => b _ _ (fun z => ?_) h⟩
  · rw [z, e] at h; cases h
  · rw [z, e] at h; cases h
theorem _root_.Rng.Src.kp {H H' : Hp} {p : Addr} {n : Nat} (S : Src H p n) (b : But p H H') : Kp H H' := kp_but b S.some
/-- a new object's own changes -/
theorem kp_new {p : Addr} {H H' : Hp} (b : But p H H') (h : H p = none) : Kp H H' :=
  ⟨fun a C dx fs _ e _ => b _ _ (fun z => by rw [z, h] at e; cases e) e, fun a xs e => b _ _ (fun z => by rw [z, h] at e; cases e) e⟩
theorem kp_put {p : Addr} {H : Hp} {u : HO} (h : (∃ xs, H p = some (.lst xs)) ∨ (∃ kvs, H p = some (.dK kvs)) ∨ H p = none) : Kp H (upd H p u) := by
  refine ⟨fun a C dx fs _ e _ => ?_, fun a xs e => ?_⟩
  · rw [upd_ne]
    · exact e
    · rintro rfl
      rcases h with ⟨_, h⟩ | ⟨_, h⟩ | h <;> rw [e] at h <;> cases h
  · rw [upd_ne]
    · exact e
    · rintro rfl
      rcases h with ⟨_, h⟩ | ⟨_, h⟩ | h <;> rw [e] at h <;> cases h
def cname (i : Nat) : Str := (["Now", "Shift", "Floor", "Ceil", "RowTime", "Before", "After"] : List Str).getD i ""
def fnames : List Str := ["text", "depth", "looks", "grid_times", "time", "by", "look", "feed", "within", "strict"]
/-- the classes of times and looks -/
structure TmK (K : PySem.W.Frag) (Cs : Nat → Addr) (CT CL : Addr) : Prop where
  cl : ∀ i, i < 7 → Cls K (Cs i)
  na : ∀ i, i < 7 → ∀ f ∈ fnames, NoAttr K (Cs i) f
  kit : ∀ i, i < 7 → ∀ j, j < 7 → PySem.W.kitOne K (.ref (Cs i)) (.ref (Cs j)) = some (decide (i = j))
  kitT : ∀ i, i < 7 → PySem.W.kitOne K (.ref (Cs i)) (.ref CT) = some (decide (i < 5))
  kitL : ∀ i, i < 7 → PySem.W.kitOne K (.ref (Cs i)) (.ref CL) = some (!decide (i < 5))
  nf : ∀ i, i < 7 → ∀ j, j < 7 → PySem.W.notFirst K (Cs i) (.ref (Cs j)) = true
  ti : ∀ i, i < 7 → Ti K (Cs i)
  inj : ∀ i, i < 7 → ∀ j, j < 7 → Cs i = Cs j → i = j
section
variable {Cs : Nat → Addr} {H H' : Hp}
/-- an object with a text, of the classes from lo to hi -/
def TxAt (Cs : Nat → Addr) (lo hi : Nat) (H : Hp) (a : Addr) (z : Str) : Prop := ∃ i dx fs, lo ≤ i ∧ i < hi ∧ H a = some (.ins (Cs i) dx fs) ∧ fs.lookup ("text" : Str) = some (.str z)
theorem TxAt.kp {lo hi : Nat} {a : Addr} {z : Str} (h : TxAt Cs lo hi H a z) (k : Kp H H') : TxAt Cs lo hi H' a z := by
  obtain ⟨i, dx, fs, h1, h2, h3, h4⟩ := h
  exact ⟨i, dx, fs, h1, h2, k.ins _ _ _ _ _ h3 h4, h4⟩
inductive Txs (Cs : Nat → Addr) (lo hi : Nat) (H : Hp) : List Addr → List Str → Prop
  | nil : Txs Cs lo hi H [] []
  | cons {a : Addr} {z : Str} {as : List Addr} {zs : List Str} : TxAt Cs lo hi H a z → Txs Cs lo hi H as zs → Txs Cs lo hi H (a :: as) (z :: zs)
theorem Txs.kp {lo hi : Nat} {as : List Addr} {zs : List Str} (h : Txs Cs lo hi H as zs) (k : Kp H H') : Txs Cs lo hi H' as zs := by
  induction h with
  | nil => exact .nil
  | cons a _ ih => exact .cons (a.kp k) ih
theorem Txs.len {lo hi : Nat} {as : List Addr} {zs : List Str} (h : Txs Cs lo hi H as zs) : as.length = zs.length := by
  induction h with
  | nil => rfl
  | cons a _ ih => exact congrArg Nat.succ ih
theorem Txs.get {lo hi : Nat} {as : List Addr} {zs : List Str} (h : Txs Cs lo hi H as zs) : ∀ (i : Nat) (a : Addr), as[i]? = some a → ∃ z, zs[i]? = some z ∧ TxAt Cs lo hi H a z := by
  induction h with
  | nil => exact fun i a e => by cases e
  | cons x _ ih =>
    intro i a e
    cases i with
    | zero =>
      cases e
      exact ⟨_, rfl, x⟩
    | succ i => exact ih i a e
theorem Txs.snoc {lo hi : Nat} {as : List Addr} {zs : List Str} (h : Txs Cs lo hi H as zs) {a : Addr} {z : Str} (t : TxAt Cs lo hi H a z) : Txs Cs lo hi H (as ++ [a]) (zs ++ [z]) := by
  induction h with
  | nil => exact .cons t .nil
  | cons x _ ih => exact .cons x ih
/-- a tuple of such objects, in order of their texts -/
def TxT (Cs : Nat → Addr) (lo hi : Nat) (H : Hp) (p : Addr) (l : List Str) : Prop := ∃ as zs, H p = some (.tup (as.map V.ref)) ∧ Txs Cs lo hi H as zs ∧ IsSS zs l ∧ zs.length ≤ l.length
theorem TxT.kp {lo hi : Nat} {p : Addr} {l : List Str} (h : TxT Cs lo hi H p l) (k : Kp H H') : TxT Cs lo hi H' p l := by
  obtain ⟨as, zs, h1, h2, h3⟩ := h
  exact ⟨as, zs, k.tup _ _ h1, h2.kp k, h3⟩
/-- what all of them hold -/
structure Com (Cs : Nat → Addr) (H : Hp) (fs : List (Str × V)) (t : Tr) : Prop where
  text : fs.lookup ("text" : Str) = some (.str t.txt)
  depth : fs.lookup ("depth" : Str) = some (.int (t.dep : Int))
  looks : ∃ p, fs.lookup ("looks" : Str) = some (.ref p) ∧ TxT Cs 5 7 H p t.lks
  grids : ∃ p, fs.lookup ("grid_times" : Str) = some (.ref p) ∧ TxT Cs 2 4 H p t.gds
  noat : fs.lookup ("at" : Str) = none
  nowb : fs.lookup ("without_bound" : Str) = none
theorem Com.kp {fs : List (Str × V)} {t : Tr} (h : Com Cs H fs t) (k : Kp H H') : Com Cs H' fs t := by
  obtain ⟨h1, h2, ⟨p, h3, h4⟩, ⟨q, h5, h6⟩, h7, h8⟩ := h
  exact ⟨h1, h2, ⟨p, h3, h4.kp k⟩, ⟨q, h5, h6.kp k⟩, h7, h8⟩
def wV : Option Int → V
  | none => .non
  | some n => .int n
/-- the object at o is the time or look -/
def ThAt (Cs : Nat → Addr) (H : Hp) : Tr → Addr → Prop
  | .now, o => ∃ dx fs, H o = some (.ins (Cs 0) dx fs) ∧ Com Cs H fs .now
  | .shift t n, o => ∃ dx fs c, H o = some (.ins (Cs 1) dx fs) ∧ Com Cs H fs (.shift t n) ∧ fs.lookup ("time" : Str) = some (.ref c) ∧ fs.lookup ("by" : Str) = some (.int n) ∧ ThAt Cs H t c
  | .floor t, o => ∃ dx fs c, H o = some (.ins (Cs 2) dx fs) ∧ Com Cs H fs (.floor t) ∧ fs.lookup ("time" : Str) = some (.ref c) ∧ ThAt Cs H t c
  | .ceil t, o => ∃ dx fs c, H o = some (.ins (Cs 3) dx fs) ∧ Com Cs H fs (.ceil t) ∧ fs.lookup ("time" : Str) = some (.ref c) ∧ ThAt Cs H t c
  | .row l, o => ∃ dx fs c, H o = some (.ins (Cs 4) dx fs) ∧ Com Cs H fs (.row l) ∧ fs.lookup ("look" : Str) = some (.ref c) ∧ ThAt Cs H l c
  | .look a f t w s, o => ∃ dx fs c, H o = some (.ins (Cs (if a then 6 else 5)) dx fs) ∧ Com Cs H fs (.look a f t w s) ∧ fs.lookup ("feed" : Str) = some (.str f) ∧ fs.lookup ("time" : Str) = some (.ref c) ∧ fs.lookup ("within" : Str) = some (wV w) ∧ fs.lookup ("strict" : Str) = some (.bl s) ∧ ThAt Cs H t c
theorem ThAt.kp (k : Kp H H') : ∀ {t : Tr} {o : Addr}, ThAt Cs H t o → ThAt Cs H' t o
  | .now, _, ⟨dx, fs, h1, h2⟩ => ⟨dx, fs, k.ins _ _ _ _ _ h1 h2.text, h2.kp k⟩
  | .shift _ _, _, ⟨dx, fs, c, h1, h2, h3, h4, h5⟩ => ⟨dx, fs, c, k.ins _ _ _ _ _ h1 h2.text, h2.kp k, h3, h4, ThAt.kp k h5⟩
  | .floor _, _, ⟨dx, fs, c, h1, h2, h3, h4⟩ => ⟨dx, fs, c, k.ins _ _ _ _ _ h1 h2.text, h2.kp k, h3, ThAt.kp k h4⟩
  | .ceil _, _, ⟨dx, fs, c, h1, h2, h3, h4⟩ => ⟨dx, fs, c, k.ins _ _ _ _ _ h1 h2.text, h2.kp k, h3, ThAt.kp k h4⟩
  | .row _, _, ⟨dx, fs, c, h1, h2, h3, h4⟩ => ⟨dx, fs, c, k.ins _ _ _ _ _ h1 h2.text, h2.kp k, h3, ThAt.kp k h4⟩
  | .look _ _ _ _ _, _, ⟨dx, fs, c, h1, h2, h3, h4, h5, h6, h7⟩ => ⟨dx, fs, c, k.ins _ _ _ _ _ h1 h2.text, h2.kp k, h3, h4, h5, h6, ThAt.kp k h7⟩
/-- what is read of any of them -/
theorem ThAt.node : ∀ {t : Tr} {o : Addr}, ThAt Cs H t o → ∃ dx fs, H o = some (.ins (Cs t.ci) dx fs) ∧ Com Cs H fs t
  | .now, _, ⟨dx, fs, h1, h2⟩ => ⟨dx, fs, h1, h2⟩
  | .shift _ _, _, ⟨dx, fs, c, h1, h2, _⟩ => ⟨dx, fs, h1, h2⟩
  | .floor _, _, ⟨dx, fs, c, h1, h2, _⟩ => ⟨dx, fs, h1, h2⟩
  | .ceil _, _, ⟨dx, fs, c, h1, h2, _⟩ => ⟨dx, fs, h1, h2⟩
  | .row _, _, ⟨dx, fs, c, h1, h2, _⟩ => ⟨dx, fs, h1, h2⟩
  | .look _ _ _ _ _, _, ⟨dx, fs, c, h1, h2, _⟩ => ⟨dx, fs, h1, h2⟩
/-- a tree as a tuple -/
def TupTr (H : Hp) : Tr → V → Prop
  | .now, v => ∃ p, v = .ref p ∧ H p = some (.tup [.str "now"])
  | .shift t n, v => ∃ p u, v = .ref p ∧ H p = some (.tup [.str "shift", u, .int n]) ∧ TupTr H t u
  | .floor t, v => ∃ p u, v = .ref p ∧ H p = some (.tup [.str "floor", u]) ∧ TupTr H t u
  | .ceil t, v => ∃ p u, v = .ref p ∧ H p = some (.tup [.str "ceil", u]) ∧ TupTr H t u
  | .row l, v => ∃ p u, v = .ref p ∧ H p = some (.tup [.str "time", u]) ∧ TupTr H l u
  | .look a f t w s, v => ∃ p u, v = .ref p ∧ H p = some (.tup [.str (wordL a), .str f, u, wV w, .bl s]) ∧ TupTr H t u
theorem TupTr.kp (k : Kp H H') : ∀ {t : Tr} {v : V}, TupTr H t v → TupTr H' t v
  | .now, _, ⟨p, h1, h2⟩ => ⟨p, h1, k.tup _ _ h2⟩
  | .shift _ _, _, ⟨p, u, h1, h2, h3⟩ => ⟨p, u, h1, k.tup _ _ h2, TupTr.kp k h3⟩
  | .floor _, _, ⟨p, u, h1, h2, h3⟩ => ⟨p, u, h1, k.tup _ _ h2, TupTr.kp k h3⟩
  | .ceil _, _, ⟨p, u, h1, h2, h3⟩ => ⟨p, u, h1, k.tup _ _ h2, TupTr.kp k h3⟩
  | .row _, _, ⟨p, u, h1, h2, h3⟩ => ⟨p, u, h1, k.tup _ _ h2, TupTr.kp k h3⟩
  | .look _ _ _ _ _, _, ⟨p, u, h1, h2, h3⟩ => ⟨p, u, h1, k.tup _ _ h2, TupTr.kp k h3⟩
end
end Tm


/-! C(e, *xs); o.m(k = e, ..) -/
namespace Mk1
open PySem PySem.Spec PyProof.Rows L2 ClX StX
section
variable {X : Cx} {CX : CXT} {k : Nat} {f C : Addr} {sp : Sp} {E : XK} {x : Str} {e e1 : Expr} {te t1 : TE} {p pos q : Pos}
def tMakeES (K : PySem.W.Frag) (C : Addr) (sp : Sp) (E : XK) (t1 te : TE) : TE := fun σ H Q => t1 σ H fun y1 H1 => te σ H1 fun y H2 => ∃ a xs, y = V.ref a ∧ (SqT K H2 a xs ∨ SqL K H2 a xs) ∧ ∀ x dx, H2 x = Option.none → H2 dx = Option.none → dx ≠ x →
  sp (V.ref x :: (y1 :: xs)) (upd (upd H2 dx (.own x)) x (.ins C dx [])) (fun v H3 => v = .non ∧ Q (.ref x) H3) E
theorem pe_makeES (M : Mk X.K C f) (F : FnR X.prog X.w X.K X.mg X.base CX k f sp) (hr : Room (k + 1) X.A) (hg : Gl X x) (hm : X.mg x = some (.ref C)) (hx : Passes CX X E) (h1 : PE X e1 t1) (he : PE X e te) (hdb : (x == ("__debug__" : Str)) = false := by decide)
    (hst : starEach [e1, .Starred e q] X.env = (false, eval e1 X.env) :: starEach [.Starred e q] X.env := by rfl) (hst2 : starEach [.Starred e q] X.env = [(true, eval e X.env)] := by rfl) : PE X (.Call (.Name x p) [e1, .Starred e q] [] pos) (tMakeES X.K C sp E t1 te) := by
  refine ⟨fun pins s σ H Q I h => wpAny_Call_Name_kw (ld_glob I hg hm ?_ hdb)⟩
  refine PySem.W.callWith_S2 (h₀ := X.base) I.ok.mod.kin M.kp ?_ hst (by rw [hst2]; rfl)
  rw [hst, hst2]
  refine Calls.spliced_cons (thn (h1.run pins s σ H _ I h) fun v1 s1 ⟨y1, H1, I1, r1, h2⟩ => PySem.W.ks_spliced (thn (he.run pins s1 σ H1 _ I1 h2) fun v s2 ⟨y, H2, I2, ry, a, xs, ey, hxs, w⟩ => ?_))
  subst ey
  obtain rfl : v = Value.ref a := ry
  refine star_any I2 hxs fun us s3 I3 rv => Calls.spliced_nil ⟨I3.kIn, ?_⟩
  show wpAny (model X.prog X.w) X.A (call (.ref C) ([] ++ (v1 :: (us ++ []))) []) (EP X pins σ Q) X.xe s3
  rw [List.append_nil, List.nil_append]
  exact run_makeR M F hr hx I3 (.cons r1 rv) w
end
section
variable {X : Cx} {CX : CXT} {k : Nat} {C g : Addr} {sp : Sp} {E : XK} {o : Expr} {m : Str} {pos apos : Pos} {ta : TE} {tk : TA} {pl : Sem Bool} {fd : FuncData} {ps ks : List Str} {kws : List Keyword} {gu : List Value → List Value → List Value} {gV : List V → List V → List V}
def tMethK (C : Addr) (m : Str) (n : Nat) (sp : Sp) (gV : List V → List V → List V) (E : XK) (ta : TE) (tk : TA) : TE := fun σ H Q => ta σ H fun x H1 => ∃ a dx fs, x = .ref a ∧ H1 a = some (.ins C dx fs) ∧ fs.lookup m = none ∧ tk σ H1 fun zs H2 => zs.length = n ∧ sp (gV [x] zs) H2 Q E
/-- o.m(k = e, ..) -/
theorem pe_methK (he : PE X o ta) (c : Cls X.K C) (hm : Meth X.K C m g) (F : FnOk X.prog X.w X.K X.mg X.base CX k g fd ps sp) (hr : Room k X.A) (hb : KBn X.K fd ps 1 ks gu gV) (hx : Passes CX X E) (hkw : PK X kws tk)
    (hall : (backToKw pos (keywordEach kws X.env)).all (·.1.isSome) = true := by rfl) (hks : (backToKw pos (keywordEach kws X.env)).filterMap (·.1) = ks := by rfl)
    (hpl : ((backTo pos (starEach [] X.env)).any (·.1) || (backToKw pos (keywordEach kws X.env)).any (·.1.isNone)) = false := by rfl)
    (ht : eval (.Call (.Attribute o m apos) [] kws pos) X.env = (do
      let ov ← eval o X.env
      standAt apos.atName
      let (f, first) ← holding [ov] (getMethod ov m pl)
      callWith pos f first (backTo pos (starEach [] X.env)) (backToKw pos (keywordEach kws X.env))) := by rfl) : PE X (.Call (.Attribute o m apos) [] kws pos) (tMethK C m ks.length sp gV E ta tk) := by
  refine ⟨fun pins s σ H Q I h => PySem.W.methodCall_KW (pl := pl) (thn (he.run pins s σ H _ I h) fun u s1 ⟨x, H1, I1, rx, a, dx, fs, ex, ea, l, w⟩ => ?_) ht⟩
  subst ex
  obtain rfl : u = Value.ref a := rx
  refine getmeth_ok I1 ea c hm l ?_
  refine PySem.W.callWith_KW0 (first := [.ref a]) (h₀ := X.base) I1.ok.mod.kin hm.kp hall (thn (hkw.run pos pins s1 σ H1 _ I1 w) fun ws s3 ⟨zs, H2, I3, rz, hz, w2⟩ => ⟨I3.kIn, ?_⟩) hpl
  rw [hks]
  have lz : ws.length = ks.length := rz.length.symm.trans hz
  refine wpAny_call (codeAny_mono (F.run X.A X.stack s3 H2 ⟨[.ref a], ks.zip ws⟩ (gu [.ref a] ws) (gV [.ref a] zs) Q E hr I3.env0 (hb.to s3 [.ref a] ws I3.kIn rfl lz) (hb.rel (.cons rfl .nil) rz) w2) fun r z hq => ?_)
  cases r with
  | error e => exact hx pins σ H2 s3 e z I3 hq
  | ok fl =>
    cases fl with
    | ret u => exact I3.after hq
    | next => exact False.elim hq
    | brk => exact False.elim hq
    | cont => exact False.elim hq
end
end Mk1


/-! x is True, x is not False of any x; [e, *xs]; a dict comprehension over a list -/
namespace Tm
open PySem PySem.Spec PyProof.Rows L2 Rng StX
section
variable {X : Cx}
theorem op_isB : OpR X (compareOp .Is) (fun x y H Q => ∃ b, y = .bl b ∧ Q (.bl (decide (x = .bl b))) H) := by
  intro pins s σ H x y v u Q I rx ry h
  obtain ⟨b, rfl, q⟩ := h
  cases (show u = Value.bool b from ry)
  by_cases e : x = .bl b
  · subst e
    cases (show v = Value.bool b from rx)
    exact wpAny_is_self rfl ⟨.bl true, H, I, rfl, by simpa using q⟩
  · have hv : v ≠ Value.bool b := by
      rintro rfl
      cases x with
      | bl c => exact e (congrArg V.bl (Value.bool.inj (show Value.bool b = Value.bool c from rx)).symm)
      | non => cases rx
      | int i => obtain ⟨t, z⟩ := rx; cases z
      | str i => obtain ⟨t, z⟩ := rx; cases z
      | byt i => obtain ⟨t, z⟩ := rx; cases z
      | flt i => obtain ⟨t, z⟩ := rx; cases z
      | ref a => cases rx
      | ty n => cases rx
    refine wpAny_is_other ?_ hv ⟨.bl false, H, I, rfl, by rw [decide_eq_false e] at q; exact q⟩
    cases x <;> first | (cases rx; rfl) | (obtain ⟨t, rfl⟩ := rx; rfl)
theorem op_isnotB : OpR X (compareOp .IsNot) (fun x y H Q => ∃ b, y = .bl b ∧ Q (.bl (!decide (x = .bl b))) H) := by
  intro pins s σ H x y v u Q I rx ry h
  obtain ⟨b, rfl, q⟩ := h
  cases (show u = Value.bool b from ry)
  by_cases e : x = .bl b
  · subst e
    cases (show v = Value.bool b from rx)
    exact wpAny_isNot_self rfl ⟨.bl false, H, I, rfl, by simpa using q⟩
  · have hv : v ≠ Value.bool b := by
      rintro rfl
      cases x with
      | bl c => exact e (congrArg V.bl (Value.bool.inj (show Value.bool b = Value.bool c from rx)).symm)
      | non => cases rx
      | int i => obtain ⟨t, z⟩ := rx; cases z
      | str i => obtain ⟨t, z⟩ := rx; cases z
      | byt i => obtain ⟨t, z⟩ := rx; cases z
      | flt i => obtain ⟨t, z⟩ := rx; cases z
      | ref a => cases rx
      | ty n => cases rx
    refine wpAny_isNot_other ?_ hv ⟨.bl true, H, I, rfl, by rw [decide_eq_false e] at q; exact q⟩
    cases x <;> first | (cases rx; rfl) | (obtain ⟨t, rfl⟩ := rx; rfl)
variable {e e1 : Expr} {te t1 : TE} {pos q : Pos}
/-- [e, *xs] -/
def tLstES (K : PySem.W.Frag) (t1 te : TE) : TE := fun σ H Q => t1 σ H fun y1 H1 => te σ H1 fun y H2 => ∃ a xs, y = V.ref a ∧ (SqT K H2 a xs ∨ SqL K H2 a xs) ∧ xs.length + 1 ≤ sizeLine ∧ ∀ p, H2 p = none → Q (.ref p) (upd H2 p (.lst (y1 :: xs)))
theorem pe_lstES (h1 : PE X e1 t1) (he : PE X e te) (hst : starEach [e1, .Starred e q] X.env = (false, eval e1 X.env) :: starEach [.Starred e q] X.env := by rfl) (hst2 : starEach [.Starred e q] X.env = [(true, eval e X.env)] := by rfl) :
    PE X (.List [e1, .Starred e q] pos) (tLstES X.K t1 te) := by
  refine ⟨fun pins s σ H Q I h => ?_⟩
  refine wpAny_List_spliced ?_
  rw [hst, hst2]
  refine Calls.spliced_cons (thn (h1.run pins s σ H _ I h) fun v1 s1 ⟨y1, H1, I1, r1, h2⟩ => PySem.W.ks_spliced (thn (he.run pins s1 σ H1 _ I1 h2) fun v s2 ⟨y, H2, I2, ry, a, xs, ey, hxs, hz, w⟩ => ?_))
  subst ey
  obtain rfl : v = Value.ref a := ry
  refine star_any I2 hxs fun us s3 I3 rv => Calls.spliced_nil ⟨?_, ?_⟩
  · rw [List.append_nil, List.length_cons, ← rv.length]; exact hz
  · have hf : H2 s3.heap.objs.size = none := I3.hok.fresh (Nat.le_refl _)
    rw [List.append_nil]
    refine ⟨.ref s3.heap.objs.size, upd H2 s3.heap.objs.size (.lst (y1 :: xs)), I3.laid (t' := s3.toks) (fun b u e => Heap.get?_push_of_some _ e) (Nat.le_refl _) ?_, rfl, w _ hf⟩
    exact ⟨by rw [List.length_cons]; exact hz, v1 :: us, 0, .cons r1 rv, Heap.get?_push_size _ rfl⟩
end
/-- a dict comprehension over a list that stays -/
theorem dc_list {K : PySem.W.Frag} {a : Addr} {xs : List V} {g : TG} {tt : TT} {tk tv : TE} {vs : List Nat} {σ : L2.St} {H1 : Hp} {D : Addr} {Qd : Hp → Prop} (Pv : Nat → Hp → Prop) (h0 : Pv 0 (upd H1 D (.dK []))) (hl : ∀ i H, i ≤ xs.length → Pv i H → SqL K H a xs)
    (hs : ∀ i x H, xs[i]? = some x → Pv i H → g x (wipe σ vs) H fun σ2 H2 => wipe σ2 vs = wipe σ vs ∧ tt σ2 H2 fun b H3 =>
      if b = true then tk σ2 H3 fun y H4 => tv σ2 H4 fun z H5 => ∃ kvs k, y = kV k ∧ H5 D = some (.dK kvs) ∧ kvs.length < sizeLine ∧ Pv (i + 1) (upd H5 D (.dK (putK kvs k z))) else Pv (i + 1) H3) (hd : ∀ H, Pv xs.length H → Qd H) :
    ∃ W : Nat → Nat → Hp → Prop, (∃ m, W 0 m (upd H1 D (.dK []))) ∧ ∀ i m H, W i m H →
      ((Itl K a).stop i H ∧ Qd H) ∨ ((Itl K a).go i H ∧ ∃ Nx : Hp → Prop, (∀ H', Nx H' → ∃ m', m' < m ∧ W (i + 1) m' H') ∧ ∀ x H', (Itl K a).yld i H x H' → g x (wipe σ vs) H' fun σ2 H2 => wipe σ2 vs = wipe σ vs ∧ tt σ2 H2 fun b H3 =>
        if b = true then tk σ2 H3 fun y H4 => tv σ2 H4 fun z H5 => ∃ kvs k, y = kV k ∧ H5 D = some (.dK kvs) ∧ kvs.length < sizeLine ∧ Nx (upd H5 D (.dK (putK kvs k z))) else Nx H3) := by
  refine ⟨fun i m H => m = xs.length - i ∧ i ≤ xs.length ∧ Pv i H, ⟨xs.length, by simp, Nat.zero_le _, h0⟩, ?_⟩
  rintro i m H ⟨rfl, hi, p⟩
  have q := hl i H hi p
  by_cases hlt : i < xs.length
  · refine .inr ⟨⟨xs, xs[i], q, by simp [hlt]⟩, Pv (i + 1), fun H' p' => ⟨xs.length - (i + 1), by omega, rfl, hlt, p'⟩, fun x H' y => ?_⟩
    obtain ⟨e, y⟩ := y
    subst e
    exact hs i x _ (y xs q) p
  · have e : i = xs.length := by omega
    subst e
    exact .inl ⟨⟨xs, q, Nat.le_refl _⟩, hd H p⟩
end Tm


/-! settings: what a grid is, a pair of a feed and a distance, a feed; where the first wrong element stands -/
namespace Rng
open PySem L2 Bag Gd LamX Tr4
/-- elements, one after the other -/
inductive Els {α : Type} (R : Hp → V → Option α → Prop) (H : Hp) : List V → List (Option α) → Prop
  | nil : Els R H [] []
  | cons {v : V} {o : Option α} {vs : List V} {os : List (Option α)} : R H v o → Els R H vs os → Els R H (v :: vs) (o :: os)
section
variable {α κ : Type} [DecidableEq κ] {R : Hp → V → Option α → Prop} {H H' : Hp} {vs : List V} {os : List (Option α)}
theorem Els.imp (h : Els R H vs os) (k : ∀ v o, R H v o → R H' v o) : Els R H' vs os := by
  induction h with
  | nil => exact .nil
  | cons a _ ih => exact .cons (k _ _ a) ih
theorem Els.len (h : Els R H vs os) : vs.length = os.length := by
  induction h with
  | nil => rfl
  | cons _ _ ih => rw [List.length_cons, List.length_cons, ih]
theorem Els.get {i : Nat} {v : V} (h : Els R H vs os) (e : vs[i]? = some v) : ∃ o, os[i]? = some o ∧ R H v o := by
  induction h generalizing i with
  | nil => simp at e
  | cons k _ ih =>
    cases i with
    | zero =>
      obtain rfl := Option.some.inj e
      exact ⟨_, rfl, k⟩
    | succ i => exact ih e
theorem Els.append {us : List V} {ps : List (Option α)} (h : Els R H vs os) (g : Els R H us ps) : Els R H (vs ++ us) (os ++ ps) := by
  induction h with
  | nil => exact g
  | cons a _ ih => exact .cons a ih
theorem Els.take (h : Els R H vs os) (i : Nat) : Els R H (vs.take i) (os.take i) := by
  induction h generalizing i with
  | nil => rw [List.take_nil, List.take_nil]; exact .nil
  | cons k _ ih =>
    cases i with
    | zero => exact .nil
    | succ i => exact .cons k (ih i)
theorem Els.drop (h : Els R H vs os) (i : Nat) : Els R H (vs.drop i) (os.drop i) := by
  induction h generalizing i with
  | nil => rw [List.drop_nil, List.drop_nil]; exact .nil
  | cons k r ih =>
    cases i with
    | zero => exact .cons k r
    | succ i => exact ih i
/-- the first i elements are these, no two with one key -/
def FineK (key : α → κ) (os : List (Option α)) (i : Nat) (rs : List α) : Prop := os.take i = rs.map some ∧ (rs.map key).Nodup
/-- the first wrong element stands at k -/
def BadK (key : α → κ) (os : List (Option α)) (k : Nat) : Prop := ∃ rs, FineK key os k rs ∧ (os[k]? = some none ∨ ∃ r, os[k]? = some (some r) ∧ key r ∈ rs.map key)
/-- none is wrong -/
def AllK (key : α → κ) (os : List (Option α)) (rs : List α) : Prop := os = rs.map some ∧ (rs.map key).Nodup
theorem FineK.step {key : α → κ} {i : Nat} {rs : List α} {r : α} (f : FineK key os i rs) (e : os[i]? = some (some r)) (n : key r ∉ rs.map key) : FineK key os (i + 1) (rs ++ [r]) := by
  refine ⟨by rw [List.take_add_one, e, f.1, List.map_append]; rfl, ?_⟩
  rw [List.map_append]
  refine List.nodup_append.mpr ⟨f.2, List.nodup_cons.mpr ⟨List.not_mem_nil, List.nodup_nil⟩, fun a ha c hc z => ?_⟩
  obtain rfl := List.mem_singleton.mp hc
  exact n (z ▸ ha)
theorem FineK.all {key : α → κ} {i : Nat} {rs : List α} (f : FineK key os i rs) (h : os.length ≤ i) : AllK key os rs := ⟨by have := f.1; rwa [List.take_of_length_le h] at this, f.2⟩
theorem FineK.len {key : α → κ} {i : Nat} {rs : List α} (f : FineK key os i rs) (h : i ≤ os.length) : rs.length = i := by
  have := congrArg List.length f.1
  rw [List.length_take, List.length_map, Nat.min_eq_left h] at this
  exact this.symm
end
/-- a distance -/
def distV : V → Bool
  | .int n => decide (1 ≤ n) && decide (n ≤ 1000000000)
  | _ => false
inductive PairIs (H : Hp) : V → Option (Str × Int) → Prop
  | pair {p : Addr} {z : Str} {n : Int} : H p = some (.tup [.str z, .int n]) → isName z = true → 1 ≤ n → n ≤ 1000000000 → PairIs H (.ref p) (some (z, n))
  | no {v : V} : NoTup H v → PairIs H v none
  | short {p : Addr} {xs : List V} : H p = some (.tup xs) → xs.length ≠ 2 → PairIs H (.ref p) none
  | two {p : Addr} {x y : V} : H p = some (.tup [x, y]) → Cell H x → Cell H y → (nameV x && distV y) = false → PairIs H (.ref p) none
inductive FeedIs (H : Hp) : V → Option Str → Prop
  | name {z : Str} : isName z = true → FeedIs H (.str z) (some z)
  | none {v : V} : Cell H v → nameV v = false → FeedIs H v none
def netV : V → V → Option (Int × Int)
  | .int s, .int o => if 1 ≤ s ∧ s ≤ 60 ∧ 0 ≤ o ∧ o < s then some (s, o) else none
  | _, _ => none
def offV (i : Int) : V → Bool
  | .int j => decide (0 ≤ j) && decide (j < i)
  | _ => false
theorem net_is (i : Int) (y : V) : (netV (.int i) y).isSome = (decide (1 ≤ i) && (decide (i ≤ 60) && (intV y && offV i y))) := by
  cases y with
  | int j =>
    show (if 1 ≤ i ∧ i ≤ 60 ∧ 0 ≤ j ∧ j < i then some (i, j) else none).isSome = (decide (1 ≤ i) && (decide (i ≤ 60) && (true && (decide (0 ≤ j) && decide (j < i)))))
    by_cases h1 : 1 ≤ i <;> by_cases h2 : i ≤ 60 <;> by_cases h3 : 0 ≤ j <;> by_cases h4 : j < i <;> simp [h1, h2, h3, h4]
  | _ =>
    show false = (decide (1 ≤ i) && (decide (i ≤ 60) && (false && false)))
    simp
inductive NetIs (H : Hp) : V → Option (Option (Int × Int)) → Prop
  | non : NetIs H .non (some none)
  | net {p : Addr} {s o : Int} : H p = some (.tup [.int s, .int o]) → 1 ≤ s → s ≤ 60 → 0 ≤ o → o < s → NetIs H (.ref p) (some (some (s, o)))
  | no {v : V} : v ≠ .non → NoTup H v → NetIs H v none
  | short {p : Addr} {xs : List V} : H p = some (.tup xs) → xs.length ≠ 2 → NetIs H (.ref p) none
  | two {p : Addr} {x y : V} : H p = some (.tup [x, y]) → Cell H x → Cell H y → netV x y = none → NetIs H (.ref p) none
theorem PairIs.kin {H H' : Hp} {v : V} {o : Option (Str × Int)} (h : PairIs H v o) (k : Kin H H') : PairIs H' v o := by
  cases h with
  | pair e n a b => exact .pair ((k _).2.1 _ e) n a b
  | no h => exact .no (h.kin k)
  | short e n => exact .short ((k _).2.1 _ e) n
  | two e a b n => exact .two ((k _).2.1 _ e) (a.kin k) (b.kin k) n
theorem FeedIs.kin {H H' : Hp} {v : V} {o : Option Str} (h : FeedIs H v o) (k : Kin H H') : FeedIs H' v o := by
  cases h with
  | name n => exact .name n
  | none c n => exact .none (c.kin k) n
theorem NetIs.kin {H H' : Hp} {v : V} {o : Option (Option (Int × Int))} (h : NetIs H v o) (k : Kin H H') : NetIs H' v o := by
  cases h with
  | non => exact .non
  | net e a b c d => exact .net ((k _).2.1 _ e) a b c d
  | no n h => exact .no n (h.kin k)
  | short e n => exact .short ((k _).2.1 _ e) n
  | two e a b n => exact .two ((k _).2.1 _ e) (a.kin k) (b.kin k) n
theorem NetIs.forms {H : Hp} {v : V} {o : Option (Option (Int × Int))} (h : NetIs H v o) (n : v ≠ .non) : (NoTup H v ∧ o = none) ∨ (∃ p xs, v = .ref p ∧ H p = some (.tup xs) ∧ xs.length ≠ 2 ∧ o = none) ∨
    ∃ p x y, v = .ref p ∧ H p = some (.tup [x, y]) ∧ Cell H x ∧ Cell H y ∧ o.isSome = (netV x y).isSome := by
  cases h with
  | non => exact absurd rfl n
  | no _ h => exact .inl ⟨h, rfl⟩
  | short e m => exact .inr (.inl ⟨_, _, rfl, e, m, rfl⟩)
  | @net p s o e a b c d => exact .inr (.inr ⟨_, _, _, rfl, e, .int _, .int _, by show true = (if 1 ≤ s ∧ s ≤ 60 ∧ 0 ≤ o ∧ o < s then some (s, o) else none).isSome; rw [if_pos ⟨a, b, c, d⟩]; rfl⟩)
  | two e a b m => exact .inr (.inr ⟨_, _, _, rfl, e, a, b, by rw [m]; rfl⟩)
theorem PairIs.forms {H : Hp} {v : V} {o : Option (Str × Int)} (h : PairIs H v o) : (NoTup H v ∧ o = none) ∨ (∃ p xs, v = .ref p ∧ H p = some (.tup xs) ∧ xs.length ≠ 2 ∧ o = none) ∨
    ∃ p x y, v = .ref p ∧ H p = some (.tup [x, y]) ∧ Cell H x ∧ Cell H y ∧ o.isSome = (nameV x && distV y) := by
  cases h with
  | no h => exact .inl ⟨h, rfl⟩
  | short e n => exact .inr (.inl ⟨_, _, rfl, e, n, rfl⟩)
  | pair e n a b =>
    refine .inr (.inr ⟨_, _, _, rfl, e, .str ?_, .int _, ?_⟩)
    · unfold isName at n
      simp only [Bool.and_eq_true, decide_eq_true_eq] at n
      exact Nat.le_trans n.1 (by decide)
    · show true = (isName _ && (decide _ && decide _))
      rw [n, decide_eq_true a, decide_eq_true b]
      rfl
  | two e a b n => exact .inr (.inr ⟨_, _, _, rfl, e, a, b, n.symm⟩)
/-- an own error with the field index, or value -/
def ErrK (C : Addr) (f : Str) (v : V) (H : Hp) (E : XK) : Prop := ∀ (d : Addr) (H' : Hp), H d = Option.none → Same H H' → H' d = some (exd d [(f, v)]) → E (.ref C) (some d) H'
theorem ErrK.same {C : Addr} {f : Str} {v : V} {H H1 : Hp} {E : XK} (h : ErrK C f v H E) (s : Same H H1) : ErrK C f v H1 E := fun d H' n s' e => h d H' (s.free n) (s.trans s') e
def spGridQ : Sp := fun vs H Q _ => ∃ (v : V) (o : Option (Option (Int × Int))), vs = [v] ∧ NetIs H v o ∧ v ≠ .non ∧ Q (.bl o.isSome) H
def spChkGrid (C : Addr) : Sp := fun vs H Q E => ∃ (v : V) (o : Option (Option (Int × Int))), vs = [v] ∧ NetIs H v o ∧ (o.isSome = true → Q .non H) ∧ (o = none → ErrK C "value" v H E)
def spDistQ : Sp := fun vs H Q _ => ∃ (v : V) (o : Option (Str × Int)), vs = [v] ∧ PairIs H v o ∧ ∀ H', Same H H' → Q (.bl o.isSome) H'
/-- a tuple that is tracked, its object known or not, or stands in K -/
def TpK (K : PySem.W.Frag) (H : Hp) (p : Addr) (xs : List V) : Prop := SqT K H p xs
theorem TpK.of {K : PySem.W.Frag} {H : Hp} {p : Addr} {xs : List V} (h : H p = some (.tup xs)) : TpK K H p xs := SqT.of h
theorem sqF {K : PySem.W.Frag} {H : Hp} {p : Addr} {q : Obj} {xs : List V} (h : H p = some (.frz q (.tup xs))) : SqT K H p xs := .inl (.inr ⟨q, h⟩)
theorem TpK.ty {K : PySem.W.Frag} {H : Hp} {p : Addr} {xs : List V} (h : TpK K H p xs) : TyX K H (.ref p) (.type "tuple") := by
  rcases h with (h | ⟨q, h⟩) | ⟨o, its, n, e, c, _⟩
  · exact .base (.tup h)
  · exact .fTuple h
  · exact .kTuple e c
theorem TpK.sq {K : PySem.W.Frag} {H : Hp} {p : Addr} {xs : List V} (h : TpK K H p xs) : SqT K H p xs := h
theorem TpK.same {K : PySem.W.Frag} {H H' : Hp} {p : Addr} {xs : List V} (h : TpK K H p xs) (s : Same H H') : TpK K H' p xs := h.imp (fun e => e.imp (s _ _) fun ⟨q, e⟩ => ⟨q, s _ _ e⟩) id
theorem TpK.but {K : PySem.W.Frag} {H H' : Hp} {o p : Addr} {xs : List V} (h : TpK K H p xs) (b : But o H H') (n : ∀ zs, H o ≠ some (.tup zs)) (n2 : ∀ q zs, H o ≠ some (.frz q (.tup zs))) : TpK K H' p xs :=
  h.imp (fun e => e.imp (fun e => b _ _ (fun z => n xs (z ▸ e)) e) fun ⟨q, e⟩ => ⟨q, b _ _ (fun z => n2 q xs (z ▸ e)) e⟩) id
def spApart (K : PySem.W.Frag) (C : Addr) : Sp := fun vs H Q E => ∃ v : V, vs = [v] ∧
  ((∃ (p : Addr) (xs : List V) (os : List (Option (Str × Int))), v = .ref p ∧ TpK K H p xs ∧ Els PairIs H xs os ∧ os.length ≤ 100 ∧ (∀ k H1, BadK Prod.fst os k → Same H H1 → ErrK C "index" (.int k) H1 E) ∧ ∀ rs H', AllK Prod.fst os rs → Same H H' → Q .non H') ∨
   (NoTup H v ∧ ErrK C "index" .non H E))
def spFeeds (K : PySem.W.Frag) (C : Addr) : Sp := fun vs H Q E => ∃ (v g : V) (n : Option (Int × Int)), vs = [v, g] ∧ NetIs H g (some n) ∧
  ((∃ (p : Addr) (xs : List V) (os : List (Option Str)), v = .ref p ∧ TpK K H p xs ∧ Els FeedIs H xs os ∧ os.length ≤ 100 ∧ (∀ k H1, BadK id os k → Same H H1 → ErrK C "index" (.int k) H1 E) ∧
      ∀ rs, AllK id os rs → (rs ≠ [] ∧ n = none → ∀ H1, Same H H1 → ErrK C "index" .non H1 E) ∧ (rs = [] ∨ n ≠ none → ∀ H', Same H H' → Q .non H')) ∨
   (NoTup H v ∧ ErrK C "index" .non H E))
end Rng


/-! what the defs of times and looks promise -/
namespace Tm
open PySem PySem.Spec PyProof.Rows L2 Rng Bag
section
variable {K : PySem.W.Frag} {H H' : Hp} {v ty : V}
theorem tyx_same {x : V} {t : Value} (h : TyX K H x t) (s : Same H H') : TyX K H' x t := by
  cases h with
  | base b =>
    refine .base ?_
    cases b with
    | non => exact .non
    | bl b => exact .bl b
    | int i => exact .int i
    | str z => exact .str z
    | flt z => exact .flt z
    | lst e => exact .lst (s _ _ e)
    | frz e => exact .frz (s _ _ e)
    | tup e => exact .tup (s _ _ e)
    | dK e => exact .dK (s _ _ e)
    | dT e => exact .dT (s _ _ e)
    | ins e a b c d f => exact .ins (s _ _ e) a b c d f
  | byt b => exact .byt b
  | set e => exact .set (s _ _ e)
  | kList e c => exact .kList e c
  | kTuple e c => exact .kTuple e c
  | kDict e c => exact .kDict e c
  | fTuple e => exact .fTuple (s _ _ e)
  | fDict e => exact .fDict (s _ _ e)
theorem intB_same {b : Bool} (h : IntB K H v b) (s : Same H H') : IntB K H' v b := by
  obtain ⟨t, b1, b2, h1, h2, h3, h4⟩ := h
  exact ⟨t, b1, b2, tyx_same h1 s, h2, h3, h4⟩
theorem nameB_same {b : Bool} (h : NameB K H v b) (s : Same H H') : NameB K H' v b := by
  rcases h with ⟨z, a, b, c⟩ | ⟨t, h1, h2, h3⟩
  · exact .inl ⟨z, a, b, c⟩
  · exact .inr ⟨t, tyx_same h1 s, h2, h3⟩
theorem nameB_str {b : Bool} (h : NameB K H v b) (e : b = true) : ∃ z, v = .str z ∧ isName z = true := by
  rcases h with ⟨z, a, _, c⟩ | ⟨t, _, _, h3⟩
  · exact ⟨z, a, c.symm.trans e⟩
  · rw [e] at h3; cases h3
/-- whether a shift's number is right -/
def ShiftB (K : PySem.W.Frag) (H : Hp) (v : V) (o : Option Int) : Prop :=
  (∃ n, v = .int n ∧ o = some n ∧ -1000000000 ≤ n ∧ n ≤ 1000000000) ∨ (∃ n, v = .int n ∧ o = none ∧ ¬(-1000000000 ≤ n ∧ n ≤ 1000000000)) ∨ (IntB K H v false ∧ o = none)
theorem ShiftB.same {o : Option Int} (h : ShiftB K H v o) (s : Same H H') : ShiftB K H' v o := by
  rcases h with h | h | ⟨h, e⟩
  · exact .inl h
  · exact .inr (.inl h)
  · exact .inr (.inr ⟨intB_same h s, e⟩)
/-- whether a bound is right -/
def WithinB (K : PySem.W.Frag) (H : Hp) (v : V) (o : Option (Option Int)) : Prop :=
  (v = .non ∧ o = some none) ∨ (∃ n, v = .int n ∧ o = some (some n) ∧ 0 ≤ n ∧ n ≤ 1000000000) ∨ (∃ n, v = .int n ∧ o = none ∧ ¬(0 ≤ n ∧ n ≤ 1000000000)) ∨ (v ≠ .non ∧ IntB K H v false ∧ o = none)
theorem WithinB.same {o : Option (Option Int)} (h : WithinB K H v o) (s : Same H H') : WithinB K H' v o := by
  rcases h with h | h | h | ⟨h0, h, e⟩
  · exact .inl h
  · exact .inr (.inl h)
  · exact .inr (.inr (.inl h))
  · exact .inr (.inr (.inr ⟨h0, intB_same h s, e⟩))
def strictB : V → Option Bool
  | .bl b => some b
  | _ => none
/-- an instance of the class at C, or of none of its kind -/
def ClsB (K : PySem.W.Frag) (H : Hp) (C : Addr) (v : V) (b : Bool) : Prop := ∃ t, TyX K H v t ∧ PySem.W.kitOne K t (.ref C) = some b
theorem ClsB.same {C : Addr} {b : Bool} (h : ClsB K H C v b) (s : Same H H') : ClsB K H' C v b := by
  obtain ⟨t, a, c⟩ := h
  exact ⟨t, tyx_same a s, c⟩
end
section
variable {K : PySem.W.Frag} {Cs : Nat → Addr} {CT CL : Addr} {H H' : Hp}
theorem ins_ty (T : TmK K Cs CT CL) {i : Nat} (hi : i < 7) {o dx : Addr} {fs : List (Str × V)} (h : H o = some (.ins (Cs i) dx fs)) : TyX K H (.ref o) (.ref (Cs i)) := by
  obtain ⟨ca, cn, ct, cm⟩ := T.ti i hi
  exact .base (.ins h (T.cl i hi) ca cn ct cm)
theorem ThAt.isT (T : TmK K Cs CT CL) {t : Tr} {o : Addr} (h : ThAt Cs H t o) : ClsB K H CT (.ref o) (!t.isLook) := by
  obtain ⟨dx, fs, e, _⟩ := h.node
  exact ⟨_, ins_ty T t.ci_lt e, by rw [T.kitT _ t.ci_lt, t.ci_look]⟩
theorem ThAt.isL (T : TmK K Cs CT CL) {t : Tr} {o : Addr} (h : ThAt Cs H t o) : ClsB K H CL (.ref o) t.isLook := by
  obtain ⟨dx, fs, e, _⟩ := h.node
  exact ⟨_, ins_ty T t.ci_lt e, by rw [T.kitL _ t.ci_lt, t.ci_look, Bool.not_not]⟩
theorem ThAt.isC (T : TmK K Cs CT CL) {t : Tr} {o : Addr} (h : ThAt Cs H t o) {i : Nat} (hi : i < 7) : ClsB K H (Cs i) (.ref o) (decide (t.ci = i)) := by
  obtain ⟨dx, fs, e, _⟩ := h.node
  exact ⟨_, ins_ty T t.ci_lt e, T.kit _ t.ci_lt _ hi⟩
end
/-! ### promises -/
def spIt : Sp := fun vs H Q _ => ∃ n : Int, vs = [.int n] ∧ n.natAbs.log2 < 1920 ∧ Q (.str (intT n)) H
def spCkName (K : PySem.W.Frag) (Ce : Addr) : Sp := fun vs H Q E => ∃ (v : V) (b : Bool), vs = [v] ∧ NameB K H v b ∧ (b = true → ∀ H', Same H H' → Q .non H') ∧ (b = false → ErrK Ce "value" v H E)
def spCkCls (K : PySem.W.Frag) (C Ce : Addr) : Sp := fun vs H Q E => ∃ (v : V) (b : Bool), vs = [v] ∧ ClsB K H C v b ∧ (b = true → Q .non H) ∧ (b = false → ErrK Ce "value" v H E)
def spCkDepth (Ce : Addr) : Sp := fun vs H Q E => ∃ d : Nat, vs = [.int (d : Int)] ∧ (d ≤ 8 → Q .non H) ∧ (8 < d → ErrK Ce "limit" (.int 8) H E)
def spCkShift (K : PySem.W.Frag) (Ce : Addr) : Sp := fun vs H Q E => ∃ (v : V) (o : Option Int), vs = [v] ∧ ShiftB K H v o ∧ (o.isSome = true → Q .non H) ∧ (o = none → ErrK Ce "value" v H E)
/-- the errors of times and looks: InvalidName, InvalidNumber, InvalidWithin, InvalidStrict, NotATime, NotALook, TooMany -/
structure Ers where
  name : Addr
  number : Addr
  within : Addr
  strict : Addr
  time : Addr
  look : Addr
  many : Addr
/-- the arguments of a look, judged in their order -/
structure PartsGo (K : PySem.W.Frag) (CT : Addr) (e : Ers) (H : Hp) (E : XK) (f t w s : V) (R : Prop) : Prop where
  go : ∃ (bf bt : Bool) (ow : Option (Option Int)), NameB K H f bf ∧ ClsB K H CT t bt ∧ WithinB K H w ow ∧ (bf = false → ErrK e.name "value" f H E) ∧ (bf = true → bt = false → ErrK e.time "value" t H E) ∧
    (bf = true → bt = true → ow = none → ErrK e.within "value" w H E) ∧ (bf = true → bt = true → ow.isSome = true → strictB s = none → ErrK e.strict "value" s H E) ∧
    (bf = true → bt = true → ow.isSome = true → (strictB s).isSome = true → R)
def spCkParts (K : PySem.W.Frag) (CT : Addr) (e : Ers) : Sp := fun vs H Q E => ∃ f t w s : V, vs = [f, t, w, s] ∧ PartsGo K CT e H E f t w s (∀ H', Same H H' → Q .non H')
def spLkText (Cs : Nat → Addr) : Sp := fun vs H Q _ => ∃ (a : Bool) (f : Str) (c : Addr) (t : Tr) (w : Option Int) (s : Bool), vs = [.str (wordL a), .str f, .ref c, wV w, .bl s] ∧ ThAt Cs H t c ∧ (Tr.look a f t w s).ok ∧ t.dep ≤ 8 ∧ ∀ H', Same H H' → Q (.str (Tr.look a f t w s).txt) H'
def spInOrder (Cs : Nat → Addr) (lo hi : Nat) : Sp := fun vs H Q _ => ∃ (l : Addr) (as : List Addr) (zs : List Str), vs = [.ref l] ∧ H l = some (.lst (as.map V.ref)) ∧ Txs Cs lo hi H as zs ∧ hi ≤ 7 ∧ zs.length ≤ 30 ∧ ∀ (p : Addr) (H' : Hp), Same H H' → TxT Cs lo hi H' p zs → Q (.ref p) H'
/-- a new time or look, in its __init__ -/
def NewAt (Cs : Nat → Addr) (H : Hp) (i : Nat) (o : Addr) : Prop := ∃ dx, H o = some (.ins (Cs i) dx [])
def spNowI (Cs : Nat → Addr) : Sp := fun vs H Q _ => ∃ o : Addr, vs = [.ref o] ∧ NewAt Cs H 0 o ∧ ∀ H', But o H H' → ThAt Cs H' .now o → Q .non H'
/-- a time as an argument, one level more -/
def UpGo (Cs : Nat → Addr) (e : Ers) (H : Hp) (E : XK) (lk : Bool) (t : V) (R : Tr → Addr → Prop) : Prop :=
  ∃ (c : Addr) (tr : Tr), t = .ref c ∧ ThAt Cs H tr c ∧ tr.isLook = lk ∧ tr.ok ∧ tr.dep ≤ 8 ∧ (8 < tr.dep + 1 → ErrK e.many "limit" (.int 8) H E) ∧ (tr.dep + 1 ≤ 8 → R tr c)
def spShiftI (K : PySem.W.Frag) (Cs : Nat → Addr) (CT : Addr) (e : Ers) : Sp := fun vs H Q E => ∃ (o : Addr) (t n : V) (bt : Bool) (on : Option Int), vs = [.ref o, t, n] ∧ NewAt Cs H 1 o ∧ ClsB K H CT t bt ∧ ShiftB K H n on ∧ (bt = false → ErrK e.time "value" t H E) ∧ (bt = true → on = none → ErrK e.number "value" n H E) ∧
  (bt = true → ∀ m, on = some m → UpGo Cs e H E false t fun tr _ => ∀ H', But o H H' → ThAt Cs H' (.shift tr m) o → Q .non H')
def spFloorI (K : PySem.W.Frag) (Cs : Nat → Addr) (CT : Addr) (e : Ers) (i : Nat) (mk : Tr → Tr) : Sp := fun vs H Q E => ∃ (o : Addr) (t : V) (bt : Bool), vs = [.ref o, t] ∧ NewAt Cs H i o ∧ ClsB K H CT t bt ∧ (bt = false → ErrK e.time "value" t H E) ∧
  (bt = true → UpGo Cs e H E false t fun tr _ => ∀ H', But o H H' → ThAt Cs H' (mk tr) o → Q .non H')
def spRowI (K : PySem.W.Frag) (Cs : Nat → Addr) (CL : Addr) (e : Ers) : Sp := fun vs H Q E => ∃ (o : Addr) (t : V) (bt : Bool), vs = [.ref o, t] ∧ NewAt Cs H 4 o ∧ ClsB K H CL t bt ∧ (bt = false → ErrK e.look "value" t H E) ∧
  (bt = true → UpGo Cs e H E true t fun tr _ => ∀ H', But o H H' → ThAt Cs H' (.row tr) o → Q .non H')
def spLookI (K : PySem.W.Frag) (Cs : Nat → Addr) (CT : Addr) (e : Ers) (a : Bool) : Sp := fun vs H Q E => ∃ (o : Addr) (f t w s : V), vs = [.ref o, f, t, w, s] ∧ NewAt Cs H (if a then 6 else 5) o ∧
  PartsGo K CT e H E f t w s (∃ (f' : Str) (c : Addr) (tr : Tr) (w' : Option Int) (s' : Bool), f = .str f' ∧ t = .ref c ∧ w = wV w' ∧ s = .bl s' ∧ ThAt Cs H tr c ∧ (Tr.look a f' tr w' s').ok ∧ tr.dep ≤ 8 ∧ ∀ H', But o H H' → ThAt Cs H' (.look a f' tr w' s') o → Q .non H')
/-- a new object behind a call -/
def MadeT (Cs : Nat → Addr) (H : Hp) (t : Tr) (Q : VK) : Prop := ∀ (o : Addr) (H' : Hp), H o = none → Same H H' → ThAt Cs H' t o → Q (.ref o) H'
def spAdd (K : PySem.W.Frag) (Cs : Nat → Addr) (e : Ers) (f : Int → Int) : Sp := fun vs H Q E => ∃ (c : Addr) (n : V) (on : Option Int) (tr : Tr), vs = [.ref c, n] ∧ ThAt Cs H tr c ∧ tr.isLook = false ∧ tr.ok ∧ tr.dep ≤ 8 ∧ ShiftB K H n on ∧ (on = none → ErrK e.number "value" n H E) ∧
  (∀ m, on = some m → (8 < tr.dep + 1 → ErrK e.many "limit" (.int 8) H E) ∧ (tr.dep + 1 ≤ 8 → MadeT Cs H (.shift tr (f m)) Q))
def spEqT (K : PySem.W.Frag) (Cs : Nat → Addr) (i : Nat) : Sp := fun vs H Q _ => ∃ (o : Addr) (t : Tr) (y : V), vs = [.ref o, y] ∧ ThAt Cs H t o ∧ t.ci = i ∧
  ((∃ o2 t2, y = .ref o2 ∧ ThAt Cs H t2 o2 ∧ Q (.bl (decide (t.txt = t2.txt))) H) ∨ (ClsB K H (Cs i) y false ∧ Q (.bl false) H))
def spStrT (Cs : Nat → Addr) (i : Nat) : Sp := fun vs H Q _ => ∃ (o : Addr) (dx : Addr) (fs : List (Str × V)) (z : Str), vs = [.ref o] ∧ H o = some (.ins (Cs i) dx fs) ∧ fs.lookup ("text" : Str) = some (.str z) ∧ Q (.str z) H
def spReprT (Cs : Nat → Addr) (i : Nat) (w : Str) : Sp := fun vs H Q _ => ∃ (o : Addr) (t : Tr), vs = [.ref o] ∧ ThAt Cs H t o ∧ t.ci = i ∧ t.txt.length ≤ 10000 ∧ Q (.str (w ++ "(" ++ t.txt ++ ")")) H
end Tm
namespace Tm
open PySem PySem.Spec PyProof.Rows L2 Rng Bag Tr4
/-- the errors' classes stand -/
structure ErN (K : PySem.W.Frag) (mg : Str → Option Value) (e : Ers) : Prop where
  name : ErrV K e.name
  number : ErrV K e.number
  within : ErrV K e.within
  strict : ErrV K e.strict
  time : ErrV K e.time
  look : ErrV K e.look
  many : ErrL K e.many
  mName : mg "InvalidName" = some (.ref e.name)
  mNumber : mg "InvalidNumber" = some (.ref e.number)
  mWithin : mg "InvalidWithin" = some (.ref e.within)
  mStrict : mg "InvalidStrict" = some (.ref e.strict)
  mTime : mg "NotATime" = some (.ref e.time)
  mLook : mg "NotALook" = some (.ref e.look)
  mMany : mg "TooMany" = some (.ref e.many)
/-- the numbers and the bases' names -/
structure GlT (mg : Str → Option Value) (CT CL : Addr) : Prop where
  depth : ∃ t, mg "MAX_DEPTH" = some (.int 8 t)
  dist : ∃ t, mg "MAX_DISTANCE" = some (.int 1000000000 t)
  time : mg "Time" = some (.ref CT)
  look : mg "Look" = some (.ref CL)
theorem raise_here {e : Addr} {f : Str} {v : V} {H H1 : Hp} {E : XK} (h : ErrK e f v H E) (s : Same H H1) : (∀ a, H1 a = none → Fr0 H a) ∧ ∀ d, H1 d = none → E (.ref e) (some d) (upd H1 d (exd d [(f, v)])) :=
  ⟨fr0_of (fun c u e _ z => nomatch (show some u = none from (s _ _ e).symm.trans z)), fun d nd => h d _ (s.free nd) (s.trans (same_put nd)) upd_same⟩
end Tm


namespace K04
open PySem PySem.Spec PyProof.Rows L2 Rng Bag Gd Cal Tm Tr4 Own1
section
variable {P : Program} {w : World} {K : PySem.W.Frag} {mg : Str → Option Value} {base : Heap} {Cs : Nat → Addr} {CT CL : Addr} {e : Ers}

abbrev sIt : Stmt := top 19
theorem scIt : FnScope ["number"] ["number"] (defScope sIt) := ⟨rfl, rfl, rfl, by decide +kernel, rfl, by decide +kernel, by decide +kernel⟩

theorem c_it (D : Df K mg "integer_text" sIt) (B : Nb mg) : Cl P w K mg base CX0 1 "integer_text" ["number"] spIt := by
  refine D.cl scIt (fun _ _ _ _ _ _ us hl => match us, hl with | [_], _ => rfl) (fun vs H Q E h => ?_) (fun f cdv A outer s H vs Q E hr h => ?_)
  · obtain ⟨n, rfl, _⟩ := h
    rfl
  · obtain ⟨n, rfl, hn, q⟩ := h
    exact ⟨_, (pss_one (ps_ret (pe_callTy call_str_int (by rfl) B.str (by decide +kernel) (pa_cons (pe_callTy call_int1 (by rfl) B.int (by decide +kernel) (pa_cons (pv 0) pa_nil)) pa_nil)))), _, rfl, .inl ⟨n, rfl, n, rfl, hn, q⟩⟩
abbrev sCkN : Stmt := top 20
theorem scCkN : FnScope ["value"] ["value"] (defScope sCkN) := ⟨rfl, rfl, rfl, by decide +kernel, rfl, by decide +kernel, by decide +kernel⟩

theorem c_ckname (D : Df K mg "check_name" sCkN) (er : ErN K mg e) (cN : Cl P w K mg base CX0 2 "is_name" ["value"] (spIsName K)) : Cl P w K mg base (L2N.CX P w) 3 "check_name" ["value"] (spCkName K e.name) := by
  refine D.clN scCkN (fun _ _ _ _ _ _ us hl => match us, hl with | [_], _ => rfl) (fun vs H Q E h => ?_) (fun f cdv A outer s H vs Q E hr h => ?_)
  · obtain ⟨v, b, rfl, _⟩ := h
    rfl
  · obtain ⟨v, b, rfl, hb, q1, q2⟩ := h
    refine ⟨_, (pss_one (ps_if (pt_not (pt_val (pe_c cN hr rfl pass0 (pa_cons (pv 0) pa_nil)))) (pss_one (ps_raiseV rfl rfl takesN er.name hr rfl er.mName (pa_cons (pv 0) pa_nil))) pss_nil)), ?_⟩
    refine ⟨_, rfl, v, b, rfl, hb, fun H' s' => ⟨b, rfl, ?_⟩⟩
    cases b with
    | true => exact iteF (q1 rfl H' s')
    | false => exact iteT ⟨_, rfl, v, rfl, raise_here (q2 rfl) s'⟩
abbrev sCkT : Stmt := top 24
theorem scCkT : FnScope ["value"] ["value"] (defScope sCkT) := ⟨rfl, rfl, rfl, by decide +kernel, rfl, by decide +kernel, by decide +kernel⟩

theorem c_cktime (D : Df K mg "check_reader_time" sCkT) (B : Nb mg) (er : ErN K mg e) (gl : GlT mg CT CL) : Cl P w K mg base (L2N.CX P w) 1 "check_reader_time" ["value"] (spCkCls K CT e.time) := by
  refine D.clN scCkT (fun _ _ _ _ _ _ us hl => match us, hl with | [_], _ => rfl) (fun vs H Q E h => ?_) (fun f cdv A outer s H vs Q E hr h => ?_)
  · obtain ⟨v, b, rfl, _⟩ := h
    rfl
  · obtain ⟨v, b, rfl, ⟨t, ty, k⟩, q1, q2⟩ := h
    refine ⟨_, (pss_one (ps_if (pt_not (pt_val (pe_callB call_isi (by rfl) B.isinstance (by decide +kernel) (pa_cons (pv 0) (pa_cons (pe_glob (v := .ref CT) rfl gl.time rfl) pa_nil))))) (pss_one (ps_raiseV rfl rfl takesN er.time hr rfl er.mTime (pa_cons (pv 0) pa_nil))) pss_nil)), ?_⟩
    refine ⟨_, rfl, v, _, _, _, b, rfl, .own CT, ty, k, b, rfl, ?_⟩
    cases b with
    | true => exact iteF (q1 rfl)
    | false => exact iteT ⟨_, rfl, v, rfl, raise_here (q2 rfl) (Same.refl _)⟩
abbrev sCkL : Stmt := top 25
theorem scCkL : FnScope ["value"] ["value"] (defScope sCkL) := ⟨rfl, rfl, rfl, by decide +kernel, rfl, by decide +kernel, by decide +kernel⟩

theorem c_cklook (D : Df K mg "check_look" sCkL) (B : Nb mg) (er : ErN K mg e) (gl : GlT mg CT CL) : Cl P w K mg base (L2N.CX P w) 1 "check_look" ["value"] (spCkCls K CL e.look) := by
  refine D.clN scCkL (fun _ _ _ _ _ _ us hl => match us, hl with | [_], _ => rfl) (fun vs H Q E h => ?_) (fun f cdv A outer s H vs Q E hr h => ?_)
  · obtain ⟨v, b, rfl, _⟩ := h
    rfl
  · obtain ⟨v, b, rfl, ⟨t, ty, k⟩, q1, q2⟩ := h
    refine ⟨_, (pss_one (ps_if (pt_not (pt_val (pe_callB call_isi (by rfl) B.isinstance (by decide +kernel) (pa_cons (pv 0) (pa_cons (pe_glob (v := .ref CL) rfl gl.look rfl) pa_nil))))) (pss_one (ps_raiseV rfl rfl takesN er.look hr rfl er.mLook (pa_cons (pv 0) pa_nil))) pss_nil)), ?_⟩
    refine ⟨_, rfl, v, _, _, _, b, rfl, .own CL, ty, k, b, rfl, ?_⟩
    cases b with
    | true => exact iteF (q1 rfl)
    | false => exact iteT ⟨_, rfl, v, rfl, raise_here (q2 rfl) (Same.refl _)⟩
abbrev sCkD : Stmt := top 27
theorem scCkD : FnScope ["depth"] ["depth"] (defScope sCkD) := ⟨rfl, rfl, rfl, by decide +kernel, rfl, by decide +kernel, by decide +kernel⟩

theorem c_ckdepth (D : Df K mg "_check_depth" sCkD) (er : ErN K mg e) (gl : GlT mg CT CL) : Cl P w K mg base (L2N.CX P w) 1 "_check_depth" ["depth"] (spCkDepth e.many) := by
  refine D.clN scCkD (fun _ _ _ _ _ _ us hl => match us, hl with | [_], _ => rfl) (fun vs H Q E h => ?_) (fun f cdv A outer s H vs Q E hr h => ?_)
  · obtain ⟨d, rfl, _⟩ := h
    rfl
  · obtain ⟨d, rfl, q1, q2⟩ := h
    obtain ⟨td, mDepth⟩ := gl.depth
    refine ⟨_, (pss_one (ps_if (pt_cmpR op_gt (pv 0) (pe_glob (v := .int 8) rfl mDepth ⟨_, rfl⟩) (nomark _)) (pss_one (ps_raiseL rfl rfl takesN er.many hr rfl er.mMany (pa_cons (pe_glob (v := .int 8) rfl mDepth ⟨_, rfl⟩) pa_nil))) pss_nil)), ?_⟩
    refine ⟨_, rfl, _, _, rfl, rfl, _, rfl, ite2 (fun c => ?_) (fun c => ?_)⟩
    · have c' := of_decide_eq_true c
      exact ⟨_, rfl, raise_here (q2 (by omega)) (Same.refl _)⟩
    · have c' := of_decide_eq_false (Bool.eq_false_iff.mpr c)
      exact q1 (by omega)
abbrev sCkS : Stmt := top 28
theorem scCkS : FnScope ["by"] ["by"] (defScope sCkS) := ⟨rfl, rfl, rfl, by decide +kernel, rfl, by decide +kernel, by decide +kernel⟩

theorem c_ckshift (D : Df K mg "_check_shift" sCkS) (B : Nb mg) (er : ErN K mg e) (gl : GlT mg CT CL) (cI : Cl P w K mg base CX0 1 "is_integer" ["value"] (spInteger K)) : Cl P w K mg base (L2N.CX P w) 2 "_check_shift" ["by"] (spCkShift K e.number) := by
  refine D.clN scCkS (fun _ _ _ _ _ _ us hl => match us, hl with | [_], _ => rfl) (fun vs H Q E h => ?_) (fun f cdv A outer s H vs Q E hr h => ?_)
  · obtain ⟨v, o, rfl, _⟩ := h
    rfl
  · obtain ⟨v, o, rfl, hb, q1, q2⟩ := h
    obtain ⟨td, mDist⟩ := gl.dist
    refine ⟨_, (pss_one (ps_if (PW.pt (pw_or (pt_not (pt_val (pe_c cI hr rfl pass0 (pa_cons (pv 0) pa_nil)))) (pw_or1 (pt_not (pt_chain op_le op_le (pe_un un_neg (pe_glob (v := .int 1000000000) rfl mDist ⟨_, rfl⟩)) (pv 0) (pe_glob (v := .int 1000000000) rfl mDist ⟨_, rfl⟩)))))) (pss_one (ps_raiseV rfl rfl takesN er.number hr rfl er.mNumber (pa_cons (pv 0) pa_nil))) pss_nil)), ?_⟩
    rcases hb with ⟨n, rfl, rfl, h1, h2⟩ | ⟨n, rfl, rfl, h1⟩ | ⟨h1, rfl⟩
    · refine ⟨_, rfl, _, true, rfl, .int n, true, rfl, iteF ⟨_, rfl, _, rfl, _, _, rfl, rfl, _, rfl, ?_⟩⟩
      rw [decide_eq_true h1]
      refine iteT ⟨_, _, rfl, rfl, _, rfl, ?_⟩
      rw [decide_eq_true h2]
      exact iteF (q1 rfl)
    · refine ⟨_, rfl, _, true, rfl, .int n, true, rfl, iteF ⟨_, rfl, _, rfl, _, _, rfl, rfl, _, rfl, ?_⟩⟩
      by_cases c1 : -1000000000 ≤ n
      · rw [decide_eq_true c1]
        refine iteT ⟨_, _, rfl, rfl, _, rfl, ?_⟩
        rw [decide_eq_false (fun z => h1 ⟨c1, z⟩)]
        exact iteT ⟨_, rfl, _, rfl, raise_here (q2 rfl) (Same.refl _)⟩
      · rw [decide_eq_false c1]
        exact iteF ⟨_, rfl, iteT ⟨_, rfl, _, rfl, raise_here (q2 rfl) (Same.refl _)⟩⟩
    · exact ⟨_, rfl, _, false, rfl, h1, false, rfl, iteT ⟨_, rfl, _, rfl, raise_here (q2 rfl) (Same.refl _)⟩⟩
end
end K04


/-! objects by their texts -/
namespace Tm
open PySem PySem.Spec PyProof.Rows L2 Rng Bag
structure TxD (Cs : Nat → Addr) (lo hi : Nat) (H : Hp) (kvs : List (Key × V)) (l : List Str) : Prop where
  ks : ∃ ks : List Str, kvs.map (·.1) = ks.map Sum.inr ∧ ks.Nodup ∧ ∀ z, z ∈ ks ↔ z ∈ l
  get : ∀ z ∈ l, ∃ a, valV kvs (.inr z) = some (.ref a) ∧ TxAt Cs lo hi H a z
  len : kvs.length ≤ l.length
section
variable {Cs : Nat → Addr} {lo hi : Nat} {H H' : Hp} {kvs : List (Key × V)} {l : List Str}
theorem TxD.nil : TxD Cs lo hi H [] [] := ⟨⟨[], rfl, List.nodup_nil, fun _ => Iff.rfl⟩, fun _ h => (nomatch h), Nat.le_refl _⟩
theorem TxD.kp (h : TxD Cs lo hi H kvs l) (k : Kp H H') : TxD Cs lo hi H' kvs l := ⟨h.ks, fun z hz => (h.get z hz).imp fun a ha => ⟨ha.1, ha.2.kp k⟩, h.len⟩
theorem keys_put (kvs : List (Key × V)) (k : Key) (v : V) : (putK kvs k v).map (·.1) = if (valV kvs k).isSome = true then kvs.map (·.1) else kvs.map (·.1) ++ [k] := by
  unfold putK
  rw [valV_any]
  split
  · rw [List.map_map]
    refine List.map_congr_left fun p _ => ?_
    show (if p.1 = k then (p.1, v) else p).1 = p.1
    split <;> rfl
  · rw [List.map_append]
    rfl
theorem valV_mem {kvs : List (Key × V)} {k : Key} : (valV kvs k).isSome = true ↔ k ∈ kvs.map (·.1) := by
  rw [← valV_any, List.any_eq_true]
  constructor
  · rintro ⟨p, hp, e⟩
    rw [← of_decide_eq_true e]
    exact List.mem_map_of_mem hp
  · intro h
    obtain ⟨p, hp, e⟩ := List.mem_map.mp h
    exact ⟨p, hp, decide_eq_true e⟩
theorem inr_mem {ks : List Str} {z : Str} : (Sum.inr z : Key) ∈ ks.map Sum.inr ↔ z ∈ ks := by
  constructor
  · intro h
    obtain ⟨y, hy, e⟩ := List.mem_map.mp h
    cases e
    exact hy
  · exact fun h => List.mem_map_of_mem h
theorem TxD.put (h : TxD Cs lo hi H kvs l) {a : Addr} {z : Str} (t : TxAt Cs lo hi H a z) : TxD Cs lo hi H (putK kvs (.inr z) (.ref a)) (l ++ [z]) := by
  obtain ⟨ks, e1, nd, mem⟩ := h.ks
  refine ⟨?_, fun y hy => ?_, ?_⟩
  · by_cases c : (valV kvs (.inr z)).isSome = true
    · have hz : z ∈ ks := inr_mem.mp (by rw [← e1]; exact valV_mem.mp c)
      refine ⟨ks, by rw [keys_put, if_pos c, e1], nd, fun y => ?_⟩
      rw [mem, List.mem_append, List.mem_singleton]
      exact ⟨.inl, fun q => q.elim id fun q => q ▸ (mem z).mp hz⟩
    · have hz : z ∉ ks := fun q => c (valV_mem.mpr (by rw [e1]; exact inr_mem.mpr q))
      refine ⟨ks ++ [z], by rw [keys_put, if_neg c, e1, List.map_append]; rfl, ?_, fun y => ?_⟩
      · rw [List.nodup_append]
        refine ⟨nd, List.nodup_cons.mpr ⟨fun q => (nomatch q), List.nodup_nil⟩, fun x hx y hy => ?_⟩
        rw [List.mem_singleton] at hy
        subst hy
        rintro rfl
        exact hz hx
      · rw [List.mem_append, List.mem_append, mem]
  · rw [valV_put]
    by_cases c : (Sum.inr y : Key) = Sum.inr z
    · have : y = z := Sum.inr.inj c
      subst this
      rw [if_pos rfl]
      exact ⟨a, rfl, t⟩
    · rw [if_neg c]
      rcases List.mem_append.mp hy with q | q
      · exact h.get y q
      · exact absurd (congrArg Sum.inr (List.mem_singleton.mp q)) c
  · have := length_putK kvs (.inr z) (.ref a)
    have := h.len
    rw [List.length_append]
    show _ ≤ l.length + 1
    omega
end
end Tm


namespace K04
open PySem PySem.Spec PyProof.Rows L2 Rng Bag Gd Cal Tm Tr4 Own1
section
variable {P : Program} {w : World} {K : PySem.W.Frag} {mg : Str → Option Value} {base : Heap} {Cs : Nat → Addr} {CT CL : Addr} {e : Ers}

abbrev sIO : Stmt := top 26
theorem scIO : FnScope ["things", "by_text", "thing", "text"] ["things"] (defScope sIO) := ⟨rfl, rfl, rfl, by decide +kernel, rfl, by decide +kernel, by decide +kernel⟩

theorem c_order {lo hi : Nat} (T : TmK K Cs CT CL) (D : Df K mg "in_order" sIO) (B : Nb mg) : Cl P w K mg base CX0 1 "in_order" ["things"] (spInOrder Cs lo hi) := by
  refine D.cl scIO (fun _ _ _ _ _ _ us hl => match us, hl with | [_], _ => rfl) (fun vs H Q E h => ?_) (fun f cdv A outer s H vs Q E hr h => ?_)
  · obtain ⟨l, as, zs, rfl, _⟩ := h
    rfl
  · obtain ⟨l, as, zs, rfl, hl, ht, h7, l30, q⟩ := h
    have hu := hu_of hr
    have lz := ht.len
    refine ⟨_, (pss_cons (ps_set (i := 1) scIO.nd rfl (Or.inr rfl) (pe_dc (own := [("thing", 2)]) (g := gName 2) (tt := tYes) (tk := tFld K (tVar 2) "text") rfl scIO.nd (pi_list (pv 0)) (blkOk_by (own := [("thing", 2)]) (N := ["things", "by_text", "thing", "text"]) (sc := defScope sIO) (by decide +kernel)) (fun _ _ _ _ _ => pg_name (i := 2) scIO.nd rfl (Or.inl rfl)) (fun _ _ _ _ _ => pts_nil) (fun _ _ _ _ _ => (pe_fld (pv 2) rfl)) (fun _ _ _ _ _ => (pv 2))))
      (pss_one (ps_ret (pe_callTy call_tuple_of (by rfl) B.tuple (by decide +kernel) (pa_cons (pe_lc (own := [("text", 3)]) (g := gName 3) (tt := tYes) (te := tDGet (tVar 1) (tVar 3)) rfl scIO.nd (pi_list (pe_callB (call_sortedD rfl) (by rfl) B.sorted (by decide +kernel) (pa_cons (pv 1) pa_nil))) (blkOk_by (own := [("text", 3)]) (N := ["things", "by_text", "thing", "text"]) (sc := defScope sIO) (by decide +kernel)) (fun _ _ _ _ _ => pg_name (i := 3) scIO.nd rfl (Or.inl rfl)) (fun _ _ _ _ _ => pts_nil) (fun _ _ _ _ _ => (pe_dget hu (pv 1) (pv 3) (fun _ _ => rfl)))) pa_nil))))), ?_⟩
    refine ⟨_, rfl, l, rfl, ⟨_, SqL.of hl⟩, fun D0 nD => dc_list (a := l) (xs := as.map V.ref) (fun i H' => (∀ c o, c ≠ D0 → H c = some o → H' c = some o) ∧ ∃ kvs, H' D0 = some (.dK kvs) ∧ TxD Cs lo hi H kvs (zs.take i)) ⟨fun c o n e => by rw [upd_ne n]; exact e, [], upd_same, .nil⟩ (fun i H' _ h => SqL.of (h.1 _ _ (ne_of_none hl nD) hl)) ?_ ?_⟩
    · rintro i x H1 hx ⟨b1, kvs, e1, d1⟩
      obtain ⟨a, ha, rfl⟩ : ∃ a, as[i]? = some a ∧ x = V.ref a := by
        rw [List.getElem?_map] at hx
        cases e : as[i]? with
        | none => rw [e] at hx; cases hx
        | some a => rw [e] at hx; exact ⟨a, rfl, (Option.some.inj hx).symm⟩
      obtain ⟨z, hz, tx⟩ := ht.get i a ha
      obtain ⟨j, dx, fs, j1, j2, ho, kt⟩ := id tx
      have ho1 := b1 _ _ (ne_of_none ho nD) ho
      have hi : i < zs.length := (List.getElem?_eq_some_iff.mp hz).1
      refine ⟨rfl, _, rfl, a, Cs j, dx, fs, .str z, rfl, ho1, T.cl j (by omega), T.na j (by omega) _ (by decide +kernel), kt, _, rfl, kvs, .inr z, rfl, e1, ?_, ?_, ?_⟩
      · have := d1.len
        rw [List.length_take] at this
        exact small1000 (by omega)
      · exact fun c o n e => by rw [upd_ne n]; exact b1 c o n e
      · refine ⟨_, upd_same, ?_⟩
        rw [List.take_add_one, hz]
        exact d1.put tx
    · rintro H1 ⟨b1, kvs, e1, d1⟩
      rw [List.length_map, lz, List.take_length] at d1
      have s1 : Same H H1 := fun c o e => b1 c o (ne_of_none e nD) e
      obtain ⟨ks, ek, nd, mem⟩ := d1.ks
      have lk : ks.length ≤ zs.length := by
        have e2 := congrArg List.length ek
        rw [List.length_map, List.length_map] at e2
        have := d1.len
        omega
      refine ⟨_, rfl, D0, kvs, ks, rfl, .inl e1, ek, by omega, fun ys p pm srt np => ⟨p, rfl, ⟨_, SqL.of upd_same⟩, fun D1 nD1 => ?_⟩⟩
      have s2 : Same H1 (upd H1 p (.lst (ys.map V.str))) := same_put np
      have ep : (upd H1 p (.lst (ys.map V.str))) p = some (.lst (ys.map V.str)) := upd_same
      generalize upd H1 p (.lst (ys.map V.str)) = H2 at s2 ep nD1 ⊢
      have gets : ∀ z ∈ ys, ∃ a, valV kvs (.inr z) = some (.ref a) ∧ TxAt Cs lo hi H2 a z := fun z hz => by
        obtain ⟨a, ha, ta⟩ := d1.get z ((mem z).mp (pm.mem_iff.mp hz))
        exact ⟨a, ha, ta.kp (s1.trans s2).kp⟩
      have e2 := s2 _ _ e1
      refine lc_list (a := p) (xs := ys.map V.str) (fun i H' => Same H2 H' ∧ ∃ as', H' D1 = some (.lst (as'.map V.ref)) ∧ Txs Cs lo hi H2 as' (ys.take i)) ⟨same_put nD1, [], upd_same, .nil⟩ (fun i H' _ h => SqL.of (h.1 _ _ ep)) ?_ ?_
      · rintro i x H3 hx ⟨s3, as', e3, t3⟩
        obtain ⟨z, hz, rfl⟩ : ∃ z, ys[i]? = some z ∧ x = V.str z := by
          rw [List.getElem?_map] at hx
          cases e : ys[i]? with
          | none => rw [e] at hx; cases hx
          | some a => rw [e] at hx; exact ⟨a, rfl, (Option.some.inj hx).symm⟩
        obtain ⟨a, ga, ta⟩ := gets z (List.mem_of_getElem? hz)
        have ly : ys.length = ks.length := pm.length_eq
        have hi : i < ys.length := (List.getElem?_eq_some_iff.mp hz).1
        refine ⟨rfl, _, rfl, _, rfl, D0, .ref a, rfl, .inl ⟨kvs, .inr z, .inl (s3 _ _ e2), rfl, ga.symm⟩, as'.map V.ref, e3, ?_, ?_, as' ++ [a], ?_, ?_⟩
        · have := t3.len
          rw [List.length_take] at this
          rw [List.length_map]
          exact small1000 (by omega)
        · exact fun c o e => by rw [upd_ne (ne_of_none e nD1)]; exact s3 c o e
        · rw [upd_same, List.map_append]
          rfl
        · rw [List.take_add_one, hz]
          exact t3.snoc ta
      · rintro H3 ⟨s3, as', e3, t3⟩
        rw [List.length_map, List.take_length] at t3
        refine ⟨D1, _, rfl, .inl ⟨SqL.of e3, fun t nt => ?_⟩⟩
        have s4 : Same H3 (upd H3 t (.tup (as'.map V.ref))) := same_put nt
        have k4 := (s3.trans s4).kp
        refine q t _ (s1.trans (s2.trans (s3.trans s4))) ⟨as', ys, upd_same, t3.kp k4, ⟨srt, pm.nodup_iff.mpr nd, fun z => (pm.mem_iff).trans (mem z)⟩, by rw [pm.length_eq]; exact lk⟩
end
end K04


/-! str(o) by the class's own __str__ -/
namespace Own1
open PySem PySem.Spec PyProof.Rows L2
section
variable {X : Cx} {pins : List (Addr × Obj)} {σ : L2.St} {H : Hp} {s : Shared} {CX : CXT} {n : Nat} {sp : Sp} {E : XK} {C f : Addr}
def rStrO (C : Addr) (sp : Sp) (E : XK) : List V → Hp → VK → Prop := fun xs H Q => ∃ a dx fs, xs = [V.ref a] ∧ H a = some (.ins C dx fs) ∧ sp [.ref a] H (fun z H' => ∃ y, z = .str y ∧ Q (.str y) H') E
theorem call_strO (d : Dun X.K C "__str__" f) (F : FnR X.prog X.w X.K X.mg X.base CX n f sp) (hr : Room (n + 2) X.A) (hx : Passes CX X E) : CallR X (.type "str") (rStrO C sp E) := by
  intro pins s σ H xs us Q I r h
  obtain ⟨a, dx, fs, rfl, ha, q⟩ := h
  rw [Vals.ref1 r]
  obtain ⟨ox, od, J⟩ := ins_at I ha
  have hr2 : Room n X.A.in1.in1 := (show Room (n + 1) X.A.in1 from Room.in1 hr).in1
  refine PySem.W.kso_call hr2.units0 I.kIn J d.at_ d.fn (wpAny_mono (run_in (us := [.ref a]) (vs := [.ref a]) F hr2 I.env0.in1.in1 hx I (.cons rfl .nil) q) (fun r z ⟨y, H', I', ry, k, ey, qy⟩ => ?_) fun _ _ y => y)
  subst ey
  obtain ⟨t, e⟩ := (show ∃ t, r = Value.str k t from ry)
  subst e
  exact ⟨.str k, H', I', ⟨t, rfl⟩, qy⟩
end
end Own1


/-! classes that are made, their special methods; what stays when a new object is filled -/
namespace Cal
open PySem PySem.Spec PyProof.Rows L2 Gd Own1
/-- a class that is made by its name -/
structure Ni (P : Program) (w : World) (K : PySem.W.Frag) (mg : Str → Option Value) (base : Heap) (CX : CXT) (k : Nat) (x : Str) (C : Addr) (ps : List Str) (sp : Sp) : Prop where
  gl : mg x = some (.ref C)
  ex : ∃ f fd, Mk K C f ∧ Binds K fd ps [] ∧ FnOk P w K mg base CX k f fd ps sp
/-- its __init__ stands -/
structure Di (K : PySem.W.Frag) (mg : Str → Option Value) (x : Str) (C : Addr) (st : Stmt) : Prop where
  gl : mg x = some (.ref C)
  ex : ∃ f fd, Mk K C f ∧ Fun K "__init__" (x ++ ".__init__") st f fd
/-- a special method that keeps a promise -/
structure Du (P : Program) (w : World) (K : PySem.W.Frag) (mg : Str → Option Value) (base : Heap) (CX : CXT) (k : Nat) (C : Addr) (m : Str) (sp : Sp) : Prop where
  ex : ∃ f, Dun K C m f ∧ FnR P w K mg base CX k f sp
structure Dd (K : PySem.W.Frag) (C : Addr) (m q : Str) (st : Stmt) : Prop where
  ex : ∃ f fd, Dun K C m f ∧ Fun K m q st f fd
section
variable {P : Program} {w : World} {K : PySem.W.Frag} {mg : Str → Option Value} {base : Heap} {CX : CXT} {k j : Nat} {x m q : Str} {C : Addr} {st : Stmt} {N ps : List Str} {sp sp' : Sp}
theorem Di.niN (D : Di K mg x C st) (S : FnScope N ps (defScope st)) (hb : ∀ (kV doc pm : Value) (an : Option Addr) (cdv ct : Value) (us : List Value), us.length = ps.length → bindArgs (PySem.W.fnOf "__init__" (x ++ ".__init__") (defArgs st) (defBody st) (defScope st) .none kV doc pm an cdv ct) ⟨us, []⟩ = pure (ps.zip us))
    (len : ∀ vs H Q E, sp vs H Q E → vs.length = ps.length)
    (body : ∀ (f : Addr) (cdv : Value) (A : Around) (outer : List Env) (s : Shared) (H : Hp) (vs : List V) (Q : VK) (E : XK), Room k (A.deeper (envOfC (x ++ ".__init__") (defScope st) s.heap.objs.size f cdv)) → sp vs H Q E →
      ∃ t, PSs (cxOf (L2N.CX P w) P w K mg base N (x ++ ".__init__") (defScope st) f cdv A outer s H E) (defBody st) t ∧ t { nx := fun _ H' => Q .non H', rt := Q } (start N vs) H) : Ni P w K mg base (L2N.CX P w) (k + 1) x C ps sp := by
  obtain ⟨f, fd, m, F⟩ := D.ex
  exact ⟨D.gl, f, fd, m, F.binds hb, F.okN S len (body f)⟩
theorem Dd.du (D : Dd K C m q st) (S : FnScope N ps (defScope st)) (hb : ∀ (kV doc pm : Value) (an : Option Addr) (cdv ct : Value) (us : List Value), us.length = ps.length → bindArgs (PySem.W.fnOf m q (defArgs st) (defBody st) (defScope st) .none kV doc pm an cdv ct) ⟨us, []⟩ = pure (ps.zip us))
    (len : ∀ vs H Q E, sp vs H Q E → vs.length = ps.length)
    (body : ∀ (f : Addr) (cdv : Value) (A : Around) (outer : List Env) (s : Shared) (H : Hp) (vs : List V) (Q : VK) (E : XK), Room k (A.deeper (envOfC q (defScope st) s.heap.objs.size f cdv)) → sp vs H Q E →
      ∃ t, PSs (cxOf CX0 P w K mg base N q (defScope st) f cdv A outer s H E).nox (defBody st) t ∧ t { nx := fun _ H' => Q .non H', rt := Q } (start N vs) H) : Du P w K mg base CX0 (k + 1) C m sp := by
  obtain ⟨f, fd, mm, F⟩ := D.ex
  exact ⟨f, mm, ((F.ok S len (body f)).raw (F.binds hb) .nil).imp fun vs H Q E h => by rw [List.append_nil]; exact h⟩
theorem Dd.duN (D : Dd K C m q st) (S : FnScope N ps (defScope st)) (hb : ∀ (kV doc pm : Value) (an : Option Addr) (cdv ct : Value) (us : List Value), us.length = ps.length → bindArgs (PySem.W.fnOf m q (defArgs st) (defBody st) (defScope st) .none kV doc pm an cdv ct) ⟨us, []⟩ = pure (ps.zip us))
    (len : ∀ vs H Q E, sp vs H Q E → vs.length = ps.length)
    (body : ∀ (f : Addr) (cdv : Value) (A : Around) (outer : List Env) (s : Shared) (H : Hp) (vs : List V) (Q : VK) (E : XK), Room k (A.deeper (envOfC q (defScope st) s.heap.objs.size f cdv)) → sp vs H Q E →
      ∃ t, PSs (cxOf (L2N.CX P w) P w K mg base N q (defScope st) f cdv A outer s H E) (defBody st) t ∧ t { nx := fun _ H' => Q .non H', rt := Q } (start N vs) H) : Du P w K mg base (L2N.CX P w) (k + 1) C m sp := by
  obtain ⟨f, fd, mm, F⟩ := D.ex
  exact ⟨f, mm, ((F.okN S len (body f)).raw (F.binds hb) .nil).imp fun vs H Q E h => by rw [List.append_nil]; exact h⟩
end
section
variable {X : Cx} {CX : CXT} {k j : Nat} {C : Addr} {ps : List Str} {sp : Sp} {E : XK} {x : Str} {p pos : Pos} {e : Expr} {es : List Expr} {t : TA}
/-- C(e, ..) -/
theorem pe_n (N : Ni X.prog X.w X.K X.mg X.base CX k x C ps sp) (hr : Room (k + 1) X.A) (hg : Gl X x) (hx : Passes CX X E)
    (ha : PA X (e :: es) t) (hdb : (x == ("__debug__" : Str)) = false := by decide) (he : starEach (e :: es) X.env = (false, eval e X.env) :: starEach es X.env := by rfl) (hpl : (backTo pos (starEach es X.env)).any (·.1) = false := by rfl) :
    PE X (.Call (.Name x p) (e :: es) [] pos) (tMake C sp [] E t) := by
  obtain ⟨f, fd, M, b, F⟩ := N.ex
  exact pe_make M F hr hg N.gl b .nil hx ha hdb he hpl
/-- C() -/
theorem pe_n0 (N : Ni X.prog X.w X.K X.mg X.base CX k x C ps sp) (hr : Room (k + 1) X.A) (hg : Gl X x) (hx : Passes CX X E) (hdb : (x == ("__debug__" : Str)) = false := by decide) :
    PE X (.Call (.Name x p) [] [] pos) (tMake C sp [] E tNil) := by
  obtain ⟨f, fd, M, b, F⟩ := N.ex
  exact pe_make0 M F hr hg N.gl b .nil hx hdb
end
end Cal
namespace Tm
open PySem PySem.Spec PyProof.Rows L2 Rng Own1 Cal
section
variable {Cs : Nat → Addr} {H H' : Hp}
theorem kp_init {o : Addr} {i : Nat} (n : NewAt Cs H i o) (b : But o H H') : Kp H H' := by
  obtain ⟨dx, ho⟩ := n
  refine ⟨fun a C dx' fs z e t => b _ _ ?_ e, fun a xs e => b _ _ ?_ e⟩
  · rintro rfl
    rw [ho] at e
    cases e
    cases t
  · rintro rfl
    rw [ho] at e
    cases e
/-- texts and tuples stay -/
structure Kx (H H' : Hp) : Prop where
  ins : ∀ a C dx fs z, H a = some (.ins C dx fs) → fs.lookup ("text" : Str) = some (.str z) → ∃ dx' fs', H' a = some (.ins C dx' fs') ∧ fs'.lookup ("text" : Str) = some (.str z)
  tup : ∀ a xs, H a = some (.tup xs) → H' a = some (.tup xs)
theorem TxAt.kx {lo hi : Nat} {a : Addr} {z : Str} (h : TxAt Cs lo hi H a z) (k : Kx H H') : TxAt Cs lo hi H' a z := by
  obtain ⟨i, dx, fs, h1, h2, h3, h4⟩ := h
  obtain ⟨dx', fs', a, b⟩ := k.ins _ _ _ _ _ h3 h4
  exact ⟨i, dx', fs', h1, h2, a, b⟩
theorem Txs.kx {lo hi : Nat} {as : List Addr} {zs : List Str} (h : Txs Cs lo hi H as zs) (k : Kx H H') : Txs Cs lo hi H' as zs := by
  induction h with
  | nil => exact .nil
  | cons a _ ih => exact .cons (a.kx k) ih
theorem TxT.kx {lo hi : Nat} {p : Addr} {l : List Str} (h : TxT Cs lo hi H p l) (k : Kx H H') : TxT Cs lo hi H' p l := by
  obtain ⟨as, zs, h1, h2, h3⟩ := h
  exact ⟨as, zs, k.tup _ _ h1, h2.kx k, h3⟩
/-- a field more -/
theorem kx_put {o C dx : Addr} {fs fs' : List (Str × V)} {z : Str} (h : H o = some (.ins C dx fs)) (t : fs.lookup ("text" : Str) = some (.str z)) (t' : fs'.lookup ("text" : Str) = some (.str z)) : Kx H (upd H o (.ins C dx fs')) := by
  refine ⟨fun a C' dx' fs1 z1 e e1 => ?_, fun a xs e => ?_⟩
  · by_cases c : a = o
    · subst c
      rw [h] at e
      cases e
      rw [t] at e1
      cases e1
      exact ⟨dx, fs', upd_same, t'⟩
    · exact ⟨dx', fs1, by rw [upd_ne c]; exact e, e1⟩
  · rw [upd_ne]
    · exact e
    · rintro rfl
      rw [h] at e
      cases e
/-- the time is another object than the new one -/
theorem new_ne {o c : Addr} {i : Nat} {t : Tr} (n : NewAt Cs H i o) (h : ThAt Cs H t c) : c ≠ o := by
  rintro rfl
  obtain ⟨dx, ho⟩ := n
  obtain ⟨dx', fs, e, cm⟩ := h.node
  rw [ho] at e
  injection Option.some.inj e with e1 e2 e3
  have := cm.text
  rw [← e3] at this
  cases this
end
end Tm
namespace Tm
open PySem PySem.Spec PyProof.Rows L2 Rng Own1 Cal
/-- a new object while it is filled -/
structure Fill (Cs : Nat → Addr) (H0 : Hp) (i : Nat) (o dx : Addr) (fs : List (Str × V)) (H : Hp) : Prop where
  but : But o H0 H
  at_ : H o = some (.ins (Cs i) dx fs)
theorem Fill.same {Cs : Nat → Addr} {H0 H H' : Hp} {i : Nat} {o dx : Addr} {fs : List (Str × V)} (F : Fill Cs H0 i o dx fs H) (s : Same H H') : Fill Cs H0 i o dx fs H' := ⟨fun c u n e => s _ _ (F.but c u n e), s _ _ F.at_⟩
theorem fld_go {K : PySem.W.Frag} {Cs : Nat → Addr} {CT CL : Addr} (T : TmK K Cs CT CL) {i : Nat} (hi : i < 7) {o dx : Addr} {H0 H : Hp} {tv : TE} {f : Str} {D : Ends} {σ : L2.St} (R : V → Hp → Prop) (hv : ∀ Q : VK, (∀ y H1, R y H1 → Q y H1) → tv σ H Q)
    (hs : σ[0]? = some (some (.ref o))) (hf : f ∈ fnames) (h : ∀ y H1, R y H1 → ∃ fs, Fill Cs H0 i o dx fs H1 ∧ fs.length < 1000 ∧ ∀ H2, H2 = upd H1 o (.ins (Cs i) dx (putF f y fs)) → Fill Cs H0 i o dx (putF f y fs) H2 → D.nx σ H2) : sFld K (tVar 0) tv f D σ H := by
  refine hv _ fun y H1 r => ?_
  obtain ⟨fs, F, hl, q⟩ := h y H1 r
  exact ⟨_, hs, o, Cs i, dx, fs, rfl, F.at_, T.cl i hi, T.na i hi _ hf, hl, q _ rfl ⟨F.but.trans But.put, upd_same⟩⟩
/-- a value that is there -/
theorem fld_v {K : PySem.W.Frag} {Cs : Nat → Addr} {CT CL : Addr} (T : TmK K Cs CT CL) {i : Nat} (hi : i < 7) {o dx : Addr} {H0 H : Hp} {tv : TE} {f : Str} {D : Ends} {σ : L2.St} {y : V} {fs : List (Str × V)} (hv : ∀ Q : VK, Q y H → tv σ H Q)
    (F : Fill Cs H0 i o dx fs H) (hs : σ[0]? = some (some (.ref o))) (hf : f ∈ fnames) (hl : fs.length < 1000) (h : ∀ H2, H2 = upd H o (.ins (Cs i) dx (putF f y fs)) → Fill Cs H0 i o dx (putF f y fs) H2 → D.nx σ H2) : sFld K (tVar 0) tv f D σ H :=
  fld_go T hi (fun y' H' => y' = y ∧ H' = H) (fun Q q => hv Q (q _ _ ⟨rfl, rfl⟩)) hs hf fun y' H' ⟨a, b⟩ => by subst a b; exact ⟨fs, F, hl, h⟩
end Tm
namespace Own1
open PySem PySem.Spec PyProof.Rows L2
/-- what a class with an operator of its own has -/
structure Bn (K : PySem.W.Frag) (C : Addr) (op : Operator) (f : Addr) : Prop where
  self : PySem.W.selfFirst K C = true
  at_ : PySem.W.findIn K (.ref C) (PySem.dunder op.info.2) = some (some (.ref f))
  fn : PySem.W.isFn K (.ref f) = true
  rat : PySem.W.findIn K (.ref C) (dunderR op.info.2) = some none
  i1 : ∃ fo, PySem.W.findIn K (.type "int") (PySem.dunder op.info.2) = some fo
  i2 : ∃ fo, PySem.W.findIn K (.type "int") (dunderR op.info.2) = some fo
  sub : PySem.W.subIn K (.type "int") (.ref C) = some false
section
variable {X : Cx} {CX : CXT} {n : Nat} {sp : Sp} {E : XK} {C f : Addr}
/-- o + n -/
def rBinI (C : Addr) (sp : Sp) (E : XK) : R2 := fun x y H Q => ∃ a dx fs i, x = .ref a ∧ y = .int i ∧ H a = some (.ins C dx fs) ∧ sp [x, y] H (fun z H' => (∃ b, z = .ref b) ∧ Q z H') E
theorem op_binI {op : Operator} (d : Bn X.K C op f) (F : FnR X.prog X.w X.K X.mg X.base CX n f sp) (hr : Room n X.A) (hx : Passes CX X E) : OpR X (binaryOp op) (rBinI C sp E) := by
  intro pins s σ H x y v u Q I rx ry h
  obtain ⟨a, dx, fs, i, rfl, rfl, ha, q⟩ := h
  cases (show v = Value.ref a from rx)
  obtain ⟨t, rfl⟩ := (show ∃ t, u = Value.int i t from ry)
  obtain ⟨ox, od, J⟩ := ins_at I ha
  obtain ⟨m, hF⟩ := I.fr
  obtain ⟨fo, i1⟩ := d.i1
  obtain ⟨ro, i2⟩ := d.i2
  refine PySem.W.ksp_binT (T := "int") hF I.ok.mod.kin J rfl d.self d.at_ d.fn d.rat (.inl rfl) i1 i2 d.sub ?_
  refine wpAny_mono (wpAny_call (run_fnR (us := [.ref a, .int i t]) (vs := [.ref a, .int i]) F hr hx I (.cons rfl (.cons ⟨t, rfl⟩ .nil)) q)) (fun r z ⟨y', H', I', rz, ⟨b, eb⟩, qz⟩ => ?_) fun _ _ x => x
  exact SlX.cmpback rz ⟨y', H', I', rz, qz⟩
end
end Own1
namespace Tm
open PySem PySem.Spec PyProof.Rows L2 Rng
theorem join1 (a : Str) : Txt.join ", " [a] = a := by
  rw [TL.join_eq]; rfl
theorem join2 (a b : Str) : Txt.join ", " [a, b] = a ++ ", " ++ b := by
  rw [TL.join_eq]; rfl
theorem tx_shift (t : Tr) (n : Int) : Str.empty ++ Str.ofString "shift(" ++ t.txt ++ Str.ofString ", " ++ intT n ++ Str.ofString ")" = (Tr.shift t n).txt := by
  show _ = wrap "shift" [t.txt, intT n]
  unfold wrap
  rw [join2]
  refine Tm.str_ext ?_
  simp only [TL.tl_append, List.append_assoc]
  rfl
theorem tx_floor (t : Tr) : Str.empty ++ Str.ofString "floor(" ++ t.txt ++ Str.ofString ")" = (Tr.floor t).txt := by
  show _ = wrap "floor" [t.txt]
  unfold wrap
  rw [join1]
  refine Tm.str_ext ?_
  simp only [TL.tl_append, List.append_assoc]
  rfl
theorem tx_ceil (t : Tr) : Str.empty ++ Str.ofString "ceil(" ++ t.txt ++ Str.ofString ")" = (Tr.ceil t).txt := by
  show _ = wrap "ceil" [t.txt]
  unfold wrap
  rw [join1]
  refine Tm.str_ext ?_
  simp only [TL.tl_append, List.append_assoc]
  rfl
theorem tx_row (t : Tr) : Str.empty ++ Str.ofString "time(" ++ t.txt ++ Str.ofString ")" = (Tr.row t).txt := by
  show _ = wrap "time" [t.txt]
  unfold wrap
  rw [join1]
  refine Tm.str_ext ?_
  simp only [TL.tl_append, List.append_assoc]
  rfl
theorem log9 {n : Int} (h1 : -1000000000 ≤ n) (h2 : n ≤ 1000000000) : n.natAbs.log2 < 1920 := by
  by_cases z : n.natAbs = 0
  · rw [z]; decide
  · have : n.natAbs.log2 < 30 := (Nat.log2_lt z).mpr (by omega)
    omega
theorem hgt16 {t : Tr} (h : t.ok) (d : t.dep ≤ 8) : t.hgt ≤ 16 := by
  have := t.hgt_le h
  omega
end Tm


namespace K04
open PySem PySem.Spec PyProof.Rows L2 Rng Bag Gd Cal Tm Tr4 Own1
section
variable {P : Program} {w : World} {K : PySem.W.Frag} {mg : Str → Option Value} {base : Heap} {Cs : Nat → Addr} {CT CL : Addr} {e : Ers}

abbrev sCkP : Stmt := top 29
theorem scCkP : FnScope ["feed", "time", "within", "strict"] ["feed", "time", "within", "strict"] (defScope sCkP) := ⟨rfl, rfl, rfl, by decide +kernel, rfl, by decide +kernel, by decide +kernel⟩

theorem c_ckparts (D : Df K mg "_check_look_parts" sCkP) (B : Nb mg) (er : ErN K mg e) (gl : GlT mg CT CL) (cI : Cl P w K mg base CX0 1 "is_integer" ["value"] (spInteger K)) (cCN : Cl P w K mg base (L2N.CX P w) 3 "check_name" ["value"] (spCkName K e.name))
    (cCT : Cl P w K mg base (L2N.CX P w) 1 "check_reader_time" ["value"] (spCkCls K CT e.time)) : Cl P w K mg base (L2N.CX P w) 4 "_check_look_parts" ["feed", "time", "within", "strict"] (spCkParts K CT e) := by
  refine D.clN scCkP (fun _ _ _ _ _ _ us hl => match us, hl with | [_, _, _, _], _ => rfl) (fun vs H Q E h => ?_) (fun f cdv A outer s H vs Q E hr h => ?_)
  · obtain ⟨f, t, w, s, rfl, _⟩ := h
    rfl
  · obtain ⟨f, t, w, s, rfl, ⟨bf, bt, ow, nf, tt, ww, q1, q2, q3, q4, q5⟩⟩ := h
    obtain ⟨td, mDist⟩ := gl.dist
    refine ⟨_, (pss_cons (ps_expr (pe_c cCN (hr.mono (by decide)) rfl passesN (pa_cons (pv 0) pa_nil)))
      (pss_cons (ps_expr (pe_c cCT (hr.mono (by decide)) rfl passesN (pa_cons (pv 1) pa_nil)))
      (pss_cons (ps_if (PW.pt (pw_and (pt_cmp (pc_notN (pv 2))) (pw_and1 (pt_not (PW.pt (pw_and (pt_val (pe_c cI (hr.mono (by decide)) rfl pass0 (pa_cons (pv 2) pa_nil))) (pw_and1 (pt_chain op_le op_le pe_int (pv 2) (pe_glob (v := .int 1000000000) rfl mDist ⟨_, rfl⟩))))))))) (pss_one (ps_raiseV rfl rfl takesN er.within hr rfl er.mWithin (pa_cons (pv 2) pa_nil))) pss_nil)
      (pss_one (ps_if (PW.pt (pw_and (pt_cmpR op_isnotB (pv 3) pe_bl (nomark _)) (pw_and1 (pt_cmpR op_isnotB (pv 3) pe_bl (nomark _))))) (pss_one (ps_raiseV rfl rfl takesN er.strict hr rfl er.mStrict (pa_cons (pv 3) pa_nil))) pss_nil))))), ?_⟩
    refine ⟨_, rfl, f, bf, rfl, nf, fun e1 H1 s1 => ?_, q1⟩
    subst e1
    refine ⟨_, rfl, t, bt, rfl, tt.same s1, fun e1 => ?_, fun e1 => (q2 rfl e1).same s1⟩
    subst e1
    have nb : strictB s = none → ∀ b, decide (s = .bl b) = false := fun z b => decide_eq_false fun y => by rw [y] at z; cases z
    have sb : (strictB s).isSome = true → ∃ b, s = .bl b := fun z => by
      cases s with
      | bl b => exact ⟨b, rfl⟩
      | _ => cases z
    refine ⟨_, rfl, !decide (w = .non), rfl, ?_⟩
    rcases ww with ⟨rfl, rfl⟩ | ⟨n, rfl, rfl, h1, h2⟩ | ⟨n, rfl, rfl, h1⟩ | ⟨h0, h1, rfl⟩
    · rw [decide_eq_true rfl]
      refine iteF ?_
      refine ⟨_, rfl, true, rfl, _, rfl, ?_⟩
      cases hs : strictB s with
      | none =>
        rw [nb hs]
        refine iteT ⟨_, rfl, false, rfl, _, rfl, ?_⟩
        rw [nb hs]
        exact iteT ⟨_, rfl, _, rfl, raise_here (q4 rfl rfl rfl hs) s1⟩
      | some b =>
        obtain ⟨b', rfl⟩ := sb (by rw [hs]; rfl)
        cases b' with
        | true =>
          rw [decide_eq_true rfl]
          exact iteF (q5 rfl rfl rfl rfl _ s1)
        | false =>
          rw [decide_eq_false (fun z => nomatch z)]
          refine iteT ⟨_, rfl, false, rfl, _, rfl, ?_⟩
          rw [decide_eq_true rfl]
          exact iteF (q5 rfl rfl rfl rfl _ s1)
    · rw [decide_eq_false (fun z => nomatch z)]
      refine iteT ⟨_, rfl, _, true, rfl, .int n, true, rfl, iteT ⟨_, rfl, _, _, rfl, rfl, _, rfl, ?_⟩⟩
      rw [decide_eq_true h1]
      refine iteT ⟨_, _, rfl, rfl, _, rfl, ?_⟩
      rw [decide_eq_true h2]
      refine iteF ?_
      refine ⟨_, rfl, true, rfl, _, rfl, ?_⟩
      cases hs : strictB s with
      | none =>
        rw [nb hs]
        refine iteT ⟨_, rfl, false, rfl, _, rfl, ?_⟩
        rw [nb hs]
        exact iteT ⟨_, rfl, _, rfl, raise_here (q4 rfl rfl rfl hs) s1⟩
      | some b =>
        obtain ⟨b', rfl⟩ := sb (by rw [hs]; rfl)
        cases b' with
        | true =>
          rw [decide_eq_true rfl]
          exact iteF (q5 rfl rfl rfl rfl _ s1)
        | false =>
          rw [decide_eq_false (fun z => nomatch z)]
          refine iteT ⟨_, rfl, false, rfl, _, rfl, ?_⟩
          rw [decide_eq_true rfl]
          exact iteF (q5 rfl rfl rfl rfl _ s1)
    · rw [decide_eq_false (fun z => nomatch z)]
      refine iteT ⟨_, rfl, _, true, rfl, .int n, true, rfl, iteT ⟨_, rfl, _, _, rfl, rfl, _, rfl, ?_⟩⟩
      by_cases c : 0 ≤ n
      · rw [decide_eq_true c]
        refine iteT ⟨_, _, rfl, rfl, _, rfl, ?_⟩
        rw [decide_eq_false (fun z => h1 ⟨c, z⟩)]
        exact iteT ⟨_, rfl, _, rfl, raise_here (q3 rfl rfl rfl) s1⟩
      · rw [decide_eq_false c]
        exact iteF ⟨_, rfl, iteT ⟨_, rfl, _, rfl, raise_here (q3 rfl rfl rfl) s1⟩⟩
    · rw [decide_eq_false h0]
      refine iteT ⟨_, rfl, _, false, rfl, intB_same h1 s1, false, rfl, iteF (iteT ⟨_, rfl, _, rfl, raise_here (q3 rfl rfl rfl) s1⟩)⟩
abbrev sLT : Stmt := top 30
theorem scLT : FnScope ["word", "feed", "time", "within", "strict", "parts", "inside"] ["word", "feed", "time", "within", "strict"] (defScope sLT) := ⟨rfl, rfl, rfl, by decide +kernel, rfl, by decide +kernel, by decide +kernel⟩

theorem c_lktext (T : TmK K Cs CT CL) (D : Df K mg "_look_text" sLT) (cT : Cl P w K mg base CX0 1 "integer_text" ["number"] spIt) : Cl P w K mg base CX0 2 "_look_text" ["word", "feed", "time", "within", "strict"] (spLkText Cs) := by
  refine D.cl scLT (fun _ _ _ _ _ _ us hl => match us, hl with | [_, _, _, _, _], _ => rfl) (fun vs H Q E h => ?_) (fun f cdv A outer s H vs Q E hr h => ?_)
  · obtain ⟨a, f, c, t, w, s, rfl, _⟩ := h
    rfl
  · obtain ⟨a, f, c, t, w, s, rfl, tt, ok, dp, q⟩ := h
    obtain ⟨dx, fs, ho, cm⟩ := tt.node
    have tl := Tr.txt_le ok.2.2.1 dp
    have fl := name8 ok.1
    have b60 : (100000 : Nat) ≤ sizeLine := by decide
    refine ⟨_, (pss_cons (ps_set (i := 5) scLT.nd rfl (Or.inl rfl) (pe_lst (pa_cons (pv 1) (pa_cons (pe_fld (pv 2) rfl) pa_nil))))
      (pss_cons (ps_if (pt_cmp (pc_notN (pv 3))) (pss_one (ps_expr (pe_bm PySem.F.plainAttrs_list PySem.F.slot_list_append PySem.F.type_list_append mt_append (pv 5) (pa_cons (pe_c cT hr rfl pass0 (pa_cons (pv 3) pa_nil)) pa_nil)))) pss_nil)
      (pss_cons (ps_if (pt_val (pv 4)) (pss_one (ps_expr (pe_bm PySem.F.plainAttrs_list PySem.F.slot_list_append PySem.F.type_list_append mt_append (pv 5) (pa_cons pe_str pa_nil)))) pss_nil)
      (pss_cons (ps_set (i := 6) scLT.nd rfl (Or.inl rfl) (pe_join pe_str (pv 5)))
      (pss_one (ps_ret (pe_joined (.cons (pe_fmt (pv 0)) (.cons pe_str (.cons (pe_fmt (pv 6)) (.cons pe_str .nil))))))))))), ?_⟩
    refine ⟨_, rfl, _, rfl, c, _, dx, fs, _, rfl, ho, T.cl _ t.ci_lt, T.na _ t.ci_lt _ (by decide +kernel), cm.text, (by show 2 ≤ sizeLine; decide), fun l nl => ?_⟩
    have s1 : Same H (upd H l (.lst [.str f, .str t.txt])) := same_put nl
    have e1 : (upd H l (.lst [.str f, .str t.txt])) l = some (.lst (([f, t.txt] : List Str).map V.str)) := upd_same
    generalize upd H l (.lst [.str f, .str t.txt]) = H1 at s1 e1 ⊢
    have b := boundT_len ok.2.2.2
    have d : sumL (strictT s) ≤ 8 := by cases s <;> decide
    have wl : (wordL a).length ≤ 6 := by cases a <;> decide
    have tot : sumL ([f, t.txt] ++ boundT w ++ strictT s) ≤ 4000 := by
      rw [sumL_app, sumL_app]
      simp only [sumL]
      omega
    have jl := join_len ([f, t.txt] ++ boundT w ++ strictT s)
    have q2 : ∀ H', Same H H' → Q (.str (Str.empty ++ wordL a ++ Str.ofString "(" ++ Txt.join (Str.ofString ", ") ([f, t.txt] ++ boundT w ++ strictT s) ++ Str.ofString ")")) H' := fun H' s' => by
      have := q H' s'
      rw [show (Tr.look a f t w s).txt = Str.empty ++ wordL a ++ Str.ofString "(" ++ Txt.join (Str.ofString ", ") ([f, t.txt] ++ boundT w ++ strictT s) ++ Str.ofString ")" from by
        show wrap (wordL a) _ = _
        unfold wrap
        refine Tm.str_ext ?_
        simp only [TL.tl_append, List.append_assoc]
        rfl] at this
      exact this
    clear q
    have hw : ∀ n, w = some n → n.natAbs.log2 < 1920 := fun n z => log9 (by have := ok.2.2.2 n z; omega) (by have := ok.2.2.2 n z; omega)
    have e0 : Str.empty.length = 0 := by decide
    have e2 : (Str.ofString "(").length = 1 := by decide
    have e3 : (Str.ofString ")").length = 1 := by decide
    generalize hps : [f, t.txt] ++ boundT w ++ strictT s = ps at tot jl q2
    have hps2 : ps = ([f, t.txt] ++ boundT w ++ strictT s) := hps.symm
    clear hps b d
    have up : ∀ (H' : Hp) (u : HO), Same H H' → Same H (upd H' l u) := fun H' u z c o e => by rw [upd_ne (ne_of_none e nl)]; exact z c o e
    refine ⟨_, rfl, !decide (wV w = .non), rfl, ?_⟩
    cases w with
    | none =>
      rw [decide_eq_true (show wV none = .non from rfl)]
      refine iteF ⟨_, rfl, s, rfl, ?_⟩
      cases s with
      | false =>
        refine iteF ?_
        refine ⟨⟨_, rfl⟩, _, rfl, _, l, ps, rfl, rfl, .inl (SqL.of (xs := ps.map V.str) (by rw [hps2]; exact e1)), (by rw [sumL_eq]; omega), ?_⟩
        refine ⟨_, rfl, .inl ⟨_, rfl, by omega, _, rfl, (by rw [app_len]; omega), _, rfl, (by rw [app_len, app_len]; omega), _, rfl, .inl ⟨_, rfl, by omega, _, rfl, (by rw [app_len, app_len, app_len]; omega), _, rfl, (by rw [app_len, app_len, app_len, app_len]; omega), q2 _ s1⟩⟩⟩
      | true =>
        refine iteT ⟨_, rfl, .inl ⟨rfl, _, SqL.of e1⟩, l, _, _, rfl, rfl, e1, (by show 3 ≤ sizeLine; decide), ?_⟩
        have s2 := up H1 (.lst (List.map V.str [f, t.txt] ++ [V.str (Str.ofString "strict")])) s1
        have e4 := upd_same (H := H1) (a := l) (o := .lst (List.map V.str [f, t.txt] ++ [V.str (Str.ofString "strict")]))
        refine ⟨⟨_, rfl⟩, _, rfl, _, l, ps, rfl, rfl, .inl (SqL.of (xs := ps.map V.str) (by rw [hps2]; exact e4)), (by rw [sumL_eq]; omega), ?_⟩
        refine ⟨_, rfl, .inl ⟨_, rfl, by omega, _, rfl, (by rw [app_len]; omega), _, rfl, (by rw [app_len, app_len]; omega), _, rfl, .inl ⟨_, rfl, by omega, _, rfl, (by rw [app_len, app_len, app_len]; omega), _, rfl, (by rw [app_len, app_len, app_len, app_len]; omega), q2 _ s2⟩⟩⟩
    | some n =>
      rw [decide_eq_false (show ¬wV (some n) = .non from fun z => nomatch z)]
      refine iteT ⟨_, rfl, .inl ⟨rfl, _, SqL.of e1⟩, _, rfl, n, rfl, hw n rfl, l, _, _, rfl, rfl, e1, (by show 3 ≤ sizeLine; decide), ?_⟩
      have s2 := up H1 (.lst (List.map V.str [f, t.txt] ++ [V.str (intT n)])) s1
      have e4 := upd_same (H := H1) (a := l) (o := .lst (List.map V.str [f, t.txt] ++ [V.str (intT n)]))
      generalize upd H1 l (.lst (List.map V.str [f, t.txt] ++ [V.str (intT n)])) = H2 at s2 e4 ⊢
      refine ⟨_, rfl, s, rfl, ?_⟩
      cases s with
      | false =>
        refine iteF ?_
        refine ⟨⟨_, rfl⟩, _, rfl, _, l, ps, rfl, rfl, .inl (SqL.of (xs := ps.map V.str) (by rw [hps2]; exact e4)), (by rw [sumL_eq]; omega), ?_⟩
        refine ⟨_, rfl, .inl ⟨_, rfl, by omega, _, rfl, (by rw [app_len]; omega), _, rfl, (by rw [app_len, app_len]; omega), _, rfl, .inl ⟨_, rfl, by omega, _, rfl, (by rw [app_len, app_len, app_len]; omega), _, rfl, (by rw [app_len, app_len, app_len, app_len]; omega), q2 _ s2⟩⟩⟩
      | true =>
        refine iteT ⟨_, rfl, .inl ⟨rfl, _, SqL.of e4⟩, l, _, _, rfl, rfl, e4, (by show 4 ≤ sizeLine; decide), ?_⟩
        have s3 := up H2 (.lst (List.map V.str [f, t.txt] ++ [V.str (intT n)] ++ [V.str (Str.ofString "strict")])) s2
        have e5 := upd_same (H := H2) (a := l) (o := .lst (List.map V.str [f, t.txt] ++ [V.str (intT n)] ++ [V.str (Str.ofString "strict")]))
        refine ⟨⟨_, rfl⟩, _, rfl, _, l, ps, rfl, rfl, .inl (SqL.of (xs := ps.map V.str) (by rw [hps2]; exact e5)), (by rw [sumL_eq]; omega), ?_⟩
        refine ⟨_, rfl, .inl ⟨_, rfl, by omega, _, rfl, (by rw [app_len]; omega), _, rfl, (by rw [app_len, app_len]; omega), _, rfl, .inl ⟨_, rfl, by omega, _, rfl, (by rw [app_len, app_len, app_len]; omega), _, rfl, (by rw [app_len, app_len, app_len, app_len]; omega), q2 _ s3⟩⟩⟩
end
end K04


namespace K04
open PySem PySem.Spec PyProof.Rows L2 Rng Bag Gd Cal Tm Tr4 Own1
section
variable {P : Program} {w : World} {K : PySem.W.Frag} {mg : Str → Option Value} {base : Heap} {Cs : Nat → Addr} {CT CL : Addr} {e : Ers}

abbrev sNow : Stmt := top 32
abbrev sNowI : Stmt := inClass (top 32) 0
theorem scNowI : FnScope ["self"] ["self"] (defScope sNowI) := ⟨rfl, rfl, rfl, by decide +kernel, rfl, by decide +kernel, by decide +kernel⟩

theorem i_now (T : TmK K Cs CT CL) (D : Di K mg "Now" (Cs 0) sNowI) : Ni P w K mg base (L2N.CX P w) 1 "Now" (Cs 0) ["self"] (spNowI Cs) := by
  refine D.niN scNowI (fun _ _ _ _ _ _ us hl => match us, hl with | [_], _ => rfl) (fun vs H Q E h => ?_) (fun f cdv A outer s H vs Q E hr h => ?_)
  · obtain ⟨o, rfl, _⟩ := h
    rfl
  · obtain ⟨o, rfl, ⟨dx, ho⟩, q⟩ := h
    have hi : 0 < 7 := by decide
    have F0 : Fill Cs H 0 o dx [] H := ⟨But.refl _ _, ho⟩
    refine ⟨_, (pss_cons (ps_fld (pv 0) pe_str rfl)
      (pss_cons (ps_fld (pv 0) pe_int rfl)
      (pss_cons (ps_fld (pv 0) (pe_tup pa_nil) rfl)
      (pss_one (ps_fld (pv 0) (pe_tup pa_nil) rfl))))), ?_⟩
    dsimp only [tSeq]
    refine fld_v T hi (y := .str "now") (fun Q q => q) F0 rfl (by decide +kernel) (by decide) fun J1 j1 F1 => ?_
    replace F1 : Fill Cs H 0 o dx [("text", .str "now")] J1 := F1
    dsimp only [tSeq]
    refine fld_v T hi (y := .int 1) (fun Q q => q) F1 rfl (by decide +kernel) (by show 1 < 1000; decide) fun J2 j2 F2 => ?_
    replace F2 : Fill Cs H 0 o dx [("text", .str "now"), ("depth", .int 1)] J2 := F2
    dsimp only [tSeq]
    refine fld_go T hi (dx := dx) (H0 := H) (fun y H' => ∃ p, y = .ref p ∧ Same J2 H' ∧ H' p = some (.tup [])) (fun Q q => ⟨(by show 0 ≤ sizeLine; decide), fun p np => q _ _ ⟨p, rfl, same_put np, upd_same⟩⟩) rfl (by decide +kernel) ?_
    rintro y1 J3 ⟨p1, rfl, s3, t3⟩
    refine ⟨_, F2.same s3, (by decide), fun J4 j4 F4 => ?_⟩
    replace F4 : Fill Cs H 0 o dx [("text", .str "now"), ("depth", .int 1), ("looks", .ref p1)] J4 := F4
    have x4 : Kx J3 J4 := by rw [j4]; exact kx_put (z := "now") (s3 _ _ F2.at_) rfl rfl
    have t4 := x4.tup _ _ t3
    dsimp only [tSeq]
    refine fld_go T hi (dx := dx) (H0 := H) (fun y H' => ∃ p, y = .ref p ∧ Same J4 H' ∧ H' p = some (.tup [])) (fun Q q => ⟨(by show 0 ≤ sizeLine; decide), fun p np => q _ _ ⟨p, rfl, same_put np, upd_same⟩⟩) rfl (by decide +kernel) ?_
    rintro y2 J5 ⟨p2, rfl, s5, t5⟩
    refine ⟨_, F4.same s5, (by show 3 < 1000; decide), fun J6 j6 F6 => ?_⟩
    replace F6 : Fill Cs H 0 o dx [("text", .str "now"), ("depth", .int 1), ("looks", .ref p1), ("grid_times", .ref p2)] J6 := F6
    have x6 : Kx J5 J6 := by rw [j6]; exact kx_put (z := "now") (s5 _ _ F4.at_) rfl rfl
    exact q J6 F6.but ⟨dx, _, F6.at_, rfl, rfl, ⟨p1, rfl, [], [], x6.tup _ _ (s5 _ _ t4), .nil, ⟨rfl, List.nodup_nil, fun _ => Iff.rfl⟩, Nat.le_refl _⟩, ⟨p2, rfl, [], [], x6.tup _ _ t5, .nil, ⟨rfl, List.nodup_nil, fun _ => Iff.rfl⟩, Nat.le_refl _⟩, rfl, rfl⟩
abbrev sShift : Stmt := top 33
abbrev sShiftI : Stmt := inClass (top 33) 0
theorem scShiftI : FnScope ["self", "time", "by"] ["self", "time", "by"] (defScope sShiftI) := ⟨rfl, rfl, rfl, by decide +kernel, rfl, by decide +kernel, by decide +kernel⟩

theorem i_shift (T : TmK K Cs CT CL) (D : Di K mg "Shift" (Cs 1) sShiftI) (cT : Cl P w K mg base CX0 1 "integer_text" ["number"] spIt) (cCT : Cl P w K mg base (L2N.CX P w) 1 "check_reader_time" ["value"] (spCkCls K CT e.time))
    (cCS : Cl P w K mg base (L2N.CX P w) 2 "_check_shift" ["by"] (spCkShift K e.number)) (cCD : Cl P w K mg base (L2N.CX P w) 1 "_check_depth" ["depth"] (spCkDepth e.many)) : Ni P w K mg base (L2N.CX P w) 3 "Shift" (Cs 1) ["self", "time", "by"] (spShiftI K Cs CT e) := by
  refine D.niN scShiftI (fun _ _ _ _ _ _ us hl => match us, hl with | [_, _, _], _ => rfl) (fun vs H Q E h => ?_) (fun f cdv A outer s H vs Q E hr h => ?_)
  · obtain ⟨o, t, n, bt, on, rfl, _⟩ := h
    rfl
  · obtain ⟨o, t, n, bt, on, rfl, nw, ct, sb, e1, e2, up⟩ := h
    obtain ⟨dx, ho⟩ := id nw
    have hi : 1 < 7 := by decide
    have F0 : Fill Cs H 1 o dx [] H := ⟨But.refl _ _, ho⟩
    refine ⟨_, (pss_cons (ps_expr (pe_c cCT (hr.mono (by decide)) rfl passesN (pa_cons (pv 1) pa_nil)))
      (pss_cons (ps_expr (pe_c cCS (hr.mono (by decide)) rfl passesN (pa_cons (pv 2) pa_nil)))
      (pss_cons (ps_expr (pe_c cCD (hr.mono (by decide)) rfl passesN (pa_cons (pe_op op_add (pe_fld (pv 1) rfl) pe_int) pa_nil)))
      (pss_cons (ps_fld (pv 0) (pv 1) rfl)
      (pss_cons (ps_fld (pv 0) (pv 2) rfl)
      (pss_cons (ps_fld (pv 0) (pe_joined (.cons pe_str (.cons (pe_fmt (pe_fld (pv 1) rfl)) (.cons pe_str (.cons (pe_fmt (pe_c cT (hr.mono (by decide)) rfl pass0 (pa_cons (pv 2) pa_nil))) (.cons pe_str .nil)))))) rfl)
      (pss_cons (ps_fld (pv 0) (pe_op op_add (pe_fld (pv 1) rfl) pe_int) rfl)
      (pss_cons (ps_fld (pv 0) (pe_fld (pv 1) rfl) rfl)
      (pss_one (ps_fld (pv 0) (pe_fld (pv 1) rfl) rfl)))))))))), ?_⟩
    refine ⟨_, rfl, t, bt, rfl, ct, fun eb => ?_, fun eb => e1 eb⟩
    refine ⟨_, rfl, n, on, rfl, sb, fun en => ?_, fun en => e2 eb en⟩
    obtain ⟨m, rfl⟩ : ∃ m, on = some m := by
      cases on with
      | none => cases en
      | some m => exact ⟨m, rfl⟩
    obtain ⟨c, tr, rfl, th, lk, ok, dp, e3, fin⟩ := up eb m rfl
    obtain ⟨rfl, m1, m2⟩ : n = .int m ∧ -1000000000 ≤ m ∧ m ≤ 1000000000 := by
      rcases sb with ⟨k, rfl, e, a, b⟩ | ⟨k, _, e, _⟩ | ⟨_, e⟩
      · cases e; exact ⟨rfl, a, b⟩
      · cases e
      · cases e
    obtain ⟨dc, fc, hc, cm⟩ := th.node
    refine ⟨_, rfl, c, _, dc, fc, _, rfl, hc, T.cl _ tr.ci_lt, T.na _ tr.ci_lt _ (by decide +kernel), cm.depth, _, _, rfl, rfl, tr.dep + 1, rfl, fun le => ?_, fun gt => e3 gt⟩
    have fin := fin le
    have tl := Tr.txt_le ok dp
    have ml := intT_len m1 m2
    have b60 : (100000 : Nat) ≤ sizeLine := by decide
    have e0 : Str.empty.length = 0 := by decide
    have l1 : (Str.ofString "shift(").length = 6 := by decide
    have l2 : (Str.ofString ", ").length = 2 := by decide
    have l3 : (Str.ofString ")").length = 1 := by decide
    dsimp only [tSeq]
    refine fld_v T hi (y := .ref c) (fun Q q => ⟨_, rfl, q⟩) F0 rfl (by decide +kernel) (by decide) fun J1 j1 F1 => ?_
    replace F1 : Fill Cs H 1 o dx [("time", .ref c)] J1 := F1
    dsimp only [tSeq]
    refine fld_v T hi (y := .int m) (fun Q q => ⟨_, rfl, q⟩) F1 rfl (by decide +kernel) (by show 1 < 1000; decide) fun J2 j2 F2 => ?_
    replace F2 : Fill Cs H 1 o dx [("time", .ref c), ("by", .int m)] J2 := F2
    dsimp only [tSeq]
    refine fld_v T hi (y := .str (Tr.shift tr m).txt) (fun Q q => by
      rw [← tx_shift] at q
      exact ⟨_, rfl, (by decide), _, rfl, c, _, dc, fc, _, rfl, (kp_init nw F2.but).ins _ _ _ _ _ hc cm.text, T.cl _ tr.ci_lt, T.na _ tr.ci_lt _ (by decide +kernel), cm.text, .inl ⟨_, rfl, by omega, _, rfl, (by simp only [app_len]; omega), _, rfl, (by simp only [app_len]; omega), _, rfl, m, rfl, log9 m1 m2, .inl ⟨_, rfl, by omega, _, rfl, (by simp only [app_len]; omega), _, rfl, (by simp only [app_len]; omega), q⟩⟩⟩) F2 rfl (by decide +kernel) (by show 2 < 1000; decide) fun J3 j3 F3 => ?_
    replace F3 : Fill Cs H 1 o dx [("time", .ref c), ("by", .int m), ("text", .str (Tr.shift tr m).txt)] J3 := F3
    dsimp only [tSeq]
    refine fld_v T hi (y := .int ((tr.dep + 1 : Nat) : Int)) (fun Q q => ⟨_, rfl, c, _, dc, fc, _, rfl, (kp_init nw F3.but).ins _ _ _ _ _ hc cm.text, T.cl _ tr.ci_lt, T.na _ tr.ci_lt _ (by decide +kernel), cm.depth, _, _, rfl, rfl, q⟩) F3 rfl (by decide +kernel) (by show 3 < 1000; decide) fun J4 j4 F4 => ?_
    replace F4 : Fill Cs H 1 o dx [("time", .ref c), ("by", .int m), ("text", .str (Tr.shift tr m).txt), ("depth", .int ((tr.dep + 1 : Nat) : Int))] J4 := F4
    obtain ⟨pl, lkl, tl4⟩ := cm.looks
    obtain ⟨pg, lkg, tg4⟩ := cm.grids
    dsimp only [tSeq]
    refine fld_v T hi (y := .ref pl) (fun Q q => ⟨_, rfl, c, _, dc, fc, _, rfl, (kp_init nw F4.but).ins _ _ _ _ _ hc cm.text, T.cl _ tr.ci_lt, T.na _ tr.ci_lt _ (by decide +kernel), lkl, q⟩) F4 rfl (by decide +kernel) (by show 4 < 1000; decide) fun J5 j5 F5 => ?_
    replace F5 : Fill Cs H 1 o dx [("time", .ref c), ("by", .int m), ("text", .str (Tr.shift tr m).txt), ("depth", .int ((tr.dep + 1 : Nat) : Int)), ("looks", .ref pl)] J5 := F5
    dsimp only [tSeq]
    refine fld_v T hi (y := .ref pg) (fun Q q => ⟨_, rfl, c, _, dc, fc, _, rfl, (kp_init nw F5.but).ins _ _ _ _ _ hc cm.text, T.cl _ tr.ci_lt, T.na _ tr.ci_lt _ (by decide +kernel), lkg, q⟩) F5 rfl (by decide +kernel) (by show 5 < 1000; decide) fun J6 j6 F6 => ?_
    replace F6 : Fill Cs H 1 o dx [("time", .ref c), ("by", .int m), ("text", .str (Tr.shift tr m).txt), ("depth", .int ((tr.dep + 1 : Nat) : Int)), ("looks", .ref pl), ("grid_times", .ref pg)] J6 := F6
    have k6 := kp_init nw F6.but
    exact fin J6 F6.but ⟨dx, _, c, F6.at_, ⟨rfl, rfl, ⟨pl, rfl, tl4.kp k6⟩, ⟨pg, rfl, tg4.kp k6⟩, rfl, rfl⟩, rfl, rfl, th.kp k6⟩

abbrev sFloor : Stmt := top 34
abbrev sFloorI : Stmt := inClass (top 34) 0
theorem scFloorI : FnScope ["self", "time"] ["self", "time"] (defScope sFloorI) := ⟨rfl, rfl, rfl, by decide +kernel, rfl, by decide +kernel, by decide +kernel⟩

theorem i_floor (T : TmK K Cs CT CL) (D : Di K mg "Floor" (Cs 2) sFloorI) (cCT : Cl P w K mg base (L2N.CX P w) 1 "check_reader_time" ["value"] (spCkCls K CT e.time)) (cO : Cl P w K mg base CX0 1 "in_order" ["things"] (spInOrder Cs 2 4))
    (cCD : Cl P w K mg base (L2N.CX P w) 1 "_check_depth" ["depth"] (spCkDepth e.many)) : Ni P w K mg base (L2N.CX P w) 2 "Floor" (Cs 2) ["self", "time"] (spFloorI K Cs CT e 2 Tr.floor) := by
  refine D.niN scFloorI (fun _ _ _ _ _ _ us hl => match us, hl with | [_, _], _ => rfl) (fun vs H Q E h => ?_) (fun f cdv A outer s H vs Q E hr h => ?_)
  · obtain ⟨o, t, bt, rfl, _⟩ := h
    rfl
  · obtain ⟨o, t, bt, rfl, nw, ct, e1, up⟩ := h
    obtain ⟨dx, ho⟩ := id nw
    have hi : 2 < 7 := by decide
    have F0 : Fill Cs H 2 o dx [] H := ⟨But.refl _ _, ho⟩
    refine ⟨_, (pss_cons (ps_expr (pe_c cCT (hr.mono (by decide)) rfl passesN (pa_cons (pv 1) pa_nil)))
      (pss_cons (ps_expr (pe_c cCD (hr.mono (by decide)) rfl passesN (pa_cons (pe_op op_add (pe_fld (pv 1) rfl) pe_int) pa_nil)))
      (pss_cons (ps_fld (pv 0) (pv 1) rfl)
      (pss_cons (ps_fld (pv 0) (pe_joined (.cons pe_str (.cons (pe_fmt (pe_fld (pv 1) rfl)) (.cons pe_str .nil)))) rfl)
      (pss_cons (ps_fld (pv 0) (pe_op op_add (pe_fld (pv 1) rfl) pe_int) rfl)
      (pss_cons (ps_fld (pv 0) (pe_fld (pv 1) rfl) rfl)
      (pss_one (ps_fld (pv 0) (pe_c cO (hr.mono (by decide)) rfl pass0 (pa_cons (pe_lstES (pv 0) (pe_fld (pv 1) rfl)) pa_nil)) rfl)))))))), ?_⟩
    refine ⟨_, rfl, t, bt, rfl, ct, fun eb => ?_, fun eb => e1 eb⟩
    obtain ⟨c, tr, rfl, th, lk, ok, dp, e3, fin⟩ := up eb
    obtain ⟨dc, fc, hc, cm⟩ := th.node
    refine ⟨_, rfl, c, _, dc, fc, _, rfl, hc, T.cl _ tr.ci_lt, T.na _ tr.ci_lt _ (by decide +kernel), cm.depth, _, _, rfl, rfl, tr.dep + 1, rfl, fun le => ?_, fun gt => e3 gt⟩
    have fin := fin le
    have tl := Tr.txt_le ok dp
    have b60 : (100000 : Nat) ≤ sizeLine := by decide
    have e0 : Str.empty.length = 0 := by decide
    have l1 : (Str.ofString "floor(").length = 6 := by decide
    have l3 : (Str.ofString ")").length = 1 := by decide
    dsimp only [tSeq]
    refine fld_v T hi (y := .ref c) (fun Q q => ⟨_, rfl, q⟩) F0 rfl (by decide +kernel) (by decide) fun J1 j1 F1 => ?_
    replace F1 : Fill Cs H 2 o dx [("time", .ref c)] J1 := F1
    dsimp only [tSeq]
    refine fld_v T hi (y := .str (Tr.floor tr).txt) (fun Q q => by
      rw [← tx_floor] at q
      exact ⟨_, rfl, (by decide), _, rfl, c, _, dc, fc, _, rfl, (kp_init nw F1.but).ins _ _ _ _ _ hc cm.text, T.cl _ tr.ci_lt, T.na _ tr.ci_lt _ (by decide +kernel), cm.text, .inl ⟨_, rfl, by omega, _, rfl, (by simp only [app_len]; omega), _, rfl, (by simp only [app_len]; omega), q⟩⟩) F1 rfl (by decide +kernel) (by show 1 < 1000; decide) fun J2 j2 F2 => ?_
    replace F2 : Fill Cs H 2 o dx [("time", .ref c), ("text", .str (Tr.floor tr).txt)] J2 := F2
    dsimp only [tSeq]
    refine fld_v T hi (y := .int ((tr.dep + 1 : Nat) : Int)) (fun Q q => ⟨_, rfl, c, _, dc, fc, _, rfl, (kp_init nw F2.but).ins _ _ _ _ _ hc cm.text, T.cl _ tr.ci_lt, T.na _ tr.ci_lt _ (by decide +kernel), cm.depth, _, _, rfl, rfl, q⟩) F2 rfl (by decide +kernel) (by show 2 < 1000; decide) fun J3 j3 F3 => ?_
    replace F3 : Fill Cs H 2 o dx [("time", .ref c), ("text", .str (Tr.floor tr).txt), ("depth", .int ((tr.dep + 1 : Nat) : Int))] J3 := F3
    obtain ⟨pl, lkl, tl4⟩ := cm.looks
    obtain ⟨pg, lkg, tg4⟩ := cm.grids
    dsimp only [tSeq]
    refine fld_v T hi (y := .ref pl) (fun Q q => ⟨_, rfl, c, _, dc, fc, _, rfl, (kp_init nw F3.but).ins _ _ _ _ _ hc cm.text, T.cl _ tr.ci_lt, T.na _ tr.ci_lt _ (by decide +kernel), lkl, q⟩) F3 rfl (by decide +kernel) (by show 3 < 1000; decide) fun J4 j4 F4 => ?_
    replace F4 : Fill Cs H 2 o dx [("time", .ref c), ("text", .str (Tr.floor tr).txt), ("depth", .int ((tr.dep + 1 : Nat) : Int)), ("looks", .ref pl)] J4 := F4
    dsimp only [tSeq]
    obtain ⟨as, zs, ga, gt, gs, gl⟩ := id tg4
    have h16 := hgt16 ok dp
    have gl2 := tr.gds_len
    have k4 := kp_init nw F4.but
    have la := gt.len
    refine fld_go T hi (dx := dx) (H0 := H) (fun y H' => ∃ p, y = .ref p ∧ Same J4 H' ∧ TxT Cs 2 4 H' p ((Tr.floor tr).txt :: zs)) (fun Q q => ⟨_, rfl, _, rfl, c, _, dc, fc, _, rfl, (kp_init nw F4.but).ins _ _ _ _ _ hc cm.text, T.cl _ tr.ci_lt, T.na _ tr.ci_lt _ (by decide +kernel), lkg, pg, as.map V.ref, rfl, .inl (SqT.of (k4.tup _ _ ga)), (by rw [List.length_map]; omega), fun l nl => ⟨l, o :: as, (Tr.floor tr).txt :: zs, rfl, upd_same, .cons ⟨2, dx, _, by decide, by decide, (same_put nl) _ _ F4.at_, rfl⟩ (gt.kp (k4.trans (same_put nl).kp)), by decide, (by show zs.length + 1 ≤ 30; omega), fun p H' s' t' => q _ _ ⟨p, rfl, (same_put nl).trans s', t'⟩⟩⟩) rfl (by decide +kernel) ?_
    rintro y1 J5 ⟨p1, rfl, s5, t5⟩
    refine ⟨_, F4.same s5, (by show 4 < 1000; decide), fun J6 j6 F6 => ?_⟩
    replace F6 : Fill Cs H 2 o dx [("time", .ref c), ("text", .str (Tr.floor tr).txt), ("depth", .int ((tr.dep + 1 : Nat) : Int)), ("looks", .ref pl), ("grid_times", .ref p1)] J6 := F6
    have x6 : Kx J5 J6 := by rw [j6]; exact kx_put (z := (Tr.floor tr).txt) (s5 _ _ F4.at_) rfl rfl
    have k6 := kp_init nw F6.but
    obtain ⟨as2, zs2, ga2, gt2, gs2, gl3⟩ := t5.kx x6
    exact fin J6 F6.but ⟨dx, _, c, F6.at_, ⟨rfl, rfl, ⟨pl, rfl, tl4.kp k6⟩, ⟨p1, rfl, as2, zs2, ga2, gt2, gs2.of (fun z => by
      show z ∈ (Tr.floor tr).txt :: zs ↔ z ∈ (Tr.floor tr).txt :: tr.gds
      rw [List.mem_cons, List.mem_cons, gs.mem]), Nat.le_trans gl3 (Nat.succ_le_succ gl)⟩, rfl, rfl⟩, rfl, th.kp k6⟩

abbrev sCeil : Stmt := top 35
abbrev sCeilI : Stmt := inClass (top 35) 0
theorem scCeilI : FnScope ["self", "time"] ["self", "time"] (defScope sCeilI) := ⟨rfl, rfl, rfl, by decide +kernel, rfl, by decide +kernel, by decide +kernel⟩

theorem i_ceil (T : TmK K Cs CT CL) (D : Di K mg "Ceil" (Cs 3) sCeilI) (cCT : Cl P w K mg base (L2N.CX P w) 1 "check_reader_time" ["value"] (spCkCls K CT e.time)) (cO : Cl P w K mg base CX0 1 "in_order" ["things"] (spInOrder Cs 2 4))
    (cCD : Cl P w K mg base (L2N.CX P w) 1 "_check_depth" ["depth"] (spCkDepth e.many)) : Ni P w K mg base (L2N.CX P w) 2 "Ceil" (Cs 3) ["self", "time"] (spFloorI K Cs CT e 3 Tr.ceil) := by
  refine D.niN scCeilI (fun _ _ _ _ _ _ us hl => match us, hl with | [_, _], _ => rfl) (fun vs H Q E h => ?_) (fun f cdv A outer s H vs Q E hr h => ?_)
  · obtain ⟨o, t, bt, rfl, _⟩ := h
    rfl
  · obtain ⟨o, t, bt, rfl, nw, ct, e1, up⟩ := h
    obtain ⟨dx, ho⟩ := id nw
    have hi : 3 < 7 := by decide
    have F0 : Fill Cs H 3 o dx [] H := ⟨But.refl _ _, ho⟩
    refine ⟨_, (pss_cons (ps_expr (pe_c cCT (hr.mono (by decide)) rfl passesN (pa_cons (pv 1) pa_nil)))
      (pss_cons (ps_expr (pe_c cCD (hr.mono (by decide)) rfl passesN (pa_cons (pe_op op_add (pe_fld (pv 1) rfl) pe_int) pa_nil)))
      (pss_cons (ps_fld (pv 0) (pv 1) rfl)
      (pss_cons (ps_fld (pv 0) (pe_joined (.cons pe_str (.cons (pe_fmt (pe_fld (pv 1) rfl)) (.cons pe_str .nil)))) rfl)
      (pss_cons (ps_fld (pv 0) (pe_op op_add (pe_fld (pv 1) rfl) pe_int) rfl)
      (pss_cons (ps_fld (pv 0) (pe_fld (pv 1) rfl) rfl)
      (pss_one (ps_fld (pv 0) (pe_c cO (hr.mono (by decide)) rfl pass0 (pa_cons (pe_lstES (pv 0) (pe_fld (pv 1) rfl)) pa_nil)) rfl)))))))), ?_⟩
    refine ⟨_, rfl, t, bt, rfl, ct, fun eb => ?_, fun eb => e1 eb⟩
    obtain ⟨c, tr, rfl, th, lk, ok, dp, e3, fin⟩ := up eb
    obtain ⟨dc, fc, hc, cm⟩ := th.node
    refine ⟨_, rfl, c, _, dc, fc, _, rfl, hc, T.cl _ tr.ci_lt, T.na _ tr.ci_lt _ (by decide +kernel), cm.depth, _, _, rfl, rfl, tr.dep + 1, rfl, fun le => ?_, fun gt => e3 gt⟩
    have fin := fin le
    have tl := Tr.txt_le ok dp
    have b60 : (100000 : Nat) ≤ sizeLine := by decide
    have e0 : Str.empty.length = 0 := by decide
    have l1 : (Str.ofString "ceil(").length = 5 := by decide
    have l3 : (Str.ofString ")").length = 1 := by decide
    dsimp only [tSeq]
    refine fld_v T hi (y := .ref c) (fun Q q => ⟨_, rfl, q⟩) F0 rfl (by decide +kernel) (by decide) fun J1 j1 F1 => ?_
    replace F1 : Fill Cs H 3 o dx [("time", .ref c)] J1 := F1
    dsimp only [tSeq]
    refine fld_v T hi (y := .str (Tr.ceil tr).txt) (fun Q q => by
      rw [← tx_ceil] at q
      exact ⟨_, rfl, (by decide), _, rfl, c, _, dc, fc, _, rfl, (kp_init nw F1.but).ins _ _ _ _ _ hc cm.text, T.cl _ tr.ci_lt, T.na _ tr.ci_lt _ (by decide +kernel), cm.text, .inl ⟨_, rfl, by omega, _, rfl, (by simp only [app_len]; omega), _, rfl, (by simp only [app_len]; omega), q⟩⟩) F1 rfl (by decide +kernel) (by show 1 < 1000; decide) fun J2 j2 F2 => ?_
    replace F2 : Fill Cs H 3 o dx [("time", .ref c), ("text", .str (Tr.ceil tr).txt)] J2 := F2
    dsimp only [tSeq]
    refine fld_v T hi (y := .int ((tr.dep + 1 : Nat) : Int)) (fun Q q => ⟨_, rfl, c, _, dc, fc, _, rfl, (kp_init nw F2.but).ins _ _ _ _ _ hc cm.text, T.cl _ tr.ci_lt, T.na _ tr.ci_lt _ (by decide +kernel), cm.depth, _, _, rfl, rfl, q⟩) F2 rfl (by decide +kernel) (by show 2 < 1000; decide) fun J3 j3 F3 => ?_
    replace F3 : Fill Cs H 3 o dx [("time", .ref c), ("text", .str (Tr.ceil tr).txt), ("depth", .int ((tr.dep + 1 : Nat) : Int))] J3 := F3
    obtain ⟨pl, lkl, tl4⟩ := cm.looks
    obtain ⟨pg, lkg, tg4⟩ := cm.grids
    dsimp only [tSeq]
    refine fld_v T hi (y := .ref pl) (fun Q q => ⟨_, rfl, c, _, dc, fc, _, rfl, (kp_init nw F3.but).ins _ _ _ _ _ hc cm.text, T.cl _ tr.ci_lt, T.na _ tr.ci_lt _ (by decide +kernel), lkl, q⟩) F3 rfl (by decide +kernel) (by show 3 < 1000; decide) fun J4 j4 F4 => ?_
    replace F4 : Fill Cs H 3 o dx [("time", .ref c), ("text", .str (Tr.ceil tr).txt), ("depth", .int ((tr.dep + 1 : Nat) : Int)), ("looks", .ref pl)] J4 := F4
    dsimp only [tSeq]
    obtain ⟨as, zs, ga, gt, gs, gl⟩ := id tg4
    have h16 := hgt16 ok dp
    have gl2 := tr.gds_len
    have k4 := kp_init nw F4.but
    have la := gt.len
    refine fld_go T hi (dx := dx) (H0 := H) (fun y H' => ∃ p, y = .ref p ∧ Same J4 H' ∧ TxT Cs 2 4 H' p ((Tr.ceil tr).txt :: zs)) (fun Q q => ⟨_, rfl, _, rfl, c, _, dc, fc, _, rfl, (kp_init nw F4.but).ins _ _ _ _ _ hc cm.text, T.cl _ tr.ci_lt, T.na _ tr.ci_lt _ (by decide +kernel), lkg, pg, as.map V.ref, rfl, .inl (SqT.of (k4.tup _ _ ga)), (by rw [List.length_map]; omega), fun l nl => ⟨l, o :: as, (Tr.ceil tr).txt :: zs, rfl, upd_same, .cons ⟨3, dx, _, by decide, by decide, (same_put nl) _ _ F4.at_, rfl⟩ (gt.kp (k4.trans (same_put nl).kp)), by decide, (by show zs.length + 1 ≤ 30; omega), fun p H' s' t' => q _ _ ⟨p, rfl, (same_put nl).trans s', t'⟩⟩⟩) rfl (by decide +kernel) ?_
    rintro y1 J5 ⟨p1, rfl, s5, t5⟩
    refine ⟨_, F4.same s5, (by show 4 < 1000; decide), fun J6 j6 F6 => ?_⟩
    replace F6 : Fill Cs H 3 o dx [("time", .ref c), ("text", .str (Tr.ceil tr).txt), ("depth", .int ((tr.dep + 1 : Nat) : Int)), ("looks", .ref pl), ("grid_times", .ref p1)] J6 := F6
    have x6 : Kx J5 J6 := by rw [j6]; exact kx_put (z := (Tr.ceil tr).txt) (s5 _ _ F4.at_) rfl rfl
    have k6 := kp_init nw F6.but
    obtain ⟨as2, zs2, ga2, gt2, gs2, gl3⟩ := t5.kx x6
    exact fin J6 F6.but ⟨dx, _, c, F6.at_, ⟨rfl, rfl, ⟨pl, rfl, tl4.kp k6⟩, ⟨p1, rfl, as2, zs2, ga2, gt2, gs2.of (fun z => by
      show z ∈ (Tr.ceil tr).txt :: zs ↔ z ∈ (Tr.ceil tr).txt :: tr.gds
      rw [List.mem_cons, List.mem_cons, gs.mem]), Nat.le_trans gl3 (Nat.succ_le_succ gl)⟩, rfl, rfl⟩, rfl, th.kp k6⟩

abbrev sRowTime : Stmt := top 36
abbrev sRowTimeI : Stmt := inClass (top 36) 0
theorem scRowTimeI : FnScope ["self", "look"] ["self", "look"] (defScope sRowTimeI) := ⟨rfl, rfl, rfl, by decide +kernel, rfl, by decide +kernel, by decide +kernel⟩

theorem i_row (T : TmK K Cs CT CL) (D : Di K mg "RowTime" (Cs 4) sRowTimeI) (cCL : Cl P w K mg base (L2N.CX P w) 1 "check_look" ["value"] (spCkCls K CL e.look))
    (cCD : Cl P w K mg base (L2N.CX P w) 1 "_check_depth" ["depth"] (spCkDepth e.many)) : Ni P w K mg base (L2N.CX P w) 2 "RowTime" (Cs 4) ["self", "look"] (spRowI K Cs CL e) := by
  refine D.niN scRowTimeI (fun _ _ _ _ _ _ us hl => match us, hl with | [_, _], _ => rfl) (fun vs H Q E h => ?_) (fun f cdv A outer s H vs Q E hr h => ?_)
  · obtain ⟨o, t, bt, rfl, _⟩ := h
    rfl
  · obtain ⟨o, t, bt, rfl, nw, ct, e1, up⟩ := h
    obtain ⟨dx, ho⟩ := id nw
    have hi : 4 < 7 := by decide
    have F0 : Fill Cs H 4 o dx [] H := ⟨But.refl _ _, ho⟩
    refine ⟨_, (pss_cons (ps_expr (pe_c cCL (hr.mono (by decide)) rfl passesN (pa_cons (pv 1) pa_nil)))
      (pss_cons (ps_expr (pe_c cCD (hr.mono (by decide)) rfl passesN (pa_cons (pe_op op_add (pe_fld (pv 1) rfl) pe_int) pa_nil)))
      (pss_cons (ps_fld (pv 0) (pv 1) rfl)
      (pss_cons (ps_fld (pv 0) (pe_joined (.cons pe_str (.cons (pe_fmt (pe_fld (pv 1) rfl)) (.cons pe_str .nil)))) rfl)
      (pss_cons (ps_fld (pv 0) (pe_op op_add (pe_fld (pv 1) rfl) pe_int) rfl)
      (pss_cons (ps_fld (pv 0) (pe_fld (pv 1) rfl) rfl)
      (pss_one (ps_fld (pv 0) (pe_fld (pv 1) rfl) rfl)))))))), ?_⟩
    refine ⟨_, rfl, t, bt, rfl, ct, fun eb => ?_, fun eb => e1 eb⟩
    obtain ⟨c, tr, rfl, th, lk, ok, dp, e3, fin⟩ := up eb
    obtain ⟨dc, fc, hc, cm⟩ := th.node
    refine ⟨_, rfl, c, _, dc, fc, _, rfl, hc, T.cl _ tr.ci_lt, T.na _ tr.ci_lt _ (by decide +kernel), cm.depth, _, _, rfl, rfl, tr.dep + 1, rfl, fun le => ?_, fun gt => e3 gt⟩
    have fin := fin le
    have tl := Tr.txt_le ok dp
    have b60 : (100000 : Nat) ≤ sizeLine := by decide
    have e0 : Str.empty.length = 0 := by decide
    have l1 : (Str.ofString "time(").length = 5 := by decide
    have l3 : (Str.ofString ")").length = 1 := by decide
    dsimp only [tSeq]
    refine fld_v T hi (y := .ref c) (fun Q q => ⟨_, rfl, q⟩) F0 rfl (by decide +kernel) (by decide) fun J1 j1 F1 => ?_
    replace F1 : Fill Cs H 4 o dx [("look", .ref c)] J1 := F1
    dsimp only [tSeq]
    refine fld_v T hi (y := .str (Tr.row tr).txt) (fun Q q => by
      rw [← tx_row] at q
      exact ⟨_, rfl, (by decide), _, rfl, c, _, dc, fc, _, rfl, (kp_init nw F1.but).ins _ _ _ _ _ hc cm.text, T.cl _ tr.ci_lt, T.na _ tr.ci_lt _ (by decide +kernel), cm.text, .inl ⟨_, rfl, by omega, _, rfl, (by simp only [app_len]; omega), _, rfl, (by simp only [app_len]; omega), q⟩⟩) F1 rfl (by decide +kernel) (by show 1 < 1000; decide) fun J2 j2 F2 => ?_
    replace F2 : Fill Cs H 4 o dx [("look", .ref c), ("text", .str (Tr.row tr).txt)] J2 := F2
    dsimp only [tSeq]
    refine fld_v T hi (y := .int ((tr.dep + 1 : Nat) : Int)) (fun Q q => ⟨_, rfl, c, _, dc, fc, _, rfl, (kp_init nw F2.but).ins _ _ _ _ _ hc cm.text, T.cl _ tr.ci_lt, T.na _ tr.ci_lt _ (by decide +kernel), cm.depth, _, _, rfl, rfl, q⟩) F2 rfl (by decide +kernel) (by show 2 < 1000; decide) fun J3 j3 F3 => ?_
    replace F3 : Fill Cs H 4 o dx [("look", .ref c), ("text", .str (Tr.row tr).txt), ("depth", .int ((tr.dep + 1 : Nat) : Int))] J3 := F3
    obtain ⟨pl, lkl, tl4⟩ := cm.looks
    obtain ⟨pg, lkg, tg4⟩ := cm.grids
    dsimp only [tSeq]
    refine fld_v T hi (y := .ref pl) (fun Q q => ⟨_, rfl, c, _, dc, fc, _, rfl, (kp_init nw F3.but).ins _ _ _ _ _ hc cm.text, T.cl _ tr.ci_lt, T.na _ tr.ci_lt _ (by decide +kernel), lkl, q⟩) F3 rfl (by decide +kernel) (by show 3 < 1000; decide) fun J4 j4 F4 => ?_
    replace F4 : Fill Cs H 4 o dx [("look", .ref c), ("text", .str (Tr.row tr).txt), ("depth", .int ((tr.dep + 1 : Nat) : Int)), ("looks", .ref pl)] J4 := F4
    dsimp only [tSeq]
    refine fld_v T hi (y := .ref pg) (fun Q q => ⟨_, rfl, c, _, dc, fc, _, rfl, (kp_init nw F4.but).ins _ _ _ _ _ hc cm.text, T.cl _ tr.ci_lt, T.na _ tr.ci_lt _ (by decide +kernel), lkg, q⟩) F4 rfl (by decide +kernel) (by show 4 < 1000; decide) fun J5 j5 F5 => ?_
    replace F5 : Fill Cs H 4 o dx [("look", .ref c), ("text", .str (Tr.row tr).txt), ("depth", .int ((tr.dep + 1 : Nat) : Int)), ("looks", .ref pl), ("grid_times", .ref pg)] J5 := F5
    have k6 := kp_init nw F5.but
    exact fin J5 F5.but ⟨dx, _, c, F5.at_, ⟨rfl, rfl, ⟨pl, rfl, tl4.kp k6⟩, ⟨pg, rfl, tg4.kp k6⟩, rfl, rfl⟩, rfl, th.kp k6⟩
end
end K04


namespace K04
open PySem PySem.Spec PyProof.Rows L2 Rng Bag Gd Cal Tm Tr4 Own1
section
variable {P : Program} {w : World} {K : PySem.W.Frag} {mg : Str → Option Value} {base : Heap} {Cs : Nat → Addr} {CT CL : Addr} {e : Ers}

abbrev sBefore : Stmt := top 37
abbrev sBeforeI : Stmt := inClass (top 37) 0
theorem scBeforeI : FnScope ["self", "feed", "time", "within", "strict"] ["self", "feed", "time", "within", "strict"] (defScope sBeforeI) := ⟨rfl, rfl, rfl, by decide +kernel, rfl, by decide +kernel, by decide +kernel⟩

theorem i_before {fI : Addr} {fd : FuncData} (T : TmK K Cs CT CL) (F : Fun K "__init__" "Before.__init__" sBeforeI fI fd) (cP : Cl P w K mg base (L2N.CX P w) 4 "_check_look_parts" ["feed", "time", "within", "strict"] (spCkParts K CT e))
    (cLT : Cl P w K mg base CX0 2 "_look_text" ["word", "feed", "time", "within", "strict"] (spLkText Cs)) (cO : Cl P w K mg base CX0 1 "in_order" ["things"] (spInOrder Cs 5 7)) : FnOk P w K mg base (L2N.CX P w) 5 fI fd ["self", "feed", "time", "within", "strict"] (spLookI K Cs CT e false) := by
  refine F.okN scBeforeI (fun vs H Q E h => ?_) (fun cdv A outer s H vs Q E hr h => ?_)
  · obtain ⟨o, f, t, w, s, rfl, _⟩ := h
    rfl
  · obtain ⟨o, f, t, w, s, rfl, nw, ⟨bf, bt, ow, nf, tt, ww, q1, q2, q3, q4, q5⟩⟩ := h
    replace nw : NewAt Cs H 5 o := nw
    obtain ⟨dx, ho⟩ := id nw
    have hi : 5 < 7 := by decide
    refine ⟨_, (pss_cons (ps_expr (pe_c cP (hr.mono (by decide)) rfl passesN (pa_cons (pv 1) (pa_cons (pv 2) (pa_cons (pv 3) (pa_cons (pv 4) pa_nil))))))
      (pss_cons (ps_fld (pv 0) (pv 1) rfl)
      (pss_cons (ps_fld (pv 0) (pv 2) rfl)
      (pss_cons (ps_fld (pv 0) (pv 3) rfl)
      (pss_cons (ps_fld (pv 0) (pv 4) rfl)
      (pss_cons (ps_fld (pv 0) (pe_c cLT (hr.mono (by decide)) rfl pass0 (pa_cons pe_str (pa_cons (pv 1) (pa_cons (pv 2) (pa_cons (pv 3) (pa_cons (pv 4) pa_nil)))))) rfl)
      (pss_cons (ps_fld (pv 0) (pe_fld (pv 2) rfl) rfl)
      (pss_cons (ps_fld (pv 0) (pe_c cO (hr.mono (by decide)) rfl pass0 (pa_cons (pe_lstES (pv 0) (pe_fld (pv 2) rfl)) pa_nil)) rfl)
      (pss_one (ps_fld (pv 0) (pe_fld (pv 2) rfl) rfl)))))))))), ?_⟩
    refine ⟨_, rfl, _, rfl, _, rfl, _, rfl, f, t, w, s, rfl, ⟨bf, bt, ow, nf, tt, ww, q1, q2, q3, q4, fun a1 a2 a3 a4 H1 s1 => ?_⟩⟩
    obtain ⟨f', c, tr, w', s', rfl, rfl, rfl, rfl, th, ok, dp, fin⟩ := q5 a1 a2 a3 a4
    obtain ⟨dc, fc, hc, cm⟩ := th.node
    have b60 : (100000 : Nat) ≤ sizeLine := by decide
    have F0 : Fill Cs H 5 o dx [] H1 := ⟨fun _ _ _ e => s1 _ _ e, s1 _ _ ho⟩
    dsimp only [tSeq]
    refine fld_v T hi (y := .str f') (fun Q q => ⟨_, rfl, q⟩) F0 rfl (by decide +kernel) (by decide) fun J1 j1 F1 => ?_
    replace F1 : Fill Cs H 5 o dx [("feed", .str f')] J1 := F1
    dsimp only [tSeq]
    refine fld_v T hi (y := .ref c) (fun Q q => ⟨_, rfl, q⟩) F1 rfl (by decide +kernel) (by show 1 < 1000; decide) fun J2 j2 F2 => ?_
    replace F2 : Fill Cs H 5 o dx [("feed", .str f'), ("time", .ref c)] J2 := F2
    dsimp only [tSeq]
    refine fld_v T hi (y := wV w') (fun Q q => ⟨_, rfl, q⟩) F2 rfl (by decide +kernel) (by show 2 < 1000; decide) fun J3 j3 F3 => ?_
    replace F3 : Fill Cs H 5 o dx [("feed", .str f'), ("time", .ref c), ("within", wV w')] J3 := F3
    dsimp only [tSeq]
    refine fld_v T hi (y := .bl s') (fun Q q => ⟨_, rfl, q⟩) F3 rfl (by decide +kernel) (by show 3 < 1000; decide) fun J4 j4 F4 => ?_
    replace F4 : Fill Cs H 5 o dx [("feed", .str f'), ("time", .ref c), ("within", wV w'), ("strict", .bl s')] J4 := F4
    dsimp only [tSeq]
    refine fld_go T hi (dx := dx) (H0 := H) (fun y H' => y = .str (Tr.look false f' tr w' s').txt ∧ Same J4 H') (fun Q q => ⟨_, rfl, _, rfl, _, rfl, _, rfl, false, f', c, tr, w', s', rfl, th.kp (kp_init nw F4.but), ok, dp, fun H' s' => q _ _ ⟨rfl, s'⟩⟩) rfl (by decide +kernel) ?_
    rintro y1 J5 ⟨rfl, s5⟩
    refine ⟨_, F4.same s5, (by show 4 < 1000; decide), fun J6 j6 F6 => ?_⟩
    replace F6 : Fill Cs H 5 o dx [("feed", .str f'), ("time", .ref c), ("within", wV w'), ("strict", .bl s'), ("text", .str (Tr.look false f' tr w' s').txt)] J6 := F6
    have k6 := kp_init nw F6.but
    dsimp only [tSeq]
    refine fld_v T hi (y := .int (tr.dep : Int)) (fun Q q => ⟨_, rfl, c, _, dc, fc, _, rfl, k6.ins _ _ _ _ _ hc cm.text, T.cl _ tr.ci_lt, T.na _ tr.ci_lt _ (by decide +kernel), cm.depth, q⟩) F6 rfl (by decide +kernel) (by show 5 < 1000; decide) fun J7 j7 F7 => ?_
    replace F7 : Fill Cs H 5 o dx [("feed", .str f'), ("time", .ref c), ("within", wV w'), ("strict", .bl s'), ("text", .str (Tr.look false f' tr w' s').txt), ("depth", .int (tr.dep : Int))] J7 := F7
    obtain ⟨pl, lkl, tl4⟩ := cm.looks
    obtain ⟨pg, lkg, tg4⟩ := cm.grids
    obtain ⟨as, zs, ga, gt, gs, gl⟩ := id tl4
    have h16 := hgt16 ok.2.2.1 dp
    have gl2 := tr.lks_len
    have k7 := kp_init nw F7.but
    have la := gt.len
    dsimp only [tSeq]
    refine fld_go T hi (dx := dx) (H0 := H) (fun y H' => ∃ p, y = .ref p ∧ Same J7 H' ∧ TxT Cs 5 7 H' p ((Tr.look false f' tr w' s').txt :: zs)) (fun Q q => ⟨_, rfl, _, rfl, c, _, dc, fc, _, rfl, k7.ins _ _ _ _ _ hc cm.text, T.cl _ tr.ci_lt, T.na _ tr.ci_lt _ (by decide +kernel), lkl, pl, as.map V.ref, rfl, .inl (SqT.of (k7.tup _ _ ga)), (by rw [List.length_map]; omega), fun l nl => ⟨l, o :: as, (Tr.look false f' tr w' s').txt :: zs, rfl, upd_same, .cons ⟨5, dx, _, by decide, by decide, (same_put nl) _ _ F7.at_, rfl⟩ (gt.kp (k7.trans (same_put nl).kp)), by decide, (by show zs.length + 1 ≤ 30; omega), fun p H' s' t' => q _ _ ⟨p, rfl, (same_put nl).trans s', t'⟩⟩⟩) rfl (by decide +kernel) ?_
    rintro y1 J8 ⟨p1, rfl, s8, t8⟩
    refine ⟨_, F7.same s8, (by show 6 < 1000; decide), fun J9 j9 F9 => ?_⟩
    replace F9 : Fill Cs H 5 o dx [("feed", .str f'), ("time", .ref c), ("within", wV w'), ("strict", .bl s'), ("text", .str (Tr.look false f' tr w' s').txt), ("depth", .int (tr.dep : Int)), ("looks", .ref p1)] J9 := F9
    have x9 : Kx J8 J9 := by rw [j9]; exact kx_put (z := (Tr.look false f' tr w' s').txt) (s8 _ _ F7.at_) rfl rfl
    have t9 := t8.kx x9
    have k9 := kp_init nw F9.but
    dsimp only [tSeq]
    refine fld_v T hi (y := .ref pg) (fun Q q => ⟨_, rfl, c, _, dc, fc, _, rfl, k9.ins _ _ _ _ _ hc cm.text, T.cl _ tr.ci_lt, T.na _ tr.ci_lt _ (by decide +kernel), lkg, q⟩) F9 rfl (by decide +kernel) (by show 7 < 1000; decide) fun Ja ja Fa => ?_
    replace Fa : Fill Cs H 5 o dx [("feed", .str f'), ("time", .ref c), ("within", wV w'), ("strict", .bl s'), ("text", .str (Tr.look false f' tr w' s').txt), ("depth", .int (tr.dep : Int)), ("looks", .ref p1), ("grid_times", .ref pg)] Ja := Fa
    have xa : Kx J9 Ja := by rw [ja]; exact kx_put (z := (Tr.look false f' tr w' s').txt) F9.at_ rfl rfl
    have ka := kp_init nw Fa.but
    obtain ⟨as2, zs2, ga2, gt2, gs2, gl3⟩ := t9.kx xa
    exact fin Ja Fa.but ⟨dx, _, c, Fa.at_, ⟨rfl, rfl, ⟨p1, rfl, as2, zs2, ga2, gt2, gs2.of (fun z => by
      show z ∈ (Tr.look false f' tr w' s').txt :: zs ↔ z ∈ (Tr.look false f' tr w' s').txt :: tr.lks
      rw [List.mem_cons, List.mem_cons, gs.mem]), Nat.le_trans gl3 (Nat.succ_le_succ gl)⟩, ⟨pg, rfl, tg4.kp ka⟩, rfl, rfl⟩, rfl, rfl, rfl, rfl, th.kp ka⟩

abbrev sAfter : Stmt := top 38
abbrev sAfterI : Stmt := inClass (top 38) 0
theorem scAfterI : FnScope ["self", "feed", "time", "within", "strict"] ["self", "feed", "time", "within", "strict"] (defScope sAfterI) := ⟨rfl, rfl, rfl, by decide +kernel, rfl, by decide +kernel, by decide +kernel⟩

theorem i_after {fI : Addr} {fd : FuncData} (T : TmK K Cs CT CL) (F : Fun K "__init__" "After.__init__" sAfterI fI fd) (cP : Cl P w K mg base (L2N.CX P w) 4 "_check_look_parts" ["feed", "time", "within", "strict"] (spCkParts K CT e))
    (cLT : Cl P w K mg base CX0 2 "_look_text" ["word", "feed", "time", "within", "strict"] (spLkText Cs)) (cO : Cl P w K mg base CX0 1 "in_order" ["things"] (spInOrder Cs 5 7)) : FnOk P w K mg base (L2N.CX P w) 5 fI fd ["self", "feed", "time", "within", "strict"] (spLookI K Cs CT e true) := by
  refine F.okN scAfterI (fun vs H Q E h => ?_) (fun cdv A outer s H vs Q E hr h => ?_)
  · obtain ⟨o, f, t, w, s, rfl, _⟩ := h
    rfl
  · obtain ⟨o, f, t, w, s, rfl, nw, ⟨bf, bt, ow, nf, tt, ww, q1, q2, q3, q4, q5⟩⟩ := h
    replace nw : NewAt Cs H 6 o := nw
    obtain ⟨dx, ho⟩ := id nw
    have hi : 6 < 7 := by decide
    refine ⟨_, (pss_cons (ps_expr (pe_c cP (hr.mono (by decide)) rfl passesN (pa_cons (pv 1) (pa_cons (pv 2) (pa_cons (pv 3) (pa_cons (pv 4) pa_nil))))))
      (pss_cons (ps_fld (pv 0) (pv 1) rfl)
      (pss_cons (ps_fld (pv 0) (pv 2) rfl)
      (pss_cons (ps_fld (pv 0) (pv 3) rfl)
      (pss_cons (ps_fld (pv 0) (pv 4) rfl)
      (pss_cons (ps_fld (pv 0) (pe_c cLT (hr.mono (by decide)) rfl pass0 (pa_cons pe_str (pa_cons (pv 1) (pa_cons (pv 2) (pa_cons (pv 3) (pa_cons (pv 4) pa_nil)))))) rfl)
      (pss_cons (ps_fld (pv 0) (pe_fld (pv 2) rfl) rfl)
      (pss_cons (ps_fld (pv 0) (pe_c cO (hr.mono (by decide)) rfl pass0 (pa_cons (pe_lstES (pv 0) (pe_fld (pv 2) rfl)) pa_nil)) rfl)
      (pss_one (ps_fld (pv 0) (pe_fld (pv 2) rfl) rfl)))))))))), ?_⟩
    refine ⟨_, rfl, _, rfl, _, rfl, _, rfl, f, t, w, s, rfl, ⟨bf, bt, ow, nf, tt, ww, q1, q2, q3, q4, fun a1 a2 a3 a4 H1 s1 => ?_⟩⟩
    obtain ⟨f', c, tr, w', s', rfl, rfl, rfl, rfl, th, ok, dp, fin⟩ := q5 a1 a2 a3 a4
    obtain ⟨dc, fc, hc, cm⟩ := th.node
    have b60 : (100000 : Nat) ≤ sizeLine := by decide
    have F0 : Fill Cs H 6 o dx [] H1 := ⟨fun _ _ _ e => s1 _ _ e, s1 _ _ ho⟩
    dsimp only [tSeq]
    refine fld_v T hi (y := .str f') (fun Q q => ⟨_, rfl, q⟩) F0 rfl (by decide +kernel) (by decide) fun J1 j1 F1 => ?_
    replace F1 : Fill Cs H 6 o dx [("feed", .str f')] J1 := F1
    dsimp only [tSeq]
    refine fld_v T hi (y := .ref c) (fun Q q => ⟨_, rfl, q⟩) F1 rfl (by decide +kernel) (by show 1 < 1000; decide) fun J2 j2 F2 => ?_
    replace F2 : Fill Cs H 6 o dx [("feed", .str f'), ("time", .ref c)] J2 := F2
    dsimp only [tSeq]
    refine fld_v T hi (y := wV w') (fun Q q => ⟨_, rfl, q⟩) F2 rfl (by decide +kernel) (by show 2 < 1000; decide) fun J3 j3 F3 => ?_
    replace F3 : Fill Cs H 6 o dx [("feed", .str f'), ("time", .ref c), ("within", wV w')] J3 := F3
    dsimp only [tSeq]
    refine fld_v T hi (y := .bl s') (fun Q q => ⟨_, rfl, q⟩) F3 rfl (by decide +kernel) (by show 3 < 1000; decide) fun J4 j4 F4 => ?_
    replace F4 : Fill Cs H 6 o dx [("feed", .str f'), ("time", .ref c), ("within", wV w'), ("strict", .bl s')] J4 := F4
    dsimp only [tSeq]
    refine fld_go T hi (dx := dx) (H0 := H) (fun y H' => y = .str (Tr.look true f' tr w' s').txt ∧ Same J4 H') (fun Q q => ⟨_, rfl, _, rfl, _, rfl, _, rfl, true, f', c, tr, w', s', rfl, th.kp (kp_init nw F4.but), ok, dp, fun H' s' => q _ _ ⟨rfl, s'⟩⟩) rfl (by decide +kernel) ?_
    rintro y1 J5 ⟨rfl, s5⟩
    refine ⟨_, F4.same s5, (by show 4 < 1000; decide), fun J6 j6 F6 => ?_⟩
    replace F6 : Fill Cs H 6 o dx [("feed", .str f'), ("time", .ref c), ("within", wV w'), ("strict", .bl s'), ("text", .str (Tr.look true f' tr w' s').txt)] J6 := F6
    have k6 := kp_init nw F6.but
    dsimp only [tSeq]
    refine fld_v T hi (y := .int (tr.dep : Int)) (fun Q q => ⟨_, rfl, c, _, dc, fc, _, rfl, k6.ins _ _ _ _ _ hc cm.text, T.cl _ tr.ci_lt, T.na _ tr.ci_lt _ (by decide +kernel), cm.depth, q⟩) F6 rfl (by decide +kernel) (by show 5 < 1000; decide) fun J7 j7 F7 => ?_
    replace F7 : Fill Cs H 6 o dx [("feed", .str f'), ("time", .ref c), ("within", wV w'), ("strict", .bl s'), ("text", .str (Tr.look true f' tr w' s').txt), ("depth", .int (tr.dep : Int))] J7 := F7
    obtain ⟨pl, lkl, tl4⟩ := cm.looks
    obtain ⟨pg, lkg, tg4⟩ := cm.grids
    obtain ⟨as, zs, ga, gt, gs, gl⟩ := id tl4
    have h16 := hgt16 ok.2.2.1 dp
    have gl2 := tr.lks_len
    have k7 := kp_init nw F7.but
    have la := gt.len
    dsimp only [tSeq]
    refine fld_go T hi (dx := dx) (H0 := H) (fun y H' => ∃ p, y = .ref p ∧ Same J7 H' ∧ TxT Cs 5 7 H' p ((Tr.look true f' tr w' s').txt :: zs)) (fun Q q => ⟨_, rfl, _, rfl, c, _, dc, fc, _, rfl, k7.ins _ _ _ _ _ hc cm.text, T.cl _ tr.ci_lt, T.na _ tr.ci_lt _ (by decide +kernel), lkl, pl, as.map V.ref, rfl, .inl (SqT.of (k7.tup _ _ ga)), (by rw [List.length_map]; omega), fun l nl => ⟨l, o :: as, (Tr.look true f' tr w' s').txt :: zs, rfl, upd_same, .cons ⟨6, dx, _, by decide, by decide, (same_put nl) _ _ F7.at_, rfl⟩ (gt.kp (k7.trans (same_put nl).kp)), by decide, (by show zs.length + 1 ≤ 30; omega), fun p H' s' t' => q _ _ ⟨p, rfl, (same_put nl).trans s', t'⟩⟩⟩) rfl (by decide +kernel) ?_
    rintro y1 J8 ⟨p1, rfl, s8, t8⟩
    refine ⟨_, F7.same s8, (by show 6 < 1000; decide), fun J9 j9 F9 => ?_⟩
    replace F9 : Fill Cs H 6 o dx [("feed", .str f'), ("time", .ref c), ("within", wV w'), ("strict", .bl s'), ("text", .str (Tr.look true f' tr w' s').txt), ("depth", .int (tr.dep : Int)), ("looks", .ref p1)] J9 := F9
    have x9 : Kx J8 J9 := by rw [j9]; exact kx_put (z := (Tr.look true f' tr w' s').txt) (s8 _ _ F7.at_) rfl rfl
    have t9 := t8.kx x9
    have k9 := kp_init nw F9.but
    dsimp only [tSeq]
    refine fld_v T hi (y := .ref pg) (fun Q q => ⟨_, rfl, c, _, dc, fc, _, rfl, k9.ins _ _ _ _ _ hc cm.text, T.cl _ tr.ci_lt, T.na _ tr.ci_lt _ (by decide +kernel), lkg, q⟩) F9 rfl (by decide +kernel) (by show 7 < 1000; decide) fun Ja ja Fa => ?_
    replace Fa : Fill Cs H 6 o dx [("feed", .str f'), ("time", .ref c), ("within", wV w'), ("strict", .bl s'), ("text", .str (Tr.look true f' tr w' s').txt), ("depth", .int (tr.dep : Int)), ("looks", .ref p1), ("grid_times", .ref pg)] Ja := Fa
    have xa : Kx J9 Ja := by rw [ja]; exact kx_put (z := (Tr.look true f' tr w' s').txt) F9.at_ rfl rfl
    have ka := kp_init nw Fa.but
    obtain ⟨as2, zs2, ga2, gt2, gs2, gl3⟩ := t9.kx xa
    exact fin Ja Fa.but ⟨dx, _, c, Fa.at_, ⟨rfl, rfl, ⟨p1, rfl, as2, zs2, ga2, gt2, gs2.of (fun z => by
      show z ∈ (Tr.look true f' tr w' s').txt :: zs ↔ z ∈ (Tr.look true f' tr w' s').txt :: tr.lks
      rw [List.mem_cons, List.mem_cons, gs.mem]), Nat.le_trans gl3 (Nat.succ_le_succ gl)⟩, ⟨pg, rfl, tg4.kp ka⟩, rfl, rfl⟩, rfl, rfl, rfl, rfl, th.kp ka⟩
end
end K04


/-! times and looks that are made; texts of different classes differ; ==, str, repr of any of them -/
namespace Tm
open PySem PySem.Spec PyProof.Rows L2 Rng Bag Own1 Cal
section
variable {K : PySem.W.Frag} {Cs : Nat → Addr} {CT CL : Addr} {e : Ers} {H : Hp} {Q : VK} {E : XK}
theorem laid {x dx C : Addr} (nx : H x = none) (nd : H dx = none) : Same H (upd (upd H dx (.own x)) x (.ins C dx [])) := fun c u e => by rw [upd_ne (ne_of_none e nx), upd_ne (ne_of_none e nd)]; exact e
theorem back {x dx C : Addr} {J : Hp} (nx : H x = none) (nd : H dx = none) (b : But x (upd (upd H dx (.own x)) x (.ins C dx [])) J) : Same H J := fun c u e => b c u (fun z => by rw [z, nx] at e; cases e) (laid nx nd _ _ e)
theorem now_go (q : MadeT Cs H .now Q) (x dx : Addr) (nx : H x = none) (nd : H dx = none) : spNowI Cs [.ref x] (upd (upd H dx (.own x)) x (.ins (Cs 0) dx [])) (fun v H2 => v = .non ∧ Q (.ref x) H2) E :=
  ⟨x, rfl, ⟨dx, upd_same⟩, fun H' b t => ⟨rfl, q x H' nx (back nx nd b) t⟩⟩
theorem shift_go (T : TmK K Cs CT CL) {c : Addr} {n : V} {tr : Tr} {on : Option Int} (th : ThAt Cs H tr c) (lk : tr.isLook = false) (ok : tr.ok) (dp : tr.dep ≤ 8) (sb : ShiftB K H n on) (e1 : on = none → ErrK e.number "value" n H E)
    (e2 : ∀ m, on = some m → (8 < tr.dep + 1 → ErrK e.many "limit" (.int 8) H E) ∧ (tr.dep + 1 ≤ 8 → MadeT Cs H (.shift tr m) Q)) (x dx : Addr) (nx : H x = none) (nd : H dx = none) :
    spShiftI K Cs CT e [.ref x, .ref c, n] (upd (upd H dx (.own x)) x (.ins (Cs 1) dx [])) (fun v H2 => v = .non ∧ Q (.ref x) H2) E := by
  have s1 : Same H (upd (upd H dx (.own x)) x (.ins (Cs 1) dx [])) := laid nx nd
  have cb := (th.isT T).same s1
  rw [lk] at cb
  exact ⟨x, .ref c, n, true, on, rfl, ⟨dx, upd_same⟩, cb, sb.same s1, fun z => (nomatch z), fun _ z => (e1 z).same s1, fun _ m em => ⟨c, tr, rfl, th.kp s1.kp, lk, ok, dp, fun z => ((e2 m em).1 z).same s1, fun z H' b t => ⟨rfl, (e2 m em).2 z x H' nx (back nx nd b) t⟩⟩⟩
theorem floor_go (T : TmK K Cs CT CL) {i : Nat} {mk : Tr → Tr} {c : Addr} {tr : Tr} (th : ThAt Cs H tr c) (lk : tr.isLook = false) (ok : tr.ok) (dp : tr.dep ≤ 8) (e2 : (8 < tr.dep + 1 → ErrK e.many "limit" (.int 8) H E) ∧ (tr.dep + 1 ≤ 8 → MadeT Cs H (mk tr) Q)) (x dx : Addr) (nx : H x = none) (nd : H dx = none) :
    spFloorI K Cs CT e i mk [.ref x, .ref c] (upd (upd H dx (.own x)) x (.ins (Cs i) dx [])) (fun v H2 => v = .non ∧ Q (.ref x) H2) E := by
  have s1 : Same H (upd (upd H dx (.own x)) x (.ins (Cs i) dx [])) := laid nx nd
  have cb := (th.isT T).same s1
  rw [lk] at cb
  exact ⟨x, .ref c, true, rfl, ⟨dx, upd_same⟩, cb, fun z => (nomatch z), fun _ => ⟨c, tr, rfl, th.kp s1.kp, lk, ok, dp, fun z => (e2.1 z).same s1, fun z H' b t => ⟨rfl, e2.2 z x H' nx (back nx nd b) t⟩⟩⟩
theorem row_go (T : TmK K Cs CT CL) {c : Addr} {tr : Tr} (th : ThAt Cs H tr c) (lk : tr.isLook = true) (ok : tr.ok) (dp : tr.dep ≤ 8) (e2 : (8 < tr.dep + 1 → ErrK e.many "limit" (.int 8) H E) ∧ (tr.dep + 1 ≤ 8 → MadeT Cs H (.row tr) Q)) (x dx : Addr) (nx : H x = none) (nd : H dx = none) :
    spRowI K Cs CL e [.ref x, .ref c] (upd (upd H dx (.own x)) x (.ins (Cs 4) dx [])) (fun v H2 => v = .non ∧ Q (.ref x) H2) E := by
  have s1 : Same H (upd (upd H dx (.own x)) x (.ins (Cs 4) dx [])) := laid nx nd
  have cb := (th.isL T).same s1
  rw [lk] at cb
  exact ⟨x, .ref c, true, rfl, ⟨dx, upd_same⟩, cb, fun z => (nomatch z), fun _ => ⟨c, tr, rfl, th.kp s1.kp, lk, ok, dp, fun z => (e2.1 z).same s1, fun z H' b t => ⟨rfl, e2.2 z x H' nx (back nx nd b) t⟩⟩⟩
theorem withinB_of {w : Option Int} (h : ∀ n, w = some n → 0 ≤ n ∧ n ≤ 1000000000) : WithinB K H (wV w) (some w) := by
  cases w with
  | none => exact .inl ⟨rfl, rfl⟩
  | some n => exact .inr (.inl ⟨n, rfl, rfl, h n rfl⟩)
theorem nameB_of {f : Str} (h : isName f = true) : NameB K H (.str f) true := .inl ⟨f, rfl, Nat.le_trans (name8 h) (by decide), h.symm⟩
theorem look_go (T : TmK K Cs CT CL) {a : Bool} {f : Str} {w : Option Int} {s : Bool} {c : Addr} {tr : Tr} (th : ThAt Cs H tr c) (ok : (Tr.look a f tr w s).ok) (dp : tr.dep ≤ 8) (q : MadeT Cs H (.look a f tr w s) Q) (x dx : Addr) (nx : H x = none) (nd : H dx = none) :
    spLookI K Cs CT e a [.ref x, .str f, .ref c, wV w, .bl s] (upd (upd H dx (.own x)) x (.ins (Cs (if a then 6 else 5)) dx [])) (fun v H2 => v = .non ∧ Q (.ref x) H2) E := by
  have s1 : Same H (upd (upd H dx (.own x)) x (.ins (Cs (if a then 6 else 5)) dx [])) := laid nx nd
  have cb := (th.isT T).same s1
  rw [ok.2.1] at cb
  exact ⟨x, .str f, .ref c, wV w, .bl s, rfl, ⟨dx, upd_same⟩, true, true, some w, nameB_of ok.1, cb, withinB_of ok.2.2.2, fun z => (nomatch z), fun _ z => (nomatch z), fun _ _ z => (nomatch z), fun _ _ _ z => (nomatch z),
    fun _ _ _ _ => ⟨f, c, tr, w, s, rfl, rfl, rfl, rfl, th.kp s1.kp, ok, dp, fun H' b t => ⟨rfl, q x H' nx (back nx nd b) t⟩⟩⟩
end
/-! ### texts of different classes differ -/
def fcode : Nat → Nat
  | 0 => 110
  | 1 => 115
  | 2 => 102
  | 3 => 99
  | 4 => 116
  | 5 => 98
  | _ => 97
theorem Tr.head (t : Tr) : (TL.tl t.txt).head? = some (fcode t.ci) := by
  cases t with
  | now => rfl
  | shift t n =>
    show (TL.tl (wrap "shift" [t.txt, intT n])).head? = _
    unfold wrap
    simp only [TL.tl_append]
    rfl
  | floor t =>
    show (TL.tl (wrap "floor" [t.txt])).head? = _
    unfold wrap
    simp only [TL.tl_append]
    rfl
  | ceil t =>
    show (TL.tl (wrap "ceil" [t.txt])).head? = _
    unfold wrap
    simp only [TL.tl_append]
    rfl
  | row t =>
    show (TL.tl (wrap "time" [t.txt])).head? = _
    unfold wrap
    simp only [TL.tl_append]
    rfl
  | look a f t w s =>
    show (TL.tl (wrap (wordL a) ([f, t.txt] ++ boundT w ++ strictT s))).head? = _
    unfold wrap
    simp only [TL.tl_append]
    cases a <;> rfl
theorem fcode_inj : ∀ i, i < 7 → ∀ j, j < 7 → fcode i = fcode j → i = j := by decide
theorem Tr.txt_ci {t u : Tr} (h : t.txt = u.txt) : t.ci = u.ci := by
  have a := t.head
  rw [h, u.head] at a
  exact fcode_inj _ t.ci_lt _ u.ci_lt (Option.some.inj a).symm
end Tm


namespace K04
open PySem PySem.Spec PyProof.Rows L2 Rng Bag Gd Cal Tm Tr4 Own1
section
variable {P : Program} {w : World} {K : PySem.W.Frag} {mg : Str → Option Value} {base : Heap} {Cs : Nat → Addr} {CT CL : Addr} {e : Ers}

abbrev sSB : Stmt := top 31
theorem scSB : FnScope ["time", "by"] ["time", "by"] (defScope sSB) := ⟨rfl, rfl, rfl, by decide +kernel, rfl, by decide +kernel, by decide +kernel⟩

theorem c_shback (T : TmK K Cs CT CL) (D : Df K mg "_shifted_back" sSB) (cCS : Cl P w K mg base (L2N.CX P w) 2 "_check_shift" ["by"] (spCkShift K e.number)) (iS : Ni P w K mg base (L2N.CX P w) 3 "Shift" (Cs 1) ["self", "time", "by"] (spShiftI K Cs CT e)) : Cl P w K mg base (L2N.CX P w) 5 "_shifted_back" ["time", "by"] (spAdd K Cs e fun n => -n) := by
  refine D.clN scSB (fun _ _ _ _ _ _ us hl => match us, hl with | [_, _], _ => rfl) (fun vs H Q E h => ?_) (fun f cdv A outer s H vs Q E hr h => ?_)
  · obtain ⟨c, n, on, tr, rfl, _⟩ := h
    rfl
  · obtain ⟨c, n, on, tr, rfl, th, lk, ok, dp, sb, e1, e2⟩ := h
    refine ⟨_, (pss_cons (ps_expr (pe_c cCS (hr.mono (by decide)) rfl passesN (pa_cons (pv 1) pa_nil)))
      (pss_one (ps_ret (pe_n iS hr rfl passesN (pa_cons (pv 0) (pa_cons (pe_un un_neg (pv 1)) pa_nil)))))), ?_⟩
    refine ⟨_, rfl, n, on, rfl, sb, fun en => ?_, fun en => e1 en⟩
    obtain ⟨m, rfl⟩ : ∃ m, on = some m := by
      cases on with
      | none => cases en
      | some m => exact ⟨m, rfl⟩
    obtain ⟨rfl, m1, m2⟩ : n = .int m ∧ -1000000000 ≤ m ∧ m ≤ 1000000000 := by
      rcases sb with ⟨k, rfl, e, a, b⟩ | ⟨k, _, e, _⟩ | ⟨_, e⟩
      · cases e; exact ⟨rfl, a, b⟩
      · cases e
      · cases e
    refine ⟨_, rfl, _, rfl, m, rfl, fun x dx nx nd ne => ?_⟩
    exact shift_go T (on := some (-m)) th lk ok dp (.inl ⟨-m, rfl, rfl, by omega, by omega⟩) (fun z => (nomatch z)) (fun k ek => by cases ek; exact e2 m rfl) x dx nx nd

abbrev sNowSub : Stmt := inClass (top 32) 4
theorem scNowSub : FnScope ["self", "other"] ["self", "other"] (defScope sNowSub) := ⟨rfl, rfl, rfl, by decide +kernel, rfl, by decide +kernel, by decide +kernel⟩

theorem q_sub0 (D : Dd K (Cs 0) "__sub__" "Now.__sub__" sNowSub) (cSB : Cl P w K mg base (L2N.CX P w) 5 "_shifted_back" ["time", "by"] (spAdd K Cs e fun n => -n)) : Du P w K mg base (L2N.CX P w) 6 (Cs 0) "__sub__" (spAdd K Cs e fun n => -n) := by
  refine D.duN scNowSub (fun _ _ _ _ _ _ us hl => match us, hl with | [_, _], _ => rfl) (fun vs H Q E h => ?_) (fun f cdv A outer s H vs Q E hr h => ?_)
  · obtain ⟨c, n, on, tr, rfl, _⟩ := h
    rfl
  · obtain ⟨c, n, on, tr, rfl, h⟩ := h
    refine ⟨_, (pss_one (ps_ret (pe_c cSB (hr.mono (by decide)) rfl passesN (pa_cons (pv 0) (pa_cons (pv 1) pa_nil))))), ?_⟩
    exact ⟨_, rfl, _, rfl, c, n, on, tr, rfl, h⟩
abbrev sRowAdd : Stmt := inClass (top 36) 3
theorem scRowAdd : FnScope ["self", "other"] ["self", "other"] (defScope sRowAdd) := ⟨rfl, rfl, rfl, by decide +kernel, rfl, by decide +kernel, by decide +kernel⟩

theorem q_add4 (T : TmK K Cs CT CL) (D : Dd K (Cs 4) "__add__" "RowTime.__add__" sRowAdd) (iS : Ni P w K mg base (L2N.CX P w) 3 "Shift" (Cs 1) ["self", "time", "by"] (spShiftI K Cs CT e)) : Du P w K mg base (L2N.CX P w) 5 (Cs 4) "__add__" (spAdd K Cs e fun n => n) := by
  refine D.duN scRowAdd (fun _ _ _ _ _ _ us hl => match us, hl with | [_, _], _ => rfl) (fun vs H Q E h => ?_) (fun f cdv A outer s H vs Q E hr h => ?_)
  · obtain ⟨c, n, on, tr, rfl, _⟩ := h
    rfl
  · obtain ⟨c, n, on, tr, rfl, th, lk, ok, dp, sb, e1, e2⟩ := h
    refine ⟨_, (pss_one (ps_ret (pe_n iS hr rfl passesN (pa_cons (pv 0) (pa_cons (pv 1) pa_nil))))), ?_⟩
    exact ⟨_, rfl, _, rfl, fun x dx nx nd ne => shift_go T th lk ok dp sb e1 e2 x dx nx nd⟩

abbrev sNowEq : Stmt := inClass (top 32) 5
theorem scNowEq : FnScope ["self", "other"] ["self", "other"] (defScope sNowEq) := ⟨rfl, rfl, rfl, by decide +kernel, rfl, by decide +kernel, by decide +kernel⟩

theorem q_eq0 (T : TmK K Cs CT CL) (B : Nb mg) (m0 : mg "Now" = some (.ref (Cs 0))) (D : Dd K (Cs 0) "__eq__" "Now.__eq__" sNowEq) : Du P w K mg base CX0 1 (Cs 0) "__eq__" (spEqT K Cs 0) := by
  refine D.du scNowEq (fun _ _ _ _ _ _ us hl => match us, hl with | [_, _], _ => rfl) (fun vs H Q E h => ?_) (fun f cdv A outer s H vs Q E hr h => ?_)
  · obtain ⟨o, t, y, rfl, _⟩ := h
    rfl
  · obtain ⟨o, t, y, rfl, th, ec, h⟩ := h
    refine ⟨_, (pss_one (ps_ret ((pe_and (pe_callB call_isi (by rfl) B.isinstance (by decide +kernel) (pa_cons (pv 1) (pa_cons (pe_glob (v := .ref (Cs 0)) rfl m0 rfl) pa_nil))) (pe_one (pe_cmpR op_eq (pe_fld (pv 0) rfl) (pe_fld (pv 1) rfl) (nomark _))))))), ?_⟩
    rcases h with ⟨o2, t2, rfl, th2, q⟩ | ⟨⟨ty, tx, kk⟩, q⟩
    · obtain ⟨ty, tx, kk⟩ := th2.isC T (i := 0) (by decide)
      obtain ⟨d1, f1, h1, c1⟩ := th.node
      obtain ⟨d2, f2, h2, c2⟩ := th2.node
      refine ⟨_, rfl, _, _, _, _, _, rfl, .own _, tx, kk, ?_⟩
      by_cases c : t2.ci = 0
      · rw [decide_eq_true c]
        refine ⟨_, rfl, iteT ⟨_, rfl, o, _, d1, f1, _, rfl, h1, T.cl _ t.ci_lt, T.na _ t.ci_lt _ (by decide +kernel), c1.text, _, rfl, o2, _, d2, f2, _, rfl, h2, T.cl _ t2.ci_lt, T.na _ t2.ci_lt _ (by decide +kernel), c2.text, rfl, ?_⟩⟩
        rw [show decide (V.str t.txt = V.str t2.txt) = decide (t.txt = t2.txt) from decide_eq_decide.mpr ⟨fun z => V.str.inj z, fun z => congrArg V.str z⟩]
        exact q
      · rw [decide_eq_false c]
        rw [decide_eq_false (fun z => c ((Tr.txt_ci z).symm.trans ec))] at q
        exact ⟨_, rfl, iteF q⟩
    · exact ⟨_, rfl, _, _, _, _, _, rfl, .own _, tx, kk, _, rfl, iteF q⟩

abbrev sShiftEq : Stmt := inClass (top 33) 5
theorem scShiftEq : FnScope ["self", "other"] ["self", "other"] (defScope sShiftEq) := ⟨rfl, rfl, rfl, by decide +kernel, rfl, by decide +kernel, by decide +kernel⟩

theorem q_eq1 (T : TmK K Cs CT CL) (B : Nb mg) (m1 : mg "Shift" = some (.ref (Cs 1))) (D : Dd K (Cs 1) "__eq__" "Shift.__eq__" sShiftEq) : Du P w K mg base CX0 1 (Cs 1) "__eq__" (spEqT K Cs 1) := by
  refine D.du scShiftEq (fun _ _ _ _ _ _ us hl => match us, hl with | [_, _], _ => rfl) (fun vs H Q E h => ?_) (fun f cdv A outer s H vs Q E hr h => ?_)
  · obtain ⟨o, t, y, rfl, _⟩ := h
    rfl
  · obtain ⟨o, t, y, rfl, th, ec, h⟩ := h
    refine ⟨_, (pss_one (ps_ret ((pe_and (pe_callB call_isi (by rfl) B.isinstance (by decide +kernel) (pa_cons (pv 1) (pa_cons (pe_glob (v := .ref (Cs 1)) rfl m1 rfl) pa_nil))) (pe_one (pe_cmpR op_eq (pe_fld (pv 0) rfl) (pe_fld (pv 1) rfl) (nomark _))))))), ?_⟩
    rcases h with ⟨o2, t2, rfl, th2, q⟩ | ⟨⟨ty, tx, kk⟩, q⟩
    · obtain ⟨ty, tx, kk⟩ := th2.isC T (i := 1) (by decide)
      obtain ⟨d1, f1, h1, c1⟩ := th.node
      obtain ⟨d2, f2, h2, c2⟩ := th2.node
      refine ⟨_, rfl, _, _, _, _, _, rfl, .own _, tx, kk, ?_⟩
      by_cases c : t2.ci = 1
      · rw [decide_eq_true c]
        refine ⟨_, rfl, iteT ⟨_, rfl, o, _, d1, f1, _, rfl, h1, T.cl _ t.ci_lt, T.na _ t.ci_lt _ (by decide +kernel), c1.text, _, rfl, o2, _, d2, f2, _, rfl, h2, T.cl _ t2.ci_lt, T.na _ t2.ci_lt _ (by decide +kernel), c2.text, rfl, ?_⟩⟩
        rw [show decide (V.str t.txt = V.str t2.txt) = decide (t.txt = t2.txt) from decide_eq_decide.mpr ⟨fun z => V.str.inj z, fun z => congrArg V.str z⟩]
        exact q
      · rw [decide_eq_false c]
        rw [decide_eq_false (fun z => c ((Tr.txt_ci z).symm.trans ec))] at q
        exact ⟨_, rfl, iteF q⟩
    · exact ⟨_, rfl, _, _, _, _, _, rfl, .own _, tx, kk, _, rfl, iteF q⟩

abbrev sFloorEq : Stmt := inClass (top 34) 5
theorem scFloorEq : FnScope ["self", "other"] ["self", "other"] (defScope sFloorEq) := ⟨rfl, rfl, rfl, by decide +kernel, rfl, by decide +kernel, by decide +kernel⟩

theorem q_eq2 (T : TmK K Cs CT CL) (B : Nb mg) (m2 : mg "Floor" = some (.ref (Cs 2))) (D : Dd K (Cs 2) "__eq__" "Floor.__eq__" sFloorEq) : Du P w K mg base CX0 1 (Cs 2) "__eq__" (spEqT K Cs 2) := by
  refine D.du scFloorEq (fun _ _ _ _ _ _ us hl => match us, hl with | [_, _], _ => rfl) (fun vs H Q E h => ?_) (fun f cdv A outer s H vs Q E hr h => ?_)
  · obtain ⟨o, t, y, rfl, _⟩ := h
    rfl
  · obtain ⟨o, t, y, rfl, th, ec, h⟩ := h
    refine ⟨_, (pss_one (ps_ret ((pe_and (pe_callB call_isi (by rfl) B.isinstance (by decide +kernel) (pa_cons (pv 1) (pa_cons (pe_glob (v := .ref (Cs 2)) rfl m2 rfl) pa_nil))) (pe_one (pe_cmpR op_eq (pe_fld (pv 0) rfl) (pe_fld (pv 1) rfl) (nomark _))))))), ?_⟩
    rcases h with ⟨o2, t2, rfl, th2, q⟩ | ⟨⟨ty, tx, kk⟩, q⟩
    · obtain ⟨ty, tx, kk⟩ := th2.isC T (i := 2) (by decide)
      obtain ⟨d1, f1, h1, c1⟩ := th.node
      obtain ⟨d2, f2, h2, c2⟩ := th2.node
      refine ⟨_, rfl, _, _, _, _, _, rfl, .own _, tx, kk, ?_⟩
      by_cases c : t2.ci = 2
      · rw [decide_eq_true c]
        refine ⟨_, rfl, iteT ⟨_, rfl, o, _, d1, f1, _, rfl, h1, T.cl _ t.ci_lt, T.na _ t.ci_lt _ (by decide +kernel), c1.text, _, rfl, o2, _, d2, f2, _, rfl, h2, T.cl _ t2.ci_lt, T.na _ t2.ci_lt _ (by decide +kernel), c2.text, rfl, ?_⟩⟩
        rw [show decide (V.str t.txt = V.str t2.txt) = decide (t.txt = t2.txt) from decide_eq_decide.mpr ⟨fun z => V.str.inj z, fun z => congrArg V.str z⟩]
        exact q
      · rw [decide_eq_false c]
        rw [decide_eq_false (fun z => c ((Tr.txt_ci z).symm.trans ec))] at q
        exact ⟨_, rfl, iteF q⟩
    · exact ⟨_, rfl, _, _, _, _, _, rfl, .own _, tx, kk, _, rfl, iteF q⟩

abbrev sCeilEq : Stmt := inClass (top 35) 5
theorem scCeilEq : FnScope ["self", "other"] ["self", "other"] (defScope sCeilEq) := ⟨rfl, rfl, rfl, by decide +kernel, rfl, by decide +kernel, by decide +kernel⟩

theorem q_eq3 (T : TmK K Cs CT CL) (B : Nb mg) (m3 : mg "Ceil" = some (.ref (Cs 3))) (D : Dd K (Cs 3) "__eq__" "Ceil.__eq__" sCeilEq) : Du P w K mg base CX0 1 (Cs 3) "__eq__" (spEqT K Cs 3) := by
  refine D.du scCeilEq (fun _ _ _ _ _ _ us hl => match us, hl with | [_, _], _ => rfl) (fun vs H Q E h => ?_) (fun f cdv A outer s H vs Q E hr h => ?_)
  · obtain ⟨o, t, y, rfl, _⟩ := h
    rfl
  · obtain ⟨o, t, y, rfl, th, ec, h⟩ := h
    refine ⟨_, (pss_one (ps_ret ((pe_and (pe_callB call_isi (by rfl) B.isinstance (by decide +kernel) (pa_cons (pv 1) (pa_cons (pe_glob (v := .ref (Cs 3)) rfl m3 rfl) pa_nil))) (pe_one (pe_cmpR op_eq (pe_fld (pv 0) rfl) (pe_fld (pv 1) rfl) (nomark _))))))), ?_⟩
    rcases h with ⟨o2, t2, rfl, th2, q⟩ | ⟨⟨ty, tx, kk⟩, q⟩
    · obtain ⟨ty, tx, kk⟩ := th2.isC T (i := 3) (by decide)
      obtain ⟨d1, f1, h1, c1⟩ := th.node
      obtain ⟨d2, f2, h2, c2⟩ := th2.node
      refine ⟨_, rfl, _, _, _, _, _, rfl, .own _, tx, kk, ?_⟩
      by_cases c : t2.ci = 3
      · rw [decide_eq_true c]
        refine ⟨_, rfl, iteT ⟨_, rfl, o, _, d1, f1, _, rfl, h1, T.cl _ t.ci_lt, T.na _ t.ci_lt _ (by decide +kernel), c1.text, _, rfl, o2, _, d2, f2, _, rfl, h2, T.cl _ t2.ci_lt, T.na _ t2.ci_lt _ (by decide +kernel), c2.text, rfl, ?_⟩⟩
        rw [show decide (V.str t.txt = V.str t2.txt) = decide (t.txt = t2.txt) from decide_eq_decide.mpr ⟨fun z => V.str.inj z, fun z => congrArg V.str z⟩]
        exact q
      · rw [decide_eq_false c]
        rw [decide_eq_false (fun z => c ((Tr.txt_ci z).symm.trans ec))] at q
        exact ⟨_, rfl, iteF q⟩
    · exact ⟨_, rfl, _, _, _, _, _, rfl, .own _, tx, kk, _, rfl, iteF q⟩

abbrev sRowTimeEq : Stmt := inClass (top 36) 5
theorem scRowTimeEq : FnScope ["self", "other"] ["self", "other"] (defScope sRowTimeEq) := ⟨rfl, rfl, rfl, by decide +kernel, rfl, by decide +kernel, by decide +kernel⟩

theorem q_eq4 (T : TmK K Cs CT CL) (B : Nb mg) (m4 : mg "RowTime" = some (.ref (Cs 4))) (D : Dd K (Cs 4) "__eq__" "RowTime.__eq__" sRowTimeEq) : Du P w K mg base CX0 1 (Cs 4) "__eq__" (spEqT K Cs 4) := by
  refine D.du scRowTimeEq (fun _ _ _ _ _ _ us hl => match us, hl with | [_, _], _ => rfl) (fun vs H Q E h => ?_) (fun f cdv A outer s H vs Q E hr h => ?_)
  · obtain ⟨o, t, y, rfl, _⟩ := h
    rfl
  · obtain ⟨o, t, y, rfl, th, ec, h⟩ := h
    refine ⟨_, (pss_one (ps_ret ((pe_and (pe_callB call_isi (by rfl) B.isinstance (by decide +kernel) (pa_cons (pv 1) (pa_cons (pe_glob (v := .ref (Cs 4)) rfl m4 rfl) pa_nil))) (pe_one (pe_cmpR op_eq (pe_fld (pv 0) rfl) (pe_fld (pv 1) rfl) (nomark _))))))), ?_⟩
    rcases h with ⟨o2, t2, rfl, th2, q⟩ | ⟨⟨ty, tx, kk⟩, q⟩
    · obtain ⟨ty, tx, kk⟩ := th2.isC T (i := 4) (by decide)
      obtain ⟨d1, f1, h1, c1⟩ := th.node
      obtain ⟨d2, f2, h2, c2⟩ := th2.node
      refine ⟨_, rfl, _, _, _, _, _, rfl, .own _, tx, kk, ?_⟩
      by_cases c : t2.ci = 4
      · rw [decide_eq_true c]
        refine ⟨_, rfl, iteT ⟨_, rfl, o, _, d1, f1, _, rfl, h1, T.cl _ t.ci_lt, T.na _ t.ci_lt _ (by decide +kernel), c1.text, _, rfl, o2, _, d2, f2, _, rfl, h2, T.cl _ t2.ci_lt, T.na _ t2.ci_lt _ (by decide +kernel), c2.text, rfl, ?_⟩⟩
        rw [show decide (V.str t.txt = V.str t2.txt) = decide (t.txt = t2.txt) from decide_eq_decide.mpr ⟨fun z => V.str.inj z, fun z => congrArg V.str z⟩]
        exact q
      · rw [decide_eq_false c]
        rw [decide_eq_false (fun z => c ((Tr.txt_ci z).symm.trans ec))] at q
        exact ⟨_, rfl, iteF q⟩
    · exact ⟨_, rfl, _, _, _, _, _, rfl, .own _, tx, kk, _, rfl, iteF q⟩

abbrev sBeforeEq : Stmt := inClass (top 37) 3
theorem scBeforeEq : FnScope ["self", "other"] ["self", "other"] (defScope sBeforeEq) := ⟨rfl, rfl, rfl, by decide +kernel, rfl, by decide +kernel, by decide +kernel⟩

theorem q_eq5 (T : TmK K Cs CT CL) (B : Nb mg) (m5 : mg "Before" = some (.ref (Cs 5))) (D : Dd K (Cs 5) "__eq__" "Before.__eq__" sBeforeEq) : Du P w K mg base CX0 1 (Cs 5) "__eq__" (spEqT K Cs 5) := by
  refine D.du scBeforeEq (fun _ _ _ _ _ _ us hl => match us, hl with | [_, _], _ => rfl) (fun vs H Q E h => ?_) (fun f cdv A outer s H vs Q E hr h => ?_)
  · obtain ⟨o, t, y, rfl, _⟩ := h
    rfl
  · obtain ⟨o, t, y, rfl, th, ec, h⟩ := h
    refine ⟨_, (pss_one (ps_ret ((pe_and (pe_callB call_isi (by rfl) B.isinstance (by decide +kernel) (pa_cons (pv 1) (pa_cons (pe_glob (v := .ref (Cs 5)) rfl m5 rfl) pa_nil))) (pe_one (pe_cmpR op_eq (pe_fld (pv 0) rfl) (pe_fld (pv 1) rfl) (nomark _))))))), ?_⟩
    rcases h with ⟨o2, t2, rfl, th2, q⟩ | ⟨⟨ty, tx, kk⟩, q⟩
    · obtain ⟨ty, tx, kk⟩ := th2.isC T (i := 5) (by decide)
      obtain ⟨d1, f1, h1, c1⟩ := th.node
      obtain ⟨d2, f2, h2, c2⟩ := th2.node
      refine ⟨_, rfl, _, _, _, _, _, rfl, .own _, tx, kk, ?_⟩
      by_cases c : t2.ci = 5
      · rw [decide_eq_true c]
        refine ⟨_, rfl, iteT ⟨_, rfl, o, _, d1, f1, _, rfl, h1, T.cl _ t.ci_lt, T.na _ t.ci_lt _ (by decide +kernel), c1.text, _, rfl, o2, _, d2, f2, _, rfl, h2, T.cl _ t2.ci_lt, T.na _ t2.ci_lt _ (by decide +kernel), c2.text, rfl, ?_⟩⟩
        rw [show decide (V.str t.txt = V.str t2.txt) = decide (t.txt = t2.txt) from decide_eq_decide.mpr ⟨fun z => V.str.inj z, fun z => congrArg V.str z⟩]
        exact q
      · rw [decide_eq_false c]
        rw [decide_eq_false (fun z => c ((Tr.txt_ci z).symm.trans ec))] at q
        exact ⟨_, rfl, iteF q⟩
    · exact ⟨_, rfl, _, _, _, _, _, rfl, .own _, tx, kk, _, rfl, iteF q⟩

abbrev sAfterEq : Stmt := inClass (top 38) 3
theorem scAfterEq : FnScope ["self", "other"] ["self", "other"] (defScope sAfterEq) := ⟨rfl, rfl, rfl, by decide +kernel, rfl, by decide +kernel, by decide +kernel⟩

theorem q_eq6 (T : TmK K Cs CT CL) (B : Nb mg) (m6 : mg "After" = some (.ref (Cs 6))) (D : Dd K (Cs 6) "__eq__" "After.__eq__" sAfterEq) : Du P w K mg base CX0 1 (Cs 6) "__eq__" (spEqT K Cs 6) := by
  refine D.du scAfterEq (fun _ _ _ _ _ _ us hl => match us, hl with | [_, _], _ => rfl) (fun vs H Q E h => ?_) (fun f cdv A outer s H vs Q E hr h => ?_)
  · obtain ⟨o, t, y, rfl, _⟩ := h
    rfl
  · obtain ⟨o, t, y, rfl, th, ec, h⟩ := h
    refine ⟨_, (pss_one (ps_ret ((pe_and (pe_callB call_isi (by rfl) B.isinstance (by decide +kernel) (pa_cons (pv 1) (pa_cons (pe_glob (v := .ref (Cs 6)) rfl m6 rfl) pa_nil))) (pe_one (pe_cmpR op_eq (pe_fld (pv 0) rfl) (pe_fld (pv 1) rfl) (nomark _))))))), ?_⟩
    rcases h with ⟨o2, t2, rfl, th2, q⟩ | ⟨⟨ty, tx, kk⟩, q⟩
    · obtain ⟨ty, tx, kk⟩ := th2.isC T (i := 6) (by decide)
      obtain ⟨d1, f1, h1, c1⟩ := th.node
      obtain ⟨d2, f2, h2, c2⟩ := th2.node
      refine ⟨_, rfl, _, _, _, _, _, rfl, .own _, tx, kk, ?_⟩
      by_cases c : t2.ci = 6
      · rw [decide_eq_true c]
        refine ⟨_, rfl, iteT ⟨_, rfl, o, _, d1, f1, _, rfl, h1, T.cl _ t.ci_lt, T.na _ t.ci_lt _ (by decide +kernel), c1.text, _, rfl, o2, _, d2, f2, _, rfl, h2, T.cl _ t2.ci_lt, T.na _ t2.ci_lt _ (by decide +kernel), c2.text, rfl, ?_⟩⟩
        rw [show decide (V.str t.txt = V.str t2.txt) = decide (t.txt = t2.txt) from decide_eq_decide.mpr ⟨fun z => V.str.inj z, fun z => congrArg V.str z⟩]
        exact q
      · rw [decide_eq_false c]
        rw [decide_eq_false (fun z => c ((Tr.txt_ci z).symm.trans ec))] at q
        exact ⟨_, rfl, iteF q⟩
    · exact ⟨_, rfl, _, _, _, _, _, rfl, .own _, tx, kk, _, rfl, iteF q⟩

abbrev sNowSt : Stmt := inClass (top 32) 6
theorem scNowSt : FnScope ["self"] ["self"] (defScope sNowSt) := ⟨rfl, rfl, rfl, by decide +kernel, rfl, by decide +kernel, by decide +kernel⟩

theorem q_str0 (T : TmK K Cs CT CL) (B : Nb mg) (D : Dd K (Cs 0) "__str__" "Now.__str__" sNowSt) : Du P w K mg base CX0 1 (Cs 0) "__str__" (spStrT Cs 0) := by
  refine D.du scNowSt (fun _ _ _ _ _ _ us hl => match us, hl with | [_], _ => rfl) (fun vs H Q E h => ?_) (fun f cdv A outer s H vs Q E hr h => ?_)
  · obtain ⟨o, dx, fs, z, rfl, _⟩ := h
    rfl
  · obtain ⟨o, dx, fs, z, rfl, ho, lz, q⟩ := h
    refine ⟨_, (pss_one (ps_ret (pe_callTy SkE.call_str_str (by rfl) B.str (by decide +kernel) (pa_cons (pe_fld (pv 0) rfl) pa_nil)))), ?_⟩
    exact ⟨_, rfl, o, _, dx, fs, _, rfl, ho, T.cl _ (by decide), T.na _ (by decide) _ (by decide +kernel), lz, z, rfl, q⟩
abbrev sNowRe : Stmt := inClass (top 32) 7
theorem scNowRe : FnScope ["self"] ["self"] (defScope sNowRe) := ⟨rfl, rfl, rfl, by decide +kernel, rfl, by decide +kernel, by decide +kernel⟩

theorem q_repr0 (T : TmK K Cs CT CL) (D : Dd K (Cs 0) "__repr__" "Now.__repr__" sNowRe) : Du P w K mg base CX0 1 (Cs 0) "__repr__" (spReprT Cs 0 "Time") := by
  refine D.du scNowRe (fun _ _ _ _ _ _ us hl => match us, hl with | [_], _ => rfl) (fun vs H Q E h => ?_) (fun f cdv A outer s H vs Q E hr h => ?_)
  · obtain ⟨o, t, rfl, _⟩ := h
    rfl
  · obtain ⟨o, t, rfl, th, ec, ln, q⟩ := h
    obtain ⟨dx, fs, ho, cm⟩ := th.node
    have b60 : (100000 : Nat) ≤ sizeLine := by decide
    have e0 : Str.empty.length = 0 := by decide
    have l1 : (Str.ofString "Time(").length = 5 := by decide
    have l3 : (Str.ofString ")").length = 1 := by decide
    refine ⟨_, (pss_one (ps_ret (pe_joined (.cons pe_str (.cons (pe_fmt (pe_fld (pv 0) rfl)) (.cons pe_str .nil)))))), ?_⟩
    refine ⟨_, rfl, (by decide), _, rfl, o, _, dx, fs, _, rfl, ho, T.cl _ t.ci_lt, T.na _ t.ci_lt _ (by decide +kernel), cm.text, .inl ⟨_, rfl, by omega, _, rfl, (by simp only [app_len]; omega), _, rfl, (by simp only [app_len]; omega), ?_⟩⟩
    rw [show (Str.ofString "Time" ++ "(" ++ t.txt ++ ")" : Str) = Str.empty ++ Str.ofString "Time(" ++ t.txt ++ Str.ofString ")" from by
      refine Tm.str_ext ?_
      simp only [TL.tl_append, List.append_assoc]
      rfl] at q
    exact q

abbrev sShiftSt : Stmt := inClass (top 33) 6
theorem scShiftSt : FnScope ["self"] ["self"] (defScope sShiftSt) := ⟨rfl, rfl, rfl, by decide +kernel, rfl, by decide +kernel, by decide +kernel⟩

theorem q_str1 (T : TmK K Cs CT CL) (B : Nb mg) (D : Dd K (Cs 1) "__str__" "Shift.__str__" sShiftSt) : Du P w K mg base CX0 1 (Cs 1) "__str__" (spStrT Cs 1) := by
  refine D.du scShiftSt (fun _ _ _ _ _ _ us hl => match us, hl with | [_], _ => rfl) (fun vs H Q E h => ?_) (fun f cdv A outer s H vs Q E hr h => ?_)
  · obtain ⟨o, dx, fs, z, rfl, _⟩ := h
    rfl
  · obtain ⟨o, dx, fs, z, rfl, ho, lz, q⟩ := h
    refine ⟨_, (pss_one (ps_ret (pe_callTy SkE.call_str_str (by rfl) B.str (by decide +kernel) (pa_cons (pe_fld (pv 0) rfl) pa_nil)))), ?_⟩
    exact ⟨_, rfl, o, _, dx, fs, _, rfl, ho, T.cl _ (by decide), T.na _ (by decide) _ (by decide +kernel), lz, z, rfl, q⟩
abbrev sShiftRe : Stmt := inClass (top 33) 7
theorem scShiftRe : FnScope ["self"] ["self"] (defScope sShiftRe) := ⟨rfl, rfl, rfl, by decide +kernel, rfl, by decide +kernel, by decide +kernel⟩

theorem q_repr1 (T : TmK K Cs CT CL) (D : Dd K (Cs 1) "__repr__" "Shift.__repr__" sShiftRe) : Du P w K mg base CX0 1 (Cs 1) "__repr__" (spReprT Cs 1 "Time") := by
  refine D.du scShiftRe (fun _ _ _ _ _ _ us hl => match us, hl with | [_], _ => rfl) (fun vs H Q E h => ?_) (fun f cdv A outer s H vs Q E hr h => ?_)
  · obtain ⟨o, t, rfl, _⟩ := h
    rfl
  · obtain ⟨o, t, rfl, th, ec, ln, q⟩ := h
    obtain ⟨dx, fs, ho, cm⟩ := th.node
    have b60 : (100000 : Nat) ≤ sizeLine := by decide
    have e0 : Str.empty.length = 0 := by decide
    have l1 : (Str.ofString "Time(").length = 5 := by decide
    have l3 : (Str.ofString ")").length = 1 := by decide
    refine ⟨_, (pss_one (ps_ret (pe_joined (.cons pe_str (.cons (pe_fmt (pe_fld (pv 0) rfl)) (.cons pe_str .nil)))))), ?_⟩
    refine ⟨_, rfl, (by decide), _, rfl, o, _, dx, fs, _, rfl, ho, T.cl _ t.ci_lt, T.na _ t.ci_lt _ (by decide +kernel), cm.text, .inl ⟨_, rfl, by omega, _, rfl, (by simp only [app_len]; omega), _, rfl, (by simp only [app_len]; omega), ?_⟩⟩
    rw [show (Str.ofString "Time" ++ "(" ++ t.txt ++ ")" : Str) = Str.empty ++ Str.ofString "Time(" ++ t.txt ++ Str.ofString ")" from by
      refine Tm.str_ext ?_
      simp only [TL.tl_append, List.append_assoc]
      rfl] at q
    exact q

abbrev sFloorSt : Stmt := inClass (top 34) 6
theorem scFloorSt : FnScope ["self"] ["self"] (defScope sFloorSt) := ⟨rfl, rfl, rfl, by decide +kernel, rfl, by decide +kernel, by decide +kernel⟩

theorem q_str2 (T : TmK K Cs CT CL) (B : Nb mg) (D : Dd K (Cs 2) "__str__" "Floor.__str__" sFloorSt) : Du P w K mg base CX0 1 (Cs 2) "__str__" (spStrT Cs 2) := by
  refine D.du scFloorSt (fun _ _ _ _ _ _ us hl => match us, hl with | [_], _ => rfl) (fun vs H Q E h => ?_) (fun f cdv A outer s H vs Q E hr h => ?_)
  · obtain ⟨o, dx, fs, z, rfl, _⟩ := h
    rfl
  · obtain ⟨o, dx, fs, z, rfl, ho, lz, q⟩ := h
    refine ⟨_, (pss_one (ps_ret (pe_callTy SkE.call_str_str (by rfl) B.str (by decide +kernel) (pa_cons (pe_fld (pv 0) rfl) pa_nil)))), ?_⟩
    exact ⟨_, rfl, o, _, dx, fs, _, rfl, ho, T.cl _ (by decide), T.na _ (by decide) _ (by decide +kernel), lz, z, rfl, q⟩
abbrev sFloorRe : Stmt := inClass (top 34) 7
theorem scFloorRe : FnScope ["self"] ["self"] (defScope sFloorRe) := ⟨rfl, rfl, rfl, by decide +kernel, rfl, by decide +kernel, by decide +kernel⟩

theorem q_repr2 (T : TmK K Cs CT CL) (D : Dd K (Cs 2) "__repr__" "Floor.__repr__" sFloorRe) : Du P w K mg base CX0 1 (Cs 2) "__repr__" (spReprT Cs 2 "Time") := by
  refine D.du scFloorRe (fun _ _ _ _ _ _ us hl => match us, hl with | [_], _ => rfl) (fun vs H Q E h => ?_) (fun f cdv A outer s H vs Q E hr h => ?_)
  · obtain ⟨o, t, rfl, _⟩ := h
    rfl
  · obtain ⟨o, t, rfl, th, ec, ln, q⟩ := h
    obtain ⟨dx, fs, ho, cm⟩ := th.node
    have b60 : (100000 : Nat) ≤ sizeLine := by decide
    have e0 : Str.empty.length = 0 := by decide
    have l1 : (Str.ofString "Time(").length = 5 := by decide
    have l3 : (Str.ofString ")").length = 1 := by decide
    refine ⟨_, (pss_one (ps_ret (pe_joined (.cons pe_str (.cons (pe_fmt (pe_fld (pv 0) rfl)) (.cons pe_str .nil)))))), ?_⟩
    refine ⟨_, rfl, (by decide), _, rfl, o, _, dx, fs, _, rfl, ho, T.cl _ t.ci_lt, T.na _ t.ci_lt _ (by decide +kernel), cm.text, .inl ⟨_, rfl, by omega, _, rfl, (by simp only [app_len]; omega), _, rfl, (by simp only [app_len]; omega), ?_⟩⟩
    rw [show (Str.ofString "Time" ++ "(" ++ t.txt ++ ")" : Str) = Str.empty ++ Str.ofString "Time(" ++ t.txt ++ Str.ofString ")" from by
      refine Tm.str_ext ?_
      simp only [TL.tl_append, List.append_assoc]
      rfl] at q
    exact q

abbrev sCeilSt : Stmt := inClass (top 35) 6
theorem scCeilSt : FnScope ["self"] ["self"] (defScope sCeilSt) := ⟨rfl, rfl, rfl, by decide +kernel, rfl, by decide +kernel, by decide +kernel⟩

theorem q_str3 (T : TmK K Cs CT CL) (B : Nb mg) (D : Dd K (Cs 3) "__str__" "Ceil.__str__" sCeilSt) : Du P w K mg base CX0 1 (Cs 3) "__str__" (spStrT Cs 3) := by
  refine D.du scCeilSt (fun _ _ _ _ _ _ us hl => match us, hl with | [_], _ => rfl) (fun vs H Q E h => ?_) (fun f cdv A outer s H vs Q E hr h => ?_)
  · obtain ⟨o, dx, fs, z, rfl, _⟩ := h
    rfl
  · obtain ⟨o, dx, fs, z, rfl, ho, lz, q⟩ := h
    refine ⟨_, (pss_one (ps_ret (pe_callTy SkE.call_str_str (by rfl) B.str (by decide +kernel) (pa_cons (pe_fld (pv 0) rfl) pa_nil)))), ?_⟩
    exact ⟨_, rfl, o, _, dx, fs, _, rfl, ho, T.cl _ (by decide), T.na _ (by decide) _ (by decide +kernel), lz, z, rfl, q⟩
abbrev sCeilRe : Stmt := inClass (top 35) 7
theorem scCeilRe : FnScope ["self"] ["self"] (defScope sCeilRe) := ⟨rfl, rfl, rfl, by decide +kernel, rfl, by decide +kernel, by decide +kernel⟩

theorem q_repr3 (T : TmK K Cs CT CL) (D : Dd K (Cs 3) "__repr__" "Ceil.__repr__" sCeilRe) : Du P w K mg base CX0 1 (Cs 3) "__repr__" (spReprT Cs 3 "Time") := by
  refine D.du scCeilRe (fun _ _ _ _ _ _ us hl => match us, hl with | [_], _ => rfl) (fun vs H Q E h => ?_) (fun f cdv A outer s H vs Q E hr h => ?_)
  · obtain ⟨o, t, rfl, _⟩ := h
    rfl
  · obtain ⟨o, t, rfl, th, ec, ln, q⟩ := h
    obtain ⟨dx, fs, ho, cm⟩ := th.node
    have b60 : (100000 : Nat) ≤ sizeLine := by decide
    have e0 : Str.empty.length = 0 := by decide
    have l1 : (Str.ofString "Time(").length = 5 := by decide
    have l3 : (Str.ofString ")").length = 1 := by decide
    refine ⟨_, (pss_one (ps_ret (pe_joined (.cons pe_str (.cons (pe_fmt (pe_fld (pv 0) rfl)) (.cons pe_str .nil)))))), ?_⟩
    refine ⟨_, rfl, (by decide), _, rfl, o, _, dx, fs, _, rfl, ho, T.cl _ t.ci_lt, T.na _ t.ci_lt _ (by decide +kernel), cm.text, .inl ⟨_, rfl, by omega, _, rfl, (by simp only [app_len]; omega), _, rfl, (by simp only [app_len]; omega), ?_⟩⟩
    rw [show (Str.ofString "Time" ++ "(" ++ t.txt ++ ")" : Str) = Str.empty ++ Str.ofString "Time(" ++ t.txt ++ Str.ofString ")" from by
      refine Tm.str_ext ?_
      simp only [TL.tl_append, List.append_assoc]
      rfl] at q
    exact q

abbrev sRowTimeSt : Stmt := inClass (top 36) 6
theorem scRowTimeSt : FnScope ["self"] ["self"] (defScope sRowTimeSt) := ⟨rfl, rfl, rfl, by decide +kernel, rfl, by decide +kernel, by decide +kernel⟩

theorem q_str4 (T : TmK K Cs CT CL) (B : Nb mg) (D : Dd K (Cs 4) "__str__" "RowTime.__str__" sRowTimeSt) : Du P w K mg base CX0 1 (Cs 4) "__str__" (spStrT Cs 4) := by
  refine D.du scRowTimeSt (fun _ _ _ _ _ _ us hl => match us, hl with | [_], _ => rfl) (fun vs H Q E h => ?_) (fun f cdv A outer s H vs Q E hr h => ?_)
  · obtain ⟨o, dx, fs, z, rfl, _⟩ := h
    rfl
  · obtain ⟨o, dx, fs, z, rfl, ho, lz, q⟩ := h
    refine ⟨_, (pss_one (ps_ret (pe_callTy SkE.call_str_str (by rfl) B.str (by decide +kernel) (pa_cons (pe_fld (pv 0) rfl) pa_nil)))), ?_⟩
    exact ⟨_, rfl, o, _, dx, fs, _, rfl, ho, T.cl _ (by decide), T.na _ (by decide) _ (by decide +kernel), lz, z, rfl, q⟩
abbrev sRowTimeRe : Stmt := inClass (top 36) 7
theorem scRowTimeRe : FnScope ["self"] ["self"] (defScope sRowTimeRe) := ⟨rfl, rfl, rfl, by decide +kernel, rfl, by decide +kernel, by decide +kernel⟩

theorem q_repr4 (T : TmK K Cs CT CL) (D : Dd K (Cs 4) "__repr__" "RowTime.__repr__" sRowTimeRe) : Du P w K mg base CX0 1 (Cs 4) "__repr__" (spReprT Cs 4 "Time") := by
  refine D.du scRowTimeRe (fun _ _ _ _ _ _ us hl => match us, hl with | [_], _ => rfl) (fun vs H Q E h => ?_) (fun f cdv A outer s H vs Q E hr h => ?_)
  · obtain ⟨o, t, rfl, _⟩ := h
    rfl
  · obtain ⟨o, t, rfl, th, ec, ln, q⟩ := h
    obtain ⟨dx, fs, ho, cm⟩ := th.node
    have b60 : (100000 : Nat) ≤ sizeLine := by decide
    have e0 : Str.empty.length = 0 := by decide
    have l1 : (Str.ofString "Time(").length = 5 := by decide
    have l3 : (Str.ofString ")").length = 1 := by decide
    refine ⟨_, (pss_one (ps_ret (pe_joined (.cons pe_str (.cons (pe_fmt (pe_fld (pv 0) rfl)) (.cons pe_str .nil)))))), ?_⟩
    refine ⟨_, rfl, (by decide), _, rfl, o, _, dx, fs, _, rfl, ho, T.cl _ t.ci_lt, T.na _ t.ci_lt _ (by decide +kernel), cm.text, .inl ⟨_, rfl, by omega, _, rfl, (by simp only [app_len]; omega), _, rfl, (by simp only [app_len]; omega), ?_⟩⟩
    rw [show (Str.ofString "Time" ++ "(" ++ t.txt ++ ")" : Str) = Str.empty ++ Str.ofString "Time(" ++ t.txt ++ Str.ofString ")" from by
      refine Tm.str_ext ?_
      simp only [TL.tl_append, List.append_assoc]
      rfl] at q
    exact q

abbrev sBeforeSt : Stmt := inClass (top 37) 4
theorem scBeforeSt : FnScope ["self"] ["self"] (defScope sBeforeSt) := ⟨rfl, rfl, rfl, by decide +kernel, rfl, by decide +kernel, by decide +kernel⟩

theorem q_str5 (T : TmK K Cs CT CL) (B : Nb mg) (D : Dd K (Cs 5) "__str__" "Before.__str__" sBeforeSt) : Du P w K mg base CX0 1 (Cs 5) "__str__" (spStrT Cs 5) := by
  refine D.du scBeforeSt (fun _ _ _ _ _ _ us hl => match us, hl with | [_], _ => rfl) (fun vs H Q E h => ?_) (fun f cdv A outer s H vs Q E hr h => ?_)
  · obtain ⟨o, dx, fs, z, rfl, _⟩ := h
    rfl
  · obtain ⟨o, dx, fs, z, rfl, ho, lz, q⟩ := h
    refine ⟨_, (pss_one (ps_ret (pe_callTy SkE.call_str_str (by rfl) B.str (by decide +kernel) (pa_cons (pe_fld (pv 0) rfl) pa_nil)))), ?_⟩
    exact ⟨_, rfl, o, _, dx, fs, _, rfl, ho, T.cl _ (by decide), T.na _ (by decide) _ (by decide +kernel), lz, z, rfl, q⟩
abbrev sBeforeRe : Stmt := inClass (top 37) 5
theorem scBeforeRe : FnScope ["self"] ["self"] (defScope sBeforeRe) := ⟨rfl, rfl, rfl, by decide +kernel, rfl, by decide +kernel, by decide +kernel⟩

theorem q_repr5 (T : TmK K Cs CT CL) (D : Dd K (Cs 5) "__repr__" "Before.__repr__" sBeforeRe) : Du P w K mg base CX0 1 (Cs 5) "__repr__" (spReprT Cs 5 "Look") := by
  refine D.du scBeforeRe (fun _ _ _ _ _ _ us hl => match us, hl with | [_], _ => rfl) (fun vs H Q E h => ?_) (fun f cdv A outer s H vs Q E hr h => ?_)
  · obtain ⟨o, t, rfl, _⟩ := h
    rfl
  · obtain ⟨o, t, rfl, th, ec, ln, q⟩ := h
    obtain ⟨dx, fs, ho, cm⟩ := th.node
    have b60 : (100000 : Nat) ≤ sizeLine := by decide
    have e0 : Str.empty.length = 0 := by decide
    have l1 : (Str.ofString "Look(").length = 5 := by decide
    have l3 : (Str.ofString ")").length = 1 := by decide
    refine ⟨_, (pss_one (ps_ret (pe_joined (.cons pe_str (.cons (pe_fmt (pe_fld (pv 0) rfl)) (.cons pe_str .nil)))))), ?_⟩
    refine ⟨_, rfl, (by decide), _, rfl, o, _, dx, fs, _, rfl, ho, T.cl _ t.ci_lt, T.na _ t.ci_lt _ (by decide +kernel), cm.text, .inl ⟨_, rfl, by omega, _, rfl, (by simp only [app_len]; omega), _, rfl, (by simp only [app_len]; omega), ?_⟩⟩
    rw [show (Str.ofString "Look" ++ "(" ++ t.txt ++ ")" : Str) = Str.empty ++ Str.ofString "Look(" ++ t.txt ++ Str.ofString ")" from by
      refine Tm.str_ext ?_
      simp only [TL.tl_append, List.append_assoc]
      rfl] at q
    exact q

abbrev sAfterSt : Stmt := inClass (top 38) 4
theorem scAfterSt : FnScope ["self"] ["self"] (defScope sAfterSt) := ⟨rfl, rfl, rfl, by decide +kernel, rfl, by decide +kernel, by decide +kernel⟩

theorem q_str6 (T : TmK K Cs CT CL) (B : Nb mg) (D : Dd K (Cs 6) "__str__" "After.__str__" sAfterSt) : Du P w K mg base CX0 1 (Cs 6) "__str__" (spStrT Cs 6) := by
  refine D.du scAfterSt (fun _ _ _ _ _ _ us hl => match us, hl with | [_], _ => rfl) (fun vs H Q E h => ?_) (fun f cdv A outer s H vs Q E hr h => ?_)
  · obtain ⟨o, dx, fs, z, rfl, _⟩ := h
    rfl
  · obtain ⟨o, dx, fs, z, rfl, ho, lz, q⟩ := h
    refine ⟨_, (pss_one (ps_ret (pe_callTy SkE.call_str_str (by rfl) B.str (by decide +kernel) (pa_cons (pe_fld (pv 0) rfl) pa_nil)))), ?_⟩
    exact ⟨_, rfl, o, _, dx, fs, _, rfl, ho, T.cl _ (by decide), T.na _ (by decide) _ (by decide +kernel), lz, z, rfl, q⟩
abbrev sAfterRe : Stmt := inClass (top 38) 5
theorem scAfterRe : FnScope ["self"] ["self"] (defScope sAfterRe) := ⟨rfl, rfl, rfl, by decide +kernel, rfl, by decide +kernel, by decide +kernel⟩

theorem q_repr6 (T : TmK K Cs CT CL) (D : Dd K (Cs 6) "__repr__" "After.__repr__" sAfterRe) : Du P w K mg base CX0 1 (Cs 6) "__repr__" (spReprT Cs 6 "Look") := by
  refine D.du scAfterRe (fun _ _ _ _ _ _ us hl => match us, hl with | [_], _ => rfl) (fun vs H Q E h => ?_) (fun f cdv A outer s H vs Q E hr h => ?_)
  · obtain ⟨o, t, rfl, _⟩ := h
    rfl
  · obtain ⟨o, t, rfl, th, ec, ln, q⟩ := h
    obtain ⟨dx, fs, ho, cm⟩ := th.node
    have b60 : (100000 : Nat) ≤ sizeLine := by decide
    have e0 : Str.empty.length = 0 := by decide
    have l1 : (Str.ofString "Look(").length = 5 := by decide
    have l3 : (Str.ofString ")").length = 1 := by decide
    refine ⟨_, (pss_one (ps_ret (pe_joined (.cons pe_str (.cons (pe_fmt (pe_fld (pv 0) rfl)) (.cons pe_str .nil)))))), ?_⟩
    refine ⟨_, rfl, (by decide), _, rfl, o, _, dx, fs, _, rfl, ho, T.cl _ t.ci_lt, T.na _ t.ci_lt _ (by decide +kernel), cm.text, .inl ⟨_, rfl, by omega, _, rfl, (by simp only [app_len]; omega), _, rfl, (by simp only [app_len]; omega), ?_⟩⟩
    rw [show (Str.ofString "Look" ++ "(" ++ t.txt ++ ")" : Str) = Str.empty ++ Str.ofString "Look(" ++ t.txt ++ Str.ofString ")" from by
      refine Tm.str_ext ?_
      simp only [TL.tl_append, List.append_assoc]
      rfl] at q
    exact q
end
end K04


/-! a tree's sides -/
namespace Tm
open PySem PySem.Spec PyProof.Rows L2 Rng Bag Own1 Cal
inductive Sd where
  | tr (t : Tr)
  | int (n : Int)
  | str (z : Str)
  | bl (b : Bool)
  | non
def Sd.txt : Sd → Option Str
  | .tr t => some t.txt
  | .int n => some (intT n)
  | .str z => some z
  | .bl b => if b then some "strict" else none
  | .non => none
def Sd.sub : Sd → Option Tr
  | .tr t => some t
  | _ => none
def SdV (H : Hp) : Sd → V → Prop
  | .tr t, v => TupTr H t v
  | .int n, v => v = .int n
  | .str z, v => v = .str z
  | .bl b, v => v = .bl b
  | .non, v => v = .non
inductive SdAll (H : Hp) : List Sd → List V → Prop
  | nil : SdAll H [] []
  | cons {d : Sd} {v : V} {ds : List Sd} {vs : List V} : SdV H d v → SdAll H ds vs → SdAll H (d :: ds) (v :: vs)
theorem SdV.kp {H H' : Hp} {d : Sd} {v : V} (h : SdV H d v) (k : Kp H H') : SdV H' d v := by
  cases d with
  | tr t => exact TupTr.kp k h
  | _ => exact h
theorem SdAll.kp {H H' : Hp} {ds : List Sd} {vs : List V} (h : SdAll H ds vs) (k : Kp H H') : SdAll H' ds vs := by
  induction h with
  | nil => exact .nil
  | cons a _ ih => exact .cons (a.kp k) ih
theorem SdAll.len {H : Hp} {ds : List Sd} {vs : List V} (h : SdAll H ds vs) : vs.length = ds.length := by
  induction h with
  | nil => rfl
  | cons _ _ ih => exact congrArg Nat.succ ih
theorem SdAll.get {H : Hp} {ds : List Sd} {vs : List V} (h : SdAll H ds vs) : ∀ {i : Nat} {v : V}, vs[i]? = some v → ∃ d, ds[i]? = some d ∧ SdV H d v := by
  induction h with
  | nil => intro i v e; cases e
  | cons a _ ih =>
    intro i v e
    cases i with
    | zero => cases e; exact ⟨_, rfl, a⟩
    | succ i => exact ih e
def wS : Option Int → Sd
  | none => .non
  | some n => .int n
def Tr.sides : Tr → List Sd
  | .now => []
  | .shift t n => [.tr t, .int n]
  | .floor t => [.tr t]
  | .ceil t => [.tr t]
  | .row l => [.tr l]
  | .look _ f t w s => [.str f, .tr t, wS w, .bl s]
def Tr.word : Tr → Str
  | .now => "now"
  | .shift _ _ => "shift"
  | .floor _ => "floor"
  | .ceil _ => "ceil"
  | .row _ => "time"
  | .look a _ _ _ _ => wordL a
def Tr.isNow : Tr → Bool
  | .now => true
  | _ => false
theorem TupTr.parts {H : Hp} {t : Tr} {v : V} (h : TupTr H t v) : ∃ p us, v = .ref p ∧ H p = some (.tup (.str t.word :: us)) ∧ SdAll H t.sides us := by
  cases t with
  | now =>
    obtain ⟨p, e, h⟩ := h
    exact ⟨p, [], e, h, .nil⟩
  | shift t n =>
    obtain ⟨p, u, e, h, k⟩ := h
    exact ⟨p, _, e, h, .cons k (.cons rfl .nil)⟩
  | floor t =>
    obtain ⟨p, u, e, h, k⟩ := h
    exact ⟨p, _, e, h, .cons k .nil⟩
  | ceil t =>
    obtain ⟨p, u, e, h, k⟩ := h
    exact ⟨p, _, e, h, .cons k .nil⟩
  | row t =>
    obtain ⟨p, u, e, h, k⟩ := h
    exact ⟨p, _, e, h, .cons k .nil⟩
  | look a f t w s =>
    obtain ⟨p, u, e, h, k⟩ := h
    exact ⟨p, _, e, h, .cons rfl (.cons k (.cons (by cases w <;> rfl) (.cons rfl .nil)))⟩
theorem Tr.txt_sides {t : Tr} (h : t.isNow = false) : t.txt = wrap t.word (t.sides.filterMap Sd.txt) := by
  cases t with
  | now => cases h
  | look a f t w s => cases w <;> cases s <;> rfl
  | _ => rfl
theorem Tr.side_tr {t u : Tr} (h : Sd.tr u ∈ t.sides) (ok : t.ok) : u.ok ∧ u.dep ≤ t.dep ∧ u.hgt < t.hgt := by
  cases t with
  | now => cases h
  | shift t n =>
    simp only [Tr.sides, List.mem_cons, List.not_mem_nil, or_false] at h
    rcases h with h | h
    · cases h; exact ⟨ok.2.1, Nat.le_succ _, Nat.lt_succ_self _⟩
    · cases h
  | floor t =>
    simp only [Tr.sides, List.mem_cons, List.not_mem_nil, or_false] at h
    cases h; exact ⟨ok.2, Nat.le_succ _, Nat.lt_succ_self _⟩
  | ceil t =>
    simp only [Tr.sides, List.mem_cons, List.not_mem_nil, or_false] at h
    cases h; exact ⟨ok.2, Nat.le_succ _, Nat.lt_succ_self _⟩
  | row t =>
    simp only [Tr.sides, List.mem_cons, List.not_mem_nil, or_false] at h
    cases h; exact ⟨ok.2, Nat.le_succ _, Nat.lt_succ_self _⟩
  | look a f t w s =>
    simp only [Tr.sides, List.mem_cons, List.not_mem_nil, or_false] at h
    rcases h with h | h | h | h
    · cases h
    · cases h; exact ⟨ok.2.2.1, Nat.le_refl _, Nat.lt_succ_self _⟩
    · cases w <;> cases h
    · cases h
theorem Tr.sides_len (t : Tr) : t.sides.length ≤ 4 := by
  cases t <;> exact Nat.le_of_ble_eq_true rfl
theorem Tr.sides_ok {t : Tr} (ok : t.ok) : ∀ d ∈ t.sides, (∀ n, d = .int n → n.natAbs.log2 < 1920) ∧ ∀ z, d = .str z → z.length ≤ 8 := by
  intro d hd
  cases t with
  | now => cases hd
  | shift t n =>
    simp only [Tr.sides, List.mem_cons, List.not_mem_nil, or_false] at hd
    rcases hd with rfl | rfl
    · exact ⟨fun n e => (nomatch e), fun z e => (nomatch e)⟩
    · exact ⟨fun n e => by cases e; exact log9 ok.2.2.1 ok.2.2.2, fun z e => (nomatch e)⟩
  | floor t =>
    simp only [Tr.sides, List.mem_cons, List.not_mem_nil, or_false] at hd
    subst hd
    exact ⟨fun n e => (nomatch e), fun z e => (nomatch e)⟩
  | ceil t =>
    simp only [Tr.sides, List.mem_cons, List.not_mem_nil, or_false] at hd
    subst hd
    exact ⟨fun n e => (nomatch e), fun z e => (nomatch e)⟩
  | row t =>
    simp only [Tr.sides, List.mem_cons, List.not_mem_nil, or_false] at hd
    subst hd
    exact ⟨fun n e => (nomatch e), fun z e => (nomatch e)⟩
  | look a f t w s =>
    simp only [Tr.sides, List.mem_cons, List.not_mem_nil, or_false] at hd
    rcases hd with rfl | rfl | rfl | rfl
    · exact ⟨fun n e => (nomatch e), fun z e => by cases e; exact name8 ok.1⟩
    · exact ⟨fun n e => (nomatch e), fun z e => (nomatch e)⟩
    · cases w with
      | none => exact ⟨fun n e => (nomatch e), fun z e => (nomatch e)⟩
      | some m => exact ⟨fun n e => by cases e; exact log9 (by have := ok.2.2.2 m rfl; omega) (by have := ok.2.2.2 m rfl; omega), fun z e => (nomatch e)⟩
    · exact ⟨fun n e => (nomatch e), fun z e => (nomatch e)⟩
/-- the sides' texts are short -/
theorem Tr.sides_sum {t : Tr} (ok : t.ok) (h : t.isNow = false) {d : Nat} (hd : t.dep ≤ d) : sumL (t.sides.filterMap Sd.txt) ≤ 200 * d + 100 := by
  cases t with
  | now => cases h
  | shift t n =>
    have a := Tr.txt_le ok.2.1 (d := d) (Nat.le_trans (Nat.le_succ _) hd)
    have b := intT_len ok.2.2.1 ok.2.2.2
    show t.txt.length + 2 + ((intT n).length + 2 + 0) ≤ _
    omega
  | floor t =>
    have a := Tr.txt_le ok.2 (d := d) (Nat.le_trans (Nat.le_succ _) hd)
    show t.txt.length + 2 + 0 ≤ _
    omega
  | ceil t =>
    have a := Tr.txt_le ok.2 (d := d) (Nat.le_trans (Nat.le_succ _) hd)
    show t.txt.length + 2 + 0 ≤ _
    omega
  | row t =>
    have a := Tr.txt_le ok.2 (d := d) (Nat.le_trans (Nat.le_succ _) hd)
    show t.txt.length + 2 + 0 ≤ _
    omega
  | look a f t w s =>
    have a1 := Tr.txt_le ok.2.2.1 (d := d) hd
    have b := boundT_len ok.2.2.2
    have c : sumL (strictT s) ≤ 8 := by cases s <;> decide
    have f8 := name8 ok.1
    have e : (Tr.look a f t w s).sides.filterMap Sd.txt = [f, t.txt] ++ boundT w ++ strictT s := by cases w <;> cases s <;> rfl
    rw [e, sumL_app, sumL_app]
    simp only [sumL]
    omega
/-! ### rules -/
section
variable {X : Cx}
/-- str(x) of an int or a text -/
def rStrIS : List V → Hp → VK → Prop := fun xs H Q => (∃ i : Int, xs = [.int i] ∧ i.natAbs.log2 < 1920 ∧ Q (.str (intT i)) H) ∨ ∃ z : Str, xs = [.str z] ∧ Q (.str z) H
theorem call_strIS : CallR X (.type "str") rStrIS := by
  rintro pins s σ H xs us Q I r (⟨i, rfl, h, q⟩ | ⟨z, rfl, q⟩)
  · exact call_str_int pins s σ H _ us Q I r ⟨i, rfl, h, q⟩
  · exact SkE.call_str_str pins s σ H _ us Q I r ⟨z, rfl, q⟩
end
theorem SdV.isTup {K : PySem.W.Frag} {H : Hp} {d : Sd} {v : V} (h : SdV H d v) : ∃ t, TyX K H v t ∧ PySem.W.kitOne K t (.type "tuple") = some d.sub.isSome := by
  cases d with
  | tr t =>
    obtain ⟨p, us, rfl, e, _⟩ := TupTr.parts h
    exact ⟨_, .base (.tup e), kit_ty (show kitB "tuple" "tuple" = some true by decide +kernel)⟩
  | int n => cases (show v = .int n from h); exact ⟨_, .base (.int n), kit_ty (show kitB "int" "tuple" = some false by decide +kernel)⟩
  | str z => cases (show v = .str z from h); exact ⟨_, .base (.str z), kit_ty (show kitB "str" "tuple" = some false by decide +kernel)⟩
  | bl b => cases (show v = .bl b from h); exact ⟨_, .base (.bl b), kit_ty (show kitB "bool" "tuple" = some false by decide +kernel)⟩
  | non => cases (show v = .non from h); exact ⟨_, .base .non, kit_ty (by decide +kernel)⟩
theorem cut1 (x : V) (us : List V) : cutV (x :: us) (some 1) none = us := by
  unfold cutV
  have e1 : HT.sIx (x :: us).length 0 (some 1) = 1 := by
    unfold HT.sIx
    simp
  have e2 : HT.sIx (x :: us).length (x :: us).length none = (x :: us).length := rfl
  rw [e1, e2]
  show (us.drop 0).take (us.length + 1 - 1) = us
  rw [List.drop_zero, Nat.add_sub_cancel, List.take_length]
theorem cut1_not (x : V) (us : List V) : ¬ (HT.sIx (x :: us).length 0 (some 1) = 0 ∧ HT.sIx (x :: us).length (x :: us).length none = (x :: us).length) := by
  have e1 : HT.sIx (x :: us).length 0 (some 1) = 1 := by
    unfold HT.sIx
    simp
  rw [e1]
  exact fun h => (nomatch h.1)
def Tr.isNet : Tr → Bool
  | .floor _ => true
  | .ceil _ => true
  | _ => false
theorem in_now (t : Tr) : inV (.str t.word) [.str "now", .str "missing"] = t.isNow := by
  cases t with
  | look a f t w s => cases a <;> rfl
  | _ => rfl
theorem in_look (t : Tr) : inV (.str t.word) [.str "before", .str "after"] = t.isLook := by
  cases t with
  | look a f t w s => cases a <;> rfl
  | _ => rfl
theorem in_net (t : Tr) : inV (.str t.word) [.str "floor", .str "ceil"] = t.isNet := by
  cases t with
  | look a f t w s => cases a <;> rfl
  | _ => rfl
theorem Tr.hgt_pos (t : Tr) : 1 ≤ t.hgt := by
  cases t <;> exact Nat.succ_le_succ (Nat.zero_le _)
theorem Tr.word_len (t : Tr) : t.word.length ≤ 6 := by
  cases t with
  | now => exact (by decide : ("now" : Str).length ≤ 6)
  | shift t n => exact (by decide : ("shift" : Str).length ≤ 6)
  | floor t => exact (by decide : ("floor" : Str).length ≤ 6)
  | ceil t => exact (by decide : ("ceil" : Str).length ≤ 6)
  | row t => exact (by decide : ("time" : Str).length ≤ 6)
  | look a f t w s =>
    show (wordL a).length ≤ 6
    cases a <;> decide
theorem tx_wrap (w : Str) (l : List Str) : w ++ Str.ofString "(" ++ Txt.join (Str.ofString ", ") l ++ Str.ofString ")" = wrap w l := rfl
/-- what the law's tree defs promise -/
def spSaid (n : Nat) : Sp := fun vs H Q _ => ∃ (v : V) (t : Tr), vs = [v] ∧ TupTr H t v ∧ t.ok ∧ t.dep ≤ 9 ∧ t.hgt ≤ n ∧ ∀ H', Same H H' → Q (.str t.txt) H'
def spDeep (n : Nat) : Sp := fun vs H Q _ => ∃ (v : V) (t : Tr), vs = [v] ∧ TupTr H t v ∧ t.ok ∧ t.hgt ≤ n ∧ ∀ H', Same H H' → Q (.int (t.dep : Int)) H'
end Tm
namespace Tm
open PySem L2 Rng
theorem at0 (x : V) (us : List V) : atI (x :: us) 0 = some x := atI_nat (j := 0) rfl
theorem at1 (x y : V) (us : List V) : atI (x :: y :: us) 1 = some y := atI_nat (j := 1) rfl
theorem at2 (x y z : V) (us : List V) : atI (x :: y :: z :: us) 2 = some z := atI_nat (j := 2) rfl
theorem at3 (x y z a : V) (us : List V) : atI (x :: y :: z :: a :: us) 3 = some a := atI_nat (j := 3) rfl
theorem at4 (x y z a b : V) (us : List V) : atI (x :: y :: z :: a :: b :: us) 4 = some b := atI_nat (j := 4) rfl
end Tm
namespace Tm
open PySem PySem.Spec PyProof.Rows L2 Rng Bag
/-- the words that are asked for, who they are, what stands inside -/
def wordsB (b : Bool) : List Str := if b then ["before", "after"] else ["floor", "ceil"]
def Tr.sel (b : Bool) (t : Tr) : Bool := if b then t.isLook else t.isNet
def Tr.col (b : Bool) (t : Tr) : List Str := if b then t.lks else t.gds
theorem in_sel (b : Bool) (t : Tr) : inV (.str t.word) ((wordsB b).map V.str) = t.sel b := by
  cases b with
  | true => exact in_look t
  | false => exact in_net t
theorem col_mem (b : Bool) (t : Tr) (z : Str) : z ∈ t.col b ↔ (t.sel b = true ∧ z = t.txt) ∨ ∃ u, Sd.tr u ∈ t.sides ∧ z ∈ u.col b := by
  cases b <;> cases t <;> simp [Tr.col, Tr.sel, Tr.isLook, Tr.isNet, Tr.sides, Tr.lks, Tr.gds, List.mem_cons]
  · rename_i a f u w s
    cases w <;> simp [wS]
  · rename_i a f u w s
    cases w <;> simp [wS]
theorem col_len (b : Bool) (t : Tr) : (t.col b).length ≤ t.hgt := by
  cases b with
  | true => exact t.lks_len
  | false => exact t.gds_len
theorem IsSS.le {zs l : List Str} (h : IsSS zs l) : zs.length ≤ l.length := by
  have p : zs.Perm (firsts l) := (List.perm_ext_iff_of_nodup h.one (firsts_nodup l)).mpr fun z => (h.mem z).trans (mem_firsts l z).symm
  rw [p.length_eq]
  exact firsts_len _ l rfl
theorem isSS_of {ys xs l : List Str} (p : ys.Perm (firsts xs)) (s : PyProof.Rows.sortedS ys = true) (h : ∀ z, z ∈ xs ↔ z ∈ l) : IsSS ys l :=
  ⟨s, p.nodup_iff.mpr (firsts_nodup xs), fun z => p.mem_iff.trans ((mem_firsts xs z).trans (h z))⟩
def spInside (n : Nat) : Sp := fun vs H Q _ => ∃ (v : V) (wl : Addr) (t : Tr) (b : Bool), vs = [v, .ref wl] ∧ TupTr H t v ∧ t.ok ∧ t.dep ≤ 9 ∧ t.hgt ≤ n ∧ H wl = some (.lst ((wordsB b).map V.str)) ∧
  ∀ (l : Addr) (zs : List Str) (H' : Hp), H l = none → Same H H' → H' l = some (.lst (zs.map V.str)) → IsSS zs (t.col b) → Q (.ref l) H'
end Tm
namespace Tm
open PySem PySem.Spec PyProof.Rows L2 Rng Bag
theorem word_now (t : Tr) : decide (V.str t.word = V.str "now") = t.isNow := by
  cases t with
  | look a f t w s => cases a <;> rfl
  | _ => rfl
theorem one_side {H : Hp} {t : Tr} {us : List V} (sd : SdAll H t.sides us) (ok : t.ok) (h1 : t.isNow = false) (h2 : t.isLook = false) : ∃ u x r, us = x :: r ∧ TupTr H u x ∧ u.ok ∧ t.hgt = u.hgt + 1 ∧ t.dep = u.dep + 1 := by
  cases t with
  | now => cases h1
  | look a f t w s => cases h2
  | shift t n => cases sd with | cons a r => exact ⟨t, _, _, rfl, a, ok.2.1, rfl, rfl⟩
  | floor t => cases sd with | cons a r => exact ⟨t, _, _, rfl, a, ok.2, rfl, rfl⟩
  | ceil t => cases sd with | cons a r => exact ⟨t, _, _, rfl, a, ok.2, rfl, rfl⟩
  | row t => cases sd with | cons a r => exact ⟨t, _, _, rfl, a, ok.2, rfl, rfl⟩
theorem look_side {H : Hp} {t : Tr} {us : List V} (sd : SdAll H t.sides us) (ok : t.ok) (h2 : t.isLook = true) : ∃ a f u w s x, t = .look a f u w s ∧ us = [.str f, x, wV w, .bl s] ∧ TupTr H u x := by
  cases t with
  | look a f u w s =>
    match sd with
    | .cons h1 (.cons k2 (.cons h3 (.cons h4 .nil))) =>
      refine ⟨a, f, u, w, s, _, rfl, ?_, k2⟩
      cases (show _ = V.str f from h1)
      cases (show _ = V.bl s from h4)
      cases w with
      | none => cases (show _ = V.non from h3); rfl
      | some n => cases (show _ = V.int n from h3); rfl
  | _ => cases h2
end Tm


namespace K04
open PySem PySem.Spec PyProof.Rows L2 Rng Bag Gd Cal Tm Tr4 Own1
section
variable {P : Program} {w : World} {K : PySem.W.Frag} {mg : Str → Option Value} {base : Heap} {Cs : Nat → Addr} {CT CL : Addr} {e : Ers}

abbrev sSaid : Stmt := top 46
theorem scSaid : FnScope ["_law_tree", "_law_sides", "_law_side"] ["_law_tree"] (defScope sSaid) := ⟨rfl, rfl, rfl, by decide +kernel, rfl, by decide +kernel, by decide +kernel⟩

theorem c_said (D : Df K mg "_law_said" sSaid) (B : Nb mg) : ∀ n, Cl P w K mg base CX0 n "_law_said" ["_law_tree"] (spSaid n) := by
  intro n
  induction n with
  | zero =>
    obtain ⟨f, fd, m, F⟩ := D.ex
    exact ⟨f, fd, m, F.kp, F.binds (fun _ _ _ _ _ _ us hl => match us, hl with | [_], _ => rfl), ⟨fun vs H Q E ⟨v, t, e, _⟩ => by rw [e]; rfl, fun A outer s H args us vs Q E hr e0 hb hv ⟨v, t, e, _, _, _, hh, _⟩ => absurd t.hgt_pos (by omega)⟩⟩
  | succ n ih =>
    refine D.cl scSaid (fun _ _ _ _ _ _ us hl => match us, hl with | [_], _ => rfl) (fun vs H Q E h => ?_) (fun f cdv A outer s H vs Q E hr h => ?_)
    · obtain ⟨v, t, rfl, _⟩ := h
      rfl
    · obtain ⟨v, t, rfl, tt, ok, dp, hh, q⟩ := h
      obtain ⟨p, us, rfl, hp, sd⟩ := tt.parts
      have sl := sd.len
      have s4 := t.sides_len
      have sok := Tr.sides_ok ok
      refine ⟨_, (pss_cons (ps_set (i := 1) scSaid.nd rfl (Or.inl rfl) (pe_lst pa_nil))
      (pss_cons (ps_for PassesOwn.never rfl (pi_tup (pe_slice sl_tup (pv 0) (po_some pe_int) po_none)) (pg_name (i := 2) scSaid.nd rfl (Or.inl rfl)) (pss_one (ps_if (pt_val (pe_callB call_isi (by rfl) B.isinstance (by decide +kernel) (pa_cons (pv 2) (pa_cons (pe_bltn (v := .ty "tuple") (by rfl) B.tuple (by decide +kernel) rfl) pa_nil)))) (pss_one (ps_expr (pe_bm PySem.F.plainAttrs_list PySem.F.slot_list_append PySem.F.type_list_append mt_append (pv 1) (pa_cons (pe_c ih hr rfl pass0 (pa_cons (pv 2) pa_nil)) pa_nil)))) (pss_one (ps_if (pt_cmpR op_isB (pv 2) pe_bl (nomark _)) (pss_one (ps_expr (pe_bm PySem.F.plainAttrs_list PySem.F.slot_list_append PySem.F.type_list_append mt_append (pv 1) (pa_cons pe_str pa_nil)))) (pss_one (ps_if (PW.pt (pw_and (pt_cmp (pc_notN (pv 2))) (pw_and1 (pt_cmpR op_isnotB (pv 2) pe_bl (nomark _))))) (pss_one (ps_expr (pe_bm PySem.F.plainAttrs_list PySem.F.slot_list_append PySem.F.type_list_append mt_append (pv 1) (pa_cons (pe_callTy call_strIS (by rfl) B.str (by decide +kernel) (pa_cons (pv 2) pa_nil)) pa_nil)))) pss_nil)))))))
      (pss_one (ps_ret (pe_ifExp (pt_cmpR op_notIn_seq (pe_ix ix_tup (pv 0) pe_int (fun _ _ => rfl)) (pe_lst (pa_cons pe_str (pa_cons pe_str pa_nil))) (by rfl)) (pe_op op_add_str (pe_op op_add_str (pe_op op_add_str (pe_ix ix_tup (pv 0) pe_int (fun _ _ => rfl)) pe_str) (pe_join pe_str (pv 1))) pe_str) (pe_ix ix_tup (pv 0) pe_int (fun _ _ => rfl))))))), ?_⟩
      refine ⟨(by decide), fun l nl => ⟨_, rfl, 1, rfl, p, _, rfl, SqT.of ((same_put nl) _ _ hp), cut1_not _ _, fun p2 n2 => ?_⟩⟩
      rw [cut1]
      have e1 : (upd (upd H l (.lst [])) p2 (.tup us)) l = some (.lst []) := by rw [upd_ne (ne_of_none upd_same n2)]; exact upd_same
      have s1 : Same H (upd (upd H l (.lst [])) p2 (.tup us)) := (same_put nl).trans (same_put n2)
      have e2 : (upd (upd H l (.lst [])) p2 (.tup us)) p2 = some (.tup us) := upd_same
      generalize upd (upd H l (.lst [])) p2 (.tup us) = J1 at e1 s1 e2 ⊢
      have lp : p2 ≠ l := fun z => by rw [z, e1] at e2; cases e2
      refine ⟨p2, rfl, ⟨_, SqT.of e2⟩, for_it (walk_tup (K := K) (a := p2) (xs := us)) (fun i σ G => ∃ x2, σ = [some (.ref p), some (.ref l), x2] ∧ Same H G ∧ G p2 = some (.tup us) ∧ G l = some (.lst (((t.sides.take i).filterMap Sd.txt).map V.str))) ⟨_, rfl, s1, e2, e1⟩ (fun _ _ _ _ ⟨_, _, _, z, _⟩ => SqT.of z) ?_ ?_⟩
      · rintro i x σ Ga Gb hi ⟨x2, rfl, sa, ep, el⟩ ⟨rfl, hx⟩
        obtain ⟨d, hd, dv⟩ := sd.get hx
        have dv' := dv.kp sa.kp
        have tk : t.sides.take (i + 1) = t.sides.take i ++ [d] := by rw [List.take_add_one, hd]; rfl
        have dm := List.mem_of_getElem? hd
        obtain ⟨o1, o2⟩ := sok d dm
        have small : (((t.sides.take i).filterMap Sd.txt).map V.str).length < sizeLine := by
          have h1 := List.length_filterMap_le Sd.txt (t.sides.take i)
          rw [List.length_take] at h1
          rw [List.length_map]
          exact small1000 (by omega)
        have add : ∀ (z : Str) (Gc : Hp), d.txt = some z → Same Gb Gc → ∃ x2', [some (.ref p), some (.ref l), some x] = [some (.ref p), some (.ref l), x2'] ∧ Same H (upd Gc l (.lst (((t.sides.take i).filterMap Sd.txt).map V.str ++ [V.str z]))) ∧ (upd Gc l (.lst (((t.sides.take i).filterMap Sd.txt).map V.str ++ [V.str z]))) p2 = some (.tup us) ∧ (upd Gc l (.lst (((t.sides.take i).filterMap Sd.txt).map V.str ++ [V.str z]))) l = some (.lst (((t.sides.take (i + 1)).filterMap Sd.txt).map V.str)) := fun z Gc ez sc => by
          refine ⟨_, rfl, fun c u e => by rw [upd_ne (ne_of_none e nl)]; exact sc _ _ (sa _ _ e), by rw [upd_ne lp]; exact sc _ _ ep, ?_⟩
          rw [upd_same, tk, List.filterMap_append, List.map_append]
          simp [List.filterMap_cons, ez]
        obtain ⟨ty, tx, kk⟩ := dv'.isTup
        refine ⟨_, rfl, _, _, _, _, _, rfl, .ty _, tx, kk, _, rfl, ?_⟩
        cases d with
        | tr u =>
          obtain ⟨uk, ud, uh⟩ := Tr.side_tr dm ok
          exact iteT ⟨_, rfl, .inl ⟨rfl, _, SqL.of el⟩, _, rfl, _, u, rfl, dv', uk, Nat.le_trans ud dp, by omega, fun Gc sc => ⟨l, _, _, rfl, rfl, sc _ _ el, small, add _ Gc rfl sc⟩⟩
        | int m =>
          cases (show x = .int m from dv)
          exact iteF ⟨_, rfl, _, rfl, decide (V.int m = V.bl true), rfl, iteF ⟨_, rfl, true, rfl, iteT ⟨_, rfl, _, rfl, _, rfl, iteT ⟨_, rfl, .inl ⟨rfl, _, SqL.of el⟩, _, rfl, .inl ⟨m, rfl, o1 m rfl, l, _, _, rfl, rfl, el, small, add _ Gb rfl (Same.refl _)⟩⟩⟩⟩⟩
        | str z =>
          cases (show x = .str z from dv)
          exact iteF ⟨_, rfl, _, rfl, decide (V.str z = V.bl true), rfl, iteF ⟨_, rfl, true, rfl, iteT ⟨_, rfl, _, rfl, _, rfl, iteT ⟨_, rfl, .inl ⟨rfl, _, SqL.of el⟩, _, rfl, .inr ⟨z, rfl, l, _, _, rfl, rfl, el, small, add _ Gb rfl (Same.refl _)⟩⟩⟩⟩⟩
        | bl b =>
          cases (show x = .bl b from dv)
          cases b with
          | true => exact iteF ⟨_, rfl, _, rfl, decide (V.bl true = V.bl true), rfl, iteT ⟨_, rfl, .inl ⟨rfl, _, SqL.of el⟩, l, _, _, rfl, rfl, el, small, add _ Gb rfl (Same.refl _)⟩⟩
          | false => exact iteF ⟨_, rfl, _, rfl, decide (V.bl false = V.bl true), rfl, iteF ⟨_, rfl, true, rfl, iteT ⟨_, rfl, _, rfl, _, rfl, iteF ⟨_, rfl, sa, ep, by rw [tk, List.filterMap_append, show List.filterMap Sd.txt [_] = [] from rfl, List.append_nil]; exact el⟩⟩⟩⟩
        | non =>
          cases (show x = .non from dv)
          exact iteF ⟨_, rfl, _, rfl, decide (V.non = V.bl true), rfl, iteF ⟨_, rfl, false, rfl, iteF (iteF ⟨_, rfl, sa, ep, by rw [tk, List.filterMap_append, show List.filterMap Sd.txt [_] = [] from rfl, List.append_nil]; exact el⟩)⟩⟩
      · rintro σ Ga ⟨x2, rfl, sa, ep, el⟩
        rw [sl, List.take_length] at el
        have hp' := sa _ _ hp
        have hP : ∀ {G : Hp}, Same Ga G → SqT K G p (.str t.word :: us) := fun z => SqT.of (z _ _ hp')
        refine ⟨_, rfl, p, _, 0, .str t.word, rfl, rfl, hP (Same.refl _), at0 _ _, (by show 2 ≤ sizeLine; decide), fun r nr => ⟨r, _, rfl, .inl (SqL.of upd_same), rfl, rfl, ?_⟩⟩
        have sr : Same Ga (upd Ga r (.lst [.str "now", .str "missing"])) := same_put nr
        have el2 := sr _ _ el
        have sH := sa.trans sr
        refine ⟨_, rfl, ?_⟩
        show ite ((!inV (.str t.word) [.str "now", .str "missing"]) = true) _ _
        rw [in_now]
        generalize upd Ga r (.lst [.str "now", .str "missing"]) = Gz at sr el2 sH ⊢
        cases hN : t.isNow with
        | true =>
          refine iteF ⟨_, rfl, p, _, 0, .str t.word, rfl, rfl, hP sr, at0 _ _, ?_⟩
          cases t <;> first | exact q _ sH | exact (nomatch hN)
        | false =>
          have b60 : (100000 : Nat) ≤ sizeLine := by decide
          have sm := Tr.sides_sum ok hN dp
          have wl := t.word_len
          have jl := join_len (t.sides.filterMap Sd.txt)
          have l1 : (Str.ofString "(").length = 1 := by decide
          have l3 : (Str.ofString ")").length = 1 := by decide
          refine iteT ⟨_, rfl, p, _, 0, .str t.word, rfl, rfl, hP sr, at0 _ _, _, _, rfl, rfl, (by omega), ⟨_, rfl⟩, _, rfl, _, l, t.sides.filterMap Sd.txt, rfl, rfl, .inl (SqL.of el2), (by rw [sumL_eq]; omega), _, _, rfl, rfl, (by rw [app_len]; omega), _, _, rfl, rfl, (by rw [app_len, app_len]; omega), ?_⟩
          rw [tx_wrap, ← Tr.txt_sides hN]
          exact q _ sH

abbrev sDeep : Stmt := top 47
theorem scDeep : FnScope ["_law_tree"] ["_law_tree"] (defScope sDeep) := ⟨rfl, rfl, rfl, by decide +kernel, rfl, by decide +kernel, by decide +kernel⟩

theorem c_deep (D : Df K mg "_law_deep" sDeep) (B : Nb mg) : ∀ n, Cl P w K mg base CX0 n "_law_deep" ["_law_tree"] (spDeep n) := by
  intro n
  induction n with
  | zero =>
    obtain ⟨f, fd, m, F⟩ := D.ex
    exact ⟨f, fd, m, F.kp, F.binds (fun _ _ _ _ _ _ us hl => match us, hl with | [_], _ => rfl), ⟨fun vs H Q E ⟨v, t, e, _⟩ => by rw [e]; rfl, fun A outer s H args us vs Q E hr e0 hb hv ⟨v, t, e, _, _, hh, _⟩ => absurd t.hgt_pos (by omega)⟩⟩
  | succ n ih =>
    refine D.cl scDeep (fun _ _ _ _ _ _ us hl => match us, hl with | [_], _ => rfl) (fun vs H Q E h => ?_) (fun f cdv A outer s H vs Q E hr h => ?_)
    · obtain ⟨v, t, rfl, _⟩ := h
      rfl
    · obtain ⟨v, t, rfl, tt, ok, hh, q⟩ := h
      have tt' := tt
      obtain ⟨p, us, rfl, hp, sd⟩ := tt.parts
      refine ⟨_, (pss_cons (ps_if (pt_cmpR op_eq (pe_ix ix_tup (pv 0) pe_int (fun _ _ => rfl)) pe_str (nomark _)) (pss_one (ps_ret pe_int)) pss_nil)
      (pss_cons (ps_if (pt_cmpR op_in_seq (pe_ix ix_tup (pv 0) pe_int (fun _ _ => rfl)) (pe_lst (pa_cons pe_str (pa_cons pe_str pa_nil))) (by rfl)) (pss_one (ps_ret (pe_c ih hr rfl pass0 (pa_cons (pe_ix ix_tup (pv 0) pe_int (fun _ _ => rfl)) pa_nil)))) pss_nil)
      (pss_one (ps_ret (pe_op op_add pe_int (pe_c ih hr rfl pass0 (pa_cons (pe_ix ix_tup (pv 0) pe_int (fun _ _ => rfl)) pa_nil))))))), ?_⟩
      refine ⟨_, rfl, p, _, 0, .str t.word, rfl, rfl, SqT.of hp, at0 _ _, rfl, _, rfl, ?_⟩
      rw [word_now]
      cases hN : t.isNow with
      | true =>
        refine iteT ?_
        cases t <;> first | exact q _ (Same.refl _) | exact (nomatch hN)
      | false =>
        refine iteF ⟨_, rfl, p, _, 0, .str t.word, rfl, rfl, SqT.of hp, at0 _ _, (by show 2 ≤ sizeLine; decide), fun r nr => ⟨r, _, rfl, .inl (SqL.of upd_same), rfl, rfl, ?_⟩⟩
        have sr : Same H (upd H r (.lst [.str "before", .str "after"])) := same_put nr
        refine ⟨_, rfl, ?_⟩
        show ite ((inV (.str t.word) [.str "before", .str "after"]) = true) _ _
        rw [in_look]
        generalize upd H r (.lst [.str "before", .str "after"]) = Gz at sr ⊢
        cases hL : t.isLook with
        | true =>
          obtain ⟨a, f', u, w, s', x, rfl, rfl, ux⟩ := look_side sd ok hL
          exact iteT ⟨_, rfl, p, _, 2, x, rfl, rfl, SqT.of (sr _ _ hp), at2 _ _ _ _, x, u, rfl, ux.kp sr.kp, ok.2.2.1, Nat.le_of_succ_le_succ hh, fun H' s' => q H' (sr.trans s')⟩
        | false =>
          obtain ⟨u, x, r2, rfl, ux, uk, uh, ud⟩ := one_side sd ok hN hL
          refine iteF ⟨_, rfl, p, _, 1, x, rfl, rfl, SqT.of (sr _ _ hp), at1 _ _ _, x, u, rfl, ux.kp sr.kp, uk, by omega, fun H' s' => ⟨_, _, rfl, rfl, ?_⟩⟩
          have := q H' (sr.trans s')
          rw [ud] at this
          show Q (.int (1 + (u.dep : Int))) H'
          rw [show (1 : Int) + (u.dep : Int) = ((u.dep + 1 : Nat) : Int) from by omega]
          exact this
abbrev sInside : Stmt := top 48
theorem scInside : FnScope ["_law_tree", "_law_words", "_law_found", "_law_side"] ["_law_tree", "_law_words"] (defScope sInside) := ⟨rfl, rfl, rfl, by decide +kernel, rfl, by decide +kernel, by decide +kernel⟩

theorem c_inside (D : Df K mg "_law_inside" sInside) (B : Nb mg) (cS : ∀ n, Cl P w K mg base CX0 n "_law_said" ["_law_tree"] (spSaid n)) : ∀ n, Cl P w K mg base CX0 (n + 1) "_law_inside" ["_law_tree", "_law_words"] (spInside n) := by
  intro n
  induction n with
  | zero =>
    obtain ⟨f, fd, m, F⟩ := D.ex
    exact ⟨f, fd, m, F.kp, F.binds (fun _ _ _ _ _ _ us hl => match us, hl with | [_, _], _ => rfl), ⟨fun vs H Q E ⟨v, wl, t, b, e, _⟩ => by rw [e]; rfl, fun A outer s H args us vs Q E hr e0 hb hv ⟨v, wl, t, b, e, _, _, _, hh, _⟩ => absurd t.hgt_pos (by omega)⟩⟩
  | succ n ih =>
    have cS1 := cS (n + 1)
    refine D.cl scInside (fun _ _ _ _ _ _ us hl => match us, hl with | [_, _], _ => rfl) (fun vs H Q E h => ?_) (fun f cdv A outer s H vs Q E hr h => ?_)
    · obtain ⟨v, wl, t, b, rfl, _⟩ := h
      rfl
    · obtain ⟨v, wl, t, b, rfl, tt, ok, dp, hh, hw, q⟩ := h
      have tt' := tt
      obtain ⟨p, us, rfl, hp, sd⟩ := tt.parts
      have sl := sd.len
      have s4 := t.sides_len
      have h18 := t.hgt_le ok
      have b60 : (100000 : Nat) ≤ sizeLine := by decide
      refine ⟨_, (pss_cons (ps_set (i := 2) scInside.nd rfl (Or.inl rfl) (pe_ifExp (pt_cmpR op_in_seq (pe_ix ix_tup (pv 0) pe_int (fun _ _ => rfl)) (pv 1) (by rfl)) (pe_lst (pa_cons (pe_c cS1 hr rfl pass0 (pa_cons (pv 0) pa_nil)) pa_nil)) (pe_lst pa_nil)))
      (pss_cons (ps_for PassesOwn.never rfl (pi_tup (pe_slice sl_tup (pv 0) (po_some pe_int) po_none)) (pg_name (i := 3) scInside.nd rfl (Or.inl rfl)) (pss_one (ps_if (pt_val (pe_callB call_isi (by rfl) B.isinstance (by decide +kernel) (pa_cons (pv 3) (pa_cons (pe_bltn (v := .ty "tuple") (by rfl) B.tuple (by decide +kernel) rfl) pa_nil)))) (pss_one (ps_set (i := 2) scInside.nd rfl (Or.inl rfl) (pe_op op_cat (pv 2) (pe_c ih hr rfl pass0 (pa_cons (pv 3) (pa_cons (pv 1) pa_nil)))))) pss_nil)))
      (pss_one (ps_ret (pe_callB (cr_sortBag rfl) (by rfl) B.sorted (by decide +kernel) (pa_cons (pe_callTy (cr_setS rfl) (by rfl) B.set (by decide +kernel) (pa_cons (pv 2) pa_nil)) pa_nil)))))), ?_⟩
      have fl : ((wordsB b).map V.str).all flatV = true := by cases b <;> rfl
      have sb82 : (100 : Nat) < PySem.scanBound := by decide
      refine ⟨_, rfl, p, _, 0, .str t.word, rfl, rfl, SqT.of hp, at0 _ _, _, rfl, wl, _, rfl, .inl (SqL.of hw), rfl, fl, ?_⟩
      refine ⟨_, rfl, ?_⟩
      show ite ((inV (.str t.word) ((wordsB b).map V.str)) = true) _ _
      rw [in_sel]
      cases hS : t.sel b with
      | true =>
        refine iteT ⟨_, rfl, _, t, rfl, tt', ok, dp, hh, fun H1 s1 => ⟨(by show 1 ≤ sizeLine; decide), fun l nl => ?_⟩⟩
        have sJ := s1.trans (same_put (o := .lst [V.str t.txt]) nl)
        have eJ : (upd H1 l (.lst [V.str t.txt])) l = some (.lst ([t.txt].map V.str)) := upd_same
        generalize upd H1 l (.lst [V.str t.txt]) = J at sJ eJ ⊢
        have fm : ∀ z, z ∈ [t.txt] ↔ (t.sel b = true ∧ z = t.txt) ∨ ∃ u, Sd.tr u ∈ t.sides.take 0 ∧ z ∈ u.col b := fun z => by simp [hS]
        have f1 : [t.txt].length ≤ 1 + 20 * 0 := by show 1 ≤ 1 + 20 * 0; decide
        obtain ⟨fs0, eJ, fm, f1⟩ : ∃ fs0 : List Str, J l = some (.lst (fs0.map V.str)) ∧ (∀ z, z ∈ fs0 ↔ (t.sel b = true ∧ z = t.txt) ∨ ∃ u, Sd.tr u ∈ t.sides.take 0 ∧ z ∈ u.col b) ∧ fs0.length ≤ 1 + 20 * 0 := ⟨_, eJ, fm, f1⟩
        clear hS
        refine ⟨_, rfl, 1, rfl, p, _, rfl, SqT.of (sJ _ _ hp), cut1_not _ _, fun p2 n2 => ?_⟩
        rw [cut1]
        have s1 := sJ.trans (same_put (o := .tup us) n2)
        have e1 := (same_put (o := .tup us) n2) _ _ eJ
        have e2 : (upd J p2 (.tup us)) p2 = some (.tup us) := upd_same
        generalize upd J p2 (.tup us) = J1 at s1 e1 e2 ⊢
        refine ⟨p2, rfl, ⟨_, SqT.of e2⟩, for_it (walk_tup (K := K) (a := p2) (xs := us)) (fun i σ G => ∃ (l' : Addr) (fs' : List Str) (x3 : Option V), σ = [some (.ref p), some (.ref wl), some (.ref l'), x3] ∧ Same H G ∧ G p2 = some (.tup us) ∧ G l' = some (.lst (fs'.map V.str)) ∧ (∀ z, z ∈ fs' ↔ (t.sel b = true ∧ z = t.txt) ∨ ∃ u, Sd.tr u ∈ t.sides.take i ∧ z ∈ u.col b) ∧ fs'.length ≤ 1 + 20 * i)
          ⟨l, fs0, _, rfl, s1, e2, e1, fm, f1⟩ (fun _ _ _ _ ⟨_, _, _, _, _, z, _⟩ => SqT.of z) ?_ ?_⟩
        · rintro i x σ Ga Gb hi ⟨l', fs', x3, rfl, sa, ep, el, mem, len⟩ ⟨rfl, hx⟩
          obtain ⟨d, hd, dv⟩ := sd.get hx
          have dv' := dv.kp sa.kp
          have tk : t.sides.take (i + 1) = t.sides.take i ++ [d] := by rw [List.take_add_one, hd]; rfl
          have dm := List.mem_of_getElem? hd
          have hi4 : i < 4 := by have := (List.getElem?_eq_some_iff.mp hd).1; omega
          obtain ⟨ty, tx, kk⟩ := dv'.isTup
          refine ⟨_, rfl, _, _, _, _, _, rfl, .ty _, tx, kk, _, rfl, ?_⟩
          have stay : (∀ u, d ≠ .tr u) → ∃ (m' : Addr) (fs2 : List Str) (x3' : Option V), [some (.ref p), some (.ref wl), some (.ref l'), some x] = [some (.ref p), some (.ref wl), some (.ref m'), x3'] ∧ Same H Gb ∧ Gb p2 = some (.tup us) ∧ Gb m' = some (.lst (fs2.map V.str)) ∧ (∀ z, z ∈ fs2 ↔ (t.sel b = true ∧ z = t.txt) ∨ ∃ u, Sd.tr u ∈ t.sides.take (i + 1) ∧ z ∈ u.col b) ∧ fs2.length ≤ 1 + 20 * (i + 1) := fun nd => by
            refine ⟨l', fs', _, rfl, sa, ep, el, fun z => (mem z).trans ?_, by omega⟩
            rw [tk]
            refine or_congr_right ⟨fun ⟨u, a, c⟩ => ⟨u, List.mem_append_left _ a, c⟩, fun ⟨u, a, c⟩ => ?_⟩
            rcases List.mem_append.mp a with a | a
            · exact ⟨u, a, c⟩
            · exact absurd (List.mem_singleton.mp a).symm (nd u)
          cases d with
          | tr u =>
            obtain ⟨uk, ud, uh⟩ := Tr.side_tr dm ok
            have ud9 := Nat.le_trans ud dp
            have uh18 := u.hgt_le uk
            refine iteT ⟨_, rfl, _, rfl, _, rfl, x, wl, u, b, rfl, dv', uk, ud9, by omega, sa _ _ hw, fun l2 zs H2 nl2 s2 e3 ss2 => ?_⟩
            have zl := ss2.le
            have cl := col_len b u
            refine ⟨l', l2, _, _, rfl, rfl, s2 _ _ el, e3, (by rw [List.length_map, List.length_map]; omega), fun l3 n3 => ⟨l3, fs' ++ zs, _, rfl, sa.trans (s2.trans (same_put n3)), (same_put n3) _ _ (s2 _ _ ep), by rw [upd_same, List.map_append], fun z => ?_, by rw [List.length_append]; omega⟩⟩
            rw [List.mem_append, mem, ss2.mem, tk]
            constructor
            · rintro ((a | ⟨u', a, c⟩) | c)
              · exact .inl a
              · exact .inr ⟨u', List.mem_append_left _ a, c⟩
              · exact .inr ⟨u, List.mem_append_right _ (List.mem_singleton.mpr rfl), c⟩
            · rintro (a | ⟨u', a, c⟩)
              · exact .inl (.inl a)
              · rcases List.mem_append.mp a with a | a
                · exact .inl (.inr ⟨u', a, c⟩)
                · cases List.mem_singleton.mp a
                  exact .inr c
          | _ => exact iteF (stay fun u z => (nomatch z))
        · rintro σ Ga ⟨l', fs', x3, rfl, sa, ep, el, mem, len⟩
          rw [sl, List.take_length] at mem
          refine ⟨_, rfl, l', fs', rfl, SqL.of el, by omega, fun p3 n3 => ⟨p3, _, rfl, upd_same, fun ys p4 pm srt n4 => ?_⟩⟩
          have s5 := sa.trans ((same_put n3).trans (same_put (o := .lst (ys.map V.str)) n4))
          exact q p4 ys _ ((sa.trans (same_put n3)).free n4) s5 upd_same (isSS_of pm srt fun z => (mem z).trans (col_mem b t z).symm)
      | false =>
        refine iteF ⟨(by show 0 ≤ sizeLine; decide), fun l nl => ?_⟩
        have sJ := same_put (H := H) (o := .lst []) nl
        have eJ : (upd H l (.lst [])) l = some (.lst (([] : List Str).map V.str)) := upd_same
        generalize upd H l (.lst []) = J at sJ eJ ⊢
        have fm : ∀ z, z ∈ ([] : List Str) ↔ (t.sel b = true ∧ z = t.txt) ∨ ∃ u, Sd.tr u ∈ t.sides.take 0 ∧ z ∈ u.col b := fun z => by simp [hS]
        have f1 : ([] : List Str).length ≤ 1 + 20 * 0 := by decide
        obtain ⟨fs0, eJ, fm, f1⟩ : ∃ fs0 : List Str, J l = some (.lst (fs0.map V.str)) ∧ (∀ z, z ∈ fs0 ↔ (t.sel b = true ∧ z = t.txt) ∨ ∃ u, Sd.tr u ∈ t.sides.take 0 ∧ z ∈ u.col b) ∧ fs0.length ≤ 1 + 20 * 0 := ⟨_, eJ, fm, f1⟩
        clear hS
        refine ⟨_, rfl, 1, rfl, p, _, rfl, SqT.of (sJ _ _ hp), cut1_not _ _, fun p2 n2 => ?_⟩
        rw [cut1]
        have s1 := sJ.trans (same_put (o := .tup us) n2)
        have e1 := (same_put (o := .tup us) n2) _ _ eJ
        have e2 : (upd J p2 (.tup us)) p2 = some (.tup us) := upd_same
        generalize upd J p2 (.tup us) = J1 at s1 e1 e2 ⊢
        refine ⟨p2, rfl, ⟨_, SqT.of e2⟩, for_it (walk_tup (K := K) (a := p2) (xs := us)) (fun i σ G => ∃ (l' : Addr) (fs' : List Str) (x3 : Option V), σ = [some (.ref p), some (.ref wl), some (.ref l'), x3] ∧ Same H G ∧ G p2 = some (.tup us) ∧ G l' = some (.lst (fs'.map V.str)) ∧ (∀ z, z ∈ fs' ↔ (t.sel b = true ∧ z = t.txt) ∨ ∃ u, Sd.tr u ∈ t.sides.take i ∧ z ∈ u.col b) ∧ fs'.length ≤ 1 + 20 * i)
          ⟨l, fs0, _, rfl, s1, e2, e1, fm, f1⟩ (fun _ _ _ _ ⟨_, _, _, _, _, z, _⟩ => SqT.of z) ?_ ?_⟩
        · rintro i x σ Ga Gb hi ⟨l', fs', x3, rfl, sa, ep, el, mem, len⟩ ⟨rfl, hx⟩
          obtain ⟨d, hd, dv⟩ := sd.get hx
          have dv' := dv.kp sa.kp
          have tk : t.sides.take (i + 1) = t.sides.take i ++ [d] := by rw [List.take_add_one, hd]; rfl
          have dm := List.mem_of_getElem? hd
          have hi4 : i < 4 := by have := (List.getElem?_eq_some_iff.mp hd).1; omega
          obtain ⟨ty, tx, kk⟩ := dv'.isTup
          refine ⟨_, rfl, _, _, _, _, _, rfl, .ty _, tx, kk, _, rfl, ?_⟩
          have stay : (∀ u, d ≠ .tr u) → ∃ (m' : Addr) (fs2 : List Str) (x3' : Option V), [some (.ref p), some (.ref wl), some (.ref l'), some x] = [some (.ref p), some (.ref wl), some (.ref m'), x3'] ∧ Same H Gb ∧ Gb p2 = some (.tup us) ∧ Gb m' = some (.lst (fs2.map V.str)) ∧ (∀ z, z ∈ fs2 ↔ (t.sel b = true ∧ z = t.txt) ∨ ∃ u, Sd.tr u ∈ t.sides.take (i + 1) ∧ z ∈ u.col b) ∧ fs2.length ≤ 1 + 20 * (i + 1) := fun nd => by
            refine ⟨l', fs', _, rfl, sa, ep, el, fun z => (mem z).trans ?_, by omega⟩
            rw [tk]
            refine or_congr_right ⟨fun ⟨u, a, c⟩ => ⟨u, List.mem_append_left _ a, c⟩, fun ⟨u, a, c⟩ => ?_⟩
            rcases List.mem_append.mp a with a | a
            · exact ⟨u, a, c⟩
            · exact absurd (List.mem_singleton.mp a).symm (nd u)
          cases d with
          | tr u =>
            obtain ⟨uk, ud, uh⟩ := Tr.side_tr dm ok
            have ud9 := Nat.le_trans ud dp
            have uh18 := u.hgt_le uk
            refine iteT ⟨_, rfl, _, rfl, _, rfl, x, wl, u, b, rfl, dv', uk, ud9, by omega, sa _ _ hw, fun l2 zs H2 nl2 s2 e3 ss2 => ?_⟩
            have zl := ss2.le
            have cl := col_len b u
            refine ⟨l', l2, _, _, rfl, rfl, s2 _ _ el, e3, (by rw [List.length_map, List.length_map]; omega), fun l3 n3 => ⟨l3, fs' ++ zs, _, rfl, sa.trans (s2.trans (same_put n3)), (same_put n3) _ _ (s2 _ _ ep), by rw [upd_same, List.map_append], fun z => ?_, by rw [List.length_append]; omega⟩⟩
            rw [List.mem_append, mem, ss2.mem, tk]
            constructor
            · rintro ((a | ⟨u', a, c⟩) | c)
              · exact .inl a
              · exact .inr ⟨u', List.mem_append_left _ a, c⟩
              · exact .inr ⟨u, List.mem_append_right _ (List.mem_singleton.mpr rfl), c⟩
            · rintro (a | ⟨u', a, c⟩)
              · exact .inl (.inl a)
              · rcases List.mem_append.mp a with a | a
                · exact .inl (.inr ⟨u', a, c⟩)
                · cases List.mem_singleton.mp a
                  exact .inr c
          | _ => exact iteF (stay fun u z => (nomatch z))
        · rintro σ Ga ⟨l', fs', x3, rfl, sa, ep, el, mem, len⟩
          rw [sl, List.take_length] at mem
          refine ⟨_, rfl, l', fs', rfl, SqL.of el, by omega, fun p3 n3 => ⟨p3, _, rfl, upd_same, fun ys p4 pm srt n4 => ?_⟩⟩
          have s5 := sa.trans ((same_put n3).trans (same_put (o := .lst (ys.map V.str)) n4))
          exact q p4 ys _ ((sa.trans (same_put n3)).free n4) s5 upd_same (isSS_of pm srt fun z => (mem z).trans (col_mem b t z).symm)
end
end K04


/-! a pool of trees -/
namespace Tm
open PySem PySem.Spec PyProof.Rows L2 Rng Bag
/-- a tree of a moment or a look -/
def TrV (H : Hp) (lk : Bool) (m : Nat) (v : V) : Prop := ∃ t, TupTr H t v ∧ t.isLook = lk ∧ t.ok ∧ t.dep ≤ m
def TrsAt (H : Hp) (lk : Bool) (m : Nat) (us : List V) : Prop := ∀ v ∈ us, TrV H lk m v
structure PoolAt (H : Hp) (pp : Addr) (us vs : List V) : Prop where
  ex : ∃ a b, H pp = some (.lst [.ref a, .ref b]) ∧ H a = some (.lst us) ∧ H b = some (.lst vs) ∧ a ≠ b ∧ a ≠ pp ∧ b ≠ pp
  ls : TrsAt H true 8 us
  ns : TrsAt H false 8 vs
section
variable {H H' : Hp} {lk : Bool} {m k : Nat} {v : V} {us vs : List V} {p pp : Addr}
theorem TrV.kp (h : TrV H lk m v) (c : Kp H H') : TrV H' lk m v := by
  obtain ⟨t, a, b⟩ := h
  exact ⟨t, TupTr.kp c a, b⟩
theorem TrsAt.kp (h : TrsAt H lk m us) (c : Kp H H') : TrsAt H' lk m us := fun v hv => (h v hv).kp c
theorem TrV.up (h : TrV H lk m v) (c : m ≤ k) : TrV H lk k v := by
  obtain ⟨t, a, b, c', d⟩ := h
  exact ⟨t, a, b, c', Nat.le_trans d c⟩
theorem TrV.isRef (h : TrV H lk m v) : ∃ a, v = .ref a := by
  obtain ⟨t, a, _⟩ := h
  obtain ⟨p, us, e, _⟩ := TupTr.parts a
  exact ⟨p, e⟩
/-- a list of trees is not the source -/
theorem TrsAt.ne {a : Addr} (h : TrsAt H lk m us) (e : H a = some (.lst us)) (S : Src H p k) : a ≠ p := by
  rintro rfl
  obtain ⟨A, B, t, e1, _⟩ := S
  rw [e] at e1
  cases e1
  obtain ⟨c, z⟩ := (h _ List.mem_cons_self).isRef
  cases z
theorem PoolAt.ne (h : PoolAt H pp us vs) (S : Src H p k) : pp ≠ p := by
  rintro rfl
  obtain ⟨a, b, e, _⟩ := h.ex
  obtain ⟨A, B, t, e1, _⟩ := S
  rw [e] at e1
  cases e1
theorem PoolAt.same (h : PoolAt H pp us vs) (s : Same H H') : PoolAt H' pp us vs := by
  obtain ⟨⟨a, b, h1, h2, h3, h4⟩, h5, h6⟩ := h
  exact ⟨⟨a, b, s _ _ h1, s _ _ h2, s _ _ h3, h4⟩, h5.kp s.kp, h6.kp s.kp⟩
theorem PoolAt.but (h : PoolAt H pp us vs) (S : Src H p k) (c : But p H H') : PoolAt H' pp us vs := by
  have n := h.ne S
  obtain ⟨⟨a, b, h1, h2, h3, h4⟩, h5, h6⟩ := h
  exact ⟨⟨a, b, c _ _ n h1, c _ _ (h5.ne h2 S) h2, c _ _ (h6.ne h3 S) h3, h4⟩, h5.kp (S.kp c), h6.kp (S.kp c)⟩
theorem now_tup {a : Addr} (e : H a = some (.tup [.str "now"])) : TrV H false 1 (.ref a) := ⟨.now, ⟨a, rfl, e⟩, rfl, trivial, Nat.le_refl 1⟩
theorem TrsAt.nil : TrsAt H lk m [] := fun _ h => (nomatch h)
theorem TrsAt.cons (h : TrV H lk m v) (t : TrsAt H lk m us) : TrsAt H lk m (v :: us) := fun w hw => (List.mem_cons.mp hw).elim (fun e => e ▸ h) (t w)
theorem TrsAt.append (h : TrsAt H lk m us) (t : TrsAt H lk m vs) : TrsAt H lk m (us ++ vs) := fun w hw => (List.mem_append.mp hw).elim (h w) (t w)
theorem TrsAt.up (h : TrsAt H lk m us) (c : m ≤ k) : TrsAt H lk k us := fun v hv => (h v hv).up c
end
def spMoment : Sp := fun vs H Q _ => ∃ (p pp : Addr) (k : Nat) (us ws : List V), vs = [.ref p, .ref pp] ∧ Src H p k ∧ k ≤ 900000 ∧ PoolAt H pp us ws ∧ us.length ≤ 10 ∧ ws.length ≤ 10 ∧ ∀ (v : V) (H' : Hp), TrV H' false 8 v → But p H H' → Src H' p (k + 3) → Q v H'
def spPeek (K : PySem.W.Frag) : Sp := fun vs H Q _ => ∃ (p tg pp : Addr) (k : Nat) (zs : List Str) (us ws : List V), vs = [.ref p, .ref tg, .ref pp] ∧ Src H p k ∧ k ≤ 800000 ∧ H tg = some (.lst (zs.map V.str)) ∧ zs ≠ [] ∧ zs.length ≤ 10 ∧ (∀ z ∈ zs, isName z = true) ∧ PoolAt H pp us ws ∧ us.length ≤ 10 ∧ ws.length ≤ 10 ∧
  ∀ (v : V) (H' : Hp), TrV H' true 8 v → But p H H' → Src H' p (k + 10) → Q v H'
def spPool : Sp := fun vs H Q _ => ∃ (p tg : Addr) (k : Nat) (zs : List Str), vs = [.ref p, .ref tg, .int 4, .int 3] ∧ Src H p k ∧ k ≤ 700000 ∧ H tg = some (.lst (zs.map V.str)) ∧ zs ≠ [] ∧ zs.length ≤ 10 ∧ (∀ z ∈ zs, isName z = true) ∧
  ∀ (pp : Addr) (us ws : List V) (H' : Hp), PoolAt H' pp us ws → us.length ≤ 5 → ws.length ≤ 5 → But p H H' → Src H' p (k + 200) → Q (.ref pp) H'
theorem dist9 {y : V} (h : y ∈ [V.int 0, .int 1, .int (-1), .int 5, .int (-5), .int 3, .int (-7), .int 2, .int (-12), .int (10 ^ 9), .int (-(10 ^ 9))]) : ∃ m : Int, y = .int m ∧ -1000000000 ≤ m ∧ m ≤ 1000000000 := by
  simp only [List.mem_cons, List.not_mem_nil, or_false] at h
  rcases h with rfl | rfl | rfl | rfl | rfl | rfl | rfl | rfl | rfl | rfl | rfl <;> exact ⟨_, rfl, by decide, by decide⟩
theorem strs_ne {H : Hp} {tg p : Addr} {zs : List Str} {k : Nat} (h : H tg = some (.lst (zs.map V.str))) (n : zs ≠ []) (S : Src H p k) : tg ≠ p := by
  rintro rfl
  obtain ⟨A, B, t, e1, _⟩ := S
  rw [h] at e1
  cases zs with
  | nil => exact n rfl
  | cons z zs =>
    have e2 := HO.lst.inj (Option.some.inj e1)
    rw [List.map_cons] at e2
    cases (List.cons.inj e2).1
theorem boundV {y : V} (h : y ∈ [V.non, .non, .int 0, .int 1, .int 2, .int 3, .int 5, .int 8, .int 20, .int (10 ^ 9)]) : ∃ w : Option Int, y = wV w ∧ ∀ n, w = some n → 0 ≤ n ∧ n ≤ 1000000000 := by
  simp only [List.mem_cons, List.not_mem_nil, or_false] at h
  rcases h with rfl | rfl | rfl | rfl | rfl | rfl | rfl | rfl | rfl | rfl
  · exact ⟨none, rfl, fun n e => (nomatch e)⟩
  · exact ⟨none, rfl, fun n e => (nomatch e)⟩
  all_goals exact ⟨some _, rfl, fun n e => by cases e; decide⟩
theorem wordV {y : V} (h : y ∈ [V.str "before", .str "before", .str "after"]) : ∃ a, y = .str (wordL a) := by
  simp only [List.mem_cons, List.not_mem_nil, or_false] at h
  rcases h with rfl | rfl | rfl
  · exact ⟨false, rfl⟩
  · exact ⟨false, rfl⟩
  · exact ⟨true, rfl⟩
theorem netV2 {H : Hp} {y u : V} {q : Addr} {t : Tr} (h : y ∈ [V.str "floor", .str "ceil"]) (e : H q = some (.tup [y, u])) (tt : TupTr H t u) (l : t.isLook = false) (k : t.ok) (d : t.dep < 8) : TrV H false 8 (.ref q) := by
  simp only [List.mem_cons, List.not_mem_nil, or_false] at h
  rcases h with rfl | rfl
  · exact ⟨.floor t, ⟨q, u, rfl, e, tt⟩, rfl, ⟨l, k⟩, d⟩
  · exact ⟨.ceil t, ⟨q, u, rfl, e, tt⟩, rfl, ⟨l, k⟩, d⟩
/-- one more look -/
theorem PoolAt.look {H : Hp} {pp a b : Addr} {us ws : List V} {v : V} (h : PoolAt H pp us ws) (e : H pp = some (.lst [.ref a, .ref b])) (tv : TrV H true 8 v) : PoolAt (upd H a (.lst (us ++ [v]))) pp (us ++ [v]) ws := by
  obtain ⟨⟨a', b', h1, h2, h3, h4, h5, h6⟩, h7, h8⟩ := h
  rw [e] at h1
  cases h1
  have k : Kp H (upd H a (.lst (us ++ [v]))) := kp_put (.inl ⟨us, h2⟩)
  refine ⟨⟨a, b, by rw [upd_ne h5.symm]; exact e, upd_same, by rw [upd_ne h4.symm]; exact h3, h4, h5, h6⟩, (h7.kp k).append (.cons (tv.kp k) .nil), h8.kp k⟩
theorem PoolAt.net {H : Hp} {pp a b : Addr} {us ws : List V} {v : V} (h : PoolAt H pp us ws) (e : H pp = some (.lst [.ref a, .ref b])) (tv : TrV H false 8 v) : PoolAt (upd H b (.lst (ws ++ [v]))) pp us (ws ++ [v]) := by
  obtain ⟨⟨a', b', h1, h2, h3, h4, h5, h6⟩, h7, h8⟩ := h
  rw [e] at h1
  cases h1
  have k : Kp H (upd H b (.lst (ws ++ [v]))) := kp_put (.inl ⟨ws, h3⟩)
  refine ⟨⟨a, b, by rw [upd_ne h6.symm]; exact e, by rw [upd_ne h4]; exact h2, upd_same, h4, h5, h6⟩, h7.kp k, (h8.kp k).append (.cons (tv.kp k) .nil)⟩
end Tm


namespace K04
open PySem PySem.Spec PyProof.Rows L2 Rng Bag Gd Cal Tm Tr4 Own1
section
variable {P : Program} {w : World} {K : PySem.W.Frag} {mg : Str → Option Value} {base : Heap} {Cs : Nat → Addr} {CT CL : Addr} {e : Ers}

abbrev sMom : Stmt := top 49
theorem scMom : FnScope ["_law_source_here", "_law_pool_here", "_law_base", "_law_by", "_law_found", "_law_each"] ["_law_source_here", "_law_pool_here"] (defScope sMom) := ⟨rfl, rfl, rfl, by decide +kernel, rfl, by decide +kernel, by decide +kernel⟩

theorem c_moment (D : Df K mg "_law_moment" sMom) (B : Nb mg) (cO : Cl P w K mg base CX0 2 "_law_one" ["_law_source_here", "_law_things"] (spOne K)) (cP : Cl P w K mg base CX0 1 "_law_pick" ["_law_source_here", "_law_many"] spPick)
    (cD : ∀ n, Cl P w K mg base CX0 n "_law_deep" ["_law_tree"] (spDeep n)) : Cl P w K mg base CX0 21 "_law_moment" ["_law_source_here", "_law_pool_here"] spMoment := by
  have cD20 := cD 20
  refine D.cl scMom (fun _ _ _ _ _ _ us hl => match us, hl with | [_, _], _ => rfl) (fun vs H Q E h => ?_) (fun f cdv A outer s H vs Q E hr h => ?_)
  · obtain ⟨p, pp, k, us, ws, rfl, _⟩ := h
    rfl
  · obtain ⟨p, pp, k, us, ws, rfl, S, hk, PO, lu, lw, q⟩ := h
    have b60 : (100000 : Nat) ≤ sizeLine := by decide
    refine ⟨_, (pss_cons (ps_set (i := 2) scMom.nd rfl (Or.inl rfl) (pe_c cO (hr.mono (by decide)) rfl pass0 (pa_cons (pv 0) (pa_cons (pe_op op_cat (pe_op op_cat (pe_lst (pa_cons (pe_tup (pa_cons pe_str pa_nil)) (pa_cons (pe_tup (pa_cons pe_str pa_nil)) pa_nil))) (pe_ix ix_list (pv 1) pe_int (fun _ _ => rfl))) (pe_lc (own := [("_law_each", 5)]) (g := gName 5) (tt := tYes) rfl scMom.nd (pi_list (pe_ix ix_list (pv 1) pe_int (fun _ _ => rfl))) (blkOk_by (own := [("_law_each", 5)]) (N := ["_law_source_here", "_law_pool_here", "_law_base", "_law_by", "_law_found", "_law_each"]) (sc := defScope sMom) (by decide +kernel)) (fun _ _ _ _ _ => pg_name (i := 5) scMom.nd rfl (Or.inl rfl)) (fun _ _ _ _ _ => pts_nil) (fun _ _ _ _ _ => (pe_tup (pa_cons pe_str (pa_cons (pv 5) pa_nil)))))) pa_nil))))
      (pss_cons (ps_set (i := 3) scMom.nd rfl (Or.inl rfl) (pe_c cO (hr.mono (by decide)) rfl pass0 (pa_cons (pv 0) (pa_cons (pe_lst (pa_cons pe_int (pa_cons pe_int (pa_cons (pe_un un_neg pe_int) (pa_cons pe_int (pa_cons (pe_un un_neg pe_int) (pa_cons pe_int (pa_cons (pe_un un_neg pe_int) (pa_cons pe_int (pa_cons (pe_un un_neg pe_int) (pa_cons (pe_op op_pow pe_int pe_int) (pa_cons (pe_un un_neg (pe_op op_pow pe_int pe_int)) pa_nil)))))))))))) pa_nil))))
      (pss_cons (ps_set (i := 4) scMom.nd rfl (Or.inl rfl) (pe_ifExp (pt_cmpR op_eq (pe_c cP (hr.mono (by decide)) rfl pass0 (pa_cons (pv 0) (pa_cons pe_int pa_nil))) pe_int (nomark _)) (pe_tup (pa_cons pe_str (pa_cons (pv 2) (pa_cons (pv 3) pa_nil)))) (pv 2)))
      (pss_one (ps_ret (pe_ifExp (pt_cmpR op_lt (pe_c cD20 hr rfl pass0 (pa_cons (pv 4) pa_nil)) pe_int (nomark _)) (pv 4) (pe_tup (pa_cons pe_str pa_nil)))))))), ?_⟩
    obtain ⟨a, b, hpp, ha, hb, nab, nap, nbp⟩ := PO.ex
    refine ⟨_, rfl, (by show 1 ≤ sizeLine; decide), fun a1 n1 => ⟨(by show 1 ≤ sizeLine; decide), fun a2 n2 => ⟨(by show 2 ≤ sizeLine; decide), fun l1 nl1 => ?_⟩⟩⟩
    have s3 := (same_put (o := .tup [.str "now"]) n1).trans ((same_put (o := .tup [.str "now"]) n2).trans (same_put (o := .lst [.ref a1, .ref a2]) nl1))
    have t1 := (same_put (o := .lst [.ref a1, .ref a2]) nl1) _ _ ((same_put (o := .tup [.str "now"]) n2) _ _ (upd_same (H := H) (a := a1) (o := .tup [.str "now"])))
    have t2 := (same_put (o := .lst [.ref a1, .ref a2]) nl1) _ _ (upd_same (H := upd H a1 (.tup [.str "now"])) (a := a2) (o := .tup [.str "now"]))
    have e3 : (upd (upd (upd H a1 (.tup [.str "now"])) a2 (.tup [.str "now"])) l1 (.lst [.ref a1, .ref a2])) l1 = some (.lst [.ref a1, .ref a2]) := upd_same
    generalize upd (upd (upd H a1 (.tup [.str "now"])) a2 (.tup [.str "now"])) l1 (.lst [.ref a1, .ref a2]) = J3 at s3 t1 t2 e3 ⊢
    have v12 : TrsAt J3 false 9 [.ref a1, .ref a2] := .cons ((now_tup t1).up (by decide)) (.cons ((now_tup t2).up (by decide)) .nil)
    refine ⟨_, rfl, pp, _, 1, .ref b, rfl, rfl, SqL.of (s3 _ _ hpp), at1 _ _ _, l1, b, _, _, rfl, rfl, e3, s3 _ _ hb, (by show 2 + ws.length ≤ sizeLine; omega), fun l2 nl2 => ?_⟩
    have s4 := s3.trans (same_put (o := .lst ([.ref a1, .ref a2] ++ ws)) nl2)
    have e4 : (upd J3 l2 (.lst ([.ref a1, .ref a2] ++ ws))) l2 = some (.lst ([.ref a1, .ref a2] ++ ws)) := upd_same
    have v4 : TrsAt (upd J3 l2 (.lst ([.ref a1, .ref a2] ++ ws))) false 9 ([.ref a1, .ref a2] ++ ws) := ((v12.append ((PO.ns.up (by decide)).kp s3.kp)).kp (same_put nl2).kp)
    generalize upd J3 l2 (.lst ([.ref a1, .ref a2] ++ ws)) = J4 at s4 e4 v4 ⊢
    have hm4 : ([.ref a1, .ref a2] ++ ws : List V).length = 2 + ws.length := by rw [List.length_append]; rfl
    generalize ([.ref a1, .ref a2] ++ ws : List V) = ms at e4 v4 hm4
    refine ⟨_, rfl, pp, _, 0, .ref a, rfl, rfl, SqL.of (s4 _ _ hpp), at0 _ _, a, rfl, ⟨_, SqL.of (s4 _ _ ha)⟩, fun E1 nE => lc_it (walk_list (K := K) (a := a) (xs := us)) (fun i G => Same J4 G ∧ ∃ ts, G E1 = some (.lst ts) ∧ ts.length = i ∧ TrsAt G false 9 ts) ⟨same_put nE, [], upd_same, rfl, .nil⟩ (fun _ _ _ h => SqL.of (h.1 _ _ (s4 _ _ ha))) ?_ ?_⟩
    · rintro i x Ga Gb hi ⟨sa, ts, et, lt, vt⟩ ⟨rfl, hx⟩
      refine ⟨rfl, _, rfl, (by show 2 ≤ sizeLine; decide), fun q2 nq2 => ⟨ts, (same_put nq2) _ _ et, ?_, ?_, ts ++ [.ref q2], ?_, ?_, ?_⟩⟩
      · have := (List.getElem?_eq_some_iff.mp hx).1
        omega
      · intro c u e
        rw [upd_ne (ne_of_none e nE)]
        exact (same_put nq2) _ _ (sa c u e)
      · exact upd_same
      · rw [List.length_append, lt]; rfl
      · have kq : Kp Gb (upd (upd Gb q2 (.tup [.str "time", x])) E1 (.lst (ts ++ [.ref q2]))) := (same_put nq2).kp.trans (kp_put (.inl ⟨ts, (same_put nq2) _ _ et⟩))
        obtain ⟨t, tt, tl, tk, td⟩ := PO.ls x (List.mem_of_getElem? hx)
        have kH : Kp H Gb := (s4.trans sa).kp
        refine (vt.kp kq).append (.cons ⟨.row t, ⟨q2, x, rfl, ?_, TupTr.kp (kH.trans kq) tt⟩, rfl, ⟨tl, tk⟩, Nat.succ_le_succ td⟩ .nil)
        rw [upd_ne (fun z => by rw [z, et] at nq2; cases nq2)]
        exact upd_same
    · rintro Ga ⟨sa, ts, et, lt, vt⟩
      refine ⟨l2, E1, _, _, rfl, rfl, sa _ _ e4, et, (by omega), fun l3 nl3 => ?_⟩
      have s5 := s4.trans (sa.trans (same_put (o := .lst (ms ++ ts)) nl3))
      have e5 : (upd Ga l3 (.lst (ms ++ ts))) l3 = some (.lst (ms ++ ts)) := upd_same
      have v5 : TrsAt (upd Ga l3 (.lst (ms ++ ts))) false 9 (ms ++ ts) := (((v4.kp sa.kp).append vt).kp (same_put nl3).kp)
      generalize upd Ga l3 (.lst (ms ++ ts)) = J5 at s5 e5 v5 ⊢
      have S5 := S.same s5
      refine ⟨p, .ref l3, k, rfl, S5, by omega, .inl ⟨l3, _, rfl, v5.ne e5 S5, SqL.of e5, by rw [List.length_append]; omega, by rw [List.length_append]; omega, fun v J6 hv b6 S6 => ?_⟩⟩
      obtain ⟨t, tt, tl, tk, td⟩ := (v5 v hv).kp (S5.kp b6)
      have bH : But p H J6 := (s5.but p).trans b6
      refine ⟨_, rfl, _, rfl, _, rfl, _, rfl, _, rfl, _, _, rfl, rfl, ⟨by decide, by decide, by decide⟩, _, _, rfl, rfl, ⟨by decide, by decide, by decide⟩, _, rfl, (by show 11 ≤ sizeLine; decide), fun l4 nl4 => ?_⟩
      refine ⟨p, .ref l4, k + 1, rfl, S6.same (same_put nl4), by omega, .inl ⟨l4, _, rfl, S6.ne nl4, SqL.of upd_same, (by decide), (by decide), fun y J7 hy b7 S7 => ?_⟩⟩
      obtain ⟨m, rfl, m1, m2⟩ := dist9 hy
      have b67 : But p J6 J7 := ((same_put nl4).but p).trans b7
      have bH7 := bH.trans b67
      have tt7 := TupTr.kp (S6.kp b67) tt
      refine ⟨_, rfl, p, 3, k + 1 + 1, rfl, S7, by omega, by decide, by decide, fun d J8 d0 d1 b8 S8 => ⟨rfl, _, rfl, ?_⟩⟩
      have bH8 := bH7.trans b8
      have tt8 := TupTr.kp (S7.kp b8) tt7
      have tp := t.dep_pos
      refine ite2 (fun _ => ?_) (fun _ => ?_)
      · refine ⟨_, rfl, _, rfl, (by show 3 ≤ sizeLine; decide), fun q3 nq3 => ?_⟩
        have tt9 : TupTr (upd J8 q3 (.tup [.str "shift", v, .int m])) (.shift t m) (.ref q3) := ⟨q3, v, rfl, upd_same, TupTr.kp (same_put nq3).kp tt8⟩
        have ok9 : (Tr.shift t m).ok := ⟨tl, tk, m1, m2⟩
        have h9 : (Tr.shift t m).hgt ≤ 20 := by
          have := Tr.hgt_le _ ok9
          have e : (Tr.shift t m).dep = t.dep + 1 := rfl
          omega
        have S9 := S8.same (same_put (o := .tup [.str "shift", v, .int m]) nq3)
        have bH9 := bH8.trans ((same_put (o := .tup [.str "shift", v, .int m]) nq3).but p)
        generalize upd J8 q3 (.tup [.str "shift", v, .int m]) = J9 at tt9 S9 bH9 ⊢
        refine ⟨_, rfl, _, _, rfl, tt9, ok9, h9, fun Ja sa' => ⟨_, _, rfl, rfl, _, rfl, ite2 (fun c => ?_) (fun c => ?_)⟩⟩
        · have c' : ((Tr.shift t m).dep : Int) < 9 := of_decide_eq_true c
          exact ⟨_, rfl, q _ Ja ⟨_, TupTr.kp sa'.kp tt9, rfl, ok9, by omega⟩ (bH9.trans (sa'.but p)) (S9.same sa')⟩
        · exact ⟨(by show 1 ≤ sizeLine; decide), fun q4 nq4 => q _ _ ((now_tup upd_same).up (by decide)) (bH9.trans ((sa'.trans (same_put nq4)).but p)) (S9.same (sa'.trans (same_put nq4)))⟩
      · refine ⟨_, rfl, ?_⟩
        have h9 : t.hgt ≤ 20 := by
          have := t.hgt_le tk
          omega
        refine ⟨_, rfl, _, _, rfl, tt8, tk, h9, fun Ja sa' => ⟨_, _, rfl, rfl, _, rfl, ite2 (fun c => ?_) (fun c => ?_)⟩⟩
        · have c' : (t.dep : Int) < 9 := of_decide_eq_true c
          exact ⟨_, rfl, q _ Ja ⟨_, TupTr.kp sa'.kp tt8, tl, tk, by omega⟩ (bH8.trans (sa'.but p)) (S8.same sa')⟩
        · exact ⟨(by show 1 ≤ sizeLine; decide), fun q4 nq4 => q _ _ ((now_tup upd_same).up (by decide)) (bH8.trans ((sa'.trans (same_put nq4)).but p)) (S8.same (sa'.trans (same_put nq4)))⟩

abbrev sPeek : Stmt := top 50
theorem scPeek : FnScope ["_law_source_here", "_law_tags_here", "_law_pool_here", "_law_bound", "_law_sharp", "_law_word"] ["_law_source_here", "_law_tags_here", "_law_pool_here"] (defScope sPeek) := ⟨rfl, rfl, rfl, by decide +kernel, rfl, by decide +kernel, by decide +kernel⟩

theorem c_peek (D : Df K mg "_law_peek" sPeek) (B : Nb mg) (cO : Cl P w K mg base CX0 2 "_law_one" ["_law_source_here", "_law_things"] (spOne K)) (cP : Cl P w K mg base CX0 1 "_law_pick" ["_law_source_here", "_law_many"] spPick)
    (cM : Cl P w K mg base CX0 21 "_law_moment" ["_law_source_here", "_law_pool_here"] spMoment) : Cl P w K mg base CX0 22 "_law_peek" ["_law_source_here", "_law_tags_here", "_law_pool_here"] (spPeek K) := by
  refine D.cl scPeek (fun _ _ _ _ _ _ us hl => match us, hl with | [_, _, _], _ => rfl) (fun vs H Q E h => ?_) (fun f cdv A outer s H vs Q E hr h => ?_)
  · obtain ⟨p, tg, pp, k, zs, us, ws, rfl, _⟩ := h
    rfl
  · obtain ⟨p, tg, pp, k, zs, us, ws, rfl, S, hk, ht, zn, zl, zk, PO, lu, lw, q⟩ := h
    have b60 : (100000 : Nat) ≤ sizeLine := by decide
    have ntp := strs_ne ht zn S
    refine ⟨_, (pss_cons (ps_set (i := 3) scPeek.nd rfl (Or.inl rfl) (pe_c cO (hr.mono (by decide)) rfl pass0 (pa_cons (pv 0) (pa_cons (pe_lst (pa_cons pe_non (pa_cons pe_non (pa_cons pe_int (pa_cons pe_int (pa_cons pe_int (pa_cons pe_int (pa_cons pe_int (pa_cons pe_int (pa_cons pe_int (pa_cons (pe_op op_pow pe_int pe_int) pa_nil))))))))))) pa_nil))))
      (pss_cons (ps_par (i := 4) (j := 5) (by rfl) scPeek.nd rfl rfl (by decide) rfl rfl (pa_cons (pe_cmpR op_eq (pe_c cP (hr.mono (by decide)) rfl pass0 (pa_cons (pv 0) (pa_cons pe_int pa_nil))) pe_int (nomark _)) (pa_cons (pe_c cO (hr.mono (by decide)) rfl pass0 (pa_cons (pv 0) (pa_cons (pe_lst (pa_cons pe_str (pa_cons pe_str (pa_cons pe_str pa_nil)))) pa_nil))) pa_nil)) (by rfl))
      (pss_one (ps_ret (pe_tup (pa_cons (pv 5) (pa_cons (pe_c cO (hr.mono (by decide)) rfl pass0 (pa_cons (pv 0) (pa_cons (pv 1) pa_nil))) (pa_cons (pe_c cM hr rfl pass0 (pa_cons (pv 0) (pa_cons (pv 2) pa_nil))) (pa_cons (pv 3) (pa_cons (pv 4) pa_nil)))))))))), ?_⟩
    refine ⟨_, rfl, _, _, rfl, rfl, ⟨by decide, by decide, by decide⟩, (by show 10 ≤ sizeLine; decide), fun l1 nl1 => ?_⟩
    refine ⟨p, .ref l1, k, rfl, S.same (same_put nl1), by omega, .inl ⟨l1, _, rfl, S.ne nl1, SqL.of upd_same, (by decide), (by decide), fun y J1 hy b1 S1 => ?_⟩⟩
    obtain ⟨w0, rfl, hw0⟩ := boundV hy
    have c1 : But p H J1 := ((same_put nl1).but p).trans b1
    have P1 := PO.but S c1
    refine ⟨_, rfl, p, 3, k + 1, rfl, S1, by omega, by decide, by decide, fun d J2 d0 d1 b2 S2 => ⟨rfl, _, rfl, (by show 3 ≤ sizeLine; decide), fun l2 nl2 => ?_⟩⟩
    refine ⟨p, .ref l2, k + 1 + 1, rfl, S2.same (same_put nl2), by omega, .inl ⟨l2, _, rfl, S2.ne nl2, SqL.of upd_same, (by decide), (by decide), fun y2 J3 hy2 b3 S3 => ?_⟩⟩
    obtain ⟨a, rfl⟩ := wordV hy2
    have c3 : But p J1 J3 := b2.trans (((same_put nl2).but p).trans b3)
    have cH3 := c1.trans c3
    have ht3 := cH3 _ _ ntp ht
    refine ⟨_, _, rfl, ?_⟩
    refine ⟨_, rfl, _, rfl, _, rfl, p, .ref tg, k + 1 + 1 + 1, rfl, S3, by omega, .inl ⟨tg, _, rfl, ntp, SqL.of ht3, (by rw [List.length_map]; exact List.length_pos_iff.mpr zn), (by rw [List.length_map]; omega), fun y3 J4 hy3 b4 S4 => ?_⟩⟩
    obtain ⟨z, hz, rfl⟩ := List.mem_map.mp hy3
    have cH4 := cH3.trans b4
    refine ⟨_, rfl, _, rfl, p, pp, k + 1 + 1 + 1 + 1, us, ws, rfl, S4, by omega, PO.but S cH4, lu, lw, fun v J5 tv b5 S5 => ?_⟩
    obtain ⟨t, tt, tl, tk, td⟩ := tv
    refine ⟨_, rfl, _, rfl, (by show 5 ≤ sizeLine; decide), fun q1 nq1 => ?_⟩
    have kq := (same_put (o := .tup [.str (wordL a), .str z, v, wV w0, .bl (decide (V.int d = V.int 0))]) nq1).kp
    exact q _ _ ⟨.look a z t w0 (decide (V.int d = V.int 0)), ⟨q1, v, rfl, upd_same, TupTr.kp kq tt⟩, rfl, ⟨zk z hz, tl, tk, hw0⟩, td⟩ (cH4.trans (b5.trans ((same_put nq1).but p))) ((S5.same (same_put nq1)).mono (by omega))

abbrev sPool : Stmt := top 51
theorem scPool : FnScope ["_law_source_here", "_law_tags_here", "_law_most", "_law_nets", "_law_pool_here", "_law_k", "_law_moment_here"] ["_law_source_here", "_law_tags_here", "_law_most", "_law_nets"] (defScope sPool) := ⟨rfl, rfl, rfl, by decide +kernel, rfl, by decide +kernel, by decide +kernel⟩

theorem c_pool (D : Df K mg "_law_pool" sPool) (B : Nb mg) (cO : Cl P w K mg base CX0 2 "_law_one" ["_law_source_here", "_law_things"] (spOne K)) (cP : Cl P w K mg base CX0 1 "_law_pick" ["_law_source_here", "_law_many"] spPick)
    (cM : Cl P w K mg base CX0 21 "_law_moment" ["_law_source_here", "_law_pool_here"] spMoment) (cD : ∀ n, Cl P w K mg base CX0 n "_law_deep" ["_law_tree"] (spDeep n)) (cK : Cl P w K mg base CX0 22 "_law_peek" ["_law_source_here", "_law_tags_here", "_law_pool_here"] (spPeek K)) :
    Cl P w K mg base CX0 23 "_law_pool" ["_law_source_here", "_law_tags_here", "_law_most", "_law_nets"] spPool := by
  have cD16 := cD 16
  refine D.cl scPool (fun _ _ _ _ _ _ us hl => match us, hl with | [_, _, _, _], _ => rfl) (fun vs H Q E h => ?_) (fun f cdv A outer s H vs Q E hr h => ?_)
  · obtain ⟨p, tg, k, zs, rfl, _⟩ := h
    rfl
  · obtain ⟨p, tg, k, zs, rfl, S, hk, ht, zn, zl, zk, q⟩ := h
    have b60 : (100000 : Nat) ≤ sizeLine := by decide
    have ntp := strs_ne ht zn S
    refine ⟨_, (pss_cons (ps_set (i := 4) scPool.nd rfl (Or.inl rfl) (pe_lst (pa_cons (pe_lst pa_nil) (pa_cons (pe_lst pa_nil) pa_nil))))
      (pss_cons (ps_for PassesOwn.never rfl (pi_range1 rfl B.range (pa_cons (pe_c cP (hr.mono (by decide)) rfl pass0 (pa_cons (pv 0) (pa_cons (pe_op op_add (pv 2) pe_int) pa_nil))) pa_nil)) (pg_name (i := 5) scPool.nd rfl (Or.inl rfl)) (pss_cons (ps_if (PW.pt (pw_and (pt_cmpR op_lt (pe_callB call_len_seq (by rfl) B.len (by decide +kernel) (pa_cons (pe_ix ix_list (pv 4) pe_int (fun _ _ => rfl)) pa_nil)) (pv 3) (nomark _)) (pw_and1 (pt_cmpR op_eq (pe_c cP (hr.mono (by decide)) rfl pass0 (pa_cons (pv 0) (pa_cons pe_int pa_nil))) pe_int (nomark _))))) (pss_cons (ps_set (i := 6) scPool.nd rfl (Or.inl rfl) (pe_c cM (hr.mono (by decide)) rfl pass0 (pa_cons (pv 0) (pa_cons (pv 4) pa_nil))))
      (pss_cons (ps_set (i := 6) scPool.nd rfl (Or.inl rfl) (pe_ifExp (pt_cmpR op_lt (pe_c cD16 (hr.mono (by decide)) rfl pass0 (pa_cons (pv 6) pa_nil)) pe_int (nomark _)) (pv 6) (pe_tup (pa_cons pe_str pa_nil))))
      (pss_one (ps_expr (pe_bm PySem.F.plainAttrs_list PySem.F.slot_list_append PySem.F.type_list_append mt_append (pe_ix ix_list (pv 4) pe_int (fun _ _ => rfl)) (pa_cons (pe_tup (pa_cons (pe_c cO (hr.mono (by decide)) rfl pass0 (pa_cons (pv 0) (pa_cons (pe_lst (pa_cons pe_str (pa_cons pe_str pa_nil))) pa_nil))) (pa_cons (pv 6) pa_nil))) pa_nil)))))) pss_nil)
      (pss_one (ps_expr (pe_bm PySem.F.plainAttrs_list PySem.F.slot_list_append PySem.F.type_list_append mt_append (pe_ix ix_list (pv 4) pe_int (fun _ _ => rfl)) (pa_cons (pe_c cK hr rfl pass0 (pa_cons (pv 0) (pa_cons (pv 1) (pa_cons (pv 4) pa_nil)))) pa_nil))))))
      (pss_one (ps_ret (pv 4))))), ?_⟩
    refine ⟨(by show 0 ≤ sizeLine; decide), fun a na => ⟨(by show 0 ≤ sizeLine; decide), fun b nb' => ⟨(by show 2 ≤ sizeLine; decide), fun pp npp => ?_⟩⟩⟩
    have nb : H b = none := (same_put (o := .lst []) na).free nb'
    have nab : b ≠ a := fun z => by rw [z, upd_same] at nb'; cases nb'
    have ea1 : (upd (upd H a (.lst [])) b (.lst [])) a = some (.lst []) := by rw [upd_ne nab.symm]; exact upd_same
    have eb1 : (upd (upd H a (.lst [])) b (.lst [])) b = some (.lst []) := upd_same
    have sJ0 : Same H (upd (upd H a (.lst [])) b (.lst [])) := (same_put na).trans (same_put nb')
    generalize upd (upd H a (.lst [])) b (.lst []) = J0 at ea1 eb1 sJ0 npp ⊢
    have ea2 := (same_put (o := .lst [.ref a, .ref b]) npp) _ _ ea1
    have eb2 := (same_put (o := .lst [.ref a, .ref b]) npp) _ _ eb1
    have sJ := sJ0.trans (same_put (o := .lst [.ref a, .ref b]) npp)
    have epp : (upd J0 pp (.lst [.ref a, .ref b])) pp = some (.lst [.ref a, .ref b]) := upd_same
    have PO0 : PoolAt (upd J0 pp (.lst [.ref a, .ref b])) pp [] [] := ⟨⟨a, b, epp, ea2, eb2, nab.symm, (fun z => by rw [← z, ea1] at npp; cases npp), (fun z => by rw [← z, eb1] at npp; cases npp)⟩, .nil, .nil⟩
    generalize upd J0 pp (.lst [.ref a, .ref b]) = J at sJ epp PO0 ⊢
    refine ⟨_, rfl, _, rfl, _, _, rfl, rfl, p, 5, k, rfl, S.same sJ, by omega, by decide, by decide, fun d J1 d0 d1 b1 S1 => ⟨d, rfl, by omega, by omega, for_it (walk_range (lo := 0) (n := d.toNat)) (fun i σ G => ∃ (us ws : List V) (x5 x6 : Option V), σ = [some (.ref p), some (.ref tg), some (.int 4), some (.int 3), some (.ref pp), x5, x6] ∧ But p H G ∧ Src G p (k + 1 + 45 * i) ∧ PoolAt G pp us ws ∧ us.length ≤ i ∧ ws.length ≤ i ∧ G pp = some (.lst [.ref a, .ref b]))
      ⟨[], [], _, _, rfl, (sJ.but p).trans b1, S1, PO0.but (S.same sJ) b1, Nat.le_refl _, Nat.le_refl _, b1 _ _ (PO0.ne (S.same sJ)) epp⟩ (fun _ _ _ _ _ => trivial) ?_ ?_⟩⟩
    · rintro i x σ Ga Gb hi ⟨us, ws, x5, x6, rfl, ca, Sa, POa, lu, lw, epa⟩ ⟨rfl, rfl⟩
      have hi5 : i < 5 := by omega
      obtain ⟨a', b', h1, h2, h3, h4, h5, h6⟩ := id POa.ex
      rw [epa] at h1
      cases h1
      refine ⟨_, rfl, pp, _, 1, .ref b, rfl, rfl, SqL.of epa, at1 _ _ _, b, ws, rfl, .inl (SqL.of h3), _, rfl, _, _, rfl, rfl, _, rfl, ite2 (fun _ => ?_) (fun _ => iteF ?_)⟩
      · refine ⟨_, rfl, p, 2, _, rfl, Sa, by omega, by decide, by decide, fun d2 Gc e0 e1 bc Sc => ⟨rfl, _, rfl, ?_⟩⟩
        have cc := ca.trans bc
        have POc := POa.but Sa bc
        have epc := bc _ _ (POa.ne Sa) epa
        refine ite2 (fun _ => ?_) (fun _ => ?_)
        · refine ⟨_, rfl, _, rfl, p, pp, _, us, ws, rfl, Sc, by omega, POc, by omega, by omega, fun v Gd tv bd Sd' => ?_⟩
          obtain ⟨t, tt, tl, tk, td⟩ := tv
          have hg := t.hgt_le tk
          have cd := cc.trans bd
          have POd := POc.but Sc bd
          have epd := bd _ _ (POc.ne Sc) epc
          refine ⟨_, rfl, v, t, rfl, tt, tk, by omega, fun Ge se => ⟨_, _, rfl, rfl, _, rfl, ite2 (fun c => ?_) (fun c => ?_)⟩⟩
          · have c' : (t.dep : Int) < 8 := of_decide_eq_true c
            refine ⟨_, rfl, ?_⟩
            have tte := TupTr.kp se.kp tt
            have ce := cd.trans (se.but p)
            have Se := Sd'.same se
            have POe := POd.same se
            have epe := se _ _ epd
            have td8 : t.dep < 8 := by omega
            obtain ⟨a', b', g1, g2, g3, g4, g5, g6⟩ := POe.ex
            rw [epe] at g1
            cases g1
            refine ⟨_, rfl, pp, _, 1, .ref b, rfl, rfl, SqL.of epe, at1 _ _ _, .inl ⟨rfl, _, SqL.of g3⟩, _, rfl, (by show 2 ≤ sizeLine; decide), fun l2 nl2 => ?_⟩
            refine ⟨p, .ref l2, _, rfl, Se.same (same_put nl2), by omega, .inl ⟨l2, _, rfl, Se.ne nl2, SqL.of upd_same, (by decide), (by decide), fun y2 Gn hy2 bn Sn => ?_⟩⟩
            have cn := ce.trans (((same_put nl2).but p).trans bn)
            have bn2 : But p Ge Gn := ((same_put nl2).but p).trans bn
            refine ⟨_, rfl, (by show 2 ≤ sizeLine; decide), fun qn nqn => ?_⟩
            have ttn := TupTr.kp ((Se.kp bn2).trans (same_put (o := .tup [y2, v]) nqn).kp) tte
            have tvn := netV2 hy2 (upd_same (H := Gn) (a := qn) (o := .tup [y2, v])) ttn tl tk td8
            have cn3 := cn.trans ((same_put (o := .tup [y2, v]) nqn).but p)
            have Sn3 := Sn.same (same_put (o := .tup [y2, v]) nqn)
            have POn := (POe.but Se bn2).same (same_put (o := .tup [y2, v]) nqn)
            have epn := (same_put (o := .tup [y2, v]) nqn) _ _ (bn2 _ _ (POe.ne Se) epe)
            generalize upd Gn qn (.tup [y2, v]) = Gm at tvn cn3 Sn3 POn epn ⊢
            obtain ⟨a', b', k1, k2, k3, k4, k5, k6⟩ := POn.ex
            rw [epn] at k1
            cases k1
            have nbp : b ≠ p := POn.ns.ne k3 Sn3
            refine ⟨b, ws, .ref qn, rfl, rfl, k3, (by omega), ?_⟩
            have PO4 := POn.net epn tvn
            have ep4 : (upd Gm b (.lst (ws ++ [.ref qn]))) pp = some (.lst [.ref a, .ref b]) := by rw [upd_ne k6.symm]; exact epn
            have c4 : But p H (upd Gm b (.lst (ws ++ [.ref qn]))) := fun cc u nc e => by rw [upd_ne (fun z => by rw [z, nb] at e; cases e)]; exact cn3 _ _ nc e
            have S4 : Src (upd Gm b (.lst (ws ++ [.ref qn]))) p (k + 1 + 45 * i + 10) := by
              obtain ⟨A, B', t', h1, h2⟩ := Sn3
              exact Src.mono ⟨A, B', t', by rw [upd_ne nbp.symm]; exact h1, h2⟩ (by omega)
            generalize upd Gm b (.lst (ws ++ [.ref qn])) = G4 at PO4 ep4 c4 S4 ⊢
            have lw4 : (ws ++ [V.ref qn]).length ≤ i + 1 := by rw [List.length_append]; show ws.length + 1 ≤ i + 1; omega
            generalize ws ++ [V.ref qn] = ws4 at PO4 lw4
            obtain ⟨a', b', g1, g2, g3, g4, g5, g6⟩ := PO4.ex
            rw [ep4] at g1
            cases g1
            refine ⟨_, rfl, pp, _, 0, .ref a, rfl, rfl, SqL.of ep4, at0 _ _, .inl ⟨rfl, _, SqL.of g2⟩, _, rfl, _, rfl, _, rfl, p, tg, pp, _, zs, us, ws4, rfl, S4, by omega, c4 _ _ ntp ht, zn, zl, zk, PO4, by omega, by omega, fun vz Gz tz bz Sz => ?_⟩
            have POz := PO4.but S4 bz
            have epz := bz _ _ (PO4.ne S4) ep4
            obtain ⟨a', b', k1, k2, k3, k4, k5, k6⟩ := POz.ex
            rw [epz] at k1
            cases k1
            have cz := c4.trans bz
            have nap : a ≠ p := POz.ls.ne k2 Sz
            refine ⟨a, us, vz, rfl, rfl, k2, (by omega), us ++ [vz], ws4, _, _, rfl, fun cc u nc e => by rw [upd_ne (fun z => by rw [z, na] at e; cases e)]; exact cz _ _ nc e, ?_, POz.look epz tz, by rw [List.length_append]; show us.length + 1 ≤ i + 1; omega, by omega, by rw [upd_ne k5.symm]; exact epz⟩
            obtain ⟨A, B', t', h1, h2⟩ := Sz
            exact Src.mono ⟨A, B', t', by rw [upd_ne nap.symm]; exact h1, h2⟩ (by omega)
          · refine ⟨(by show 1 ≤ sizeLine; decide), fun qe nqe => ?_⟩
            have se2 := se.trans (same_put (o := .tup [.str "now"]) nqe)
            have tte : TupTr (upd Ge qe (.tup [.str "now"])) .now (.ref qe) := ⟨qe, rfl, upd_same⟩
            generalize upd Ge qe (.tup [.str "now"]) = Gf at se2 tte ⊢
            have ce := cd.trans (se2.but p)
            have Se := Sd'.same se2
            have POe := POd.same se2
            have epe := se2 _ _ epd
            have tl0 : Tr.now.isLook = false := rfl
            have tk0 : Tr.now.ok := trivial
            have td8 : Tr.now.dep < 8 := by decide
            obtain ⟨a', b', g1, g2, g3, g4, g5, g6⟩ := POe.ex
            rw [epe] at g1
            cases g1
            refine ⟨_, rfl, pp, _, 1, .ref b, rfl, rfl, SqL.of epe, at1 _ _ _, .inl ⟨rfl, _, SqL.of g3⟩, _, rfl, (by show 2 ≤ sizeLine; decide), fun l2 nl2 => ?_⟩
            refine ⟨p, .ref l2, _, rfl, Se.same (same_put nl2), by omega, .inl ⟨l2, _, rfl, Se.ne nl2, SqL.of upd_same, (by decide), (by decide), fun y2 Gn hy2 bn Sn => ?_⟩⟩
            have cn := ce.trans (((same_put nl2).but p).trans bn)
            have bn2 : But p Gf Gn := ((same_put nl2).but p).trans bn
            refine ⟨_, rfl, (by show 2 ≤ sizeLine; decide), fun qn nqn => ?_⟩
            have ttn := TupTr.kp ((Se.kp bn2).trans (same_put (o := .tup [y2, .ref qe]) nqn).kp) tte
            have tvn := netV2 hy2 (upd_same (H := Gn) (a := qn) (o := .tup [y2, .ref qe])) ttn tl0 tk0 td8
            have cn3 := cn.trans ((same_put (o := .tup [y2, .ref qe]) nqn).but p)
            have Sn3 := Sn.same (same_put (o := .tup [y2, .ref qe]) nqn)
            have POn := (POe.but Se bn2).same (same_put (o := .tup [y2, .ref qe]) nqn)
            have epn := (same_put (o := .tup [y2, .ref qe]) nqn) _ _ (bn2 _ _ (POe.ne Se) epe)
            generalize upd Gn qn (.tup [y2, .ref qe]) = Gm at tvn cn3 Sn3 POn epn ⊢
            obtain ⟨a', b', k1, k2, k3, k4, k5, k6⟩ := POn.ex
            rw [epn] at k1
            cases k1
            have nbp : b ≠ p := POn.ns.ne k3 Sn3
            refine ⟨b, ws, .ref qn, rfl, rfl, k3, (by omega), ?_⟩
            have PO4 := POn.net epn tvn
            have ep4 : (upd Gm b (.lst (ws ++ [.ref qn]))) pp = some (.lst [.ref a, .ref b]) := by rw [upd_ne k6.symm]; exact epn
            have c4 : But p H (upd Gm b (.lst (ws ++ [.ref qn]))) := fun cc u nc e => by rw [upd_ne (fun z => by rw [z, nb] at e; cases e)]; exact cn3 _ _ nc e
            have S4 : Src (upd Gm b (.lst (ws ++ [.ref qn]))) p (k + 1 + 45 * i + 10) := by
              obtain ⟨A, B', t', h1, h2⟩ := Sn3
              exact Src.mono ⟨A, B', t', by rw [upd_ne nbp.symm]; exact h1, h2⟩ (by omega)
            generalize upd Gm b (.lst (ws ++ [.ref qn])) = G4 at PO4 ep4 c4 S4 ⊢
            have lw4 : (ws ++ [V.ref qn]).length ≤ i + 1 := by rw [List.length_append]; show ws.length + 1 ≤ i + 1; omega
            generalize ws ++ [V.ref qn] = ws4 at PO4 lw4
            obtain ⟨a', b', g1, g2, g3, g4, g5, g6⟩ := PO4.ex
            rw [ep4] at g1
            cases g1
            refine ⟨_, rfl, pp, _, 0, .ref a, rfl, rfl, SqL.of ep4, at0 _ _, .inl ⟨rfl, _, SqL.of g2⟩, _, rfl, _, rfl, _, rfl, p, tg, pp, _, zs, us, ws4, rfl, S4, by omega, c4 _ _ ntp ht, zn, zl, zk, PO4, by omega, by omega, fun vz Gz tz bz Sz => ?_⟩
            have POz := PO4.but S4 bz
            have epz := bz _ _ (PO4.ne S4) ep4
            obtain ⟨a', b', k1, k2, k3, k4, k5, k6⟩ := POz.ex
            rw [epz] at k1
            cases k1
            have cz := c4.trans bz
            have nap : a ≠ p := POz.ls.ne k2 Sz
            refine ⟨a, us, vz, rfl, rfl, k2, (by omega), us ++ [vz], ws4, _, _, rfl, fun cc u nc e => by rw [upd_ne (fun z => by rw [z, na] at e; cases e)]; exact cz _ _ nc e, ?_, POz.look epz tz, by rw [List.length_append]; show us.length + 1 ≤ i + 1; omega, by omega, by rw [upd_ne k5.symm]; exact epz⟩
            obtain ⟨A, B', t', h1, h2⟩ := Sz
            exact Src.mono ⟨A, B', t', by rw [upd_ne nap.symm]; exact h1, h2⟩ (by omega)
        · have Sc2 : Src Gc p (k + 1 + 45 * i + 10) := Sc.mono (by omega)
          obtain ⟨a', b', g1, g2, g3, g4, g5, g6⟩ := POc.ex
          rw [epc] at g1
          cases g1
          refine ⟨_, rfl, pp, _, 0, .ref a, rfl, rfl, SqL.of epc, at0 _ _, .inl ⟨rfl, _, SqL.of g2⟩, _, rfl, _, rfl, _, rfl, p, tg, pp, _, zs, us, ws, rfl, Sc2, by omega, cc _ _ ntp ht, zn, zl, zk, POc, by omega, by omega, fun vz Gz tz bz Sz => ?_⟩
          have POz := POc.but Sc2 bz
          have epz := bz _ _ (POc.ne Sc2) epc
          obtain ⟨a', b', k1, k2, k3, k4, k5, k6⟩ := POz.ex
          rw [epz] at k1
          cases k1
          have cz := cc.trans bz
          have nap : a ≠ p := POz.ls.ne k2 Sz
          refine ⟨a, us, vz, rfl, rfl, k2, (by omega), us ++ [vz], ws, _, _, rfl, fun cc u nc e => by rw [upd_ne (fun z => by rw [z, na] at e; cases e)]; exact cz _ _ nc e, ?_, POz.look epz tz, by rw [List.length_append]; show us.length + 1 ≤ i + 1; omega, by omega, by rw [upd_ne k5.symm]; exact epz⟩
          obtain ⟨A, B', t', h1, h2⟩ := Sz
          exact Src.mono ⟨A, B', t', by rw [upd_ne nap.symm]; exact h1, h2⟩ (by omega)
      · have Sa2 : Src _ p (k + 1 + 45 * i + 10) := Sa.mono (by omega)
        obtain ⟨a', b', g1, g2, g3, g4, g5, g6⟩ := POa.ex
        rw [epa] at g1
        cases g1
        refine ⟨_, rfl, pp, _, 0, .ref a, rfl, rfl, SqL.of epa, at0 _ _, .inl ⟨rfl, _, SqL.of g2⟩, _, rfl, _, rfl, _, rfl, p, tg, pp, _, zs, us, ws, rfl, Sa2, by omega, ca _ _ ntp ht, zn, zl, zk, POa, by omega, by omega, fun vz Gz tz bz Sz => ?_⟩
        have POz := POa.but Sa2 bz
        have epz := bz _ _ (POa.ne Sa2) epa
        obtain ⟨a', b', k1, k2, k3, k4, k5, k6⟩ := POz.ex
        rw [epz] at k1
        cases k1
        have cz := ca.trans bz
        have nap : a ≠ p := POz.ls.ne k2 Sz
        refine ⟨a, us, vz, rfl, rfl, k2, (by omega), us ++ [vz], ws, _, _, rfl, fun cc u nc e => by rw [upd_ne (fun z => by rw [z, na] at e; cases e)]; exact cz _ _ nc e, ?_, POz.look epz tz, by rw [List.length_append]; show us.length + 1 ≤ i + 1; omega, by omega, by rw [upd_ne k5.symm]; exact epz⟩
        obtain ⟨A, B', t', h1, h2⟩ := Sz
        exact Src.mono ⟨A, B', t', by rw [upd_ne nap.symm]; exact h1, h2⟩ (by omega)
    · rintro σ Ga ⟨us, ws, x5, x6, rfl, ca, Sa, POa, lu, lw, epa⟩
      exact ⟨_, rfl, q pp us ws Ga POa (by omega) (by omega) ca (Sa.mono (by omega))⟩
end
end K04


/-! trees made into objects -/
namespace Cal
open PySem PySem.Spec PyProof.Rows L2 Gd
/-- a class whose __init__ has within and strict by keyword, with their defaults -/
structure Dk (K : PySem.W.Frag) (mg : Str → Option Value) (x : Str) (C : Addr) (st : Stmt) (f : Addr) (fd : FuncData) : Prop where
  gl : mg x = some (.ref C)
  made : Mk K C f
  fn : Fun K "__init__" (x ++ ".__init__") st f fd
  df : ∃ (D : Addr) (dc pm cd ct : Value) (an : Option Addr), fd = PySem.W.fnOf "__init__" (x ++ ".__init__") (defArgs st) (defBody st) (defScope st) .none (.ref D) dc pm an cd ct ∧ PySem.W.nsIn K D "within" = some (some .none) ∧ PySem.W.nsIn K D "strict" = some (some (.bool false))
end Cal
namespace Tm
open PySem PySem.Spec PyProof.Rows L2 Rng Bag
theorem MadeT.same {Cs : Nat → Addr} {H H' : Hp} {t : Tr} {Q : VK} (q : MadeT Cs H t Q) (s : Same H H') : MadeT Cs H' t Q := fun o G n s' th => q o G (s.free n) (s.trans s') th
def spTMade (Cs : Nat → Addr) (lk : Bool) (n : Nat) : Sp := fun vs H Q _ => ∃ (v : V) (t : Tr), vs = [v] ∧ TupTr H t v ∧ t.isLook = lk ∧ t.ok ∧ t.dep ≤ 8 ∧ t.hgt ≤ n ∧ MadeT Cs H t Q
def spMade (Cs : Nat → Addr) : Sp := fun vs H Q _ => ∃ (v : V) (t : Tr), vs = [v] ∧ TupTr H t v ∧ t.ok ∧ t.dep ≤ 8 ∧ MadeT Cs H t Q
def swap2 {α : Type} : List α → List α
  | [a, b] => [b, a]
  | l => l
def swap12 {α : Type} : List α → List α
  | [a, b, c, d] => [b, a, c, d]
  | l => l
theorem word_is (t : Tr) (w : Str) : decide (V.str t.word = V.str w) = decide (t.word = w) := decide_eq_decide.mpr ⟨fun z => V.str.inj z, fun z => congrArg V.str z⟩
end Tm


namespace K04
open PySem PySem.Spec PyProof.Rows L2 Rng Bag Gd Cal Tm Tr4 Own1
section
variable {P : Program} {w : World} {K : PySem.W.Frag} {mg : Str → Option Value} {base : Heap} {Cs : Nat → Addr} {CT CL : Addr} {e : Ers}

theorem kb_ws {f : Addr} {fd : FuncData} (F : Fun K "__init__" "Before.__init__" sBeforeI f fd) : KBn K fd ["self", "feed", "time", "within", "strict"] 3 ["within", "strict"] (fun us ws => us ++ ws) (fun us ws => us ++ ws) := by
  obtain ⟨oc, od, kV, doc, pm, an, cdv, ct, osl, rfl, lk, hcd⟩ := F.ex
  refine ⟨fun s us ws X h1 h2 => ?_, fun r1 r2 => r1.append r2⟩
  match us, ws, h1, h2 with
  | [a, b, c], [d, e], _, _ => exact .of_eq rfl
theorem kb_sw {f : Addr} {fd : FuncData} (F : Fun K "__init__" "After.__init__" sAfterI f fd) : KBn K fd ["self", "feed", "time", "within", "strict"] 3 ["strict", "within"] (fun us ws => us ++ swap2 ws) (fun us ws => us ++ swap2 ws) := by
  obtain ⟨oc, od, kV, doc, pm, an, cdv, ct, osl, rfl, lk, hcd⟩ := F.ex
  refine ⟨fun s us ws X h1 h2 => ?_, fun {vs zs us ws} r1 r2 => r1.append ?_⟩
  · match us, ws, h1, h2 with
    | [a, b, c], [d, e], _, _ => exact .of_eq rfl
  · match zs, ws, r2 with
    | _, _, .nil => exact .nil
    | _, _, .cons a .nil => exact .cons a .nil
    | _, _, .cons a (.cons b .nil) => exact .cons b (.cons a .nil)
    | _, _, .cons a (.cons b (.cons c r)) => exact .cons a (.cons b (.cons c r))
abbrev sTMade : Stmt := top 52
theorem scTMade : FnScope ["_law_tree"] ["_law_tree"] (defScope sTMade) := ⟨rfl, rfl, rfl, by decide +kernel, rfl, by decide +kernel, by decide +kernel⟩

abbrev sLMade : Stmt := top 53
theorem scLMade : FnScope ["_law_tree", "_law_moment_here"] ["_law_tree"] (defScope sLMade) := ⟨rfl, rfl, rfl, by decide +kernel, rfl, by decide +kernel, by decide +kernel⟩

theorem c_tmade (T : TmK K Cs CT CL) (DT : Df K mg "_law_time_made" sTMade) (DL : Df K mg "_law_look_made" sLMade) (B : Nb mg) (i0 : Ni P w K mg base (L2N.CX P w) 1 "Now" (Cs 0) ["self"] (spNowI Cs)) (i1 : Ni P w K mg base (L2N.CX P w) 3 "Shift" (Cs 1) ["self", "time", "by"] (spShiftI K Cs CT e)) (i2 : Ni P w K mg base (L2N.CX P w) 2 "Floor" (Cs 2) ["self", "time"] (spFloorI K Cs CT e 2 Tr.floor))
    (i3 : Ni P w K mg base (L2N.CX P w) 2 "Ceil" (Cs 3) ["self", "time"] (spFloorI K Cs CT e 3 Tr.ceil)) (i4 : Ni P w K mg base (L2N.CX P w) 2 "RowTime" (Cs 4) ["self", "look"] (spRowI K Cs CL e)) {f5 f6 : Addr} {d5 d6 : FuncData} (dB : Dk K mg "Before" (Cs 5) sBeforeI f5 d5) (dA : Dk K mg "After" (Cs 6) sAfterI f6 d6)
    (fB : FnOk P w K mg base (L2N.CX P w) 5 f5 d5 ["self", "feed", "time", "within", "strict"] (spLookI K Cs CT e false)) (fA : FnOk P w K mg base (L2N.CX P w) 5 f6 d6 ["self", "feed", "time", "within", "strict"] (spLookI K Cs CT e true)) :
    ∀ n, Cl P w K mg base CX0 (n + 7) "_law_time_made" ["_law_tree"] (spTMade Cs false n) ∧ Cl P w K mg base CX0 (n + 7) "_law_look_made" ["_law_tree"] (spTMade Cs true n) := by
  intro n
  induction n with
  | zero =>
    obtain ⟨f, fd, m, F⟩ := DT.ex
    obtain ⟨f2, fd2, m2, F2⟩ := DL.ex
    exact ⟨⟨f, fd, m, F.kp, F.binds (fun _ _ _ _ _ _ us hl => match us, hl with | [_], _ => rfl), ⟨fun vs H Q E ⟨v, t, e, _⟩ => by rw [e]; rfl, fun A outer s H args us vs Q E hr e0 hb hv ⟨v, t, e, _, _, _, _, hh, _⟩ => absurd t.hgt_pos (by omega)⟩⟩,
      ⟨f2, fd2, m2, F2.kp, F2.binds (fun _ _ _ _ _ _ us hl => match us, hl with | [_], _ => rfl), ⟨fun vs H Q E ⟨v, t, e, _⟩ => by rw [e]; rfl, fun A outer s H args us vs Q E hr e0 hb hv ⟨v, t, e, _, _, _, _, hh, _⟩ => absurd t.hgt_pos (by omega)⟩⟩⟩
  | succ n ih =>
    obtain ⟨ihT, ihL⟩ := ih
    constructor
    · refine DT.cl scTMade (fun _ _ _ _ _ _ us hl => match us, hl with | [_], _ => rfl) (fun vs H Q E h => ?_) (fun f cdv A outer s H vs Q E hr h => ?_)
      · obtain ⟨v, t, rfl, _⟩ := h
        rfl
      · obtain ⟨v, t, rfl, tt, lk, ok, dp, hh, q⟩ := h
        have tt' := tt
        obtain ⟨p, us, rfl, hp, _⟩ := tt.parts
        refine ⟨_, (pss_cons (ps_if (pt_cmpR op_eq (pe_ix ix_tup (pv 0) pe_int (fun _ _ => rfl)) pe_str (nomark _)) (pss_one (ps_ret (pe_n0 i0 (hr.mono (by omega)) rfl passC))) pss_nil)
      (pss_cons (ps_if (pt_cmpR op_eq (pe_ix ix_tup (pv 0) pe_int (fun _ _ => rfl)) pe_str (nomark _)) (pss_one (ps_ret (pe_n i1 (hr.mono (by omega)) rfl passC (pa_cons (pe_c ihT (hr.mono (by omega)) rfl pass0 (pa_cons (pe_ix ix_tup (pv 0) pe_int (fun _ _ => rfl)) pa_nil)) (pa_cons (pe_ix ix_tup (pv 0) pe_int (fun _ _ => rfl)) pa_nil))))) pss_nil)
      (pss_cons (ps_if (pt_cmpR op_eq (pe_ix ix_tup (pv 0) pe_int (fun _ _ => rfl)) pe_str (nomark _)) (pss_one (ps_ret (pe_n i4 (hr.mono (by omega)) rfl passC (pa_cons (pe_c ihL (hr.mono (by omega)) rfl pass0 (pa_cons (pe_ix ix_tup (pv 0) pe_int (fun _ _ => rfl)) pa_nil)) pa_nil)))) pss_nil)
      (pss_one (ps_ret (pe_ifExp (pt_cmpR op_eq (pe_ix ix_tup (pv 0) pe_int (fun _ _ => rfl)) pe_str (nomark _)) (pe_n i2 (hr.mono (by omega)) rfl passC (pa_cons (pe_c ihT (hr.mono (by omega)) rfl pass0 (pa_cons (pe_ix ix_tup (pv 0) pe_int (fun _ _ => rfl)) pa_nil)) pa_nil)) (pe_n i3 (hr.mono (by omega)) rfl passC (pa_cons (pe_c ihT (hr.mono (by omega)) rfl pass0 (pa_cons (pe_ix ix_tup (pv 0) pe_int (fun _ _ => rfl)) pa_nil)) pa_nil)))))))), ?_⟩
        refine ⟨_, rfl, p, _, 0, .str t.word, rfl, rfl, SqT.of hp, at0 _ _, rfl, _, rfl, ?_⟩
        cases t with
        | now => exact iteT fun x dx nx nd ne => now_go q x dx nx nd
        | shift u m =>
          obtain ⟨p', x, e1, h1, ux⟩ := tt'
          cases e1
          rw [hp] at h1
          cases h1
          exact iteF ⟨_, rfl, p, _, 0, _, rfl, rfl, SqT.of hp, at0 _ _, rfl, _, rfl, iteT ⟨_, rfl, p, _, 1, x, rfl, rfl, SqT.of hp, at1 _ _ _, x, u, rfl, ux, ok.1, ok.2.1, Nat.le_of_succ_le dp, Nat.le_of_succ_le_succ hh, fun o H1 no s1 th => ⟨_, rfl, p, _, 2, .int m, rfl, rfl, SqT.of (s1 _ _ hp), at2 _ _ _ _, fun y dy ny nd ne => shift_go T (on := some m) th ok.1 ok.2.1 (Nat.le_of_succ_le dp) (.inl ⟨m, rfl, rfl, ok.2.2.1, ok.2.2.2⟩) (fun z => (nomatch z)) (fun k ek => by cases ek; exact ⟨fun z => absurd dp (by show ¬ u.dep + 1 ≤ 8; omega), fun _ => q.same s1⟩) y dy ny nd⟩⟩⟩
        | floor u =>
          obtain ⟨p', x, e1, h1, ux⟩ := tt'
          cases e1
          rw [hp] at h1
          cases h1
          exact iteF ⟨_, rfl, p, _, 0, _, rfl, rfl, SqT.of hp, at0 _ _, rfl, _, rfl, iteF ⟨_, rfl, p, _, 0, _, rfl, rfl, SqT.of hp, at0 _ _, rfl, _, rfl, iteF ⟨_, rfl, p, _, 0, _, rfl, rfl, SqT.of hp, at0 _ _, rfl, _, rfl, iteT ⟨_, rfl, p, _, 1, x, rfl, rfl, SqT.of hp, at1 _ _ _, x, u, rfl, ux, ok.1, ok.2, Nat.le_of_succ_le dp, Nat.le_of_succ_le_succ hh, fun o H1 no s1 th => fun y dy ny nd ne => floor_go T th ok.1 ok.2 (Nat.le_of_succ_le dp) ⟨fun z => absurd dp (by show ¬ u.dep + 1 ≤ 8; omega), fun _ => q.same s1⟩ y dy ny nd⟩⟩⟩⟩
        | ceil u =>
          obtain ⟨p', x, e1, h1, ux⟩ := tt'
          cases e1
          rw [hp] at h1
          cases h1
          exact iteF ⟨_, rfl, p, _, 0, _, rfl, rfl, SqT.of hp, at0 _ _, rfl, _, rfl, iteF ⟨_, rfl, p, _, 0, _, rfl, rfl, SqT.of hp, at0 _ _, rfl, _, rfl, iteF ⟨_, rfl, p, _, 0, _, rfl, rfl, SqT.of hp, at0 _ _, rfl, _, rfl, iteF ⟨_, rfl, p, _, 1, x, rfl, rfl, SqT.of hp, at1 _ _ _, x, u, rfl, ux, ok.1, ok.2, Nat.le_of_succ_le dp, Nat.le_of_succ_le_succ hh, fun o H1 no s1 th => fun y dy ny nd ne => floor_go T th ok.1 ok.2 (Nat.le_of_succ_le dp) ⟨fun z => absurd dp (by show ¬ u.dep + 1 ≤ 8; omega), fun _ => q.same s1⟩ y dy ny nd⟩⟩⟩⟩
        | row u =>
          obtain ⟨p', x, e1, h1, ux⟩ := tt'
          cases e1
          rw [hp] at h1
          cases h1
          exact iteF ⟨_, rfl, p, _, 0, _, rfl, rfl, SqT.of hp, at0 _ _, rfl, _, rfl, iteF ⟨_, rfl, p, _, 0, _, rfl, rfl, SqT.of hp, at0 _ _, rfl, _, rfl, iteT ⟨_, rfl, p, _, 1, x, rfl, rfl, SqT.of hp, at1 _ _ _, x, u, rfl, ux, ok.1, ok.2, Nat.le_of_succ_le dp, Nat.le_of_succ_le_succ hh, fun o H1 no s1 th => fun y dy ny nd ne => row_go T th ok.1 ok.2 (Nat.le_of_succ_le dp) ⟨fun z => absurd dp (by show ¬ u.dep + 1 ≤ 8; omega), fun _ => q.same s1⟩ y dy ny nd⟩⟩⟩
        | look a f' u w' s' => cases lk
    · refine DL.cl scLMade (fun _ _ _ _ _ _ us hl => match us, hl with | [_], _ => rfl) (fun vs H Q E h => ?_) (fun f cdv A outer s H vs Q E hr h => ?_)
      · obtain ⟨v, t, rfl, _⟩ := h
        rfl
      · obtain ⟨v, t, rfl, tt, lk, ok, dp, hh, q⟩ := h
        cases t with
        | look a f' u w' s' =>
          obtain ⟨p, x, rfl, hp, ux⟩ := tt
          refine ⟨_, (pss_cons (ps_set (i := 1) scLMade.nd rfl (Or.inl rfl) (pe_c ihT (hr.mono (by omega)) rfl pass0 (pa_cons (pe_ix ix_tup (pv 0) pe_int (fun _ _ => rfl)) pa_nil)))
      (pss_cons (ps_if (pt_cmpR op_eq (pe_ix ix_tup (pv 0) pe_int (fun _ _ => rfl)) pe_str (nomark _)) (pss_one (ps_ret (pe_makeK dB.made fB (hr.mono (by omega)) rfl dB.gl (kb_ws dB.fn) passC (pa_cons (pe_ix ix_tup (pv 0) pe_int (fun _ _ => rfl)) (pa_cons (pv 1) pa_nil)) (pk_cons (pe_ix ix_tup (pv 0) pe_int (fun _ _ => rfl)) (pk_cons (pe_ix ix_tup (pv 0) pe_int (fun _ _ => rfl)) pk_nil))))) pss_nil)
      (pss_one (ps_ret (pe_makeK dA.made fA (hr.mono (by omega)) rfl dA.gl (kb_sw dA.fn) passC (pa_cons (pe_ix ix_tup (pv 0) pe_int (fun _ _ => rfl)) (pa_cons (pv 1) pa_nil)) (pk_cons (pe_ix ix_tup (pv 0) pe_int (fun _ _ => rfl)) (pk_cons (pe_ix ix_tup (pv 0) pe_int (fun _ _ => rfl)) pk_nil))))))), ?_⟩
          refine ⟨_, rfl, p, _, 2, x, rfl, rfl, SqT.of hp, at2 _ _ _ _, x, u, rfl, ux, ok.2.1, ok.2.2.1, dp, Nat.le_of_succ_le_succ hh, fun o H1 no s1 th => ?_⟩
          have hp1 := s1 _ _ hp
          refine ⟨_, rfl, p, _, 0, _, rfl, rfl, SqT.of hp1, at0 _ _, rfl, _, rfl, ?_⟩
          cases a with
          | false => exact iteT ⟨_, rfl, p, _, 1, _, rfl, rfl, SqT.of hp1, at1 _ _ _, _, rfl, _, rfl, p, _, 3, _, rfl, rfl, SqT.of hp1, at3 _ _ _ _ _, _, rfl, p, _, 4, _, rfl, rfl, SqT.of hp1, at4 _ _ _ _ _ _, rfl, rfl, fun y dy ny nd ne => look_go T th ok dp (q.same s1) y dy ny nd⟩
          | true => exact iteF ⟨_, rfl, p, _, 1, _, rfl, rfl, SqT.of hp1, at1 _ _ _, _, rfl, _, rfl, p, _, 4, _, rfl, rfl, SqT.of hp1, at4 _ _ _ _ _ _, _, rfl, p, _, 3, _, rfl, rfl, SqT.of hp1, at3 _ _ _ _ _, rfl, rfl, fun y dy ny nd ne => look_go T th ok dp (q.same s1) y dy ny nd⟩
        | _ => cases lk
abbrev sMade : Stmt := top 56
theorem scMade : FnScope ["_law_tree"] ["_law_tree"] (defScope sMade) := ⟨rfl, rfl, rfl, by decide +kernel, rfl, by decide +kernel, by decide +kernel⟩

theorem c_made (D : Df K mg "_law_made" sMade) (B : Nb mg) (ihT : Cl P w K mg base CX0 (16 + 7) "_law_time_made" ["_law_tree"] (spTMade Cs false 16)) (ihL : Cl P w K mg base CX0 (16 + 7) "_law_look_made" ["_law_tree"] (spTMade Cs true 16)) : Cl P w K mg base CX0 24 "_law_made" ["_law_tree"] (spMade Cs) := by
  refine D.cl scMade (fun _ _ _ _ _ _ us hl => match us, hl with | [_], _ => rfl) (fun vs H Q E h => ?_) (fun f cdv A outer s H vs Q E hr h => ?_)
  · obtain ⟨v, t, rfl, _⟩ := h
    rfl
  · obtain ⟨v, t, rfl, tt, ok, dp, q⟩ := h
    have tt' := tt
    obtain ⟨p, us, rfl, hp, _⟩ := tt.parts
    have h16 := hgt16 ok dp
    refine ⟨_, (pss_one (ps_ret (pe_ifExp (pt_cmpR op_in_seq (pe_ix ix_tup (pv 0) pe_int (fun _ _ => rfl)) (pe_lst (pa_cons pe_str (pa_cons pe_str pa_nil))) (by rfl)) (pe_c ihL (hr.mono (by omega)) rfl pass0 (pa_cons (pv 0) pa_nil)) (pe_c ihT (hr.mono (by omega)) rfl pass0 (pa_cons (pv 0) pa_nil))))), ?_⟩
    refine ⟨_, rfl, p, _, 0, .str t.word, rfl, rfl, SqT.of hp, at0 _ _, (by show 2 ≤ sizeLine; decide), fun r nr => ⟨r, _, rfl, .inl (SqL.of upd_same), rfl, rfl, _, rfl, ?_⟩⟩
    show ite ((inV (.str t.word) [.str "before", .str "after"]) = true) _ _
    rw [in_look]
    have sr : Same H (upd H r (.lst [.str "before", .str "after"])) := same_put nr
    generalize upd H r (.lst [.str "before", .str "after"]) = Gz at sr ⊢
    cases hL : t.isLook with
    | true => exact iteT ⟨_, rfl, _, t, rfl, TupTr.kp sr.kp tt', hL, ok, dp, h16, q.same sr⟩
    | false => exact iteF ⟨_, rfl, _, t, rfl, TupTr.kp sr.kp tt', hL, ok, dp, h16, q.same sr⟩
end
end K04


/-! bool(o) of a class that tells neither a truth nor a length -/
namespace Own1
open PySem PySem.Spec PyProof.Rows L2
section
variable {X : Cx}
/-- bool(o) is True -/
theorem call_bool0 {C : Addr} (nb : PySem.W.findIn X.K (.ref C) "__bool__" = some none) (nl : PySem.W.findIn X.K (.ref C) "__len__" = some none) : CallR X (.type "bool") (fun xs H Q => ∃ a dx fs, xs = [V.ref a] ∧ H a = some (.ins C dx fs) ∧ Q (.bl true) H) := by
  rintro pins s σ H xs us Q I r ⟨a, dx, fs, rfl, ha, q⟩
  rw [Vals.ref1 r]
  obtain ⟨ox, od, J⟩ := ins_at I ha
  obtain ⟨m, hF⟩ := I.fr
  refine callType_codes (T := "bool") (Bi := Builtin.«object.__init__») (Q₁ := fun r z => r = Value.bool true ∧ z = s) PySem.F.called_bool (PySem.F.typeCall_bool_1 _) PySem.F.entry_object_init (codeAny_of_tree ?_) ?_
  · have made : wpAny (model X.prog X.w) X.A.in1.in1.in1 (truthy (.ref a)) (fun b z => b = true ∧ z = s) X.xe s := PySem.W.truthy_K0 hF I.ok.mod.kin J nb nl ⟨rfl, rfl⟩
    show wpAny _ X.A.in1.in1 (do checkBuiltinCall "bool.__new__" ⟨[.type "bool", .ref a], []⟩; again (.builtin "bool.__new__" ⟨[.type "bool", .ref a], []⟩)) _ _ s
    refine wpAny_bind (wpAny_of_eq (PySem.F.newCall_bool_1 _) (wpAny_pure ⟨plainId_quiet (by decide +kernel) _, codeAny_builtin PySem.F.entry_bool_new ?_⟩))
    rw [Around.under_plainId (by decide +kernel) _]
    unfold Builtin.«bool.__new__»
    refine wpAny_bind (wpAny_of_eq (a := true) (by rfl) (PySem.W.KFB.if_not rfl (wpAny_bind (wpAny_of_eq (a := true) PySem.F.conv_sub_bool (PySem.W.KFB.if_not rfl (wpAny_bind (wpAny_of_eq (a := [Value.ref a]) (by rfl) (wpAny_bind ?_))))))))
    refine PySem.W.truthy_K0 hF I.ok.mod.kin J nb nl (wpAny_pure ⟨rfl, rfl⟩)
  · rintro obj s₁ ⟨rfl, rfl⟩
    exact ⟨PySem.typeIs_bool _ _, PySem.F.args_object_init_2 _ _, object_init_meets PySem.F.called_bool.init.lookup PySem.F.called_bool.made (by decide) X.prog X.w X.A.in1 _ s₁ ⟨PySem.typeIs_bool _ _, rfl, ⟨.bl true, H, I, rfl, q⟩⟩⟩
end
end Own1


/-! what is shown of a time or a look: data that fits; any of them shown, compared -/
namespace Tm
open PySem PySem.Spec PyProof.Rows L2 Rng Bag Gd Own1 Cal
theorem strOk_of (s : String) : PyData.strOk (Str.ofString s) = true := by
  rw [PySem.Str.ofString_eq_toList]
  unfold PyData.strOk
  rw [Array.all_eq_true']
  intro c hc
  rw [List.mem_toArray, List.mem_map] at hc
  obtain ⟨d, _, rfl⟩ := hc
  have h := d.valid
  simp only [UInt32.isValidChar, Nat.isValidChar] at h
  have : d.toNat = d.val.toNat := rfl
  exact decide_eq_true (by omega)
theorem strOk_app {x y : Str} (hx : PyData.strOk x = true) (hy : PyData.strOk y = true) : PyData.strOk (x ++ y) = true := by
  unfold PyData.strOk at *
  rw [Str.cps_append, Array.all_append, hx, hy]
  rfl
theorem strOk_join {s : Str} (hs : PyData.strOk s = true) : ∀ ps : List Str, (∀ p ∈ ps, PyData.strOk p = true) → PyData.strOk (Txt.join s ps) = true
  | ps, h => by
    rw [TL.join_eq]
    induction ps with
    | nil =>
      show PyData.strOk Str.empty = true
      decide +kernel
    | cons p ps ih =>
      cases ps with
      | nil => exact h p List.mem_cons_self
      | cons q r => exact strOk_app (strOk_app (h p List.mem_cons_self) hs) (ih fun z hz => h z (List.mem_cons_of_mem _ hz))
theorem strs_data {K : PySem.W.Frag} {H : Hp} : ∀ zs : List Str, DpAll K H (zs.map V.str) (zs.map PyData.str)
  | [] => .nil
  | z :: zs => .cons (.str z) (strs_data zs)
theorem int_fits {i : Int} (h : i.natAbs < 2 ^ 100) : Fits 80000 40 (.int i) := by
  have l : i.natAbs.log2 < 101 := by
    by_cases z : i.natAbs = 0
    · rw [z]; decide
    · exact (Nat.log2_lt z).mpr (Nat.lt_of_lt_of_le h (by decide))
  refine ⟨?_, ?_, ?_, ?_⟩
  · have e := int_text_length_le (k := 101) (by decide) l
    unfold PyData.leavesShort
    refine decide_eq_true ?_
    show (Str.ofString (toString i)).length ≤ 201
    rw [PySem.ofString_length]
    omega
  · unfold PyData.showable
    exact decide_eq_true (by omega)
  · unfold PyData.weight
    split <;> omega
  · unfold PyData.depth
    omega
structure FitsA (m p : Nat) (ds : List PyData) : Prop where
  short : PyData.leavesShortAll 201 ds = true
  shows : PyData.showableAll ds = true
  size : PyData.weightAll ds ≤ m
  deep : PyData.depthAll ds ≤ p
section
variable {m n p q : Nat} {d : PyData} {ds : List PyData}
theorem Fits.up (h : Fits m p d) (a : m ≤ n) (b : p ≤ q) : Fits n q d := ⟨h.short, h.shows, Nat.le_trans h.size a, Nat.le_trans h.deep b⟩
theorem FitsA.nil : FitsA 0 p [] := ⟨by rw [PyData.leavesShortAll], by rw [PyData.showableAll], by rw [PyData.weightAll]; exact Nat.le_refl _, by rw [PyData.depthAll]; exact Nat.zero_le _⟩
theorem FitsA.cons (h : Fits m p d) (t : FitsA n p ds) : FitsA (m + 1 + n) p (d :: ds) := by
  refine ⟨by rw [PyData.leavesShortAll, h.short, t.short]; rfl, by rw [PyData.showableAll, h.shows, t.shows]; rfl, ?_, ?_⟩
  · rw [PyData.weightAll]
    have := h.size
    have := t.size
    omega
  · rw [PyData.depthAll]
    have := h.deep
    have := t.deep
    omega
theorem FitsA.list (t : FitsA m p ds) : Fits m (p + 1) (.list ds) := by
  refine ⟨by rw [PyData.leavesShort]; exact t.short, by rw [PyData.showable]; exact t.shows, by rw [PyData.weight]; exact t.size, ?_⟩
  rw [PyData.depth]
  exact Nat.succ_le_succ t.deep
theorem FitsA.tuple (t : FitsA m p ds) : Fits m (p + 1) (.tuple ds) := by
  refine ⟨by rw [PyData.leavesShort]; exact t.short, by rw [PyData.showable]; exact t.shows, by rw [PyData.weight]; exact t.size, ?_⟩
  rw [PyData.depth]
  exact Nat.succ_le_succ t.deep
theorem fitsNon : Fits 0 p .none := ⟨by rw [PyData.leavesShort], by rw [PyData.showable], by rw [PyData.weight]; exact Nat.le_refl _, by rw [PyData.depth]; exact Nat.zero_le _⟩
theorem fitsBl (b : Bool) : Fits 0 p (.bool b) := ⟨by rw [PyData.leavesShort], by rw [PyData.showable], by rw [PyData.weight]; exact Nat.le_refl _, by rw [PyData.depth]; exact Nat.zero_le _⟩
theorem fitsInt {i : Int} (h : i.natAbs < 2 ^ 100) : Fits 101 p (.int i) := by
  have f := int_fits h
  refine ⟨f.short, f.shows, ?_, by rw [PyData.depth]; exact Nat.zero_le _⟩
  have l : i.natAbs.log2 < 101 := by
    by_cases z : i.natAbs = 0
    · rw [z]; decide
    · exact (Nat.log2_lt z).mpr (Nat.lt_of_lt_of_le h (by decide))
  unfold PyData.weight
  split <;> omega
theorem fitsStr {x : Str} {L : Nat} (h : PyData.strOk x = true) (hl : x.length ≤ L) : Fits L p (.str x) := by
  refine ⟨?_, by rw [PyData.showable], by rw [PyData.weight]; exact hl, by rw [PyData.depth]; exact Nat.zero_le _⟩
  rw [PyData.leavesShort]
  unfold PyData.strOk at h
  rw [← Array.all_toList, List.all_eq_true] at h
  exact List.all_eq_true.mpr fun c hc => decide_eq_true (Nat.lt_of_lt_of_le (of_decide_eq_true (h c hc)) (by decide))
theorem fitsMap {α : Type} {f : α → PyData} : ∀ (l : List α), (∀ x ∈ l, Fits m p (f x)) → FitsA ((m + 1) * l.length) p (l.map f)
  | [], _ => FitsA.nil
  | x :: l, h => by
    have t := fitsMap (f := f) l fun y hy => h y (List.mem_cons_of_mem _ hy)
    have c := FitsA.cons (h x List.mem_cons_self) t
    refine ⟨c.short, c.shows, Nat.le_trans c.size ?_, c.deep⟩
    rw [List.length_cons, Nat.mul_succ]
    omega
end

theorem Tr.strOk : ∀ t : Tr, t.ok → PyData.strOk t.txt = true
  | .now, _ => strOk_of "now"
  | .shift t n, h => by
    show PyData.strOk (wrap "shift" [t.txt, intT n]) = true
    exact strOk_app (strOk_app (strOk_app (strOk_of "shift") (strOk_of "(")) (strOk_join (strOk_of ", ") _ fun p hp => by
      simp only [List.mem_cons, List.not_mem_nil, or_false] at hp
      rcases hp with rfl | rfl
      · exact strOk t h.2.1
      · exact strOk_of _)) (strOk_of ")")
  | .floor t, h => by
    show PyData.strOk (wrap "floor" [t.txt]) = true
    exact strOk_app (strOk_app (strOk_app (strOk_of "floor") (strOk_of "(")) (strOk_join (strOk_of ", ") _ fun p hp => by
      simp only [List.mem_cons, List.not_mem_nil, or_false] at hp
      subst hp
      exact strOk t h.2)) (strOk_of ")")
  | .ceil t, h => by
    show PyData.strOk (wrap "ceil" [t.txt]) = true
    exact strOk_app (strOk_app (strOk_app (strOk_of "ceil") (strOk_of "(")) (strOk_join (strOk_of ", ") _ fun p hp => by
      simp only [List.mem_cons, List.not_mem_nil, or_false] at hp
      subst hp
      exact strOk t h.2)) (strOk_of ")")
  | .row t, h => by
    show PyData.strOk (wrap "time" [t.txt]) = true
    exact strOk_app (strOk_app (strOk_app (strOk_of "time") (strOk_of "(")) (strOk_join (strOk_of ", ") _ fun p hp => by
      simp only [List.mem_cons, List.not_mem_nil, or_false] at hp
      subst hp
      exact strOk t h.2)) (strOk_of ")")
  | .look a f t w s, h => by
    show PyData.strOk (wrap (wordL a) ([f, t.txt] ++ boundT w ++ strictT s)) = true
    have hw : PyData.strOk (wordL a) = true := by cases a <;> exact strOk_of _
    exact strOk_app (strOk_app (strOk_app hw (strOk_of "(")) (strOk_join (strOk_of ", ") _ fun p hp => by
      rcases List.mem_append.mp hp with hp | hp
      · rcases List.mem_append.mp hp with hp | hp
        · simp only [List.mem_cons, List.not_mem_nil, or_false] at hp
          rcases hp with rfl | rfl
          · exact name_ok h.1
          · exact strOk t h.2.2.1
        · cases w with
          | none => cases hp
          | some n =>
            cases List.mem_singleton.mp hp
            exact strOk_of _
      · cases s with
        | false => cases hp
        | true =>
          cases List.mem_singleton.mp hp
          exact strOk_of _)) (strOk_of ")")
theorem lks_ok : ∀ (t : Tr), t.ok → ∀ z ∈ t.lks, ∃ u : Tr, z = u.txt ∧ u.ok ∧ u.dep ≤ t.dep
  | .now, _, z, hz => nomatch hz
  | .shift t n, h, z, hz => by obtain ⟨u, a, b, c⟩ := lks_ok t h.2.1 z hz; exact ⟨u, a, b, Nat.le_succ_of_le c⟩
  | .floor t, h, z, hz => by obtain ⟨u, a, b, c⟩ := lks_ok t h.2 z hz; exact ⟨u, a, b, Nat.le_succ_of_le c⟩
  | .ceil t, h, z, hz => by obtain ⟨u, a, b, c⟩ := lks_ok t h.2 z hz; exact ⟨u, a, b, Nat.le_succ_of_le c⟩
  | .row t, h, z, hz => by obtain ⟨u, a, b, c⟩ := lks_ok t h.2 z hz; exact ⟨u, a, b, Nat.le_succ_of_le c⟩
  | .look a f t w s, h, z, hz => by
    rcases List.mem_cons.mp hz with e | hz
    · exact ⟨_, e, h, Nat.le_refl _⟩
    · exact lks_ok t h.2.2.1 z hz
theorem gds_ok : ∀ (t : Tr), t.ok → ∀ z ∈ t.gds, ∃ u : Tr, z = u.txt ∧ u.ok ∧ u.dep ≤ t.dep
  | .now, _, z, hz => nomatch hz
  | .shift t n, h, z, hz => by obtain ⟨u, a, b, c⟩ := gds_ok t h.2.1 z hz; exact ⟨u, a, b, Nat.le_succ_of_le c⟩
  | .floor t, h, z, hz => by
    rcases List.mem_cons.mp hz with e | hz
    · exact ⟨_, e, h, Nat.le_refl _⟩
    · obtain ⟨u, a, b, c⟩ := gds_ok t h.2 z hz; exact ⟨u, a, b, Nat.le_succ_of_le c⟩
  | .ceil t, h, z, hz => by
    rcases List.mem_cons.mp hz with e | hz
    · exact ⟨_, e, h, Nat.le_refl _⟩
    · obtain ⟨u, a, b, c⟩ := gds_ok t h.2 z hz; exact ⟨u, a, b, Nat.le_succ_of_le c⟩
  | .row t, h, z, hz => by obtain ⟨u, a, b, c⟩ := gds_ok t h.2 z hz; exact ⟨u, a, b, Nat.le_succ_of_le c⟩
  | .look a f t w s, h, z, hz => gds_ok t h.2.2.1 z hz
def kindW (t : Tr) : Str := if t.isLook then "Look" else "Time"
/-- what a time or a look shows -/
def shownD (t : Tr) (zs ys : List Str) : PyData :=
  .list [.str t.txt, .str (kindW t ++ "(" ++ t.txt ++ ")"), .int (t.dep : Int), .list (zs.map .str), .bool true, .bool true, .list (ys.map .str), .bool true]
theorem fits_strs {zs : List Str} {B : Nat} (h : ∀ z ∈ zs, PyData.strOk z = true ∧ z.length ≤ B) {p : Nat} : Fits ((B + 1) * zs.length) (p + 1) (.list (zs.map .str)) := FitsA.list (fitsMap zs fun z hz => fitsStr (h z hz).1 (h z hz).2)
theorem shown_fits {t : Tr} (ok : t.ok) (d : t.dep ≤ 8) {zs ys : List Str} (hz : IsSS zs t.lks) (hy : IsSS ys t.gds) : Fits 80000 40 (shownD t zs ys) := by
  have h16 := hgt16 ok d
  have a1 := hz.le
  have a2 := hy.le
  have b1 := t.lks_len
  have b2 := t.gds_len
  have tl := Tr.txt_le ok d
  have kl : (kindW t).length = 4 := by unfold kindW; cases t.isLook <;> decide
  have ko : PyData.strOk (kindW t) = true := by unfold kindW; cases t.isLook <;> exact strOk_of _
  have l1 : ("(" : Str).length = 1 := by decide
  have l3 : (")" : Str).length = 1 := by decide
  have sz : ∀ z ∈ zs, PyData.strOk z = true ∧ z.length ≤ 1600 := fun z h => by
    obtain ⟨u, e, a, b⟩ := lks_ok t ok z ((hz.mem z).mp h)
    rw [e]
    exact ⟨u.strOk a, Tr.txt_le a (Nat.le_trans b d)⟩
  have sy : ∀ z ∈ ys, PyData.strOk z = true ∧ z.length ≤ 1600 := fun z h => by
    obtain ⟨u, e, a, b⟩ := gds_ok t ok z ((hy.mem z).mp h)
    rw [e]
    exact ⟨u.strOk a, Tr.txt_le a (Nat.le_trans b d)⟩
  have f1 : Fits 1600 1 (.str t.txt) := fitsStr (t.strOk ok) tl
  have f2 : Fits 1606 1 (.str (kindW t ++ "(" ++ t.txt ++ ")")) := fitsStr (strOk_app (strOk_app (strOk_app ko (strOk_of "(")) (t.strOk ok)) (strOk_of ")")) (by simp only [app_len]; omega)
  have f3 : Fits 101 1 (.int (t.dep : Int)) := fitsInt (Nat.lt_of_le_of_lt (show ((t.dep : Nat) : Int).natAbs ≤ 8 from d) (by decide))
  have f4 : Fits (1601 * zs.length) 1 (.list (zs.map .str)) := fits_strs sz
  have f5 : Fits (1601 * ys.length) 1 (.list (ys.map .str)) := fits_strs sy
  have m1 : 1601 * zs.length ≤ 1601 * 16 := Nat.mul_le_mul_left _ (by omega)
  have m2 : 1601 * ys.length ≤ 1601 * 16 := Nat.mul_le_mul_left _ (by omega)
  exact Fits.up (FitsA.list (.cons f1 (.cons f2 (.cons f3 (.cons f4 (.cons (fitsBl true) (.cons (fitsBl true) (.cons f5 (.cons (fitsBl true) .nil))))))))) (by omega) (by decide)
theorem strs_dp {K : PySem.W.Frag} {H : Hp} (zs : List Str) : DpAll K H (zs.map V.str) (zs.map PyData.str) := strs_data zs
/-! ### any of them -/
def wC (i : Nat) : Str := if i < 5 then "Time" else "Look"
theorem wC_ci (t : Tr) : wC t.ci = kindW t := by
  cases t with
  | look a f t w s => cases a <;> rfl
  | _ => rfl
/-- the methods of all seven -/
structure Spc (P : Program) (w : World) (K : PySem.W.Frag) (mg : Str → Option Value) (base : Heap) (Cs : Nat → Addr) : Prop where
  str : ∀ i, i < 7 → Du P w K mg base CX0 1 (Cs i) "__str__" (spStrT Cs i)
  repr : ∀ i, i < 7 → Du P w K mg base CX0 1 (Cs i) "__repr__" (spReprT Cs i (wC i))
  eq : ∀ i, i < 7 → Du P w K mg base CX0 1 (Cs i) "__eq__" (spEqT K Cs i)
  nb : ∀ i, i < 7 → PySem.W.findIn K (.ref (Cs i)) "__bool__" = some none
  nl : ∀ i, i < 7 → PySem.W.findIn K (.ref (Cs i)) "__len__" = some none
  ne : ∀ i, i < 7 → PySem.W.findIn K (.ref (Cs i)) "__ne__" = some (some (.builtin "object.__ne__"))
  mo : ∀ i, i < 7 → PySem.W.mroIn K (Cs i) (.type "object") = some true
  nfs : ∀ i, i < 7 → PySem.W.notFirst K (Cs i) (.type "str") = true
  nft : ∀ i, i < 7 → PySem.W.notFirst K (Cs i) (.type "tuple") = true
  kts : ∀ i, i < 7 → PySem.W.kitOne K (.type "str") (.ref (Cs i)) = some false
  ktt : ∀ i, i < 7 → PySem.W.kitOne K (.type "tuple") (.ref (Cs i)) = some false
section
variable {X : Cx} {Cs : Nat → Addr} {CT CL : Addr} {j : Nat}
def rStrP (Cs : Nat → Addr) : List V → Hp → VK → Prop := fun xs H Q => ∃ a z lo hi, xs = [V.ref a] ∧ TxAt Cs lo hi H a z ∧ hi ≤ 7 ∧ Q (.str z) H
theorem call_strP (S : Spc X.prog X.w X.K X.mg X.base Cs) (hr : Room 3 X.A) : CallR X (.type "str") (rStrP Cs) := by
  rintro pins s σ H xs us Q I r ⟨a, z, lo, hi, rfl, ⟨i, dx, fs, h1, h2, h3, h4⟩, h5, q⟩
  obtain ⟨f, d, F⟩ := (S.str i (by omega)).ex
  exact call_strO (E := E0) d F hr pass0 pins s σ H _ us Q I r ⟨a, dx, fs, rfl, h3, a, dx, fs, z, rfl, h3, h4, _, rfl, q⟩
theorem ThAt.tx {H : Hp} {t : Tr} {o : Addr} (h : ThAt Cs H t o) : TxAt Cs 0 7 H o t.txt := by
  obtain ⟨dx, fs, e, c⟩ := h.node
  exact ⟨t.ci, dx, fs, Nat.zero_le _, t.ci_lt, e, c.text⟩
def rReprP (Cs : Nat → Addr) : List V → Hp → VK → Prop := fun xs H Q => ∃ a t, xs = [V.ref a] ∧ ThAt Cs H t a ∧ t.txt.length ≤ 10000 ∧ Q (.str (kindW t ++ "(" ++ t.txt ++ ")")) H
theorem call_reprP (S : Spc X.prog X.w X.K X.mg X.base Cs) (hr : Room 2 X.A) : CallR X (.builtin "repr") (rReprP Cs) := by
  rintro pins s σ H xs us Q I r ⟨a, t, rfl, th, hl, q⟩
  obtain ⟨f, d, F⟩ := (S.repr t.ci t.ci_lt).ex
  obtain ⟨dx, fs, e, c⟩ := th.node
  exact call_reprO (E := E0) d F hr pass0 pins s σ H _ us Q I r ⟨a, dx, fs, rfl, e, a, t, rfl, th, rfl, hl, _, rfl, by rw [wC_ci]; exact q⟩
def rBoolP (Cs : Nat → Addr) : List V → Hp → VK → Prop := fun xs H Q => ∃ a t, xs = [V.ref a] ∧ ThAt Cs H t a ∧ Q (.bl true) H
theorem call_boolP (S : Spc X.prog X.w X.K X.mg X.base Cs) : CallR X (.type "bool") (rBoolP Cs) := by
  rintro pins s σ H xs us Q I r ⟨a, t, rfl, th, q⟩
  obtain ⟨dx, fs, e, c⟩ := th.node
  exact call_bool0 (S.nb _ t.ci_lt) (S.nl _ t.ci_lt) pins s σ H _ us Q I r ⟨a, dx, fs, rfl, e, q⟩
/-- the other side of == -/
def Oth (Cs : Nat → Addr) (H : Hp) (t : Tr) (y : V) (b : Bool) : Prop := (∃ o2 t2, y = .ref o2 ∧ ThAt Cs H t2 o2 ∧ b = decide (t.txt = t2.txt)) ∨ (∃ z, y = .str z ∧ b = false) ∨ ∃ p us, y = .ref p ∧ H p = some (.tup us) ∧ b = false
def rEqP (Cs : Nat → Addr) : R2 := fun x y H Q => ∃ o t b, x = .ref o ∧ ThAt Cs H t o ∧ Oth Cs H t y b ∧ Q (.bl b) H
def rNeP (Cs : Nat → Addr) : R2 := fun x y H Q => ∃ o t b, x = .ref o ∧ ThAt Cs H t o ∧ Oth Cs H t y b ∧ Q (.bl (!b)) H
theorem oth_go (T : TmK X.K Cs CT CL) (S : Spc X.prog X.w X.K X.mg X.base Cs) {H : Hp} {t : Tr} {y : V} {b : Bool} {o : Addr} {Q : VK} {E : XK} (th : ThAt Cs H t o) (h : Oth Cs H t y b) (q : Q (.bl b) H) :
    ∃ ty, TyX X.K H y ty ∧ PySem.W.notFirst X.K (Cs t.ci) ty = true ∧ spEqT X.K Cs t.ci [.ref o, y] H Q E := by
  rcases h with ⟨o2, t2, rfl, th2, rfl⟩ | ⟨z, rfl, rfl⟩ | ⟨p, us, rfl, e, rfl⟩
  · obtain ⟨d2, f2, e2, c2⟩ := th2.node
    exact ⟨_, ins_ty T t2.ci_lt e2, T.nf _ t.ci_lt _ t2.ci_lt, o, t, _, rfl, th, rfl, .inl ⟨o2, t2, rfl, th2, q⟩⟩
  · exact ⟨_, .base (.str z), S.nfs _ t.ci_lt, o, t, _, rfl, th, rfl, .inr ⟨⟨_, .base (.str z), S.kts _ t.ci_lt⟩, q⟩⟩
  · exact ⟨_, .base (.tup e), S.nft _ t.ci_lt, o, t, _, rfl, th, rfl, .inr ⟨⟨_, .base (.tup e), S.ktt _ t.ci_lt⟩, q⟩⟩
theorem op_eqP (T : TmK X.K Cs CT CL) (S : Spc X.prog X.w X.K X.mg X.base Cs) (hr : Room 1 X.A) : OpR X (compareOp .Eq) (rEqP Cs) := by
  rintro pins s σ H x y v u Q I rx ry ⟨o, t, b, rfl, th, h, q⟩
  obtain ⟨f, d, F⟩ := (S.eq t.ci t.ci_lt).ex
  obtain ⟨dx, fs, e, c⟩ := th.node
  obtain ⟨ty, tx, nf, g⟩ := oth_go (E := E0) T S th h q
  exact op_eqO (E := E0) d F hr pass0 pins s σ H _ y v u Q I rx ry ⟨o, dx, fs, ty, rfl, e, tx, nf, g⟩
theorem op_neP (T : TmK X.K Cs CT CL) (S : Spc X.prog X.w X.K X.mg X.base Cs) (hr : Room 2 X.A) : OpR X (compareOp .NotEq) (rNeP Cs) := by
  rintro pins s σ H x y v u Q I rx ry ⟨o, t, b, rfl, th, h, q⟩
  obtain ⟨f, d, F⟩ := (S.eq t.ci t.ci_lt).ex
  obtain ⟨dx, fs, e, c⟩ := th.node
  obtain ⟨ty, tx, nf, g⟩ := oth_go (Q := fun z H' => ∃ b, z = .bl b ∧ Q (.bl (!b)) H') (E := E0) T S th h ⟨b, rfl, q⟩
  exact op_neO (E := E0) (S.ne _ t.ci_lt) (S.mo _ t.ci_lt) d F hr pass0 pins s σ H _ y v u Q I rx ry ⟨o, dx, fs, ty, rfl, e, tx, nf, g⟩
end
end Tm


namespace K04
open PySem PySem.Spec PyProof.Rows L2 Rng Bag Gd Cal Tm Tr4 Own1
section
variable {P : Program} {w : World} {K : PySem.W.Frag} {mg : Str → Option Value} {base : Heap} {Cs : Nat → Addr} {CT CL : Addr} {e : Ers}
open Gd Own1

def spShown (Cs : Nat → Addr) : Sp := fun vs H Q _ => ∃ (o : Addr) (t : Tr), vs = [.ref o] ∧ ThAt Cs H t o ∧ t.ok ∧ t.dep ≤ 8 ∧ ∀ zs ys H', IsSS zs t.lks → IsSS ys t.gds → Same H H' → Q (.str (shownD t zs ys).shown) H'
abbrev sShown : Stmt := top 54
theorem scShown : FnScope ["_law_thing", "_law_told", "_law_each"] ["_law_thing"] (defScope sShown) := ⟨rfl, rfl, rfl, by decide +kernel, rfl, by decide +kernel, by decide +kernel⟩

theorem c_shown (T : TmK K Cs CT CL) (SP : Spc P w K mg base Cs) (D : Df K mg "_law_shown" sShown) (B : Nb mg) : ClG P w K mg base 4 "_law_shown" ["_law_thing"] (spShown Cs) := by
  refine D.clG scShown (fun _ _ _ _ _ _ us hl => match us, hl with | [_], _ => rfl) (fun vs H Q E h => ?_) (fun f cdv A outer s H vs Q E gq hr h => ?_)
  · obtain ⟨o, t, rfl, _⟩ := h
    rfl
  · obtain ⟨o, t, rfl, th, ok, dp, q⟩ := h
    have hr3 : Room 3 (A.deeper (PyProof.Rows.envOfC "_law_shown" (defScope sShown) s.heap.objs.size f cdv)) := hr
    have hr2 : Room 2 (A.deeper (PyProof.Rows.envOfC "_law_shown" (defScope sShown) s.heap.objs.size f cdv)) := hr.mono (by decide)
    have hu64 := Nat.lt_of_le_of_lt (Nat.add_le_add_left (by decide : 64 ≤ 16 * 3 + 200) _) (Nat.lt_of_le_of_lt (Nat.le_of_eq (Nat.add_assoc _ _ _).symm) hr.un)
    have b60 : (100000 : Nat) ≤ sizeLine := by decide
    have h16 := hgt16 ok dp
    have bl1 := t.lks_len
    have bl2 := t.gds_len
    have tl := Tr.txt_le ok dp
    obtain ⟨dx, fs, ho, cm⟩ := th.node
    obtain ⟨pl, lkl, as, zs, ha, gt, gs, gl⟩ := cm.looks
    obtain ⟨pg, lkg, bs, ys, hb, yt, yss, yl⟩ := cm.grids
    have la := gt.len
    have lb := yt.len
    refine ⟨_, (pss_cons (ps_set (i := 1) scShown.nd rfl (Or.inl rfl) (pe_lst (pa_cons (pe_callTy (call_strP SP hr3) (by rfl) B.str (by decide +kernel) (pa_cons (pv 0) pa_nil)) (pa_cons (pe_callB (call_reprP SP hr2) (by rfl) B.repr (by decide +kernel) (pa_cons (pv 0) pa_nil)) (pa_cons (pe_fld (pv 0) rfl) (pa_cons (pe_lc (own := [("_law_each", 2)]) (g := gName 2) (tt := tYes) (te := tCB (rStrP Cs) (tCons (tVar 2) tNil)) rfl scShown.nd (pi_tup (pe_fld (pv 0) rfl)) (blkOk_by (own := [("_law_each", 2)]) (N := ["_law_thing", "_law_told", "_law_each"]) (sc := defScope sShown) (by decide +kernel)) (fun _ _ _ _ _ => pg_name (i := 2) scShown.nd rfl (Or.inl rfl)) (fun _ _ _ _ _ => pts_nil) (fun _ _ _ _ _ => (pe_callTy (call_strP SP hr3) (by rfl) B.str (by decide +kernel) (pa_cons (pv 2) pa_nil)))) pa_nil))))))
      (pss_cons (ps_set (i := 1) scShown.nd rfl (Or.inl rfl) (pe_op op_cat (pv 1) (pe_lst (pa_cons (pe_callB call_isi (by rfl) B.isinstance (by decide +kernel) (pa_cons (pe_fld (pv 0) rfl) (pa_cons (pe_bltn (v := .ty "tuple") (by rfl) B.tuple (by decide +kernel) rfl) pa_nil))) (pa_cons (pe_callB call_isi (by rfl) B.isinstance (by decide +kernel) (pa_cons (pe_fld (pv 0) rfl) (pa_cons (pe_bltn (v := .ty "tuple") (by rfl) B.tuple (by decide +kernel) rfl) pa_nil))) pa_nil)))))
      (pss_one (ps_ret (pe_callB (cr_repr gq hu64) (by rfl) B.repr (by decide +kernel) (pa_cons (pe_op op_cat (pv 1) (pe_lst (pa_cons (pe_lc (own := [("_law_each", 2)]) (g := gName 2) (tt := tYes) (te := tCB (rStrP Cs) (tCons (tVar 2) tNil)) rfl scShown.nd (pi_tup (pe_fld (pv 0) rfl)) (blkOk_by (own := [("_law_each", 2)]) (N := ["_law_thing", "_law_told", "_law_each"]) (sc := defScope sShown) (by decide +kernel)) (fun _ _ _ _ _ => pg_name (i := 2) scShown.nd rfl (Or.inl rfl)) (fun _ _ _ _ _ => pts_nil) (fun _ _ _ _ _ => (pe_callTy (call_strP SP hr3) (by rfl) B.str (by decide +kernel) (pa_cons (pv 2) pa_nil)))) (pa_cons (pe_callTy (call_boolP SP) (by rfl) B.bool (by decide +kernel) (pa_cons (pv 0) pa_nil)) pa_nil)))) pa_nil)))))), ?_⟩
    have JJ := H
    obtain ⟨JJ, eJJ⟩ : ∃ JJ, JJ = H := ⟨H, rfl⟩
    refine ⟨_, rfl, o, t.txt, 0, 7, rfl, th.tx, Nat.le_refl 7, _, rfl, o, t, rfl, th, by omega, _, rfl, o, _, dx, fs, _, rfl, ho, T.cl _ t.ci_lt, T.na _ t.ci_lt _ (by decide +kernel), cm.depth, _, rfl, o, _, dx, fs, _, rfl, ho, T.cl _ t.ci_lt, T.na _ t.ci_lt _ (by decide +kernel), lkl, pl, rfl, ⟨_, SqT.of ha⟩, fun D nD => lc_it (walk_tup (K := K) (a := pl) (xs := as.map V.ref)) (fun i G => Same H G ∧ G D = some (.lst ((zs.take i).map V.str))) ⟨same_put nD, upd_same⟩ (fun _ _ _ h => SqT.of (h.1 _ _ ha)) ?_ ?_⟩
    · rintro i x Ga Gb hi ⟨sa, ea⟩ ⟨rfl, hx⟩
      obtain ⟨a, ha', rfl⟩ : ∃ a, as[i]? = some a ∧ x = V.ref a := by
        rw [List.getElem?_map] at hx
        cases e : as[i]? with
        | none => rw [e] at hx; cases hx
        | some a => rw [e] at hx; exact ⟨a, rfl, (Option.some.inj hx).symm⟩
      obtain ⟨z, hz, ta⟩ := gt.get i a ha'
      have hi2 := (List.getElem?_eq_some_iff.mp hz).1
      refine ⟨rfl, _, rfl, a, z, 5, 7, rfl, ta.kp sa.kp, by decide, _, ea, ?_, ?_, ?_⟩
      · rw [List.length_map, List.length_take]
        omega
      · intro c u e
        rw [upd_ne (ne_of_none e nD)]
        exact sa c u e
      · rw [upd_same, List.take_add_one, hz, List.map_append]
        rfl
    · rintro Ga ⟨sa, ea⟩
      rw [List.length_map, la, List.take_length] at ea
      refine ⟨(by show 4 ≤ sizeLine; decide), fun l1 n1 => ?_⟩
      have e1 : (upd Ga l1 (.lst [.str t.txt, .str (kindW t ++ "(" ++ t.txt ++ ")"), .int (t.dep : Int), .ref D])) l1 = some (.lst [.str t.txt, .str (kindW t ++ "(" ++ t.txt ++ ")"), .int (t.dep : Int), .ref D]) := upd_same
      have s1 := sa.trans (same_put (o := .lst [.str t.txt, .str (kindW t ++ "(" ++ t.txt ++ ")"), .int (t.dep : Int), .ref D]) n1)
      have eD := (same_put (o := .lst [.str t.txt, .str (kindW t ++ "(" ++ t.txt ++ ")"), .int (t.dep : Int), .ref D]) n1) _ _ ea
      generalize upd Ga l1 (.lst [.str t.txt, .str (kindW t ++ "(" ++ t.txt ++ ")"), .int (t.dep : Int), .ref D]) = J1 at e1 s1 eD ⊢
      have ho1 := s1 _ _ ho
      refine ⟨_, rfl, _, rfl, o, _, dx, fs, _, rfl, ho1, T.cl _ t.ci_lt, T.na _ t.ci_lt _ (by decide +kernel), lkl, ?_⟩
      have kT : kitB "tuple" "tuple" = some true := by decide +kernel
      refine ⟨_, _, _, _, _, rfl, .ty _, .base (.tup (s1 _ _ ha)), kit_ty kT, _, rfl, o, _, dx, fs, _, rfl, ho1, T.cl _ t.ci_lt, T.na _ t.ci_lt _ (by decide +kernel), lkg, _, _, _, _, _, rfl, .ty _, .base (.tup (s1 _ _ hb)), kit_ty kT, (by show 2 ≤ sizeLine; decide), fun l2 n2 => ?_⟩
      have s2 := same_put (o := .lst [.bl true, .bl true]) n2
      refine ⟨l1, l2, _, _, rfl, rfl, s2 _ _ e1, upd_same, (by show 6 ≤ sizeLine; decide), fun l3 n3 => ?_⟩
      have s3 := s2.trans (same_put (o := .lst ([.str t.txt, .str (kindW t ++ "(" ++ t.txt ++ ")"), .int (t.dep : Int), .ref D] ++ [.bl true, .bl true])) n3)
      have e3 : (upd (upd J1 l2 (.lst [.bl true, .bl true])) l3 (.lst ([.str t.txt, .str (kindW t ++ "(" ++ t.txt ++ ")"), .int (t.dep : Int), .ref D] ++ [.bl true, .bl true]))) l3 = some (.lst ([.str t.txt, .str (kindW t ++ "(" ++ t.txt ++ ")"), .int (t.dep : Int), .ref D] ++ [.bl true, .bl true])) := upd_same
      generalize upd (upd J1 l2 (.lst [.bl true, .bl true])) l3 (.lst ([.str t.txt, .str (kindW t ++ "(" ++ t.txt ++ ")"), .int (t.dep : Int), .ref D] ++ [.bl true, .bl true])) = J3 at s3 e3 ⊢
      have s13 := s1.trans s3
      have eD3 := s3 _ _ eD
      refine ⟨_, rfl, _, rfl, o, _, dx, fs, _, rfl, s13 _ _ ho, T.cl _ t.ci_lt, T.na _ t.ci_lt _ (by decide +kernel), lkg, pg, rfl, ⟨_, SqT.of (s13 _ _ hb)⟩, fun D2 nD => lc_it (walk_tup (K := K) (a := pg) (xs := bs.map V.ref)) (fun i G => Same J3 G ∧ G D2 = some (.lst ((ys.take i).map V.str))) ⟨same_put nD, upd_same⟩ (fun _ _ _ h => SqT.of (h.1 _ _ (s13 _ _ hb))) ?_ ?_⟩
      · rintro i x Ga Gb hi ⟨sa, ea⟩ ⟨rfl, hx⟩
        obtain ⟨a, ha', rfl⟩ : ∃ a, bs[i]? = some a ∧ x = V.ref a := by
          rw [List.getElem?_map] at hx
          cases e : bs[i]? with
          | none => rw [e] at hx; cases hx
          | some a => rw [e] at hx; exact ⟨a, rfl, (Option.some.inj hx).symm⟩
        obtain ⟨z, hz, ta⟩ := yt.get i a ha'
        have hi2 := (List.getElem?_eq_some_iff.mp hz).1
        refine ⟨rfl, _, rfl, a, z, 2, 4, rfl, ta.kp (s13.trans sa).kp, by decide, _, ea, ?_, ?_, ?_⟩
        · rw [List.length_map, List.length_take]
          omega
        · intro c u e
          rw [upd_ne (ne_of_none e nD)]
          exact sa c u e
        · rw [upd_same, List.take_add_one, hz, List.map_append]
          rfl
      · rintro Gb ⟨sb, eb⟩
        rw [List.length_map, lb, List.take_length] at eb
        have s4 := s13.trans sb
        refine ⟨_, rfl, o, t, rfl, th.kp s4.kp, (by show 2 ≤ sizeLine; decide), fun l4 n4 => ⟨l3, l4, _, _, rfl, rfl, (same_put n4) _ _ (sb _ _ e3), upd_same, (by show 8 ≤ sizeLine; decide), fun l5 n5 => ?_⟩⟩
        have s5 := (same_put (o := .lst [.ref D2, .bl true]) n4).trans (same_put (o := .lst ([.str t.txt, .str (kindW t ++ "(" ++ t.txt ++ ")"), .int (t.dep : Int), .ref D] ++ [.bl true, .bl true] ++ [.ref D2, .bl true])) n5)
        refine ⟨.ref l5, shownD t zs ys, rfl, .lst (SqL.of upd_same) ?_, shown_fits ok dp gs yss, q zs ys _ gs yss (s4.trans s5)⟩
        exact .cons (.str _) (.cons (.str _) (.cons (.int _) (.cons (.lst (SqL.of (s5 _ _ (sb _ _ eD3))) (strs_dp zs)) (.cons (.bl true) (.cons (.bl true) (.cons (.lst (SqL.of (s5 _ _ eb)) (strs_dp ys)) (.cons (.bl true) .nil)))))))
end
end K04


namespace K04
open PySem PySem.Spec PyProof.Rows L2 Rng Bag Gd Cal Tm Tr4 Own1
section
variable {P : Program} {w : World} {K : PySem.W.Frag} {mg : Str → Option Value} {base : Heap} {Cs : Nat → Addr} {CT CL : Addr} {e : Ers}
open Gd Own1

def spDueT : Sp := fun vs H Q _ => ∃ (v : V) (t : Tr), vs = [v] ∧ TupTr H t v ∧ t.ok ∧ t.dep ≤ 8 ∧ ∀ zs ys H', IsSS zs t.lks → IsSS ys t.gds → Same H H' → Q (.str (shownD t zs ys).shown) H'
abbrev sDue : Stmt := top 55
theorem scDue : FnScope ["_law_tree", "_law_line", "_law_word", "_law_told"] ["_law_tree"] (defScope sDue) := ⟨rfl, rfl, rfl, by decide +kernel, rfl, by decide +kernel, by decide +kernel⟩

theorem c_due (D : Df K mg "_law_due" sDue) (B : Nb mg) (cS16 : Cl P w K mg base CX0 16 "_law_said" ["_law_tree"] (spSaid 16)) (cD16 : Cl P w K mg base CX0 16 "_law_deep" ["_law_tree"] (spDeep 16)) (cI16 : Cl P w K mg base CX0 (16 + 1) "_law_inside" ["_law_tree", "_law_words"] (spInside 16)) :
    ClG P w K mg base 18 "_law_due" ["_law_tree"] spDueT := by
  refine D.clG scDue (fun _ _ _ _ _ _ us hl => match us, hl with | [_], _ => rfl) (fun vs H Q E h => ?_) (fun f cdv A outer s H vs Q E gq hr h => ?_)
  · obtain ⟨v, t, rfl, _⟩ := h
    rfl
  · obtain ⟨v, t, rfl, tt, ok, dp, q⟩ := h
    have tt' := tt
    have hu64 := Nat.lt_of_le_of_lt (Nat.add_le_add_left (by decide : 64 ≤ 16 * 17 + 200) _) (Nat.lt_of_le_of_lt (Nat.le_of_eq (Nat.add_assoc _ _ _).symm) hr.un)
    have b60 : (100000 : Nat) ≤ sizeLine := by decide
    have h16 := hgt16 ok dp
    have tl := Tr.txt_le ok dp
    have l1 : (Str.ofString "(").length = 1 := by decide
    have l3 : (Str.ofString ")").length = 1 := by decide
    obtain ⟨p, us, rfl, hp, sd⟩ := tt.parts
    refine ⟨_, (pss_cons (ps_par (i := 1) (j := 2) (by rfl) scDue.nd rfl rfl (by decide) rfl rfl (pa_cons (pe_c cS16 (hr.mono (by decide)) rfl pass0 (pa_cons (pv 0) pa_nil)) (pa_cons (pe_ifExp (pt_cmpR op_in_seq (pe_ix ix_tup (pv 0) pe_int (fun _ _ => rfl)) (pe_lst (pa_cons pe_str (pa_cons pe_str pa_nil))) (by rfl)) pe_str pe_str) pa_nil)) (by rfl))
      (pss_cons (ps_set (i := 3) scDue.nd rfl (Or.inl rfl) (pe_lst (pa_cons (pv 1) (pa_cons (pe_op op_add_str (pe_op op_add_str (pe_op op_add_str (pv 2) pe_str) (pv 1)) pe_str) (pa_cons (pe_c cD16 (hr.mono (by decide)) rfl pass0 (pa_cons (pv 0) pa_nil)) (pa_cons (pe_c cI16 (hr.mono (by decide)) rfl pass0 (pa_cons (pv 0) (pa_cons (pe_lst (pa_cons pe_str (pa_cons pe_str pa_nil))) pa_nil))) (pa_cons pe_bl (pa_cons pe_bl pa_nil))))))))
      (pss_one (ps_ret (pe_callB (cr_repr gq hu64) (by rfl) B.repr (by decide +kernel) (pa_cons (pe_op op_cat (pv 3) (pe_lst (pa_cons (pe_c cI16 (hr.mono (by decide)) rfl pass0 (pa_cons (pv 0) (pa_cons (pe_lst (pa_cons pe_str (pa_cons pe_str pa_nil))) pa_nil))) (pa_cons pe_bl pa_nil)))) pa_nil)))))), ?_⟩
    refine ⟨_, rfl, _, t, rfl, tt', ok, by omega, h16, fun H1 s1 => ⟨_, rfl, p, _, 0, .str t.word, rfl, rfl, SqT.of (s1 _ _ hp), at0 _ _, (by show 2 ≤ sizeLine; decide), fun r nr => ⟨r, _, rfl, .inl (SqL.of upd_same), rfl, rfl, _, rfl, ?_⟩⟩⟩
    show ite ((inV (.str t.word) [.str "before", .str "after"]) = true) _ _
    rw [in_look]
    have sG := s1.trans (same_put (o := .lst [.str "before", .str "after"]) nr)
    generalize upd H1 r (.lst [.str "before", .str "after"]) = Gz at sG ⊢
    cases hL : t.isLook with
    | true =>
      have kw : kindW t = "Look" := by unfold kindW; rw [hL]; rfl
      have lW : (Str.ofString "Look").length = 4 := by decide
      refine iteT ?_
      refine ⟨_, _, rfl, ?_⟩
      have tt2 := TupTr.kp sG.kp tt'
      refine ⟨_, rfl, _, rfl, _, _, rfl, rfl, (by simp only [lW]; omega), _, rfl, _, _, rfl, rfl, (by simp only [app_len]; omega), _, _, rfl, rfl, (by simp only [app_len]; omega), _, rfl, _, t, rfl, tt2, ok, h16, fun H2 s2 => ⟨_, rfl, (by show 2 ≤ sizeLine; decide), fun wl nwl => ?_⟩⟩
      have s2b := s2.trans (same_put (o := .lst ((wordsB true).map V.str)) nwl)
      refine ⟨_, wl, t, true, rfl, TupTr.kp s2b.kp tt2, ok, by omega, h16, upd_same, fun lz zs H3 nlz s3 e3 ss3 => ⟨(by show 6 ≤ sizeLine; decide), fun l1 n1 => ?_⟩⟩
      have sH3 := sG.trans (s2b.trans s3)
      have e1 : (upd H3 l1 (.lst [.str t.txt, .str (Str.ofString "Look" ++ Str.ofString "(" ++ t.txt ++ Str.ofString ")"), .int (t.dep : Int), .ref lz, .bl true, .bl true])) l1 = some (.lst [.str t.txt, .str (Str.ofString "Look" ++ Str.ofString "(" ++ t.txt ++ Str.ofString ")"), .int (t.dep : Int), .ref lz, .bl true, .bl true]) := upd_same
      have s1 := sH3.trans (same_put (o := .lst [.str t.txt, .str (Str.ofString "Look" ++ Str.ofString "(" ++ t.txt ++ Str.ofString ")"), .int (t.dep : Int), .ref lz, .bl true, .bl true]) n1)
      have ez := (same_put (o := .lst [.str t.txt, .str (Str.ofString "Look" ++ Str.ofString "(" ++ t.txt ++ Str.ofString ")"), .int (t.dep : Int), .ref lz, .bl true, .bl true]) n1) _ _ e3
      generalize upd H3 l1 (.lst [.str t.txt, .str (Str.ofString "Look" ++ Str.ofString "(" ++ t.txt ++ Str.ofString ")"), .int (t.dep : Int), .ref lz, .bl true, .bl true]) = J1 at e1 s1 ez ⊢
      have tt3 := TupTr.kp s1.kp tt'
      refine ⟨_, rfl, _, rfl, (by show 2 ≤ sizeLine; decide), fun wm nwm => ?_⟩
      have s4 := same_put (o := .lst ((wordsB false).map V.str)) nwm
      refine ⟨_, wm, t, false, rfl, TupTr.kp s4.kp tt3, ok, by omega, h16, upd_same, fun ly ys H5 nly s5 e5 ss5 => ⟨(by show 2 ≤ sizeLine; decide), fun l4 n4 => ?_⟩⟩
      have s6 := s4.trans s5
      refine ⟨l1, l4, _, _, rfl, rfl, (same_put n4) _ _ (s6 _ _ e1), upd_same, (by show 8 ≤ sizeLine; decide), fun l5 n5 => ?_⟩
      have s7 := (same_put (o := .lst [.ref ly, .bl true]) n4).trans (same_put (o := .lst ([.str t.txt, .str (Str.ofString "Look" ++ Str.ofString "(" ++ t.txt ++ Str.ofString ")"), .int (t.dep : Int), .ref lz, .bl true, .bl true] ++ [.ref ly, .bl true])) n5)
      refine ⟨.ref l5, shownD t zs ys, rfl, .lst (SqL.of upd_same) ?_, shown_fits ok dp ss3 ss5, q zs ys _ ss3 ss5 (s1.trans (s6.trans s7))⟩
      rw [show (kindW t : Str) = Str.ofString "Look" from kw]
      exact .cons (.str _) (.cons (.str _) (.cons (.int _) (.cons (.lst (SqL.of (s7 _ _ (s6 _ _ ez))) (strs_dp zs)) (.cons (.bl true) (.cons (.bl true) (.cons (.lst (SqL.of (s7 _ _ e5)) (strs_dp ys)) (.cons (.bl true) .nil)))))))
    | false =>
      have kw : kindW t = "Time" := by unfold kindW; rw [hL]; rfl
      have lW : (Str.ofString "Time").length = 4 := by decide
      refine iteF ?_
      refine ⟨_, _, rfl, ?_⟩
      have tt2 := TupTr.kp sG.kp tt'
      refine ⟨_, rfl, _, rfl, _, _, rfl, rfl, (by simp only [lW]; omega), _, rfl, _, _, rfl, rfl, (by simp only [app_len]; omega), _, _, rfl, rfl, (by simp only [app_len]; omega), _, rfl, _, t, rfl, tt2, ok, h16, fun H2 s2 => ⟨_, rfl, (by show 2 ≤ sizeLine; decide), fun wl nwl => ?_⟩⟩
      have s2b := s2.trans (same_put (o := .lst ((wordsB true).map V.str)) nwl)
      refine ⟨_, wl, t, true, rfl, TupTr.kp s2b.kp tt2, ok, by omega, h16, upd_same, fun lz zs H3 nlz s3 e3 ss3 => ⟨(by show 6 ≤ sizeLine; decide), fun l1 n1 => ?_⟩⟩
      have sH3 := sG.trans (s2b.trans s3)
      have e1 : (upd H3 l1 (.lst [.str t.txt, .str (Str.ofString "Time" ++ Str.ofString "(" ++ t.txt ++ Str.ofString ")"), .int (t.dep : Int), .ref lz, .bl true, .bl true])) l1 = some (.lst [.str t.txt, .str (Str.ofString "Time" ++ Str.ofString "(" ++ t.txt ++ Str.ofString ")"), .int (t.dep : Int), .ref lz, .bl true, .bl true]) := upd_same
      have s1 := sH3.trans (same_put (o := .lst [.str t.txt, .str (Str.ofString "Time" ++ Str.ofString "(" ++ t.txt ++ Str.ofString ")"), .int (t.dep : Int), .ref lz, .bl true, .bl true]) n1)
      have ez := (same_put (o := .lst [.str t.txt, .str (Str.ofString "Time" ++ Str.ofString "(" ++ t.txt ++ Str.ofString ")"), .int (t.dep : Int), .ref lz, .bl true, .bl true]) n1) _ _ e3
      generalize upd H3 l1 (.lst [.str t.txt, .str (Str.ofString "Time" ++ Str.ofString "(" ++ t.txt ++ Str.ofString ")"), .int (t.dep : Int), .ref lz, .bl true, .bl true]) = J1 at e1 s1 ez ⊢
      have tt3 := TupTr.kp s1.kp tt'
      refine ⟨_, rfl, _, rfl, (by show 2 ≤ sizeLine; decide), fun wm nwm => ?_⟩
      have s4 := same_put (o := .lst ((wordsB false).map V.str)) nwm
      refine ⟨_, wm, t, false, rfl, TupTr.kp s4.kp tt3, ok, by omega, h16, upd_same, fun ly ys H5 nly s5 e5 ss5 => ⟨(by show 2 ≤ sizeLine; decide), fun l4 n4 => ?_⟩⟩
      have s6 := s4.trans s5
      refine ⟨l1, l4, _, _, rfl, rfl, (same_put n4) _ _ (s6 _ _ e1), upd_same, (by show 8 ≤ sizeLine; decide), fun l5 n5 => ?_⟩
      have s7 := (same_put (o := .lst [.ref ly, .bl true]) n4).trans (same_put (o := .lst ([.str t.txt, .str (Str.ofString "Time" ++ Str.ofString "(" ++ t.txt ++ Str.ofString ")"), .int (t.dep : Int), .ref lz, .bl true, .bl true] ++ [.ref ly, .bl true])) n5)
      refine ⟨.ref l5, shownD t zs ys, rfl, .lst (SqL.of upd_same) ?_, shown_fits ok dp ss3 ss5, q zs ys _ ss3 ss5 (s1.trans (s6.trans s7))⟩
      rw [show (kindW t : Str) = Str.ofString "Time" from kw]
      exact .cons (.str _) (.cons (.str _) (.cons (.int _) (.cons (.lst (SqL.of (s7 _ _ (s6 _ _ ez))) (strs_dp zs)) (.cons (.bl true) (.cons (.bl true) (.cons (.lst (SqL.of (s7 _ _ e5)) (strs_dp ys)) (.cons (.bl true) .nil)))))))
end
end K04


namespace K04
open PySem PySem.Spec PyProof.Rows L2 Rng Bag Gd Cal Tm Tr4 Own1
section
variable {P : Program} {w : World} {K : PySem.W.Frag} {mg : Str → Option Value} {base : Heap} {Cs : Nat → Addr} {CT CL : Addr} {e : Ers}
open Gd Own1

def wD : Option Int → PyData
  | none => .none
  | some n => .int n
theorem w_dp {K : PySem.W.Frag} {H : Hp} (w : Option Int) : Dp K H (wV w) (wD w) := by
  cases w with
  | none => exact .non
  | some n => exact .int n
theorem w_fits {w : Option Int} (h : ∀ n, w = some n → 0 ≤ n ∧ n ≤ 1000000000) : Fits 101 1 (wD w) := by
  cases w with
  | none => exact Fits.up fitsNon (by decide) (Nat.le_refl _)
  | some n => exact fitsInt (Nat.lt_of_le_of_lt (show n.natAbs ≤ 1000000000 by have := h n rfl; omega) (by decide))
def spPeekR : Sp := fun vs H Q _ => ∃ (v : V) (t : Tr), vs = [v] ∧ TupTr H t v ∧ t.isLook = true ∧ t.ok ∧ t.dep ≤ 8 ∧ ∀ H', Same H H' → Q (.bl true) H'
abbrev sPR : Stmt := top 57
theorem scPR : FnScope ["_law_tree", "_law_peek_here", "_law_told", "_law_due_here"] ["_law_tree"] (defScope sPR) := ⟨rfl, rfl, rfl, by decide +kernel, rfl, by decide +kernel, by decide +kernel⟩

theorem c_peekr (T : TmK K Cs CT CL) (SP : Spc P w K mg base Cs) (D : Df K mg "_law_peek_right" sPR) (B : Nb mg) (cS16 : Cl P w K mg base CX0 16 "_law_said" ["_law_tree"] (spSaid 16))
    (cT : Cl P w K mg base CX0 (16 + 7) "_law_time_made" ["_law_tree"] (spTMade Cs false 16)) (cL : Cl P w K mg base CX0 (16 + 7) "_law_look_made" ["_law_tree"] (spTMade Cs true 16)) : ClG P w K mg base 24 "_law_peek_right" ["_law_tree"] spPeekR := by
  refine D.clG scPR (fun _ _ _ _ _ _ us hl => match us, hl with | [_], _ => rfl) (fun vs H Q E h => ?_) (fun f cdv A outer s H vs Q E gq hr h => ?_)
  · obtain ⟨v, t, rfl, _⟩ := h
    rfl
  · obtain ⟨v, t, rfl, tt, lk, ok, dp, q⟩ := h
    have hr3 : Room 3 (A.deeper (PyProof.Rows.envOfC "_law_peek_right" (defScope sPR) s.heap.objs.size f cdv)) := hr.mono (by decide)
    have hr1 : Room 1 (A.deeper (PyProof.Rows.envOfC "_law_peek_right" (defScope sPR) s.heap.objs.size f cdv)) := hr.mono (by decide)
    have hu64 := Nat.lt_of_le_of_lt (Nat.add_le_add_left (by decide : 64 ≤ 16 * 23 + 200) _) (Nat.lt_of_le_of_lt (Nat.le_of_eq (Nat.add_assoc _ _ _).symm) hr.un)
    have h16 := hgt16 ok dp
    cases t with
    | look a f' u w' s' =>
      have tt' := tt
      obtain ⟨p, x, rfl, hp, ux⟩ := tt
      have u16 := hgt16 ok.2.2.1 dp
      have ul := Tr.txt_le ok.2.2.1 dp
      refine ⟨_, (pss_cons (ps_set (i := 1) scPR.nd rfl (Or.inl rfl) (pe_c cL hr rfl pass0 (pa_cons (pv 0) pa_nil)))
      (pss_cons (ps_set (i := 2) scPR.nd rfl (Or.inl rfl) (pe_lst (pa_cons (pe_fld (pv 1) rfl) (pa_cons (pe_callTy (call_strP SP hr3) (by rfl) B.str (by decide +kernel) (pa_cons (pe_fld (pv 1) rfl) pa_nil)) (pa_cons (pe_fld (pv 1) rfl) (pa_cons (pe_fld (pv 1) rfl) pa_nil))))))
      (pss_cons (ps_set (i := 3) scPR.nd rfl (Or.inl rfl) (pe_lst (pa_cons (pe_ix ix_tup (pv 0) pe_int (fun _ _ => rfl)) (pa_cons (pe_c cS16 (hr.mono (by decide)) rfl pass0 (pa_cons (pe_ix ix_tup (pv 0) pe_int (fun _ _ => rfl)) pa_nil)) (pa_cons (pe_ix ix_tup (pv 0) pe_int (fun _ _ => rfl)) (pa_cons (pe_ix ix_tup (pv 0) pe_int (fun _ _ => rfl)) pa_nil))))))
      (pss_one (ps_ret ((pe_and (pe_cmpR op_eq (pe_callB (cr_repr gq hu64) (by rfl) B.repr (by decide +kernel) (pa_cons (pv 2) pa_nil)) (pe_callB (cr_repr gq hu64) (by rfl) B.repr (by decide +kernel) (pa_cons (pv 3) pa_nil)) (nomark _)) (pe_one (pe_cmpR (op_eqP T SP hr1) (pe_fld (pv 1) rfl) (pe_c cT hr rfl pass0 (pa_cons (pe_ix ix_tup (pv 0) pe_int (fun _ _ => rfl)) pa_nil)) (nomark _)))))))))), ?_⟩
      refine ⟨_, rfl, _, _, rfl, tt', rfl, ok, dp, h16, fun o H1 no s1 th => ?_⟩
      have th' := th
      obtain ⟨dx, fs, c, ho, cm, k1, k2, k3, k4, tc⟩ := th
      have hi : (if a then 6 else 5) < 7 := by cases a <;> decide
      refine ⟨_, rfl, o, _, dx, fs, _, rfl, ho, T.cl _ hi, T.na _ hi _ (by decide +kernel), k1, _, rfl, o, _, dx, fs, _, rfl, ho, T.cl _ hi, T.na _ hi _ (by decide +kernel), k2, c, u.txt, 0, 7, rfl, tc.tx, Nat.le_refl 7, _, rfl, o, _, dx, fs, _, rfl, ho, T.cl _ hi, T.na _ hi _ (by decide +kernel), k3, _, rfl, o, _, dx, fs, _, rfl, ho, T.cl _ hi, T.na _ hi _ (by decide +kernel), k4, (by show 4 ≤ sizeLine; decide), fun l1 n1 => ?_⟩
      have e1 : (upd H1 l1 (.lst [.str f', .str u.txt, wV w', .bl s'])) l1 = some (.lst [.str f', .str u.txt, wV w', .bl s']) := upd_same
      have s2 := same_put (o := .lst [.str f', .str u.txt, wV w', .bl s']) n1
      generalize upd H1 l1 (.lst [.str f', .str u.txt, wV w', .bl s']) = J1 at e1 s2 ⊢
      have s12 := s1.trans s2
      have hpJ := s12 _ _ hp
      refine ⟨_, rfl, p, _, 1, _, rfl, rfl, SqT.of hpJ, at1 _ _ _, _, rfl, p, _, 2, x, rfl, rfl, SqT.of hpJ, at2 _ _ _ _, x, u, rfl, TupTr.kp s12.kp ux, ok.2.2.1, Nat.le_succ_of_le dp, u16, fun J2 s3 => ?_⟩
      have hpJ2 := s3 _ _ hpJ
      refine ⟨_, rfl, p, _, 3, _, rfl, rfl, SqT.of hpJ2, at3 _ _ _ _ _, _, rfl, p, _, 4, _, rfl, rfl, SqT.of hpJ2, at4 _ _ _ _ _ _, (by show 4 ≤ sizeLine; decide), fun l2 n2 => ?_⟩
      have e2 : (upd J2 l2 (.lst [.str f', .str u.txt, wV w', .bl s'])) l2 = some (.lst [.str f', .str u.txt, wV w', .bl s']) := upd_same
      have e1' := (same_put (o := .lst [.str f', .str u.txt, wV w', .bl s']) n2) _ _ (s3 _ _ e1)
      have s4 := s3.trans (same_put (o := .lst [.str f', .str u.txt, wV w', .bl s']) n2)
      generalize upd J2 l2 (.lst [.str f', .str u.txt, wV w', .bl s']) = J3 at e2 e1' s4 ⊢
      have ft : Fits 80000 40 (.list [.str f', .str u.txt, wD w', .bool s']) := Fits.up (FitsA.list (.cons (fitsStr (L := 8) (p := 1) (name_ok ok.1) (name8 ok.1)) (.cons (fitsStr (L := 1600) (u.strOk ok.2.2.1) ul) (.cons (w_fits ok.2.2.2) (.cons (fitsBl s') .nil))))) (by omega) (by decide)
      have dat : ∀ {l : Addr} {J : Hp}, J l = some (.lst [.str f', .str u.txt, wV w', .bl s']) → Dp K J (.ref l) (.list [.str f', .str u.txt, wD w', .bool s']) := fun e => .lst (SqL.of e) (.cons (.str _) (.cons (.str _) (.cons (w_dp w') (.cons (.bl s') .nil))))
      have s24 := s2.trans s4
      have sA := s1.trans s24
      refine ⟨_, rfl, .ref l1, _, rfl, dat e1', ft, _, rfl, .ref l2, _, rfl, dat e2, ft, rfl, ?_⟩
      rw [decide_eq_true rfl]
      refine ⟨true, rfl, iteT ?_⟩
      have hpA := sA _ _ hp
      refine ⟨_, rfl, o, _, dx, fs, _, rfl, s24 _ _ ho, T.cl _ hi, T.na _ hi _ (by decide +kernel), k2, _, rfl, p, _, 2, x, rfl, rfl, SqT.of hpA, at2 _ _ _ _, x, u, rfl, TupTr.kp sA.kp ux, ok.2.1, ok.2.2.1, dp, u16, fun o2 H9 no2 s9 th2 => ⟨c, u, true, rfl, tc.kp (s24.trans s9).kp, .inl ⟨o2, u, rfl, th2, (decide_eq_true rfl).symm⟩, q _ (sA.trans s9)⟩⟩
    | _ => cases lk
end
end K04


namespace K04
open PySem PySem.Spec PyProof.Rows L2 Rng Bag Gd Cal Tm Tr4 Own1
section
variable {P : Program} {w : World} {K : PySem.W.Frag} {mg : Str → Option Value} {base : Heap} {Cs : Nat → Addr} {CT CL : Addr} {e : Ers}
open Gd Own1

def AnyV (H : Hp) (v : V) : Prop := ∃ t, TupTr H t v ∧ t.ok ∧ t.dep ≤ 8
theorem any_of {H : Hp} {lk : Bool} {v : V} (h : TrV H lk 8 v) : AnyV H v := by
  obtain ⟨t, a, _, b, c⟩ := h
  exact ⟨t, a, b, c⟩
theorem AnyV.kp {H H' : Hp} {v : V} (h : AnyV H v) (k : Kp H H') : AnyV H' v := by
  obtain ⟨t, a, b⟩ := h
  exact ⟨t, TupTr.kp k a, b⟩
theorem anys_ne {H : Hp} {a p : Addr} {k : Nat} {xs : List V} (h : ∀ v ∈ xs, AnyV H v) (e : H a = some (.lst xs)) (S : Src H p k) : a ≠ p := by
  rintro rfl
  obtain ⟨A, B, t, e1, _⟩ := S
  rw [e] at e1
  cases e1
  obtain ⟨t, tt, _⟩ := h _ List.mem_cons_self
  obtain ⟨p, us, z, _⟩ := TupTr.parts tt
  cases z
def spRight : Sp := fun vs H Q _ => ∃ (p : Addr) (k : Nat), vs = [.ref p] ∧ Src H p k ∧ k ≤ 600000 ∧ ∀ H', But p H H' → Src H' p (k + 600) → Q (.bl true) H'
def boolsD (e : Bool) : PyData := .list [.bool true, .bool false, .bool e, .bool (!e), .bool false, .bool false, .bool true]
theorem bools_fit (e : Bool) : Fits 80000 40 (boolsD e) := Fits.up (FitsA.list (.cons (fitsBl (p := 1) true) (.cons (fitsBl false) (.cons (fitsBl e) (.cons (fitsBl (!e)) (.cons (fitsBl false) (.cons (fitsBl false) (.cons (fitsBl true) .nil)))))))) (by decide) (by decide)
theorem bools_dp {K : PySem.W.Frag} {H : Hp} {l : Addr} {e : Bool} (h : H l = some (.lst [.bl true, .bl false, .bl e, .bl (!e), .bl false, .bl false, .bl true])) : Dp K H (.ref l) (boolsD e) := .lst (SqL.of h) (.cons (.bl _) (.cons (.bl _) (.cons (.bl _) (.cons (.bl _) (.cons (.bl _) (.cons (.bl _) (.cons (.bl _) .nil)))))))
abbrev sRight : Stmt := top 58
theorem scRight : FnScope ["_law_source_here", "_law_tags_here", "_law_pool_here", "_law_trees", "_law_tree", "_law_mine", "_law_far", "_law_even", "_law_told"] ["_law_source_here"] (defScope sRight) := ⟨rfl, rfl, rfl, by decide +kernel, rfl, by decide +kernel, by decide +kernel⟩

theorem c_right (T : TmK K Cs CT CL) (SP : Spc P w K mg base Cs) (D : Df K mg "_law_right" sRight) (B : Nb mg) (cO : Cl P w K mg base CX0 2 "_law_one" ["_law_source_here", "_law_things"] (spOne K)) (cTg : Cl P w K mg base CX0 4 "_law_tags" ["_law_source_here", "_law_many"] spTags)
    (cM : Cl P w K mg base CX0 21 "_law_moment" ["_law_source_here", "_law_pool_here"] spMoment) (cPl : Cl P w K mg base CX0 23 "_law_pool" ["_law_source_here", "_law_tags_here", "_law_most", "_law_nets"] spPool) (cMd : Cl P w K mg base CX0 24 "_law_made" ["_law_tree"] (spMade Cs))
    (cSh : ClG P w K mg base 4 "_law_shown" ["_law_thing"] (spShown Cs)) (cDu : ClG P w K mg base 18 "_law_due" ["_law_tree"] spDueT) (cS16 : Cl P w K mg base CX0 16 "_law_said" ["_law_tree"] (spSaid 16)) (cPr : ClG P w K mg base 24 "_law_peek_right" ["_law_tree"] spPeekR) : ClG P w K mg base 25 "_law_right" ["_law_source_here"] spRight := by
  refine D.clG scRight (fun _ _ _ _ _ _ us hl => match us, hl with | [_], _ => rfl) (fun vs H Q E h => ?_) (fun f cdv A outer s H vs Q E gq hr h => ?_)
  · obtain ⟨p, k, rfl, _⟩ := h
    rfl
  · obtain ⟨p, k, rfl, S, hk, q⟩ := h
    have hr3 : Room 3 (A.deeper (PyProof.Rows.envOfC "_law_right" (defScope sRight) s.heap.objs.size f cdv)) := hr.mono (by decide)
    have hr2 : Room 2 (A.deeper (PyProof.Rows.envOfC "_law_right" (defScope sRight) s.heap.objs.size f cdv)) := hr.mono (by decide)
    have hr1 : Room 1 (A.deeper (PyProof.Rows.envOfC "_law_right" (defScope sRight) s.heap.objs.size f cdv)) := hr.mono (by decide)
    have hu64 := Nat.lt_of_le_of_lt (Nat.add_le_add_left (by decide : 64 ≤ 16 * 24 + 200) _) (Nat.lt_of_le_of_lt (Nat.le_of_eq (Nat.add_assoc _ _ _).symm) hr.un)
    have b60 : (100000 : Nat) ≤ sizeLine := by decide
    refine ⟨_, (pss_cons (ps_set (i := 1) scRight.nd rfl (Or.inl rfl) (pe_c cTg (hr.mono (by decide)) rfl pass0 (pa_cons (pv 0) (pa_cons pe_int pa_nil))))
      (pss_cons (ps_set (i := 2) scRight.nd rfl (Or.inl rfl) (pe_c cPl (hr.mono (by decide)) rfl pass0 (pa_cons (pv 0) (pa_cons (pv 1) (pa_cons pe_int (pa_cons pe_int pa_nil))))))
      (pss_cons (ps_set (i := 3) scRight.nd rfl (Or.inl rfl) (pe_op op_cat (pe_op op_cat (pe_ix ix_list (pv 2) pe_int (fun _ _ => rfl)) (pe_ix ix_list (pv 2) pe_int (fun _ _ => rfl))) (pe_lst (pa_cons (pe_c cM (hr.mono (by decide)) rfl pass0 (pa_cons (pv 0) (pa_cons (pv 2) pa_nil))) (pa_cons (pe_c cM (hr.mono (by decide)) rfl pass0 (pa_cons (pv 0) (pa_cons (pv 2) pa_nil))) (pa_cons (pe_tup (pa_cons pe_str pa_nil)) pa_nil))))))
      (pss_cons (ps_for PassesOwn.never rfl (pi_list (pv 3)) (pg_name (i := 4) scRight.nd rfl (Or.inl rfl)) (pss_cons (ps_par (i := 5) (j := 6) (by rfl) scRight.nd rfl rfl (by decide) rfl rfl (pa_cons (pe_c cMd hr rfl pass0 (pa_cons (pv 4) pa_nil)) (pa_cons (pe_c cO (hr.mono (by decide)) rfl pass0 (pa_cons (pv 0) (pa_cons (pv 3) pa_nil))) pa_nil)) (by rfl))
      (pss_cons (ps_if (pt_cmpR op_ne (pe_cG cSh gq (hr.mono (by decide)) rfl (pa_cons (pv 5) pa_nil)) (pe_cG cDu gq (hr.mono (by decide)) rfl (pa_cons (pv 4) pa_nil)) (nomark _)) (pss_one (ps_ret pe_bl)) pss_nil)
      (pss_cons (ps_set (i := 7) scRight.nd rfl (Or.inl rfl) (pe_cmpR op_eq (pe_c cS16 (hr.mono (by decide)) rfl pass0 (pa_cons (pv 6) pa_nil)) (pe_c cS16 (hr.mono (by decide)) rfl pass0 (pa_cons (pv 4) pa_nil)) (nomark _)))
      (pss_cons (ps_set (i := 8) scRight.nd rfl (Or.inl rfl) (pe_lst (pa_cons (pe_cmpR (op_eqP T SP hr1) (pv 5) (pe_c cMd hr rfl pass0 (pa_cons (pv 4) pa_nil)) (nomark _)) (pa_cons (pe_cmpR (op_neP T SP hr2) (pv 5) (pe_c cMd hr rfl pass0 (pa_cons (pv 4) pa_nil)) (nomark _)) (pa_cons (pe_cmpR (op_eqP T SP hr1) (pv 5) (pe_c cMd hr rfl pass0 (pa_cons (pv 6) pa_nil)) (nomark _)) (pa_cons (pe_cmpR (op_neP T SP hr2) (pv 5) (pe_c cMd hr rfl pass0 (pa_cons (pv 6) pa_nil)) (nomark _)) pa_nil))))))
      (pss_cons (ps_set (i := 8) scRight.nd rfl (Or.inl rfl) (pe_op op_cat (pv 8) (pe_lst (pa_cons (pe_cmpR (op_eqP T SP hr1) (pv 5) (pe_callTy (call_strP SP hr3) (by rfl) B.str (by decide +kernel) (pa_cons (pv 5) pa_nil)) (nomark _)) (pa_cons (pe_cmpR (op_eqP T SP hr1) (pv 5) (pv 4) (nomark _)) (pa_cons (pe_cmpR (op_neP T SP hr2) (pv 5) (pe_callTy (call_strP SP hr3) (by rfl) B.str (by decide +kernel) (pa_cons (pv 5) pa_nil)) (nomark _)) pa_nil))))))
      (pss_one (ps_if (pt_cmpR op_ne (pe_callB (cr_repr gq hu64) (by rfl) B.repr (by decide +kernel) (pa_cons (pv 8) pa_nil)) (pe_callB (cr_repr gq hu64) (by rfl) B.repr (by decide +kernel) (pa_cons (pe_lst (pa_cons pe_bl (pa_cons pe_bl (pa_cons (pv 7) (pa_cons (pe_not (pv 7)) (pa_cons pe_bl (pa_cons pe_bl (pa_cons pe_bl pa_nil)))))))) pa_nil)) (nomark _)) (pss_one (ps_ret pe_bl)) pss_nil))))))))
      (pss_one (ps_ret (pe_callB (cr_all rfl) (by rfl) B.all (by decide +kernel) (pa_cons (pe_lc (own := [("_law_tree", 4)]) (g := gName 4) (tt := tYes) (te := tCall spPeekR [] E0 (tCons (tVar 4) tNil)) rfl scRight.nd (pi_list (pe_ix ix_list (pv 2) pe_int (fun _ _ => rfl))) (blkOk_by (own := [("_law_tree", 4)]) (N := ["_law_source_here", "_law_tags_here", "_law_pool_here", "_law_trees", "_law_tree", "_law_mine", "_law_far", "_law_even", "_law_told"]) (sc := defScope sRight) (by decide +kernel)) (fun _ _ _ _ _ => pg_name (i := 4) scRight.nd rfl (Or.inl rfl)) (fun _ _ _ _ _ => pts_nil) (fun _ _ _ _ _ => (pe_cG cPr gq hr rfl (pa_cons (pv 4) pa_nil)))) pa_nil)))))))), ?_⟩
    refine ⟨_, rfl, p, 3, k, rfl, by decide, by decide, S, by omega, fun tg zs H1 zl zn zk b1 nt ntp e1 S1 => ?_⟩
    have zne : zs ≠ [] := fun z => by rw [z] at zl; cases zl
    refine ⟨_, rfl, _, rfl, p, tg, _, zs, rfl, S1, by omega, e1, zne, by omega, zk, fun pp us ws H2 PO lu lw b2 S2 => ?_⟩
    have c2 : But p H H2 := b1.trans b2
    obtain ⟨a, b, h1, h2, h3, nab, nap, nbp⟩ := id PO.ex
    refine ⟨_, rfl, pp, _, 0, .ref a, rfl, rfl, SqL.of h1, at0 _ _, _, rfl, pp, _, 1, .ref b, rfl, rfl, SqL.of h1, at1 _ _ _, a, b, us, ws, rfl, rfl, h2, h3, (by omega), fun l1 n1 => ?_⟩
    have s3 := same_put (o := .lst (us ++ ws)) n1
    have e3 : (upd H2 l1 (.lst (us ++ ws))) l1 = some (.lst (us ++ ws)) := upd_same
    generalize upd H2 l1 (.lst (us ++ ws)) = J3 at s3 e3 ⊢
    have PO3 := PO.same s3
    have S3 := S2.same s3
    have v3 : ∀ v ∈ us ++ ws, AnyV J3 v := fun v hv => (List.mem_append.mp hv).elim (fun z => any_of (PO3.ls v z)) (fun z => any_of (PO3.ns v z))
    have hxl : (us ++ ws).length ≤ 10 := by rw [List.length_append]; omega
    generalize us ++ ws = xs at e3 v3 hxl
    have n1p := anys_ne v3 e3 S3
    refine ⟨_, rfl, _, rfl, p, pp, _, us, ws, rfl, S3, by omega, PO3, by omega, by omega, fun m1 J4 t4 b4 S4 => ?_⟩
    have PO4 := PO3.but S3 b4
    refine ⟨_, rfl, _, rfl, p, pp, _, us, ws, rfl, S4, by omega, PO4, by omega, by omega, fun m2 J5 t5 b5 S5 => ⟨(by show 1 ≤ sizeLine; decide), fun qn nqn => ⟨(by show 3 ≤ sizeLine; decide), fun l2 n2 => ?_⟩⟩⟩
    have b35 : But p J3 J5 := b4.trans b5
    have v5 : ∀ v ∈ xs ++ [m1, m2], AnyV J5 v := fun v hv => by
      rcases List.mem_append.mp hv with z | z
      · exact (v3 v z).kp (S3.kp b35)
      · simp only [List.mem_cons, List.not_mem_nil, or_false] at z
        rcases z with rfl | rfl
        · exact (any_of t4).kp (S4.kp b5)
        · exact any_of t5
    have s6 := (same_put (o := .tup [.str "now"]) nqn).trans (same_put (o := .lst [m1, m2, .ref qn]) n2)
    have en := (same_put (o := .lst [m1, m2, .ref qn]) n2) _ _ (upd_same (H := J5) (a := qn) (o := .tup [.str "now"]))
    refine ⟨l1, l2, xs, _, rfl, rfl, s6 _ _ (b35 _ _ n1p e3), upd_same, (by show xs.length + 3 ≤ sizeLine; omega), fun l3 n3 => ?_⟩
    have s7 := s6.trans (same_put (o := .lst (xs ++ [m1, m2, .ref qn])) n3)
    have e7 : (upd (upd (upd J5 qn (.tup [.str "now"])) l2 (.lst [m1, m2, .ref qn])) l3 (.lst (xs ++ [m1, m2, .ref qn]))) l3 = some (.lst (xs ++ [m1, m2, .ref qn])) := upd_same
    have en7 := (same_put (o := .lst (xs ++ [m1, m2, .ref qn])) n3) _ _ en
    generalize upd (upd (upd J5 qn (.tup [.str "now"])) l2 (.lst [m1, m2, .ref qn])) l3 (.lst (xs ++ [m1, m2, .ref qn])) = J7 at s7 e7 en7 ⊢
    have v7 : ∀ v ∈ xs ++ [m1, m2, .ref qn], AnyV J7 v := fun v hv => by
      rcases List.mem_append.mp hv with z | z
      · exact (v5 v (List.mem_append_left _ z)).kp s7.kp
      · simp only [List.mem_cons, List.not_mem_nil, or_false] at z
        rcases z with rfl | rfl | rfl
        · exact (v5 _ (List.mem_append_right _ (List.mem_cons_self))).kp s7.kp
        · exact (v5 _ (List.mem_append_right _ (List.mem_cons_of_mem _ List.mem_cons_self))).kp s7.kp
        · exact any_of (TrV.up (k := 8) (now_tup en7) (by decide))
    have hyl : (xs ++ [m1, m2, .ref qn]).length ≤ 13 := by rw [List.length_append]; show xs.length + 3 ≤ 13; omega
    have hyp : 0 < (xs ++ [m1, m2, .ref qn]).length := by rw [List.length_append]; show 0 < xs.length + 3; omega
    generalize xs ++ [m1, m2, .ref qn] = ys at e7 v7 hyl hyp
    have S7 := S5.same s7
    have c7 : But p H J7 := c2.trans ((s3.but p).trans (b35.trans (s7.but p)))
    have PO7 := (PO4.but S4 b5).same s7
    have n3p := anys_ne v7 e7 S7
    clear v3 v5 PO3 PO4 e3 en en7
    refine ⟨_, rfl, l3, rfl, ⟨_, SqL.of e7⟩, for_it (walk_list (K := K) (a := l3) (xs := ys)) (fun i σ G => ∃ x4 x5 x6 x7 x8, σ = [some (.ref p), some (.ref tg), some (.ref pp), some (.ref l3), x4, x5, x6, x7, x8] ∧ But p J7 G ∧ Src G p (k + 500 + i))
      ⟨_, _, _, _, _, rfl, But.refl _ _, S7.mono (by omega)⟩ (fun _ _ _ _ h => by obtain ⟨_, _, _, _, _, _, c, _⟩ := h; exact SqL.of (c _ _ n3p e7)) ?_ ?_⟩
    · rintro i x σ Ga Gb hi ⟨x4, x5, x6, x7, x8, rfl, ca, Sa⟩ ⟨rfl, hx⟩
      obtain ⟨t, tt0, ok, dp⟩ := v7 x (List.mem_of_getElem? hx)
      have tt := TupTr.kp (S7.kp ca) tt0
      refine ⟨_, rfl, x, t, rfl, tt, ok, dp, fun o G1 no s1 th => ?_⟩
      have Sb := Sa.same s1
      have ea := s1 _ _ (ca _ _ n3p e7)
      refine ⟨_, rfl, _, rfl, p, .ref l3, _, rfl, Sb, by omega, .inl ⟨l3, ys, rfl, n3p, SqL.of ea, hyp, by omega, fun y G2 hy b2' S2' => ?_⟩⟩
      obtain ⟨f', ft0, fok, fdp⟩ := v7 y hy
      have k2 := s1.kp.trans (Sb.kp b2')
      have ft := TupTr.kp ((S7.kp ca).trans k2) ft0
      have tt2 := TupTr.kp k2 tt
      have th2 := th.kp (Sb.kp b2')
      have cG2 : But p J7 G2 := ca.trans ((s1.but p).trans b2')
      refine ⟨_, _, rfl, ?_⟩
      refine ⟨_, rfl, o, t, rfl, th2, ok, dp, fun z1 y1 G3 hz1 hy1 s3' => ⟨_, rfl, x, t, rfl, TupTr.kp s3'.kp tt2, ok, dp, fun z2 y2 G4 hz2 hy2 s4' => ?_⟩⟩
      obtain rfl := hz1.same hz2
      obtain rfl := hy1.same hy2
      refine ⟨rfl, _, rfl, ?_⟩
      rw [decide_eq_true rfl]
      refine iteF ?_
      have s24 := s3'.trans s4'
      have h16 := hgt16 ok dp
      have f16 := hgt16 fok fdp
      refine ⟨_, rfl, y, f', rfl, TupTr.kp s24.kp ft, fok, Nat.le_succ_of_le fdp, f16, fun G5 s5' => ⟨_, rfl, x, t, rfl, TupTr.kp (s24.trans s5').kp tt2, ok, Nat.le_succ_of_le dp, h16, fun G6 s6' => ⟨rfl, ?_⟩⟩⟩
      have s26 := s24.trans (s5'.trans s6')
      have ev : decide (V.str f'.txt = V.str t.txt) = decide (t.txt = f'.txt) := decide_eq_decide.mpr ⟨fun z => (V.str.inj z).symm, fun z => congrArg V.str z.symm⟩
      rw [ev]
      refine ⟨_, rfl, _, rfl, x, t, rfl, TupTr.kp s26.kp tt2, ok, dp, fun o3 G7 no3 s7' th3 => ⟨o, t, true, rfl, th2.kp (s26.trans s7').kp, .inl ⟨o3, t, rfl, th3, (decide_eq_true rfl).symm⟩, ?_⟩⟩
      have s27 := s26.trans s7'
      refine ⟨_, rfl, _, rfl, x, t, rfl, TupTr.kp s27.kp tt2, ok, dp, fun o4 G8 no4 s8' th4 => ⟨o, t, true, rfl, th2.kp (s27.trans s8').kp, .inl ⟨o4, t, rfl, th4, (decide_eq_true rfl).symm⟩, ?_⟩⟩
      have s28 := s27.trans s8'
      refine ⟨_, rfl, _, rfl, y, f', rfl, TupTr.kp s28.kp ft, fok, fdp, fun o5 G9 no5 s9' th5 => ⟨o, t, decide (t.txt = f'.txt), rfl, th2.kp (s28.trans s9').kp, .inl ⟨o5, f', rfl, th5, rfl⟩, ?_⟩⟩
      have s29 := s28.trans s9'
      refine ⟨_, rfl, _, rfl, y, f', rfl, TupTr.kp s29.kp ft, fok, fdp, fun o6 Gx no6 sx' th6 => ⟨o, t, decide (t.txt = f'.txt), rfl, th2.kp (s29.trans sx').kp, .inl ⟨o6, f', rfl, th6, rfl⟩, (by show 4 ≤ sizeLine; decide), fun l4 n4 => ?_⟩⟩
      generalize decide (t.txt = f'.txt) = ee
      have s2x := s29.trans (sx'.trans (same_put (o := .lst [.bl true, .bl (!true), .bl ee, .bl (!ee)]) n4))
      have e4 : (upd Gx l4 (.lst [.bl true, .bl (!true), .bl ee, .bl (!ee)])) l4 = some (.lst [.bl true, .bl (!true), .bl ee, .bl (!ee)]) := upd_same
      generalize upd Gx l4 (.lst [.bl true, .bl (!true), .bl ee, .bl (!ee)]) = K1 at s2x e4 ⊢
      have thx := th2.kp s2x.kp
      obtain ⟨pt, ut, ext, hpt, _⟩ := (TupTr.kp s2x.kp tt2).parts
      refine ⟨_, rfl, _, rfl, _, rfl, o, t.txt, 0, 7, rfl, thx.tx, Nat.le_refl 7, o, t, false, rfl, thx, .inr (.inl ⟨_, rfl, rfl⟩), _, rfl, _, rfl, o, t, false, rfl, thx, .inr (.inr ⟨pt, _, ext, hpt, rfl⟩), _, rfl, _, rfl, o, t.txt, 0, 7, rfl, thx.tx, Nat.le_refl 7, o, t, false, rfl, thx, .inr (.inl ⟨_, rfl, rfl⟩), (by show 3 ≤ sizeLine; decide), fun l5 n5 => ⟨l4, l5, _, _, rfl, rfl, (same_put n5) _ _ e4, upd_same, (by show 7 ≤ sizeLine; decide), fun l6 n6 => ?_⟩⟩
      have s8 := (same_put (o := .lst [.bl false, .bl false, .bl (!false)]) n5).trans (same_put (o := .lst ([.bl true, .bl (!true), .bl ee, .bl (!ee)] ++ [.bl false, .bl false, .bl (!false)])) n6)
      have e6 : (upd (upd K1 l5 (.lst [.bl false, .bl false, .bl (!false)])) l6 (.lst ([.bl true, .bl (!true), .bl ee, .bl (!ee)] ++ [.bl false, .bl false, .bl (!false)]))) l6 = some (.lst [.bl true, .bl false, .bl ee, .bl (!ee), .bl false, .bl false, .bl true]) := upd_same
      generalize upd (upd K1 l5 (.lst [.bl false, .bl false, .bl (!false)])) l6 (.lst ([.bl true, .bl (!true), .bl ee, .bl (!ee)] ++ [.bl false, .bl false, .bl (!false)])) = K2 at s8 e6 ⊢
      refine ⟨_, rfl, .ref l6, _, rfl, bools_dp e6, bools_fit ee, _, rfl, _, rfl, ee, rfl, (by show 7 ≤ sizeLine; decide), fun l7 n7 => ⟨.ref l7, _, rfl, bools_dp upd_same, bools_fit ee, rfl, _, rfl, ?_⟩⟩
      rw [decide_eq_true rfl]
      refine iteF ?_
      have sE := s2x.trans (s8.trans (same_put (o := .lst [.bl true, .bl false, .bl ee, .bl (!ee), .bl false, .bl false, .bl true]) n7))
      exact ⟨_, _, _, _, _, rfl, cG2.trans (sE.but p), (S2'.same sE).mono (by omega)⟩
    · rintro σ Ga ⟨x4, x5, x6, x7, x8, rfl, ca, Sa⟩
      have POa := PO7.but S7 ca
      obtain ⟨a', b', g1, g2, g3, g4, g5, g6⟩ := id POa.ex
      refine ⟨_, rfl, pp, _, 0, .ref a', rfl, rfl, SqL.of g1, at0 _ _, a', rfl, ⟨_, SqL.of g2⟩, fun Dl nD => lc_it (walk_list (K := K) (a := a') (xs := us)) (fun i G => Same Ga G ∧ G Dl = some (.lst ((List.replicate i true).map V.bl))) ⟨same_put nD, upd_same⟩ (fun _ _ _ h => SqL.of (h.1 _ _ g2)) ?_ ?_⟩
      · rintro j y Gb Gc hj ⟨sb, eb⟩ ⟨rfl, hy⟩
        obtain ⟨t, tt, tl, tk, td⟩ := (POa.ls y (List.mem_of_getElem? hy)).kp sb.kp
        have hj5 := (List.getElem?_eq_some_iff.mp hy).1
        refine ⟨rfl, _, rfl, y, t, rfl, tt, tl, tk, td, fun Gd sd => ⟨_, sd _ _ eb, ?_, ?_, ?_⟩⟩
        · rw [List.length_map, List.length_replicate]
          omega
        · intro c u e
          rw [upd_ne (ne_of_none e nD)]
          exact sd _ _ (sb c u e)
        · rw [upd_same, List.replicate_succ', List.map_append]
          rfl
      · rintro Gb ⟨sb, eb⟩
        refine ⟨Dl, _, rfl, SqL.of eb, ?_⟩
        have al : (List.replicate us.length true).all id = true := by simp
        rw [al]
        exact q Gb (c7.trans (ca.trans (sb.but p))) ((Sa.same sb).mono (by omega))
end
end K04


/-! times and looks made by hand -/
namespace Cal
open PySem PySem.Spec PyProof.Rows L2 Gd Own1
/-- an operator of a class that keeps a promise -/
structure Ob (P : Program) (w : World) (K : PySem.W.Frag) (mg : Str → Option Value) (base : Heap) (k : Nat) (C : Addr) (op : Operator) (sp : Sp) : Prop where
  ex : ∃ f, Bn K C op f ∧ FnR P w K mg base (L2N.CX P w) k f sp
end Cal
namespace Tm
open PySem PySem.Spec PyProof.Rows L2 Rng Bag Own1 Cal
section
variable {K : PySem.W.Frag} {Cs : Nat → Addr} {CT CL : Addr} {e : Ers} {H : Hp} {R : VK} {E : XK}
theorem now_go2 (x dx : Addr) (nx : H x = none) (nd : H dx = none) (q : ∀ J, Same H J → ThAt Cs J .now x → R .non J) : spNowI Cs [.ref x] (upd (upd H dx (.own x)) x (.ins (Cs 0) dx [])) R E :=
  ⟨x, rfl, ⟨dx, upd_same⟩, fun J b t => q J (back nx nd b) t⟩
theorem floor_go2 (T : TmK K Cs CT CL) {i : Nat} {mk : Tr → Tr} {c : Addr} {tr : Tr} (th : ThAt Cs H tr c) (lk : tr.isLook = false) (ok : tr.ok) (dp : tr.dep + 1 ≤ 8) (x dx : Addr) (nx : H x = none) (nd : H dx = none) (q : ∀ J, Same H J → ThAt Cs J (mk tr) x → R .non J) :
    spFloorI K Cs CT e i mk [.ref x, .ref c] (upd (upd H dx (.own x)) x (.ins (Cs i) dx [])) R E := by
  have s1 : Same H (upd (upd H dx (.own x)) x (.ins (Cs i) dx [])) := laid nx nd
  have cb := (th.isT T).same s1
  rw [lk] at cb
  exact ⟨x, .ref c, true, rfl, ⟨dx, upd_same⟩, cb, fun z => (nomatch z), fun _ => ⟨c, tr, rfl, th.kp s1.kp, lk, ok, Nat.le_of_succ_le dp, fun z => absurd z (by omega), fun z J b t => q J (back nx nd b) t⟩⟩
theorem row_go2 (T : TmK K Cs CT CL) {c : Addr} {tr : Tr} (th : ThAt Cs H tr c) (lk : tr.isLook = true) (ok : tr.ok) (dp : tr.dep + 1 ≤ 8) (x dx : Addr) (nx : H x = none) (nd : H dx = none) (q : ∀ J, Same H J → ThAt Cs J (.row tr) x → R .non J) :
    spRowI K Cs CL e [.ref x, .ref c] (upd (upd H dx (.own x)) x (.ins (Cs 4) dx [])) R E := by
  have s1 : Same H (upd (upd H dx (.own x)) x (.ins (Cs 4) dx [])) := laid nx nd
  have cb := (th.isL T).same s1
  rw [lk] at cb
  exact ⟨x, .ref c, true, rfl, ⟨dx, upd_same⟩, cb, fun z => (nomatch z), fun _ => ⟨c, tr, rfl, th.kp s1.kp, lk, ok, Nat.le_of_succ_le dp, fun z => absurd z (by omega), fun z J b t => q J (back nx nd b) t⟩⟩
theorem look_go2 (T : TmK K Cs CT CL) {a : Bool} {f : Str} {w : Option Int} {s : Bool} {c : Addr} {tr : Tr} {wv : V} (ew : wv = wV w) (th : ThAt Cs H tr c) (ok : (Tr.look a f tr w s).ok) (dp : tr.dep ≤ 8) (x dx : Addr) (nx : H x = none) (nd : H dx = none) (q : ∀ J, Same H J → ThAt Cs J (.look a f tr w s) x → R .non J) :
    spLookI K Cs CT e a [.ref x, .str f, .ref c, wv, .bl s] (upd (upd H dx (.own x)) x (.ins (Cs (if a then 6 else 5)) dx [])) R E := by
  subst ew
  have s1 : Same H (upd (upd H dx (.own x)) x (.ins (Cs (if a then 6 else 5)) dx [])) := laid nx nd
  have cb := (th.isT T).same s1
  rw [ok.2.1] at cb
  exact ⟨x, .str f, .ref c, wV w, .bl s, rfl, ⟨dx, upd_same⟩, true, true, some w, nameB_of ok.1, cb, withinB_of ok.2.2.2, fun z => (nomatch z), fun _ z => (nomatch z), fun _ _ z => (nomatch z), fun _ _ _ z => (nomatch z),
    fun _ _ _ _ => ⟨f, c, tr, w, s, rfl, rfl, rfl, rfl, th.kp s1.kp, ok, dp, fun J b t => q J (back nx nd b) t⟩⟩
theorem add_go2 {g : Int → Int} {c : Addr} {m : Int} {tr : Tr} (th : ThAt Cs H tr c) (lk : tr.isLook = false) (ok : tr.ok) (dp : tr.dep + 1 ≤ 8) (m1 : -1000000000 ≤ m) (m2 : m ≤ 1000000000) (q : ∀ o J, Same H J → ThAt Cs J (.shift tr (g m)) o → R (.ref o) J) :
    spAdd K Cs e g [.ref c, .int m] H R E :=
  ⟨c, .int m, some m, tr, rfl, th, lk, ok, Nat.le_of_succ_le dp, .inl ⟨m, rfl, rfl, m1, m2⟩, fun z => (nomatch z), fun k ek => by
    cases ek
    exact ⟨fun z => absurd z (by omega), fun _ o J no s t => q o J s t⟩⟩
end
/-! the trees of the law's example -/
def tP : Tr := .look false "a" (.floor (.shift .now (-5))) (some 10) true
def tA : Tr := .look true "b" (.shift (.row tP) 1) none false
def tM : Tr := .row tA
def tB1 : Tr := .look false "now" .now none false
def tB2 : Tr := .look true "strict" .now (some 0) false
def tB3 : Tr := .look true "a" .now none false
theorem okP : tP.ok := ⟨by decide +kernel, rfl, ⟨rfl, rfl, trivial, by decide, by decide⟩, fun n h => by cases h; decide⟩
theorem okA : tA.ok := ⟨by decide +kernel, rfl, ⟨rfl, ⟨rfl, okP⟩, by decide, by decide⟩, fun n h => (nomatch h)⟩
theorem okB1 : tB1.ok := ⟨by decide +kernel, rfl, trivial, fun n h => (nomatch h)⟩
theorem okB2 : tB2.ok := ⟨by decide +kernel, rfl, trivial, fun n h => by cases h; decide⟩
theorem okB3 : tB3.ok := ⟨by decide +kernel, rfl, trivial, fun n h => (nomatch h)⟩
theorem txP : tP.txt = "before(a, floor(shift(now, -5)), 10, strict)" := by decide +kernel
theorem txF : (Tr.floor (.shift .now (-5))).txt = "floor(shift(now, -5))" := by decide +kernel
theorem txB1 : tB1.txt = "before(now, now)" := by decide +kernel
theorem txB2 : tB2.txt = "after(strict, now, 0)" := by decide +kernel
theorem txB3 : tB3.txt = "after(a, now)" := by decide +kernel
theorem lksM {zs : List Str} (h : IsSS zs tM.lks) : zs = [tA.txt, tP.txt] :=
  h.same ⟨by decide +kernel, by decide +kernel, fun z => Iff.rfl⟩
theorem gdsM {zs : List Str} (h : IsSS zs tM.gds) : zs = [(Tr.floor (.shift .now (-5))).txt] :=
  h.same ⟨by decide +kernel, by decide +kernel, fun z => Iff.rfl⟩
theorem cutA : cutS tA.txt none (some 5) = "after" := by decide +kernel
theorem lenA : tA.txt.length ≤ 200 := by decide +kernel
end Tm


namespace K04
open PySem PySem.Spec PyProof.Rows L2 Rng Bag Gd Cal Tm Tr4 Own1
section
variable {P : Program} {w : World} {K : PySem.W.Frag} {mg : Str → Option Value} {base : Heap} {Cs : Nat → Addr} {CT CL : Addr} {e : Ers}
open Gd Own1

section
variable {C : Addr}

theorem kb_nB {f : Addr} {fd : FuncData} (F : Dk K mg "Before" C sBeforeI f fd) : Binds K fd ["self", "feed", "time", "within", "strict"] [.none, .bool false] := by
  obtain ⟨Dd, dc, pm, cd, ct, an, rfl, n1, n2⟩ := F.df
  intro s us X hl
  have h1 : us.length = 3 := by
    rw [List.length_append] at hl
    exact Nat.add_right_cancel (m := 2) hl
  match us, h1 with
  | [a, b, c], _ =>
    refine BindsTo.of_looks fun M => KwChain.looks (D := Dd) (l := [("within", .none), ("strict", .bool false)]) X (fun q hq => ?_) ?_
    · simp only [List.mem_cons, List.not_mem_nil, or_false] at hq
      rcases hq with rfl | rfl
      · exact n1
      · exact n2
    · exact ⟨_, _, _, _, _, _, rfl, rfl, _, _, _, _, _, _, rfl, rfl, rfl⟩
theorem kb_nA {f : Addr} {fd : FuncData} (F : Dk K mg "After" C sAfterI f fd) : Binds K fd ["self", "feed", "time", "within", "strict"] [.none, .bool false] := by
  obtain ⟨Dd, dc, pm, cd, ct, an, rfl, n1, n2⟩ := F.df
  intro s us X hl
  have h1 : us.length = 3 := by
    rw [List.length_append] at hl
    exact Nat.add_right_cancel (m := 2) hl
  match us, h1 with
  | [a, b, c], _ =>
    refine BindsTo.of_looks fun M => KwChain.looks (D := Dd) (l := [("within", .none), ("strict", .bool false)]) X (fun q hq => ?_) ?_
    · simp only [List.mem_cons, List.not_mem_nil, or_false] at hq
      rcases hq with rfl | rfl
      · exact n1
      · exact n2
    · exact ⟨_, _, _, _, _, _, rfl, rfl, _, _, _, _, _, _, rfl, rfl, rfl⟩
theorem kb_w0 {f : Addr} {fd : FuncData} (F : Dk K mg "After" C sAfterI f fd) : KBn K fd ["self", "feed", "time", "within", "strict"] 3 ["within"] (fun us ws => us ++ (ws ++ [.bool false])) (fun us ws => us ++ (ws ++ [.bl false])) := by
  obtain ⟨Dd, dc, pm, cd, ct, an, rfl, n1, n2⟩ := F.df
  refine ⟨fun s us ws X h1 h2 => ?_, fun r1 r2 => r1.append (r2.append (show Vals [V.bl false] [Value.bool false] from .cons rfl .nil))⟩
  match us, ws, h1, h2 with
  | [a, b, c], [d], _, _ =>
    refine BindsTo.of_looks fun M => KwChain.looks (D := Dd) (l := [("strict", .bool false)]) X (fun q hq => ?_) ?_
    · simp only [List.mem_cons, List.not_mem_nil, or_false] at hq
      subst hq
      exact n2
    · exact ⟨_, _, _, _, _, _, rfl, rfl, rfl⟩
theorem kb_tf {f : Addr} {fd : FuncData} (F : Fun K "__init__" "After.__init__" sAfterI f fd) : KBn K fd ["self", "feed", "time", "within", "strict"] 1 ["time", "feed", "within", "strict"] (fun us ws => us ++ swap12 ws) (fun us ws => us ++ swap12 ws) := by
  obtain ⟨oc, od, kV, doc, pm, an, cdv, ct, osl, rfl, lk, hcd⟩ := F.ex
  refine ⟨fun s us ws X h1 h2 => ?_, fun {vs zs us ws} r1 r2 => r1.append ?_⟩
  · match us, ws, h1, h2 with
    | [a], [b, c, d, e], _, _ => exact .of_eq rfl
  · match zs, ws, r2 with
    | _, _, .nil => exact .nil
    | _, _, .cons a .nil => exact .cons a .nil
    | _, _, .cons a (.cons b .nil) => exact .cons a (.cons b .nil)
    | _, _, .cons a (.cons b (.cons c .nil)) => exact .cons a (.cons b (.cons c .nil))
    | _, _, .cons a (.cons b (.cons c (.cons d .nil))) => exact .cons b (.cons a (.cons c (.cons d .nil)))
    | _, _, .cons a (.cons b (.cons c (.cons d (.cons e r)))) => exact .cons a (.cons b (.cons c (.cons d (.cons e r))))

end
def spHand : Sp := fun vs H Q _ => vs = [] ∧ ∀ H', Same H H' → Q (.bl true) H'
abbrev sHand : Stmt := top 59
theorem scHand : FnScope ["_law_peek_here", "_law_moment_here", "_law_bare", "_law_lines", "_law_told", "_law_due_here", "_law_each"] [] (defScope sHand) := ⟨rfl, rfl, rfl, by decide +kernel, rfl, by decide +kernel, by decide +kernel⟩

theorem c_hand (T : TmK K Cs CT CL) (SP : Spc P w K mg base Cs) (D : Df K mg "_law_by_hand" sHand) (B : Nb mg) (i0 : Ni P w K mg base (L2N.CX P w) 1 "Now" (Cs 0) ["self"] (spNowI Cs)) (i1 : Ni P w K mg base (L2N.CX P w) 3 "Shift" (Cs 1) ["self", "time", "by"] (spShiftI K Cs CT e)) (i2 : Ni P w K mg base (L2N.CX P w) 2 "Floor" (Cs 2) ["self", "time"] (spFloorI K Cs CT e 2 Tr.floor))
    (i3 : Ni P w K mg base (L2N.CX P w) 2 "Ceil" (Cs 3) ["self", "time"] (spFloorI K Cs CT e 3 Tr.ceil)) (i4 : Ni P w K mg base (L2N.CX P w) 2 "RowTime" (Cs 4) ["self", "look"] (spRowI K Cs CL e)) {f5 f6 : Addr} {d5 d6 : FuncData} (dB : Dk K mg "Before" (Cs 5) sBeforeI f5 d5) (dA : Dk K mg "After" (Cs 6) sAfterI f6 d6)
    (fB : FnOk P w K mg base (L2N.CX P w) 5 f5 d5 ["self", "feed", "time", "within", "strict"] (spLookI K Cs CT e false)) (fA : FnOk P w K mg base (L2N.CX P w) 5 f6 d6 ["self", "feed", "time", "within", "strict"] (spLookI K Cs CT e true))
    (oS : Ob P w K mg base 6 (Cs 0) .Sub (spAdd K Cs e fun n => -n)) (oA : Ob P w K mg base 5 (Cs 4) .Add (spAdd K Cs e fun n => n)) : ClG P w K mg base 9 "_law_by_hand" [] spHand := by
  obtain ⟨fs', Bs, Fs⟩ := oS.ex
  obtain ⟨fa', Ba, Fa⟩ := oA.ex
  refine D.clG scHand (fun _ _ _ _ _ _ us hl => match us, hl with | [], _ => rfl) (fun vs H Q E h => ?_) (fun f cdv A outer s H vs Q E gq hr h => ?_)
  · obtain ⟨rfl, _⟩ := h
    rfl
  · obtain ⟨rfl, q⟩ := h
    have hr3 : Room 3 (A.deeper (PyProof.Rows.envOfC "_law_by_hand" (defScope sHand) s.heap.objs.size f cdv)) := hr.mono (by decide)
    have hu64 := Nat.lt_of_le_of_lt (Nat.add_le_add_left (by decide : 64 ≤ 16 * 8 + 200) _) (Nat.lt_of_le_of_lt (Nat.le_of_eq (Nat.add_assoc _ _ _).symm) hr.un)
    have b60 : (100000 : Nat) ≤ sizeLine := by decide
    refine ⟨_, (pss_cons (ps_set (i := 0) scHand.nd rfl (Or.inl rfl) (pe_makeK (E := E0) dB.made fB (hr.mono (by decide)) rfl dB.gl (kb_ws dB.fn) passC (pa_cons pe_str (pa_cons (pe_n (E := E0) i2 (hr.mono (by decide)) rfl passC (pa_cons (pe_op (op_binI (E := E0) Bs Fs (hr.mono (by decide)) passC) (pe_n0 (E := E0) i0 (hr.mono (by decide)) rfl passC) pe_int) pa_nil)) pa_nil)) (pk_cons pe_int (pk_cons pe_bl pk_nil))))
      (pss_cons (ps_set (i := 1) scHand.nd rfl (Or.inl rfl) (pe_n (E := E0) i4 (hr.mono (by decide)) rfl passC (pa_cons (pe_make (E := E0) dA.made fA (hr.mono (by decide)) rfl dA.gl (kb_nA dA) (show Vals [V.non, V.bl false] [Value.none, Value.bool false] from .cons rfl (.cons rfl .nil)) passC (pa_cons pe_str (pa_cons (pe_op (op_binI (E := E0) Ba Fa (hr.mono (by decide)) passC) (pe_n (E := E0) i4 (hr.mono (by decide)) rfl passC (pa_cons (pv 0) pa_nil)) pe_int) pa_nil))) pa_nil)))
      (pss_cons (ps_set (i := 2) scHand.nd rfl (Or.inl rfl) (pe_lst (pa_cons (pe_make (E := E0) dB.made fB (hr.mono (by decide)) rfl dB.gl (kb_nB dB) (show Vals [V.non, V.bl false] [Value.none, Value.bool false] from .cons rfl (.cons rfl .nil)) passC (pa_cons pe_str (pa_cons (pe_n0 (E := E0) i0 (hr.mono (by decide)) rfl passC) pa_nil))) (pa_cons (pe_makeK (E := E0) dA.made fA (hr.mono (by decide)) rfl dA.gl (kb_w0 dA) passC (pa_cons pe_str (pa_cons (pe_n0 (E := E0) i0 (hr.mono (by decide)) rfl passC) pa_nil)) (pk_cons pe_int pk_nil)) pa_nil))))
      (pss_cons (ps_expr (pe_bm PySem.F.plainAttrs_list PySem.F.slot_list_append PySem.F.type_list_append mt_append (pv 2) (pa_cons (pe_makeK0 (E := E0) dA.made fA (hr.mono (by decide)) rfl dA.gl (kb_tf dA.fn) passC (pk_cons (pe_n0 (E := E0) i0 (hr.mono (by decide)) rfl passC) (pk_cons pe_str (pk_cons pe_non (pk_cons pe_bl pk_nil))))) pa_nil)))
      (pss_cons (ps_set (i := 3) scHand.nd rfl (Or.inl rfl) (pe_lst (pa_cons pe_str (pa_cons pe_str (pa_cons pe_str pa_nil)))))
      (pss_cons (ps_if (PW.pt (pw_or (pt_cmpR (op_neD hu64) (pe_lc (own := [("_law_each", 6)]) (g := gName 6) (tt := tYes) (te := tCB (rStrP Cs) (tCons (tVar 6) tNil)) rfl scHand.nd (pi_list (pv 2)) (blkOk_by (own := [("_law_each", 6)]) (N := ["_law_peek_here", "_law_moment_here", "_law_bare", "_law_lines", "_law_told", "_law_due_here", "_law_each"]) (sc := defScope sHand) (by decide +kernel)) (fun _ _ _ _ _ => pg_name (i := 6) scHand.nd rfl (Or.inl rfl)) (fun _ _ _ _ _ => pts_nil) (fun _ _ _ _ _ => (pe_callTy (call_strP SP hr3) (by rfl) B.str (by decide +kernel) (pa_cons (pv 6) pa_nil)))) (pv 3) (nomark _)) (pw_or (pt_cmpR op_isnotB (pe_fld (pe_ix ix_list (pv 2) pe_int (fun _ _ => rfl)) rfl) pe_bl (nomark _)) (pw_or1 (pt_cmp (pc_notN (pe_fld (pe_ix ix_list (pv 2) pe_int (fun _ _ => rfl)) rfl))))))) (pss_one (ps_ret pe_bl)) pss_nil)
      (pss_cons (ps_set (i := 4) scHand.nd rfl (Or.inl rfl) (pe_lst (pa_cons (pe_callTy (call_strP SP hr3) (by rfl) B.str (by decide +kernel) (pa_cons (pv 0) pa_nil)) (pa_cons (pe_fld (pv 1) rfl) (pa_cons (pe_callB call_len_seq (by rfl) B.len (by decide +kernel) (pa_cons (pe_fld (pv 1) rfl) pa_nil)) (pa_cons (pe_callTy (call_strP SP hr3) (by rfl) B.str (by decide +kernel) (pa_cons (pe_ix ix_tup (pe_fld (pv 1) rfl) pe_int (fun _ _ => rfl)) pa_nil)) pa_nil))))))
      (pss_cons (ps_set (i := 4) scHand.nd rfl (Or.inl rfl) (pe_op op_cat (pv 4) (pe_lst (pa_cons (pe_slice sl_str (pe_callTy (call_strP SP hr3) (by rfl) B.str (by decide +kernel) (pa_cons (pe_ix ix_tup (pe_fld (pv 1) rfl) pe_int (fun _ _ => rfl)) pa_nil)) po_none (po_some pe_int)) (pa_cons (pe_fld (pv 0) rfl) pa_nil)))))
      (pss_cons (ps_set (i := 5) scHand.nd rfl (Or.inl rfl) (pe_lst (pa_cons pe_str (pa_cons pe_int (pa_cons pe_int (pa_cons pe_str (pa_cons pe_str (pa_cons pe_int pa_nil))))))))
      (pss_one (ps_ret (pe_cmpR op_eq (pe_callB (cr_repr gq hu64) (by rfl) B.repr (by decide +kernel) (pa_cons (pv 4) pa_nil)) (pe_callB (cr_repr gq hu64) (by rfl) B.repr (by decide +kernel) (pa_cons (pv 5) pa_nil)) (nomark _))))))))))))), ?_⟩
    refine fun x1 d1 nx1 nd1 _ => now_go2 x1 d1 nx1 nd1 fun J1 s1 th1 => ⟨rfl, ?_⟩
    obtain ⟨dn, fn, hn, _⟩ := id th1
    refine ⟨x1, dn, fn, 5, rfl, rfl, hn, add_go2 th1 rfl trivial (by decide) (by decide) (by decide) fun o2 J2 s2 th2 => ⟨⟨_, rfl⟩, ?_⟩⟩
    replace th2 : ThAt Cs J2 (.shift .now (-5)) o2 := th2
    refine fun x3 d3 nx3 nd3 _ => floor_go2 T th2 rfl ⟨rfl, trivial, by decide, by decide⟩ (by decide) x3 d3 nx3 nd3 fun J3 s3 th3 => ⟨rfl, ?_⟩
    refine ⟨rfl, rfl, fun x4 d4 nx4 nd4 _ => look_go2 (a := false) (f := "a") (w := some 10) (s := true) T rfl th3 okP (by decide) x4 d4 nx4 nd4 fun J4 s4 th4 => ⟨rfl, ?_⟩⟩
    replace th4 : ThAt Cs J4 tP x4 := th4
    have m4 : Same H J4 := s1.trans (s2.trans (s3.trans s4))
    clear s1 s2 s3 s4 th1 th2 th3 hn nx1 nd1 nx3 nd3 nx4 nd4
    refine ⟨_, rfl, fun x5 d5 nx5 nd5 _ => row_go2 T th4 rfl okP (by decide) x5 d5 nx5 nd5 fun J5 s5 th5 => ⟨rfl, ?_⟩⟩
    obtain ⟨dr, fr, hr5, _⟩ := id th5.node
    refine ⟨x5, dr, fr, 1, rfl, rfl, hr5, add_go2 th5 rfl ⟨rfl, okP⟩ (by decide) (by decide) (by decide) fun o6 J6 s6 th6 => ⟨⟨_, rfl⟩, ?_⟩⟩
    refine fun x7 d7 nx7 nd7 _ => look_go2 (a := true) (f := "b") (w := none) (s := false) T rfl th6 okA (by decide) x7 d7 nx7 nd7 fun J7 s7 th7 => ⟨rfl, ?_⟩
    replace th7 : ThAt Cs J7 tA x7 := th7
    refine fun x8 d8 nx8 nd8 _ => row_go2 T th7 rfl okA (by decide) x8 d8 nx8 nd8 fun J8 s8 th8 => ⟨rfl, ?_⟩
    replace th8 : ThAt Cs J8 tM x8 := th8
    have m48 : Same J4 J8 := s5.trans (s6.trans (s7.trans s8))
    have th4' := th4.kp m48.kp
    have m8 := m4.trans m48
    clear s5 s6 s7 s8 th5 th6 th7 hr5 nx5 nd5 nx7 nd7 nx8 nd8 th4 m4 m48
    refine fun x9 d9 nx9 nd9 _ => now_go2 x9 d9 nx9 nd9 fun J9 s9 th9 => ⟨rfl, ?_⟩
    refine fun xa da nxa nda _ => look_go2 (a := false) (f := "now") (w := none) (s := false) T rfl th9 okB1 (by decide) xa da nxa nda fun Ja sa tha => ⟨rfl, ?_⟩
    refine fun xb db nxb ndb _ => now_go2 xb db nxb ndb fun Jb sb thb => ⟨rfl, ?_⟩
    refine ⟨rfl, rfl, fun xc dc nxc ndc _ => look_go2 (a := true) (f := "strict") (w := some 0) (s := false) T rfl thb okB2 (by decide) xc dc nxc ndc fun Jc sc thc => ⟨rfl, (by show 2 ≤ sizeLine; decide), fun l1 n1 => ?_⟩⟩
    replace tha : ThAt Cs (upd Jc l1 (.lst [.ref xa, .ref xc])) tB1 xa := (tha.kp (sb.trans (sc.trans (same_put n1))).kp)
    replace thc : ThAt Cs (upd Jc l1 (.lst [.ref xa, .ref xc])) tB2 xc := (thc.kp (same_put n1).kp)
    have e1 : (upd Jc l1 (.lst [.ref xa, .ref xc])) l1 = some (.lst [.ref xa, .ref xc]) := upd_same
    have m9 := s9.trans (sa.trans (sb.trans (sc.trans (same_put (o := .lst [.ref xa, .ref xc]) n1))))
    generalize upd Jc l1 (.lst [.ref xa, .ref xc]) = Jd at tha thc e1 m9 ⊢
    have th4d := th4'.kp m9.kp
    have th8d := th8.kp m9.kp
    have md := m8.trans m9
    have nl1 : H l1 = none := (m8.trans (s9.trans (sa.trans (sb.trans sc)))).free n1
    clear s9 sa sb sc m9 th9 thb nx9 nd9 nxa nda nxb ndb nxc ndc th4' th8 m8 n1
    refine ⟨_, rfl, .inl ⟨rfl, _, SqL.of e1⟩, fun xe de nxe nde _ => now_go2 xe de nxe nde fun Je se the => ⟨rfl, ?_⟩⟩
    refine ⟨rfl, rfl, fun xf df nxf ndf _ => look_go2 (a := true) (f := "a") (w := none) (s := false) T rfl the okB3 (by decide) xf df nxf ndf fun Jf sf thf => ⟨rfl, ?_⟩⟩
    replace thf : ThAt Cs Jf tB3 xf := thf
    have mf := se.trans sf
    refine ⟨l1, _, _, rfl, rfl, mf _ _ e1, (by show 2 < sizeLine; decide), ?_⟩
    have kf : Kp Jf (upd Jf l1 (.lst ([.ref xa, .ref xc] ++ [.ref xf]))) := kp_put (.inl ⟨_, mf _ _ e1⟩)
    have eg : (upd Jf l1 (.lst ([.ref xa, .ref xc] ++ [.ref xf]))) l1 = some (.lst [.ref xa, .ref xc, .ref xf]) := upd_same
    have tag := (tha.kp mf.kp).kp kf
    have tcg := (thc.kp mf.kp).kp kf
    have tfg := thf.kp kf
    have t4g := (th4d.kp mf.kp).kp kf
    have t8g := (th8d.kp mf.kp).kp kf
    have mg' : Same H (upd Jf l1 (.lst ([.ref xa, .ref xc] ++ [.ref xf]))) := fun c u e => by rw [upd_ne (ne_of_none e nl1)]; exact mf _ _ (md _ _ e)
    generalize upd Jf l1 (.lst ([.ref xa, .ref xc] ++ [.ref xf])) = Jg at eg tag tcg tfg t4g t8g mg' ⊢
    clear kf mf thf se sf the nxe nde nxf ndf th4d th8d md tha thc e1 nl1
    refine ⟨(by show 3 ≤ sizeLine; decide), fun l2 n2 => ?_⟩
    have s1 := same_put (o := .lst [.str "before(now, now)", .str "after(strict, now, 0)", .str "after(a, now)"]) n2
    have e2 : (upd Jg l2 (.lst [.str "before(now, now)", .str "after(strict, now, 0)", .str "after(a, now)"])) l2 = some (.lst [.str "before(now, now)", .str "after(strict, now, 0)", .str "after(a, now)"]) := upd_same
    generalize upd Jg l2 (.lst [.str "before(now, now)", .str "after(strict, now, 0)", .str "after(a, now)"]) = Jh at s1 e2 ⊢
    have eb := s1 _ _ eg
    have bt : Txs Cs 0 7 Jh [xa, xc, xf] [tB1.txt, tB2.txt, tB3.txt] := .cons (tag.kp s1.kp).tx (.cons (tcg.kp s1.kp).tx (.cons (tfg.kp s1.kp).tx .nil))
    refine ⟨_, rfl, l1, rfl, ⟨_, SqL.of eb⟩, fun D nD => lc_it (walk_list (K := K) (a := l1) (xs := [xa, xc, xf].map V.ref)) (fun i G => Same Jh G ∧ G D = some (.lst ((([tB1.txt, tB2.txt, tB3.txt] : List Str).take i).map V.str))) ⟨same_put nD, upd_same⟩ (fun _ _ _ h => SqL.of (h.1 _ _ eb)) ?_ ?_⟩
    · rintro i x Ga Gb hi ⟨sa, ea⟩ ⟨rfl, hx⟩
      obtain ⟨a, ha', rfl⟩ : ∃ a, [xa, xc, xf][i]? = some a ∧ x = V.ref a := by
        rw [List.getElem?_map] at hx
        cases e : [xa, xc, xf][i]? with
        | none => rw [e] at hx; cases hx
        | some a => rw [e] at hx; exact ⟨a, rfl, (Option.some.inj hx).symm⟩
      obtain ⟨z, hz, ta⟩ := bt.get i a ha'
      have hi2 := (List.getElem?_eq_some_iff.mp hz).1
      have hi3 : i < 3 := hi2
      refine ⟨rfl, _, rfl, a, z, 0, 7, rfl, ta.kp sa.kp, by decide, _, ea, ?_, ?_, ?_⟩
      · rw [List.length_map, List.length_take]
        omega
      · intro c u e
        rw [upd_ne (ne_of_none e nD)]
        exact sa c u e
      · rw [upd_same, List.take_add_one, hz, List.map_append]
        rfl
    · rintro Ga ⟨sa, ea⟩
      replace ea : Ga D = some (.lst [.str "before(now, now)", .str "after(strict, now, 0)", .str "after(a, now)"]) := by
        rw [← txB1, ← txB2, ← txB3]
        exact ea
      have m1 := s1.trans sa
      have eb2 := sa _ _ eb
      have hf' : ThAt Cs Ga (.look true "a" .now none false) xf := tfg.kp m1.kp
      obtain ⟨df, ff, cf, hf, cmf, kf1, kf2, kf3, kf4, _⟩ := hf'
      have dat : ∀ {l : Addr}, Ga l = some (.lst [.str "before(now, now)", .str "after(strict, now, 0)", .str "after(a, now)"]) → Dp K Ga (.ref l) (.list [.str "before(now, now)", .str "after(strict, now, 0)", .str "after(a, now)"]) := fun e => .lst (SqL.of e) (.cons (.str _) (.cons (.str _) (.cons (.str _) .nil)))
      refine ⟨_, rfl, _, _, dat ea, dat (sa _ _ e2), by decide +kernel, by decide +kernel, ?_⟩
      rw [show PyData.eqv (.list [.str "before(now, now)", .str "after(strict, now, 0)", .str "after(a, now)"]) (.list [.str "before(now, now)", .str "after(strict, now, 0)", .str "after(a, now)"]) = true by decide +kernel]
      refine ⟨_, rfl, iteF ⟨_, rfl, l1, _, 2, .ref xf, rfl, rfl, SqL.of eb2, at2 _ _ _ _, xf, _, df, ff, .bl false, rfl, hf, T.cl _ (by decide), T.na _ (by decide) _ (by decide +kernel), kf4, false, rfl, _, rfl, iteF ⟨_, rfl, l1, _, 2, .ref xf, rfl, rfl, SqL.of eb2, at2 _ _ _ _, xf, _, df, ff, .non, rfl, hf, T.cl _ (by decide), T.na _ (by decide) _ (by decide +kernel), kf3, false, rfl, iteF ?_⟩⟩⟩
      have t4a := t4g.kp m1.kp
      have t8a := t8g.kp m1.kp
      obtain ⟨d4, f4, h4, c4⟩ := t4a.node
      obtain ⟨d8, f8, h8, c8⟩ := t8a.node
      obtain ⟨pl, lkl, as, zs, ha, gt, gs, gl⟩ := c8.looks
      obtain ⟨pg, lkg, bs, ys, hb, yt, yss, yl⟩ := c8.grids
      obtain rfl := lksM gs
      obtain rfl := gdsM yss
      obtain ⟨a0, a1, rfl, ta0, ta1⟩ : ∃ a0 a1, as = [a0, a1] ∧ TxAt Cs 5 7 Ga a0 tA.txt ∧ TxAt Cs 5 7 Ga a1 tP.txt := match gt with | .cons x (.cons y .nil) => ⟨_, _, rfl, x, y⟩
      obtain ⟨g0, rfl, tg0⟩ : ∃ g0, bs = [g0] ∧ TxAt Cs 2 4 Ga g0 (Tr.floor (.shift .now (-5))).txt := match yt with | .cons x .nil => ⟨_, rfl, x⟩
      refine ⟨_, rfl, x4, tP.txt, 0, 7, rfl, t4a.tx, Nat.le_refl 7, _, rfl, x8, _, d8, f8, _, rfl, h8, T.cl _ (by decide), T.na _ (by decide) _ (by decide +kernel), c8.depth, _, rfl, x8, _, d8, f8, _, rfl, h8, T.cl _ (by decide), T.na _ (by decide) _ (by decide +kernel), lkl, pl, _, rfl, .inr (SqT.of ha), _, rfl, x8, _, d8, f8, _, rfl, h8, T.cl _ (by decide), T.na _ (by decide) _ (by decide +kernel), lkg, pg, _, 0, .ref g0, rfl, rfl, SqT.of hb, at0 _ _, g0, _, 2, 4, rfl, tg0, by decide, (by show 4 ≤ sizeLine; decide), fun l3 n3 => ?_⟩
      have e3 : (upd Ga l3 (.lst [.str tP.txt, .int (tM.dep : Int), .int (([a0, a1].map V.ref).length : Int), .str (Tr.floor (.shift .now (-5))).txt])) l3 = some (.lst [.str tP.txt, .int 6, .int 2, .str (Tr.floor (.shift .now (-5))).txt]) := upd_same
      have s3 := same_put (o := .lst [.str tP.txt, .int (tM.dep : Int), .int (([a0, a1].map V.ref).length : Int), .str (Tr.floor (.shift .now (-5))).txt]) n3
      generalize upd Ga l3 (.lst [.str tP.txt, .int (tM.dep : Int), .int (([a0, a1].map V.ref).length : Int), .str (Tr.floor (.shift .now (-5))).txt]) = Jk at e3 s3 ⊢
      have lA := lenA
      refine ⟨_, rfl, _, rfl, x8, _, d8, f8, _, rfl, s3 _ _ h8, T.cl _ (by decide), T.na _ (by decide) _ (by decide +kernel), lkl, pl, _, 0, .ref a0, rfl, rfl, SqT.of (s3 _ _ ha), at0 _ _, a0, _, 5, 7, rfl, ta0.kp s3.kp, by decide, 5, rfl, _, rfl, by omega, _, rfl, x4, _, d4, f4, _, rfl, s3 _ _ h4, T.cl _ (by decide), T.na _ (by decide) _ (by decide +kernel), c4.depth, (by show 2 ≤ sizeLine; decide), fun l4 n4 => ⟨l3, l4, _, _, rfl, rfl, (same_put n4) _ _ e3, upd_same, (by show 6 ≤ sizeLine; decide), fun l5 n5 => ⟨(by show 6 ≤ sizeLine; decide), fun l6 n6 => ?_⟩⟩⟩
      have cut : cutS tA.txt none (some 5) = Str.ofString "after" := cutA
      have eP : tP.txt = Str.ofString "before(a, floor(shift(now, -5)), 10, strict)" := txP
      have eF : (Tr.floor (.shift .now (-5))).txt = Str.ofString "floor(shift(now, -5))" := txF
      have s4 := same_put (o := .lst [V.str (cutS tA.txt none (some 5)), V.int ↑tP.dep]) n4
      have e6 : (upd (upd Jk l4 (.lst [V.str (cutS tA.txt none (some 5)), V.int ↑tP.dep])) l5 (.lst ([V.str tP.txt, V.int 6, V.int 2, V.str (Tr.floor (.shift .now (-5))).txt] ++ [V.str (cutS tA.txt none (some 5)), V.int ↑tP.dep]))) l5 = some (.lst [.str "before(a, floor(shift(now, -5)), 10, strict)", .int 6, .int 2, .str "floor(shift(now, -5))", .str "after", .int 3]) := by
        rw [cut, eP, eF]
        exact upd_same
      have s5 := s4.trans (same_put (o := .lst ([V.str tP.txt, V.int 6, V.int 2, V.str (Tr.floor (.shift .now (-5))).txt] ++ [V.str (cutS tA.txt none (some 5)), V.int ↑tP.dep])) n5)
      generalize upd (upd Jk l4 (.lst [V.str (cutS tA.txt none (some 5)), V.int ↑tP.dep])) l5 (.lst ([V.str tP.txt, V.int 6, V.int 2, V.str (Tr.floor (.shift .now (-5))).txt] ++ [V.str (cutS tA.txt none (some 5)), V.int ↑tP.dep])) = Jz at e6 s5 n6 ⊢
      have ft : Fits 80000 40 (.list [.str "before(a, floor(shift(now, -5)), 10, strict)", .int 6, .int 2, .str "floor(shift(now, -5))", .str "after", .int 3]) := Fits.up (FitsA.list (.cons (fitsStr (L := 100) (p := 1) (strOk_of _) (by decide +kernel)) (.cons (fitsInt (by decide)) (.cons (fitsInt (by decide)) (.cons (fitsStr (L := 100) (strOk_of _) (by decide +kernel)) (.cons (fitsStr (L := 100) (strOk_of _) (by decide +kernel)) (.cons (fitsInt (by decide)) .nil))))))) (by decide) (by decide)
      have dd : ∀ {l : Addr} {J : Hp}, J l = some (.lst [.str "before(a, floor(shift(now, -5)), 10, strict)", .int 6, .int 2, .str "floor(shift(now, -5))", .str "after", .int 3]) → Dp K J (.ref l) (.list [.str "before(a, floor(shift(now, -5)), 10, strict)", .int 6, .int 2, .str "floor(shift(now, -5))", .str "after", .int 3]) := fun e => .lst (SqL.of e) (.cons (.str _) (.cons (.int _) (.cons (.int _) (.cons (.str _) (.cons (.str _) (.cons (.int _) .nil))))))
      refine ⟨_, rfl, .ref l5, _, rfl, dd ((same_put n6) _ _ e6), ft, _, rfl, .ref l6, _, rfl, dd upd_same, ft, rfl, ?_⟩
      rw [decide_eq_true rfl]
      exact q _ (mg'.trans (m1.trans (s3.trans (s5.trans (same_put n6)))))
end
end K04


namespace K04
open PySem PySem.Spec PyProof.Rows L2 Rng Bag Gd Cal Tm Tr4 Own1
section
variable {P : Program} {w : World} {K : PySem.W.Frag} {mg : Str → Option Value} {base : Heap} {Cs : Nat → Addr} {CT CL : Addr} {e : Ers}
open Gd Own1

def spLaw (K : PySem.W.Frag) : Sp := fun vs H Q _ => ∃ (a : Addr) (ns : List Int), vs = [.ref a] ∧ SqL K H a (ns.map V.int) ∧ ns.length ≤ 63 ∧ ∀ H', Q (.bl true) H'
abbrev sLaw : Stmt := top 60
theorem scLaw : FnScope ["_law_script", "_law_k", "_law_source_here", "_law_turn"] ["_law_script"] (defScope sLaw) := ⟨rfl, rfl, rfl, by decide +kernel, rfl, by decide +kernel, by decide +kernel⟩

theorem c_law {fl : Addr} {fd : FuncData} (F : Fun K "law" "law" sLaw fl fd) (B : Nb mg) (cN : Cl P w K mg base CX0 1 "_law_number" ["_law_script", "_law_k"] (spNumber K)) (cS : Cl P w K mg base CX0 1 "_law_source" ["_law_cell"] spSource)
    (cR : ClG P w K mg base 25 "_law_right" ["_law_source_here"] spRight) (cH : ClG P w K mg base 9 "_law_by_hand" [] spHand) : FnG P w K mg base 26 fl fd ["_law_script"] (spLaw K) := by
  refine F.okG scLaw (fun vs H Q E h => ?_) (fun cdv A outer s H vs Q E gq hr h => ?_)
  · obtain ⟨a, ns, rfl, _⟩ := h
    rfl
  · obtain ⟨a, ns, rfl, hS, hl, q⟩ := h
    refine ⟨_, (pss_cons (ps_for PassesOwn.never rfl (pi_range1 rfl B.range (pa_cons (pe_callB (call_max2 rfl) (by rfl) B.max (by decide +kernel) (pa_cons pe_int (pa_cons (pe_callB (call_min2 rfl) (by rfl) B.min (by decide +kernel) (pa_cons (pe_callB call_len_seq (by rfl) B.len (by decide +kernel) (pa_cons (pv 0) pa_nil)) (pa_cons pe_int pa_nil))) pa_nil))) pa_nil)) (pg_name (i := 1) scLaw.nd rfl (Or.inl rfl)) (pss_cons (ps_set (i := 2) scLaw.nd rfl (Or.inr rfl) (pe_c cS (hr.mono (by decide)) rfl pass0 (pa_cons (pe_c cN (hr.mono (by decide)) rfl pass0 (pa_cons (pv 0) (pa_cons (pv 1) pa_nil))) pa_nil)))
      (pss_one (ps_if (pt_not (pt_val (pe_callB (cr_all rfl) (by rfl) B.all (by decide +kernel) (pa_cons (pe_lc (own := [("_law_turn", 3)]) (g := gName 3) (tt := tYes) rfl scLaw.nd (pi_range1 rfl B.range (pa_cons pe_int pa_nil)) (blkOk_by (own := [("_law_turn", 3)]) (N := ["_law_script", "_law_k", "_law_source_here", "_law_turn"]) (sc := defScope sLaw) (by decide +kernel)) (fun _ _ _ _ _ => pg_name (i := 3) scLaw.nd rfl (Or.inl rfl)) (fun _ _ _ _ _ => pts_nil) (fun _ _ _ _ _ => (pe_cG cR gq hr rfl (pa_cons (pv 2) pa_nil)))) pa_nil)))) (pss_one (ps_ret pe_bl)) pss_nil))))
      (pss_one (ps_ret (pe_cG0 cH gq (hr.mono (by decide)) rfl )))), ?_⟩
    refine ⟨_, rfl, a, _, rfl, .inl hS, _, _, rfl, _, _, rfl, ?_⟩
    obtain ⟨N0, eN, N1, N4⟩ : ∃ N0 : Int, (if (if (4 : Int) < ((ns.map V.int).length : Int) then (4 : Int) else ((ns.map V.int).length : Int)) > 2 then (if (4 : Int) < ((ns.map V.int).length : Int) then (4 : Int) else ((ns.map V.int).length : Int)) else 2) = N0 ∧ 0 ≤ N0 ∧ N0 ≤ 4 := by
      refine ⟨_, rfl, ?_, ?_⟩
      · split
        · omega
        · omega
      · split
        · split <;> omega
        · omega
    rw [eN]
    refine ⟨N0, rfl, by omega, by omega, for_it (walk_range (lo := 0) (n := N0.toNat)) (fun i σ H' => ∃ (x1 x2 : Option V), σ = [some (.ref a), x1, x2, none] ∧ SqL K H' a (ns.map V.int)) ⟨_, _, rfl, hS⟩ (fun _ _ _ _ _ => trivial) ?_ ?_⟩
    · rintro i x σ Hx H6 hi ⟨x1, x2, rfl, hS6⟩ ⟨rfl, rfl⟩
      refine ⟨_, rfl, _, rfl, a, ns, 0 + (i : Int), rfl, hS6, hl, by omega, by omega, fun z H7 s7 => ⟨z, rfl, fun p H8 s8 np S8 => ?_⟩⟩
      have hS7 := s7.seq hS6
      have hS8 := s8.seq hS7
      refine ⟨3, rfl, by decide, by decide, fun D nD => lc_it (walk_range (lo := 0) (n := 3)) (fun j H' => But p H8 H' ∧ Src H' p (0 + 600 * j) ∧ H' D = some (.lst ((List.replicate j true).map V.bl))) ⟨(same_put nD).but p, S8.same (same_put nD), upd_same⟩ (fun _ _ _ _ => trivial) ?_ ?_⟩
      · rintro j y Ha Hb hj ⟨B1, S1, e1⟩ ⟨rfl, rfl⟩
        have nDp : D ≠ p := S8.ne nD
        refine ⟨rfl, _, rfl, p, _, rfl, S1, by omega, fun H9 B9 S9 => ⟨_, B9 _ _ nDp e1, ?_, ?_, ?_, ?_⟩⟩
        · rw [List.length_map, List.length_replicate]
          exact small1000 (by omega)
        · intro c u nc e
          rw [upd_ne (ne_of_none e nD)]
          exact B9 c u nc (B1 c u nc e)
        · obtain ⟨A0, B0, t0, e0, r⟩ := S9.mono (c := 0 + 600 * (j + 1)) (by omega)
          exact ⟨A0, B0, t0, by rw [upd_ne nDp.symm]; exact e0, r⟩
        · rw [upd_same, List.replicate_succ', List.map_append]
          rfl
      · rintro H9 ⟨B9, S9, e9⟩
        refine ⟨D, _, rfl, SqL.of e9, true, rfl, ?_⟩
        show if (!true) = true then _ else _
        refine iteF ⟨_, _, rfl, ?_⟩
        rcases hS7 with (h | ⟨o, h⟩) | h
        · exact .inl (.inl (B9 _ _ (fun z => by rw [z, np] at h; cases h) (s8 _ _ h)))
        · exact .inl (.inr ⟨o, B9 _ _ (fun z => by rw [z, np] at h; cases h) (s8 _ _ h)⟩)
        · exact .inr h
    · rintro σ H6 ⟨x1, x2, rfl, hS6⟩
      exact ⟨rfl, fun H' _ => q H'⟩
end
end K04


/-! the end of a law whose defs make lambdas: their tables are empty ahead, grown behind -/
namespace HdX
open PySem PySem.Spec PyProof.Rows L2 LamX Gd
/-- what stands ahead of the law's call: the script at a, the tables of ts -/
structure Ahead (K : PySem.W.Frag) (h : Heap) (a : Addr) (us : List Value) (ts : List (Addr × Addr)) : Prop where
  script : h.get? a = some { cls := .type "list", data := .seq us.toArray }
  empty : ∀ t ∈ ts, h.get? t.2 = some { cls := .none, data := .fields #[] }
  free : ∀ t ∈ ts, K.lookup t.2 = none
  code : ∀ t ∈ ts, PySem.W.CodeHd h t.1 t.2
section
variable {P : Program} {w : World} {K : PySem.W.Frag} {mg mb : Str → Option Value} {k : Nat} {fa a : Addr} {fd : FuncData} {x : Str} {sp : Sp} {s : Shared} {us : List Value} {ns : List Int} {ts : List (Addr × Addr)}
theorem Ahead.off (D : Ahead K s.heap a us ts) {b : Addr} (hb : b ∈ ts.map (·.2)) : s.heap.get? b = some { cls := .none, data := .fields #[] } ∧ K.lookup b = none ∧ ∃ c, PySem.W.CodeHd s.heap c b := by
  obtain ⟨t, ht, rfl⟩ := List.mem_map.mp hb
  exact ⟨D.empty t ht, D.free t ht, t.1, D.code t ht⟩
theorem Ahead.ne (D : Ahead K s.heap a us ts) : a ∉ ts.map (·.2) := fun m => by
  have e := (D.off m).1
  rw [D.script] at e
  have z : Data.seq us.toArray _ = Data.fields #[] := congrArg Obj.data (Option.some.inj e)
  cases z
/-- tracked: the script (locked) unless it is written, the tables -/
theorem call_tabs (KX : K.In s.heap) (hg : s.heap.Ns mainGlobals mg) (hb : s.heap.Ns builtinsNs mb) (hbb : ∀ x : Str, x ≠ "__name__" → mb x = bootBuiltins x) (hlim : s.heap.NoLimit) (g0 : s.gens = #[]) (D : Ahead K s.heap a us ts)
    (main : ∃ (bm : Addr) (o : Obj), mg "__builtins__" = some (.ref bm) ∧ bm ≠ builtinsNs ∧ s.heap.get? bm = some o ∧ o.cls = .type "module" ∧ o.dict = some builtinsNs ∧ o.data = .plain)
    (hi : IntsAre us ns) (hl : ns.length ≤ sizeLine) (hr : Room k callerA) (F : ∀ base : Heap, K.In base → base.Ns mainGlobals mg → (∀ t ∈ ts, TabB base mg t.1 t.2) → FnG P w K mg base k fa fd [x] sp) (bind : ∀ (s : Shared) (u : Value), BindsTo s fd ⟨[u], []⟩ [(x, u)])
    (hsp : ∀ H : Hp, (∀ t ∈ ts, H t.2 = some (.tbl #[])) → SqL K H a (ns.map V.int) → sp [.ref a] H (fun v _ => v = .bl true) fun _ _ _ => False) :
    codeAny (model P w) callerA (.call (.ref fa) ⟨[.ref a], []⟩) (fun r z => r = .ok (.ret (.bool true)) ∧ OldK s.heap z.heap ∧ z.os = s.os ∧ AllBare z.gens) s := by
  have rv := vals_ints hi
  have ha := D.script
  have run : ∀ H : Hp, (∀ b u, H b = some u → (b = a ∧ ∃ o xs, u = .frz o (.lst xs)) ∨ (b ∈ ts.map (·.2) ∧ u = .tbl #[])) → (∀ t ∈ ts, H t.2 = some (.tbl #[])) → (H a ≠ none → K.lookup a = none) → SqL K H a (ns.map V.int) → HOk P w H s.heap →
      codeAny (model P w) callerA (.call (.ref fa) ⟨[.ref a], []⟩) (fun r z => r = .ok (.ret (.bool true)) ∧ OldK s.heap z.heap ∧ z.os = s.os ∧ AllBare z.gens) s := by
    intro H only tabs hK hS hok
    have keep : ∀ {b : Addr} {o : Obj}, s.heap.get? b = some o → H b = none → (hidT s.heap H).get? b = some o := fun e n => hidT_get e n
    have off : ∀ {b : Addr} {o : Obj}, s.heap.get? b = some o → (∀ vs n, o.data ≠ .seq vs n) → o.data ≠ .fields #[] → H b = none := fun {b o} e n1 n2 => by
      cases q : H b with
      | none => rfl
      | some u =>
        rcases only b u q with ⟨rfl, _⟩ | ⟨m, _⟩
        · rw [ha] at e
          cases e
          exact (n1 _ _ rfl).elim
        · rw [(D.off m).1] at e
          cases e
          exact (n2 rfl).elim
    have dicts : ∀ {b : Addr} {m : Str → Option Value}, s.heap.Ns b m → (hidT s.heap H).Ns b m := fun {b m} ⟨o, es, ep, e, d, r⟩ => ⟨o, es, ep, keep e (off e (fun _ _ z => by rw [d] at z; cases z) fun z => by rw [d] at z; cases z), d, r⟩
    have KB : K.In (hidT s.heap H) := fun b o e => keep (KX b o e) (by
      cases q : H b with
      | none => rfl
      | some u =>
        rcases only b u q with ⟨rfl, _⟩ | ⟨m, _⟩
        · rw [hK (by rw [q]; exact fun z => nomatch z)] at e
          cases e
        · rw [(D.off m).2.1] at e
          cases e)
    have M : L2.Mod K mg (hidT s.heap H) := ⟨KB, dicts hg, ⟨mb, dicts hb, hbb⟩, let ⟨mc, h1, h2⟩ := hlim; ⟨mc, dicts h1, h2⟩⟩
    have TB : ∀ t ∈ ts, TabB (hidT s.heap H) mg t.1 t.2 := fun t ht => by
      refine ⟨?_, ?_, fun z => ?_⟩
      · obtain ⟨o, vs, file, tf, flags, tg, inF, text, tt, e, r⟩ := D.code t ht
        obtain ⟨r1, r2, r3, r4⟩ := r
        refine ⟨o, vs, file, tf, flags, tg, inF, text, tt, keep e (off e (fun _ _ z => by rw [r2] at z; cases z) fun z => ?_), r1, r2, r3, r4⟩
        rw [r2] at z
        cases z
        simp at r3
      · obtain ⟨bm, o, b1, b2, b3, b4, b5, b6⟩ := main
        have n1 : bm ≠ mainGlobals := fun z => by
          obtain ⟨o', _, _, e, d, _⟩ := hg
          rw [z, e] at b3
          cases b3
          rw [d] at b6
          cases b6
        have n2 : bm ≠ t.2 := fun z => by
          rw [z, D.empty t ht] at b3
          cases b3
          cases b6
        exact ⟨bm, o, b1, b2, n1, n2, keep b3 (off b3 (fun _ _ z => by rw [b6] at z; cases z) fun z => by rw [b6] at z; cases z), b4, b5, b6⟩
      · obtain ⟨o, _, _, e, d, _⟩ := hg
        rw [z, D.empty t ht] at e
        cases e
        cases d
    have e0 : Env0 P w K mg (hidT s.heap H) callerA [] s H := ⟨rfl, M, fun b o e => of_hidT e, Nat.le_of_eq (hidT_size _ _), trivial, fun b hb => (List.not_mem_nil hb).elim, hok, .of_eq g0⟩
    refine codeAny_mono ((F _ KB (dicts hg) TB).run callerA [] s H ⟨[.ref a], []⟩ [.ref a] [.ref a] _ _ rfl hr e0 (bind s (.ref a)) (.cons rfl .nil) (hsp H tabs hS)) fun r z hz => ?_
    cases r with
    | error e => exact False.elim hz
    | ok fl =>
      cases fl with
      | next => exact False.elim hz
      | brk => exact False.elim hz
      | cont => exact False.elim hz
      | ret u =>
        obtain ⟨v, H', os, bare, un, hok', ru, q⟩ := hz
        obtain rfl : v = .bl true := q
        obtain rfl : u = Value.bool true := ru
        have same : ∀ b o, b ∉ ts.map (·.2) → s.heap.get? b = some o → z.heap.get? b = some o := fun b o nb e => by
          cases q : H b with
          | none => exact un.keep b o e q (fun m => List.not_mem_nil m) (by simp)
          | some u =>
            rcases only b u q with ⟨_, ob, xs, rfl⟩ | ⟨m, _⟩
            · have e1 := (hok b _ q).1
              have e2 := (hok' b _ (un.frzs b ob _ q)).1
              rw [e] at e1
              cases e1
              exact e2
            · exact absurd m nb
        have grown : ∀ t ∈ ts, ∃ more : Array Value, z.heap.get? t.2 = some { cls := .none, data := .fields more } := fun t ht => by
          obtain ⟨more, m⟩ := un.tbls t.2 #[] (tabs t ht)
          exact ⟨_, hok' t.2 _ m⟩
        refine ⟨rfl, ⟨fun b o e => ?_, fun b o e => ?_⟩, os, bare⟩
        · by_cases m : b ∈ ts.map (·.2)
          · obtain ⟨t, ht, rfl⟩ := List.mem_map.mp m
            obtain ⟨more, hm⟩ := grown t ht
            rw [D.empty t ht] at e
            cases e
            exact .inr (.inl ⟨((D.code t ht).tab (D.empty t ht)).isCodeTable, rfl, #[], more, rfl, by rw [Array.empty_append]; exact hm⟩)
          · exact .inl (same b o m e)
        · by_cases m : b ∈ ts.map (·.2)
          · obtain ⟨t, ht, rfl⟩ := List.mem_map.mp m
            obtain ⟨more, hm⟩ := grown t ht
            exact ⟨_, hm⟩
          · exact ⟨o, same b o m e⟩
  have ln : (ns.map V.int).length ≤ sizeLine := by rw [List.length_map]; exact hl
  have inT : ∀ t ∈ ts, t.2 ∈ ts.map (·.2) := fun t ht => List.mem_map.mpr ⟨t, ht, rfl⟩
  -- only the tables
  let T0 : Hp := fun b => if b ∈ ts.map (·.2) then some (.tbl #[]) else none
  have t0 : ∀ b u, T0 b = some u → b ∈ ts.map (·.2) ∧ u = .tbl #[] := fun b u e => by
    by_cases m : b ∈ ts.map (·.2)
    · have z := (if_pos m).symm.trans e
      cases z
      exact ⟨m, rfl⟩
    · have z := (if_neg m).symm.trans e
      cases z
  have t1 : ∀ t ∈ ts, T0 t.2 = some (.tbl #[]) := fun t ht => if_pos (inT t ht)
  have t2 : T0 a = none := if_neg D.ne
  cases hk : K.lookup a with
  | some o =>
    have e := KX a o hk
    rw [ha] at e
    cases e
    refine run T0 (fun b u z => .inr (t0 b u z)) t1 (fun z => absurd t2 z) (.inr ⟨_, us.toArray, _, hk, rfl, rfl, rfl, by rw [List.size_toArray, hi.length]; exact hl, by simpa using rv⟩) fun b u z => ?_
    obtain ⟨m, rfl⟩ := t0 b u z
    exact (D.off m).1
  | none =>
    have at_ : ∀ b, b ≠ a → upd T0 a (.frz { cls := .type "list", data := .seq us.toArray } (.lst (ns.map V.int))) b = T0 b := fun b n => upd_ne n
    refine run (upd T0 a (.frz { cls := .type "list", data := .seq us.toArray } (.lst (ns.map V.int)))) (fun b u z => ?_) (fun t ht => ?_) (fun _ => hk) (.inl (.inr ⟨_, upd_same⟩)) fun b u z => ?_
    · by_cases c : b = a
      · rw [c, upd_same] at z
        cases z
        exact .inl ⟨c, _, _, rfl⟩
      · rw [at_ b c] at z
        exact .inr (t0 b u z)
    · rw [at_ _ fun z => D.ne (z ▸ inT t ht)]
      exact t1 t ht
    · by_cases c : b = a
      · rw [c, upd_same] at z
        cases z
        rw [c]
        exact ⟨ha, ln, us, _, rv, ha⟩
      · rw [at_ b c] at z
        obtain ⟨m, rfl⟩ := t0 b u z
        exact (D.off m).1
end
/-- what the law's text says at the head's heap h -/
structure LawK (l : PySem.W.OpenLaw) (w : World) (K : PySem.W.Frag) (k n : Nat) (x : Str) (mg : Str → Option Value) (fa : Addr) (h : Heap) (sp : Sp) (fd : FuncData) (ts : List (Addr × Addr)) : Prop where
  empty : ∀ t ∈ ts, h.get? t.2 = some { cls := .none, data := .fields #[] }
  code : ∀ t ∈ ts, PySem.W.CodeHd h t.1 t.2
  free : ∀ t ∈ ts, K.lookup t.2 = none
  bind : ∀ (s : Shared) (u : Value), BindsTo s fd ⟨[u], []⟩ [(x, u)]
  ask : ∀ (H : Hp) (a : Addr) (ns : List Int), ns.length ≤ n → (∀ t ∈ ts, H t.2 = some (.tbl #[])) → SqL K H a (ns.map V.int) → sp [.ref a] H (fun v _ => v = .bl true) fun _ _ _ => False
  run : ∀ base : Heap, K.In base → base.Ns mainGlobals mg → (∀ t ∈ ts, TabB base mg t.1 t.2) → FnG l.prog w K mg base k fa fd [x] sp
/-- the end of a law over a head by facts -/
theorem walk_tabsK {l : PySem.W.OpenLaw} {n k : Nat} {q : Program} {loose : List Str} {XP : (Str → Option Value) → Heap → Prop} {YP : World → Heap → Prop} {d : DefRec} {x : Str} (hn : l.most = some n) (hn2 : n ≤ sizeLine) (hdf : d.params.defaults = []) (hr : Room k callerA)
    (F : ∀ (w : World) (mg : Str → Option Value) (fa : Addr) (h : Heap), YP w h → h.Ns mainGlobals mg → mg d.name = some (.ref fa) → ∃ (K : PySem.W.Frag) (sp : Sp) (fd : FuncData) (ts : List (Addr × Addr)), K.In h ∧ LawK l w K k n x mg fa h sp fd ts) :
    PySem.W.WalkO q loose XP YP l.row.toRowW d [] (fun f vs => PySem.call f vs) := by
  refine Att.attach_call hn hdf fun w s₀ s₁ mg mb fa o pm cd doc a vs ns G Y ho hd hcd hmg hobj hints hlen hg => ?_
  obtain ⟨K, sp, fd, ts, KX, L⟩ := F w mg fa _ Y G.T.g hmg
  have D : Ahead K s₁.heap a vs ts := { script := hobj, empty := L.empty, free := L.free, code := L.code }
  exact call_tabs KX G.T.g G.T.b G.T.builtins G.T.nolimit hg D G.T.bmain hints (Nat.le_trans hlen hn2) hr L.run L.bind fun H tabs hS => L.ask H a ns hlen tabs hS
end HdX


namespace K04
open PySem PySem.Spec PyProof.Rows L2 Rng Bag Gd Cal Tm Tr4 Own1 He HdX
theorem all7 {p : Nat → Prop} (h0 : p 0) (h1 : p 1) (h2 : p 2) (h3 : p 3) (h4 : p 4) (h5 : p 5) (h6 : p 6) : ∀ i, i < 7 → p i
  | 0, _ => h0
  | 1, _ => h1
  | 2, _ => h2
  | 3, _ => h3
  | 4, _ => h4
  | 5, _ => h5
  | 6, _ => h6
theorem all10 {p : Str → Prop} (h0 : p "text") (h1 : p "depth") (h2 : p "looks") (h3 : p "grid_times") (h4 : p "time") (h5 : p "by") (h6 : p "look") (h7 : p "feed") (h8 : p "within") (h9 : p "strict") : ∀ f ∈ fnames, p f := fun f hf => by
  simp only [fnames, List.mem_cons, List.not_mem_nil, or_false] at hf
  rcases hf with rfl | rfl | rfl | rfl | rfl | rfl | rfl | rfl | rfl | rfl <;> assumption
def CsK (K : PySem.W.Frag) (i : Nat) : Addr := ([ga K "Now", ga K "Shift", ga K "Floor", ga K "Ceil", ga K "RowTime", ga K "Before", ga K "After"] : List Addr).getD i 0
def erK (K : PySem.W.Frag) : Ers := ⟨ga K "InvalidName", ga K "InvalidNumber", ga K "InvalidWithin", ga K "InvalidStrict", ga K "NotATime", ga K "NotALook", ga K "TooMany"⟩
section
variable {P : Program} {w : World} {K : PySem.W.Frag} {h : Heap} {mg : Str → Option Value}
theorem ex_all (e : ex K = true) : (ex0 K).all id = true ∧ (ex1 K).all id = true ∧ (ex2 K).all id = true ∧ (ex3 K).all id = true ∧ (ex4 K).all id = true ∧ (ex5 K).all id = true ∧ (ex6 K).all id = true ∧ (ex7 K).all id = true ∧ (ex8 K).all id = true ∧ (ex9 K).all id = true ∧ (ex10 K).all id = true ∧ (ex11 K).all id = true ∧ (ex12 K).all id = true ∧ (ex13 K).all id = true ∧ (ex14 K).all id = true ∧ (ex15 K).all id = true := by
  unfold ex at e
  simp only [Bool.and_eq_true] at e
  obtain ⟨⟨⟨⟨⟨⟨⟨⟨⟨⟨⟨⟨⟨⟨⟨h0, h1⟩, h2⟩, h3⟩, h4⟩, h5⟩, h6⟩, h7⟩, h8⟩, h9⟩, h10⟩, h11⟩, h12⟩, h13⟩, h14⟩, h15⟩ := e
  exact ⟨h0, h1, h2, h3, h4, h5, h6, h7, h8, h9, h10, h11, h12, h13, h14, h15⟩
theorem tmK (X : K.In h) (G : h.Ns mainGlobals mg) (c : SaysK fn tf exA h K) : TmK K (CsK K) (ga K "Time") (ga K "Look") := by
  obtain ⟨h0, h1, h2, h3, h4, h5, h6, h7, h8, h9, h10, h11, h12, h13, h14, h15⟩ := ex_all (exA_ex c.more)
  have kt : ∀ i, i < 7 → ∀ j, j < 7 → PySem.W.kitOne K (.ref (CsK K i)) (.ref (CsK K j)) = some (decide (i = j)) := all7 (all7 (of_decide_eq_true (allAt h6 29 rfl)) (of_decide_eq_true (allAt h7 0 rfl)) (of_decide_eq_true (allAt h7 1 rfl)) (of_decide_eq_true (allAt h7 2 rfl)) (of_decide_eq_true (allAt h7 3 rfl)) (of_decide_eq_true (allAt h7 4 rfl)) (of_decide_eq_true (allAt h7 5 rfl))) (all7 (of_decide_eq_true (allAt h7 24 rfl)) (of_decide_eq_true (allAt h7 25 rfl)) (of_decide_eq_true (allAt h7 26 rfl)) (of_decide_eq_true (allAt h7 27 rfl)) (of_decide_eq_true (allAt h7 28 rfl)) (of_decide_eq_true (allAt h7 29 rfl)) (of_decide_eq_true (allAt h8 0 rfl))) (all7 (of_decide_eq_true (allAt h8 19 rfl)) (of_decide_eq_true (allAt h8 20 rfl)) (of_decide_eq_true (allAt h8 21 rfl)) (of_decide_eq_true (allAt h8 22 rfl)) (of_decide_eq_true (allAt h8 23 rfl)) (of_decide_eq_true (allAt h8 24 rfl)) (of_decide_eq_true (allAt h8 25 rfl))) (all7 (of_decide_eq_true (allAt h9 14 rfl)) (of_decide_eq_true (allAt h9 15 rfl)) (of_decide_eq_true (allAt h9 16 rfl)) (of_decide_eq_true (allAt h9 17 rfl)) (of_decide_eq_true (allAt h9 18 rfl)) (of_decide_eq_true (allAt h9 19 rfl)) (of_decide_eq_true (allAt h9 20 rfl))) (all7 (of_decide_eq_true (allAt h10 9 rfl)) (of_decide_eq_true (allAt h10 10 rfl)) (of_decide_eq_true (allAt h10 11 rfl)) (of_decide_eq_true (allAt h10 12 rfl)) (of_decide_eq_true (allAt h10 13 rfl)) (of_decide_eq_true (allAt h10 14 rfl)) (of_decide_eq_true (allAt h10 15 rfl))) (all7 (of_decide_eq_true (allAt h11 4 rfl)) (of_decide_eq_true (allAt h11 5 rfl)) (of_decide_eq_true (allAt h11 6 rfl)) (of_decide_eq_true (allAt h11 7 rfl)) (of_decide_eq_true (allAt h11 8 rfl)) (of_decide_eq_true (allAt h11 9 rfl)) (of_decide_eq_true (allAt h11 10 rfl))) (all7 (of_decide_eq_true (allAt h11 29 rfl)) (of_decide_eq_true (allAt h12 0 rfl)) (of_decide_eq_true (allAt h12 1 rfl)) (of_decide_eq_true (allAt h12 2 rfl)) (of_decide_eq_true (allAt h12 3 rfl)) (of_decide_eq_true (allAt h12 4 rfl)) (of_decide_eq_true (allAt h12 5 rfl)))
  refine ⟨all7 (cls_ok (allAt h2 11 rfl)) (cls_ok (allAt h2 29 rfl)) (cls_ok (allAt h3 16 rfl)) (cls_ok (allAt h4 3 rfl)) (cls_ok (allAt h4 20 rfl)) (cls_ok (allAt h5 8 rfl)) (cls_ok (allAt h5 25 rfl)), all7 (all10 (noat_ok (allAt h2 13 rfl)) (noat_ok (allAt h2 14 rfl)) (noat_ok (allAt h2 15 rfl)) (noat_ok (allAt h2 16 rfl)) (noat_ok (allAt h2 17 rfl)) (noat_ok (allAt h2 18 rfl)) (noat_ok (allAt h2 19 rfl)) (noat_ok (allAt h2 20 rfl)) (noat_ok (allAt h2 21 rfl)) (noat_ok (allAt h2 22 rfl))) (all10 (noat_ok (allAt h3 1 rfl)) (noat_ok (allAt h3 2 rfl)) (noat_ok (allAt h3 3 rfl)) (noat_ok (allAt h3 4 rfl)) (noat_ok (allAt h3 5 rfl)) (noat_ok (allAt h3 6 rfl)) (noat_ok (allAt h3 7 rfl)) (noat_ok (allAt h3 8 rfl)) (noat_ok (allAt h3 9 rfl)) (noat_ok (allAt h3 10 rfl))) (all10 (noat_ok (allAt h3 18 rfl)) (noat_ok (allAt h3 19 rfl)) (noat_ok (allAt h3 20 rfl)) (noat_ok (allAt h3 21 rfl)) (noat_ok (allAt h3 22 rfl)) (noat_ok (allAt h3 23 rfl)) (noat_ok (allAt h3 24 rfl)) (noat_ok (allAt h3 25 rfl)) (noat_ok (allAt h3 26 rfl)) (noat_ok (allAt h3 27 rfl))) (all10 (noat_ok (allAt h4 5 rfl)) (noat_ok (allAt h4 6 rfl)) (noat_ok (allAt h4 7 rfl)) (noat_ok (allAt h4 8 rfl)) (noat_ok (allAt h4 9 rfl)) (noat_ok (allAt h4 10 rfl)) (noat_ok (allAt h4 11 rfl)) (noat_ok (allAt h4 12 rfl)) (noat_ok (allAt h4 13 rfl)) (noat_ok (allAt h4 14 rfl))) (all10 (noat_ok (allAt h4 22 rfl)) (noat_ok (allAt h4 23 rfl)) (noat_ok (allAt h4 24 rfl)) (noat_ok (allAt h4 25 rfl)) (noat_ok (allAt h4 26 rfl)) (noat_ok (allAt h4 27 rfl)) (noat_ok (allAt h4 28 rfl)) (noat_ok (allAt h4 29 rfl)) (noat_ok (allAt h5 0 rfl)) (noat_ok (allAt h5 1 rfl))) (all10 (noat_ok (allAt h5 10 rfl)) (noat_ok (allAt h5 11 rfl)) (noat_ok (allAt h5 12 rfl)) (noat_ok (allAt h5 13 rfl)) (noat_ok (allAt h5 14 rfl)) (noat_ok (allAt h5 15 rfl)) (noat_ok (allAt h5 16 rfl)) (noat_ok (allAt h5 17 rfl)) (noat_ok (allAt h5 18 rfl)) (noat_ok (allAt h5 19 rfl))) (all10 (noat_ok (allAt h5 27 rfl)) (noat_ok (allAt h5 28 rfl)) (noat_ok (allAt h5 29 rfl)) (noat_ok (allAt h6 0 rfl)) (noat_ok (allAt h6 1 rfl)) (noat_ok (allAt h6 2 rfl)) (noat_ok (allAt h6 3 rfl)) (noat_ok (allAt h6 4 rfl)) (noat_ok (allAt h6 5 rfl)) (noat_ok (allAt h6 6 rfl))), kt, all7 (of_decide_eq_true (allAt h7 6 rfl)) (of_decide_eq_true (allAt h8 1 rfl)) (of_decide_eq_true (allAt h8 26 rfl)) (of_decide_eq_true (allAt h9 21 rfl)) (of_decide_eq_true (allAt h10 16 rfl)) (of_decide_eq_true (allAt h11 11 rfl)) (of_decide_eq_true (allAt h12 6 rfl)), all7 (of_decide_eq_true (allAt h7 7 rfl)) (of_decide_eq_true (allAt h8 2 rfl)) (of_decide_eq_true (allAt h8 27 rfl)) (of_decide_eq_true (allAt h9 22 rfl)) (of_decide_eq_true (allAt h10 17 rfl)) (of_decide_eq_true (allAt h11 12 rfl)) (of_decide_eq_true (allAt h12 7 rfl)), all7 (all7 ((allAt h7 8 rfl)) ((allAt h7 9 rfl)) ((allAt h7 10 rfl)) ((allAt h7 11 rfl)) ((allAt h7 12 rfl)) ((allAt h7 13 rfl)) ((allAt h7 14 rfl))) (all7 ((allAt h8 3 rfl)) ((allAt h8 4 rfl)) ((allAt h8 5 rfl)) ((allAt h8 6 rfl)) ((allAt h8 7 rfl)) ((allAt h8 8 rfl)) ((allAt h8 9 rfl))) (all7 ((allAt h8 28 rfl)) ((allAt h8 29 rfl)) ((allAt h9 0 rfl)) ((allAt h9 1 rfl)) ((allAt h9 2 rfl)) ((allAt h9 3 rfl)) ((allAt h9 4 rfl))) (all7 ((allAt h9 23 rfl)) ((allAt h9 24 rfl)) ((allAt h9 25 rfl)) ((allAt h9 26 rfl)) ((allAt h9 27 rfl)) ((allAt h9 28 rfl)) ((allAt h9 29 rfl))) (all7 ((allAt h10 18 rfl)) ((allAt h10 19 rfl)) ((allAt h10 20 rfl)) ((allAt h10 21 rfl)) ((allAt h10 22 rfl)) ((allAt h10 23 rfl)) ((allAt h10 24 rfl))) (all7 ((allAt h11 13 rfl)) ((allAt h11 14 rfl)) ((allAt h11 15 rfl)) ((allAt h11 16 rfl)) ((allAt h11 17 rfl)) ((allAt h11 18 rfl)) ((allAt h11 19 rfl))) (all7 ((allAt h12 8 rfl)) ((allAt h12 9 rfl)) ((allAt h12 10 rfl)) ((allAt h12 11 rfl)) ((allAt h12 12 rfl)) ((allAt h12 13 rfl)) ((allAt h12 14 rfl))), all7 (⟨eqO_ok (allAt h7 22 rfl), eqO_ok (allAt h12 26 rfl), of_decide_eq_true (allAt h12 27 rfl), of_decide_eq_true (allAt h7 23 rfl)⟩) (⟨eqO_ok (allAt h8 17 rfl), eqO_ok (allAt h12 26 rfl), of_decide_eq_true (allAt h12 27 rfl), of_decide_eq_true (allAt h8 18 rfl)⟩) (⟨eqO_ok (allAt h9 12 rfl), eqO_ok (allAt h12 26 rfl), of_decide_eq_true (allAt h12 27 rfl), of_decide_eq_true (allAt h9 13 rfl)⟩) (⟨eqO_ok (allAt h10 7 rfl), eqO_ok (allAt h12 26 rfl), of_decide_eq_true (allAt h12 27 rfl), of_decide_eq_true (allAt h10 8 rfl)⟩) (⟨eqO_ok (allAt h11 2 rfl), eqO_ok (allAt h12 26 rfl), of_decide_eq_true (allAt h12 27 rfl), of_decide_eq_true (allAt h11 3 rfl)⟩) (⟨eqO_ok (allAt h11 27 rfl), eqO_ok (allAt h12 26 rfl), of_decide_eq_true (allAt h12 27 rfl), of_decide_eq_true (allAt h11 28 rfl)⟩) (⟨eqO_ok (allAt h12 22 rfl), eqO_ok (allAt h12 26 rfl), of_decide_eq_true (allAt h12 27 rfl), of_decide_eq_true (allAt h12 23 rfl)⟩), fun i hi j hj e => ?_⟩
  have a := kt i hi j hj
  have b := kt j hj j hj
  rw [e, b] at a
  have z := Option.some.inj a
  rw [decide_eq_true rfl] at z
  exact of_decide_eq_true z.symm
theorem nbK (X : K.In h) (G : h.Ns mainGlobals mg) (c : SaysK fn tf exA h K) : Nb mg := by
  obtain ⟨h0, h1, h2, h3, h4, h5, h6, h7, h8, h9, h10, h11, h12, h13, h14, h15⟩ := ex_all (exA_ex c.more)
  exact { len := free_ok X G (allAt h6 11 rfl), int := free_ok X G (allAt h6 12 rfl), abs := free_ok X G (allAt h6 13 rfl), range := free_ok X G (allAt h6 14 rfl), str := free_ok X G (allAt h6 15 rfl), bool := free_ok X G (allAt h6 16 rfl), all := free_ok X G (allAt h6 17 rfl), tuple := free_ok X G (allAt h6 18 rfl), list := free_ok X G (allAt h6 19 rfl), isinstance := free_ok X G (allAt h6 20 rfl), repr := free_ok X G (allAt h6 21 rfl), sorted := free_ok X G (allAt h6 22 rfl), set := free_ok X G (allAt h6 23 rfl), max := free_ok X G (allAt h6 24 rfl), min := free_ok X G (allAt h6 25 rfl) }
theorem glK (X : K.In h) (G : h.Ns mainGlobals mg) (c : SaysK fn tf exA h K) : GlT mg (ga K "Time") (ga K "Look") := by
  obtain ⟨h0, h1, h2, h3, h4, h5, h6, h7, h8, h9, h10, h11, h12, h13, h14, h15⟩ := ex_all (exA_ex c.more)
  exact ⟨int_ok X G (allAt h6 26 rfl), int_ok X G (allAt h6 27 rfl), glo_ok X G (allAt h12 24 rfl), glo_ok X G (allAt h12 25 rfl)⟩
theorem er_InvalidName (X : K.In h) (G : h.Ns mainGlobals mg) (c : SaysK fn tf exA h K) : ErrV K (ga K "InvalidName") := by
  obtain ⟨h0, h1, h2, h3, h4, h5, h6, h7, h8, h9, h10, h11, h12, h13, h14, h15⟩ := ex_all (exA_ex c.more)
  obtain ⟨oc, kV, dc, pm, cd, ct, od, an, sl, l, cc⟩ := fnA_ok (c.defs ⟨mA "InvalidName" "__init__", "__init__", "InvalidName.__init__", inClass (htop 4) 0⟩ (List.mem_of_getElem? (i := 65) rfl)).1 (c.defs ⟨mA "InvalidName" "__init__", "__init__", "InvalidName.__init__", inClass (htop 4) 0⟩ (List.mem_of_getElem? (i := 65) rfl)).2
  obtain rfl := kv_of l (allAt h13 6 rfl)
  have m := meth_ok (allAt h13 5 rfl)
  exact ⟨⟨_, _, _, _, _, _, _, ⟨PySem.F.excBase_ValueError, PySem.F.store_ValueError, lkx_of (allAt h13 0 rfl), (allAt h12 29 rfl), rfl⟩, ⟨eqO_ok (allAt h13 3 rfl), eqO_ok (allAt h13 4 rfl), m.at_, beq_iff_eq.mp m.fn⟩, ⟨oc, od, dc, pm, an, cd, ct, sl, _, _, _, _, _, _, l, cc⟩⟩, of_decide_eq_true (allAt h13 1 rfl), of_decide_eq_true (allAt h13 2 rfl)⟩
theorem er_InvalidNumber (X : K.In h) (G : h.Ns mainGlobals mg) (c : SaysK fn tf exA h K) : ErrV K (ga K "InvalidNumber") := by
  obtain ⟨h0, h1, h2, h3, h4, h5, h6, h7, h8, h9, h10, h11, h12, h13, h14, h15⟩ := ex_all (exA_ex c.more)
  obtain ⟨oc, kV, dc, pm, cd, ct, od, an, sl, l, cc⟩ := fnA_ok (c.defs ⟨mA "InvalidNumber" "__init__", "__init__", "InvalidNumber.__init__", inClass (htop 5) 0⟩ (List.mem_of_getElem? (i := 66) rfl)).1 (c.defs ⟨mA "InvalidNumber" "__init__", "__init__", "InvalidNumber.__init__", inClass (htop 5) 0⟩ (List.mem_of_getElem? (i := 66) rfl)).2
  obtain rfl := kv_of l (allAt h13 15 rfl)
  have m := meth_ok (allAt h13 14 rfl)
  exact ⟨⟨_, _, _, _, _, _, _, ⟨PySem.F.excBase_ValueError, PySem.F.store_ValueError, lkx_of (allAt h13 9 rfl), (allAt h13 8 rfl), rfl⟩, ⟨eqO_ok (allAt h13 12 rfl), eqO_ok (allAt h13 13 rfl), m.at_, beq_iff_eq.mp m.fn⟩, ⟨oc, od, dc, pm, an, cd, ct, sl, _, _, _, _, _, _, l, cc⟩⟩, of_decide_eq_true (allAt h13 10 rfl), of_decide_eq_true (allAt h13 11 rfl)⟩
theorem er_InvalidWithin (X : K.In h) (G : h.Ns mainGlobals mg) (c : SaysK fn tf exA h K) : ErrV K (ga K "InvalidWithin") := by
  obtain ⟨h0, h1, h2, h3, h4, h5, h6, h7, h8, h9, h10, h11, h12, h13, h14, h15⟩ := ex_all (exA_ex c.more)
  obtain ⟨oc, kV, dc, pm, cd, ct, od, an, sl, l, cc⟩ := fnA_ok (c.defs ⟨mA "InvalidWithin" "__init__", "__init__", "InvalidWithin.__init__", inClass (htop 6) 0⟩ (List.mem_of_getElem? (i := 67) rfl)).1 (c.defs ⟨mA "InvalidWithin" "__init__", "__init__", "InvalidWithin.__init__", inClass (htop 6) 0⟩ (List.mem_of_getElem? (i := 67) rfl)).2
  obtain rfl := kv_of l (allAt h13 24 rfl)
  have m := meth_ok (allAt h13 23 rfl)
  exact ⟨⟨_, _, _, _, _, _, _, ⟨PySem.F.excBase_ValueError, PySem.F.store_ValueError, lkx_of (allAt h13 18 rfl), (allAt h13 17 rfl), rfl⟩, ⟨eqO_ok (allAt h13 21 rfl), eqO_ok (allAt h13 22 rfl), m.at_, beq_iff_eq.mp m.fn⟩, ⟨oc, od, dc, pm, an, cd, ct, sl, _, _, _, _, _, _, l, cc⟩⟩, of_decide_eq_true (allAt h13 19 rfl), of_decide_eq_true (allAt h13 20 rfl)⟩
theorem er_InvalidStrict (X : K.In h) (G : h.Ns mainGlobals mg) (c : SaysK fn tf exA h K) : ErrV K (ga K "InvalidStrict") := by
  obtain ⟨h0, h1, h2, h3, h4, h5, h6, h7, h8, h9, h10, h11, h12, h13, h14, h15⟩ := ex_all (exA_ex c.more)
  obtain ⟨oc, kV, dc, pm, cd, ct, od, an, sl, l, cc⟩ := fnA_ok (c.defs ⟨mA "InvalidStrict" "__init__", "__init__", "InvalidStrict.__init__", inClass (htop 7) 0⟩ (List.mem_of_getElem? (i := 68) rfl)).1 (c.defs ⟨mA "InvalidStrict" "__init__", "__init__", "InvalidStrict.__init__", inClass (htop 7) 0⟩ (List.mem_of_getElem? (i := 68) rfl)).2
  obtain rfl := kv_of l (allAt h14 3 rfl)
  have m := meth_ok (allAt h14 2 rfl)
  exact ⟨⟨_, _, _, _, _, _, _, ⟨PySem.F.excBase_ValueError, PySem.F.store_ValueError, lkx_of (allAt h13 27 rfl), (allAt h13 26 rfl), rfl⟩, ⟨eqO_ok (allAt h14 0 rfl), eqO_ok (allAt h14 1 rfl), m.at_, beq_iff_eq.mp m.fn⟩, ⟨oc, od, dc, pm, an, cd, ct, sl, _, _, _, _, _, _, l, cc⟩⟩, of_decide_eq_true (allAt h13 28 rfl), of_decide_eq_true (allAt h13 29 rfl)⟩
theorem er_NotATime (X : K.In h) (G : h.Ns mainGlobals mg) (c : SaysK fn tf exA h K) : ErrV K (ga K "NotATime") := by
  obtain ⟨h0, h1, h2, h3, h4, h5, h6, h7, h8, h9, h10, h11, h12, h13, h14, h15⟩ := ex_all (exA_ex c.more)
  obtain ⟨oc, kV, dc, pm, cd, ct, od, an, sl, l, cc⟩ := fnA_ok (c.defs ⟨mA "NotATime" "__init__", "__init__", "NotATime.__init__", inClass (htop 8) 0⟩ (List.mem_of_getElem? (i := 69) rfl)).1 (c.defs ⟨mA "NotATime" "__init__", "__init__", "NotATime.__init__", inClass (htop 8) 0⟩ (List.mem_of_getElem? (i := 69) rfl)).2
  obtain rfl := kv_of l (allAt h14 12 rfl)
  have m := meth_ok (allAt h14 11 rfl)
  exact ⟨⟨_, _, _, _, _, _, _, ⟨PySem.F.excBase_ValueError, PySem.F.store_ValueError, lkx_of (allAt h14 6 rfl), (allAt h14 5 rfl), rfl⟩, ⟨eqO_ok (allAt h14 9 rfl), eqO_ok (allAt h14 10 rfl), m.at_, beq_iff_eq.mp m.fn⟩, ⟨oc, od, dc, pm, an, cd, ct, sl, _, _, _, _, _, _, l, cc⟩⟩, of_decide_eq_true (allAt h14 7 rfl), of_decide_eq_true (allAt h14 8 rfl)⟩
theorem er_NotALook (X : K.In h) (G : h.Ns mainGlobals mg) (c : SaysK fn tf exA h K) : ErrV K (ga K "NotALook") := by
  obtain ⟨h0, h1, h2, h3, h4, h5, h6, h7, h8, h9, h10, h11, h12, h13, h14, h15⟩ := ex_all (exA_ex c.more)
  obtain ⟨oc, kV, dc, pm, cd, ct, od, an, sl, l, cc⟩ := fnA_ok (c.defs ⟨mA "NotALook" "__init__", "__init__", "NotALook.__init__", inClass (htop 9) 0⟩ (List.mem_of_getElem? (i := 70) rfl)).1 (c.defs ⟨mA "NotALook" "__init__", "__init__", "NotALook.__init__", inClass (htop 9) 0⟩ (List.mem_of_getElem? (i := 70) rfl)).2
  obtain rfl := kv_of l (allAt h14 21 rfl)
  have m := meth_ok (allAt h14 20 rfl)
  exact ⟨⟨_, _, _, _, _, _, _, ⟨PySem.F.excBase_ValueError, PySem.F.store_ValueError, lkx_of (allAt h14 15 rfl), (allAt h14 14 rfl), rfl⟩, ⟨eqO_ok (allAt h14 18 rfl), eqO_ok (allAt h14 19 rfl), m.at_, beq_iff_eq.mp m.fn⟩, ⟨oc, od, dc, pm, an, cd, ct, sl, _, _, _, _, _, _, l, cc⟩⟩, of_decide_eq_true (allAt h14 16 rfl), of_decide_eq_true (allAt h14 17 rfl)⟩
theorem er_TooMany (X : K.In h) (G : h.Ns mainGlobals mg) (c : SaysK fn tf exA h K) : ErrL K (ga K "TooMany") := by
  obtain ⟨h0, h1, h2, h3, h4, h5, h6, h7, h8, h9, h10, h11, h12, h13, h14, h15⟩ := ex_all (exA_ex c.more)
  obtain ⟨oc, kV, dc, pm, cd, ct, od, an, sl, l, cc⟩ := fnA_ok (c.defs ⟨mA "TooMany" "__init__", "__init__", "TooMany.__init__", inClass (htop 10) 0⟩ (List.mem_of_getElem? (i := 71) rfl)).1 (c.defs ⟨mA "TooMany" "__init__", "__init__", "TooMany.__init__", inClass (htop 10) 0⟩ (List.mem_of_getElem? (i := 71) rfl)).2
  obtain rfl := kv_of l (allAt h15 0 rfl)
  have m := meth_ok (allAt h14 29 rfl)
  exact ⟨⟨_, _, _, _, _, _, _, ⟨PySem.F.excBase_ArithmeticError, PySem.F.store_ArithmeticError, lkx_of (allAt h14 24 rfl), (allAt h14 23 rfl), rfl⟩, ⟨eqO_ok (allAt h14 27 rfl), eqO_ok (allAt h14 28 rfl), m.at_, beq_iff_eq.mp m.fn⟩, ⟨oc, od, dc, pm, an, cd, ct, sl, _, _, _, _, _, _, l, cc⟩⟩, of_decide_eq_true (allAt h14 25 rfl), of_decide_eq_true (allAt h14 26 rfl)⟩
theorem erN (X : K.In h) (G : h.Ns mainGlobals mg) (c : SaysK fn tf exA h K) : ErN K mg (erK K) := by
  obtain ⟨h0, h1, h2, h3, h4, h5, h6, h7, h8, h9, h10, h11, h12, h13, h14, h15⟩ := ex_all (exA_ex c.more)
  exact ⟨er_InvalidName X G c, er_InvalidNumber X G c, er_InvalidWithin X G c, er_InvalidStrict X G c, er_NotATime X G c, er_NotALook X G c, er_TooMany X G c, glo_ok X G (allAt h12 28 rfl), glo_ok X G (allAt h13 7 rfl), glo_ok X G (allAt h13 16 rfl), glo_ok X G (allAt h13 25 rfl), glo_ok X G (allAt h14 4 rfl), glo_ok X G (allAt h14 13 rfl), glo_ok X G (allAt h14 22 rfl)⟩
theorem df_is_integer (X : K.In h) (G : h.Ns mainGlobals mg) (c : SaysK fn tf exA h K) : Df K mg "is_integer" (top 15) := by
  obtain ⟨h0, h1, h2, h3, h4, h5, h6, h7, h8, h9, h10, h11, h12, h13, h14, h15⟩ := ex_all (exA_ex c.more)
  obtain ⟨fd, F⟩ := fun_of (c.defs ⟨gA "is_integer", "is_integer", "is_integer", htop 15⟩ (List.mem_of_getElem? (i := 0) rfl)) (allAt h0 1 rfl)
  exact ⟨_, fd, glo_ok X G (allAt h0 0 rfl), F⟩
theorem df_is_name (X : K.In h) (G : h.Ns mainGlobals mg) (c : SaysK fn tf exA h K) : Df K mg "is_name" (top 16) := by
  obtain ⟨h0, h1, h2, h3, h4, h5, h6, h7, h8, h9, h10, h11, h12, h13, h14, h15⟩ := ex_all (exA_ex c.more)
  obtain ⟨fd, F⟩ := fun_of (c.defs ⟨gA "is_name", "is_name", "is_name", htop 16⟩ (List.mem_of_getElem? (i := 1) rfl)) (allAt h0 3 rfl)
  exact ⟨_, fd, glo_ok X G (allAt h0 2 rfl), F⟩
theorem df__is_letter (X : K.In h) (G : h.Ns mainGlobals mg) (c : SaysK fn tf exA h K) : Df K mg "_is_letter" (top 17) := by
  obtain ⟨h0, h1, h2, h3, h4, h5, h6, h7, h8, h9, h10, h11, h12, h13, h14, h15⟩ := ex_all (exA_ex c.more)
  obtain ⟨fd, F⟩ := fun_of (c.defs ⟨gA "_is_letter", "_is_letter", "_is_letter", htop 17⟩ (List.mem_of_getElem? (i := 2) rfl)) (allAt h0 5 rfl)
  exact ⟨_, fd, glo_ok X G (allAt h0 4 rfl), F⟩
theorem df__is_digit (X : K.In h) (G : h.Ns mainGlobals mg) (c : SaysK fn tf exA h K) : Df K mg "_is_digit" (top 18) := by
  obtain ⟨h0, h1, h2, h3, h4, h5, h6, h7, h8, h9, h10, h11, h12, h13, h14, h15⟩ := ex_all (exA_ex c.more)
  obtain ⟨fd, F⟩ := fun_of (c.defs ⟨gA "_is_digit", "_is_digit", "_is_digit", htop 18⟩ (List.mem_of_getElem? (i := 3) rfl)) (allAt h0 7 rfl)
  exact ⟨_, fd, glo_ok X G (allAt h0 6 rfl), F⟩
theorem df_integer_text (X : K.In h) (G : h.Ns mainGlobals mg) (c : SaysK fn tf exA h K) : Df K mg "integer_text" (top 19) := by
  obtain ⟨h0, h1, h2, h3, h4, h5, h6, h7, h8, h9, h10, h11, h12, h13, h14, h15⟩ := ex_all (exA_ex c.more)
  obtain ⟨fd, F⟩ := fun_of (c.defs ⟨gA "integer_text", "integer_text", "integer_text", htop 19⟩ (List.mem_of_getElem? (i := 4) rfl)) (allAt h0 9 rfl)
  exact ⟨_, fd, glo_ok X G (allAt h0 8 rfl), F⟩
theorem df_check_name (X : K.In h) (G : h.Ns mainGlobals mg) (c : SaysK fn tf exA h K) : Df K mg "check_name" (top 20) := by
  obtain ⟨h0, h1, h2, h3, h4, h5, h6, h7, h8, h9, h10, h11, h12, h13, h14, h15⟩ := ex_all (exA_ex c.more)
  obtain ⟨fd, F⟩ := fun_of (c.defs ⟨gA "check_name", "check_name", "check_name", htop 20⟩ (List.mem_of_getElem? (i := 5) rfl)) (allAt h0 11 rfl)
  exact ⟨_, fd, glo_ok X G (allAt h0 10 rfl), F⟩
theorem df_check_reader_time (X : K.In h) (G : h.Ns mainGlobals mg) (c : SaysK fn tf exA h K) : Df K mg "check_reader_time" (top 24) := by
  obtain ⟨h0, h1, h2, h3, h4, h5, h6, h7, h8, h9, h10, h11, h12, h13, h14, h15⟩ := ex_all (exA_ex c.more)
  obtain ⟨fd, F⟩ := fun_of (c.defs ⟨gA "check_reader_time", "check_reader_time", "check_reader_time", htop 24⟩ (List.mem_of_getElem? (i := 6) rfl)) (allAt h0 13 rfl)
  exact ⟨_, fd, glo_ok X G (allAt h0 12 rfl), F⟩
theorem df_check_look (X : K.In h) (G : h.Ns mainGlobals mg) (c : SaysK fn tf exA h K) : Df K mg "check_look" (top 25) := by
  obtain ⟨h0, h1, h2, h3, h4, h5, h6, h7, h8, h9, h10, h11, h12, h13, h14, h15⟩ := ex_all (exA_ex c.more)
  obtain ⟨fd, F⟩ := fun_of (c.defs ⟨gA "check_look", "check_look", "check_look", htop 25⟩ (List.mem_of_getElem? (i := 7) rfl)) (allAt h0 15 rfl)
  exact ⟨_, fd, glo_ok X G (allAt h0 14 rfl), F⟩
theorem df_in_order (X : K.In h) (G : h.Ns mainGlobals mg) (c : SaysK fn tf exA h K) : Df K mg "in_order" (top 26) := by
  obtain ⟨h0, h1, h2, h3, h4, h5, h6, h7, h8, h9, h10, h11, h12, h13, h14, h15⟩ := ex_all (exA_ex c.more)
  obtain ⟨fd, F⟩ := fun_of (c.defs ⟨gA "in_order", "in_order", "in_order", htop 26⟩ (List.mem_of_getElem? (i := 8) rfl)) (allAt h0 17 rfl)
  exact ⟨_, fd, glo_ok X G (allAt h0 16 rfl), F⟩
theorem df__check_depth (X : K.In h) (G : h.Ns mainGlobals mg) (c : SaysK fn tf exA h K) : Df K mg "_check_depth" (top 27) := by
  obtain ⟨h0, h1, h2, h3, h4, h5, h6, h7, h8, h9, h10, h11, h12, h13, h14, h15⟩ := ex_all (exA_ex c.more)
  obtain ⟨fd, F⟩ := fun_of (c.defs ⟨gA "_check_depth", "_check_depth", "_check_depth", htop 27⟩ (List.mem_of_getElem? (i := 9) rfl)) (allAt h0 19 rfl)
  exact ⟨_, fd, glo_ok X G (allAt h0 18 rfl), F⟩
theorem df__check_shift (X : K.In h) (G : h.Ns mainGlobals mg) (c : SaysK fn tf exA h K) : Df K mg "_check_shift" (top 28) := by
  obtain ⟨h0, h1, h2, h3, h4, h5, h6, h7, h8, h9, h10, h11, h12, h13, h14, h15⟩ := ex_all (exA_ex c.more)
  obtain ⟨fd, F⟩ := fun_of (c.defs ⟨gA "_check_shift", "_check_shift", "_check_shift", htop 28⟩ (List.mem_of_getElem? (i := 10) rfl)) (allAt h0 21 rfl)
  exact ⟨_, fd, glo_ok X G (allAt h0 20 rfl), F⟩
theorem df__check_look_parts (X : K.In h) (G : h.Ns mainGlobals mg) (c : SaysK fn tf exA h K) : Df K mg "_check_look_parts" (top 29) := by
  obtain ⟨h0, h1, h2, h3, h4, h5, h6, h7, h8, h9, h10, h11, h12, h13, h14, h15⟩ := ex_all (exA_ex c.more)
  obtain ⟨fd, F⟩ := fun_of (c.defs ⟨gA "_check_look_parts", "_check_look_parts", "_check_look_parts", htop 29⟩ (List.mem_of_getElem? (i := 11) rfl)) (allAt h0 23 rfl)
  exact ⟨_, fd, glo_ok X G (allAt h0 22 rfl), F⟩
theorem df__look_text (X : K.In h) (G : h.Ns mainGlobals mg) (c : SaysK fn tf exA h K) : Df K mg "_look_text" (top 30) := by
  obtain ⟨h0, h1, h2, h3, h4, h5, h6, h7, h8, h9, h10, h11, h12, h13, h14, h15⟩ := ex_all (exA_ex c.more)
  obtain ⟨fd, F⟩ := fun_of (c.defs ⟨gA "_look_text", "_look_text", "_look_text", htop 30⟩ (List.mem_of_getElem? (i := 12) rfl)) (allAt h0 25 rfl)
  exact ⟨_, fd, glo_ok X G (allAt h0 24 rfl), F⟩
theorem df__shifted_back (X : K.In h) (G : h.Ns mainGlobals mg) (c : SaysK fn tf exA h K) : Df K mg "_shifted_back" (top 31) := by
  obtain ⟨h0, h1, h2, h3, h4, h5, h6, h7, h8, h9, h10, h11, h12, h13, h14, h15⟩ := ex_all (exA_ex c.more)
  obtain ⟨fd, F⟩ := fun_of (c.defs ⟨gA "_shifted_back", "_shifted_back", "_shifted_back", htop 31⟩ (List.mem_of_getElem? (i := 13) rfl)) (allAt h0 27 rfl)
  exact ⟨_, fd, glo_ok X G (allAt h0 26 rfl), F⟩
theorem df__law_number (X : K.In h) (G : h.Ns mainGlobals mg) (c : SaysK fn tf exA h K) : Df K mg "_law_number" (top 40) := by
  obtain ⟨h0, h1, h2, h3, h4, h5, h6, h7, h8, h9, h10, h11, h12, h13, h14, h15⟩ := ex_all (exA_ex c.more)
  obtain ⟨fd, F⟩ := fun_of (c.defs ⟨gA "_law_number", "_law_number", "_law_number", htop 40⟩ (List.mem_of_getElem? (i := 14) rfl)) (allAt h0 29 rfl)
  exact ⟨_, fd, glo_ok X G (allAt h0 28 rfl), F⟩
theorem df__law_source (X : K.In h) (G : h.Ns mainGlobals mg) (c : SaysK fn tf exA h K) : Df K mg "_law_source" (top 41) := by
  obtain ⟨h0, h1, h2, h3, h4, h5, h6, h7, h8, h9, h10, h11, h12, h13, h14, h15⟩ := ex_all (exA_ex c.more)
  obtain ⟨fd, F⟩ := fun_of (c.defs ⟨gA "_law_source", "_law_source", "_law_source", htop 41⟩ (List.mem_of_getElem? (i := 15) rfl)) (allAt h1 1 rfl)
  exact ⟨_, fd, glo_ok X G (allAt h1 0 rfl), F⟩
theorem df__law_pick (X : K.In h) (G : h.Ns mainGlobals mg) (c : SaysK fn tf exA h K) : Df K mg "_law_pick" (top 42) := by
  obtain ⟨h0, h1, h2, h3, h4, h5, h6, h7, h8, h9, h10, h11, h12, h13, h14, h15⟩ := ex_all (exA_ex c.more)
  obtain ⟨fd, F⟩ := fun_of (c.defs ⟨gA "_law_pick", "_law_pick", "_law_pick", htop 42⟩ (List.mem_of_getElem? (i := 16) rfl)) (allAt h1 3 rfl)
  exact ⟨_, fd, glo_ok X G (allAt h1 2 rfl), F⟩
theorem df__law_one (X : K.In h) (G : h.Ns mainGlobals mg) (c : SaysK fn tf exA h K) : Df K mg "_law_one" (top 43) := by
  obtain ⟨h0, h1, h2, h3, h4, h5, h6, h7, h8, h9, h10, h11, h12, h13, h14, h15⟩ := ex_all (exA_ex c.more)
  obtain ⟨fd, F⟩ := fun_of (c.defs ⟨gA "_law_one", "_law_one", "_law_one", htop 43⟩ (List.mem_of_getElem? (i := 17) rfl)) (allAt h1 5 rfl)
  exact ⟨_, fd, glo_ok X G (allAt h1 4 rfl), F⟩
theorem df__law_tag (X : K.In h) (G : h.Ns mainGlobals mg) (c : SaysK fn tf exA h K) : Df K mg "_law_tag" (top 44) := by
  obtain ⟨h0, h1, h2, h3, h4, h5, h6, h7, h8, h9, h10, h11, h12, h13, h14, h15⟩ := ex_all (exA_ex c.more)
  obtain ⟨fd, F⟩ := fun_of (c.defs ⟨gA "_law_tag", "_law_tag", "_law_tag", htop 44⟩ (List.mem_of_getElem? (i := 18) rfl)) (allAt h1 7 rfl)
  exact ⟨_, fd, glo_ok X G (allAt h1 6 rfl), F⟩
theorem df__law_tags (X : K.In h) (G : h.Ns mainGlobals mg) (c : SaysK fn tf exA h K) : Df K mg "_law_tags" (top 45) := by
  obtain ⟨h0, h1, h2, h3, h4, h5, h6, h7, h8, h9, h10, h11, h12, h13, h14, h15⟩ := ex_all (exA_ex c.more)
  obtain ⟨fd, F⟩ := fun_of (c.defs ⟨gA "_law_tags", "_law_tags", "_law_tags", htop 45⟩ (List.mem_of_getElem? (i := 19) rfl)) (allAt h1 9 rfl)
  exact ⟨_, fd, glo_ok X G (allAt h1 8 rfl), F⟩
theorem df__law_said (X : K.In h) (G : h.Ns mainGlobals mg) (c : SaysK fn tf exA h K) : Df K mg "_law_said" (top 46) := by
  obtain ⟨h0, h1, h2, h3, h4, h5, h6, h7, h8, h9, h10, h11, h12, h13, h14, h15⟩ := ex_all (exA_ex c.more)
  obtain ⟨fd, F⟩ := fun_of (c.defs ⟨gA "_law_said", "_law_said", "_law_said", htop 46⟩ (List.mem_of_getElem? (i := 20) rfl)) (allAt h1 11 rfl)
  exact ⟨_, fd, glo_ok X G (allAt h1 10 rfl), F⟩
theorem df__law_deep (X : K.In h) (G : h.Ns mainGlobals mg) (c : SaysK fn tf exA h K) : Df K mg "_law_deep" (top 47) := by
  obtain ⟨h0, h1, h2, h3, h4, h5, h6, h7, h8, h9, h10, h11, h12, h13, h14, h15⟩ := ex_all (exA_ex c.more)
  obtain ⟨fd, F⟩ := fun_of (c.defs ⟨gA "_law_deep", "_law_deep", "_law_deep", htop 47⟩ (List.mem_of_getElem? (i := 21) rfl)) (allAt h1 13 rfl)
  exact ⟨_, fd, glo_ok X G (allAt h1 12 rfl), F⟩
theorem df__law_inside (X : K.In h) (G : h.Ns mainGlobals mg) (c : SaysK fn tf exA h K) : Df K mg "_law_inside" (top 48) := by
  obtain ⟨h0, h1, h2, h3, h4, h5, h6, h7, h8, h9, h10, h11, h12, h13, h14, h15⟩ := ex_all (exA_ex c.more)
  obtain ⟨fd, F⟩ := fun_of (c.defs ⟨gA "_law_inside", "_law_inside", "_law_inside", htop 48⟩ (List.mem_of_getElem? (i := 22) rfl)) (allAt h1 15 rfl)
  exact ⟨_, fd, glo_ok X G (allAt h1 14 rfl), F⟩
theorem df__law_moment (X : K.In h) (G : h.Ns mainGlobals mg) (c : SaysK fn tf exA h K) : Df K mg "_law_moment" (top 49) := by
  obtain ⟨h0, h1, h2, h3, h4, h5, h6, h7, h8, h9, h10, h11, h12, h13, h14, h15⟩ := ex_all (exA_ex c.more)
  obtain ⟨fd, F⟩ := fun_of (c.defs ⟨gA "_law_moment", "_law_moment", "_law_moment", htop 49⟩ (List.mem_of_getElem? (i := 23) rfl)) (allAt h1 17 rfl)
  exact ⟨_, fd, glo_ok X G (allAt h1 16 rfl), F⟩
theorem df__law_peek (X : K.In h) (G : h.Ns mainGlobals mg) (c : SaysK fn tf exA h K) : Df K mg "_law_peek" (top 50) := by
  obtain ⟨h0, h1, h2, h3, h4, h5, h6, h7, h8, h9, h10, h11, h12, h13, h14, h15⟩ := ex_all (exA_ex c.more)
  obtain ⟨fd, F⟩ := fun_of (c.defs ⟨gA "_law_peek", "_law_peek", "_law_peek", htop 50⟩ (List.mem_of_getElem? (i := 24) rfl)) (allAt h1 19 rfl)
  exact ⟨_, fd, glo_ok X G (allAt h1 18 rfl), F⟩
theorem df__law_pool (X : K.In h) (G : h.Ns mainGlobals mg) (c : SaysK fn tf exA h K) : Df K mg "_law_pool" (top 51) := by
  obtain ⟨h0, h1, h2, h3, h4, h5, h6, h7, h8, h9, h10, h11, h12, h13, h14, h15⟩ := ex_all (exA_ex c.more)
  obtain ⟨fd, F⟩ := fun_of (c.defs ⟨gA "_law_pool", "_law_pool", "_law_pool", htop 51⟩ (List.mem_of_getElem? (i := 25) rfl)) (allAt h1 21 rfl)
  exact ⟨_, fd, glo_ok X G (allAt h1 20 rfl), F⟩
theorem df__law_time_made (X : K.In h) (G : h.Ns mainGlobals mg) (c : SaysK fn tf exA h K) : Df K mg "_law_time_made" (top 52) := by
  obtain ⟨h0, h1, h2, h3, h4, h5, h6, h7, h8, h9, h10, h11, h12, h13, h14, h15⟩ := ex_all (exA_ex c.more)
  obtain ⟨fd, F⟩ := fun_of (c.defs ⟨gA "_law_time_made", "_law_time_made", "_law_time_made", htop 52⟩ (List.mem_of_getElem? (i := 26) rfl)) (allAt h1 23 rfl)
  exact ⟨_, fd, glo_ok X G (allAt h1 22 rfl), F⟩
theorem df__law_look_made (X : K.In h) (G : h.Ns mainGlobals mg) (c : SaysK fn tf exA h K) : Df K mg "_law_look_made" (top 53) := by
  obtain ⟨h0, h1, h2, h3, h4, h5, h6, h7, h8, h9, h10, h11, h12, h13, h14, h15⟩ := ex_all (exA_ex c.more)
  obtain ⟨fd, F⟩ := fun_of (c.defs ⟨gA "_law_look_made", "_law_look_made", "_law_look_made", htop 53⟩ (List.mem_of_getElem? (i := 27) rfl)) (allAt h1 25 rfl)
  exact ⟨_, fd, glo_ok X G (allAt h1 24 rfl), F⟩
theorem df__law_shown (X : K.In h) (G : h.Ns mainGlobals mg) (c : SaysK fn tf exA h K) : Df K mg "_law_shown" (top 54) := by
  obtain ⟨h0, h1, h2, h3, h4, h5, h6, h7, h8, h9, h10, h11, h12, h13, h14, h15⟩ := ex_all (exA_ex c.more)
  obtain ⟨fd, F⟩ := fun_of (c.defs ⟨gA "_law_shown", "_law_shown", "_law_shown", htop 54⟩ (List.mem_of_getElem? (i := 28) rfl)) (allAt h1 27 rfl)
  exact ⟨_, fd, glo_ok X G (allAt h1 26 rfl), F⟩
theorem df__law_due (X : K.In h) (G : h.Ns mainGlobals mg) (c : SaysK fn tf exA h K) : Df K mg "_law_due" (top 55) := by
  obtain ⟨h0, h1, h2, h3, h4, h5, h6, h7, h8, h9, h10, h11, h12, h13, h14, h15⟩ := ex_all (exA_ex c.more)
  obtain ⟨fd, F⟩ := fun_of (c.defs ⟨gA "_law_due", "_law_due", "_law_due", htop 55⟩ (List.mem_of_getElem? (i := 29) rfl)) (allAt h1 29 rfl)
  exact ⟨_, fd, glo_ok X G (allAt h1 28 rfl), F⟩
theorem df__law_made (X : K.In h) (G : h.Ns mainGlobals mg) (c : SaysK fn tf exA h K) : Df K mg "_law_made" (top 56) := by
  obtain ⟨h0, h1, h2, h3, h4, h5, h6, h7, h8, h9, h10, h11, h12, h13, h14, h15⟩ := ex_all (exA_ex c.more)
  obtain ⟨fd, F⟩ := fun_of (c.defs ⟨gA "_law_made", "_law_made", "_law_made", htop 56⟩ (List.mem_of_getElem? (i := 30) rfl)) (allAt h2 1 rfl)
  exact ⟨_, fd, glo_ok X G (allAt h2 0 rfl), F⟩
theorem df__law_peek_right (X : K.In h) (G : h.Ns mainGlobals mg) (c : SaysK fn tf exA h K) : Df K mg "_law_peek_right" (top 57) := by
  obtain ⟨h0, h1, h2, h3, h4, h5, h6, h7, h8, h9, h10, h11, h12, h13, h14, h15⟩ := ex_all (exA_ex c.more)
  obtain ⟨fd, F⟩ := fun_of (c.defs ⟨gA "_law_peek_right", "_law_peek_right", "_law_peek_right", htop 57⟩ (List.mem_of_getElem? (i := 31) rfl)) (allAt h2 3 rfl)
  exact ⟨_, fd, glo_ok X G (allAt h2 2 rfl), F⟩
theorem df__law_right (X : K.In h) (G : h.Ns mainGlobals mg) (c : SaysK fn tf exA h K) : Df K mg "_law_right" (top 58) := by
  obtain ⟨h0, h1, h2, h3, h4, h5, h6, h7, h8, h9, h10, h11, h12, h13, h14, h15⟩ := ex_all (exA_ex c.more)
  obtain ⟨fd, F⟩ := fun_of (c.defs ⟨gA "_law_right", "_law_right", "_law_right", htop 58⟩ (List.mem_of_getElem? (i := 32) rfl)) (allAt h2 5 rfl)
  exact ⟨_, fd, glo_ok X G (allAt h2 4 rfl), F⟩
theorem df__law_by_hand (X : K.In h) (G : h.Ns mainGlobals mg) (c : SaysK fn tf exA h K) : Df K mg "_law_by_hand" (top 59) := by
  obtain ⟨h0, h1, h2, h3, h4, h5, h6, h7, h8, h9, h10, h11, h12, h13, h14, h15⟩ := ex_all (exA_ex c.more)
  obtain ⟨fd, F⟩ := fun_of (c.defs ⟨gA "_law_by_hand", "_law_by_hand", "_law_by_hand", htop 59⟩ (List.mem_of_getElem? (i := 33) rfl)) (allAt h2 7 rfl)
  exact ⟨_, fd, glo_ok X G (allAt h2 6 rfl), F⟩
theorem df_law (X : K.In h) (G : h.Ns mainGlobals mg) (c : SaysK fn tf exA h K) : Df K mg "law" (top 60) := by
  obtain ⟨h0, h1, h2, h3, h4, h5, h6, h7, h8, h9, h10, h11, h12, h13, h14, h15⟩ := ex_all (exA_ex c.more)
  obtain ⟨fd, F⟩ := fun_of (c.defs ⟨gA "law", "law", "law", htop 60⟩ (List.mem_of_getElem? (i := 34) rfl)) (allAt h2 9 rfl)
  exact ⟨_, fd, glo_ok X G (allAt h2 8 rfl), F⟩
theorem di_Now (X : K.In h) (G : h.Ns mainGlobals mg) (c : SaysK fn tf exA h K) : Di K mg "Now" (CsK K 0) (inClass (top 32) 0) := by
  obtain ⟨h0, h1, h2, h3, h4, h5, h6, h7, h8, h9, h10, h11, h12, h13, h14, h15⟩ := ex_all (exA_ex c.more)
  obtain ⟨fd, F⟩ := fun_of (c.defs ⟨mA "Now" "__init__", "__init__", "Now.__init__", inClass (htop 32) 0⟩ (List.mem_of_getElem? (i := 35) rfl)) (meth_ok (allAt h2 23 rfl)).kp
  refine ⟨glo_ok X G (allAt h2 10 rfl), _, fd, mkr_ok (allAt h2 12 rfl), ?_⟩
  rw [show (("Now" : Str) ++ ".__init__") = "Now.__init__" by decide +kernel]
  exact F
theorem di_Shift (X : K.In h) (G : h.Ns mainGlobals mg) (c : SaysK fn tf exA h K) : Di K mg "Shift" (CsK K 1) (inClass (top 33) 0) := by
  obtain ⟨h0, h1, h2, h3, h4, h5, h6, h7, h8, h9, h10, h11, h12, h13, h14, h15⟩ := ex_all (exA_ex c.more)
  obtain ⟨fd, F⟩ := fun_of (c.defs ⟨mA "Shift" "__init__", "__init__", "Shift.__init__", inClass (htop 33) 0⟩ (List.mem_of_getElem? (i := 40) rfl)) (meth_ok (allAt h3 11 rfl)).kp
  refine ⟨glo_ok X G (allAt h2 28 rfl), _, fd, mkr_ok (allAt h3 0 rfl), ?_⟩
  rw [show (("Shift" : Str) ++ ".__init__") = "Shift.__init__" by decide +kernel]
  exact F
theorem di_Floor (X : K.In h) (G : h.Ns mainGlobals mg) (c : SaysK fn tf exA h K) : Di K mg "Floor" (CsK K 2) (inClass (top 34) 0) := by
  obtain ⟨h0, h1, h2, h3, h4, h5, h6, h7, h8, h9, h10, h11, h12, h13, h14, h15⟩ := ex_all (exA_ex c.more)
  obtain ⟨fd, F⟩ := fun_of (c.defs ⟨mA "Floor" "__init__", "__init__", "Floor.__init__", inClass (htop 34) 0⟩ (List.mem_of_getElem? (i := 44) rfl)) (meth_ok (allAt h3 28 rfl)).kp
  refine ⟨glo_ok X G (allAt h3 15 rfl), _, fd, mkr_ok (allAt h3 17 rfl), ?_⟩
  rw [show (("Floor" : Str) ++ ".__init__") = "Floor.__init__" by decide +kernel]
  exact F
theorem di_Ceil (X : K.In h) (G : h.Ns mainGlobals mg) (c : SaysK fn tf exA h K) : Di K mg "Ceil" (CsK K 3) (inClass (top 35) 0) := by
  obtain ⟨h0, h1, h2, h3, h4, h5, h6, h7, h8, h9, h10, h11, h12, h13, h14, h15⟩ := ex_all (exA_ex c.more)
  obtain ⟨fd, F⟩ := fun_of (c.defs ⟨mA "Ceil" "__init__", "__init__", "Ceil.__init__", inClass (htop 35) 0⟩ (List.mem_of_getElem? (i := 48) rfl)) (meth_ok (allAt h4 15 rfl)).kp
  refine ⟨glo_ok X G (allAt h4 2 rfl), _, fd, mkr_ok (allAt h4 4 rfl), ?_⟩
  rw [show (("Ceil" : Str) ++ ".__init__") = "Ceil.__init__" by decide +kernel]
  exact F
theorem di_RowTime (X : K.In h) (G : h.Ns mainGlobals mg) (c : SaysK fn tf exA h K) : Di K mg "RowTime" (CsK K 4) (inClass (top 36) 0) := by
  obtain ⟨h0, h1, h2, h3, h4, h5, h6, h7, h8, h9, h10, h11, h12, h13, h14, h15⟩ := ex_all (exA_ex c.more)
  obtain ⟨fd, F⟩ := fun_of (c.defs ⟨mA "RowTime" "__init__", "__init__", "RowTime.__init__", inClass (htop 36) 0⟩ (List.mem_of_getElem? (i := 52) rfl)) (meth_ok (allAt h5 2 rfl)).kp
  refine ⟨glo_ok X G (allAt h4 19 rfl), _, fd, mkr_ok (allAt h4 21 rfl), ?_⟩
  rw [show (("RowTime" : Str) ++ ".__init__") = "RowTime.__init__" by decide +kernel]
  exact F
theorem dk_Before (X : K.In h) (G : h.Ns mainGlobals mg) (c : SaysK fn tf exA h K) : ∃ fd, Dk K mg "Before" (CsK K 5) (inClass (top 37) 0) (ma K (ga K "Before") "__init__") fd := by
  obtain ⟨h0, h1, h2, h3, h4, h5, h6, h7, h8, h9, h10, h11, h12, h13, h14, h15⟩ := ex_all (exA_ex c.more)
  obtain ⟨oc, kV, dc, pm, cd, ct, od, an, sl, l, cc⟩ := fnA_ok (c.defs ⟨mA "Before" "__init__", "__init__", "Before.__init__", inClass (htop 37) 0⟩ (List.mem_of_getElem? (i := 57) rfl)).1 (c.defs ⟨mA "Before" "__init__", "__init__", "Before.__init__", inClass (htop 37) 0⟩ (List.mem_of_getElem? (i := 57) rfl)).2
  obtain ⟨D, rfl, n1, n2⟩ := kw_of l (allAt h15 1 rfl)
  have q : (("Before" : Str) ++ ".__init__") = "Before.__init__" := by decide +kernel
  refine ⟨_, glo_ok X G (allAt h5 7 rfl), mkr_ok (allAt h5 9 rfl), ⟨⟨oc, od, .ref D, dc, pm, an, cd, ct, sl, rfl, ?_, ?_⟩, (meth_ok (allAt h5 20 rfl)).kp⟩, D, dc, pm, cd, ct, an, rfl, n1, n2⟩
  · rw [q]
    exact l
  · rw [q]
    exact cc
theorem dk_After (X : K.In h) (G : h.Ns mainGlobals mg) (c : SaysK fn tf exA h K) : ∃ fd, Dk K mg "After" (CsK K 6) (inClass (top 38) 0) (ma K (ga K "After") "__init__") fd := by
  obtain ⟨h0, h1, h2, h3, h4, h5, h6, h7, h8, h9, h10, h11, h12, h13, h14, h15⟩ := ex_all (exA_ex c.more)
  obtain ⟨oc, kV, dc, pm, cd, ct, od, an, sl, l, cc⟩ := fnA_ok (c.defs ⟨mA "After" "__init__", "__init__", "After.__init__", inClass (htop 38) 0⟩ (List.mem_of_getElem? (i := 61) rfl)).1 (c.defs ⟨mA "After" "__init__", "__init__", "After.__init__", inClass (htop 38) 0⟩ (List.mem_of_getElem? (i := 61) rfl)).2
  obtain ⟨D, rfl, n1, n2⟩ := kw_of l (allAt h15 2 rfl)
  have q : (("After" : Str) ++ ".__init__") = "After.__init__" := by decide +kernel
  refine ⟨_, glo_ok X G (allAt h5 24 rfl), mkr_ok (allAt h5 26 rfl), ⟨⟨oc, od, .ref D, dc, pm, an, cd, ct, sl, rfl, ?_, ?_⟩, (meth_ok (allAt h6 7 rfl)).kp⟩, D, dc, pm, cd, ct, an, rfl, n1, n2⟩
  · rw [q]
    exact l
  · rw [q]
    exact cc
theorem dd_Now_eq (X : K.In h) (G : h.Ns mainGlobals mg) (c : SaysK fn tf exA h K) : Dd K (CsK K 0) "__eq__" "Now.__eq__" (inClass (top 32) 5) := by
  obtain ⟨h0, h1, h2, h3, h4, h5, h6, h7, h8, h9, h10, h11, h12, h13, h14, h15⟩ := ex_all (exA_ex c.more)
  have m := meth_ok (allAt h2 24 rfl)
  obtain ⟨fd, F⟩ := fun_of (c.defs ⟨mA "Now" "__eq__", "__eq__", "Now.__eq__", inClass (htop 32) 5⟩ (List.mem_of_getElem? (i := 36) rfl)) m.kp
  exact ⟨_, fd, ⟨m.at_, m.fn⟩, F⟩
theorem dd_Now_str (X : K.In h) (G : h.Ns mainGlobals mg) (c : SaysK fn tf exA h K) : Dd K (CsK K 0) "__str__" "Now.__str__" (inClass (top 32) 6) := by
  obtain ⟨h0, h1, h2, h3, h4, h5, h6, h7, h8, h9, h10, h11, h12, h13, h14, h15⟩ := ex_all (exA_ex c.more)
  have m := meth_ok (allAt h2 25 rfl)
  obtain ⟨fd, F⟩ := fun_of (c.defs ⟨mA "Now" "__str__", "__str__", "Now.__str__", inClass (htop 32) 6⟩ (List.mem_of_getElem? (i := 37) rfl)) m.kp
  exact ⟨_, fd, ⟨m.at_, m.fn⟩, F⟩
theorem dd_Now_repr (X : K.In h) (G : h.Ns mainGlobals mg) (c : SaysK fn tf exA h K) : Dd K (CsK K 0) "__repr__" "Now.__repr__" (inClass (top 32) 7) := by
  obtain ⟨h0, h1, h2, h3, h4, h5, h6, h7, h8, h9, h10, h11, h12, h13, h14, h15⟩ := ex_all (exA_ex c.more)
  have m := meth_ok (allAt h2 26 rfl)
  obtain ⟨fd, F⟩ := fun_of (c.defs ⟨mA "Now" "__repr__", "__repr__", "Now.__repr__", inClass (htop 32) 7⟩ (List.mem_of_getElem? (i := 38) rfl)) m.kp
  exact ⟨_, fd, ⟨m.at_, m.fn⟩, F⟩
theorem dd_Shift_eq (X : K.In h) (G : h.Ns mainGlobals mg) (c : SaysK fn tf exA h K) : Dd K (CsK K 1) "__eq__" "Shift.__eq__" (inClass (top 33) 5) := by
  obtain ⟨h0, h1, h2, h3, h4, h5, h6, h7, h8, h9, h10, h11, h12, h13, h14, h15⟩ := ex_all (exA_ex c.more)
  have m := meth_ok (allAt h3 12 rfl)
  obtain ⟨fd, F⟩ := fun_of (c.defs ⟨mA "Shift" "__eq__", "__eq__", "Shift.__eq__", inClass (htop 33) 5⟩ (List.mem_of_getElem? (i := 41) rfl)) m.kp
  exact ⟨_, fd, ⟨m.at_, m.fn⟩, F⟩
theorem dd_Shift_str (X : K.In h) (G : h.Ns mainGlobals mg) (c : SaysK fn tf exA h K) : Dd K (CsK K 1) "__str__" "Shift.__str__" (inClass (top 33) 6) := by
  obtain ⟨h0, h1, h2, h3, h4, h5, h6, h7, h8, h9, h10, h11, h12, h13, h14, h15⟩ := ex_all (exA_ex c.more)
  have m := meth_ok (allAt h3 13 rfl)
  obtain ⟨fd, F⟩ := fun_of (c.defs ⟨mA "Shift" "__str__", "__str__", "Shift.__str__", inClass (htop 33) 6⟩ (List.mem_of_getElem? (i := 42) rfl)) m.kp
  exact ⟨_, fd, ⟨m.at_, m.fn⟩, F⟩
theorem dd_Shift_repr (X : K.In h) (G : h.Ns mainGlobals mg) (c : SaysK fn tf exA h K) : Dd K (CsK K 1) "__repr__" "Shift.__repr__" (inClass (top 33) 7) := by
  obtain ⟨h0, h1, h2, h3, h4, h5, h6, h7, h8, h9, h10, h11, h12, h13, h14, h15⟩ := ex_all (exA_ex c.more)
  have m := meth_ok (allAt h3 14 rfl)
  obtain ⟨fd, F⟩ := fun_of (c.defs ⟨mA "Shift" "__repr__", "__repr__", "Shift.__repr__", inClass (htop 33) 7⟩ (List.mem_of_getElem? (i := 43) rfl)) m.kp
  exact ⟨_, fd, ⟨m.at_, m.fn⟩, F⟩
theorem dd_Floor_eq (X : K.In h) (G : h.Ns mainGlobals mg) (c : SaysK fn tf exA h K) : Dd K (CsK K 2) "__eq__" "Floor.__eq__" (inClass (top 34) 5) := by
  obtain ⟨h0, h1, h2, h3, h4, h5, h6, h7, h8, h9, h10, h11, h12, h13, h14, h15⟩ := ex_all (exA_ex c.more)
  have m := meth_ok (allAt h3 29 rfl)
  obtain ⟨fd, F⟩ := fun_of (c.defs ⟨mA "Floor" "__eq__", "__eq__", "Floor.__eq__", inClass (htop 34) 5⟩ (List.mem_of_getElem? (i := 45) rfl)) m.kp
  exact ⟨_, fd, ⟨m.at_, m.fn⟩, F⟩
theorem dd_Floor_str (X : K.In h) (G : h.Ns mainGlobals mg) (c : SaysK fn tf exA h K) : Dd K (CsK K 2) "__str__" "Floor.__str__" (inClass (top 34) 6) := by
  obtain ⟨h0, h1, h2, h3, h4, h5, h6, h7, h8, h9, h10, h11, h12, h13, h14, h15⟩ := ex_all (exA_ex c.more)
  have m := meth_ok (allAt h4 0 rfl)
  obtain ⟨fd, F⟩ := fun_of (c.defs ⟨mA "Floor" "__str__", "__str__", "Floor.__str__", inClass (htop 34) 6⟩ (List.mem_of_getElem? (i := 46) rfl)) m.kp
  exact ⟨_, fd, ⟨m.at_, m.fn⟩, F⟩
theorem dd_Floor_repr (X : K.In h) (G : h.Ns mainGlobals mg) (c : SaysK fn tf exA h K) : Dd K (CsK K 2) "__repr__" "Floor.__repr__" (inClass (top 34) 7) := by
  obtain ⟨h0, h1, h2, h3, h4, h5, h6, h7, h8, h9, h10, h11, h12, h13, h14, h15⟩ := ex_all (exA_ex c.more)
  have m := meth_ok (allAt h4 1 rfl)
  obtain ⟨fd, F⟩ := fun_of (c.defs ⟨mA "Floor" "__repr__", "__repr__", "Floor.__repr__", inClass (htop 34) 7⟩ (List.mem_of_getElem? (i := 47) rfl)) m.kp
  exact ⟨_, fd, ⟨m.at_, m.fn⟩, F⟩
theorem dd_Ceil_eq (X : K.In h) (G : h.Ns mainGlobals mg) (c : SaysK fn tf exA h K) : Dd K (CsK K 3) "__eq__" "Ceil.__eq__" (inClass (top 35) 5) := by
  obtain ⟨h0, h1, h2, h3, h4, h5, h6, h7, h8, h9, h10, h11, h12, h13, h14, h15⟩ := ex_all (exA_ex c.more)
  have m := meth_ok (allAt h4 16 rfl)
  obtain ⟨fd, F⟩ := fun_of (c.defs ⟨mA "Ceil" "__eq__", "__eq__", "Ceil.__eq__", inClass (htop 35) 5⟩ (List.mem_of_getElem? (i := 49) rfl)) m.kp
  exact ⟨_, fd, ⟨m.at_, m.fn⟩, F⟩
theorem dd_Ceil_str (X : K.In h) (G : h.Ns mainGlobals mg) (c : SaysK fn tf exA h K) : Dd K (CsK K 3) "__str__" "Ceil.__str__" (inClass (top 35) 6) := by
  obtain ⟨h0, h1, h2, h3, h4, h5, h6, h7, h8, h9, h10, h11, h12, h13, h14, h15⟩ := ex_all (exA_ex c.more)
  have m := meth_ok (allAt h4 17 rfl)
  obtain ⟨fd, F⟩ := fun_of (c.defs ⟨mA "Ceil" "__str__", "__str__", "Ceil.__str__", inClass (htop 35) 6⟩ (List.mem_of_getElem? (i := 50) rfl)) m.kp
  exact ⟨_, fd, ⟨m.at_, m.fn⟩, F⟩
theorem dd_Ceil_repr (X : K.In h) (G : h.Ns mainGlobals mg) (c : SaysK fn tf exA h K) : Dd K (CsK K 3) "__repr__" "Ceil.__repr__" (inClass (top 35) 7) := by
  obtain ⟨h0, h1, h2, h3, h4, h5, h6, h7, h8, h9, h10, h11, h12, h13, h14, h15⟩ := ex_all (exA_ex c.more)
  have m := meth_ok (allAt h4 18 rfl)
  obtain ⟨fd, F⟩ := fun_of (c.defs ⟨mA "Ceil" "__repr__", "__repr__", "Ceil.__repr__", inClass (htop 35) 7⟩ (List.mem_of_getElem? (i := 51) rfl)) m.kp
  exact ⟨_, fd, ⟨m.at_, m.fn⟩, F⟩
theorem dd_RowTime_eq (X : K.In h) (G : h.Ns mainGlobals mg) (c : SaysK fn tf exA h K) : Dd K (CsK K 4) "__eq__" "RowTime.__eq__" (inClass (top 36) 5) := by
  obtain ⟨h0, h1, h2, h3, h4, h5, h6, h7, h8, h9, h10, h11, h12, h13, h14, h15⟩ := ex_all (exA_ex c.more)
  have m := meth_ok (allAt h5 3 rfl)
  obtain ⟨fd, F⟩ := fun_of (c.defs ⟨mA "RowTime" "__eq__", "__eq__", "RowTime.__eq__", inClass (htop 36) 5⟩ (List.mem_of_getElem? (i := 53) rfl)) m.kp
  exact ⟨_, fd, ⟨m.at_, m.fn⟩, F⟩
theorem dd_RowTime_str (X : K.In h) (G : h.Ns mainGlobals mg) (c : SaysK fn tf exA h K) : Dd K (CsK K 4) "__str__" "RowTime.__str__" (inClass (top 36) 6) := by
  obtain ⟨h0, h1, h2, h3, h4, h5, h6, h7, h8, h9, h10, h11, h12, h13, h14, h15⟩ := ex_all (exA_ex c.more)
  have m := meth_ok (allAt h5 4 rfl)
  obtain ⟨fd, F⟩ := fun_of (c.defs ⟨mA "RowTime" "__str__", "__str__", "RowTime.__str__", inClass (htop 36) 6⟩ (List.mem_of_getElem? (i := 54) rfl)) m.kp
  exact ⟨_, fd, ⟨m.at_, m.fn⟩, F⟩
theorem dd_RowTime_repr (X : K.In h) (G : h.Ns mainGlobals mg) (c : SaysK fn tf exA h K) : Dd K (CsK K 4) "__repr__" "RowTime.__repr__" (inClass (top 36) 7) := by
  obtain ⟨h0, h1, h2, h3, h4, h5, h6, h7, h8, h9, h10, h11, h12, h13, h14, h15⟩ := ex_all (exA_ex c.more)
  have m := meth_ok (allAt h5 5 rfl)
  obtain ⟨fd, F⟩ := fun_of (c.defs ⟨mA "RowTime" "__repr__", "__repr__", "RowTime.__repr__", inClass (htop 36) 7⟩ (List.mem_of_getElem? (i := 55) rfl)) m.kp
  exact ⟨_, fd, ⟨m.at_, m.fn⟩, F⟩
theorem dd_Before_eq (X : K.In h) (G : h.Ns mainGlobals mg) (c : SaysK fn tf exA h K) : Dd K (CsK K 5) "__eq__" "Before.__eq__" (inClass (top 37) 3) := by
  obtain ⟨h0, h1, h2, h3, h4, h5, h6, h7, h8, h9, h10, h11, h12, h13, h14, h15⟩ := ex_all (exA_ex c.more)
  have m := meth_ok (allAt h5 21 rfl)
  obtain ⟨fd, F⟩ := fun_of (c.defs ⟨mA "Before" "__eq__", "__eq__", "Before.__eq__", inClass (htop 37) 3⟩ (List.mem_of_getElem? (i := 58) rfl)) m.kp
  exact ⟨_, fd, ⟨m.at_, m.fn⟩, F⟩
theorem dd_Before_str (X : K.In h) (G : h.Ns mainGlobals mg) (c : SaysK fn tf exA h K) : Dd K (CsK K 5) "__str__" "Before.__str__" (inClass (top 37) 4) := by
  obtain ⟨h0, h1, h2, h3, h4, h5, h6, h7, h8, h9, h10, h11, h12, h13, h14, h15⟩ := ex_all (exA_ex c.more)
  have m := meth_ok (allAt h5 22 rfl)
  obtain ⟨fd, F⟩ := fun_of (c.defs ⟨mA "Before" "__str__", "__str__", "Before.__str__", inClass (htop 37) 4⟩ (List.mem_of_getElem? (i := 59) rfl)) m.kp
  exact ⟨_, fd, ⟨m.at_, m.fn⟩, F⟩
theorem dd_Before_repr (X : K.In h) (G : h.Ns mainGlobals mg) (c : SaysK fn tf exA h K) : Dd K (CsK K 5) "__repr__" "Before.__repr__" (inClass (top 37) 5) := by
  obtain ⟨h0, h1, h2, h3, h4, h5, h6, h7, h8, h9, h10, h11, h12, h13, h14, h15⟩ := ex_all (exA_ex c.more)
  have m := meth_ok (allAt h5 23 rfl)
  obtain ⟨fd, F⟩ := fun_of (c.defs ⟨mA "Before" "__repr__", "__repr__", "Before.__repr__", inClass (htop 37) 5⟩ (List.mem_of_getElem? (i := 60) rfl)) m.kp
  exact ⟨_, fd, ⟨m.at_, m.fn⟩, F⟩
theorem dd_After_eq (X : K.In h) (G : h.Ns mainGlobals mg) (c : SaysK fn tf exA h K) : Dd K (CsK K 6) "__eq__" "After.__eq__" (inClass (top 38) 3) := by
  obtain ⟨h0, h1, h2, h3, h4, h5, h6, h7, h8, h9, h10, h11, h12, h13, h14, h15⟩ := ex_all (exA_ex c.more)
  have m := meth_ok (allAt h6 8 rfl)
  obtain ⟨fd, F⟩ := fun_of (c.defs ⟨mA "After" "__eq__", "__eq__", "After.__eq__", inClass (htop 38) 3⟩ (List.mem_of_getElem? (i := 62) rfl)) m.kp
  exact ⟨_, fd, ⟨m.at_, m.fn⟩, F⟩
theorem dd_After_str (X : K.In h) (G : h.Ns mainGlobals mg) (c : SaysK fn tf exA h K) : Dd K (CsK K 6) "__str__" "After.__str__" (inClass (top 38) 4) := by
  obtain ⟨h0, h1, h2, h3, h4, h5, h6, h7, h8, h9, h10, h11, h12, h13, h14, h15⟩ := ex_all (exA_ex c.more)
  have m := meth_ok (allAt h6 9 rfl)
  obtain ⟨fd, F⟩ := fun_of (c.defs ⟨mA "After" "__str__", "__str__", "After.__str__", inClass (htop 38) 4⟩ (List.mem_of_getElem? (i := 63) rfl)) m.kp
  exact ⟨_, fd, ⟨m.at_, m.fn⟩, F⟩
theorem dd_After_repr (X : K.In h) (G : h.Ns mainGlobals mg) (c : SaysK fn tf exA h K) : Dd K (CsK K 6) "__repr__" "After.__repr__" (inClass (top 38) 5) := by
  obtain ⟨h0, h1, h2, h3, h4, h5, h6, h7, h8, h9, h10, h11, h12, h13, h14, h15⟩ := ex_all (exA_ex c.more)
  have m := meth_ok (allAt h6 10 rfl)
  obtain ⟨fd, F⟩ := fun_of (c.defs ⟨mA "After" "__repr__", "__repr__", "After.__repr__", inClass (htop 38) 5⟩ (List.mem_of_getElem? (i := 64) rfl)) m.kp
  exact ⟨_, fd, ⟨m.at_, m.fn⟩, F⟩
theorem dd_Now_sub (X : K.In h) (G : h.Ns mainGlobals mg) (c : SaysK fn tf exA h K) : Dd K (CsK K 0) "__sub__" "Now.__sub__" (inClass (top 32) 4) := by
  obtain ⟨h0, h1, h2, h3, h4, h5, h6, h7, h8, h9, h10, h11, h12, h13, h14, h15⟩ := ex_all (exA_ex c.more)
  have m := meth_ok (allAt h2 27 rfl)
  obtain ⟨fd, F⟩ := fun_of (c.defs ⟨mA "Now" "__sub__", "__sub__", "Now.__sub__", inClass (htop 32) 4⟩ (List.mem_of_getElem? (i := 39) rfl)) m.kp
  exact ⟨_, fd, ⟨m.at_, m.fn⟩, F⟩
theorem dd_RowTime_add (X : K.In h) (G : h.Ns mainGlobals mg) (c : SaysK fn tf exA h K) : Dd K (CsK K 4) "__add__" "RowTime.__add__" (inClass (top 36) 3) := by
  obtain ⟨h0, h1, h2, h3, h4, h5, h6, h7, h8, h9, h10, h11, h12, h13, h14, h15⟩ := ex_all (exA_ex c.more)
  have m := meth_ok (allAt h5 6 rfl)
  obtain ⟨fd, F⟩ := fun_of (c.defs ⟨mA "RowTime" "__add__", "__add__", "RowTime.__add__", inClass (htop 36) 3⟩ (List.mem_of_getElem? (i := 56) rfl)) m.kp
  exact ⟨_, fd, ⟨m.at_, m.fn⟩, F⟩
theorem spcK {base : Heap} (X : K.In h) (G : h.Ns mainGlobals mg) (c : SaysK fn tf exA h K) : Spc P w K mg base (CsK K) := by
  obtain ⟨h0, h1, h2, h3, h4, h5, h6, h7, h8, h9, h10, h11, h12, h13, h14, h15⟩ := ex_all (exA_ex c.more)
  have T := tmK X G c
  have B := nbK X G c
  exact ⟨all7 (q_str0 T B (dd_Now_str X G c)) (q_str1 T B (dd_Shift_str X G c)) (q_str2 T B (dd_Floor_str X G c)) (q_str3 T B (dd_Ceil_str X G c)) (q_str4 T B (dd_RowTime_str X G c)) (q_str5 T B (dd_Before_str X G c)) (q_str6 T B (dd_After_str X G c)), all7 (q_repr0 T (dd_Now_repr X G c)) (q_repr1 T (dd_Shift_repr X G c)) (q_repr2 T (dd_Floor_repr X G c)) (q_repr3 T (dd_Ceil_repr X G c)) (q_repr4 T (dd_RowTime_repr X G c)) (q_repr5 T (dd_Before_repr X G c)) (q_repr6 T (dd_After_repr X G c)), all7 (q_eq0 T B (glo_ok X G (allAt h2 10 rfl)) (dd_Now_eq X G c)) (q_eq1 T B (glo_ok X G (allAt h2 28 rfl)) (dd_Shift_eq X G c)) (q_eq2 T B (glo_ok X G (allAt h3 15 rfl)) (dd_Floor_eq X G c)) (q_eq3 T B (glo_ok X G (allAt h4 2 rfl)) (dd_Ceil_eq X G c)) (q_eq4 T B (glo_ok X G (allAt h4 19 rfl)) (dd_RowTime_eq X G c)) (q_eq5 T B (glo_ok X G (allAt h5 7 rfl)) (dd_Before_eq X G c)) (q_eq6 T B (glo_ok X G (allAt h5 24 rfl)) (dd_After_eq X G c)), all7 (noat_ok (allAt h7 19 rfl)) (noat_ok (allAt h8 14 rfl)) (noat_ok (allAt h9 9 rfl)) (noat_ok (allAt h10 4 rfl)) (noat_ok (allAt h10 29 rfl)) (noat_ok (allAt h11 24 rfl)) (noat_ok (allAt h12 19 rfl)), all7 (noat_ok (allAt h7 20 rfl)) (noat_ok (allAt h8 15 rfl)) (noat_ok (allAt h9 10 rfl)) (noat_ok (allAt h10 5 rfl)) (noat_ok (allAt h11 0 rfl)) (noat_ok (allAt h11 25 rfl)) (noat_ok (allAt h12 20 rfl)), all7 (eqO_ok (allAt h7 21 rfl)) (eqO_ok (allAt h8 16 rfl)) (eqO_ok (allAt h9 11 rfl)) (eqO_ok (allAt h10 6 rfl)) (eqO_ok (allAt h11 1 rfl)) (eqO_ok (allAt h11 26 rfl)) (eqO_ok (allAt h12 21 rfl)), all7 (of_decide_eq_true (allAt h7 23 rfl)) (of_decide_eq_true (allAt h8 18 rfl)) (of_decide_eq_true (allAt h9 13 rfl)) (of_decide_eq_true (allAt h10 8 rfl)) (of_decide_eq_true (allAt h11 3 rfl)) (of_decide_eq_true (allAt h11 28 rfl)) (of_decide_eq_true (allAt h12 23 rfl)), all7 ((allAt h7 16 rfl)) ((allAt h8 11 rfl)) ((allAt h9 6 rfl)) ((allAt h10 1 rfl)) ((allAt h10 26 rfl)) ((allAt h11 21 rfl)) ((allAt h12 16 rfl)), all7 ((allAt h7 18 rfl)) ((allAt h8 13 rfl)) ((allAt h9 8 rfl)) ((allAt h10 3 rfl)) ((allAt h10 28 rfl)) ((allAt h11 23 rfl)) ((allAt h12 18 rfl)), all7 (of_decide_eq_true (allAt h7 15 rfl)) (of_decide_eq_true (allAt h8 10 rfl)) (of_decide_eq_true (allAt h9 5 rfl)) (of_decide_eq_true (allAt h10 0 rfl)) (of_decide_eq_true (allAt h10 25 rfl)) (of_decide_eq_true (allAt h11 20 rfl)) (of_decide_eq_true (allAt h12 15 rfl)), all7 (of_decide_eq_true (allAt h7 17 rfl)) (of_decide_eq_true (allAt h8 12 rfl)) (of_decide_eq_true (allAt h9 7 rfl)) (of_decide_eq_true (allAt h10 2 rfl)) (of_decide_eq_true (allAt h10 27 rfl)) (of_decide_eq_true (allAt h11 22 rfl)) (of_decide_eq_true (allAt h12 17 rfl))⟩
theorem obS {base : Heap} (X : K.In h) (G : h.Ns mainGlobals mg) (c : SaysK fn tf exA h K) (d : Du P w K mg base (L2N.CX P w) 6 (CsK K 0) "__sub__" (spAdd K (CsK K) (erK K) fun n => -n)) : Ob P w K mg base 6 (CsK K 0) .Sub (spAdd K (CsK K) (erK K) fun n => -n) := by
  obtain ⟨h0, h1, h2, h3, h4, h5, h6, h7, h8, h9, h10, h11, h12, h13, h14, h15⟩ := ex_all (exA_ex c.more)
  obtain ⟨f, d, F⟩ := d.ex
  have e1 : PySem.dunder Operator.Sub.info.2 = ("__sub__" : Str) := by decide +kernel
  exact ⟨f, ⟨(allAt h15 3 rfl), by rw [e1]; exact d.at_, d.fn, eqO_ok (allAt h15 4 rfl), Option.isSome_iff_exists.mp (allAt h15 5 rfl), Option.isSome_iff_exists.mp (allAt h15 6 rfl), of_decide_eq_true (allAt h15 7 rfl)⟩, F⟩
theorem obA {base : Heap} (X : K.In h) (G : h.Ns mainGlobals mg) (c : SaysK fn tf exA h K) (d : Du P w K mg base (L2N.CX P w) 5 (CsK K 4) "__add__" (spAdd K (CsK K) (erK K) fun n => n)) : Ob P w K mg base 5 (CsK K 4) .Add (spAdd K (CsK K) (erK K) fun n => n) := by
  obtain ⟨h0, h1, h2, h3, h4, h5, h6, h7, h8, h9, h10, h11, h12, h13, h14, h15⟩ := ex_all (exA_ex c.more)
  obtain ⟨f, d, F⟩ := d.ex
  have e1 : PySem.dunder Operator.Add.info.2 = ("__add__" : Str) := by decide +kernel
  exact ⟨f, ⟨(allAt h15 8 rfl), by rw [e1]; exact d.at_, d.fn, eqO_ok (allAt h15 9 rfl), Option.isSome_iff_exists.mp (allAt h15 10 rfl), Option.isSome_iff_exists.mp (allAt h15 11 rfl), of_decide_eq_true (allAt h15 12 rfl)⟩, F⟩
theorem lawK {base : Heap} {fl : Addr} {fd : FuncData} (F : Fun K "law" "law" (top 60) fl fd) (X : K.In h) (G : h.Ns mainGlobals mg) (c : SaysK fn tf exA h K) : FnG P w K mg base 26 fl fd ["_law_script"] (spLaw K) := by
  obtain ⟨h0, h1, h2, h3, h4, h5, h6, h7, h8, h9, h10, h11, h12, h13, h14, h15⟩ := ex_all (exA_ex c.more)
  have T := tmK X G c
  have B := nbK X G c
  have gl := glK X G c
  have er := erN X G c
  have SP : Spc P w K mg base (CsK K) := spcK X G c
  obtain ⟨mt, mM⟩ := int_ok X G (allAt h6 28 rfl)
  have cI : Cl P w K mg base CX0 1 "is_integer" ["value"] (spInteger K) := c_is_integer (df_is_integer X G c) B
  have cN : Cl P w K mg base CX0 2 "is_name" ["value"] (spIsName K) := c_is_name (df_is_name X G c) B (df__is_letter X G c) (df__is_digit X G c) mM
  have cIt : Cl P w K mg base CX0 1 "integer_text" ["number"] spIt := c_it (df_integer_text X G c) B
  have cCN := c_ckname (P := P) (w := w) (base := base) (df_check_name X G c) er cN
  have cCT := c_cktime (P := P) (w := w) (base := base) (df_check_reader_time X G c) B er gl
  have cCL := c_cklook (P := P) (w := w) (base := base) (df_check_look X G c) B er gl
  have cCD := c_ckdepth (P := P) (w := w) (base := base) (df__check_depth X G c) er gl
  have cCS := c_ckshift (P := P) (w := w) (base := base) (df__check_shift X G c) B er gl cI
  have cO2 : Cl P w K mg base CX0 1 "in_order" ["things"] (spInOrder (CsK K) 2 4) := c_order T (df_in_order X G c) B
  have cO5 : Cl P w K mg base CX0 1 "in_order" ["things"] (spInOrder (CsK K) 5 7) := c_order T (df_in_order X G c) B
  have cP := c_ckparts (P := P) (w := w) (base := base) (df__check_look_parts X G c) B er gl cI cCN cCT
  have cLT := c_lktext (P := P) (w := w) (base := base) T (df__look_text X G c) cIt
  have i0 := i_now (P := P) (w := w) (base := base) T (di_Now X G c)
  have i1 := i_shift (P := P) (w := w) (base := base) T (di_Shift X G c) cIt cCT cCS cCD
  have i2 := i_floor (P := P) (w := w) (base := base) T (di_Floor X G c) cCT cO2 cCD
  have i3 := i_ceil (P := P) (w := w) (base := base) T (di_Ceil X G c) cCT cO2 cCD
  have i4 := i_row (P := P) (w := w) (base := base) T (di_RowTime X G c) cCL cCD
  obtain ⟨d5, dB⟩ := dk_Before X G c
  obtain ⟨d6, dA⟩ := dk_After X G c
  have fB := i_before (P := P) (w := w) (base := base) T dB.fn cP cLT cO5
  have fA := i_after (P := P) (w := w) (base := base) T dA.fn cP cLT cO5
  have cSB := c_shback (P := P) (w := w) (base := base) T (df__shifted_back X G c) cCS i1
  have oS := obS X G c (q_sub0 (dd_Now_sub X G c) cSB)
  have oA := obA X G c (q_add4 T (dd_RowTime_add X G c) i1)
  have cS := c_said (P := P) (w := w) (base := base) (df__law_said X G c) B
  have cD := c_deep (P := P) (w := w) (base := base) (df__law_deep X G c) B
  have cIn := c_inside (P := P) (w := w) (base := base) (df__law_inside X G c) B cS
  have cNu := c_number (P := P) (w := w) (base := base) (df__law_number X G c) B
  have cSo := c_source (P := P) (w := w) (base := base) (df__law_source X G c) B
  have cPi := c_pick (P := P) (w := w) (base := base) (df__law_pick X G c) B
  have cOn := c_one (P := P) (w := w) (base := base) (df__law_one X G c) B (df__law_pick X G c)
  have cTg := c_tags (P := P) (w := w) (base := base) (df__law_tags X G c) B (df__law_pick X G c) (df__law_one X G c) (df__law_tag X G c)
  have cM := c_moment (df__law_moment X G c) B cOn cPi cD
  have cPk := c_peek (df__law_peek X G c) B cOn cPi cM
  have cPl := c_pool (df__law_pool X G c) B cOn cPi cM cD cPk
  obtain ⟨cTm, cLm⟩ := c_tmade T (df__law_time_made X G c) (df__law_look_made X G c) B i0 i1 i2 i3 i4 dB dA fB fA 16
  have cMd := c_made (df__law_made X G c) B cTm cLm
  have cSh := c_shown (P := P) (w := w) (base := base) T SP (df__law_shown X G c) B
  have cDu := c_due (df__law_due X G c) B (cS 16) (cD 16) (cIn 16)
  have cPr := c_peekr T SP (df__law_peek_right X G c) B (cS 16) cTm cLm
  have cR := c_right T SP (df__law_right X G c) B cOn cTg cM cPl cMd cSh cDu (cS 16) cPr
  have cH := c_hand T SP (df__law_by_hand X G c) B i0 i1 i2 i3 i4 dB dA fB fA oS oA
  exact c_law F B cNu cSo cR cH
end
end K04


namespace K04
open PySem PySem.Spec PyProof.Rows L2 Rng Bag Gd Cal Tm He HdX
theorem law_end (w : World) (mg : PySem.Str → Option Value) (fa : Addr) (h : Heap) (Y : hk.says w h) (G : h.Ns mainGlobals mg) (m : mg ("law" : PySem.Str) = some (.ref fa)) :
    ∃ (K : PySem.W.Frag) (sp : Sp) (fd : FuncData) (ts : List (Addr × Addr)), K.In h ∧ LawK PySem.Challenge.rw_latestrows_k04_times_and_looks_made w K 26 63 "_law_script" mg fa h sp fd ts := by
  obtain ⟨K, X, c⟩ := Y
  obtain ⟨f, fd, m2, F⟩ := (df_law X G c).ex
  have e : f = fa := by
    rw [m2] at m
    cases m
    rfl
  subst e
  refine ⟨K, spLaw K, fd, [], X, ⟨fun _ z => (nomatch z), fun _ z => (nomatch z), fun _ z => (nomatch z), fun s u => ?_, fun H a ns hl _ hS => ⟨a, ns, rfl, hS, hl, fun _ => rfl⟩, fun base _ _ _ => lawK F X G c⟩⟩
  obtain ⟨oc, od, kV, doc, pm, an, cdv, ct, osl, rfl, lk, hcd⟩ := F.ex
  exact .of_eq rfl
end K04
open PySem PySem.W PySem.Calls PyProof.Rows
theorem PySem.Challenge.cw_latestrows_k04_times_and_looks_made_holds : PySem.Challenge.rw_latestrows_k04_times_and_looks_made.Holds := by
  w_on; o_law
  refine HandSHeadRun.head_any (r := OpenLaw.row PySem.Challenge.rw_latestrows_k04_times_and_looks_made) (q := view (OpenLaw.row PySem.Challenge.rw_latestrows_k04_times_and_looks_made).prog [60]) (H := K04.hk) (ob := K04.ob) (M := 60000) (loose := K04.loose) (d := HandSHeadRun.topDef (OpenLaw.row PySem.Challenge.rw_latestrows_k04_times_and_looks_made).prog 60) (kwd := []) K04.ob_eq
    (by kernel_rfl) (fun s => by kernel_rfl) K04.run (by kernel_rfl) (by kernel_rfl) (by kernel_rfl) (by rfl) (by first | assumption | decide +kernel) (by decide +kernel) ⟨rfl, rfl, rfl, rfl, rfl, by decide +kernel⟩ ?hw ?hc
  case hw => w_witness2
  case hc =>
    refine HdX.walk_tabsK (l := PySem.Challenge.rw_latestrows_k04_times_and_looks_made) (n := 63) (k := 26) (x := "_law_script") rfl (by decide) (by kernel_rfl) ⟨rfl, by decide, by decide⟩ ?F
    intro w mg fa h Y G hmg0
    have hmg : mg ("law" : PySem.Str) = some (.ref fa) := by
      have e : (HandSHeadRun.topDef (OpenLaw.row PySem.Challenge.rw_latestrows_k04_times_and_looks_made).prog 60).name = ("law" : PySem.Str) := by kernel_rfl
      rw [← e]
      exact hmg0
    exact K04.law_end w mg fa h Y G hmg


